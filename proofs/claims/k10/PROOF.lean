import PyProof.Rows.All
import Wide.All
import OpenK.AllK
import Wide.FinOn
import OpenK.KMore
import OpenK.KMake
import OpenK.KDescr
import OpenK.KOwn
import KE.KIsAll
import KE.KItem
import KE.KxBytes
import PyProof.EqAt
import PyProof.EqKinds
import PyProof.TupleCall
import PyProof.StrLawsIdx
import PyProof.StrBlock2
import PyProof.StrBlockL
import PyProof.StrLawsJoin
import PyProof.StrLawsIn
import PyProof.Rows.StrCase
import PyProof.Rows.StrAscii
import PyProof.ExcClass3
import PyProof.StationsW
import PyProof.InstSpecial
import OpenK.KCls
import PyProof.ExcArgs
import KE.KIsNot
import PyProof.CompUse
import PyProof.NsDelKeeps
import Lean
import PySem.Challenge.RW_elderhouse_k10_words
set_option Elab.async false
set_option linter.all false
section
set_option Elab.async false
set_option linter.all false
set_option maxRecDepth 100000
/-! THE HAND LAYER, for ints, bools, texts, own classes, LISTS and tuples (index, slices, in, append, pop ..), calls, loops. Paste it whole ahead of your own text; what your proof does not reach may be deleted. -/
namespace L2
open PySem PySem.Spec PyProof.Rows

/-- a key: an int or a str -/
abbrev Key := Sum Int Str
def keyIs : Key → Value → Bool
  | .inl k, v => Value.isInt k v
  | .inr x, v => Value.isStrOf x v
def keyH (w : World) : Key → Int
  | .inl k => hashInt k
  | .inr x => hashStr w x
theorem keyIs_shape : ∀ {k : Key} {v : Value}, keyIs k v = true → (∃ i t, k = Sum.inl i ∧ v = Value.int i t) ∨ (∃ x t, k = Sum.inr x ∧ v = Value.str x t)
  | .inl i, v, h => by
    obtain ⟨t, e⟩ := Value.isInt_shape (k := i) (v := v) h
    exact .inl ⟨i, t, rfl, e⟩
  | .inr x, v, h => by
    obtain ⟨t, e⟩ := Value.isStrOf_shape (x := x) (v := v) h
    exact .inr ⟨x, t, rfl, e⟩
theorem keyIs_int (i : Int) (t : Tok) : keyIs (.inl i) (.int i t) = true := by simp [keyIs, Value.isInt]
theorem keyIs_str (x : Str) (t : Tok) : keyIs (.inr x) (.str x t) = true := by simp [keyIs, Value.isStrOf]
theorem key_ll (a b : Int) : decide ((Sum.inl a : Key) = Sum.inl b) = (a == b) := by
  by_cases e : a = b
  · subst e; simp
  · have h : ¬ (Sum.inl a : Key) = Sum.inl b := fun q => e (Sum.inl.inj q)
    rw [decide_eq_false h]
    exact (beq_eq_false_iff_ne.mpr e).symm
theorem key_rr (a b : Str) : decide ((Sum.inr a : Key) = Sum.inr b) = decide (a = b) := by
  by_cases e : a = b
  · subst e; simp
  · have h : ¬ (Sum.inr a : Key) = Sum.inr b := fun q => e (Sum.inr.inj q)
    rw [decide_eq_false h, decide_eq_false e]
theorem key_lr (a : Int) (b : Str) : decide ((Sum.inl a : Key) = Sum.inr b) = false := decide_eq_false (fun q => nomatch q)
theorem key_rl (a : Str) (b : Int) : decide ((Sum.inr a : Key) = Sum.inl b) = false := decide_eq_false (fun q => nomatch q)

def mixKind (prog : Program) (w : World) : PySem.KeyKind prog w Key where
  is := keyIs
  hash := keyH w
  inj := fun v a b ha hb => by
    rcases keyIs_shape ha with ⟨i, t, rfl, rfl⟩ | ⟨x, t, rfl, rfl⟩
    · rcases keyIs_shape hb with ⟨j, u, rfl, e⟩ | ⟨y, u, rfl, e⟩
      · injection e with e1 _; rw [e1]
      · exact nomatch e
    · rcases keyIs_shape hb with ⟨j, u, rfl, e⟩ | ⟨y, u, rfl, e⟩
      · exact nomatch e
      · injection e with e1 _; rw [e1]
  byValue := fun k v h => by
    rcases keyIs_shape h with ⟨i, t, rfl, rfl⟩ | ⟨x, t, rfl, rfl⟩ <;> rfl
  pyHash := fun hv h => by
    rcases keyIs_shape hv with ⟨i, t, rfl, rfl⟩ | ⟨x, t, rfl, rfl⟩
    · exact wpAny_pyHash_int h
    · exact wpAny_pyHash_str h
  eqBool := fun hu hv h => by
    rcases keyIs_shape hu with ⟨i, t, rfl, rfl⟩ | ⟨x, t, rfl, rfl⟩
    · rcases keyIs_shape hv with ⟨j, u, rfl, rfl⟩ | ⟨y, u, rfl, rfl⟩
      · rw [key_ll] at h; exact wpAny_eqBool_int h
      · rw [key_lr] at h; exact SeqAt.EqAt.int_str i t y u _ _ _ _ h
    · rcases keyIs_shape hv with ⟨j, u, rfl, rfl⟩ | ⟨y, u, rfl, rfl⟩
      · rw [key_rl] at h; exact SeqAt.EqAt.str_int x t j u _ _ _ _ h
      · rw [key_rr] at h; exact wpAny_eqBool_str h
  «strs» := fun k x t v h => by
    rcases keyIs_shape h with ⟨i, u, rfl, e⟩ | ⟨y, u, rfl, e⟩
    · exact nomatch e
    · injection e with e1 _
      subst e1
      cases v <;> rfl

theorem mixKind_is (prog : Program) (w : World) (k : Key) (v : Value) : (mixKind prog w).is k v = keyIs k v := rfl
theorem mixKind_int (prog : Program) (w : World) (i : Int) (t : Tok) : (mixKind prog w).is (.inl i) (.int i t) = true := keyIs_int i t
theorem mixKind_str (prog : Program) (w : World) (x : Str) (t : Tok) : (mixKind prog w).is (.inr x) (.str x t) = true := keyIs_str x t
end L2

namespace L2
open PySem PySem.Spec PyProof.Rows

/-- a value, without the heap -/
inductive V where
  | non | bl (b : Bool) | int (i : Int) | str (x : Str) | byt (b : Array UInt8) | flt (b : UInt64) | ref (a : Addr) | ty (n : String)
  deriving DecidableEq

def RelV : V → Value → Prop
  | .non, u => u = Value.none
  | .bl b, u => u = Value.bool b
  | .int i, u => ∃ t, u = Value.int i t
  | .str x, u => ∃ t, u = Value.str x t
  | .byt b, u => ∃ t, u = Value.bytes b t
  | .flt b, u => ∃ t, u = Value.float b t
  | .ref a, u => u = Value.ref a
  | .ty n, u => u = Value.type n

abbrev Vals : List V → List Value → Prop := Paired RelV
theorem Vals.length {xs : List V} {us : List Value} (r : Vals xs us) : xs.length = us.length := Paired.length r
theorem Vals.get : ∀ {xs : List V} {us : List Value} {i : Nat} {x : V}, Vals xs us → xs[i]? = some x → ∃ u, us[i]? = some u ∧ RelV x u
  | _, _, _, _, .nil, e => by simp at e
  | _, _, 0, _, .cons r _, e => by simp at e; subst e; exact ⟨_, rfl, r⟩
  | _, _, i + 1, x, .cons _ t, e => by
    obtain ⟨u, h1, h2⟩ := Vals.get (i := i) (x := x) t (by simpa using e)
    exact ⟨u, by simpa using h1, h2⟩
theorem Vals.set {x : V} {u : Value} (r : RelV x u) : ∀ {xs : List V} {us : List Value} (i : Nat), Vals xs us → Vals (xs.set i x) (us.set i u)
  | _, _, _, .nil => .nil
  | _, _, 0, .cons _ t => .cons r t
  | _, _, i + 1, .cons q t => .cons q (Vals.set r i t)
theorem Vals.append : ∀ {xs ys : List V} {us ws : List Value}, Vals xs us → Vals ys ws → Vals (xs ++ ys) (us ++ ws)
  | _, _, _, _, .nil, s => s
  | _, _, _, _, .cons r t, s => .cons r (Vals.append t s)
theorem Vals.take : ∀ {xs : List V} {us : List Value} (n : Nat), Vals xs us → Vals (xs.take n) (us.take n)
  | _, _, 0, _ => .nil
  | _, _, _ + 1, .nil => .nil
  | _, _, n + 1, .cons r t => .cons r (Vals.take n t)
theorem Vals.drop : ∀ {xs : List V} {us : List Value} (n : Nat), Vals xs us → Vals (xs.drop n) (us.drop n)
  | _, _, 0, r => r
  | _, _, _ + 1, .nil => .nil
  | _, _, n + 1, .cons _ t => Vals.drop n t
theorem Vals.none_of : ∀ {xs : List V} {us : List Value} {i : Nat}, Vals xs us → xs[i]? = none → us[i]? = none := fun {xs us i} r e => by
  have h1 := r.length
  have h2 : xs.length ≤ i := List.getElem?_eq_none_iff.mp e
  exact List.getElem?_eq_none_iff.mpr (by omega)

def RelO : Option V → Option Value → Prop
  | some v, some u => RelV v u
  | none, none => True
  | _, _ => False
def KV {κ : Type} : List (κ × V) → List (κ × Value) → Prop := Paired fun (p : κ × V) (q : κ × Value) => p.1 = q.1 ∧ RelV p.2 q.2

/-- a key of a dict (00_mix): an int or a text -/
def kV : Key → V
  | .inl i => .int i
  | .inr x => .str x

/-- what stands at a tracked address -/
inductive HO where
  /-- a list -/
  | lst (xs : List V)
  /-- a tuple (never changes) -/
  | tup (xs : List V)
  /-- a dict whose keys are ints and texts; one whose keys are tuples of ints and texts (the empty one is both) -/
  | dK (kvs : List (Key × V)) | dT (kvs : List (List Key × V))
  /-- a set of ints: its members, its size -/
  | set (S : Int → Bool) (n : Nat)
  /-- an instance of the class at C, its dict at dx, its attributes -/
  | ins (C dx : Addr) (fs : List (Str × V))
  /-- the dict of the instance at x -/
  | own (x : Addr)
  /-- the dict of an exception -/
  | xd (fs : List (Str × V))
  /-- a bound method, f of x -/
  | met (f x : Addr)
  /-- a range object lo, lo + 1, .. below hi -/
  | rng (lo hi : Int)
  /-- a thing that is known to the object (the script; a dict while a loop walks it): read, never written while it is so -/
  | frz (o : Obj) (u : HO)
  /-- a code object's table -/
  | tbl (ps : Array Value)
  /-- any other thing, by what is true of its one object (a def of one's own: SetO a S n := HO.ext fun h => ..) -/
  | ext (φ : Heap → Prop)

abbrev Hp := Addr → Option HO
def upd (H : Hp) (a : Addr) (o : HO) : Hp := fun b => if b = a then some o else H b
theorem upd_same {H : Hp} {a : Addr} {o : HO} : upd H a o a = some o := by unfold upd; rw [if_pos rfl]
theorem upd_ne {H : Hp} {a b : Addr} {o : HO} (h : b ≠ a) : upd H a o b = H b := by unfold upd; rw [if_neg h]
theorem upd_upd {H : Hp} {a : Addr} {o u : HO} : upd (upd H a o) a u = upd H a u := by
  funext b; unfold upd; split <;> rfl
/-- two objects of different content stand apart -/
theorem ne_of {H : Hp} {a b : Addr} {o u : HO} (h : H a = some o) (h' : H b = some u) (d : o ≠ u) : a ≠ b := by
  intro e; subst e; rw [h] at h'; exact d (Option.some.inj h')
theorem ne_of_none {H : Hp} {a b : Addr} {o : HO} (h : H a = some o) (h' : H b = none) : a ≠ b := by
  intro e; subst e; rw [h] at h'; cases h'

section
variable (P : Program) (w : World)
def ObjOk (H : Hp) (h : Heap) (a : Addr) : HO → Prop
  | .lst xs => xs.length ≤ sizeLine ∧ ∃ (its : List Value) (n : Nat), Vals xs its ∧ h.get? a = some { cls := .type "list", data := .seq its.toArray n }
  | .tup xs => xs.length ≤ sizeLine ∧ ∃ its : List Value, Vals xs its ∧ IsTup h a its.toArray
  | .dK kvs => kvs.length ≤ sizeLine ∧ (a == sysModules) = false ∧ ∃ vs, KV kvs vs ∧ h.DictOf (mixKind P w) a vs
  | .dT kvs => kvs.length ≤ sizeLine ∧ (a == sysModules) = false ∧ ∃ xs : List (List Key × Addr × Value),
      Paired (fun (p : List Key × V) (q : List Key × Addr × Value) => p.1 = q.1 ∧ H q.2.1 = some (.tup (p.1.map kV)) ∧ RelV p.2 q.2.2) kvs xs ∧
      ∃ o es ep, h.get? a = some o ∧ o.ExactDict ∧ o.data = .dict es ep ∧ es.toList = xs.map (entryOfKey (tupleKind (mixKind P w))) ∧ (xs.map (·.1)).Nodup
  | .set S n => h.SetOf (intKind P w) a S n
  | .ins C dx fs => H dx = some (.own a) ∧ fs.length ≤ 1000 ∧ dx ≠ a ∧ h.get? a = some (PySem.W.instObj C dx) ∧
      ∃ mA, h.Ns1 dx mA ∧ (∀ f, RelO (fs.lookup f) (mA f)) ∧ PySem.Within mA (fs.map (·.1))
  | .own _ => ∃ o, h.get? a = some o
  | .xd fs => ∃ mA, h.Ns1 a mA ∧ ∀ f, RelO (fs.lookup f) (mA f)
  | .rng lo hi => ∃ t u v, h.get? a = some { cls := .type "range", data := .fields #[.int lo t, .int hi u, .int 1 v] }
  | .frz o u => h.get? a = some o ∧ ObjOk H h a u
  | .tbl ps => h.get? a = some { cls := .none, data := .fields ps }
  | .met f x => h.get? a = some (PySem.W.methodObj (.ref f) (.ref x))
  | .ext φ => φ h ∧ (∃ o, h.get? a = some o) ∧ ∀ h1 h2 : Heap, φ h1 → (∀ o, h1.get? a = some o → h2.get? a = some o) → φ h2
/-- the abstract heap is held -/
def HOk (H : Hp) (h : Heap) : Prop := ∀ a o, H a = some o → ObjOk P w H h a o
end

section
variable {P : Program} {w : World} {H H' : Hp} {h h' : Heap} {a : Addr} {o : HO}
theorem ObjOk.lt (x : ObjOk P w H h a o) : a < h.objs.size := by
  cases o with
  | lst xs => obtain ⟨_, _, _, _, e⟩ := x; exact Heap.lt_size e
  | tup xs => obtain ⟨_, _, _, p⟩ := x; exact p.lt
  | dK kvs => obtain ⟨_, _, _, _, o, _, _, e, _⟩ := x; exact Heap.lt_size e
  | dT kvs => obtain ⟨_, _, _, _, o, _, _, e, _⟩ := x; exact Heap.lt_size e
  | set S n => obtain ⟨o, _, _, _, e, _⟩ := x; exact Heap.lt_size e
  | ins C dx fs => obtain ⟨_, _, _, e, _⟩ := x; exact Heap.lt_size e
  | own y => obtain ⟨_, e⟩ := x; exact Heap.lt_size e
  | xd fs => obtain ⟨_, ⟨_, _, _, e, _⟩, _⟩ := x; exact Heap.lt_size e
  | rng lo hi => obtain ⟨_, _, _, e⟩ := x; exact Heap.lt_size e
  | frz ob u => obtain ⟨e, _⟩ := x; exact Heap.lt_size e
  | tbl ps => exact Heap.lt_size (show h.get? a = some _ from x)
  | met f y => exact Heap.lt_size (show h.get? a = some _ from x)
  | ext φ => obtain ⟨_, ⟨_, e⟩, _⟩ := x; exact Heap.lt_size e
theorem Paired.mapP {α β : Type} {F G : α → β → Prop} : ∀ {l₁ : List α} {l₂ : List β}, Paired F l₁ l₂ → (∀ a b, F a b → G a b) → Paired G l₁ l₂
  | _, _, .nil, _ => .nil
  | _, _, .cons r t, f => .cons (f _ _ r) (Paired.mapP t f)
theorem Paired.imp' {α β : Type} {F G : α → β → Prop} (f : ∀ a b, F a b → G a b) {l₁ : List α} {l₂ : List β} (r : Paired F l₁ l₂) : Paired G l₁ l₂ := Paired.mapP r f
/-- what an object's description leans on: its own object, its own dict, the tuples -/
theorem ObjOk.stay (x : ObjOk P w H h a o) (k : ∀ b u, (b = a ∨ H b = some (.own a)) → h.get? b = some u → h'.get? b = some u)
    (ho : ∀ b, H b = some (.own a) → H' b = some (.own a)) (ht : ∀ b xs, H b = some (.tup xs) → H' b = some (.tup xs)) : ObjOk P w H' h' a o := by
  induction o with
  | lst xs => obtain ⟨z, its, n, r, e⟩ := x; exact ⟨z, its, n, r, k _ _ (.inl rfl) e⟩
  | tup xs => obtain ⟨z, its, r, ob, e, c⟩ := x; exact ⟨z, its, r, ob, k _ _ (.inl rfl) e, c⟩
  | dK kvs => obtain ⟨z, y, vs, r, ob, es, ep, e, c⟩ := x; exact ⟨z, y, vs, r, ob, es, ep, k _ _ (.inl rfl) e, c⟩
  | dT kvs =>
    obtain ⟨z, y, xs, r, ob, es, ep, e, c⟩ := x
    exact ⟨z, y, xs, Paired.mapP r fun p q z => ⟨z.1, ht _ _ z.2.1, z.2.2⟩, ob, es, ep, k _ _ (.inl rfl) e, c⟩
  | set S n => obtain ⟨ob, es, ep, t, e, c⟩ := x; exact ⟨ob, es, ep, t, k _ _ (.inl rfl) e, c⟩
  | ins C dx fs =>
    obtain ⟨d, z, ne, e, mA, ⟨od, es, ep, e2, c⟩, r⟩ := x
    exact ⟨ho _ d, z, ne, k _ _ (.inl rfl) e, mA, ⟨od, es, ep, k _ _ (.inr d) e2, c⟩, r⟩
  | own y => obtain ⟨ob, e⟩ := x; exact ⟨ob, k _ _ (.inl rfl) e⟩
  | xd fs => obtain ⟨mA, ⟨od, es, ep, e, c⟩, r⟩ := x; exact ⟨mA, ⟨od, es, ep, k _ _ (.inl rfl) e, c⟩, r⟩
  | rng lo hi => obtain ⟨t, u, v, e⟩ := x; exact ⟨t, u, v, k _ _ (.inl rfl) e⟩
  | frz ob u ih => obtain ⟨e, q⟩ := x; exact ⟨k _ _ (.inl rfl) e, ih q⟩
  | tbl ps =>
    have e : h.get? a = some { cls := .none, data := .fields ps } := x
    show h'.get? a = some { cls := .none, data := .fields ps }
    exact k a _ (.inl rfl) e
  | met f y =>
    have e : h.get? a = some (PySem.W.methodObj (.ref f) (.ref y)) := x
    show h'.get? a = some (PySem.W.methodObj (.ref f) (.ref y))
    exact k a _ (.inl rfl) e
  | ext φ => obtain ⟨p, ⟨o, e⟩, st⟩ := x; exact ⟨st _ _ p fun o q => k _ _ (.inl rfl) q, ⟨o, k _ _ (.inl rfl) e⟩, st⟩
theorem HOk.lt (x : HOk P w H h) (e : H a = some o) : a < h.objs.size := (x a o e).lt
theorem HOk.fresh (x : HOk P w H h) (e : h.objs.size ≤ a) : H a = none := by
  cases q : H a with
  | none => rfl
  | some u => exact absurd (Nat.lt_of_lt_of_le (x.lt q) e) (Nat.lt_irrefl _)
/-- every object of the heap is kept -/
theorem HOk.kept (x : HOk P w H h) (k : ∀ b u, h.get? b = some u → h'.get? b = some u) : HOk P w H h' := fun a o e =>
  (x a o e).stay (fun b u _ q => k b u q) (fun _ q => q) fun _ _ q => q
/-- a new object is laid and tracked -/
theorem HOk.laid (x : HOk P w H h) (k : ∀ b u, h.get? b = some u → h'.get? b = some u) (hp : h.objs.size ≤ a) (new : ObjOk P w (upd H a o) h' a o) : HOk P w (upd H a o) h' := fun b u e => by
  have hn := x.fresh hp
  by_cases hb : b = a
  · subst hb; rw [upd_same] at e; cases e; exact new
  · rw [upd_ne hb] at e
    exact (x b u e).stay (fun c v _ q => k c v q) (fun c q => by rw [upd_ne (ne_of_none q hn)]; exact q) fun c xs q => by rw [upd_ne (ne_of_none q hn)]; exact q
end

/-- what may be read as u: it is u, or a known u -/
def Rd (H : Hp) (a : Addr) (u : HO) : Prop := H a = some u ∨ ∃ o, H a = some (.frz o u)
theorem Rd.of {H : Hp} {a : Addr} {u : HO} (h : H a = some u) : Rd H a u := .inl h
theorem Rd.ok {P : Program} {w : World} {H : Hp} {h : Heap} {a : Addr} {u : HO} (r : Rd H a u) (x : HOk P w H h) : ObjOk P w H h a u := by
  rcases r with r | ⟨o, r⟩
  · exact x a u r
  · obtain ⟨_, q⟩ := x a _ r
    exact q
/-- what may be written -/
def Mut : Option HO → Prop
  | some (.lst _) => True
  | some (.dK _) => True
  | some (.dT _) => True
  | some (.set _ _) => True
  | some (.ins _ _ _) => True
  | some (.ext _) => True
  | _ => False
section
variable {P : Program} {w : World} {H : Hp} {h h' : Heap} {x e : Addr} {o' : HO}
/-- the object at e is changed: x itself, or the dict of the instance x -/
theorem HOk.write (ok : HOk P w H h) (mu : Mut (H x)) (he : e = x ∨ H e = some (.own x)) (k : ∀ b u, b ≠ e → h.get? b = some u → h'.get? b = some u) (heo : ∃ u, h'.get? e = some u)
    (new : ObjOk P w (upd H x o') h' x o') : HOk P w (upd H x o') h' := fun b u q => by
  have nown : ∀ c y, H c = some (.own y) → c ≠ x := fun c y r z => by subst z; rw [r] at mu; exact mu
  have ntup : ∀ c xs, H c = some (.tup xs) → c ≠ x := fun c xs r z => by subst z; rw [r] at mu; exact mu
  by_cases hb : b = x
  · subst hb; rw [upd_same] at q; cases q; exact new
  · rw [upd_ne hb] at q
    by_cases hbe : b = e
    · have q' : H b = some (.own x) := by
        rcases he with z | z
        · exact absurd (hbe.trans z) hb
        · rw [hbe]; exact z
      rw [q] at q'; cases q'
      obtain ⟨v, hv⟩ := heo
      exact ⟨v, by rw [hbe]; exact hv⟩
    · refine (ok b u q).stay (fun c v hc r => k c v ?_ r) (fun c r => by rw [upd_ne (nown c b r)]; exact r) fun c xs r => by rw [upd_ne (ntup c xs r)]; exact r
      rcases hc with rfl | hc
      · exact hbe
      · rintro rfl
        rcases he with z | z
        · exact nown c b hc z
        · rw [hc] at z; cases z; exact hb rfl
end

/-! ### kept unless tracked; of the frames at fs (the callers') the slots may change (an exception that passes writes there); of the records at ex (iterators) nothing is said -/
structure Un (fs ex : List Addr) (H H' : Hp) (h h' : Heap) : Prop where
  keep : ∀ b o, h.get? b = some o → H b = none → b ∉ fs → b ∉ ex → h'.get? b = some o
  slot : ∀ b o, h.get? b = some o → H b = none → b ∈ fs → b ∉ ex → ∃ sl, h'.get? b = some { o with slots := sl }
  free : ∀ b o, h.get? b = some o → H b = none → b ∉ ex → H' b = none
  there : ∀ b o, h.get? b = some o → b ∉ ex → ∃ o', h'.get? b = some o'
  tups : ∀ b xs, H b = some (.tup xs) → H' b = some (.tup xs)
  frzs : ∀ b o u, H b = some (.frz o u) → H' b = some (.frz o u)
  tbls : ∀ b ps, H b = some (.tbl ps) → ∃ more, H' b = some (.tbl (ps ++ more))
section
variable {fs fs' ex ex' : List Addr} {H H1 H2 : Hp} {h h1 h2 h' : Heap} {a x e : Addr} {o : HO}
theorem Un.any (u : Un fs ex H H1 h h1) {b : Addr} {ob : Obj} (q : h.get? b = some ob) (n : H b = none) (hx : b ∉ ex) : ∃ sl, h1.get? b = some { ob with slots := sl } := by
  by_cases hb : b ∈ fs
  · exact u.slot b ob q n hb hx
  · exact ⟨ob.slots, u.keep b ob q n hb hx⟩
theorem Un.trans (a : Un fs ex H H1 h h1) (b : Un fs ex H1 H2 h1 h2) : Un fs ex H H2 h h2 where
  keep := fun c ob q n hc hx => b.keep c ob (a.keep c ob q n hc hx) (a.free c ob q n hx) hc hx
  slot := fun c ob q n hc hx => by
    obtain ⟨sl, e1⟩ := a.slot c ob q n hc hx
    obtain ⟨sl', e2⟩ := b.slot c _ e1 (a.free c ob q n hx) hc hx
    exact ⟨sl', e2⟩
  free := fun c ob q n hx => by
    obtain ⟨o', e1⟩ := a.there c ob q hx
    exact b.free c o' e1 (a.free c ob q n hx) hx
  there := fun c ob q hx => by
    obtain ⟨o', e1⟩ := a.there c ob q hx
    exact b.there c o' e1 hx
  tups := fun c xs q => b.tups c xs (a.tups c xs q)
  frzs := fun c ob xs q => b.frzs c ob xs (a.frzs c ob xs q)
  tbls := fun c ps q => by
    obtain ⟨m1, e1⟩ := a.tbls c ps q
    obtain ⟨m2, e2⟩ := b.tbls c _ e1
    exact ⟨m1 ++ m2, by rw [e2, Array.append_assoc]⟩
theorem Un.kept (k : ∀ b u, h.get? b = some u → h'.get? b = some u) : Un fs ex H H h h' :=
  ⟨fun b ob q _ _ _ => k b ob q, fun b ob q _ _ _ => ⟨ob.slots, k b ob q⟩, fun _ _ _ n _ => n, fun b ob q _ => ⟨ob, k b ob q⟩, fun _ _ q => q, fun _ _ _ q => q, fun _ ps q => ⟨#[], by rw [q]; simp⟩⟩
theorem Un.refl : Un fs ex H H h h := Un.kept fun _ _ q => q
theorem Un.laid (k : ∀ b u, h.get? b = some u → h'.get? b = some u) (hp : h.objs.size ≤ a) (hn : H a = none) : Un fs ex H (upd H a o) h h' where
  keep := fun b u q _ _ _ => k b u q
  slot := fun b u q _ _ _ => ⟨u.slots, k b u q⟩
  free := fun b u q n _ => by rw [upd_ne (Nat.ne_of_lt (Nat.lt_of_lt_of_le (Heap.lt_size q) hp))]; exact n
  there := fun b u q _ => ⟨u, k b u q⟩
  tups := fun b xs q => by rw [upd_ne (ne_of_none q hn)]; exact q
  frzs := fun b u xs q => by rw [upd_ne (ne_of_none q hn)]; exact q
  tbls := fun b ps q => ⟨#[], by rw [upd_ne (ne_of_none q hn), q]; simp⟩
theorem Un.write (mu : Mut (H x)) (he : e = x ∨ H e = some (.own x)) (k : ∀ b u, b ≠ e → h.get? b = some u → h'.get? b = some u) (heo : ∃ u, h'.get? e = some u) : Un fs ex H (upd H x o) h h' := by
  have hx : ∀ b, H b = none → b ≠ x := fun b n z => by subst z; rw [n] at mu; exact mu
  have hb : ∀ b, H b = none → b ≠ e := fun b n z => by
    subst z
    rcases he with r | r
    · exact hx b n r
    · rw [n] at r; cases r
  have hm : ∀ b u, H b = some u → ¬ Mut (some u) → b ≠ x := fun b u q nm z => by subst z; rw [q] at mu; exact nm mu
  refine ⟨fun b u q n _ _ => k b u (hb b n) q, fun b u q n _ _ => ⟨u.slots, k b u (hb b n) q⟩, fun b u q n _ => by rw [upd_ne (hx b n)]; exact n, fun b u q _ => ?_,
    fun b xs q => by rw [upd_ne (hm b _ q fun z => z)]; exact q, fun b u xs q => by rw [upd_ne (hm b _ q fun z => z)]; exact q, fun b ps q => ⟨#[], by rw [upd_ne (hm b _ q fun z => z), q]; simp⟩⟩
  by_cases hbe : b = e
  · subst hbe; exact heo
  · exact ⟨u, k b u hbe q⟩
theorem Un.mono (u : Un fs ex H H1 h h1) (hs : ∀ b ∈ fs, b ∈ fs') (hx : ∀ b ∈ ex, b ∈ ex') : Un fs' ex' H H1 h h1 :=
  ⟨fun b ob q n hb he => u.keep b ob q n (fun z => hb (hs b z)) fun z => he (hx b z), fun _ _ q n _ he => u.any q n fun z => he (hx _ z), fun b ob q n he => u.free b ob q n fun z => he (hx b z), fun b ob q he => u.there b ob q fun z => he (hx b z), u.tups, u.frzs, u.tbls⟩
end

/-! ### the heap without what is tracked -/
def trk (h : Heap) (H : Hp) : List Addr := (List.range h.objs.size).filter fun a => (H a).isSome
def hidT (h : Heap) (H : Hp) : Heap := PySem.W.hideAll h (trk h H)
theorem hidT_size (h : Heap) (H : Hp) : (hidT h H).objs.size = h.objs.size := PySem.W.hideAll_size _ _
theorem hidT_get {h : Heap} {H : Hp} {b : Addr} {o : Obj} (e : h.get? b = some o) (n : H b = none) : (hidT h H).get? b = some o :=
  PySem.W.hideAll_get _ e fun hm => by
    have q : (H b).isSome = true := (List.mem_filter.mp hm).2
    rw [n] at q; simp at q
theorem of_hidT {h : Heap} {H : Hp} {b : Addr} {o : Obj} (e : (hidT h H).get? b = some o) : h.get? b = some o ∧ H b = none := by
  have e' : h.get? b = some o := PySem.W.of_hideAll (trk h H) e
  refine ⟨e', ?_⟩
  cases q : H b with
  | none => rfl
  | some x =>
    have hm : b ∈ trk h H := List.mem_filter.mpr ⟨List.mem_range.mpr (Heap.lt_size e'), by simp [q]⟩
    have z : (hidT h H).get? b = none := PySem.W.hideAll_none (trk h H) hm
    rw [z] at e; cases e

/-! ### OpenK's ledger, filled with every new object but one -/
def allNews (g h : Heap) (L : Addr) : List (Addr × Obj) := (List.range h.objs.size).filterMap fun a => if a = L ∨ (g.get? a).isSome = true then none else (h.get? a).map fun o => (a, o)
theorem mem_allNews {g h : Heap} {L a : Addr} {o : Obj} (h1 : a ≠ L) (h2 : g.get? a = none) (h3 : h.get? a = some o) : (a, o) ∈ allNews g h L :=
  List.mem_filterMap.mpr ⟨a, List.mem_range.mpr (Heap.lt_size h3), by simp [h1, h2, h3]⟩
theorem of_mem_allNews {g h : Heap} {L : Addr} {p : Addr × Obj} (hp : p ∈ allNews g h L) : p.1 ≠ L ∧ g.get? p.1 = none ∧ h.get? p.1 = some p.2 := by
  obtain ⟨b, _, e⟩ := List.mem_filterMap.mp hp
  split at e
  · cases e
  · rename_i hn
    cases q : h.get? b with
    | none => rw [q] at e; simp at e
    | some u =>
      rw [q] at e
      simp only [Option.map_some, Option.some.injEq] at e
      subst e
      refine ⟨fun z => hn (.inl z), ?_, q⟩
      show g.get? b = none
      cases r : g.get? b with
      | none => rfl
      | some v => exact (hn (.inr (by simp [r]))).elim
def rest (g h : Heap) (L d : Addr) : List (Addr × Obj) := (allNews g h L).filter fun p => decide (p.1 ≠ d)
theorem rest_ne {g h : Heap} {L d : Addr} : ∀ p ∈ rest g h L d, p.1 ≠ d := fun p hp => of_decide_eq_true (List.mem_filter.mp hp).2
theorem mem_rest {g h : Heap} {L d a : Addr} {o : Obj} (h1 : a ≠ L) (h2 : g.get? a = none) (h3 : h.get? a = some o) (h4 : a ≠ d) : (a, o) ∈ rest g h L d :=
  List.mem_filter.mpr ⟨mem_allNews h1 h2 h3, decide_eq_true h4⟩
theorem news_all {g h : Heap} {L : Addr} : News g L h (allNews g h L) := fun p hp => let ⟨a, b, c⟩ := of_mem_allNews hp; ⟨c, a, b⟩
theorem news_at {g h : Heap} {L d : Addr} {o : Obj} (h1 : d ≠ L) (h2 : g.get? d = none) (h3 : h.get? d = some o) : News g L h ((d, o) :: rest g h L d) := fun p hp => by
  rcases List.mem_cons.mp hp with rfl | hp
  · exact ⟨h3, h1, h2⟩
  · exact news_all p (List.mem_filter.mp hp).1
/-- behind a rule that changed d alone: all else but the frame is kept -/
theorem kept_of_news {g h h' : Heap} {L d : Addr} {m : Str → Option Value} (k : ∀ b o, g.get? b = some o → h.get? b = some o) (F : Fr g L h' m) (N : News g L h' (rest g h L d)) :
    ∀ b o, b ≠ L → b ≠ d → h.get? b = some o → h'.get? b = some o := fun b o h1 h2 e => by
  cases q : g.get? b with
  | some u =>
    have := k b u q
    rw [e] at this; cases this
    exact F.keep b _ q
  | none => exact (N (b, o) (mem_rest h1 q e h2)).1
end L2

namespace L2
open PySem PySem.Spec PyProof.Rows

/-- the module's facts, over the base: the heap at the law's entry without what is tracked there -/
structure Mod (K : PySem.W.Frag) (mg : Str → Option Value) (base : Heap) : Prop where
  kin : K.In base
  glob : base.Ns mainGlobals mg
  blt : ∃ mb, base.Ns builtinsNs mb ∧ ∀ x : Str, x ≠ "__name__" → mb x = bootBuiltins x
  nolimit : base.NoLimit

/-- the context: a def's body (or a comprehension's block) running. base: fixed through the whole law; s₀, H₀: the entry; outer: the frames whose slots others may change (a def's callers); stack: all frames that run;
   ex: iterators that were made ahead of the entry and are walked here (a comprehension's); fn: the names whose cells were made at the entry (a def: all; a comprehension's block: its own); calm: not within an except suite; pn: pins that every state bears; xe: what is wanted of an exception that leaves the code -/
structure Cx where
  prog : Program
  w : World
  K : PySem.W.Frag
  mg : Str → Option Value
  base : Heap
  A : Around
  N : List Str
  s₀ : Shared
  H₀ : Hp
  env : Env
  outer : List Env
  stack : List Env
  ex : List Addr
  fn : Str → Bool
  calm : Bool
  pn : List (Addr × Obj)
  xe : Value → Shared → Prop
/-- the callers' frames -/
def frs (l : List Env) : List Addr := l.filterMap (·.frame)
abbrev Cx.fs (X : Cx) : List Addr := frs X.outer

def Vis (sc : Scope) (x : Str) : Prop := sc.names.lookup x = some .local ∨ sc.names.lookup x = some .cell ∨ sc.names.lookup x = some .free
def Loc (sc : Scope) (x : Str) : Prop := sc.names.lookup x = some .local ∨ sc.names.lookup x = some .cell
def Look (env : Env) (h : Heap) (m : Str → Option Value) (x : Str) (u : Value) : Prop :=
  (env.kindOf x = some .local ∧ m x = some u) ∨ ((env.kindOf x = some .cell ∨ env.kindOf x = some .free) ∧ ∃ c, env.cells.lookup x = some c ∧ h.IsCell c (some u))

structure Cx.Ok (X : Cx) : Prop where
  mod : Mod X.K X.mg X.base
  kind : X.env.scope.kind = .function
  glob : X.env.globals = mainGlobals
  blt : X.env.builtins = builtinsNs
  above : X.s₀.heap.objs.size ≤ X.env.locals
  inj : ∀ x y c, X.env.cells.lookup x = some c → X.env.cells.lookup y = some c → x = y
  has : ∀ x, (X.env.kindOf x = some .cell ∨ X.env.kindOf x = some .free) → ∃ c, X.env.cells.lookup x = some c
  cab : ∀ x c, X.fn x = true → X.env.cells.lookup x = some c → X.s₀.heap.objs.size ≤ c
  hd : X.calm = true → X.A.handled = none
  frames : X.A.frames = some X.stack
  stk : X.stack = X.outer ∨ (X.stack = X.env :: X.outer ∧ X.env.frame = some X.env.locals)
  exf : ∀ b ∈ X.ex, b ≠ X.env.locals ∧ ∀ x c, X.env.cells.lookup x = some c → c ≠ b
  bs : ∀ b o, X.base.get? b = some o → X.s₀.heap.get? b = some o ∧ X.H₀ b = none
  bsz : X.base.objs.size ≤ X.s₀.heap.objs.size
  noex : ∀ b o, X.base.get? b = some o → b ∉ X.ex
  exfs : ∀ b ∈ X.ex, b ∉ X.fs
  funs : X.s₀.heap.FunFrames X.base X.outer
  frf : ∀ b ∈ X.fs, X.H₀ b = none

structure Inv (X : Cx) (pins : List (Addr × Obj)) (σ : List (Option V)) (H : Hp) (s : Shared) : Prop where
  ok : X.Ok
  os : s.os = X.s₀.os
  bare : AllBare s.gens
  base : Un X.fs X.ex X.H₀ H X.s₀.heap s.heap
  loc : ∃ m, s.heap.Ns X.env.locals m ∧ ∀ (i : Nat) (x : Str) (v : V), X.N[i]? = some x → σ[i]? = some (some v) → Vis X.env.scope x → ∃ u, RelV v u ∧ Look X.env s.heap m x u
  cell : ∀ x c, X.env.cells.lookup x = some c → ∃ v, s.heap.IsCell c v
  free : H X.env.locals = none
  freeC : ∀ x c, X.env.cells.lookup x = some c → H c = none
  pin : ∀ p ∈ X.pn ++ pins, s.heap.get? p.1 = some p.2 ∧ H p.1 = none ∧ p.1 ≠ X.env.locals ∧ p.1 ∉ X.fs ∧ ∀ v, p.2.data ≠ .cell v
  hok : HOk X.prog X.w H s.heap
  len : σ.length = X.N.length

section
variable {X : Cx} {pins : List (Addr × Obj)} {σ : List (Option V)} {H H' : Hp} {s : Shared} {h' : Heap}

theorem Cx.Ok.nofr (ok : X.Ok) {b : Addr} {o : Obj} (e : X.base.get? b = some o) : b ∉ X.fs := fun hb => by
  have := (ok.funs.mem hb).1
  rw [e] at this; cases this
theorem Inv.bs (I : Inv X pins σ H s) : ∀ b o, X.base.get? b = some o → s.heap.get? b = some o ∧ H b = none := fun b o e =>
  ⟨I.base.keep b o (I.ok.bs b o e).1 (I.ok.bs b o e).2 (I.ok.nofr e) (I.ok.noex b o e), I.base.free b o (I.ok.bs b o e).1 (I.ok.bs b o e).2 (I.ok.noex b o e)⟩
theorem Inv.bk (I : Inv X pins σ H s) : ∀ b o, X.base.get? b = some o → s.heap.get? b = some o := fun b o e => (I.bs b o e).1
theorem Inv.mod (I : Inv X pins σ H s) : Mod X.K X.mg X.base := I.ok.mod
theorem Inv.kIn (I : Inv X pins σ H s) : X.K.In s.heap := I.ok.mod.kin.keeps I.bk
theorem Inv.nolimit (I : Inv X pins σ H s) : s.heap.NoLimit := I.ok.mod.nolimit.keeps I.bk
/-- the frame over the base: for OpenK's rules (K.In X.base is I.mod.kin) -/
theorem Inv.fr (I : Inv X pins σ H s) : ∃ m, Fr X.base X.env.locals s.heap m :=
  let ⟨m, hn, _⟩ := I.loc
  ⟨m, hn, I.bk, Nat.le_trans I.ok.bsz I.ok.above⟩
theorem Inv.lt (I : Inv X pins σ H s) : X.env.locals < s.heap.objs.size := let ⟨_, hn, _⟩ := I.loc; hn.lt
theorem Inv.sz (I : Inv X pins σ H s) : X.s₀.heap.objs.size ≤ s.heap.objs.size := Nat.le_trans I.ok.above (Nat.le_of_lt I.lt)
theorem Inv.nofs (I : Inv X pins σ H s) {a : Addr} (h : s.heap.objs.size ≤ a) : a ∉ X.fs := fun hb => by
  obtain ⟨_, o, ho, _⟩ := I.ok.funs.mem hb
  exact absurd (Nat.lt_of_lt_of_le (Heap.lt_size ho) (Nat.le_trans I.sz h)) (Nat.lt_irrefl _)
theorem Inv.cne (I : Inv X pins σ H s) : ∀ x c, X.env.cells.lookup x = some c → c ≠ X.env.locals := fun x c e z => by
  obtain ⟨v, o, ho, hd⟩ := I.cell x c e
  obtain ⟨m, ⟨o', es, ep, ho', hd', _⟩, _⟩ := I.loc
  rw [z, ho'] at ho; cases ho; rw [hd'] at hd; cases hd
theorem Inv.funs (I : Inv X pins σ H s) : s.heap.FunFrames X.base X.outer := by
  have all : ∀ (l : List Env), (∀ b ∈ frs l, b ∈ X.fs) → X.s₀.heap.FunFrames X.base l → s.heap.FunFrames X.base l := by
    intro l
    induction l with
    | nil => intro _ _; trivial
    | cons env r ih =>
      intro hs hl
      obtain ⟨hk, ⟨L, o, hf, hn, ho, hd⟩, hr⟩ := hl
      have hL : L ∈ X.fs := hs L (by unfold frs; rw [List.filterMap_cons, hf]; exact List.mem_cons_self)
      obtain ⟨sl, e⟩ := I.base.slot L o ho (I.ok.frf L hL) hL fun z => I.ok.exfs L z hL
      exact ⟨hk, ⟨L, _, hf, hn, e, hd⟩, ih (fun b hb => hs b (by unfold frs; rw [List.filterMap_cons, hf]; exact List.mem_cons_of_mem _ hb)) hr⟩
  exact all X.outer (fun _ hb => hb) I.ok.funs

/-- the frames that run, for a call -/
theorem Inv.stack (I : Inv X pins σ H s) : s.heap.FunFrames X.base X.stack := by
  rcases I.ok.stk with e | ⟨e, hf⟩
  · rw [e]; exact I.funs
  · rw [e]
    obtain ⟨m, hn, _⟩ := I.loc
    refine .cons (by rw [I.ok.kind]; decide) hf hn ?_ I.funs
    exact Heap.get?_none_of_le (Nat.le_trans I.ok.bsz I.ok.above)
theorem Inv.stkSub (I : Inv X pins σ H s) : ∀ b ∈ frs X.stack, b ∈ X.env.locals :: X.fs := fun b hb => by
  rcases I.ok.stk with e | ⟨e, hf⟩
  · rw [e] at hb; exact List.mem_cons_of_mem _ hb
  · rw [e] at hb
    unfold frs at hb
    rw [List.filterMap_cons, hf] at hb
    exact hb
theorem Inv.stkFree (I : Inv X pins σ H s) : ∀ b ∈ frs X.stack, H b = none := fun b hb => by
  rcases List.mem_cons.mp (I.stkSub b hb) with e | hb
  · rw [e]; exact I.free
  · obtain ⟨_, o, ho, _⟩ := I.ok.funs.mem hb
    exact I.base.free b o ho (I.ok.frf b hb) fun z => I.ok.exfs b z hb

/-- THE STEP: the untracked objects but the frame and the records at ch are kept (the callers' frames up to slots), the frame's map is kept, the new abstract heap is held -/
theorem Inv.step {g' : Array GenState} {t' : Nat} {d' : Drawn} {ch : List Addr} (I : Inv X pins σ H s)
    (hch : ∀ b ∈ ch, (b ∈ X.ex ∨ X.s₀.heap.objs.size ≤ b) ∧ b ≠ X.env.locals ∧ (∀ x c, X.env.cells.lookup x = some c → c ≠ b) ∧ ∀ p ∈ X.pn ++ pins, p.1 ≠ b)
    (keep : ∀ b o, b ≠ X.env.locals → b ∉ X.fs → b ∉ ch → s.heap.get? b = some o → H b = none → h'.get? b = some o)
    (slot : ∀ b o, b ≠ X.env.locals → b ∈ X.fs → b ∉ ch → s.heap.get? b = some o → H b = none → ∃ sl, h'.get? b = some { o with slots := sl }) (free : ∀ b o, b ∉ ch → s.heap.get? b = some o → H b = none → H' b = none)
    (there : ∀ b o, b ∉ ch → s.heap.get? b = some o → ∃ o', h'.get? b = some o')
    (tups : ∀ b xs, H b = some (.tup xs) → H' b = some (.tup xs)) (frzs : ∀ b o u, H b = some (.frz o u) → H' b = some (.frz o u)) (tbls : ∀ b ps, H b = some (.tbl ps) → ∃ more, H' b = some (.tbl (ps ++ more)))
    (ns : ∀ m, s.heap.Ns X.env.locals m → h'.Ns X.env.locals m) (hok : HOk X.prog X.w H' h') (hg : AllBare g') :
    Inv X pins σ H' { s with heap := h', gens := g', drawn := d', toks := t' } := by
  have neL : ∀ b o, X.s₀.heap.get? b = some o → b ≠ X.env.locals := fun b o e => Nat.ne_of_lt (Nat.lt_of_lt_of_le (Heap.lt_size e) I.ok.above)
  have neC : ∀ b o, X.s₀.heap.get? b = some o → b ∉ X.ex → b ∉ ch := fun b o e hx hb => by
    rcases (hch b hb).1 with z | z
    · exact hx z
    · exact absurd (Nat.lt_of_lt_of_le (Heap.lt_size e) z) (Nat.lt_irrefl _)
  have cellK : ∀ x c, X.env.cells.lookup x = some c → ∀ v, s.heap.IsCell c v → h'.IsCell c v := fun x c e v ⟨o, ho, hd⟩ => by
    have nch : c ∉ ch := fun z => (hch c z).2.2.1 x c e rfl
    by_cases hc : c ∈ X.fs
    · obtain ⟨sl, q⟩ := slot c o (I.cne x c e) hc nch ho (I.freeC x c e)
      exact ⟨_, q, hd⟩
    · exact ⟨o, keep c o (I.cne x c e) hc nch ho (I.freeC x c e), hd⟩
  refine ⟨I.ok, I.os, hg, ⟨fun b o e n hb hx => ?_, fun b o e n hb hx => ?_, fun b o e n hx => ?_, fun b o e hx => ?_, fun b xs e => tups b xs (I.base.tups b xs e), fun b o xs e => frzs b o xs (I.base.frzs b o xs e), fun b ps e => ?_⟩, ?_, fun x c e => ?_, ?_, fun x c e => ?_, fun p hp => ?_, hok, I.len⟩
  · exact keep b o (neL b o e) hb (neC b o e hx) (I.base.keep b o e n hb hx) (I.base.free b o e n hx)
  · obtain ⟨sl, e1⟩ := I.base.slot b o e n hb hx
    obtain ⟨sl', e2⟩ := slot b _ (neL b o e) hb (neC b o e hx) e1 (I.base.free b o e n hx)
    exact ⟨sl', e2⟩
  · obtain ⟨o', e1⟩ := I.base.there b o e hx
    exact free b o' (neC b o e hx) e1 (I.base.free b o e n hx)
  · obtain ⟨o', e1⟩ := I.base.there b o e hx
    exact there b o' (neC b o e hx) e1
  · obtain ⟨m1, e1⟩ := I.base.tbls b ps e
    obtain ⟨m2, e2⟩ := tbls b _ e1
    exact ⟨m1 ++ m2, by rw [e2, Array.append_assoc]⟩
  · obtain ⟨m, hn, hl⟩ := I.loc
    refine ⟨m, ns m hn, fun i x v e1 e2 e3 => ?_⟩
    obtain ⟨u, r, l⟩ := hl i x v e1 e2 e3
    refine ⟨u, r, ?_⟩
    rcases l with l | ⟨k, c, e, z⟩
    · exact .inl l
    · exact .inr ⟨k, c, e, cellK x c e _ z⟩
  · obtain ⟨v, z⟩ := I.cell x c e
    exact ⟨v, cellK x c e v z⟩
  · obtain ⟨m, ⟨o, _, _, ho, _⟩, _⟩ := I.loc
    exact free _ o (fun z => (hch _ z).2.1 rfl) ho I.free
  · obtain ⟨v, o, ho, hd⟩ := I.cell x c e
    exact free c o (fun z => (hch c z).2.2.1 x c e rfl) ho (I.freeC x c e)
  · obtain ⟨e, n, ne, nf, d⟩ := I.pin p hp
    have nch : p.1 ∉ ch := fun z => (hch p.1 z).2.2.2 p hp rfl
    exact ⟨keep p.1 p.2 ne nf nch e n, free p.1 p.2 nch e n, ne, nf, d⟩
/-- .. where the frame's own object is kept too -/
theorem Inv.un {t' : Nat} (I : Inv X pins σ H s) (u : Un X.fs [] H H' s.heap h') (hok : HOk X.prog X.w H' h') : Inv X pins σ H' { s with heap := h', toks := t' } := by
  obtain ⟨m, ⟨o, es, ep, ho, r⟩, _⟩ := id I.loc
  obtain ⟨sl, hL⟩ := u.any ho I.free (by simp)
  exact I.step (g' := s.gens) (d' := s.drawn) (ch := []) (fun _ z => nomatch z) (fun b o _ hb _ e n => u.keep b o e n hb (by simp)) (fun b o _ hb _ e n => u.slot b o e n hb (by simp)) (fun b o _ e n => u.free b o e n (by simp)) (fun b o _ e => u.there b o e (by simp)) u.tups u.frzs u.tbls (fun m' hm => by
    obtain ⟨o', es', ep', ho', r'⟩ := hm
    rw [ho] at ho'; cases ho'
    exact ⟨_, es', ep', hL, r'⟩) hok I.bare
/-- behind a call (or a comprehension's block): the slots of this frame may have changed too, the records at ch may have turned -/
theorem Inv.call {g' : Array GenState} {t' : Nat} {d' : Drawn} {ch : List Addr} (I : Inv X pins σ H s) (u : Un (frs X.stack) ch H H' s.heap h') (hok : HOk X.prog X.w H' h') (hg : AllBare g')
    (hch : ∀ b ∈ ch, (b ∈ X.ex ∨ X.s₀.heap.objs.size ≤ b) ∧ b ≠ X.env.locals ∧ (∀ x c, X.env.cells.lookup x = some c → c ≠ b) ∧ ∀ p ∈ X.pn ++ pins, p.1 ≠ b) :
    Inv X pins σ H' { s with heap := h', gens := g', drawn := d', toks := t' } := by
  obtain ⟨m, ⟨o, es, ep, ho, r⟩, _⟩ := id I.loc
  obtain ⟨sl, hL⟩ := u.any ho I.free fun z => (hch _ z).2.1 rfl
  exact I.step (ch := ch) hch (fun b o hL hb hc e n => u.keep b o e n (fun z => (List.mem_cons.mp (I.stkSub b z)).elim hL hb) hc) (fun b o _ _ hc e n => u.any e n hc) (fun b o hc e n => u.free b o e n hc) (fun b o hc e => u.there b o e hc) u.tups u.frzs u.tbls (fun m' hm => by
    obtain ⟨o', es', ep', ho', r'⟩ := hm
    rw [ho] at ho'; cases ho'
    exact ⟨_, es', ep', hL, r'⟩) hok hg
/-- an untracked record of ours (an iterator) has turned -/
theorem Inv.turned {t' : Nat} {it : Addr} (I : Inv X pins σ H s) (k : ∀ b o, b ≠ it → s.heap.get? b = some o → h'.get? b = some o) (hn : H it = none) (hL : it ≠ X.env.locals)
    (h1 : it ∈ X.ex ∨ X.s₀.heap.objs.size ≤ it) (h2 : ∀ x c, X.env.cells.lookup x = some c → c ≠ it) (h3 : ∀ p ∈ X.pn ++ pins, p.1 ≠ it) : Inv X pins σ H { s with heap := h', toks := t' } := by
  have nit : ∀ b u, H b = some u → b ≠ it := fun b u e z => by rw [z, hn] at e; cases e
  refine I.step (g' := s.gens) (d' := s.drawn) (ch := [it]) (fun b hb => ?_) (fun b o _ _ hc e _ => k b o (fun z => hc (by simp [z])) e) (fun b o _ _ hc e _ => ⟨o.slots, k b o (fun z => hc (by simp [z])) e⟩) (fun _ _ _ _ n => n)
    (fun b o hc e => ⟨o, k b o (fun z => hc (by simp [z])) e⟩) (fun _ _ e => e) (fun _ _ _ e => e) (fun b ps e => ⟨#[], by rw [e]; simp⟩) (fun m hm => ?_) (fun b u e => ?_) I.bare
  · have e : b = it := by simpa using hb
    subst e
    exact ⟨h1, hL, h2, h3⟩
  · obtain ⟨o, es, ep, ho, r⟩ := hm
    exact ⟨o, es, ep, k _ o (Ne.symm hL) ho, r⟩
  · refine (I.hok b u e).stay (fun c v hc q => k c v ?_ q) (fun _ q => q) fun _ _ q => q
    rcases hc with z | z
    · rw [z]; exact nit b u e
    · exact nit c _ z
theorem Inv.tok (I : Inv X pins σ H s) (t : Nat) : Inv X pins σ H { s with toks := t } := I.un (h' := s.heap) (t' := t) Un.refl I.hok
/-- all objects kept -/
theorem Inv.kept {t' : Nat} (I : Inv X pins σ H s) (k : ∀ b u, s.heap.get? b = some u → h'.get? b = some u) : Inv X pins σ H { s with heap := h', toks := t' } := I.un (Un.kept k) (I.hok.kept k)
/-- a new object laid and tracked -/
theorem Inv.laid {a : Addr} {o : HO} {t' : Nat} (I : Inv X pins σ H s) (k : ∀ b u, s.heap.get? b = some u → h'.get? b = some u) (hp : s.heap.objs.size ≤ a) (new : ObjOk X.prog X.w (upd H a o) h' a o) :
    Inv X pins σ (upd H a o) { s with heap := h', toks := t' } := I.un (Un.laid k hp (I.hok.fresh hp)) (I.hok.laid k hp new)
/-- an object written -/
theorem Inv.write {x e : Addr} {o : HO} {t' : Nat} (I : Inv X pins σ H s) (mu : Mut (H x)) (he : e = x ∨ H e = some (.own x)) (k : ∀ b u, b ≠ e → s.heap.get? b = some u → h'.get? b = some u) (heo : ∃ u, h'.get? e = some u)
    (new : ObjOk X.prog X.w (upd H x o) h' x o) : Inv X pins σ (upd H x o) { s with heap := h', toks := t' } := I.un (Un.write mu he k heo) (I.hok.write mu he k heo new)
/-- forgetting slots, pins -/
theorem Inv.weak {σ' : List (Option V)} (I : Inv X pins σ H s) (hl : σ'.length = σ.length) (w : ∀ (i : Nat) v, σ'[i]? = some (some v) → σ[i]? = some (some v)) : Inv X pins σ' H s :=
  ⟨I.ok, I.os, I.bare, I.base, let ⟨m, hn, hl'⟩ := I.loc; ⟨m, hn, fun i x v e1 e2 e3 => hl' i x v e1 (w i v e2) e3⟩, I.cell, I.free, I.freeC, I.pin, I.hok, hl.trans I.len⟩
theorem Inv.pins_of {pins' : List (Addr × Obj)} (I : Inv X pins σ H s) (h : ∀ p ∈ pins', s.heap.get? p.1 = some p.2 ∧ H p.1 = none ∧ p.1 ≠ X.env.locals ∧ p.1 ∉ X.fs ∧ ∀ v, p.2.data ≠ .cell v) : Inv X pins' σ H s :=
  ⟨I.ok, I.os, I.bare, I.base, I.loc, I.cell, I.free, I.freeC, fun p hp => (List.mem_append.mp hp).elim (fun z => I.pin p (List.mem_append_left _ z)) (h p), I.hok, I.len⟩

theorem nodup_ix {N : List Str} (hN : N.Nodup) {i j : Nat} {x : Str} (a : N[i]? = some x) (b : N[j]? = some x) : i = j := by
  obtain ⟨h1, e1⟩ := List.getElem?_eq_some_iff.mp a
  obtain ⟨h2, e2⟩ := List.getElem?_eq_some_iff.mp b
  exact (List.getElem_inj hN).mp (e1.trans e2.symm)

/-- a name is stored; what changed -/
theorem store_ok2 {M : Model} {A : Around} {E : Value → Shared → Prop} {i : Nat} {x : Str} {v : V} {u : Value} {Q : Unit → Shared → Prop} (I : Inv X pins σ H s) (hN : X.N.Nodup) (hi : X.N[i]? = some x) (hx : Loc X.env.scope x) (r : RelV v u)
    (h : ∀ s', Inv X pins (σ.set i (some v)) H s' → (∃ a, Heap.SameBut a s.heap s'.heap ∧ (a = X.env.locals ∨ X.env.cells.lookup x = some a)) → Q () s') (hf : X.fn x = true ∨ X.env.scope.names.lookup x = some .local := by first | exact .inl rfl | exact .inr rfl | assumption) : wpAny M A (storeName X.env x u) Q E s := by
  obtain ⟨m, hn, hl⟩ := id I.loc
  have hcls : (X.env.scope.kind == .class || (X.env.scope.kind == .module && X.env.locals != X.env.globals)) = false := by rw [I.ok.kind]; rfl
  have hiσ : i < σ.length := by rw [I.len]; exact (List.getElem?_eq_some_iff.mp hi).1
  have cne := I.cne
  have tracked : ∀ {a : Addr} {h' : Heap}, (∃ o, s.heap.get? a = some o ∧ H a = none) → Heap.SameBut a s.heap h' → HOk X.prog X.w H h' := fun {a h'} ha hs b ob e => by
    obtain ⟨_, _, hfree⟩ := ha
    refine (I.hok b ob e).stay (fun c w' hc q => (hs.2 c ?_).trans q) (fun _ q => q) fun _ _ q => q
    rintro rfl
    rcases hc with rfl | hc
    · rw [hfree] at e; cases e
    · rw [hfree] at hc; cases hc
  rcases hx with hk | hk
  · refine wpAny_storeName_local hk hn (fun h' hn' hs => ?_) hcls
    obtain ⟨oL, _, _, hoL, _⟩ := id hn
    refine h _ ⟨I.ok, I.os, I.bare, ⟨fun b o e n hb hx => ?_, fun b o e n hb hx => ?_, I.base.free, fun b o e hx => ?_, I.base.tups, I.base.frzs, I.base.tbls⟩, ⟨_, hn', fun j y v' e1 e2 e3 => ?_⟩, fun y c e => ?_, I.free, I.freeC, fun p hp => ?_, tracked ⟨oL, hoL, I.free⟩ hs, by simpa using I.len⟩ ⟨_, hs, .inl rfl⟩
    · exact (hs.2 b (Nat.ne_of_lt (Nat.lt_of_lt_of_le (Heap.lt_size e) I.ok.above))).trans (I.base.keep b o e n hb hx)
    · obtain ⟨sl, e1⟩ := I.base.slot b o e n hb hx
      exact ⟨sl, (hs.2 b (Nat.ne_of_lt (Nat.lt_of_lt_of_le (Heap.lt_size e) I.ok.above))).trans e1⟩
    · obtain ⟨o', e1⟩ := I.base.there b o e hx
      exact ⟨o', (hs.2 b (Nat.ne_of_lt (Nat.lt_of_lt_of_le (Heap.lt_size e) I.ok.above))).trans e1⟩
    · by_cases hj : j = i
      · subst hj
        rw [hi] at e1; cases e1
        rw [List.getElem?_set_self hiσ] at e2
        cases e2
        exact ⟨u, r, .inl ⟨hk, by simp⟩⟩
      · rw [List.getElem?_set_ne (Ne.symm hj)] at e2
        obtain ⟨u', r', q⟩ := hl j y v' e1 e2 e3
        refine ⟨u', r', ?_⟩
        rcases q with ⟨k, e⟩ | ⟨k, c, e, z⟩
        · refine .inl ⟨k, ?_⟩
          have : y ≠ x := fun e => hj (nodup_ix hN e1 (e ▸ hi))
          simp [this, e]
        · exact .inr ⟨k, c, e, z.sameBut hs (cne y c e)⟩
    · obtain ⟨w', z⟩ := I.cell y c e
      exact ⟨w', z.sameBut hs (cne y c e)⟩
    · obtain ⟨e, n, ne, nf, d⟩ := I.pin p hp
      exact ⟨(hs.2 p.1 ne).trans e, n, ne, nf, d⟩
  · have hfn : X.fn x = true := by
      rcases hf with z | z
      · exact z
      · rw [z] at hk; cases hk
    obtain ⟨c, hc⟩ := I.ok.has x (.inl hk)
    obtain ⟨w', z⟩ := I.cell x c hc
    refine wpAny_storeName_cell I.ok.kind hk hc z (fun h' hc' hs => ?_)
    obtain ⟨oc, hoc, hocd⟩ := id z
    refine h { s with heap := h' } ⟨I.ok, I.os, I.bare, ⟨fun b o e n hb hx => ?_, fun b o e n hb hx => ?_, I.base.free, fun b o e hx => ?_, I.base.tups, I.base.frzs, I.base.tbls⟩, ⟨m, hn.sameBut hs (Ne.symm (cne x c hc)), fun j y v' e1 e2 e3 => ?_⟩, fun y c' e => ?_, I.free, I.freeC, fun p hp => ?_, tracked ⟨oc, hoc, I.freeC x c hc⟩ hs, by simpa using I.len⟩ ⟨c, hs, .inr hc⟩
    · exact (hs.2 b (Nat.ne_of_lt (Nat.lt_of_lt_of_le (Heap.lt_size e) (I.ok.cab x c hfn hc)))).trans (I.base.keep b o e n hb hx)
    · obtain ⟨sl, e1⟩ := I.base.slot b o e n hb hx
      exact ⟨sl, (hs.2 b (Nat.ne_of_lt (Nat.lt_of_lt_of_le (Heap.lt_size e) (I.ok.cab x c hfn hc)))).trans e1⟩
    · obtain ⟨o', e1⟩ := I.base.there b o e hx
      exact ⟨o', (hs.2 b (Nat.ne_of_lt (Nat.lt_of_lt_of_le (Heap.lt_size e) (I.ok.cab x c hfn hc)))).trans e1⟩
    · by_cases hj : j = i
      · subst hj
        rw [hi] at e1; cases e1
        rw [List.getElem?_set_self hiσ] at e2
        cases e2
        exact ⟨u, r, .inr ⟨.inl hk, c, hc, hc'⟩⟩
      · rw [List.getElem?_set_ne (Ne.symm hj)] at e2
        obtain ⟨u', r', q⟩ := hl j y v' e1 e2 e3
        refine ⟨u', r', ?_⟩
        rcases q with q | ⟨k, c', e, z'⟩
        · exact .inl q
        · refine .inr ⟨k, c', e, z'.sameBut hs ?_⟩
          rintro rfl
          exact hj (nodup_ix hN e1 (I.ok.inj _ _ _ e hc ▸ hi))
    · by_cases hcc : c' = c
      · subst hcc; exact ⟨_, hc'⟩
      · obtain ⟨w2, z2⟩ := I.cell y c' e
        exact ⟨w2, z2.sameBut hs hcc⟩
    · obtain ⟨e, n, ne, nf, d⟩ := I.pin p hp
      refine ⟨(hs.2 p.1 ?_).trans e, n, ne, nf, d⟩
      intro q
      rw [q, hoc] at e
      have q' : oc = p.2 := Option.some.inj e
      exact d w' (by rw [← q']; exact hocd)
theorem store_ok {M : Model} {A : Around} {E : Value → Shared → Prop} {i : Nat} {x : Str} {v : V} {u : Value} {Q : Unit → Shared → Prop} (I : Inv X pins σ H s) (hN : X.N.Nodup) (hi : X.N[i]? = some x) (hx : Loc X.env.scope x) (r : RelV v u)
    (h : ∀ s', Inv X pins (σ.set i (some v)) H s' → Q () s') (hf : X.fn x = true ∨ X.env.scope.names.lookup x = some .local := by first | exact .inl rfl | exact .inr rfl | assumption) : wpAny M A (storeName X.env x u) Q E s :=
  store_ok2 I hN hi hx r (fun s' I' _ => h s' I') hf
/-- behind a call or a block, the state as it is -/
theorem Inv.call' {s' : Shared} {ch : List Addr} (I : Inv X pins σ H s) (ho : s'.os = s.os) (u : Un (frs X.stack) ch H H' s.heap s'.heap) (hok : HOk X.prog X.w H' s'.heap) (hg : AllBare s'.gens)
    (hch : ∀ b ∈ ch, (b ∈ X.ex ∨ X.s₀.heap.objs.size ≤ b) ∧ b ≠ X.env.locals ∧ (∀ x c, X.env.cells.lookup x = some c → c ≠ b) ∧ ∀ p ∈ X.pn ++ pins, p.1 ≠ b) : Inv X pins σ H' s' := by
  obtain ⟨h', g', d', t', o'⟩ := s'
  have e : o' = s.os := ho
  subst e
  exact I.call (g' := g') (t' := t') (d' := d') u hok hg hch
end

/-! ### the judgements -/
/-- an exception: its class, its own dict's address (where it has one), the abstract heap behind it -/
abbrev XK := Value → Option Addr → Hp → Prop
abbrev St := List (Option V)
abbrev VK := V → Hp → Prop
/-- an expression's reading; a test's; an argument list's -/
abbrev TE := St → Hp → VK → Prop
abbrev TT := St → Hp → (Bool → Hp → Prop) → Prop
abbrev TA := St → Hp → (List V → Hp → Prop) → Prop
/-- what is wanted behind a statement -/
structure Ends where
  nx : St → Hp → Prop
  rt : VK
  bk : St → Hp → Prop := fun _ _ => False
  ct : St → Hp → Prop := fun _ _ => False
abbrev TS := Ends → St → Hp → Prop

def EP (X : Cx) (pins : List (Addr × Obj)) (σ : St) (Q : VK) (u : Value) (s' : Shared) : Prop := ∃ v H', Inv X pins σ H' s' ∧ RelV v u ∧ Q v H'
def TP (X : Cx) (pins : List (Addr × Obj)) (σ : St) (Q : Bool → Hp → Prop) (b : Bool) (s' : Shared) : Prop := ∃ H', Inv X pins σ H' s' ∧ Q b H'
def AP (X : Cx) (pins : List (Addr × Obj)) (σ : St) (Q : List V → Hp → Prop) (us : List Value) (s' : Shared) : Prop := ∃ vs H', Inv X pins σ H' s' ∧ Vals vs us ∧ Q vs H'
def SP (X : Cx) (pins : List (Addr × Obj)) (D : Ends) (f : Flow) (s' : Shared) : Prop :=
  match f with
  | .next => ∃ σ' H', Inv X pins σ' H' s' ∧ D.nx σ' H'
  | .brk => ∃ σ' H', Inv X pins σ' H' s' ∧ D.bk σ' H'
  | .cont => ∃ σ' H', Inv X pins σ' H' s' ∧ D.ct σ' H'
  | .ret u => ∃ v σ' H', Inv X pins σ' H' s' ∧ RelV v u ∧ D.rt v H'

def PE (X : Cx) (e : Expr) (t : TE) : Prop :=
  ∀ (pins : List (Addr × Obj)) (s : Shared) (σ : St) (H : Hp) (Q : VK), Inv X pins σ H s → t σ H Q → wpAny (model X.prog X.w) X.A (eval e X.env) (EP X pins σ Q) X.xe s
def PT (X : Cx) (e : Expr) (t : TT) : Prop :=
  ∀ (pins : List (Addr × Obj)) (s : Shared) (σ : St) (H : Hp) (Q : Bool → Hp → Prop), Inv X pins σ H s → t σ H Q → wpAny (model X.prog X.w) X.A (isTrue e X.env (eval e X.env)) (TP X pins σ Q) X.xe s
/-- a test whatever its 'whole' is (and, or) -/
def PW (X : Cx) (e : Expr) (t : TT) : Prop :=
  ∀ (whole : Sem Value) (pins : List (Addr × Obj)) (s : Shared) (σ : St) (H : Hp) (Q : Bool → Hp → Prop), Inv X pins σ H s → t σ H Q → wpAny (model X.prog X.w) X.A (isTrue e X.env whole) (TP X pins σ Q) X.xe s
theorem PW.pt {X : Cx} {e : Expr} {t : TT} (h : PW X e t) : PT X e t := h _
/-- an argument list (no star), from the left -/
def PA (X : Cx) (es : List Expr) (t : TA) : Prop :=
  ∀ (pos : Pos) (pins : List (Addr × Obj)) (s : Shared) (σ : St) (H : Hp) (Q : List V → Hp → Prop), Inv X pins σ H s → t σ H Q → wpAny (model X.prog X.w) X.A (spliced (backTo pos (starEach es X.env))) (AP X pins σ Q) X.xe s
def PS (X : Cx) (st : Stmt) (t : TS) : Prop :=
  ∀ (pins : List (Addr × Obj)) (s : Shared) (σ : St) (H : Hp) (D : Ends), Inv X pins σ H s → t D σ H → wpAny (model X.prog X.w) X.A (exec st X.env) (SP X pins D) X.xe s
def PSs (X : Cx) (st : List Stmt) (t : TS) : Prop :=
  ∀ (pins : List (Addr × Obj)) (s : Shared) (σ : St) (H : Hp) (D : Ends), Inv X pins σ H s → t D σ H → wpAny (model X.prog X.w) X.A (execs st X.env) (SP X pins D) X.xe s
/-- weaken the end -/
theorem thn {α : Type} {t : Sem α} {Q Q' : α → Shared → Prop} {M : Model} {A : Around} {E : Value → Shared → Prop} {s : Shared} (h : wpAny M A t Q E s) (hQ : ∀ a s, Q a s → Q' a s) : wpAny M A t Q' E s := wpAny_mono h hQ fun _ _ x => x
end L2

namespace L2
open PySem PySem.Spec PyProof.Rows
section
variable {X : Cx}

/-- two expressions in a row -/
theorem bin {a b : Expr} {ta tb : TE} (ha : PE X a ta) (hb : PE X b tb) {pins : List (Addr × Obj)} {s : Shared} {σ : St} {H : Hp} {R : V → V → Hp → Prop} (I : Inv X pins σ H s) (h : ta σ H fun x H1 => tb σ H1 fun y H2 => R x y H2)
    {α : Type} {Q : α → Shared → Prop} {f : Value → Value → Sem α}
    (hf : ∀ v u s2 x y H2, Inv X pins σ H2 s2 → RelV x v → RelV y u → R x y H2 → wpAny (model X.prog X.w) X.A (f v u) Q X.xe s2) :
    wpAny (model X.prog X.w) X.A (eval a X.env) (fun v s₁ => wpAny (model X.prog X.w) X.A (eval b X.env) (fun u s₂ => wpAny (model X.prog X.w) X.A (f v u) Q X.xe s₂) X.xe s₁) X.xe s := by
  refine thn (ha pins s σ H _ I h) fun v s1 ⟨x, H1, I1, r1, q1⟩ => ?_
  refine thn (hb pins s1 σ H1 _ I1 q1) fun u s2 ⟨y, H2, I2, r2, q2⟩ => ?_
  exact hf v u s2 x y H2 I2 r1 r2 q2

/-! ### names and constants -/
def tVar (i : Nat) : TE := fun σ H Q => ∃ v, σ[i]? = some (some v) ∧ Q v H
def tC (v : V) : TE := fun _ H Q => Q v H
theorem pe_var {i : Nat} {x : Str} {pos : Pos} (hN : X.N[i]? = some x) (hv : Vis X.env.scope x) (hd : (x == ("__debug__" : Str)) = false := by decide) (hcd : (x == ("__classdict__" : Str)) = false := by decide) : PE X (.Name x pos) (tVar i) := by
  intro pins s σ H Q I h
  obtain ⟨v, e, h⟩ := h
  obtain ⟨m, hn, hl⟩ := I.loc
  obtain ⟨u, r, l⟩ := hl i x v hN e hv
  have fin : EP X pins σ Q u s := ⟨v, H, I, r, h⟩
  rcases l with ⟨hk, hm⟩ | ⟨hk, c, hc, hcell⟩
  · exact wpAny_Name (wpAny_loadName_local I.ok.kind hk hn hm fin) hd
  · rcases hk with hk | hk
    · exact wpAny_Name (wpAny_loadName_cell I.ok.kind hk hc hcell fin) hd
    · exact wpAny_Name (wpAny_loadName_free I.ok.kind hk hc hcell fin hcd) hd
theorem pe_int {i j pos} : PE X (.Constant (.int i) j pos) (tC (.int i)) := fun _ _ _ H _ I h => wpAny_Constant_int ⟨.int i, H, I.tok _, ⟨_, rfl⟩, h⟩
theorem pe_bl {b j pos} : PE X (.Constant (.bool b) j pos) (tC (.bl b)) := fun _ _ _ H _ I h => Constant_bool ⟨.bl b, H, I, rfl, h⟩
theorem pe_non {j pos} : PE X (.Constant .none j pos) (tC .non) := fun _ _ _ H _ I h => Constant_none ⟨.non, H, I, rfl, h⟩
theorem pe_str {x j pos} : PE X (.Constant (.str x) j pos) (tC (.str x)) := fun _ _ _ H _ I h => Calls.Constant_str ⟨.str x, H, I.tok _, ⟨_, rfl⟩, h⟩

/-- a global name of the def -/
def Gl (X : Cx) (x : Str) : Prop := X.env.kindOf x = some .globalImplicit
theorem ld_glob {E : Value → Shared → Prop} {pins : List (Addr × Obj)} {s : Shared} {σ : St} {H : Hp} {x : Str} {u : Value} {pos : Pos} {Q : Value → Shared → Prop} (I : Inv X pins σ H s) (hg : Gl X x) (hm : X.mg x = some u) (h : Q u s)
    (hd : (x == ("__debug__" : Str)) = false := by decide) : wpAny (model X.prog X.w) X.A (eval (.Name x pos) X.env) Q E s :=
  Calls.Name_function_global I.ok.kind hg (Calls.loadGlobal_global (by rw [I.ok.glob]; exact I.mod.glob.keeps I.bk) hm h) hd
theorem ld_blt {E : Value → Shared → Prop} {pins : List (Addr × Obj)} {s : Shared} {σ : St} {H : Hp} {x : Str} {u : Value} {pos : Pos} {Q : Value → Shared → Prop} (I : Inv X pins σ H s) (hg : Gl X x) (hm : X.mg x = none) (hv : bootBuiltins x = some u) (h : Q u s)
    (hn : x ≠ "__name__" := by decide) (hd : (x == ("__debug__" : Str)) = false := by decide) : wpAny (model X.prog X.w) X.A (eval (.Name x pos) X.env) Q E s := by
  obtain ⟨mb, h1, h2⟩ := I.mod.blt
  exact Calls.Name_function_global I.ok.kind hg (Calls.loadGlobal_builtin (by rw [I.ok.glob]; exact I.mod.glob.keeps I.bk) hm (by rw [I.ok.blt]; exact h1.keeps I.bk) ((h2 x hn).trans hv) h) hd
/-- a module's constant, a class, a function, as a value -/
theorem pe_glob {x : Str} {v : V} {u : Value} {pos : Pos} (hg : Gl X x) (hm : X.mg x = some u) (r : RelV v u) (hd : (x == ("__debug__" : Str)) = false := by decide) : PE X (.Name x pos) (tC v) :=
  fun _ _ _ H _ I h => ld_glob I hg hm ⟨v, H, I, r, h⟩ hd
theorem pe_bltn {x : Str} {v : V} {u : Value} {pos : Pos} (hg : Gl X x) (hm : X.mg x = none) (hv : bootBuiltins x = some u) (r : RelV v u) (hn : x ≠ "__name__" := by decide) (hd : (x == ("__debug__" : Str)) = false := by decide) : PE X (.Name x pos) (tC v) :=
  fun _ _ _ H _ I h => ld_blt I hg hm hv ⟨v, H, I, r, h⟩ hn hd

/-! ### arithmetic -/
/-- two ints -/
def t2I (ta tb : TE) (k : Int → Int → Hp → Prop) : St → Hp → Prop := fun σ H => ta σ H fun x H1 => tb σ H1 fun y H2 => ∃ i j, x = .int i ∧ y = .int j ∧ k i j H2
def tAdd (ta tb : TE) : TE := fun σ H Q => t2I ta tb (fun i j H2 => Q (.int (i + j)) H2) σ H
def tSub (ta tb : TE) : TE := fun σ H Q => t2I ta tb (fun i j H2 => Q (.int (i - j)) H2) σ H
/-- the left factor below 2^64 -/
def tMul (ta tb : TE) : TE := fun σ H Q => t2I ta tb (fun i j H2 => (-(2 ^ 64) < i ∧ i < 2 ^ 64) ∧ Q (.int (i * j)) H2) σ H
variable {a b : Expr} {ta tb : TE} {pos : Pos}
theorem pe_add (ha : PE X a ta) (hb : PE X b tb) : PE X (.BinOp a .Add b pos) (tAdd ta tb) := by
  intro pins s σ H Q I h
  refine wpAny_BinOp (bin ha hb I h fun v u s2 x y H2 I2 rx ry q => ?_)
  obtain ⟨i, j, rfl, rfl, q⟩ := q
  obtain ⟨t, rfl⟩ := rx
  obtain ⟨t', rfl⟩ := ry
  exact add_int ⟨.int _, H2, I2.tok _, ⟨_, rfl⟩, q⟩
theorem pe_sub (ha : PE X a ta) (hb : PE X b tb) : PE X (.BinOp a .Sub b pos) (tSub ta tb) := by
  intro pins s σ H Q I h
  refine wpAny_BinOp (bin ha hb I h fun v u s2 x y H2 I2 rx ry q => ?_)
  obtain ⟨i, j, rfl, rfl, q⟩ := q
  obtain ⟨t, rfl⟩ := rx
  obtain ⟨t', rfl⟩ := ry
  exact sub_int ⟨.int _, H2, I2.tok _, ⟨_, rfl⟩, q⟩
theorem pe_mul (ha : PE X a ta) (hb : PE X b tb) : PE X (.BinOp a .Mult b pos) (tMul ta tb) := by
  intro pins s σ H Q I h
  refine wpAny_BinOp (bin ha hb I h fun v u s2 x y H2 I2 rx ry q => ?_)
  obtain ⟨i, j, rfl, rfl, ⟨q1, q2⟩, q⟩ := q
  obtain ⟨t, rfl⟩ := rx
  obtain ⟨t', rfl⟩ := ry
  exact mul_int ⟨.int _, H2, I2.tok _, ⟨_, rfl⟩, q⟩ (.of_left (intBits_le_64 q1 q2))

/-! ### comparisons -/
def PC (X : Cx) (op : CmpOp) (a b : Expr) (t : TE) : Prop :=
  ∀ (pins : List (Addr × Obj)) (s : Shared) (σ : St) (H : Hp) (Q : VK), Inv X pins σ H s → t σ H Q →
    wpAny (model X.prog X.w) X.A (eval a X.env) (fun v s₁ => wpAny (model X.prog X.w) X.A (eval b X.env) (fun u s₂ => wpAny (model X.prog X.w) X.A (compareOp op v u) (EP X pins σ Q) X.xe s₂) X.xe s₁) X.xe s
theorem nobehind (b : Expr) {op : CmpOp} (h : op ≠ .In) (h2 : op ≠ .NotIn) : behindInMarks op b = false := by
  have e1 : (op == CmpOp.In) = false := by cases op <;> first | rfl | exact absurd rfl h
  have e2 : (op == CmpOp.NotIn) = false := by cases op <;> first | rfl | exact absurd rfl h2
  cases b <;> simp [behindInMarks, e1, e2]
def tCmp (p : Int → Int → Bool) (ta tb : TE) : TE := fun σ H Q => t2I ta tb (fun i j H2 => Q (.bl (p i j)) H2) σ H
abbrev tLt : TE → TE → TE := tCmp fun i j => decide (i < j)
abbrev tLe : TE → TE → TE := tCmp fun i j => decide (i ≤ j)
abbrev tGt : TE → TE → TE := tCmp fun i j => decide (j < i)
abbrev tGe : TE → TE → TE := tCmp fun i j => decide (j ≤ i)
abbrev tEqI : TE → TE → TE := tCmp fun i j => decide (i = j)
abbrev tNeI : TE → TE → TE := tCmp fun i j => !decide (i = j)
/-- a comparison of two ints, by its rule -/
theorem pc_int {op : CmpOp} {p : Int → Int → Bool} (ha : PE X a ta) (hb : PE X b tb)
    (rule : ∀ (i j : Int) (t u : Tok) (Q : Value → Shared → Prop) (s : Shared), Q (.bool (p i j)) s → wpAny (model X.prog X.w) X.A (compareOp op (.int i t) (.int j u)) Q X.xe s) : PC X op a b (tCmp p ta tb) := by
  intro pins s σ H Q I h
  refine bin ha hb I h fun v u s2 x y H2 I2 rx ry q => ?_
  obtain ⟨i, j, rfl, rfl, q⟩ := q
  obtain ⟨t, rfl⟩ := rx
  obtain ⟨t', rfl⟩ := ry
  exact rule i j t t' _ s2 ⟨.bl _, H2, I2, rfl, q⟩
theorem pc_lt (ha : PE X a ta) (hb : PE X b tb) : PC X .Lt a b (tLt ta tb) := pc_int ha hb fun _ _ _ _ _ _ h => lt_int h
theorem pc_le (ha : PE X a ta) (hb : PE X b tb) : PC X .LtE a b (tLe ta tb) := pc_int ha hb fun _ _ _ _ _ _ h => le_int h
theorem pc_gt (ha : PE X a ta) (hb : PE X b tb) : PC X .Gt a b (tGt ta tb) := pc_int ha hb fun _ _ _ _ _ _ h => gt_int h
theorem pc_ge (ha : PE X a ta) (hb : PE X b tb) : PC X .GtE a b (tGe ta tb) := pc_int ha hb fun _ _ _ _ _ _ h => ge_int h
theorem pc_eqI (ha : PE X a ta) (hb : PE X b tb) : PC X .Eq a b (tEqI ta tb) := pc_int ha hb fun _ _ _ _ _ _ h => eq_int (by rw [Bool.beq_eq_decide_eq]; exact h)
theorem pc_neI (ha : PE X a ta) (hb : PE X b tb) : PC X .NotEq a b (tNeI ta tb) := pc_int ha hb fun _ _ _ _ _ _ h => ne_int (by rw [bne, Bool.beq_eq_decide_eq]; exact h)
/-- is None -/
def tIsN (ta : TE) : TE := fun σ H Q => ta σ H fun x H1 => Q (.bl (decide (x = .non))) H1
def tNotN (ta : TE) : TE := fun σ H Q => ta σ H fun x H1 => Q (.bl (!decide (x = .non))) H1
theorem RelV.none_iff {x : V} {v : Value} (r : RelV x v) : (v == Value.none) = decide (x = .non) := by
  cases x with
  | non => cases r; rfl
  | bl _ => cases r; rfl
  | int _ => obtain ⟨t, rfl⟩ := r; rfl
  | str _ => obtain ⟨t, rfl⟩ := r; rfl
  | byt _ => obtain ⟨t, rfl⟩ := r; rfl
  | flt _ => obtain ⟨t, rfl⟩ := r; rfl
  | ref _ => cases r; rfl
  | ty _ => cases r; rfl
theorem pc_isN {j pos'} (ha : PE X a ta) : PC X .Is a (.Constant .none j pos') (tIsN ta) := by
  intro pins s σ H Q I h
  refine thn (ha pins s σ H _ I h) fun v s1 ⟨x, H1, I1, r1, q1⟩ => ?_
  exact Constant_none (is_none_gen ⟨.bl _, H1, I1, by rw [r1.none_iff]; rfl, q1⟩)
theorem pc_notN {j pos'} (ha : PE X a ta) : PC X .IsNot a (.Constant .none j pos') (tNotN ta) := by
  intro pins s σ H Q I h
  refine thn (ha pins s σ H _ I h) fun v s1 ⟨x, H1, I1, r1, q1⟩ => ?_
  exact Constant_none (isnot_none_gen ⟨.bl _, H1, I1, by rw [r1.none_iff]; rfl, q1⟩)
/-- a comparison as a value, as a test -/
def tB (t : TE) : TT := fun σ H Q => t σ H fun x H1 => ∃ c, x = .bl c ∧ Q c H1
theorem pe_cmp {op : CmpOp} {t : TE} (h : PC X op a b t) (h1 : behindInMarks op b = false := by first | exact nobehind _ (by decide) (by decide) | rfl) : PE X (.Compare a [op] [b] pos) t := fun pins s σ H Q I hw => wpAny_Compare1 (h pins s σ H Q I hw) h1
theorem pt_cmp {op : CmpOp} {t : TE} (h : PC X op a b t) (h1 : behindInMarks op b = false := by first | exact nobehind _ (by decide) (by decide) | rfl) : PT X (.Compare a [op] [b] pos) (tB t) := by
  intro pins s σ H Q I hw
  refine wpAny_isTrue_Compare1 (thn (h pins s σ H _ I hw) fun v s1 h1 => thn h1 fun u s2 h2 => thn h2 fun c s3 ⟨x, H1, I1, r1, q1⟩ => ?_) h1
  obtain ⟨d, rfl, q⟩ := q1
  cases r1
  exact wpAny_truthy_bool ⟨H1, I1, q⟩
/-- an expression whose value is a bool, as a test -/
theorem pt_val {e : Expr} {t : TE} (h : PE X e t) (he : ∀ whole, isTrue e X.env whole = (do let v ← whole; standAt e.pos; holding [v] (truthy v)) := by intro _; rfl) : PT X e (tB t) := by
  intro pins s σ H Q I hw
  refine isTrue_plain (thn (h pins s σ H _ I hw) fun v s1 ⟨x, H1, I1, r1, q1⟩ => ?_) (he _)
  obtain ⟨d, rfl, q⟩ := q1
  cases r1
  exact wpAny_truthy_bool ⟨H1, I1, q⟩

/-! ### and, or, not -/
variable {tA tB' : TT} {rest : List Expr}
def tAnd (t u : TT) : TT := fun σ H Q => t σ H fun c H1 => if c = true then u σ H1 Q else Q false H1
def tOr (t u : TT) : TT := fun σ H Q => t σ H fun c H1 => if c = true then Q true H1 else u σ H1 Q
def tNot (t : TT) : TT := fun σ H Q => t σ H fun c H1 => Q (!c) H1
theorem pw_and1 (ha : PT X a tA) : PW X (.BoolOp .And [a] pos) tA := by
  intro wh pins s σ H Q I h
  refine isTrue_and (thn (ha pins s σ H Q I h) fun c s1 e => ?_)
  cases c with
  | true => exact isTrue_and_nil e
  | false => exact e
theorem pw_or1 (ha : PT X a tA) : PW X (.BoolOp .Or [a] pos) tA := by
  intro wh pins s σ H Q I h
  refine isTrue_or (thn (ha pins s σ H Q I h) fun c s1 e => ?_)
  cases c with
  | false => exact isTrue_or_nil e
  | true => exact e
theorem pw_and (ha : PT X a tA) (hb : PW X (.BoolOp .And (b :: rest) pos) tB') : PW X (.BoolOp .And (a :: b :: rest) pos) (tAnd tA tB') := by
  intro wh pins s σ H Q I h
  refine isTrue_and (thn (ha pins s σ H _ I h) fun c s1 ⟨H1, I1, q1⟩ => ?_)
  cases c with
  | true => exact hb wh pins s1 σ H1 Q I1 q1
  | false => exact ⟨H1, I1, q1⟩
theorem pw_or (ha : PT X a tA) (hb : PW X (.BoolOp .Or (b :: rest) pos) tB') : PW X (.BoolOp .Or (a :: b :: rest) pos) (tOr tA tB') := by
  intro wh pins s σ H Q I h
  refine isTrue_or (thn (ha pins s σ H _ I h) fun c s1 ⟨H1, I1, q1⟩ => ?_)
  cases c with
  | true => exact ⟨H1, I1, q1⟩
  | false => exact hb wh pins s1 σ H1 Q I1 q1
theorem pt_not (ha : PT X a tA) : PT X (.UnaryOp .Not a pos) (tNot tA) := by
  intro pins s σ H Q I h
  exact isTrue_not (ha pins s σ H (fun c H1 => Q (!c) H1) I h)
/-- .. as values (bools) -/
def tAndV (ta tb : TE) : TE := fun σ H Q => ta σ H fun x H1 => ∃ c, x = .bl c ∧ if c = true then tb σ H1 Q else Q (.bl false) H1
def tOrV (ta tb : TE) : TE := fun σ H Q => ta σ H fun x H1 => ∃ c, x = .bl c ∧ if c = true then Q (.bl true) H1 else tb σ H1 Q
def tNotV (ta : TE) : TE := fun σ H Q => ta σ H fun x H1 => ∃ c, x = .bl c ∧ Q (.bl (!c)) H1
theorem pe_one {op} {t : TE} (h : PE X a t) : PE X (.BoolOp op [a] pos) t := fun pins s σ H Q I hw => BoolOp_one (h pins s σ H Q I hw)
theorem pe_and (ha : PE X a ta) (hb : PE X (.BoolOp .And (b :: rest) pos) tb) : PE X (.BoolOp .And (a :: b :: rest) pos) (tAndV ta tb) := by
  intro pins s σ H Q I h
  refine BoolOp_and (thn (ha pins s σ H _ I h) fun v s1 ⟨x, H1, I1, r1, q1⟩ => ?_)
  obtain ⟨c, rfl, q1⟩ := q1
  cases r1
  refine wpAny_truthy_bool ?_
  cases c with
  | true => exact hb pins s1 σ H1 Q I1 q1
  | false => exact ⟨.bl false, H1, I1, rfl, q1⟩
theorem pe_or (ha : PE X a ta) (hb : PE X (.BoolOp .Or (b :: rest) pos) tb) : PE X (.BoolOp .Or (a :: b :: rest) pos) (tOrV ta tb) := by
  intro pins s σ H Q I h
  refine BoolOp_or (thn (ha pins s σ H _ I h) fun v s1 ⟨x, H1, I1, r1, q1⟩ => ?_)
  obtain ⟨c, rfl, q1⟩ := q1
  cases r1
  refine wpAny_truthy_bool ?_
  cases c with
  | false => exact hb pins s1 σ H1 Q I1 q1
  | true => exact ⟨.bl true, H1, I1, rfl, q1⟩
theorem pe_not (ha : PE X a ta) : PE X (.UnaryOp .Not a pos) (tNotV ta) := by
  intro pins s σ H Q I h
  refine UnaryOp_ (thn (ha pins s σ H _ I h) fun v s1 ⟨x, H1, I1, r1, q1⟩ => ?_)
  obtain ⟨c, rfl, q1⟩ := q1
  cases r1
  exact not_of (wpAny_truthy_bool ⟨.bl (!c), H1, I1, rfl, q1⟩)
/-- a if t else b -/
def tIf (t : TT) (ta tb : TE) : TE := fun σ H Q => t σ H fun c H1 => if c = true then ta σ H1 Q else tb σ H1 Q
theorem pe_ifExp {c : Expr} (hc : PT X c tA) (ha : PE X a ta) (hb : PE X b tb) : PE X (.IfExp c a b pos) (tIf tA ta tb) := by
  intro pins s σ H Q I h
  refine wpAny_IfExp (thn (hc pins s σ H _ I h) fun d s1 ⟨H1, I1, q1⟩ => ?_)
  cases d with
  | true => exact ha pins s1 σ H1 Q I1 q1
  | false => exact hb pins s1 σ H1 Q I1 q1
end
end L2

namespace L2
open PySem PySem.Spec PyProof.Rows

/-! ### a list, a tuple that is read: tracked, frozen, or an object of the module -/
def SqL (K : PySem.W.Frag) (H : Hp) (a : Addr) (xs : List V) : Prop :=
  Rd H a (.lst xs) ∨
    ∃ (o : Obj) (its : Array Value) (n : Nat), K.lookup a = some o ∧ o.cls = .type "list" ∧ o.dict = none ∧ o.data = .seq its n ∧ its.size ≤ sizeLine ∧ Vals xs its.toList
def SqT (K : PySem.W.Frag) (H : Hp) (a : Addr) (xs : List V) : Prop :=
  Rd H a (.tup xs) ∨
    ∃ (o : Obj) (its : Array Value) (n : Nat), K.lookup a = some o ∧ o.cls = .type "tuple" ∧ o.data = .seq its n ∧ its.size ≤ sizeLine ∧ Vals xs its.toList
def absV : Value → Option V
  | .none => some .non
  | .bool b => some (.bl b)
  | .int i _ => some (.int i)
  | .str x _ => some (.str x)
  | .bytes b _ => some (.byt b)
  | .float b _ => some (.flt b)
  | .ref a => some (.ref a)
  | .type n => some (.ty n)
  | _ => none
theorem RelV.abs {x : V} {u : Value} (r : RelV x u) : absV u = some x := by
  cases x with
  | non => cases r; rfl
  | bl _ => cases r; rfl
  | int _ => obtain ⟨t, rfl⟩ := r; rfl
  | str _ => obtain ⟨t, rfl⟩ := r; rfl
  | byt _ => obtain ⟨t, rfl⟩ := r; rfl
  | flt _ => obtain ⟨t, rfl⟩ := r; rfl
  | ref _ => cases r; rfl
  | ty _ => cases r; rfl
theorem RelV.inj {x y : V} {u : Value} (r : RelV x u) (q : RelV y u) : x = y := Option.some.inj (r.abs.symm.trans q.abs)
theorem Vals.inj : ∀ {xs ys : List V} {us : List Value}, Vals xs us → Vals ys us → xs = ys
  | _, _, _, .nil, .nil => rfl
  | _, _, _, .cons r t, .cons r' t' => by rw [r.inj r', Vals.inj t t']
section
variable {X : Cx} {pins : List (Addr × Obj)} {σ : St} {H : Hp} {s : Shared} {a : Addr} {xs ys : List V}
theorem SqL.of {K : PySem.W.Frag} (h : H a = some (.lst xs)) : SqL K H a xs := .inl (.inl h)
theorem SqT.of {K : PySem.W.Frag} (h : H a = some (.tup xs)) : SqT K H a xs := .inl (.inl h)
theorem Inv.list (I : Inv X pins σ H s) (h : SqL X.K H a xs) : ∃ its : List Value, Vals xs its ∧ PlainL s.heap a its.toArray ∧ xs.length ≤ sizeLine := by
  rcases h with h | ⟨o, its, n, hk, hc, hd, hs, hz, r⟩
  · obtain ⟨z, its, n, r, e⟩ := h.ok I.hok
    exact ⟨its, r, ⟨_, n, e, rfl, rfl, rfl⟩, z⟩
  · refine ⟨its.toList, r, ⟨o, n, I.kIn a o hk, hc, hd, by simpa using hs⟩, ?_⟩
    have e := r.length
    simp only [Array.length_toList] at e
    omega
theorem Inv.tuple (I : Inv X pins σ H s) (h : SqT X.K H a xs) : ∃ its : List Value, Vals xs its ∧ IsTup s.heap a its.toArray ∧ xs.length ≤ sizeLine := by
  rcases h with h | ⟨o, its, n, hk, hc, hs, hz, r⟩
  · obtain ⟨z, its, r, p⟩ := h.ok I.hok
    exact ⟨its, r, p, z⟩
  · refine ⟨its.toList, r, ⟨o, I.kIn a o hk, hc, n, by simpa using hs⟩, ?_⟩
    have e := r.length
    simp only [Array.length_toList] at e
    omega
theorem Inv.list_inj (I : Inv X pins σ H s) (h : SqL X.K H a xs) (h' : SqL X.K H a ys) : xs = ys := by
  obtain ⟨its, r, ⟨o, n, e, _, _, d⟩, _⟩ := I.list h
  obtain ⟨its', r', ⟨o', n', e', _, _, d'⟩, _⟩ := I.list h'
  rw [e] at e'; cases e'
  rw [d] at d'
  injection d' with d1 _
  have : its = its' := by simpa using congrArg Array.toList d1
  subst this
  exact r.inj r'
theorem Inv.tuple_inj (I : Inv X pins σ H s) (h : SqT X.K H a xs) (h' : SqT X.K H a ys) : xs = ys := by
  obtain ⟨its, r, ⟨o, e, _, n, d⟩, _⟩ := I.tuple h
  obtain ⟨its', r', ⟨o', e', _, n', d'⟩, _⟩ := I.tuple h'
  rw [e] at e'; cases e'
  rw [d] at d'
  injection d' with d1 _
  have : its = its' := by simpa using congrArg Array.toList d1
  subst this
  exact r.inj r'
end

/-! ### another wish about exceptions -/
abbrev Cx.wish (X : Cx) (E : Value → Shared → Prop) : Cx := { X with xe := E }
/-- no exception leaves -/
abbrev Cx.nox (X : Cx) : Cx := X.wish fun _ _ => False
theorem Cx.Ok.wish {X : Cx} (ok : X.Ok) (E : Value → Shared → Prop) : (X.wish E).Ok :=
  ⟨ok.mod, ok.kind, ok.glob, ok.blt, ok.above, ok.inj, ok.has, ok.cab, ok.hd, ok.frames, ok.stk, ok.exf, ok.bs, ok.bsz, ok.noex, ok.exfs, ok.funs, ok.frf⟩
theorem Cx.Ok.unwish {X : Cx} {E : Value → Shared → Prop} (ok : (X.wish E).Ok) : X.Ok :=
  ⟨ok.mod, ok.kind, ok.glob, ok.blt, ok.above, ok.inj, ok.has, ok.cab, ok.hd, ok.frames, ok.stk, ok.exf, ok.bs, ok.bsz, ok.noex, ok.exfs, ok.funs, ok.frf⟩
section
variable {X : Cx} {pins : List (Addr × Obj)} {σ : St} {H : Hp} {s : Shared} {E : Value → Shared → Prop}
theorem Inv.wish (I : Inv X pins σ H s) (E : Value → Shared → Prop) : Inv (X.wish E) pins σ H s := ⟨I.ok.wish E, I.os, I.bare, I.base, I.loc, I.cell, I.free, I.freeC, I.pin, I.hok, I.len⟩
theorem Inv.unwish (I : Inv (X.wish E) pins σ H s) : Inv X pins σ H s := ⟨I.ok.unwish, I.os, I.bare, I.base, I.loc, I.cell, I.free, I.freeC, I.pin, I.hok, I.len⟩
theorem SP.unwish {D : Ends} {f : Flow} {s' : Shared} (h : SP (X.wish E) pins D f s') : SP X pins D f s' := by
  cases f with
  | next => obtain ⟨σ', H', I, q⟩ := h; exact ⟨σ', H', I.unwish, q⟩
  | brk => obtain ⟨σ', H', I, q⟩ := h; exact ⟨σ', H', I.unwish, q⟩
  | cont => obtain ⟨σ', H', I, q⟩ := h; exact ⟨σ', H', I.unwish, q⟩
  | ret u => obtain ⟨v, σ', H', I, r, q⟩ := h; exact ⟨v, σ', H', I.unwish, r, q⟩
theorem PE.nox {e : Expr} {t : TE} (h : PE X.nox e t) : PE X e t := fun pins s σ H Q I hw =>
  wpAny_mono (h pins s σ H Q (I.wish _) hw) (fun _ _ ⟨v, H', I', r, q⟩ => ⟨v, H', I'.unwish, r, q⟩) fun _ _ z => False.elim z
theorem PT.nox {e : Expr} {t : TT} (h : PT X.nox e t) : PT X e t := fun pins s σ H Q I hw =>
  wpAny_mono (h pins s σ H Q (I.wish _) hw) (fun _ _ ⟨H', I', q⟩ => ⟨H', I'.unwish, q⟩) fun _ _ z => False.elim z
theorem PSs.nox {st : List Stmt} {t : TS} (h : PSs X.nox st t) : PSs X st t := fun pins s σ H D I hw =>
  wpAny_mono (h pins s σ H D (I.wish _) hw) (fun _ _ q => q.unwish) fun _ _ z => False.elim z
end

/-! ### blocks and small statements -/
section
variable {X : Cx} {st : Stmt} {rest : List Stmt} {t u : TS} {e : Expr} {te : TE} {pos : Pos}
def tNext : TS := fun D σ H => D.nx σ H
def tSeq (t u : TS) : TS := fun D σ H => t { D with nx := u D } σ H
theorem pss_nil : PSs X [] tNext := fun _ _ σ H _ I h => wpAny_execs_nil ⟨σ, H, I, h⟩
theorem pss_cons (h1 : PS X st t) (h2 : PSs X rest u) : PSs X (st :: rest) (tSeq t u) := by
  intro pins s σ H D I h
  refine wpAny_execs_cons (thn (h1 pins s σ H { D with nx := u D } I h) fun f s1 q => ?_)
  cases f with
  | next =>
    obtain ⟨σ', H', I', q⟩ := q
    exact h2 pins s1 σ' H' D I' q
  | ret v => exact q
  | brk => exact q
  | cont => exact q
theorem pss_one (h1 : PS X st t) : PSs X [st] t := by
  intro pins s σ H D I h
  refine wpAny_execs_cons (thn (h1 pins s σ H D I h) fun f s1 q => ?_)
  cases f with
  | next => exact wpAny_execs_nil q
  | ret v => exact q
  | brk => exact q
  | cont => exact q
def tBreak : TS := fun D σ H => D.bk σ H
def tCont : TS := fun D σ H => D.ct σ H
theorem ps_pass : PS X (.Pass pos) tNext := fun _ _ σ H _ I h => wpAny_Pass ⟨σ, H, I, h⟩
theorem ps_break : PS X (.Break pos) tBreak := fun _ _ σ H _ I h => wpAny_Break ⟨σ, H, I, h⟩
theorem ps_continue : PS X (.Continue pos) tCont := fun _ _ σ H _ I h => wpAny_Continue ⟨σ, H, I, h⟩
/-- in a def's body nothing is shown -/
theorem Inv.quiet {pins : List (Addr × Obj)} {σ : St} {H : Hp} {s : Shared} (I : Inv X pins σ H s) : interactive X.env = false := by simp [interactive, I.ok.kind]
/-- a docstring -/
theorem ps_doc {x j pos pos'} : PS X (.Expr (.Constant (.str x) j pos) pos') tNext := fun _ s σ H _ I h => wpAny_Expr (Calls.Constant_str (show SP X _ _ .next { s with toks := s.toks + 1 } from ⟨σ, H, I.tok _, h⟩)) I.quiet
/-- an expression whose value is dropped -/
def tDrop (te : TE) : TS := fun D σ H => te σ H fun _ H1 => D.nx σ H1
theorem ps_expr (he : PE X e te) (hs : swapsWith e none pos.line X.env = pure false := by rfl) : PS X (.Expr e pos) (tDrop te) := by
  intro pins s σ H D I h
  exact wpAny_Expr_any (thn (he pins s σ H _ I h) fun v s1 ⟨x, H1, I1, r1, q1⟩ => ⟨σ, H1, I1, q1⟩) I.quiet hs
def tRet (te : TE) : TS := fun D σ H => te σ H D.rt
theorem ps_ret (he : PE X e te) : PS X (.Return (some e) pos) (tRet te) := by
  intro pins s σ H D I h
  exact wpAny_Return_some (thn (he pins s σ H _ I h) fun v s1 ⟨x, H1, I1, r1, q1⟩ => ⟨x, σ, H1, I1, r1, q1⟩)
def tRetN : TS := fun D _ H => D.rt .non H
theorem ps_retN : PS X (.Return none pos) tRetN := fun _ _ σ H _ I h => wpAny_Return_none ⟨.non, σ, H, I, rfl, h⟩
def tIfS (c : TT) (t u : TS) : TS := fun D σ H => c σ H fun b H1 => if b = true then t D σ H1 else u D σ H1
theorem ps_if {c : Expr} {a b : List Stmt} {tc : TT} (hc : PT X c tc) (ha : PSs X a t) (hb : PSs X b u) : PS X (.If c a b pos) (tIfS tc t u) := by
  intro pins s σ H D I h
  refine wpAny_If (thn (hc pins s σ H _ I h) fun d s1 ⟨H1, I1, q1⟩ => ?_)
  cases d with
  | true => exact ha pins s1 σ H1 D I1 q1
  | false => exact hb pins s1 σ H1 D I1 q1
/-- code that the proof never comes to -/
def tNever : TS := fun _ _ _ => False
theorem ps_never : PS X st tNever := fun _ _ _ _ _ _ h => h.elim
theorem pss_never {sts : List Stmt} : PSs X sts tNever := fun _ _ _ _ _ _ h => h.elim
end

/-! ### targets -/
abbrev TG := V → St → Hp → (St → Hp → Prop) → Prop
abbrev TGs := List V → St → Hp → (St → Hp → Prop) → Prop
def PG (X : Cx) (target : Expr) (t : TG) : Prop :=
  ∀ (pins : List (Addr × Obj)) (s : Shared) (σ : St) (H : Hp) (v : V) (u : Value) (Q : St → Hp → Prop), Inv X pins σ H s → RelV v u → t v σ H Q →
    wpAny (model X.prog X.w) X.A (assign target X.env u) (fun _ s' => ∃ σ' H', Inv X pins σ' H' s' ∧ Q σ' H') X.xe s
/-- several targets, one after another -/
def PGs (X : Cx) (ts : List Expr) (t : TGs) : Prop :=
  ∀ (pins : List (Addr × Obj)) (s : Shared) (σ : St) (H : Hp) (vs : List V) (us : List Value) (Q : St → Hp → Prop), Inv X pins σ H s → Vals vs us → t vs σ H Q →
    wpAny (model X.prog X.w) X.A (assignInOrder ((assignEach ts X.env).map (·.2)) us) (fun _ s' => ∃ σ' H', Inv X pins σ' H' s' ∧ Q σ' H') X.xe s
/-- o[i] = v, by values -/
abbrev TSet := V → V → V → Hp → (Hp → Prop) → Prop
def PSet (X : Cx) (t : TSet) : Prop :=
  ∀ (pins : List (Addr × Obj)) (s : Shared) (σ : St) (H : Hp) (o i v : V) (ov iv u : Value) (Q : Hp → Prop), Inv X pins σ H s → RelV o ov → RelV i iv → RelV v u → t o i v H Q →
    wpAny (model X.prog X.w) X.A (setItem ov iv u) (fun _ s' => ∃ H', Inv X pins σ H' s' ∧ Q H') X.xe s
/-- a op= b, by values -/
abbrev TIp := V → V → Hp → VK → Prop
def PIp (X : Cx) (op : Operator) (t : TIp) : Prop :=
  ∀ (pins : List (Addr × Obj)) (s : Shared) (σ : St) (H : Hp) (x y : V) (v u : Value) (Q : VK), Inv X pins σ H s → RelV x v → RelV y u → t x y H Q →
    wpAny (model X.prog X.w) X.A (inplaceOp op v u) (EP X pins σ Q) X.xe s
section
variable {X : Cx} {pos : Pos}
def gName (i : Nat) : TG := fun v σ H Q => Q (σ.set i (some v)) H
theorem pg_name {i : Nat} {x : Str} (hN : X.N.Nodup) (hi : X.N[i]? = some x) (hx : Loc X.env.scope x) (hf : X.fn x = true ∨ X.env.scope.names.lookup x = some .local := by first | exact .inl rfl | exact .inr rfl | assumption) : PG X (.Name x pos) (gName i) := by
  intro pins s σ H v u Q I r h
  exact wpAny_assign_Name (store_ok I hN hi hx r (fun s' I' => ⟨_, H, I', h⟩) hf)
def gNil : TGs := fun vs σ H Q => vs = [] ∧ Q σ H
def gCons (t : TG) (u : TGs) : TGs := fun vs σ H Q => ∃ v r, vs = v :: r ∧ t v σ H fun σ' H' => u r σ' H' Q
theorem pgs_nil : PGs X [] gNil := by
  intro pins s σ H vs us Q I r h
  obtain ⟨e, h⟩ := h
  subst e
  cases r
  exact assignInOrder_nil ⟨σ, H, I, h⟩
theorem pgs_cons {e : Expr} {es : List Expr} {t : TG} {u : TGs} (h1 : PG X e t) (h2 : PGs X es u)
    (hs : (assignEach (e :: es) X.env).map (·.2) = assign e X.env :: (assignEach es X.env).map (·.2) := by rfl) : PGs X (e :: es) (gCons t u) := by
  intro pins s σ H vs us Q I r h
  obtain ⟨v, vr, e1, h⟩ := h
  subst e1
  cases r with
  | cons r rr =>
    rw [hs]
    refine assignInOrder_cons (thn (h1 pins s σ H _ _ _ I r h) fun _ s1 ⟨σ1, H1, I1, q1⟩ => ?_)
    exact h2 pins s1 σ1 H1 _ _ Q I1 rr q1
/-- (a, b, ..) = a tuple of that length -/
def gTup (K : PySem.W.Frag) (n : Nat) (t : TGs) : TG := fun v σ H Q => ∃ a xs, v = .ref a ∧ SqT K H a xs ∧ xs.length = n ∧ t xs σ H Q
theorem pg_tup {es : List Expr} {k : Nat} {t : TGs} {n : Nat} (hc : X.calm = true) (h : PGs X es t)
    (hn : (assignEach es X.env).length = n := by rfl) (hst : (assignEach es X.env).findIdx? (·.1) = none := by rfl) : PG X (.Tuple es k pos) (gTup X.K n t) := by
  intro pins s σ H v u Q I r hw
  obtain ⟨a, xs, e1, hq, hl, hw⟩ := hw
  subst e1
  cases r
  obtain ⟨its, rv, ht, hz⟩ := I.tuple hq
  refine assign_Tuple_tuple (I.ok.hd hc) ht (by simp [hn, ← hl, rv.length]) hst fun h' hx => ?_
  have I1 : Inv X pins σ H { s with heap := h' } := I.kept (t' := s.toks) fun b o e => hx b o (Nat.ne_of_lt (Heap.lt_size e)) e
  exact h pins _ σ H xs _ Q I1 (by simpa using rv) hw
/-- o[i] = .. -/
def gSub (to ti : TE) (t : TSet) : TG := fun v σ H Q => to σ H fun o H1 => ti σ H1 fun i H2 => t o i v H2 fun H3 => Q σ H3
theorem pg_sub {o i : Expr} {to ti : TE} {t : TSet} (ho : PE X o to) (hi : PE X i ti) (hs : PSet X t)
    (ha : ∀ v, assign (.Subscript o i pos) X.env v = (do
      let ov ← holding [v] (eval o X.env)
      let iv ← holding [v, ov] (eval i X.env)
      standAt pos
      holding [v, ov, iv] (setItem ov iv v)
      release [v, ov, iv] []) := by intro _; rfl) : PG X (.Subscript o i pos) (gSub to ti t) := by
  intro pins s σ H v u Q I r h
  rw [ha]
  refine wpAny_bind (wpAny_holding (thn (ho pins s σ H _ I h) fun ov s1 ⟨x, H1, I1, r1, q1⟩ => ?_))
  refine wpAny_bind (wpAny_holding (thn (hi pins s1 σ H1 _ I1 q1) fun iv s2 ⟨y, H2, I2, r2, q2⟩ => ?_))
  refine wpAny_bind (wpAny_standAt (wpAny_bind (wpAny_holding (thn (hs pins s2 σ H2 x y v ov iv u _ I2 r1 r2 r q2) fun _ s3 ⟨H3, I3, q3⟩ => ?_))))
  exact wpAny_release ⟨σ, H3, I3, q3⟩
/-- target = value -/
def tAsg (te : TE) (g : TG) : TS := fun D σ H => te σ H fun x H1 => g x σ H1 D.nx
theorem ps_asg {tg e : Expr} {te : TE} {g : TG} (he : PE X e te) (hg : PG X tg g) (hs : swapsWithSole [tg] e pos.line X.env = pure false := by rfl) (hw : swappedStores [tg] e X.env = pure none := by rfl)
    (h1 : (assignEach [tg] X.env).map (·.2) = [assign tg X.env] := by rfl) : PS X (.Assign [tg] e pos) (tAsg te g) := by
  intro pins s σ H D I h
  refine wpAny_Assign_stores (thn (he pins s σ H _ I h) fun v s1 ⟨x, H1, I1, r1, q1⟩ => ?_) hs hw
  rw [h1]
  exact thn (hg pins s1 σ H1 x v _ I1 r1 q1) fun _ s2 q => q
/-- name = value -/
theorem ps_set {i : Nat} {x : Str} {e : Expr} {te : TE} {pos' : Pos} (hN : X.N.Nodup) (hi : X.N[i]? = some x) (hx : Loc X.env.scope x) (he : PE X e te) (hs : swapsWith e (some (.Name x pos')) pos.line X.env = pure false := by rfl) (hf : X.fn x = true ∨ X.env.scope.names.lookup x = some .local := by first | exact .inl rfl | exact .inr rfl | assumption) :
    PS X (.Assign [.Name x pos'] e pos) (tAsg te (gName i)) := by
  intro pins s σ H D I h
  refine wpAny_Assign_Name (thn (he pins s σ H _ I h) fun v s1 ⟨y, H1, I1, r1, q1⟩ => ?_) hs
  exact store_ok I1 hN hi hx r1 (fun s2 I2 => ⟨_, H1, I2, q1⟩) hf
/-- a, b = x, y with plain local names: stored from the right; the pair itself is not tracked (the opening rows as in PyProof/Rows/TupAssign.lean:23) -/
def tPar (i j : Nat) (ta : TA) : TS := fun D σ H => ta σ H fun vs H1 => ∃ v w, vs = [v, w] ∧ D.nx ((σ.set i (some v)).set j (some w)) H1
theorem ps_par {i j : Nat} {x y : Str} {a b : Expr} {ta : TA} {px py pt : Pos} {kt k2 pt2} (hc : X.calm = true) (hN : X.N.Nodup) (hi : X.N[i]? = some x) (hj : X.N[j]? = some y) (hij : i ≠ j)
    (hx : X.env.scope.names.lookup x = some .local) (hy : X.env.scope.names.lookup y = some .local) (ha : PA X [a, b] ta)
    (hw : swappedStores [.Tuple [.Name x px, .Name y py] kt pt] (.Tuple [a, b] k2 pt2) X.env = pure (some [x, y]))
    (hs : swapsWithSole [.Tuple [.Name x px, .Name y py] kt pt] (.Tuple [a, b] k2 pt2) pos.line X.env = pure false := by rfl) :
    PS X (.Assign [.Tuple [.Name x px, .Name y py] kt pt] (.Tuple [a, b] k2 pt2) pos) (tPar i j ta) := by
  intro pins s σ H D I h
  rw [exec_Assign_arm]
  refine wpAny_bind (wpAny_standAt ?_)
  rw [hs]
  refine wpAny_bind (wpAny_pure ?_)
  rw [if_neg (by decide)]
  refine wpAny_bind (Tuple_ (thn (ha _ pins s σ H _ I h) fun us s1 ⟨vs, H1, I1, r1, q1⟩ => ?_))
  obtain ⟨v, w, e1, q1⟩ := q1
  subst e1
  obtain ⟨u1, u2, rfl, rv, rw'⟩ : ∃ u1 u2, us = [u1, u2] ∧ RelV v u1 ∧ RelV w u2 := by
    cases r1 with
    | cons p q =>
      cases q with
      | cons p' q' =>
        cases q'
        exact ⟨_, _, rfl, p, p'⟩
  refine wpAny_newObj_type ?_ (by show 2 ≤ sizeLine; decide)
  have I2 : Inv X pins σ H1 { s1 with heap := s1.heap.push { cls := .type "tuple", data := .seq [u1, u2].toArray } } := I1.kept (t' := s1.toks) fun b o e => Heap.get?_push_of_some _ e
  rw [hw]
  refine wpAny_bind (wpAny_pure ?_)
  show wpAny (model X.prog X.w) X.A (do rule "assign.swapped-stores"; let items ← unpackItems (.ref s1.heap.objs.size) 2 none; assignInOrder [fun v => bindName X.env y v, fun v => bindName X.env x v] items.reverse; pure Flow.next) _ _ _
  refine wpAny_bind (wpAny_rule (wpAny_bind (unpackItems_tuple (items := #[u1, u2]) (I.ok.hd hc) (IsTup.new s1.heap _) fun h' hx' => ?_)))
  have I3 := I2.kept (h' := h') (t' := s1.toks) fun b o e => hx' b o (Nat.ne_of_lt (Heap.lt_size e)) e
  show wpAny _ _ (assignInOrder [fun v => bindName X.env y v, fun v => bindName X.env x v] [u2, u1] >>= fun _ => pure Flow.next) _ _ _
  refine wpAny_bind (assignInOrder_cons (wpAny_bindName (store_ok I3 hN hj (.inl hy) rw' (fun s2 I4 => ?_) (.inr hy))))
  refine assignInOrder_cons (wpAny_bindName (store_ok I4 hN hi (.inl hx) rv (fun s3 I5 => assignInOrder_nil (wpAny_pure ?_)) (.inr hx)))
  rw [List.set_comm _ _ (Ne.symm hij)] at I5
  exact ⟨_, H1, I5, q1⟩
/-- name op= e -/
def tAug (i : Nat) (te : TE) (ti : TIp) : TS := fun D σ H => ∃ x, σ[i]? = some (some x) ∧ te σ H fun y H1 => ti x y H1 fun z H2 => D.nx (σ.set i (some z)) H2
theorem ps_aug {i : Nat} {x : Str} {e : Expr} {te : TE} {op : Operator} {ti : TIp} {pos' : Pos} (hN : X.N.Nodup) (hi : X.N[i]? = some x) (hx : Loc X.env.scope x) (he : PE X e te) (ho : PIp X op ti) (hf : X.fn x = true ∨ X.env.scope.names.lookup x = some .local := by first | exact .inl rfl | exact .inr rfl | assumption) :
    PS X (.AugAssign (.Name x pos') op e pos) (tAug i te ti) := by
  intro pins s σ H D I h
  obtain ⟨v, e1, h⟩ := h
  obtain ⟨m, hn, hl⟩ := I.loc
  have vis : Vis X.env.scope x := by rcases hx with k | k; exact .inl k; exact .inr (.inl k)
  obtain ⟨u, r, l⟩ := hl i x v hi e1 vis
  refine wpAny_AugAssign_Name ?_
  have go : wpAny (model X.prog X.w) X.A (eval e X.env) (fun w s₂ => wpAny (model X.prog X.w) X.A (inplaceOp op u w) (fun r s₃ => wpAny (model X.prog X.w) X.A (storeName X.env x r) (fun _ => SP X pins D .next) X.xe s₃) X.xe s₂) X.xe s := by
    refine thn (he pins s σ H _ I h) fun w s1 ⟨y, H1, I1, r1, q1⟩ => ?_
    refine thn (ho pins s1 σ H1 v y u w _ I1 r r1 q1) fun z s2 ⟨zv, H2, I2, r2, q2⟩ => ?_
    exact store_ok I2 hN hi hx r2 (fun s3 I3 => ⟨_, H2, I3, q2⟩) hf
  rcases l with ⟨hk, hm⟩ | ⟨hk, c, hc, hcell⟩
  · exact wpAny_loadName_local I.ok.kind hk hn hm go
  · rcases hk with hk | hk
    · exact wpAny_loadName_cell I.ok.kind hk hc hcell go
    · rcases hx with k | k
      · have : X.env.scope.names.lookup x = some .free := hk
        rw [k] at this; cases this
      · have : X.env.scope.names.lookup x = some .free := hk
        rw [k] at this; cases this
/-- o[i] op= e -/
def tAugS (to ti te : TE) (tget : V → V → Hp → VK → Prop) (tip : TIp) (tset : TSet) : TS := fun D σ H => to σ H fun o H1 => ti σ H1 fun i H2 => tget o i H2 fun x H3 => te σ H3 fun y H4 => tip x y H4 fun z H5 => tset o i z H5 fun H6 => D.nx σ H6
/-- o[i], by values -/
def PGet (X : Cx) (t : V → V → Hp → VK → Prop) : Prop :=
  ∀ (pins : List (Addr × Obj)) (s : Shared) (σ : St) (H : Hp) (o i : V) (ov iv : Value) (Q : VK), Inv X pins σ H s → RelV o ov → RelV i iv → t o i H Q →
    wpAny (model X.prog X.w) X.A (getItem ov iv) (EP X pins σ Q) X.xe s
theorem ps_augS {o i e : Expr} {to ti te : TE} {tget : V → V → Hp → VK → Prop} {tip : TIp} {tset : TSet} {op : Operator} {tpos : Pos} (ho : PE X o to) (hi : PE X i ti) (hg : PGet X tget) (he : PE X e te) (hp : PIp X op tip) (hs : PSet X tset)
    (ha : ∀ ov iv new, augStore i ov iv new = (do holding [new, ov, iv] (setItem ov iv new); release [new, ov, iv] []; pure .next) := by intros; rfl) : PS X (.AugAssign (.Subscript o i tpos) op e pos) (tAugS to ti te tget tip tset) := by
  intro pins s σ H D I h
  refine wpAny_AugAssign_SubscriptAny (thn (ho pins s σ H _ I h) fun ov s1 ⟨x1, H1, I1, r1, q1⟩ => ?_) ha
  refine thn (hi pins s1 σ H1 _ I1 q1) fun iv s2 ⟨x2, H2, I2, r2, q2⟩ => ?_
  refine thn (hg pins s2 σ H2 x1 x2 ov iv _ I2 r1 r2 q2) fun old s3 ⟨x3, H3, I3, r3, q3⟩ => ?_
  refine thn (he pins s3 σ H3 _ I3 q3) fun v s4 ⟨x4, H4, I4, r4, q4⟩ => ?_
  refine thn (hp pins s4 σ H4 x3 x4 old v _ I4 r3 r4 q4) fun new s5 ⟨x5, H5, I5, r5, q5⟩ => ?_
  exact thn (hs pins s5 σ H5 x1 x2 x5 ov iv new _ I5 r1 r2 r5 q5) fun _ s6 ⟨H6, I6, q6⟩ => ⟨σ, H6, I6, q6⟩
/-- ints -/
def ipI (f : Int → Int → Int) : TIp := fun x y H Q => ∃ i j, x = .int i ∧ y = .int j ∧ Q (.int (f i j)) H
theorem ip_add : PIp X .Add (ipI fun i j => i + j) := by
  intro pins s σ H x y v u Q I r1 r2 h
  obtain ⟨i, j, e1, e2, q⟩ := h
  subst e1; subst e2
  obtain ⟨t, rfl⟩ := r1
  obtain ⟨t', rfl⟩ := r2
  exact iadd_int ⟨.int _, H, I.tok _, ⟨_, rfl⟩, q⟩
theorem ip_sub : PIp X .Sub (ipI fun i j => i - j) := by
  intro pins s σ H x y v u Q I r1 r2 h
  obtain ⟨i, j, e1, e2, q⟩ := h
  subst e1; subst e2
  obtain ⟨t, rfl⟩ := r1
  obtain ⟨t', rfl⟩ := r2
  exact isub_int ⟨.int _, H, I.tok _, ⟨_, rfl⟩, q⟩
end

/-! ### while -/
section
variable {X : Cx} {pos : Pos}
/-- the invariant W with its measure -/
def tWhile (c : TT) (tb : TS) : TS := fun D σ H => ∃ W : Nat → St → Hp → Prop, (∃ m, W m σ H) ∧ ∀ m σ H, W m σ H →
  c σ H fun b H1 => if b = true then ∃ N : St → Hp → Prop, (∀ σ' H', N σ' H' → ∃ m', m' < m ∧ W m' σ' H') ∧ tb { D with nx := N, ct := N, bk := D.nx } σ H1 else D.nx σ H1
theorem ps_while {c : Expr} {body : List Stmt} {tc : TT} {tb : TS} (hp : PassesOwn (model X.prog X.w) X.A X.env X.xe) (hc : PT X c tc) (hb : PSs X body tb) : PS X (.While c body [] pos) (tWhile tc tb) := by
  intro pins s σ H D I h
  obtain ⟨W, ⟨m0, w0⟩, turn⟩ := h
  refine wpAny_While (codeAny_whileLoop (fun n s' => ∃ σ' H', Inv X pins σ' H' s' ∧ W n σ' H') ?_ m0 ⟨σ, H, I, w0⟩)
  rintro n s1 ⟨σ1, H1, I1, w1⟩
  refine wpAny_passesOwn hp (thn (hc pins s1 σ1 H1 _ I1 (turn n σ1 H1 w1)) fun b s2 ⟨H2, I2, q2⟩ => ?_)
  cases b with
  | true =>
    obtain ⟨N, hN, q2⟩ := q2
    rw [if_pos rfl]
    refine wpAny_passesOwn hp (thn (hb pins s2 σ1 H2 _ I2 q2) fun f s3 q3 => ?_)
    cases f with
    | next =>
      obtain ⟨σ3, H3, I3, n3⟩ := q3
      obtain ⟨m', hm, w3⟩ := hN σ3 H3 n3
      exact ⟨m', hm, σ3, H3, I3, w3⟩
    | cont =>
      obtain ⟨σ3, H3, I3, n3⟩ := q3
      obtain ⟨m', hm, w3⟩ := hN σ3 H3 n3
      exact ⟨m', hm, σ3, H3, I3, w3⟩
    | brk => exact q3
    | ret v => exact q3
  | false =>
    rw [if_neg Bool.false_ne_true]
    exact wpAny_execs_nil ⟨σ1, H2, I2, q2⟩
end

/-! ### what a loop or a comprehension walks -/
/-- at turn i: it yields x (the heap may grow), or it stops -/
structure It where
  go : Nat → Hp → Prop
  yld : Nat → Hp → V → Hp → Prop
  stop : Nat → Hp → Prop
/-- the iterator's own objects may turn: they are not the frame's, not pinned, younger than the entry (or a comprehension's own) -/
def FpOk (X : Cx) (pins : List (Addr × Obj)) (H : Hp) (b : Addr) : Prop :=
  H b = none ∧ b ≠ X.env.locals ∧ b ∉ X.fs ∧ (b ∈ X.ex ∨ X.s₀.heap.objs.size ≤ b) ∧ (∀ x c, X.env.cells.lookup x = some c → c ≠ b) ∧ ∀ p ∈ X.pn ++ pins, p.1 ≠ b
theorem Inv.fpOk {X : Cx} {pins : List (Addr × Obj)} {σ : St} {H H' : Hp} {s : Shared} {b : Addr} (I : Inv X pins σ H s) (hb : s.heap.objs.size ≤ b) (hn : H' b = none) : FpOk X pins H' b := by
  refine ⟨hn, Nat.ne_of_gt (Nat.lt_of_lt_of_le I.lt hb), I.nofs hb, .inr (Nat.le_trans I.sz hb), fun x c e z => ?_, fun p hp z => ?_⟩
  · obtain ⟨v, q⟩ := I.cell x c e
    exact absurd (Nat.lt_of_lt_of_le q.lt (by rw [z]; exact hb)) (Nat.lt_irrefl _)
  · exact absurd (Nat.lt_of_lt_of_le (Heap.lt_size (I.pin p hp).1) (by rw [z]; exact hb)) (Nat.lt_irrefl _)
structure Turn (P : Program) (w : World) (K : PySem.W.Frag) (tg : Expr) (J : It) (fp : List Addr) (it : Addr) (tn : Nat → Heap → Prop) : Prop where
  mem : it ∈ fp
  obj : ∀ i h, tn i h → ∀ b ∈ fp, ∃ o, h.get? b = some o ∧ ∀ v, o.data ≠ .cell v
  keep : ∀ i h h', tn i h → (∀ b ∈ fp, ∀ o, h.get? b = some o → h'.get? b = some o) → tn i h'
  item : ∀ (X : Cx), X.prog = P → X.w = w → X.K = K → X.calm = true → ∀ (i : Nat) (pins : List (Addr × Obj)) (s : Shared) (σ : St) (H : Hp) (E : Value → Shared → Prop), Inv X pins σ H s → (∀ b ∈ fp, FpOk X pins H b) → tn i s.heap → J.go i H →
    wpAny (model P w) X.A (pyNext (.ref it)) (fun r s1 => ∃ u, r = some u ∧
      wpAny (model P w) X.A (letOwnedTupleGo tg (.ref it) u) (fun _ s2 => ∃ x H', Inv X pins σ H' s2 ∧ RelV x u ∧ J.yld i H x H' ∧ tn (i + 1) s2.heap ∧ ∀ b ∈ fp, H' b = none) E s1) E s
  done : ∀ (X : Cx), X.prog = P → X.w = w → X.K = K → X.calm = true → ∀ (i : Nat) (pins : List (Addr × Obj)) (s : Shared) (σ : St) (H : Hp) (E : Value → Shared → Prop), Inv X pins σ H s → (∀ b ∈ fp, FpOk X pins H b) → tn i s.heap → J.stop i H →
    wpAny (model P w) X.A (pyNext (.ref it)) (fun r s1 => r = none ∧ Inv X pins σ H s1) E s
  self : ∀ (A : Around) (i : Nat) (s : Shared) (Q : Value → Shared → Prop) (E : Value → Shared → Prop), tn i s.heap → Q (.ref it) s → wpAny (model P w) A (pyIter (.ref it)) Q E s
abbrev TI := St → Hp → (It → Hp → Prop) → Prop
/-- an iterator has come -/
def PIE (X : Cx) (pins : List (Addr × Obj)) (σ : St) (tg : Expr) (R : It → Hp → Prop) (itv : Value) (s2 : Shared) : Prop :=
  ∃ (it : Addr) (fp : List Addr) (tn : Nat → Heap → Prop) (J : It) (H' : Hp), itv = .ref it ∧ Inv X pins σ H' s2 ∧ Turn X.prog X.w X.K tg J fp it tn ∧ tn 0 s2.heap ∧ (∀ b ∈ fp, FpOk X pins H' b) ∧ R J H'
def PI (X : Cx) (tg iter : Expr) (wi : TI) : Prop :=
  ∀ (pins : List (Addr × Obj)) (s : Shared) (σ : St) (H : Hp) (R : It → Hp → Prop), Inv X pins σ H s → wi σ H R →
    wpAny (model X.prog X.w) X.A (eval iter X.env) (fun v s1 => wpAny (model X.prog X.w) X.A (pyIter v) (PIE X pins σ tg R) X.xe s1) X.xe s

/-- the step ahead of the store is nothing for an iterator that keeps no tuple -/
theorem go_of {M : Model} {A : Around} {E : Value → Shared → Prop} {s : Shared} {tg : Expr} {it : Addr} {u : Value} {o : Obj} {n : String} {vs : Array Value} {Q : Unit → Shared → Prop} (ho : s.heap.get? it = some o) (hc : o.cls = .type n) (hd : o.data = .fields vs)
    (hn : ["enumerate", "zip", "dict_itemiterator", "dict_reverseitemiterator", "odict_iterator", "itertools.zip_longest", "itertools.pairwise"].contains n = false) (hQ : Q () s) : wpAny M A (letOwnedTupleGo tg (.ref it) u) Q E s := by
  unfold letOwnedTupleGo
  cases tg <;> first
    | exact wpAny_pure hQ
    | (cases u <;> first
        | exact wpAny_pure hQ
        | (refine wpAny_bind (wpAny_load ho ?_)
           rw [hc, hd]
           show wpAny M A (if (["enumerate", "zip", "dict_itemiterator", "dict_reverseitemiterator", "odict_iterator", "itertools.zip_longest", "itertools.pairwise"].contains n && vs[0]? == some (rawInt _)) = true then _ else _) Q E s
           rw [if_neg (by intro h; rw [hn, Bool.false_and] at h; cases h)]
           exact wpAny_pure hQ))

/-- the list at a, as it stands at each turn (a loop may append to it) -/
def Itl (K : PySem.W.Frag) (a : Addr) : It :=
  ⟨fun i H => ∃ xs x, SqL K H a xs ∧ xs[i]? = some x, fun i H x H' => H' = H ∧ ∀ xs, SqL K H a xs → xs[i]? = some x, fun i H => ∃ xs, SqL K H a xs ∧ xs.length ≤ i⟩
def Itt (K : PySem.W.Frag) (a : Addr) : It :=
  ⟨fun i H => ∃ xs x, SqT K H a xs ∧ xs[i]? = some x, fun i H x H' => H' = H ∧ ∀ xs, SqT K H a xs → xs[i]? = some x, fun i H => ∃ xs, SqT K H a xs ∧ xs.length ≤ i⟩
/-- lo, lo + 1, .. (n of them) -/
def Itr (lo : Int) (n : Nat) : It := ⟨fun i _ => i < n, fun i H x H' => H' = H ∧ x = .int (lo + i), fun i _ => n ≤ i⟩
theorem turn_list {P : Program} {w : World} {K : PySem.W.Frag} {tg : Expr} (a it : Addr) : Turn P w K tg (Itl K a) [it] it (fun i h => h.IsListIter it a i) where
  mem := by simp
  obj := fun i h st b hb => by
    have e : b = it := by simpa using hb
    subst e
    obtain ⟨o, e, c, d⟩ := st
    exact ⟨o, e, fun v z => by rw [d] at z; cases z⟩
  keep := fun i h h' st k => st.at fun o e => k it (by simp) o e
  item := by
    intro X hP hw hK hc i pins s σ H E I hf st hg
    subst hP hw hK
    obtain ⟨xs, x, hq, hx⟩ := hg
    obtain ⟨its, rv, p, hz⟩ := I.list hq
    obtain ⟨u, hu, ru⟩ := rv.get hx
    obtain ⟨f0, f1, f2, f3, f4, f5⟩ := hf it (by simp)
    refine wpAny_pyNext_list_item st p.isList (x := u) (by simpa using hu) fun h' st' sb => ?_
    have I1 : Inv X pins σ H { s with heap := h' } := I.turned (t' := s.toks) (fun b o hb e => (sb.2 b hb).trans e) f0 f1 f3 f4 f5
    obtain ⟨o, e, c, d⟩ := id st'
    exact ⟨u, rfl, go_of (s := { s with heap := h' }) e c d (by decide) ⟨x, H, I1, ru, ⟨rfl, fun ys hy => by rw [I.list_inj hy hq]; exact hx⟩, st', fun b hb => (hf b hb).1⟩⟩
  done := by
    intro X hP hw hK hc i pins s σ H E I hf st hg
    subst hP hw hK
    obtain ⟨xs, hq, hx⟩ := hg
    obtain ⟨its, rv, p, hz⟩ := I.list hq
    obtain ⟨f0, f1, f2, f3, f4, f5⟩ := hf it (by simp)
    have hl := rv.length
    exact wpAny_pyNext_list_end (I.ok.hd hc) st p.isList (by simp; omega) fun h' eb => ⟨rfl, I.turned (t' := s.toks) (fun b o hb e => eb b o hb e) f0 f1 f3 f4 f5⟩
  self := fun _ _ _ _ _ st h => wpAny_pyIter_listiter st h
theorem turn_tuple {P : Program} {w : World} {K : PySem.W.Frag} {tg : Expr} (a it : Addr) : Turn P w K tg (Itt K a) [it] it (fun i h => h.IsTupleIter it a i) where
  mem := by simp
  obj := fun i h st b hb => by
    have e : b = it := by simpa using hb
    subst e
    obtain ⟨o, e, c, d⟩ := st
    exact ⟨o, e, fun v z => by rw [d] at z; cases z⟩
  keep := fun i h h' st k => st.at fun o e => k it (by simp) o e
  item := by
    intro X hP hw hK hc i pins s σ H E I hf st hg
    subst hP hw hK
    obtain ⟨xs, x, hq, hx⟩ := hg
    obtain ⟨its, rv, p, hz⟩ := I.tuple hq
    obtain ⟨u, hu, ru⟩ := rv.get hx
    obtain ⟨f0, f1, f2, f3, f4, f5⟩ := hf it (by simp)
    refine wpAny_pyNext_tuple_item st (show s.heap.IsTuple a its.toArray from p) (x := u) (by simpa using hu) fun h' st' sb => ?_
    have I1 : Inv X pins σ H { s with heap := h' } := I.turned (t' := s.toks) (fun b o hb e => (sb.2 b hb).trans e) f0 f1 f3 f4 f5
    obtain ⟨o, e, c, d⟩ := id st'
    exact ⟨u, rfl, go_of (s := { s with heap := h' }) e c d (by decide) ⟨x, H, I1, ru, ⟨rfl, fun ys hy => by rw [I.tuple_inj hy hq]; exact hx⟩, st', fun b hb => (hf b hb).1⟩⟩
  done := by
    intro X hP hw hK hc i pins s σ H E I hf st hg
    subst hP hw hK
    obtain ⟨xs, hq, hx⟩ := hg
    obtain ⟨its, rv, p, hz⟩ := I.tuple hq
    obtain ⟨f0, f1, f2, f3, f4, f5⟩ := hf it (by simp)
    have hl := rv.length
    exact wpAny_pyNext_tuple_end (I.ok.hd hc) st (show s.heap.IsTuple a its.toArray from p) (by simp; omega) fun h' eb => ⟨rfl, I.turned (t' := s.toks) (fun b o hb e => eb b o hb e) f0 f1 f3 f4 f5⟩
  self := fun _ _ _ _ _ st h => wpAny_pyIter_tupleiter st h
theorem turn_range {P : Program} {w : World} {K : PySem.W.Frag} {tg : Expr} (it : Addr) (lo : Int) (n : Nat) : Turn P w K tg (Itr lo n) [it] it (fun i h => IsRangeIter h it (lo + (i : Nat) * 1) ((n : Int) - (i : Nat)) 1) where
  mem := by simp
  obj := fun i h st b hb => by
    have e : b = it := by simpa using hb
    subst e
    exact ⟨_, st, fun v z => by
      have z' : Data.fields _ = Data.cell v := z
      cases z'⟩
  keep := fun i h h' st k => k it (by simp) _ st
  item := by
    intro X hP hw hK hc i pins s σ H E I hf st hg
    subst hP hw hK
    obtain ⟨f0, f1, f2, f3, f4, f5⟩ := hf it (by simp)
    have W := Walks.range (prog := X.prog) (w := X.w) (I.ok.hd hc) it lo 1 n
    refine W.item i s _ _ hg st fun v h' tk hv st' kk => ?_
    obtain ⟨t, rfl⟩ := hv
    have I1 : Inv X pins σ H { s with heap := h', toks := tk } := I.turned (fun b o hb e => kk b o (by simpa using hb) e) f0 f1 f3 f4 f5
    refine ⟨_, rfl, go_of (s := { s with heap := h', toks := tk }) (n := "range_iterator") st' rfl rfl (by decide) ⟨.int (lo + i), H, I1, ⟨t, ?_⟩, ⟨rfl, rfl⟩, st', fun b hb => (hf b hb).1⟩⟩
    rw [Int.mul_one]
  done := by
    intro X hP hw hK hc i pins s σ H E I hf st hg
    subst hP hw hK
    obtain ⟨f0, f1, f2, f3, f4, f5⟩ := hf it (by simp)
    exact wpAny_pyNext_range_end (I.ok.hd hc) st (by have : n ≤ i := hg; omega) fun h' eb => ⟨rfl, I.turned (t' := s.toks) (fun b o hb e => eb b o hb e) f0 f1 f3 f4 f5⟩
  self := fun _ _ _ _ _ st h => wpAny_pyIter_rangeiter st h
end L2

namespace L2
open PySem PySem.Spec PyProof.Rows
section
variable {X : Cx} {tg : Expr}
def iList (K : PySem.W.Frag) (tl : TE) : TI := fun σ H R => tl σ H fun x H1 => ∃ a, x = .ref a ∧ (∃ xs, SqL K H1 a xs) ∧ R (Itl K a) H1
def iTup (K : PySem.W.Frag) (tl : TE) : TI := fun σ H R => tl σ H fun x H1 => ∃ a, x = .ref a ∧ (∃ xs, SqT K H1 a xs) ∧ R (Itt K a) H1
theorem pi_list {l : Expr} {tl : TE} (hl : PE X l tl) : PI X tg l (iList X.K tl) := by
  intro pins s σ H R I h
  refine thn (hl pins s σ H _ I h) fun v s1 ⟨x, H1, I1, r1, q1⟩ => ?_
  obtain ⟨a, e, ⟨xs, hq⟩, q⟩ := q1
  subst e
  cases r1
  obtain ⟨its, rv, p, hz⟩ := I1.list hq
  refine wpAny_pyIter_list p.isList ?_
  refine ⟨s1.heap.objs.size, [s1.heap.objs.size], _, _, H1, rfl, I1.kept (t' := s1.toks) fun b o e => Heap.get?_push_of_some _ e, turn_list a _, ⟨_, Heap.get?_push_size _ rfl, rfl, rfl⟩, fun b hb => ?_, q⟩
  have e : b = s1.heap.objs.size := by simpa using hb
  subst e
  exact I1.fpOk (Nat.le_refl _) (I1.hok.fresh (Nat.le_refl _))
theorem pi_tup {l : Expr} {tl : TE} (hl : PE X l tl) : PI X tg l (iTup X.K tl) := by
  intro pins s σ H R I h
  refine thn (hl pins s σ H _ I h) fun v s1 ⟨x, H1, I1, r1, q1⟩ => ?_
  obtain ⟨a, e, ⟨xs, hq⟩, q⟩ := q1
  subst e
  cases r1
  obtain ⟨its, rv, p, hz⟩ := I1.tuple hq
  refine wpAny_pyIter_tuple (show s1.heap.IsTuple a its.toArray from p) ?_
  refine ⟨s1.heap.objs.size, [s1.heap.objs.size], _, _, H1, rfl, I1.kept (t' := s1.toks) fun b o e => Heap.get?_push_of_some _ e, turn_tuple a _, ⟨_, Heap.get?_push_size _ rfl, rfl, rfl⟩, fun b hb => ?_, q⟩
  have e : b = s1.heap.objs.size := by simpa using hb
  subst e
  exact I1.fpOk (Nat.le_refl _) (I1.hok.fresh (Nat.le_refl _))
/-- a range object just made, walked -/
theorem range_it {pins : List (Addr × Obj)} {σ : St} {H : Hp} {s : Shared} {R : It → Hp → Prop} {E : Value → Shared → Prop} {lo hi : Int} {t u v : Tok} {tk : Nat} (I : Inv X pins σ H s) (h1 : -(2 ^ 62) ≤ lo) (h2 : lo < 2 ^ 62) (h3 : -(2 ^ 62) ≤ hi) (h4 : hi < 2 ^ 62)
    (q : R (Itr lo (hi - lo).toNat) H) : wpAny (model X.prog X.w) X.A (pyIter (.ref s.heap.objs.size)) (PIE X pins σ tg R) E { s with heap := s.heap.push { cls := .type "range", data := .fields #[.int lo t, .int hi u, .int 1 v] }, toks := tk } := by
  refine wpAny_pyIter_range (IsRange.new ..) (small_one h1 h2 h3 h4) ?_
  have I1 : Inv X pins σ H { s with heap := s.heap.push { cls := .type "range", data := .fields #[.int lo t, .int hi u, .int 1 v] }, toks := tk } := I.kept fun b o e => Heap.get?_push_of_some _ e
  refine ⟨(s.heap.push { cls := .type "range", data := .fields #[.int lo t, .int hi u, .int 1 v] }).objs.size, [(s.heap.push { cls := .type "range", data := .fields #[.int lo t, .int hi u, .int 1 v] }).objs.size], _, _, H, rfl,
    I1.kept (t' := tk) fun b o e => Heap.get?_push_of_some _ e, turn_range _ lo (hi - lo).toNat, ?_, fun b hb => ?_, q⟩
  · have e1 : lo + ((0 : Nat) : Int) * 1 = lo := by simp
    have e2 : (((hi - lo).toNat : Nat) : Int) - ((0 : Nat) : Int) = Builtin.Range.rangeSize lo hi 1 := by rw [rangeSize_one]; split <;> omega
    show IsRangeIter _ _ (lo + ((0 : Nat) : Int) * 1) ((((hi - lo).toNat : Nat) : Int) - ((0 : Nat) : Int)) 1
    rw [e1, e2]
    exact Heap.get?_push_size _ rfl
  · have e : b = (s.heap.push { cls := .type "range", data := .fields #[.int lo t, .int hi u, .int 1 v] }).objs.size := by simpa using hb
    subst e
    exact I1.fpOk (Nat.le_refl _) (I1.hok.fresh (Nat.le_refl _))
def iRng1 (ta : TA) : TI := fun σ H R => ta σ H fun vs H1 => ∃ j : Int, vs = [.int j] ∧ -(2 ^ 62) ≤ j ∧ j < 2 ^ 62 ∧ R (Itr 0 j.toNat) H1
def iRng2 (ta : TA) : TI := fun σ H R => ta σ H fun vs H1 => ∃ i j : Int, vs = [.int i, .int j] ∧ (-(2 ^ 62) ≤ i ∧ i < 2 ^ 62 ∧ -(2 ^ 62) ≤ j ∧ j < 2 ^ 62) ∧ R (Itr i (j - i).toNat) H1
theorem pi_range1 {a : Expr} {ta : TA} {p pos : Pos} (hg : Gl X "range") (hm : X.mg "range" = none) (ha : PA X [a] ta) (hs : starEach [a] X.env = [(false, eval a X.env)] := by rfl) : PI X tg (.Call (.Name "range" p) [a] [] pos) (iRng1 ta) := by
  intro pins s σ H R I h
  refine Call_ (ld_blt I hg hm boot_range (PyProof.Rows.callWith_type1 (thn (ha pos pins s σ H _ I h) fun us s1 ⟨vs, H1, I1, r1, q1⟩ => ?_) hs rfl))
  obtain ⟨j, e, q1, q2, q⟩ := q1
  subst e
  cases r1 with
  | cons r rr =>
    cases rr
    obtain ⟨t, rfl⟩ := r
    exact call_range_1 (range_it I1 (by omega) (by omega) q1 q2 (by simpa using q))
theorem pi_range2 {a b : Expr} {ta : TA} {p pos : Pos} (hg : Gl X "range") (hm : X.mg "range" = none) (ha : PA X [a, b] ta) (hs : starEach [a, b] X.env = [(false, eval a X.env), (false, eval b X.env)] := by rfl) (hs2 : starEach [b] X.env = [(false, eval b X.env)] := by rfl) :
    PI X tg (.Call (.Name "range" p) [a, b] [] pos) (iRng2 ta) := by
  intro pins s σ H R I h
  refine Call_ (ld_blt I hg hm boot_range (PyProof.Rows.callWith_type1 (thn (ha pos pins s σ H _ I h) fun us s1 ⟨vs, H1, I1, r1, q1⟩ => ?_) (by rw [hs, hs2]) (by rw [hs2]; rfl)))
  obtain ⟨i, j, e, ⟨q1, q2, q3, q4⟩, q⟩ := q1
  subst e
  cases r1 with
  | cons r rr =>
    cases rr with
    | cons r' rr =>
      cases rr
      obtain ⟨t, rfl⟩ := r
      obtain ⟨t', rfl⟩ := r'
      exact call_range_2 (range_it I1 q1 q2 q3 q4 q)

/-! ### for -/
/-- W: the invariant by the turn and a measure; N: what the body is to reach -/
def tFor (wi : TI) (g : TG) (tb : TS) : TS := fun D σ H => wi σ H fun J H1 => ∃ W : Nat → Nat → St → Hp → Prop, (∃ m, W 0 m σ H1) ∧ ∀ i m σ H, W i m σ H →
  (J.stop i H ∧ D.nx σ H) ∨ (J.go i H ∧ ∃ N : St → Hp → Prop, (∀ σ' H', N σ' H' → ∃ m', m' < m ∧ W (i + 1) m' σ' H') ∧ ∀ x H', J.yld i H x H' → g x σ H' fun σ2 H2 => tb { D with nx := N, ct := N, bk := D.nx } σ2 H2)
/-- the records at fp as they stand -/
def pinsAt (fp : List Addr) (h : Heap) : List (Addr × Obj) := fp.filterMap fun b => (h.get? b).map fun o => (b, o)
theorem mem_pinsAt {fp : List Addr} {h : Heap} {b : Addr} {o : Obj} (hb : b ∈ fp) (e : h.get? b = some o) : (b, o) ∈ pinsAt fp h := List.mem_filterMap.mpr ⟨b, hb, by rw [e]; rfl⟩
theorem of_pinsAt {fp : List Addr} {h : Heap} {p : Addr × Obj} (hp : p ∈ pinsAt fp h) : p.1 ∈ fp ∧ h.get? p.1 = some p.2 := by
  obtain ⟨b, hb, e⟩ := List.mem_filterMap.mp hp
  cases q : h.get? b with
  | none => rw [q] at e; cases e
  | some o =>
    rw [q] at e
    have e' : (b, o) = p := Option.some.inj e
    subst e'
    exact ⟨hb, q⟩
theorem Inv.pinned {pins : List (Addr × Obj)} {σ : St} {H : Hp} {s : Shared} {fp : List Addr} (I : Inv X pins σ H s) (hf : ∀ b ∈ fp, FpOk X pins H b) (ho : ∀ b ∈ fp, ∃ o, s.heap.get? b = some o ∧ ∀ v, o.data ≠ .cell v) : Inv X (pins ++ pinsAt fp s.heap) σ H s :=
  I.pins_of fun p hp => (List.mem_append.mp hp).elim (fun z => I.pin p (List.mem_append_right _ z)) fun z => by
    obtain ⟨hb, e⟩ := of_pinsAt z
    obtain ⟨f0, f1, f2, _⟩ := hf p.1 hb
    obtain ⟨o, e', d⟩ := ho p.1 hb
    rw [e] at e'; cases e'
    exact ⟨e, f0, f1, f2, d⟩
theorem Inv.unpinned {pins pl : List (Addr × Obj)} {σ : St} {H : Hp} {s : Shared} (I : Inv X (pins ++ pl) σ H s) : Inv X pins σ H s := I.pins_of fun p hp => I.pin p (List.mem_append_right _ (List.mem_append_left _ hp))
theorem ps_for {iter : Expr} {body : List Stmt} {wi : TI} {g : TG} {tb : TS} {pos : Pos} (hp : PassesOwn (model X.prog X.w) X.A X.env X.xe) (hc : X.calm = true) (hi : PI X tg iter wi) (hg : PG X tg g) (hb : PSs X body tb)
    (hs : ∀ x, foldedSetIterable iter X.env x = pure x := by intro _; rfl) : PS X (.For tg iter body [] pos) (tFor wi g tb) := by
  intro pins s σ H D I h
  refine wpAny_For (thn (hi pins s σ H _ I h) fun v s1 h1 => thn h1 fun itv s2 h2 => ?_) hs
  obtain ⟨it, fp, tn, J, H2, e, I2, T, st2, f2, W, ⟨m0, w0⟩, turn⟩ := h2
  subst e
  -- what stays true of the iterator's objects through the loop
  have stat : ∀ {H' : Hp}, (∀ b ∈ fp, H' b = none) → ∀ b ∈ fp, FpOk X pins H' b := fun hn b hb => ⟨hn b hb, (f2 b hb).2⟩
  refine codeAny_forLoop_any (fun n s' => ∃ i σ' H', Inv X pins σ' H' s' ∧ tn i s'.heap ∧ (∀ b ∈ fp, H' b = none) ∧ W i n σ' H') ?_ m0 ⟨0, σ, H2, I2, st2, fun b hb => (f2 b hb).1, w0⟩
  rintro n s3 ⟨i, σ3, H3, I3, st3, fr3, w3⟩
  rcases turn i n σ3 H3 w3 with ⟨stop, qn⟩ | ⟨go, N, hN, step⟩
  · refine wpAny_passesOwn hp (thn (T.done X rfl rfl rfl hc i pins s3 σ3 H3 X.xe I3 (stat fr3) st3 stop) fun r s4 ⟨hr, I4⟩ => ?_)
    subst hr
    exact wpAny_execs_nil ⟨σ3, H3, I4, qn⟩
  · refine wpAny_passesOwn hp (thn (T.item X rfl rfl rfl hc i pins s3 σ3 H3 X.xe I3 (stat fr3) st3 go) fun r s4 ⟨u, hr, h4⟩ => ?_)
    subst hr
    refine wpAny_passesOwn hp (thn h4 fun _ s5 ⟨x, H5, I5, r5, y5, st5, fr5⟩ => ?_)
    have I5' := I5.pinned (stat fr5) (T.obj _ _ st5)
    refine wpAny_passesOwn hp (thn (hg _ s5 σ3 H5 x u _ I5' r5 (step x H5 y5)) fun _ s6 ⟨σ6, H6, I6, q6⟩ => ?_)
    refine wpAny_passesOwn hp (thn (hb _ s6 σ6 H6 _ I6 q6) fun f s7 q7 => ?_)
    have again : ∀ {σ7 : St} {H7 : Hp}, Inv X (pins ++ pinsAt fp s5.heap) σ7 H7 s7 → N σ7 H7 → ∃ m, m < n ∧ ∃ i σ' H', Inv X pins σ' H' s7 ∧ tn i s7.heap ∧ (∀ b ∈ fp, H' b = none) ∧ W i m σ' H' := fun {σ7 H7} I7 n7 => by
      obtain ⟨m', hm, w7⟩ := hN σ7 H7 n7
      refine ⟨m', hm, i + 1, σ7, H7, I7.unpinned, T.keep _ _ _ st5 fun b hb o e => (I7.pin (b, o) (List.mem_append_right _ (List.mem_append_right _ (mem_pinsAt hb e)))).1, fun b hb => ?_, w7⟩
      obtain ⟨o, e, d⟩ := T.obj _ _ st5 b hb
      exact (I7.pin (b, o) (List.mem_append_right _ (List.mem_append_right _ (mem_pinsAt hb e)))).2.1
    cases f with
    | next => obtain ⟨σ7, H7, I7, n7⟩ := q7; exact again I7 n7
    | cont => obtain ⟨σ7, H7, I7, n7⟩ := q7; exact again I7 n7
    | brk => obtain ⟨σ7, H7, I7, q7⟩ := q7; exact ⟨σ7, H7, I7.unpinned, q7⟩
    | ret v => obtain ⟨x7, σ7, H7, I7, r7, q7⟩ := q7; exact ⟨x7, σ7, H7, I7.unpinned, r7, q7⟩
end

/-! ### the forms one uses -/
/-- over a list that the body leaves as it is -/
theorem for_list {K : PySem.W.Frag} {a : Addr} {xs : List V} {g : TG} {tb : TS} {D : Ends} {σ : St} {H : Hp} (Pv : Nat → St → Hp → Prop) (h0 : Pv 0 σ H) (hl : ∀ i σ H, i ≤ xs.length → Pv i σ H → SqL K H a xs)
    (hs : ∀ i x σ H, xs[i]? = some x → Pv i σ H → g x σ H fun σ2 H2 => tb { D with nx := Pv (i + 1), ct := Pv (i + 1), bk := D.nx } σ2 H2) (hd : ∀ σ H, Pv xs.length σ H → D.nx σ H) :
    ∃ W : Nat → Nat → St → Hp → Prop, (∃ m, W 0 m σ H) ∧ ∀ i m σ H, W i m σ H →
      ((Itl K a).stop i H ∧ D.nx σ H) ∨ ((Itl K a).go i H ∧ ∃ N : St → Hp → Prop, (∀ σ' H', N σ' H' → ∃ m', m' < m ∧ W (i + 1) m' σ' H') ∧ ∀ x H', (Itl K a).yld i H x H' → g x σ H' fun σ2 H2 => tb { D with nx := N, ct := N, bk := D.nx } σ2 H2) := by
  refine ⟨fun i m σ H => m = xs.length - i ∧ i ≤ xs.length ∧ Pv i σ H, ⟨xs.length, by simp, Nat.zero_le _, h0⟩, ?_⟩
  rintro i m σ H ⟨rfl, hi, p⟩
  have q := hl i σ H hi p
  by_cases hlt : i < xs.length
  · refine .inr ⟨⟨xs, xs[i], q, by simp [hlt]⟩, Pv (i + 1), fun σ' H' p' => ⟨xs.length - (i + 1), by omega, rfl, hlt, p'⟩, fun x H' y => ?_⟩
    obtain ⟨e, y⟩ := y
    subst e
    exact hs i x σ _ (y xs q) p
  · have e : i = xs.length := by omega
    subst e
    exact .inl ⟨⟨xs, q, Nat.le_refl _⟩, hd σ H p⟩
theorem for_tup {K : PySem.W.Frag} {a : Addr} {xs : List V} {g : TG} {tb : TS} {D : Ends} {σ : St} {H : Hp} (Pv : Nat → St → Hp → Prop) (h0 : Pv 0 σ H) (hl : ∀ i σ H, i ≤ xs.length → Pv i σ H → SqT K H a xs)
    (hs : ∀ i x σ H, xs[i]? = some x → Pv i σ H → g x σ H fun σ2 H2 => tb { D with nx := Pv (i + 1), ct := Pv (i + 1), bk := D.nx } σ2 H2) (hd : ∀ σ H, Pv xs.length σ H → D.nx σ H) :
    ∃ W : Nat → Nat → St → Hp → Prop, (∃ m, W 0 m σ H) ∧ ∀ i m σ H, W i m σ H →
      ((Itt K a).stop i H ∧ D.nx σ H) ∨ ((Itt K a).go i H ∧ ∃ N : St → Hp → Prop, (∀ σ' H', N σ' H' → ∃ m', m' < m ∧ W (i + 1) m' σ' H') ∧ ∀ x H', (Itt K a).yld i H x H' → g x σ H' fun σ2 H2 => tb { D with nx := N, ct := N, bk := D.nx } σ2 H2) := by
  refine ⟨fun i m σ H => m = xs.length - i ∧ i ≤ xs.length ∧ Pv i σ H, ⟨xs.length, by simp, Nat.zero_le _, h0⟩, ?_⟩
  rintro i m σ H ⟨rfl, hi, p⟩
  have q := hl i σ H hi p
  by_cases hlt : i < xs.length
  · refine .inr ⟨⟨xs, xs[i], q, by simp [hlt]⟩, Pv (i + 1), fun σ' H' p' => ⟨xs.length - (i + 1), by omega, rfl, hlt, p'⟩, fun x H' y => ?_⟩
    obtain ⟨e, y⟩ := y
    subst e
    exact hs i x σ _ (y xs q) p
  · have e : i = xs.length := by omega
    subst e
    exact .inl ⟨⟨xs, q, Nat.le_refl _⟩, hd σ H p⟩
theorem for_range {lo : Int} {n : Nat} {g : TG} {tb : TS} {D : Ends} {σ : St} {H : Hp} (Pv : Nat → St → Hp → Prop) (h0 : Pv 0 σ H)
    (hs : ∀ i σ H, i < n → Pv i σ H → g (.int (lo + i)) σ H fun σ2 H2 => tb { D with nx := Pv (i + 1), ct := Pv (i + 1), bk := D.nx } σ2 H2) (hd : ∀ σ H, Pv n σ H → D.nx σ H) :
    ∃ W : Nat → Nat → St → Hp → Prop, (∃ m, W 0 m σ H) ∧ ∀ i m σ H, W i m σ H →
      ((Itr lo n).stop i H ∧ D.nx σ H) ∨ ((Itr lo n).go i H ∧ ∃ N : St → Hp → Prop, (∀ σ' H', N σ' H' → ∃ m', m' < m ∧ W (i + 1) m' σ' H') ∧ ∀ x H', (Itr lo n).yld i H x H' → g x σ H' fun σ2 H2 => tb { D with nx := N, ct := N, bk := D.nx } σ2 H2) := by
  refine ⟨fun i m σ H => m = n - i ∧ i ≤ n ∧ Pv i σ H, ⟨n, by simp, Nat.zero_le _, h0⟩, ?_⟩
  rintro i m σ H ⟨rfl, hi, p⟩
  by_cases hlt : i < n
  · refine .inr ⟨hlt, Pv (i + 1), fun σ' H' p' => ⟨n - (i + 1), by omega, rfl, hlt, p'⟩, fun x H' y => ?_⟩
    obtain ⟨e, y⟩ := y
    subst e y
    exact hs i σ _ hlt p
  · have e : i = n := by omega
    subst e
    exact .inl ⟨Nat.le_refl _, hd σ H p⟩
/-- while, by a word and a measure of the state -/
theorem while_by {c : TT} {tb : TS} {D : Ends} {σ : St} {H : Hp} (Pv : St → Hp → Prop) (μ : St → Hp → Nat) (h0 : Pv σ H)
    (hs : ∀ σ H, Pv σ H → c σ H fun b H1 => if b = true then tb { D with nx := fun σ' H' => Pv σ' H' ∧ μ σ' H' < μ σ H, ct := fun σ' H' => Pv σ' H' ∧ μ σ' H' < μ σ H, bk := D.nx } σ H1 else D.nx σ H1)
    (mono : ∀ σ H Q Q', (∀ b H1, Q b H1 → Q' b H1) → c σ H Q → c σ H Q') : tWhile c tb D σ H := by
  refine ⟨fun m σ H => m = μ σ H ∧ Pv σ H, ⟨_, rfl, h0⟩, ?_⟩
  rintro m σ H ⟨rfl, p⟩
  refine mono σ H _ _ (fun b H1 q => ?_) (hs σ H p)
  cases b with
  | true => exact ⟨_, fun σ' H' ⟨p', l⟩ => ⟨_, l, rfl, p'⟩, q⟩
  | false => exact q
end L2

namespace L2
open PySem PySem.Spec PyProof.Rows

abbrev R2 := V → V → Hp → VK → Prop
/-- a two-place operation on values: f is binaryOp op, inplaceOp op or compareOp op -/
def OpR (X : Cx) (f : Value → Value → Sem Value) (r : R2) : Prop :=
  ∀ (pins : List (Addr × Obj)) (s : Shared) (σ : St) (H : Hp) (x y : V) (v u : Value) (Q : VK), Inv X pins σ H s → RelV x v → RelV y u → r x y H Q →
    wpAny (model X.prog X.w) X.A (f v u) (EP X pins σ Q) X.xe s
/-- a one-place operation -/
def UnR (X : Cx) (f : Value → Sem Value) (r : V → Hp → VK → Prop) : Prop :=
  ∀ (pins : List (Addr × Obj)) (s : Shared) (σ : St) (H : Hp) (x : V) (v : Value) (Q : VK), Inv X pins σ H s → RelV x v → r x H Q →
    wpAny (model X.prog X.w) X.A (f v) (EP X pins σ Q) X.xe s
/-- a call of a value that is known (a builtin, a type) with values -/
def CallR (X : Cx) (f : Value) (r : List V → Hp → VK → Prop) : Prop :=
  ∀ (pins : List (Addr × Obj)) (s : Shared) (σ : St) (H : Hp) (xs : List V) (us : List Value) (Q : VK), Inv X pins σ H s → Vals xs us → r xs H Q →
    wpAny (model X.prog X.w) X.A (call f us) (EP X pins σ Q) X.xe s
/-- a value's truth -/
def TruR (X : Cx) (r : V → Hp → (Bool → Hp → Prop) → Prop) : Prop :=
  ∀ (pins : List (Addr × Obj)) (s : Shared) (σ : St) (H : Hp) (x : V) (v : Value) (Q : Bool → Hp → Prop), Inv X pins σ H s → RelV x v → r x H Q →
    wpAny (model X.prog X.w) X.A (truthy v) (TP X pins σ Q) X.xe s

def tOp (r : R2) (ta tb : TE) : TE := fun σ H Q => ta σ H fun x H1 => tb σ H1 fun y H2 => r x y H2 Q
def tUn (r : V → Hp → VK → Prop) (ta : TE) : TE := fun σ H Q => ta σ H fun x H1 => r x H1 Q
/-- ints in, under C, and a value out -/
def rI (C : Int → Int → Prop) (g : Int → Int → V) : R2 := fun x y H Q => ∃ i j, x = .int i ∧ y = .int j ∧ C i j ∧ Q (g i j) H
def rI0 (g : Int → Int → V) : R2 := fun x y H Q => ∃ i j, x = .int i ∧ y = .int j ∧ Q (g i j) H
def rU (g : Int → V) : V → Hp → VK → Prop := fun x H Q => ∃ i, x = .int i ∧ Q (g i) H

section
variable {X : Cx} {a b c : Expr} {ta tb tc : TE} {pos : Pos}

theorem binT (ha : PE X a ta) (hb : PE X b tb) {pins : List (Addr × Obj)} {s : Shared} {σ : St} {H : Hp} {R : V → V → Hp → Prop} (I : Inv X pins σ H s)
    (h : ta σ H fun x H1 => tb σ H1 fun y H2 => R x y H2) {Q : Value → Shared → Prop} {f : Value → Value → Sem Value}
    (hf : ∀ v u s2 x y H2, Inv X pins σ H2 s2 → RelV x v → RelV y u → R x y H2 → wpAny (model X.prog X.w) X.A (f v u) Q X.xe s2) :
    wpAny (model X.prog X.w) X.A (eval a X.env) (fun v s₁ => wpAny (model X.prog X.w) X.A (eval b X.env) (fun u s₂ => wpAny (model X.prog X.w) X.A (f v u) Q X.xe s₂) X.xe s₁) X.xe s := by
  refine thn (ha pins s σ H _ I h) fun v s1 ⟨x, H1, I1, r1, q1⟩ => ?_
  refine thn (hb pins s1 σ H1 _ I1 q1) fun u s2 ⟨y, H2, I2, r2, q2⟩ => ?_
  exact hf v u s2 x y H2 I2 r1 r2 q2

theorem pe_op {op : Operator} {r : R2} (ho : OpR X (binaryOp op) r) (ha : PE X a ta) (hb : PE X b tb) : PE X (.BinOp a op b pos) (tOp r ta tb) := by
  intro pins s σ H Q I h
  exact wpAny_BinOp (binT ha hb I h fun v u s2 x y H2 I2 rx ry q => ho pins s2 σ H2 x y v u Q I2 rx ry q)
theorem pe_un {op : UnaryOp} {r : V → Hp → VK → Prop} (ho : UnR X (unaryOp op) r) (ha : PE X a ta) : PE X (.UnaryOp op a pos) (tUn r ta) := by
  intro pins s σ H Q I h
  exact UnaryOp_ (thn (ha pins s σ H _ I h) fun v s1 ⟨x, H1, I1, r1, q1⟩ => ho pins s1 σ H1 x v Q I1 r1 q1)
/-- a op= e at a name: the name's slot i -/
theorem augR {op : Operator} {r : R2} (ho : OpR X (inplaceOp op) r) {pins : List (Addr × Obj)} {s : Shared} {σ : St} {H : Hp} {x y : V} {v u : Value} {Q : VK} (I : Inv X pins σ H s)
    (rx : RelV x v) (ry : RelV y u) (q : r x y H Q) : wpAny (model X.prog X.w) X.A (inplaceOp op v u) (EP X pins σ Q) X.xe s := ho pins s σ H x y v u Q I rx ry q

/-! ### ints -/
theorem opI {f : Value → Value → Sem Value} {C : Int → Int → Prop} {g : Int → Int → Int}
    (rule : ∀ (i j : Int) (t u : Tok) (s : Shared) (Q : Value → Shared → Prop) (E : Value → Shared → Prop), C i j → Q (.int (g i j) s.toks) { s with toks := s.toks + 1 } → wpAny (model X.prog X.w) X.A (f (.int i t) (.int j u)) Q E s) :
    OpR X f (rI C fun i j => .int (g i j)) := by
  intro pins s σ H x y v u Q I rx ry h
  obtain ⟨i, j, rfl, rfl, hc, q⟩ := h
  obtain ⟨t, rfl⟩ := rx
  obtain ⟨t', rfl⟩ := ry
  exact rule i j t t' s _ _ hc ⟨.int (g i j), H, I.tok _, ⟨_, rfl⟩, q⟩
theorem opI0 {f : Value → Value → Sem Value} {g : Int → Int → Int}
    (rule : ∀ (i j : Int) (t u : Tok) (s : Shared) (Q : Value → Shared → Prop) (E : Value → Shared → Prop), Q (.int (g i j) s.toks) { s with toks := s.toks + 1 } → wpAny (model X.prog X.w) X.A (f (.int i t) (.int j u)) Q E s) :
    OpR X f (rI0 fun i j => .int (g i j)) := by
  intro pins s σ H x y v u Q I rx ry h
  obtain ⟨i, j, rfl, rfl, q⟩ := h
  obtain ⟨t, rfl⟩ := rx
  obtain ⟨t', rfl⟩ := ry
  exact rule i j t t' s _ _ ⟨.int (g i j), H, I.tok _, ⟨_, rfl⟩, q⟩
theorem opB0 {f : Value → Value → Sem Value} {g : Int → Int → Bool}
    (rule : ∀ (i j : Int) (t u : Tok) (s : Shared) (Q : Value → Shared → Prop) (E : Value → Shared → Prop), Q (.bool (g i j)) s → wpAny (model X.prog X.w) X.A (f (.int i t) (.int j u)) Q E s) :
    OpR X f (rI0 fun i j => .bl (g i j)) := by
  intro pins s σ H x y v u Q I rx ry h
  obtain ⟨i, j, rfl, rfl, q⟩ := h
  obtain ⟨t, rfl⟩ := rx
  obtain ⟨t', rfl⟩ := ry
  exact rule i j t t' s _ _ ⟨.bl (g i j), H, I, rfl, q⟩

def CDiv (i j : Int) : Prop := 0 < j ∧ j < 1073741824
def CDivN (i j : Int) : Prop := j ≠ 0 ∧ j.natAbs < 1073741824
def CPow (i j : Int) : Prop := 0 ≤ j ∧ j ≤ 1000000 ∧ i.natAbs < 2 ^ 64
def CMul (i j : Int) : Prop := (-(2 ^ 64) < i ∧ i < 2 ^ 64) ∨ (-(2 ^ 64) < j ∧ j < 2 ^ 64)
theorem CMul.ok {i j : Int} (h : CMul i j) : IntMulOk i j := by
  rcases h with ⟨h1, h2⟩ | ⟨h1, h2⟩
  · exact .of_left (intBits_le_64 h1 h2)
  · exact .of_right (intBits_le_64 h1 h2)
theorem two_pow_nn (k : Nat) : (0 : Int) ≤ 2 ^ k := by
  rw [two_pow_cast]
  exact Int.natCast_nonneg _

theorem op_add : OpR X (binaryOp .Add) (rI0 fun i j => .int (i + j)) := opI0 fun _ _ _ _ _ _ _ q => add_int q
theorem op_sub : OpR X (binaryOp .Sub) (rI0 fun i j => .int (i - j)) := opI0 fun _ _ _ _ _ _ _ q => sub_int q
theorem op_mul : OpR X (binaryOp .Mult) (rI CMul fun i j => .int (i * j)) := opI fun _ _ _ _ _ _ _ hc q => mul_int q hc.ok
/-- // by a positive divisor -/
theorem op_fdiv : OpR X (binaryOp .FloorDiv) (rI CDiv fun i j => .int (i / j)) := opI fun i j _ _ _ _ _ hc q => by
  have h1 : (0 : Int) < j := hc.1
  have h2 : j < 1073741824 := hc.2
  exact floordiv_int (by omega) (by rw [Int.fdiv_eq_ediv_of_nonneg i (by omega)]; exact q) (.inl (PyProof.noPylong_small (by omega)))
theorem op_fdivN : OpR X (binaryOp .FloorDiv) (rI CDivN fun i j => .int (i.fdiv j)) := opI fun _ _ _ _ _ _ _ hc q => floordiv_int hc.1 q (.inl (PyProof.noPylong_small hc.2))
/-- % by a positive divisor of any size -/
theorem op_mod : OpR X (binaryOp .Mod) (rI (fun _ j => 0 < j) fun i j => .int (i % j)) := opI fun i j _ _ _ _ _ hc q => by
  have h1 : (0 : Int) < j := hc
  exact mod_int' (by omega) (by rw [Int.fmod_eq_emod_of_nonneg i (by omega)]; exact q)
theorem op_modN : OpR X (binaryOp .Mod) (rI (fun _ j => j ≠ 0) fun i j => .int (i.fmod j)) := opI fun _ _ _ _ _ _ _ hc q => mod_int' hc q
theorem op_pow : OpR X (binaryOp .Pow) (rI CPow fun i j => .int (i ^ j.toNat)) := opI fun _ _ _ _ _ _ _ hc q => pow_int_small hc.1 hc.2.1 hc.2.2 q
theorem op_shl : OpR X (binaryOp .LShift) (rI CPow fun i j => .int (i * 2 ^ j.toNat)) := opI fun _ _ _ _ _ _ _ hc q => lshift_int_small hc.1 hc.2.1 hc.2.2 q
theorem op_shr : OpR X (binaryOp .RShift) (rI (fun _ j => 0 ≤ j) fun i j => .int (i / 2 ^ j.toNat)) := opI fun i j _ _ _ _ _ hc q =>
  rshift_int hc (by rw [Int.fdiv_eq_ediv_of_nonneg i (two_pow_nn _)]; exact q)
theorem op_and : OpR X (binaryOp .BitAnd) (rI0 fun i j => .int (Builtin.bitAnd i j)) := opI0 fun _ _ _ _ _ _ _ q => and_int q
theorem op_or : OpR X (binaryOp .BitOr) (rI0 fun i j => .int (Builtin.bitOr i j)) := opI0 fun _ _ _ _ _ _ _ q => or_int q
theorem op_xor : OpR X (binaryOp .BitXor) (rI0 fun i j => .int (Builtin.bitXor i j)) := opI0 fun _ _ _ _ _ _ _ q => xor_int q

theorem iop_add : OpR X (inplaceOp .Add) (rI0 fun i j => .int (i + j)) := opI0 fun _ _ _ _ _ _ _ q => iadd_int q
theorem iop_sub : OpR X (inplaceOp .Sub) (rI0 fun i j => .int (i - j)) := opI0 fun _ _ _ _ _ _ _ q => isub_int q
theorem iop_mul : OpR X (inplaceOp .Mult) (rI CMul fun i j => .int (i * j)) := opI fun _ _ _ _ _ _ _ hc q => imul_int q hc.ok
theorem iop_fdiv : OpR X (inplaceOp .FloorDiv) (rI CDiv fun i j => .int (i / j)) := opI fun i j _ _ _ _ _ hc q => by
  have h1 : (0 : Int) < j := hc.1
  have h2 : j < 1073741824 := hc.2
  exact ifloordiv_int (by omega) (by rw [Int.fdiv_eq_ediv_of_nonneg i (by omega)]; exact q) (.inl (PyProof.noPylong_small (by omega)))
theorem iop_mod : OpR X (inplaceOp .Mod) (rI (fun _ j => 0 < j) fun i j => .int (i % j)) := opI fun i j _ _ _ _ _ hc q => by
  have h1 : (0 : Int) < j := hc
  exact imod_int (by omega) (by rw [Int.fmod_eq_emod_of_nonneg i (by omega)]; exact q)
theorem iop_shl : OpR X (inplaceOp .LShift) (rI CPow fun i j => .int (i * 2 ^ j.toNat)) := opI fun _ _ _ _ _ _ _ hc q => ilshift_int_small hc.1 hc.2.1 hc.2.2 q
theorem iop_shr : OpR X (inplaceOp .RShift) (rI (fun _ j => 0 ≤ j) fun i j => .int (i / 2 ^ j.toNat)) := opI fun i j _ _ _ _ _ hc q =>
  irshift_int hc (by rw [Int.fdiv_eq_ediv_of_nonneg i (two_pow_nn _)]; exact q)
theorem iop_and : OpR X (inplaceOp .BitAnd) (rI0 fun i j => .int (Builtin.bitAnd i j)) := opI0 fun _ _ _ _ _ _ _ q => iand_int q
theorem iop_or : OpR X (inplaceOp .BitOr) (rI0 fun i j => .int (Builtin.bitOr i j)) := opI0 fun _ _ _ _ _ _ _ q => ior_int q
theorem iop_xor : OpR X (inplaceOp .BitXor) (rI0 fun i j => .int (Builtin.bitXor i j)) := opI0 fun _ _ _ _ _ _ _ q => ixor_int q

theorem unI {f : Value → Sem Value} {g : Int → Int}
    (rule : ∀ (i : Int) (t : Tok) (s : Shared) (Q : Value → Shared → Prop) (E : Value → Shared → Prop), Q (.int (g i) s.toks) { s with toks := s.toks + 1 } → wpAny (model X.prog X.w) X.A (f (.int i t)) Q E s) :
    UnR X f (rU fun i => .int (g i)) := by
  intro pins s σ H x v Q I rx h
  obtain ⟨i, rfl, q⟩ := h
  obtain ⟨t, rfl⟩ := rx
  exact rule i t s _ _ ⟨.int (g i), H, I.tok _, ⟨_, rfl⟩, q⟩
theorem un_neg : UnR X (unaryOp .USub) (rU fun i => .int (-i)) := unI fun _ _ _ _ _ q => neg_int q
theorem un_inv : UnR X (unaryOp .Invert) (rU fun i => .int (Builtin.bitNot i)) := unI fun _ _ _ _ _ q => invert_int q

/-! ### bools among ints: n += (a < b) -/
theorem op_add_ib : OpR X (binaryOp .Add) (fun x y H Q => ∃ i k, x = .int i ∧ y = .bl k ∧ Q (.int (i + b2i k)) H) := by
  intro pins s σ H x y v u Q I rx ry h
  obtain ⟨i, k, rfl, rfl, q⟩ := h
  obtain ⟨t, rfl⟩ := rx
  cases ry
  exact add_int_bool ⟨.int (i + b2i k), H, I.tok _, ⟨_, rfl⟩, q⟩
end

/-! ### comparisons -/
/-- the scalars that == tells apart as data does -/
def scal : V → V → Bool
  | .non, .non => true | .non, .int _ => true | .int _, .non => true | .non, .bl _ => true | .bl _, .non => true | .non, .str _ => true | .str _, .non => true
  | .int _, .int _ => true | .bl _, .bl _ => true | .str _, .str _ => true | .byt _, .byt _ => true
  | .int _, .str _ => true | .str _, .int _ => true | .bl _, .str _ => true | .str _, .bl _ => true
  | _, _ => false
def rEq : R2 := fun x y H Q => scal x y = true ∧ Q (.bl (decide (x = y))) H
def rNe : R2 := fun x y H Q => scal x y = true ∧ Q (.bl (!decide (x = y))) H

theorem dec_int {i j : Int} : decide (V.int i = V.int j) = (i == j) := by
  rw [Bool.eq_iff_iff]
  simp
theorem dec_bl {i j : Bool} : decide (V.bl i = V.bl j) = (i == j) := by
  rw [Bool.eq_iff_iff]
  simp
theorem dec_str {i j : Str} : decide (V.str i = V.str j) = (i == j) := by
  rw [Bool.eq_iff_iff]
  simp
theorem dec_byt {i j : Array UInt8} : decide (V.byt i = V.byt j) = (i.toList == j.toList) := by
  rw [Bool.eq_iff_iff]
  cases i
  cases j
  simp

section
variable {X : Cx} {a b c : Expr} {ta tb tc : TE} {pos : Pos}
theorem fin_bl {pins : List (Addr × Obj)} {σ : St} {H : Hp} {s : Shared} {Q : VK} {k k' : Bool} (I : Inv X pins σ H s) (q : Q (.bl k) H) (e : k = k') : EP X pins σ Q (.bool k') s := by
  subst e
  exact ⟨.bl k, H, I, rfl, q⟩
theorem op_eq : OpR X (compareOp .Eq) rEq := by
  intro pins s σ H x y v u Q I rx ry h
  obtain ⟨hs, q⟩ := h
  cases x with
  | non =>
    cases rx
    cases y with
    | non => cases ry; exact PySem.EqNone.eq_none_none (fin_bl I q (by simp))
    | bl j => cases ry; exact PySem.EqNone.eq_none_bool (fin_bl I q (by simp))
    | int j => obtain ⟨t', rfl⟩ := ry; exact PySem.EqNone.eq_none_int (fin_bl I q (by simp))
    | str j => obtain ⟨t', rfl⟩ := ry; exact PySem.EqNone.eq_none_str (fin_bl I q (by simp))
    | _ => exact absurd (show false = true from hs) Bool.false_ne_true
  | bl i =>
    cases rx
    cases y with
    | non => cases ry; exact PySem.EqNone.eq_bool_none (fin_bl I q (by simp))
    | bl j => cases ry; exact eq_bool (fin_bl I q dec_bl)
    | str j => obtain ⟨t', rfl⟩ := ry; exact PySem.EqMixed.eq_bool_str (fin_bl I q (by simp))
    | _ => exact absurd (show false = true from hs) Bool.false_ne_true
  | int i =>
    obtain ⟨t, rfl⟩ := rx
    cases y with
    | non => cases ry; exact PySem.EqNone.eq_int_none (fin_bl I q (by simp))
    | int j => obtain ⟨t', rfl⟩ := ry; exact eq_int (fin_bl I q dec_int)
    | str j => obtain ⟨t', rfl⟩ := ry; exact PySem.EqMixed.eq_int_str (fin_bl I q (by simp))
    | _ => exact absurd (show false = true from hs) Bool.false_ne_true
  | str i =>
    obtain ⟨t, rfl⟩ := rx
    cases y with
    | non => cases ry; exact PySem.EqNone.eq_str_none (fin_bl I q (by simp))
    | bl j => cases ry; exact PySem.EqMixed.eq_str_bool (fin_bl I q (by simp))
    | int j => obtain ⟨t', rfl⟩ := ry; exact PySem.EqMixed.eq_str_int (fin_bl I q (by simp))
    | str j => obtain ⟨t', rfl⟩ := ry; exact eq_str (fin_bl I q dec_str)
    | _ => exact absurd (show false = true from hs) Bool.false_ne_true
  | byt i =>
    obtain ⟨t, rfl⟩ := rx
    cases y with
    | byt j => obtain ⟨t', rfl⟩ := ry; exact PySem.W.eq_bytes (fin_bl I q dec_byt)
    | _ => exact absurd (show false = true from hs) Bool.false_ne_true
  | _ => cases y <;> exact absurd (show false = true from hs) Bool.false_ne_true
theorem op_ne : OpR X (compareOp .NotEq) rNe := by
  intro pins s σ H x y v u Q I rx ry h
  obtain ⟨hs, q⟩ := h
  cases x with
  | non =>
    cases rx
    cases y with
    | non => cases ry; exact PySem.EqNone.ne_none_none (fin_bl I q (by simp))
    | bl j => cases ry; exact PySem.EqNone.ne_none_bool (fin_bl I q (by simp))
    | int j => obtain ⟨t', rfl⟩ := ry; exact PySem.EqNone.ne_none_int (fin_bl I q (by simp))
    | str j => obtain ⟨t', rfl⟩ := ry; exact PySem.EqNone.ne_none_str (fin_bl I q (by simp))
    | _ => exact absurd (show false = true from hs) Bool.false_ne_true
  | bl i =>
    cases rx
    cases y with
    | non => cases ry; exact PySem.EqNone.ne_bool_none (fin_bl I q (by simp))
    | bl j => cases ry; exact ne_bool (fin_bl I q (congrArg not dec_bl))
    | str j => obtain ⟨t', rfl⟩ := ry; exact PySem.EqMixed.ne_bool_str (fin_bl I q (by simp))
    | _ => exact absurd (show false = true from hs) Bool.false_ne_true
  | int i =>
    obtain ⟨t, rfl⟩ := rx
    cases y with
    | non => cases ry; exact PySem.EqNone.ne_int_none (fin_bl I q (by simp))
    | int j => obtain ⟨t', rfl⟩ := ry; exact ne_int (fin_bl I q (congrArg not dec_int))
    | str j => obtain ⟨t', rfl⟩ := ry; exact PySem.EqMixed.ne_int_str (fin_bl I q (by simp))
    | _ => exact absurd (show false = true from hs) Bool.false_ne_true
  | str i =>
    obtain ⟨t, rfl⟩ := rx
    cases y with
    | non => cases ry; exact PySem.EqNone.ne_str_none (fin_bl I q (by simp))
    | bl j => cases ry; exact PySem.EqMixed.ne_str_bool (fin_bl I q (by simp))
    | int j => obtain ⟨t', rfl⟩ := ry; exact PySem.EqMixed.ne_str_int (fin_bl I q (by simp))
    | str j => obtain ⟨t', rfl⟩ := ry; exact ne_str (fin_bl I q (congrArg not dec_str))
    | _ => exact absurd (show false = true from hs) Bool.false_ne_true
  | byt i =>
    obtain ⟨t, rfl⟩ := rx
    cases y with
    | byt j => obtain ⟨t', rfl⟩ := ry; exact PySem.W.ne_bytes (fin_bl I q (congrArg not dec_byt))
    | _ => exact absurd (show false = true from hs) Bool.false_ne_true
  | _ => cases y <;> exact absurd (show false = true from hs) Bool.false_ne_true

theorem op_lt : OpR X (compareOp .Lt) (rI0 fun i j => .bl (decide (i < j))) := opB0 fun _ _ _ _ _ _ _ q => lt_int q
theorem op_le : OpR X (compareOp .LtE) (rI0 fun i j => .bl (decide (i ≤ j))) := opB0 fun _ _ _ _ _ _ _ q => le_int q
theorem op_gt : OpR X (compareOp .Gt) (rI0 fun i j => .bl (decide (j < i))) := opB0 fun _ _ _ _ _ _ _ q => gt_int q
theorem op_ge : OpR X (compareOp .GtE) (rI0 fun i j => .bl (decide (j ≤ i))) := opB0 fun _ _ _ _ _ _ _ q => ge_int q
theorem op_lt_str : OpR X (compareOp .Lt) (fun x y H Q => ∃ i j, x = .str i ∧ y = .str j ∧ Q (.bl (decide (i.cps.toList < j.cps.toList))) H) := by
  intro pins s σ H x y v u Q I rx ry h
  obtain ⟨i, j, rfl, rfl, q⟩ := h
  obtain ⟨t, rfl⟩ := rx
  obtain ⟨t', rfl⟩ := ry
  exact lt_str (fin_bl I q rfl)
/-- the one string within the other -/
theorem op_in_str : OpR X (compareOp .In) (fun x y H Q => ∃ i j, x = .str i ∧ y = .str j ∧ Q (.bl (!(Builtin.Str.occurrences j i 0 j.length 1).isEmpty)) H) := by
  intro pins s σ H x y v u Q I rx ry h
  obtain ⟨i, j, rfl, rfl, q⟩ := h
  obtain ⟨t, rfl⟩ := rx
  obtain ⟨t', rfl⟩ := ry
  exact in_str (fin_bl I q rfl)

/-- is None, is not None: the right side a value none -/
theorem op_isN : OpR X (compareOp .Is) (fun x y H Q => y = .non ∧ Q (.bl (decide (x = .non))) H) := by
  intro pins s σ H x y v u Q I rx ry h
  obtain ⟨rfl, q⟩ := h
  cases ry
  refine is_none_gen (fin_bl I q ?_)
  cases x <;> first
    | (cases rx; rfl)
    | (obtain ⟨t, rfl⟩ := rx; rfl)
theorem op_notN : OpR X (compareOp .IsNot) (fun x y H Q => y = .non ∧ Q (.bl (!decide (x = .non))) H) := by
  intro pins s σ H x y v u Q I rx ry h
  obtain ⟨rfl, q⟩ := h
  cases ry
  refine isnot_none_gen (fin_bl I q ?_)
  cases x <;> first
    | (cases rx; rfl)
    | (obtain ⟨t, rfl⟩ := rx; rfl)

theorem op_notin_str : OpR X (compareOp .NotIn) (fun x y H Q => ∃ i j, x = .str i ∧ y = .str j ∧ Q (.bl (!(!(Builtin.Str.occurrences j i 0 j.length 1).isEmpty))) H) := by
  intro pins s σ H x y v u Q I rx ry h
  obtain ⟨i, j, rfl, rfl, q⟩ := h
  obtain ⟨t, rfl⟩ := rx
  obtain ⟨t', rfl⟩ := ry
  exact notIn_str (fin_bl I q rfl)
/-- is, is not of two objects that are tracked lists or instances -/
def isObj : HO → Bool
  | .lst _ => true
  | .ins _ _ _ => true
  | _ => false
theorem obj_there {pins : List (Addr × Obj)} {s : Shared} {σ : St} {H : Hp} {a : Addr} {o : HO} (I : Inv X pins σ H s) (h : H a = some o) (p : isObj o = true) : ∃ ob, s.heap.get? a = some ob ∧ ob.cls ≠ .type "tuple" := by
  cases o with
  | lst xs =>
    obtain ⟨_, its, n, _, e⟩ : xs.length ≤ sizeLine ∧ ∃ (its : List Value) (n : Nat), Vals xs its ∧ s.heap.get? a = some { cls := .type "list", data := .seq its.toArray n } := I.hok a _ h
    exact ⟨_, e, (by show Value.type "list" ≠ .type "tuple"; decide +kernel)⟩
  | ins C dx fs =>
    have x := I.hok a _ h
    obtain ⟨_, _, _, e, _⟩ := x
    exact ⟨_, e, (by show Value.ref C ≠ .type "tuple"; exact fun z => by cases z)⟩
  | _ => exact absurd (show false = true from p) Bool.false_ne_true
theorem op_is_ref : OpR X (compareOp .Is) (fun x y H Q => ∃ a b oa ob, x = .ref a ∧ y = .ref b ∧ H a = some oa ∧ isObj oa = true ∧ H b = some ob ∧ isObj ob = true ∧ Q (.bl (decide (a = b))) H) := by
  intro pins s σ H x y v u Q I rx ry h
  obtain ⟨a, b, oa, ob, rfl, rfl, ha, pa, hb, pb, q⟩ := h
  cases rx
  cases ry
  obtain ⟨o1, e1, n1⟩ := obj_there I ha pa
  obtain ⟨o2, e2, _⟩ := obj_there I hb pb
  by_cases z : a = b
  · subst z
    exact wpAny_is_ref_self (fin_bl I q (by simp))
  · exact wpAny_is_ref_other z e1 e2 n1 (fin_bl I q (by simp [z]))
theorem op_isnot_ref : OpR X (compareOp .IsNot) (fun x y H Q => ∃ a b oa ob, x = .ref a ∧ y = .ref b ∧ H a = some oa ∧ isObj oa = true ∧ H b = some ob ∧ isObj ob = true ∧ Q (.bl (!decide (a = b))) H) := by
  intro pins s σ H x y v u Q I rx ry h
  obtain ⟨a, b, oa, ob, rfl, rfl, ha, pa, hb, pb, q⟩ := h
  cases rx
  cases ry
  obtain ⟨o1, e1, n1⟩ := obj_there I ha pa
  obtain ⟨o2, e2, _⟩ := obj_there I hb pb
  by_cases z : a = b
  · subst z
    exact wpAny_isNot_ref_self (fin_bl I q (by simp))
  · exact wpAny_isNot_ref_other z e1 e2 n1 (fin_bl I q (by simp [z]))

/-- two rules for one operation: by cases -/
theorem OpR.or {f : Value → Value → Sem Value} {r r' : R2} (h : OpR X f r) (h' : OpR X f r') : OpR X f (fun x y H Q => r x y H Q ∨ r' x y H Q) := by
  intro pins s σ H x y v u Q I rx ry q
  rcases q with q | q
  · exact h pins s σ H x y v u Q I rx ry q
  · exact h' pins s σ H x y v u Q I rx ry q

theorem nomark (b : Expr) {op : CmpOp} (h : op ≠ .In := by decide) (h2 : op ≠ .NotIn := by decide) : behindInMarks op b = false := by
  have e1 : (op == CmpOp.In) = false := by cases op <;> first | rfl | exact absurd rfl h
  have e2 : (op == CmpOp.NotIn) = false := by cases op <;> first | rfl | exact absurd rfl h2
  cases b <;> simp [behindInMarks, e1, e2]
/-- a comparison as a value; hm: nomark b, or (for in, not in) by with_unfolding_all rfl -/
theorem pe_cmpR {op : CmpOp} {r : R2} (ho : OpR X (compareOp op) r) (ha : PE X a ta) (hb : PE X b tb) (hm : behindInMarks op b = false) : PE X (.Compare a [op] [b] pos) (tOp r ta tb) := by
  intro pins s σ H Q I h
  exact wpAny_Compare1 (binT ha hb I h fun v u s2 x y H2 I2 rx ry q => ho pins s2 σ H2 x y v u Q I2 rx ry q) hm
/-- a reading of a value as a test -/
def tTest (t : TE) : TT := fun σ H Q => t σ H fun x H' => ∃ k, x = .bl k ∧ Q k H'
theorem pt_cmpR {op : CmpOp} {r : R2} (ho : OpR X (compareOp op) r) (ha : PE X a ta) (hb : PE X b tb) (hm : behindInMarks op b = false) : PT X (.Compare a [op] [b] pos) (tTest (tOp r ta tb)) := by
  intro pins s σ H Q I h
  refine wpAny_isTrue_Compare1 (thn (ha pins s σ H _ I h) fun v s1 ⟨x, H1, I1, r1, q1⟩ => thn (hb pins s1 σ H1 _ I1 q1) fun u s2 ⟨y, H2, I2, r2, q2⟩ =>
    thn (ho pins s2 σ H2 x y v u _ I2 r1 r2 q2) fun c s3 ⟨z, H3, I3, r3, k, e, q3⟩ => ?_) hm
  subst e
  cases r3
  exact wpAny_truthy_bool ⟨H3, I3, q3⟩
/-- a op1 b op2 c -/
def tChain (r r' : R2) (ta tb tc : TE) : TE := fun σ H Q => ta σ H fun x H1 => tb σ H1 fun y H2 => r x y H2 fun z H3 => ∃ k, z = .bl k ∧
  (if k = true then tc σ H3 fun w' H4 => r' y w' H4 Q else Q (.bl false) H3)
theorem pe_chain {op op' : CmpOp} {r r' : R2} (ho : OpR X (compareOp op) r) (ho' : OpR X (compareOp op') r') (ha : PE X a ta) (hb : PE X b tb) (hc : PE X c tc)
    (hm : lastMarks [op, op'] [b, c] = false := by with_unfolding_all rfl) : PE X (.Compare a [op, op'] [b, c] pos) (tChain r r' ta tb tc) := by
  intro pins s σ H Q I h
  refine Compare_chain (thn (ha pins s σ H _ I h) fun v s1 ⟨x, H1, I1, r1, q1⟩ => chain_link (thn (hb pins s1 σ H1 _ I1 q1) fun u s2 ⟨y, H2, I2, r2, q2⟩ =>
    thn (ho pins s2 σ H2 x y v u _ I2 r1 r2 q2) fun d s3 ⟨z, H3, I3, r3, k, e, q3⟩ => ?_)) hm
  subst e
  cases r3
  refine wpAny_truthy_bool ?_
  cases k with
  | false => exact ite_ff ⟨.bl false, H3, I3, rfl, q3⟩
  | true => exact ite_tt (chain_last (thn (hc pins s3 σ H3 _ I3 q3) fun w' s4 ⟨z', H4, I4, r4, q4⟩ => ho' pins s4 σ H4 y z' u w' Q I4 r2 r4 q4))
theorem pt_chain {op op' : CmpOp} {r r' : R2} (ho : OpR X (compareOp op) r) (ho' : OpR X (compareOp op') r') (ha : PE X a ta) (hb : PE X b tb) (hc : PE X c tc)
    (hm : lastMarks [op, op'] [b, c] = false := by with_unfolding_all rfl) : PT X (.Compare a [op, op'] [b, c] pos) (tTest (tChain r r' ta tb tc)) := by
  intro pins s σ H Q I h
  refine isTrue_chain (thn (ha pins s σ H _ I h) fun v s1 ⟨x, H1, I1, r1, q1⟩ => test_link (thn (hb pins s1 σ H1 _ I1 q1) fun u s2 ⟨y, H2, I2, r2, q2⟩ =>
    thn (ho pins s2 σ H2 x y v u _ I2 r1 r2 q2) fun d s3 ⟨z, H3, I3, r3, k, e, q3⟩ => ?_)) hm
  subst e
  cases r3
  refine wpAny_truthy_bool ?_
  cases k with
  | false =>
    obtain ⟨k', e', q'⟩ := q3
    cases e'
    exact ite_ff ⟨H3, I3, q'⟩
  | true =>
    refine ite_tt (test_last (thn (hc pins s3 σ H3 _ I3 q3) fun w' s4 ⟨z', H4, I4, r4, q4⟩ => thn (ho' pins s4 σ H4 y z' u w' _ I4 r2 r4 q4) fun d' s5 ⟨z2, H5, I5, r5, k2, e2, q5⟩ => ?_))
    subst e2
    cases r5
    exact wpAny_truthy_bool ⟨H5, I5, q5⟩

/-! ### truth -/
/-- a value's truth by the abstract heap -/
def TruV (K : PySem.W.Frag) (x : V) (H : Hp) (k : Bool) : Prop :=
  match x with
  | .non => k = false
  | .bl b => k = b
  | .int i => k = (i != 0)
  | .str y => y.length ≤ sizeLine ∧ k = ((y.length : Int) != 0)
  | .byt y => y.size ≤ sizeLine ∧ k = ((y.size : Int) != 0)
  | .ref p => (∃ xs, SqL K H p xs ∧ k = !xs.isEmpty) ∨ (∃ xs, SqT K H p xs ∧ k = !xs.isEmpty) ∨ ∃ kvs, H p = some (.dK kvs) ∧ k = !kvs.isEmpty
  | _ => False
theorem isEmpty_kv {κ : Type} {kvs : List (κ × V)} {vs : List (κ × Value)} (r : KV kvs vs) : (!vs.isEmpty) = !kvs.isEmpty := by
  cases r <;> rfl
theorem isEmpty_of {xs : List V} {its : List Value} (r : Vals xs its) : (!its.toArray.isEmpty) = !xs.isEmpty := by
  cases r <;> simp
theorem line63 : (sizeLine : Nat) < 2 ^ 63 := by rw [sizeLine_eq]; decide
theorem tru_ok : TruR X (fun x H Q => ∃ k, TruV X.K x H k ∧ Q k H) := by
  intro pins s σ H x v Q I rx h
  obtain ⟨k, e, q⟩ := h
  have hl := line63
  have hs : sizeLine = 16777216 := sizeLine_eq
  cases x with
  | non =>
    cases rx
    have e' : k = false := e
    subst e'
    exact truthy_none ⟨H, I, q⟩
  | bl b =>
    cases rx
    have e' : k = b := e
    subst e'
    exact wpAny_truthy_bool ⟨H, I, q⟩
  | int i =>
    obtain ⟨t, rfl⟩ := rx
    have e' : k = (i != 0) := e
    subst e'
    exact PySem.P.truthy_int ⟨H, I, q⟩
  | str y =>
    obtain ⟨t, rfl⟩ := rx
    obtain ⟨hy, e'⟩ : y.length ≤ sizeLine ∧ k = ((y.length : Int) != 0) := e
    subst e'
    exact PySem.P.truthy_str (by omega) ⟨H, I.tok _, q⟩
  | byt y =>
    obtain ⟨t, rfl⟩ := rx
    obtain ⟨hy, e'⟩ : y.size ≤ sizeLine ∧ k = ((y.size : Int) != 0) := e
    subst e'
    exact PySem.W.truthy_bytes (by omega) ⟨H, I.tok _, q⟩
  | ref p =>
    cases rx
    have e' : (∃ xs, SqL X.K H p xs ∧ k = !xs.isEmpty) ∨ (∃ xs, SqT X.K H p xs ∧ k = !xs.isEmpty) ∨ ∃ kvs, H p = some (.dK kvs) ∧ k = !kvs.isEmpty := e
    rcases e' with ⟨xs, hx, e'⟩ | ⟨xs, hx, e'⟩ | ⟨kvs, hx, e'⟩
    · subst e'
      obtain ⟨its, r, pl, hz⟩ := I.list hx
      have hlen := r.length
      exact wpAny_truthy_list pl.isList (by simp only [List.size_toArray]; omega) ⟨H, I.tok _, by rw [isEmpty_of r]; exact q⟩
    · subst e'
      obtain ⟨its, r, pl, hz⟩ := I.tuple hx
      have hlen := r.length
      exact truthy_tuple pl (by simp only [List.size_toArray]; omega) ⟨H, I.tok _, by rw [isEmpty_of r]; exact q⟩
    · subst e'
      obtain ⟨hz, hS, vs, r, m⟩ : kvs.length ≤ sizeLine ∧ (p == sysModules) = false ∧ ∃ vs, KV kvs vs ∧ s.heap.DictOf (mixKind X.prog X.w) p vs := I.hok p _ hx
      have hlen : kvs.length = vs.length := Paired.length r
      exact wpAny_truthy_dict hS m (by omega) ⟨H, I.tok _, by rw [isEmpty_kv r]; exact q⟩
  | _ => exact (show False from e).elim
/-- any expression whose test is its value's truth (a name, a call, a subscript, a field ..: he by fun _ => rfl) -/
theorem pt_truth (ha : PE X a ta) (he : ∀ whole, isTrue a X.env whole = (do let v ← whole; standAt a.pos; holding [v] (truthy v))) :
    PT X a (fun σ H Q => ta σ H fun x H' => ∃ k, TruV X.K x H' k ∧ Q k H') := by
  intro pins s σ H Q I h
  exact isTrue_plain (thn (ha pins s σ H _ I h) fun v s1 ⟨x, H1, I1, r1, q1⟩ => tru_ok pins s1 σ H1 x v Q I1 r1 q1) (he _)

/-! ### strs and bytes -/
theorem pe_byt {x : List UInt8} {k : Nat} : PE X (.Constant (.bytes x) k pos) (fun _ H Q => Q (.byt x.toArray) H) := fun _ _ _ H _ I h => PySem.W.Constant_bytes ⟨.byt x.toArray, H, I.tok _, ⟨_, rfl⟩, h⟩
theorem op_add_str : OpR X (binaryOp .Add) (fun x y H Q => ∃ i j, x = .str i ∧ y = .str j ∧ i.length + j.length ≤ sizeLine ∧ Q (.str (i ++ j)) H) := by
  intro pins s σ H x y v u Q I rx ry h
  obtain ⟨i, j, rfl, rfl, hz, q⟩ := h
  obtain ⟨t, rfl⟩ := rx
  obtain ⟨t', rfl⟩ := ry
  exact add_str (fun t' tk => ⟨.str (i ++ j), H, I.tok _, ⟨_, rfl⟩, q⟩) hz
theorem iop_add_str : OpR X (inplaceOp .Add) (fun x y H Q => ∃ i j, x = .str i ∧ y = .str j ∧ i.length + j.length ≤ sizeLine ∧ Q (.str (i ++ j)) H) := by
  intro pins s σ H x y v u Q I rx ry h
  obtain ⟨i, j, rfl, rfl, hz, q⟩ := h
  obtain ⟨t, rfl⟩ := rx
  obtain ⟨t', rfl⟩ := ry
  exact iadd_str (fun t' tk => ⟨.str (i ++ j), H, I.tok _, ⟨_, rfl⟩, q⟩) hz
theorem op_add_byt : OpR X (binaryOp .Add) (fun x y H Q => ∃ i j, x = .byt i ∧ y = .byt j ∧ i.size + j.size ≤ 16777216 ∧ Q (.byt (i ++ j)) H) := by
  intro pins s σ H x y v u Q I rx ry h
  obtain ⟨i, j, rfl, rfl, hz, q⟩ := h
  obtain ⟨t, rfl⟩ := rx
  obtain ⟨t', rfl⟩ := ry
  exact PySem.W.KBy.add_bytes hz (fun t' tk => ⟨.byt (i ++ j), H, I.tok _, ⟨_, rfl⟩, q⟩)

def PlainIxT (b : Expr) : Prop := ∀ o i, subscripted b false o i = operate [o, i] (getItem o i)
/-- s[i], 0 ≤ i < len -/
theorem pe_item_str (ha : PE X a ta) (hb : PE X b tb) (hs : PlainIxT b) :
    PE X (.Subscript a b pos) (tOp (fun x y H Q => ∃ z i c, x = .str z ∧ y = .int i ∧ 0 ≤ i ∧ i < 2 ^ 63 ∧ i < z.length ∧ z.cps[i.toNat]? = some c ∧ Q (.str ⟨#[c]⟩) H) ta tb) := by
  intro pins s σ H Q I h
  refine Subscript_ (binT ha hb I h fun v u s2 x y H2 I2 rx ry q => ?_)
  obtain ⟨z, i, c, rfl, rfl, h0, h63, h1, hc, q⟩ := q
  obtain ⟨t, rfl⟩ := rx
  obtain ⟨t', rfl⟩ := ry
  have e : seqIndex? i z.length = some i.toNat := PySem.StrLaws.seqIndex_nonneg h0 h1
  exact tail_any (typeIs_str s2 z t) slot_str_getitem.lookup (getItem_str (c := c) (by
    have e1 : decide (i < -(2 ^ 63 : Int)) = false := decide_eq_false (by omega)
    have e2 : decide (i ≥ 2 ^ 63) = false := decide_eq_false (by omega)
    rw [e1, e2] <;> rfl) (by rw [e]; exact hc) ⟨.str ⟨#[c]⟩, H2, I2.tok _, ⟨_, rfl⟩, q⟩) (hs _ _)
/-- b[i], 0 ≤ i < len -/
theorem pe_item_byt (ha : PE X a ta) (hb : PE X b tb) (hs : PlainIxT b) :
    PE X (.Subscript a b pos) (tOp (fun x y H Q => ∃ (z : List UInt8) (i : Int), x = .byt z.toArray ∧ y = .int i ∧ z.length ≤ sizeLine ∧ 0 ≤ i ∧ i < z.length ∧ Q (.int ((z.getD i.toNat 0).toNat : Nat)) H) ta tb) := by
  intro pins s σ H Q I h
  refine Subscript_ (binT ha hb I h fun v u s2 x y H2 I2 rx ry q => ?_)
  obtain ⟨z, i, rfl, rfl, hz, h0, h1, q⟩ := q
  obtain ⟨t, rfl⟩ := rx
  obtain ⟨t', rfl⟩ := ry
  have hl : sizeLine = 16777216 := sizeLine_eq
  exact tail_any (PySem.W.typeIs_bytes s2 z.toArray t) PySem.W.FB.slot_bytes_getitem.lookup (PySem.W.getItem_bytes (by omega) h0 h1 ⟨.int ((z.getD i.toNat 0).toNat : Nat), H2, I2.tok _, ⟨_, rfl⟩, q⟩) (hs _ _)

/-! ### scalar builtins, by CallR -/
theorem vals1 {x : V} {us : List Value} (r : Vals [x] us) : ∃ u, us = [u] ∧ RelV x u := by
  cases r with
  | cons r1 r2 => cases r2; exact ⟨_, rfl, r1⟩
theorem vals2 {x y : V} {us : List Value} (r : Vals [x, y] us) : ∃ u w', us = [u, w'] ∧ RelV x u ∧ RelV y w' := by
  cases r with
  | cons r1 r2 =>
    cases r2 with
    | cons r3 r4 => cases r4; exact ⟨_, _, rfl, r1, r3⟩
theorem call_abs : CallR X (.builtin "abs") (fun xs H Q => ∃ i, xs = [.int i] ∧ Q (.int (if i < 0 then -i else i)) H) := by
  intro pins s σ H xs us Q I r h
  obtain ⟨i, rfl, q⟩ := h
  obtain ⟨u, rfl, t, rfl⟩ := vals1 r
  exact call_abs_int fun u tk => ⟨.int (if i < 0 then -i else i), H, I.tok _, ⟨_, rfl⟩, q⟩
theorem call_max2 (hc : X.calm = true) : CallR X (.builtin "max") (fun xs H Q => ∃ i j, xs = [.int i, .int j] ∧ Q (.int (if j > i then j else i)) H) := by
  intro pins s σ H xs us Q I r h
  obtain ⟨i, j, rfl, q⟩ := h
  obtain ⟨u, w', rfl, ⟨t, rfl⟩, ⟨t', rfl⟩⟩ := vals2 r
  refine max_two_ints (I.ok.hd hc) fun h' tk k => ⟨_, H, I.kept k, ?_, q⟩
  by_cases hj : j > i
  · rw [if_pos hj, if_pos hj]; exact ⟨_, rfl⟩
  · rw [if_neg hj, if_neg hj]; exact ⟨_, rfl⟩
theorem call_min2 (hc : X.calm = true) : CallR X (.builtin "min") (fun xs H Q => ∃ i j, xs = [.int i, .int j] ∧ Q (.int (if j < i then j else i)) H) := by
  intro pins s σ H xs us Q I r h
  obtain ⟨i, j, rfl, q⟩ := h
  obtain ⟨u, w', rfl, ⟨t, rfl⟩, ⟨t', rfl⟩⟩ := vals2 r
  refine min_two_ints (I.ok.hd hc) fun h' tk k => ⟨_, H, I.kept k, ?_, q⟩
  by_cases hj : j < i
  · rw [if_pos hj, if_pos hj]; exact ⟨_, rfl⟩
  · rw [if_neg hj, if_neg hj]; exact ⟨_, rfl⟩
theorem call_int1 : CallR X (.type "int") (fun xs H Q => (∃ i, xs = [.int i] ∧ Q (.int i) H) ∨ ∃ k, xs = [.bl k] ∧ Q (.int (if k then 1 else 0)) H) := by
  intro pins s σ H xs us Q I r h
  rcases h with ⟨i, rfl, q⟩ | ⟨k, rfl, q⟩
  · obtain ⟨u, rfl, t, rfl⟩ := vals1 r
    exact call_int_int ⟨.int i, H, I, ⟨_, rfl⟩, q⟩
  · obtain ⟨u, rfl, r1⟩ := vals1 r
    cases r1
    exact call_int_bool ⟨.int (if k then 1 else 0), H, I.tok _, ⟨_, rfl⟩, q⟩
theorem call_bool1 : CallR X (.type "bool") (fun xs H Q => (∃ i, xs = [.int i] ∧ Q (.bl (i != 0)) H) ∨ ∃ k, xs = [.bl k] ∧ Q (.bl k) H) := by
  intro pins s σ H xs us Q I r h
  rcases h with ⟨i, rfl, q⟩ | ⟨k, rfl, q⟩
  · obtain ⟨u, rfl, t, rfl⟩ := vals1 r
    exact call_bool_int ⟨.bl (i != 0), H, I, rfl, q⟩
  · obtain ⟨u, rfl, r1⟩ := vals1 r
    cases r1
    exact call_bool_bool ⟨.bl k, H, I, rfl, q⟩
theorem call_str_int : CallR X (.type "str") (fun xs H Q => ∃ i, xs = [.int i] ∧ i.natAbs.log2 < 1920 ∧ Q (.str (toString i)) H) := by
  intro pins s σ H xs us Q I r h
  obtain ⟨i, rfl, hz, q⟩ := h
  obtain ⟨u, rfl, t, rfl⟩ := vals1 r
  exact PySem.P.str_of_int hz ⟨.str _, H, I.tok _, ⟨_, rfl⟩, q⟩
theorem call_ord : CallR X (.builtin "ord") (fun xs H Q => ∃ x, xs = [.str x] ∧ x.length = 1 ∧ Q (.int (x.cps.getD 0 0 : Nat)) H) := by
  intro pins s σ H xs us Q I r h
  obtain ⟨x, rfl, hz, q⟩ := h
  obtain ⟨u, rfl, t, rfl⟩ := vals1 r
  exact ord_of_one hz ⟨.int _, H, I.tok _, ⟨_, rfl⟩, q⟩
theorem call_chr : CallR X (.builtin "chr") (fun xs H Q => ∃ i, xs = [.int i] ∧ 0 ≤ i ∧ i ≤ 1114111 ∧ Q (.str ⟨#[i.toNat]⟩) H) := by
  intro pins s σ H xs us Q I r h
  obtain ⟨i, rfl, h0, h1, q⟩ := h
  obtain ⟨u, rfl, t, rfl⟩ := vals1 r
  exact chr_of_range h0 h1 ⟨.str _, H, I.tok _, ⟨_, rfl⟩, q⟩
/-- len of a str, a bytes, a list, a tuple -/
def LenV (K : PySem.W.Frag) (x : V) (H : Hp) (n : Nat) : Prop :=
  match x with
  | .str y => y.length ≤ sizeLine ∧ n = y.length
  | .byt y => y.size ≤ sizeLine ∧ n = y.size
  | .ref p => (∃ xs, SqL K H p xs ∧ n = xs.length) ∨ ∃ xs, SqT K H p xs ∧ n = xs.length
  | _ => False
theorem call_len : CallR X (.builtin "len") (fun xs H Q => ∃ x n, xs = [x] ∧ LenV X.K x H n ∧ Q (.int n) H) := by
  intro pins s σ H xs us Q I r h
  obtain ⟨x, n, rfl, e, q⟩ := h
  obtain ⟨u, rfl, rx⟩ := vals1 r
  have hl := line63
  have hs : sizeLine = 16777216 := sizeLine_eq
  cases x with
  | str y =>
    obtain ⟨t, rfl⟩ := rx
    obtain ⟨hy, e'⟩ : y.length ≤ sizeLine ∧ n = y.length := e
    subst e'
    exact len_str (by omega) ⟨.int _, H, I.tok _, ⟨_, rfl⟩, q⟩
  | byt y =>
    obtain ⟨t, rfl⟩ := rx
    obtain ⟨hy, e'⟩ : y.size ≤ sizeLine ∧ n = y.size := e
    subst e'
    exact PySem.W.len_bytes (by omega) ⟨.int _, H, I.tok _, ⟨_, rfl⟩, q⟩
  | ref p =>
    cases rx
    have e' : (∃ xs, SqL X.K H p xs ∧ n = xs.length) ∨ ∃ xs, SqT X.K H p xs ∧ n = xs.length := e
    rcases e' with ⟨xs, hx, e'⟩ | ⟨xs, hx, e'⟩
    · subst e'
      obtain ⟨its, r', pl, hz⟩ := I.list hx
      have hlen := r'.length
      exact Calls.call_len_list pl.isList (by simp only [List.size_toArray]; omega) ⟨.int xs.length, H, I.tok _, ⟨_, by simp only [List.size_toArray]; rw [hlen]⟩, q⟩
    · subst e'
      obtain ⟨its, r', pl, hz⟩ := I.tuple hx
      have hlen := r'.length
      exact len_tuple pl (by simp only [List.size_toArray]; omega) ⟨.int xs.length, H, I.tok _, ⟨_, by simp only [List.size_toArray]; rw [hlen]⟩, q⟩
  | _ => exact (show False from e).elim
/-- divmod: a new tuple -/
theorem call_divmod : CallR X (.builtin "divmod") (fun xs H Q => ∃ i j, xs = [.int i, .int j] ∧ CDiv i j ∧ ∀ p, H p = none → Q (.ref p) (upd H p (.tup [.int (i / j), .int (i % j)]))) := by
  intro pins s σ H xs us Q I r h
  obtain ⟨i, j, rfl, ⟨h1, h2⟩, q⟩ := h
  obtain ⟨u, w', rfl, ⟨t, rfl⟩, ⟨t', rfl⟩⟩ := vals2 r
  refine divmod_int (by omega) ?_ (.inl (PyProof.noPylong_small (by omega)))
  rw [Int.fdiv_eq_ediv_of_nonneg i (by omega), Int.fmod_eq_emod_of_nonneg i (by omega)]
  have hn : H s.heap.objs.size = none := I.hok.fresh (Nat.le_refl _)
  refine ⟨.ref s.heap.objs.size, _, ?_, rfl, q _ hn⟩
  refine I.laid (fun b o e => Heap.get?_push_of_some _ e) (Nat.le_refl _) ⟨by simp only [List.length_cons, List.length_nil]; rw [sizeLine_eq]; decide, [.int (i / j) s.toks, .int (i % j) (s.toks + 1)], .cons ⟨_, rfl⟩ (.cons ⟨_, rfl⟩ .nil), ?_⟩
  exact ⟨_, Heap.get?_push_size s.heap rfl, rfl, 0, rfl⟩
end
end L2

namespace L2
open PySem PySem.Spec PyProof.Rows

/-! ### an instance, its attributes a map -/
structure ObjM (h : Heap) (x dx C : Addr) (mA : Str → Option Value) : Prop where
  obj : h.get? x = some (PySem.W.instObj C dx)
  ns : h.Ns1 dx mA
  ne : dx ≠ x

theorem lookIn_ns {h : Heap} {dx : Addr} {mA : Str → Option Value} (n : h.Ns1 dx mA) : ∃ od, h.get? dx = some od ∧ ∀ name, PySem.W.lookIn name od = some (mA name) := by
  obtain ⟨o, es, ep, ho, hd, hk, _, hm⟩ := n
  refine ⟨o, ho, fun name => ?_⟩
  have e := hm name
  unfold nsFind findBy at e
  rw [← Array.find?_toList] at e
  unfold PySem.W.lookIn
  rw [hd]
  dsimp only
  split
  · rename_i y q
    rw [q] at e
    exact congrArg some e
  · rename_i q
    rw [q] at e
    have a : es.toList.any (·.refKey) = false := by
      rw [List.any_eq_false]
      intro y hy
      obtain ⟨z, t, hkey⟩ := hk y (Array.mem_toList_iff.mp hy)
      simp [DictEntry.refKey, hkey]
    have a' : ¬ es.toList.any (·.refKey) = true := by rw [a]; exact Bool.false_ne_true
    rw [if_neg a']
    exact congrArg some e

theorem ObjM.look {h : Heap} {x dx C : Addr} {mA : Str → Option Value} (I : ObjM h x dx C mA) : ∃ od, PySem.W.InstAt h x (PySem.W.instObj C dx) C (some od) ∧ ∀ name, PySem.W.lookIn name od = some (mA name) :=
  let ⟨od, ho, hl⟩ := lookIn_ns I.ns
  ⟨od, ⟨I.obj, rfl, rfl, ho⟩, hl⟩

section
variable {prog : Program} {w : World} {A : Around} {E : Value → Shared → Prop} {s : Shared} {K : PySem.W.Frag} {x dx C f : Addr} {mA : Str → Option Value} {name : Str} {v : Value}

theorem get_map {expr : Bool} {Q : Value → Shared → Prop} (X : K.In s.heap) (I : ObjM s.heap x dx C mA) (hg : PySem.W.plainGet K C name = true) (hh : PySem.W.hasDictIn K C = true)
    (ha : PySem.W.findIn K (.ref C) name = some none) (hv : mA name = some v) (hv' : PySem.W.handedIn v = true) (h : Q v { s with toks := s.toks + 1 }) :
    wpAny (model prog w) A (getAttr (.ref x) name expr) Q E s := by
  obtain ⟨od, J, hl⟩ := I.look
  exact PySem.W.get_value X J (PySem.W.plainGet_of hg).1 (PySem.W.findObj_own hh ha rfl (by rw [hl, hv])) hv' h

theorem get_const {expr : Bool} {a : Value} {Q : Value → Shared → Prop} (X : K.In s.heap) (I : ObjM s.heap x dx C mA) (hg : PySem.W.plainGet K C name = true) (hh : PySem.W.hasDictIn K C = true)
    (ha : PySem.W.findIn K (.ref C) name = some (some a)) (hn : PySem.W.specialIn K a "__get__" = some none) (hc : PySem.W.copiedNames.contains name = false) (hv : mA name = none) (hv' : PySem.W.handedIn a = true)
    (h : Q a { s with toks := s.toks + 1 }) : wpAny (model prog w) A (getAttr (.ref x) name expr) Q E s := by
  obtain ⟨od, J, hl⟩ := I.look
  exact PySem.W.get_value X J (PySem.W.plainGet_of hg).1 (PySem.W.findObj_cls hh ha hn hv' hc (by rw [hl, hv])) hv' h

theorem get_meth {pl : Sem Bool} {Q : Value × List Value → Shared → Prop} (X : K.In s.heap) (I : ObjM s.heap x dx C mA) (hg : PySem.W.plainGet K C name = true)
    (hf : PySem.W.findIn K (.ref C) name = some (some (.ref f))) (ht : PySem.W.isFn K (.ref f) = true) (hv : mA name = none) (h : Q (.ref f, [.ref x]) s) :
    wpAny (model prog w) A (getMethod (.ref x) name pl) Q E s := by
  obtain ⟨od, J, hl⟩ := I.look
  exact PySem.W.method_fn X J (PySem.W.plainGet_of hg).1 (PySem.W.plainGet_of hg).2 hf (beq_iff_eq.mp ht) (by show (PySem.W.lookIn name od).map (·.isSome) = some false; rw [hl, hv]; rfl) h

theorem set_map {ns : List Str} {Q : Unit → Shared → Prop} (X : K.In s.heap) (I : ObjM s.heap x dx C mA)
    (hs : PySem.W.findIn K (.ref C) "__setattr__" = some (some (.builtin "object.__setattr__"))) (hp : PySem.W.plainOver K C = true) (ht : PySem.W.takerIn K C name = some none) (hh : PySem.W.hasDictIn K C = true)
    (hw : PySem.Within mA ns) (hsz : ns.length ≤ sizeLine)
    (h : ∀ h', ObjM h' x dx C (fun y => if y = name then some v else mA y) → Heap.SameBut dx s.heap h' → Q () { s with heap := h', toks := s.toks + 2 }) :
    wpAny (model prog w) A (setAttr (.ref x) name v) Q E s := by
  obtain ⟨od, J, hl⟩ := I.look
  refine PySem.W.set_plain X J hs (PySem.W.osa_open (s := { s with toks := s.toks + 1 }) (r := none) X J hp ht fun b => ?_)
  obtain ⟨cd, hc, hd'⟩ := PySem.W.any_some hh
  have hx : s.heap.get? x = some ⟨.ref C, some dx, .plain, #[]⟩ := I.obj
  refine wpAny_bind (wpAny_pure (wpAny_bind (wpAny_bind (wpAny_loadPart hx (wpAny_bind (PySem.W.Looks.here (s := { s with toks := s.toks + 1 }) (PySem.W.looks_clsIn X hc) ?_))))))
  rw [hd']
  refine wpAny_pure (a := some dx) (wpAny_bind (wpAny_pure (wpAny_bind ?_)))
  refine wpAny_nsSet1 (s := { s with toks := s.toks + 1 }) I.ns fun h' hn2 hs2 => ?_
  obtain ⟨oD, esD, epD, hoD, hdD, hcD⟩ := hn2.count (PySem.Within.cons name v hw)
  refine wpAny_bind (wpAny_lookBehind hoD (by rw [hdD]; exact pastItsLine_dict (Nat.le_trans hcD (by rw [List.length_cons]; omega))) ?_)
  exact wpAny_pure (h _ ⟨(hs2.2 _ (Ne.symm I.ne)).trans I.obj, hn2, I.ne⟩ hs2)

/-- C(..): the dict at the heap's end, the instance behind it; then its __init__ -/
theorem make_map {R : Result → Shared → Prop} {vs : List Value} {kw : List (Str × Value)} (X : K.In s.heap) (hm : PySem.W.makesIn K C = true)
    (hi : PySem.W.findIn K (.ref C) "__init__" = some (some (.ref f))) (hf : PySem.W.typeIn K (.ref f) = some (.type "function"))
    (h : codeAny (model prog w) (A.under (.builtin "type.__call__" ⟨.ref C :: vs, kw⟩)) (.call (.ref f) ⟨.ref (s.heap.objs.size + 1) :: vs, kw⟩) (PySem.W.InitBack (s.heap.objs.size + 1) R)
      { s with heap := (s.heap.push PySem.W.emptyDict).push (PySem.W.instObj C s.heap.objs.size) }) :
    codeAny (model prog w) A (.call (.ref C) ⟨vs, kw⟩) R s := by
  obtain ⟨hh, g, d, t, os⟩ := s
  exact PySem.W.make_core (PySem.W.makes_of X hm) (PySem.W.looks_findIn X hi) (fun self => PySem.W.bind_fn X self hf) (.inl rfl) h
/-- C() where there is no __init__ but object's -/
theorem make_map0 {R : Result → Shared → Prop} (X : K.In s.heap) (hm : PySem.W.makesIn K C = true)
    (hi : PySem.W.findIn K (.ref C) "__init__" = some (some (.builtin "object.__init__")))
    (hb : ∀ self, PySem.W.Looks (model prog w) s.heap (bindSpecial (.builtin "object.__init__") self) (.builtin "object.__init__", [self]))
    (h : codeAny (model prog w) (A.under (.builtin "type.__call__" ⟨[.ref C], []⟩)) (.call (.builtin "object.__init__") ⟨[.ref (s.heap.objs.size + 1)], []⟩) (PySem.W.InitBack (s.heap.objs.size + 1) R)
      { s with heap := (s.heap.push PySem.W.emptyDict).push (PySem.W.instObj C s.heap.objs.size) }) :
    codeAny (model prog w) A (.call (.ref C) ⟨[], []⟩) R s := by
  obtain ⟨hh, g, d, t, os⟩ := s
  exact PySem.W.make_core (PySem.W.makes_of X hm) (PySem.W.looks_findIn X hi) hb (.inr ⟨rfl, rfl⟩) h
end

/-! ### the attributes as a list of pairs -/
def putF (f : Str) (v : V) : List (Str × V) → List (Str × V)
  | [] => [(f, v)]
  | (g, x) :: r => if g = f then (g, v) :: r else (g, x) :: putF f v r
theorem lookup_putF (f g : Str) (v : V) : ∀ fs : List (Str × V), (putF f v fs).lookup g = if g = f then some v else fs.lookup g
  | [] => by
    show List.lookup g [(f, v)] = _
    by_cases h : g = f
    · have hb : (g == f) = true := beq_iff_eq.mpr h
      simp only [List.lookup, hb, if_pos h]
    · have hb : (g == f) = false := beq_eq_false_iff_ne.mpr h
      simp only [List.lookup, hb, if_neg h]
  | (k, x) :: r => by
    have ih := lookup_putF f g v r
    rw [show putF f v ((k, x) :: r) = (if k = f then (k, v) :: r else (k, x) :: putF f v r) from rfl]
    by_cases hk : k = f
    · rw [if_pos hk]
      by_cases h : g = k
      · have hb : (g == k) = true := beq_iff_eq.mpr h
        simp only [List.lookup, hb, if_pos (h.trans hk)]
      · have hb : (g == k) = false := beq_eq_false_iff_ne.mpr h
        simp only [List.lookup, hb, if_neg (fun e : g = f => h (e.trans hk.symm))]
    · rw [if_neg hk]
      by_cases h : g = k
      · have hb : (g == k) = true := beq_iff_eq.mpr h
        simp only [List.lookup, hb, if_neg (fun e : g = f => hk (h.symm.trans e))]
      · have hb : (g == k) = false := beq_eq_false_iff_ne.mpr h
        simp only [List.lookup, hb]
        exact ih
theorem keys_putF (f : Str) (v : V) : ∀ fs : List (Str × V), f ∈ (putF f v fs).map (·.1) ∧ ∀ g, g ∈ fs.map (·.1) → g ∈ (putF f v fs).map (·.1)
  | [] => ⟨by simp [putF], fun g h => by simp at h⟩
  | (k, x) :: r => by
    obtain ⟨i1, i2⟩ := keys_putF f v r
    rw [show putF f v ((k, x) :: r) = (if k = f then (k, v) :: r else (k, x) :: putF f v r) from rfl]
    by_cases hk : k = f
    · rw [if_pos hk]
      subst hk
      exact ⟨by simp, fun g h => by simpa using h⟩
    · rw [if_neg hk]
      refine ⟨?_, fun g h => ?_⟩
      · rw [List.map_cons]
        exact List.mem_cons_of_mem _ i1
      · rw [List.map_cons] at h ⊢
        rcases List.mem_cons.mp h with e | e
        · exact List.mem_cons.mpr (.inl e)
        · exact List.mem_cons_of_mem _ (i2 g e)
theorem length_putF (f : Str) (v : V) : ∀ fs : List (Str × V), (putF f v fs).length ≤ fs.length + 1
  | [] => by simp [putF]
  | (k, x) :: r => by
    have ih := length_putF f v r
    rw [show putF f v ((k, x) :: r) = (if k = f then (k, v) :: r else (k, x) :: putF f v r) from rfl]
    by_cases hk : k = f
    · rw [if_pos hk, List.length_cons, List.length_cons]; omega
    · rw [if_neg hk, List.length_cons, List.length_cons]; omega

theorem RelO.some_of {v : V} {o : Option Value} (r : RelO (some v) o) : ∃ u, o = some u ∧ RelV v u := by
  cases o with
  | none => exact (show False from r).elim
  | some u => exact ⟨u, rfl, r⟩
theorem RelO.none_of {o : Option Value} (r : RelO none o) : o = none := by
  cases o with
  | none => rfl
  | some u => exact (show False from r).elim
theorem handed_of {v : V} {u : Value} (r : RelV v u) : PySem.W.handedIn u = true := by
  cases v with
  | non => cases (show u = Value.none from r); rfl
  | bl b => cases (show u = Value.bool b from r); rfl
  | int i => obtain ⟨t, e⟩ := (show ∃ t, u = Value.int i t from r); cases e; rfl
  | str x => obtain ⟨t, e⟩ := (show ∃ t, u = Value.str x t from r); cases e; rfl
  | byt b => obtain ⟨t, e⟩ := (show ∃ t, u = Value.bytes b t from r); cases e; rfl
  | flt b => obtain ⟨t, e⟩ := (show ∃ t, u = Value.float b t from r); cases e; rfl
  | ref a => cases (show u = Value.ref a from r); rfl
  | ty n => cases (show u = Value.type n from r); rfl

section
variable {P : Program} {w : World} {H H' : Hp} {h h' : Heap} {a C dx : Addr} {fs fs' : List (Str × V)}
theorem ins_get (hok : HOk P w H h) (e : H a = some (.ins C dx fs)) : ∃ mA, ObjM h a dx C mA ∧ (∀ f, RelO (fs.lookup f) (mA f)) ∧ PySem.Within mA (fs.map (·.1)) ∧ fs.length ≤ 1000 ∧ H dx = some (.own a) := by
  obtain ⟨d, z, ne, ob, mA, n, r, q⟩ := (show ObjOk P w H h a (.ins C dx fs) from hok a _ e)
  exact ⟨mA, ⟨ob, n, ne⟩, r, q, z, d⟩
end

/-! ### what of the text a class must have -/
structure Cls (K : PySem.W.Frag) (C : Addr) : Prop where
  pg : PySem.W.plainGet K C Str.empty = true
  hd : PySem.W.hasDictIn K C = true
  po : PySem.W.plainOver K C = true
  sa : PySem.W.findIn K (.ref C) "__setattr__" = some (some (.builtin "object.__setattr__"))
theorem Cls.get {K : PySem.W.Frag} {C : Addr} (c : Cls K C) (f : Str) : PySem.W.plainGet K C f = true := c.pg
/-- no class of it has the name -/
def NoAttr (K : PySem.W.Frag) (C : Addr) (f : Str) : Prop := PySem.W.findIn K (.ref C) f = some none
theorem NoAttr.taker {K : PySem.W.Frag} {C : Addr} {f : Str} (n : NoAttr K C f) : PySem.W.takerIn K C f = some none := by
  unfold PySem.W.takerIn
  rw [show PySem.W.findIn K (.ref C) f = some none from n]
  rfl
/-- a constant of the class -/
structure Con (K : PySem.W.Frag) (C : Addr) (f : Str) (v : V) (u : Value) : Prop where
  at_ : PySem.W.findIn K (.ref C) f = some (some u)
  rel : RelV v u
  get : PySem.W.specialIn K u "__get__" = some none
  cp : PySem.W.copiedNames.contains f = false
/-- a method: a plain def of the class or of one above it -/
structure Meth (K : PySem.W.Frag) (C : Addr) (m : Str) (f : Addr) : Prop where
  at_ : PySem.W.findIn K (.ref C) m = some (some (.ref f))
  fn : PySem.W.isFn K (.ref f) = true
  kp : PySem.W.keepIn K (.ref f) = true

section
variable {X : Cx} {pins : List (Addr × Obj)} {σ : St} {H : Hp} {s : Shared} {a C dx : Addr} {fs : List (Str × V)} {f : Str} {v : V} {A : Around} {E : Value → Shared → Prop}

theorem getattr_ok {b : Bool} {Q : Value → Shared → Prop} (I : Inv X pins σ H s) (e : H a = some (.ins C dx fs)) (c : Cls X.K C) (n : NoAttr X.K C f) (l : fs.lookup f = some v)
    (h : ∀ u s', Inv X pins σ H s' → RelV v u → Q u s') : wpAny (model X.prog X.w) A (getAttr (.ref a) f b) Q E s := by
  obtain ⟨mA, O, r, _, _, _⟩ := ins_get I.hok e
  obtain ⟨u, hu, ru⟩ := RelO.some_of (v := v) (o := mA f) (by rw [← l]; exact r f)
  exact get_map I.kIn O (c.get f) c.hd n hu (handed_of ru) (h u _ (I.tok _) ru)

theorem getcon_ok {b : Bool} {u : Value} {Q : Value → Shared → Prop} (I : Inv X pins σ H s) (e : H a = some (.ins C dx fs)) (c : Cls X.K C) (k : Con X.K C f v u) (l : fs.lookup f = none)
    (h : ∀ s', Inv X pins σ H s' → Q u s') : wpAny (model X.prog X.w) A (getAttr (.ref a) f b) Q E s := by
  obtain ⟨mA, O, r, _, _, _⟩ := ins_get I.hok e
  have hn : mA f = none := RelO.none_of (by rw [← l]; exact r f)
  exact get_const I.kIn O (c.get f) c.hd k.at_ k.get k.cp hn (handed_of k.rel) (h _ (I.tok _))

theorem getmeth_ok {m : Str} {g : Addr} {pl : Sem Bool} {Q : Value × List Value → Shared → Prop} (I : Inv X pins σ H s) (e : H a = some (.ins C dx fs)) (c : Cls X.K C) (k : Meth X.K C m g) (l : fs.lookup m = none)
    (h : Q (.ref g, [.ref a]) s) : wpAny (model X.prog X.w) A (getMethod (.ref a) m pl) Q E s := by
  obtain ⟨mA, O, r, _, _, _⟩ := ins_get I.hok e
  have hn : mA m = none := RelO.none_of (by rw [← l]; exact r m)
  exact get_meth I.kIn O (c.get m) k.at_ k.fn hn h

theorem setattr_ok {y : V} {u : Value} {Q : Unit → Shared → Prop} (I : Inv X pins σ H s) (e : H a = some (.ins C dx fs)) (c : Cls X.K C) (n : NoAttr X.K C f) (hl : fs.length < 1000) (ry : RelV y u)
    (h : ∀ s', Inv X pins σ (upd H a (.ins C dx (putF f y fs))) s' → Q () s') : wpAny (model X.prog X.w) A (setAttr (.ref a) f u) Q E s := by
  obtain ⟨mA, O, r, wi, _, ho⟩ := ins_get I.hok e
  have hz : (fs.map (·.1)).length ≤ sizeLine := by rw [List.length_map, sizeLine_eq]; omega
  refine set_map I.kIn O c.sa c.po n.taker c.hd wi hz fun h' O' sb => h _ ?_
  have hd : ∃ o, h'.get? dx = some o := let ⟨o, _, _, e', _⟩ := O'.ns; ⟨o, e'⟩
  refine I.write (x := a) (e := dx) (by rw [e]; exact True.intro) (.inr ho) (fun b q hb z => (sb.2 b hb).trans z) hd ?_
  refine ⟨by rw [upd_ne O.ne]; exact ho, ?_, O.ne, O'.obj, _, O'.ns, fun g => ?_, fun g hg => ?_⟩
  · have := length_putF f y fs; omega
  · show RelO ((putF f y fs).lookup g) (if g = f then some u else mA g)
    rw [lookup_putF]
    by_cases q : g = f
    · rw [if_pos q, if_pos q]; exact ry
    · rw [if_neg q, if_neg q]; exact r g
  · by_cases q : g = f
    · rw [q]; exact (keys_putF f y fs).1
    · refine (keys_putF f y fs).2 g (wi g fun z => hg ?_)
      show (if g = f then some u else mA g) = none
      rw [if_neg q]; exact z

/-- a new instance, tracked, without attributes -/
theorem Inv.made (I : Inv X pins σ H s) : Inv X pins σ (upd (upd H s.heap.objs.size (.own (s.heap.objs.size + 1))) (s.heap.objs.size + 1) (.ins C s.heap.objs.size []))
    { s with heap := (s.heap.push PySem.W.emptyDict).push (PySem.W.instObj C s.heap.objs.size) } := by
  have e1 : (s.heap.push PySem.W.emptyDict).get? s.heap.objs.size = some PySem.W.emptyDict := Heap.get?_push_size s.heap rfl
  have e2 : ((s.heap.push PySem.W.emptyDict).push (PySem.W.instObj C s.heap.objs.size)).get? (s.heap.objs.size + 1) = some (PySem.W.instObj C s.heap.objs.size) := by
    have := Heap.get?_push_size (s.heap.push PySem.W.emptyDict) (o := PySem.W.instObj C s.heap.objs.size) rfl
    rwa [Heap.size_push] at this
  have e3 : (s.heap.push PySem.W.emptyDict).Ns s.heap.objs.size (fun _ => none) := ⟨PySem.W.emptyDict, #[], _, e1, rfl, (fun e he => absurd he (by simp)), fun _ => rfl⟩
  have I1 := I.laid (a := s.heap.objs.size) (o := .own (s.heap.objs.size + 1)) (h' := s.heap.push PySem.W.emptyDict) (t' := s.toks) (fun b u q => Heap.get?_push_of_some _ q) (Nat.le_refl _) ⟨_, e1⟩
  refine I1.laid (a := s.heap.objs.size + 1) (o := .ins C s.heap.objs.size []) (t' := s.toks) (fun b u q => Heap.get?_push_of_some _ q) (Nat.le_of_eq (Heap.size_push _ _)) ?_
  have ne : s.heap.objs.size ≠ s.heap.objs.size + 1 := Nat.ne_of_lt (Nat.lt_succ_self _)
  refine ⟨by rw [upd_ne ne, upd_same], Nat.zero_le _, ne, e2, fun _ => none, (Heap.Ns1.of_empty e3).at fun o q => Heap.get?_push_of_some _ q, fun _ => True.intro, fun y hy => absurd rfl hy⟩

/-- e.f where nothing but the object is asked: through attributeBase (super) and the last hold -/
theorem attr_of {prog : Program} {w : World} {env : Env} {e : Expr} {f : Str} {pos : Pos} {s : Shared} {Q : Value → Shared → Prop} (hb : attributeBase e f env (eval e env) = eval e env)
    (h : wpAny (model prog w) A (eval e env) (fun o s₁ => wpAny (model prog w) A (getAttr o f true) Q E s₁) E s) : wpAny (model prog w) A (eval (.Attribute e f pos) env) Q E s :=
  Attribute_any_ h (by rw [arm_eval_Attribute, hb])
end

/-! ### readings and rules -/
/-- e.f, an attribute of the instance -/
def tFld (K : PySem.W.Frag) (ta : TE) (f : Str) : TE := fun σ H Q => ta σ H fun x H1 => ∃ a C dx fs v, x = .ref a ∧ H1 a = some (.ins C dx fs) ∧ Cls K C ∧ NoAttr K C f ∧ fs.lookup f = some v ∧ Q v H1
/-- e.f, a constant of the class -/
def tCon (K : PySem.W.Frag) (ta : TE) (f : Str) : TE := fun σ H Q => ta σ H fun x H1 => ∃ a C dx fs v u, x = .ref a ∧ H1 a = some (.ins C dx fs) ∧ Cls K C ∧ Con K C f v u ∧ fs.lookup f = none ∧ Q v H1
/-- e.f = value -/
def sFld (K : PySem.W.Frag) (ta tv : TE) (f : Str) : TS := fun D σ H => tv σ H fun y H1 => ta σ H1 fun x H2 => ∃ a C dx fs, x = .ref a ∧ H2 a = some (.ins C dx fs) ∧ Cls K C ∧ NoAttr K C f ∧ fs.length < 1000 ∧
  D.nx σ (upd H2 a (.ins C dx (putF f y fs)))
/-- an augmented operator on two values -/
def InOp (X : Cx) (op : Operator) (rd : V → V → Hp → VK → Prop) : Prop :=
  ∀ (pins : List (Addr × Obj)) (s : Shared) (σ : St) (H : Hp) (x y : V) (u v : Value) (Q : VK), Inv X pins σ H s → RelV x u → RelV y v → rd x y H Q → wpAny (model X.prog X.w) X.A (inplaceOp op u v) (EP X pins σ Q) X.xe s
/-- e.f op= value -/
def sFldAug (K : PySem.W.Frag) (ta tv : TE) (rd : V → V → Hp → VK → Prop) (f : Str) : TS := fun D σ H => ta σ H fun x H1 => ∃ a C dx fs v, x = .ref a ∧ H1 a = some (.ins C dx fs) ∧ Cls K C ∧ NoAttr K C f ∧ fs.lookup f = some v ∧
  tv σ H1 fun y H2 => rd v y H2 fun z H3 => ∃ dx' fs', H3 a = some (.ins C dx' fs') ∧ fs'.length < 1000 ∧ D.nx σ (upd H3 a (.ins C dx' (putF f z fs')))

section
variable {X : Cx} {o e value : Expr} {f : Str} {pos pos' tpos : Pos} {ta tv : TE}
theorem pe_fld (he : PE X e ta) (hb : attributeBase e f X.env (eval e X.env) = eval e X.env) : PE X (.Attribute e f pos) (tFld X.K ta f) := by
  intro pins s σ H Q I h
  refine attr_of hb (thn (he pins s σ H _ I h) fun u s1 ⟨x, H1, I1, rx, a, C, dx, fs, v, ex, ea, c, n, l, q⟩ => ?_)
  subst ex
  obtain rfl : u = Value.ref a := rx
  exact getattr_ok I1 ea c n l fun u' s2 I2 ru => ⟨v, H1, I2, ru, q⟩
theorem pe_con (he : PE X e ta) (hb : attributeBase e f X.env (eval e X.env) = eval e X.env) : PE X (.Attribute e f pos) (tCon X.K ta f) := by
  intro pins s σ H Q I h
  refine attr_of hb (thn (he pins s σ H _ I h) fun u s1 ⟨x, H1, I1, rx, a, C, dx, fs, v, u0, ex, ea, c, k, l, q⟩ => ?_)
  subst ex
  obtain rfl : u = Value.ref a := rx
  exact getcon_ok I1 ea c k l fun s2 I2 => ⟨v, H1, I2, k.rel, q⟩
theorem ps_fld (ha : PE X o ta) (hv : PE X value tv) (hs : swapsWith value (some (.Attribute o f pos')) pos.line X.env = pure false) : PS X (.Assign [.Attribute o f pos'] value pos) (sFld X.K ta tv f) := by
  intro pins s σ H D I h
  refine plainObj_wpAny_Assign_Attribute (thn (hv pins s σ H _ I h) fun u s1 ⟨y, H1, I1, ry, q⟩ => thn (ha pins s1 σ H1 _ I1 q) fun ov s2 ⟨x, H2, I2, rx, a, C, dx, fs, ex, ea, c, n, l, q2⟩ => ?_) hs
  subst ex
  obtain rfl : ov = Value.ref a := rx
  exact setattr_ok I2 ea c n l ry fun s3 I3 => ⟨σ, _, I3, q2⟩
theorem ps_fldaug {op : Operator} {rd : V → V → Hp → VK → Prop} (ha : PE X o ta) (hv : PE X value tv) (hop : InOp X op rd) : PS X (.AugAssign (.Attribute o f tpos) op value pos) (sFldAug X.K ta tv rd f) := by
  intro pins s σ H D I h
  refine wpAny_AugAssign_AttributeAny (thn (ha pins s σ H _ I h) fun ov s1 ⟨x, H1, I1, rx, a, C, dx, fs, v, ex, ea, c, n, l, q⟩ => ?_)
  subst ex
  obtain rfl : ov = Value.ref a := rx
  refine getattr_ok I1 ea c n l fun u s2 I2 ru => thn (hv pins s2 σ H1 _ I2 q) fun w3 s3 ⟨y, H2, I3, ry, q3⟩ => thn (hop pins s3 σ H2 v y u w3 _ I3 ru ry q3) fun w4 s4 ⟨z, H3, I4, rz, dx', fs', ea', l', q4⟩ => ?_
  exact setattr_ok I4 ea' c n l' rz fun s5 I5 => ⟨σ, _, I5, q4⟩
def rAdd : V → V → Hp → VK → Prop := fun x y H Q => ∃ i j, x = .int i ∧ y = .int j ∧ Q (.int (i + j)) H
def rSub : V → V → Hp → VK → Prop := fun x y H Q => ∃ i j, x = .int i ∧ y = .int j ∧ Q (.int (i - j)) H
theorem in_add : InOp X .Add rAdd := by
  rintro pins s σ H x y u v Q I rx ry ⟨i, j, rfl, rfl, q⟩
  obtain ⟨t, rfl⟩ := (show ∃ t, u = Value.int i t from rx)
  obtain ⟨t', rfl⟩ := (show ∃ t', v = Value.int j t' from ry)
  exact PyProof.Rows.iadd_int ⟨.int (i + j), H, I.tok _, ⟨_, rfl⟩, q⟩
theorem in_sub : InOp X .Sub rSub := by
  rintro pins s σ H x y u v Q I rx ry ⟨i, j, rfl, rfl, q⟩
  obtain ⟨t, rfl⟩ := (show ∃ t, u = Value.int i t from rx)
  obtain ⟨t', rfl⟩ := (show ∃ t', v = Value.int j t' from ry)
  exact PyProof.Rows.isub_int ⟨.int (i - j), H, I.tok _, ⟨_, rfl⟩, q⟩

/-- what is between an instance and its method: the tree of a method call -/
theorem methcall_of {pl : Sem Bool} {m : Str} {apos : Pos} {args : List Expr} {pins : List (Addr × Obj)} {s : Shared} {σ : St} {H : Hp} {Q : Value → Shared → Prop} {te : TE} (he : PE X e te) (I : Inv X pins σ H s)
    (h : te σ H fun x H1 => ∃ a C dx fs g, x = .ref a ∧ H1 a = some (.ins C dx fs) ∧ Cls X.K C ∧ Meth X.K C m g ∧ fs.lookup m = none ∧
      ∀ s1, Inv X pins σ H1 s1 → wpAny (model X.prog X.w) X.A (callWith pos (.ref g) [.ref a] (backTo pos (starEach args X.env)) (backToKw pos (keywordEach [] X.env))) Q X.xe s1)
    (ht : eval (.Call (.Attribute e m apos) args [] pos) X.env = (do
      let ov ← eval e X.env
      standAt apos.atName
      let (f, first) ← holding [ov] (getMethod ov m pl)
      callWith pos f first (backTo pos (starEach args X.env)) (backToKw pos (keywordEach [] X.env)))) :
    wpAny (model X.prog X.w) X.A (eval (.Call (.Attribute e m apos) args [] pos) X.env) Q X.xe s := by
  refine PySem.W.methodCall_KW (pl := pl) (thn (he pins s σ H _ I h) fun u s1 ⟨x, H1, I1, rx, a, C, dx, fs, g, ex, ea, c, k, l, q⟩ => ?_) ht
  subst ex
  obtain rfl : u = Value.ref a := rx
  exact getmeth_ok I1 ea c k l (q s1 I1)
end

/-! ### isinstance -/
section
variable {X : Cx} {pins : List (Addr × Obj)} {σ : St} {H : Hp} {s : Shared} {A : Around} {E : Value → Shared → Prop} {Q : Value → Shared → Prop} {c : Value} {b : Bool}
/-- the type of a value, as the fragment's deciders take it; for an instance its class -/
inductive TyOf (K : PySem.W.Frag) (H : Hp) : V → Value → Prop where
  | non : TyOf K H .non (.type "NoneType")
  | bl (x : Bool) : TyOf K H (.bl x) (.type "bool")
  | int (i : Int) : TyOf K H (.int i) (.type "int")
  | str (x : Str) : TyOf K H (.str x) (.type "str")
  | flt (x : UInt64) : TyOf K H (.flt x) (.type "float")
  | lst {a : Addr} {xs : List V} (e : H a = some (.lst xs)) : TyOf K H (.ref a) (.type "list")
  | frz {a : Addr} {o : Obj} {xs : List V} (e : H a = some (.frz o (.lst xs))) : TyOf K H (.ref a) (.type "list")
  | tup {a : Addr} {xs : List V} (e : H a = some (.tup xs)) : TyOf K H (.ref a) (.type "tuple")
  | dK {a : Addr} {kvs : List (Key × V)} (e : H a = some (.dK kvs)) : TyOf K H (.ref a) (.type "dict")
  | dT {a : Addr} {kvs : List (List Key × V)} (e : H a = some (.dT kvs)) : TyOf K H (.ref a) (.type "dict")
  | ins {a C dx : Addr} {fs : List (Str × V)} (e : H a = some (.ins C dx fs)) (cl : Cls K C) (ha : PySem.W.findIn K (.ref C) "__class__" = some (some (.builtin "object.__class__")))
      (hn : PySem.W.specialIn K (.builtin "object.__class__") "__get__" = some (some (.builtin "getset_descriptor.__get__"))) (htk : PySem.W.takesIn K (.builtin "object.__class__") = some true)
      (hm : PySem.W.mroIn K C (.type "object") = some true) : TyOf K H (.ref a) (.ref C)
/-- isinstance(x, c) for one class c, a built-in or an own one: kitOne's answer -/
theorem isinst_ok {x : V} {u t : Value} (I : Inv X pins σ H s) (rx : RelV x u) (ty : TyOf X.K H x t) (e : PySem.W.kitOne X.K t c = some b) (h : ∀ tk, Q (.bool b) { s with toks := tk }) :
    wpAny (model X.prog X.w) A (call (.builtin "isinstance") [u, c]) Q E s := by
  cases ty with
  | non => cases (show u = Value.none from rx); exact PySem.W.kia_one PySem.W.kitx_none I.kIn True.intro e (fun z => nomatch z) h
  | bl y => cases (show u = Value.bool y from rx); exact PySem.W.kia_one PySem.W.kitx_bool I.kIn True.intro e (fun z => nomatch z) h
  | int i => obtain ⟨t, q⟩ := (show ∃ t, u = Value.int i t from rx); cases q; exact PySem.W.kia_one PySem.W.kitx_int I.kIn True.intro e (fun z => nomatch z) h
  | str y => obtain ⟨t, q⟩ := (show ∃ t, u = Value.str y t from rx); cases q; exact PySem.W.kia_one PySem.W.kitx_str I.kIn True.intro e (fun z => nomatch z) h
  | flt y => obtain ⟨t, q⟩ := (show ∃ t, u = Value.float y t from rx); cases q; exact PySem.W.kia_one PySem.W.kitx_float I.kIn True.intro e (fun z => nomatch z) h
  | @lst a xs ea =>
    cases (show u = Value.ref a from rx)
    obtain ⟨_, _, n, _, h1⟩ := (show ObjOk X.prog X.w H s.heap a (.lst xs) from I.hok a _ ea)
    exact PySem.W.kia_one PySem.W.kitx_list I.kIn ⟨_, h1, rfl⟩ e (fun z => nomatch z) h
  | @frz a ob xs ea =>
    cases (show u = Value.ref a from rx)
    obtain ⟨_, _, _, n, _, h1⟩ := (show ObjOk X.prog X.w H s.heap a (.frz ob (.lst xs)) from I.hok a _ ea)
    exact PySem.W.kia_one PySem.W.kitx_list I.kIn ⟨_, h1, rfl⟩ e (fun z => nomatch z) h
  | @tup a xs ea =>
    cases (show u = Value.ref a from rx)
    obtain ⟨_, _, _, p⟩ := (show ObjOk X.prog X.w H s.heap a (.tup xs) from I.hok a _ ea)
    obtain ⟨o, h1, h2, _⟩ := p
    exact PySem.W.kia_one PySem.W.kitx_tuple I.kIn ⟨o, h1, h2⟩ e (fun z => nomatch z) h
  | @dK a kvs ea =>
    cases (show u = Value.ref a from rx)
    obtain ⟨_, _, vs, _, p⟩ := (show ObjOk X.prog X.w H s.heap a (.dK kvs) from I.hok a _ ea)
    obtain ⟨o, es, ep, h1, h2, _⟩ := p
    exact PySem.W.kia_one PySem.W.kitx_dict I.kIn ⟨o, h1, h2.1⟩ e (fun z => nomatch z) h
  | @dT a kvs ea =>
    cases (show u = Value.ref a from rx)
    obtain ⟨_, _, xs, _, o, es, ep, h1, h2, _⟩ := (show ObjOk X.prog X.w H s.heap a (.dT kvs) from I.hok a _ ea)
    exact PySem.W.kia_one PySem.W.kitx_dict I.kIn ⟨o, h1, h2.1⟩ e (fun z => nomatch z) h
  | @ins a C dx fs ea cl ha hn htk hm =>
    cases (show u = Value.ref a from rx)
    obtain ⟨mA, O, _⟩ := ins_get I.hok ea
    obtain ⟨od, J, _⟩ := O.look
    exact PySem.W.kia_one (PySem.W.kitx_own (cl.get _) cl.hd ha hn htk hm) I.kIn J e (fun z => nomatch z) h
end
end L2

namespace L2
open PySem PySem.Spec PyProof.Rows

/-! ### room -/
structure Room (k : Nat) (A : Around) : Prop where
  hd : A.handled = none
  dp : A.depth + 3 * k + 5 < recursionLimit
  un : A.units + 16 * k + 200 < cLine
  gd : A.guards = some []
theorem Room.mono {j k : Nat} {A : Around} (r : Room k A) (h : j ≤ k) : Room j A := ⟨r.hd, by have := r.dp; omega, by have := r.un; omega, r.gd⟩
theorem Room.deeper {k : Nat} {A : Around} (r : Room (k + 1) A) (env : Env) : Room k (A.deeper env) :=
  ⟨r.hd, by have := r.dp; show A.depth + 1 + 3 * k + 5 < _; omega, by have := r.un; show A.units + 3 + 16 * k + 200 < _; omega, r.gd⟩
theorem Room.in1 {k : Nat} {A : Around} (r : Room (k + 1) A) : Room k A.in1 :=
  ⟨r.hd, by have := r.dp; show A.depth + 3 * k + 5 < _; omega, by have := r.un; show A.units + 1 + 16 * k + 200 < _; omega, r.gd⟩
theorem make_depth {A : Around} {C : Addr} {us : List Value} {kw : List (Str × Value)} : (A.under (.builtin "type.__call__" ⟨.ref C :: us, kw⟩)).depth = A.depth + 1 := by
  first | rfl | simp [Around.under, Code.weight, Code.isCreation, Code.isGuard, Code.isCaller, Code.frames, Code.isFrame, guardIds]
theorem make_units {A : Around} {C : Addr} {us : List Value} {kw : List (Str × Value)} : (A.under (.builtin "type.__call__" ⟨.ref C :: us, kw⟩)).units = A.units + 1 := by
  first | rfl | simp [Around.under, Code.cUnits, Code.frames, Code.isFrame]
theorem Room.make {k : Nat} {A : Around} (r : Room (k + 1) A) (C : Addr) (us : List Value) (kw : List (Str × Value)) : Room k (A.under (.builtin "type.__call__" ⟨.ref C :: us, kw⟩)) :=
  ⟨r.hd, by have := r.dp; rw [make_depth]; omega, by have := r.un; rw [make_units]; omega, r.gd⟩
theorem Room.depth {k : Nat} {A : Around} (r : Room k A) : A.depth < recursionLimit := by have := r.dp; omega
theorem Room.units {k : Nat} {A : Around} (r : Room k A) : A.units + 64 < cLine := by have := r.un; omega
theorem Room.units0 {k : Nat} {A : Around} (r : Room k A) : A.units < cLine := by have := r.un; omega

/-! ### argument lists and displays -/
def tNil : TA := fun _ H Q => Q [] H
def tCons (ta : TE) (tr : TA) : TA := fun σ H Q => ta σ H fun x H1 => tr σ H1 fun xs H2 => Q (x :: xs) H2
section
variable {X : Cx} {e : Expr} {es : List Expr} {te : TE} {t : TA} {pos : Pos}
theorem pa_nil : PA X [] tNil := fun _ _ _ _ H Q I h => Calls.spliced_nil ⟨[], H, I, .nil, h⟩
theorem pa_cons (ha : PE X e te) (hr : PA X es t) (hs : starEach (e :: es) X.env = (false, eval e X.env) :: starEach es X.env := by rfl) : PA X (e :: es) (tCons te t) := by
  intro pos pins s σ H Q I h
  rw [hs]
  show wpAny _ _ (spliced ((false, eval e X.env) :: backTo pos (starEach es X.env))) _ _ s
  refine Calls.spliced_cons (thn (ha pins s σ H _ I h) fun u s1 ⟨x, H1, I1, r1, q1⟩ => ?_)
  exact thn (hr pos pins s1 σ H1 _ I1 q1) fun us s2 ⟨xs, H2, I2, r2, q2⟩ => ⟨x :: xs, H2, I2, .cons r1 r2, q2⟩

/-- a tuple, a list of written items -/
def tTup (t : TA) : TE := fun σ H Q => t σ H fun xs H1 => xs.length ≤ sizeLine ∧ ∀ p, H1 p = none → Q (.ref p) (upd H1 p (.tup xs))
def tLst (t : TA) : TE := fun σ H Q => t σ H fun xs H1 => xs.length ≤ sizeLine ∧ ∀ p, H1 p = none → Q (.ref p) (upd H1 p (.lst xs))
theorem pe_tup {x1} (h : PA X es t) : PE X (.Tuple es x1 pos) (tTup t) := by
  intro pins s σ H Q I hq
  refine wpAny_Tuple_spliced (thn (h pos pins s σ H _ I hq) fun us s1 ⟨xs, H1, I1, r, z, q⟩ => ⟨by rw [← r.length]; exact z, ?_⟩)
  have hf : H1 s1.heap.objs.size = none := I1.hok.fresh (Nat.le_refl _)
  refine ⟨.ref s1.heap.objs.size, upd H1 s1.heap.objs.size (.tup xs), I1.laid (t' := s1.toks) (fun b u e => Heap.get?_push_of_some _ e) (Nat.le_refl _) ?_, rfl, q _ hf⟩
  exact ⟨z, us, r, ⟨_, Heap.get?_push_size _ rfl, rfl, _, rfl⟩⟩
theorem pe_lst (h : PA X es t) : PE X (.List es pos) (tLst t) := by
  intro pins s σ H Q I hq
  refine wpAny_List_spliced (thn (h pos pins s σ H _ I hq) fun us s1 ⟨xs, H1, I1, r, z, q⟩ => ⟨by rw [← r.length]; exact z, ?_⟩)
  have hf : H1 s1.heap.objs.size = none := I1.hok.fresh (Nat.le_refl _)
  refine ⟨.ref s1.heap.objs.size, upd H1 s1.heap.objs.size (.lst xs), I1.laid (t' := s1.toks) (fun b u e => Heap.get?_push_of_some _ e) (Nat.le_refl _) ?_, rfl, q _ hf⟩
  exact ⟨z, us, 0, r, Heap.get?_push_size _ rfl⟩
end

/-! ### what a def promises -/
/-- a def's promise: the bound arguments in the parameters' order, the heap, the wanted end, the wanted exception -/
abbrev Sp := List V → Hp → VK → XK → Prop
/-- how an exception lies behind a call (file 08 gives it): the callers' frames, abstract heap and state ahead of the call, the wish, the exception, the state -/
abbrev CXT := List Env → Hp → Shared → XK → Value → Shared → Prop

/-- the state at a call -/
structure Env0 (P : Program) (w : World) (K : PySem.W.Frag) (mg : Str → Option Value) (base : Heap) (A : Around) (outer : List Env) (s : Shared) (H : Hp) : Prop where
  frames : A.frames = some outer
  mod : Mod K mg base
  bs : ∀ b o, base.get? b = some o → s.heap.get? b = some o ∧ H b = none
  bsz : base.objs.size ≤ s.heap.objs.size
  funs : s.heap.FunFrames base outer
  frf : ∀ b ∈ frs outer, H b = none
  hok : HOk P w H s.heap
  bare : AllBare s.gens
/-- a call's end -/
def CE (outer : List Env) (P : Program) (w : World) (H : Hp) (s : Shared) (Q : VK) (u : Value) (s' : Shared) : Prop :=
  ∃ v H', s'.os = s.os ∧ AllBare s'.gens ∧ Un (frs outer) [] H H' s.heap s'.heap ∧ HOk P w H' s'.heap ∧ RelV v u ∧ Q v H'
def CR (CX : CXT) (outer : List Env) (P : Program) (w : World) (H : Hp) (s : Shared) (Q : VK) (E : XK) (r : Result) (s' : Shared) : Prop :=
  match r with
  | .ok (.ret u) => CE outer P w H s Q u s'
  | .ok _ => False
  | .error e => CX outer H s E e s'
structure FnOk (P : Program) (w : World) (K : PySem.W.Frag) (mg : Str → Option Value) (base : Heap) (CX : CXT) (k : Nat) (f : Addr) (fd : FuncData) (ps : List Str) (sp : Sp) : Prop where
  len : ∀ vs H Q E, sp vs H Q E → vs.length = ps.length
  run : ∀ (A : Around) (outer : List Env) (s : Shared) (H : Hp) (args : Args) (us : List Value) (vs : List V) (Q : VK) (E : XK), Room k A → Env0 P w K mg base A outer s H → BindsTo s fd args (ps.zip us) → Vals vs us → sp vs H Q E →
    codeAny (model P w) A (.call (.ref f) args) (CR CX outer P w H s Q E) s
theorem FnOk.mono {P : Program} {w : World} {K : PySem.W.Frag} {mg : Str → Option Value} {base : Heap} {CX : CXT} {j k : Nat} {f : Addr} {fd : FuncData} {ps : List Str} {sp : Sp} (F : FnOk P w K mg base CX j f fd ps sp) (h : j ≤ k) :
    FnOk P w K mg base CX k f fd ps sp := ⟨F.len, fun A outer s H args us vs Q E hr => F.run A outer s H args us vs Q E (hr.mono h)⟩
/-- a weaker promise -/
theorem FnOk.imp {P : Program} {w : World} {K : PySem.W.Frag} {mg : Str → Option Value} {base : Heap} {CX : CXT} {k : Nat} {f : Addr} {fd : FuncData} {ps : List Str} {sp sp' : Sp} (F : FnOk P w K mg base CX k f fd ps sp)
    (h : ∀ vs H Q E, sp' vs H Q E → sp vs H Q E) : FnOk P w K mg base CX k f fd ps sp' :=
  ⟨fun vs H Q E q => F.len vs H Q E (h _ _ _ _ q), fun A outer s H args us vs Q E hr he hb hv hs => F.run A outer s H args us vs Q E hr he hb hv (h _ _ _ _ hs)⟩

theorem Env0.make {P : Program} {w : World} {K : PySem.W.Frag} {mg : Str → Option Value} {base : Heap} {A : Around} {outer : List Env} {s : Shared} {H : Hp} (e : Env0 P w K mg base A outer s H) (C : Addr) (us : List Value) (kw : List (Str × Value)) :
    Env0 P w K mg base (A.under (.builtin "type.__call__" ⟨.ref C :: us, kw⟩)) outer s H := ⟨by first | exact e.frames | (simpa [Around.under, Code.envs, Code.isFrame, pushEnvs] using e.frames), e.mod, e.bs, e.bsz, e.funs, e.frf, e.hok, e.bare⟩
theorem Env0.in1 {P : Program} {w : World} {K : PySem.W.Frag} {mg : Str → Option Value} {base : Heap} {A : Around} {outer : List Env} {s : Shared} {H : Hp} (e : Env0 P w K mg base A outer s H) :
    Env0 P w K mg base A.in1 outer s H := ⟨e.frames, e.mod, e.bs, e.bsz, e.funs, e.frf, e.hok, e.bare⟩

section
variable {X : Cx} {pins : List (Addr × Obj)} {σ : St} {H : Hp} {s s' : Shared}
/-- from a body: what a callee wants -/
theorem Inv.env0 (I : Inv X pins σ H s) : Env0 X.prog X.w X.K X.mg X.base X.A X.stack s H :=
  ⟨I.ok.frames, I.ok.mod, I.bs, Nat.le_trans I.ok.bsz I.sz, I.stack, I.stkFree, I.hok, I.bare⟩
/-- behind a call -/
theorem Inv.after {Q : VK} {u : Value} (I : Inv X pins σ H s) (h : CE X.stack X.prog X.w H s Q u s') : EP X pins σ Q u s' := by
  obtain ⟨v, H', os, bare, un, hok, r, q⟩ := h
  obtain ⟨hh, g, d, t, os'⟩ := s'
  obtain rfl : os' = s.os := os
  exact ⟨v, H', I.call (h' := hh) (g' := g) (d' := d) (t' := t) (ch := []) un hok bare (fun b z => absurd z (by simp)), r, q⟩
end

/-! ### calls -/
/-- f(..): the written arguments, then the defaults dvs; E: what is wanted of an exception -/
def tCall (sp : Sp) (dvs : List V) (E : XK) (t : TA) : TE := fun σ H Q => t σ H fun vs H1 => sp (vs ++ dvs) H1 Q E
/-- o.m(..) of an instance of the class at C -/
def tMeth (C : Addr) (m : Str) (sp : Sp) (dvs : List V) (E : XK) (ta : TE) (t : TA) : TE := fun σ H Q => ta σ H fun x H1 => ∃ a dx fs, x = .ref a ∧ H1 a = some (.ins C dx fs) ∧ fs.lookup m = none ∧
  t σ H1 fun vs H2 => sp (x :: (vs ++ dvs)) H2 Q E
/-- C(..): a new instance and its dict, then __init__ -/
def tMake (C : Addr) (sp : Sp) (dvs : List V) (E : XK) (t : TA) : TE := fun σ H Q => t σ H fun vs H1 => ∀ x dx, H1 x = none → H1 dx = none → dx ≠ x →
  sp (.ref x :: (vs ++ dvs)) (upd (upd H1 dx (.own x)) x (.ins C dx [])) (fun v H2 => v = .non ∧ Q (.ref x) H2) E

/-- how the parameters are bound: us the positional arguments, kw the keywords' values by name, ds the defaults that fill up -/
def Binds (K : PySem.W.Frag) (fd : FuncData) (ps : List Str) (ds : List Value) : Prop :=
  ∀ (s : Shared) (us : List Value), K.In s.heap → (us ++ ds).length = ps.length → BindsTo s fd ⟨us, []⟩ (ps.zip (us ++ ds))
/-- every parameter is given -/
theorem Binds.all {K : PySem.W.Frag} {fd : FuncData} {ps : List Str} (h : ∀ us : List Value, us.length = ps.length → bindArgs fd ⟨us, []⟩ = pure (ps.zip us)) : Binds K fd ps [] := fun s us _ hl => by
  rw [List.append_nil] at hl ⊢
  exact .of_eq (h us hl)

/-- an exception of a callee reaches what this body wants of exceptions -/
def Passes (CX : CXT) (X : Cx) (E : XK) : Prop := ∀ (pins : List (Addr × Obj)) (σ : St) (H : Hp) (s : Shared) (e : Value) (s' : Shared), Inv X pins σ H s → CX X.stack H s E e s' → X.xe e s'

section
variable {X : Cx} {CX : CXT} {k : Nat} {f C : Addr} {fd : FuncData} {ps : List Str} {sp : Sp} {dvs : List V} {ds : List Value} {E : XK} {x m : Str} {p pos apos : Pos} {e o : Expr} {es : List Expr} {ta : TE} {t : TA}

/-- the callee runs -/
theorem run_fn {pins : List (Addr × Obj)} {σ : St} {H : Hp} {s : Shared} {Q : VK} {us : List Value} {vs : List V} (F : FnOk X.prog X.w X.K X.mg X.base CX k f fd ps sp) (hr : Room k X.A) (hb : Binds X.K fd ps ds) (hd : Vals dvs ds) (hx : Passes CX X E)
    (I : Inv X pins σ H s) (r : Vals vs us) (h : sp (vs ++ dvs) H Q E) : wpAny (model X.prog X.w) X.A (call (.ref f) us) (EP X pins σ Q) X.xe s := by
  have r2 : Vals (vs ++ dvs) (us ++ ds) := r.append hd
  have hl : (us ++ ds).length = ps.length := by rw [← r2.length]; exact F.len _ _ _ _ h
  refine wpAny_call (codeAny_mono (F.run X.A X.stack s H ⟨us, []⟩ (us ++ ds) (vs ++ dvs) Q E hr I.env0 (hb s us I.kIn hl) r2 h) fun r s' hq => ?_)
  cases r with
  | error e => exact hx pins σ H s e s' I hq
  | ok fl =>
    cases fl with
    | ret u => exact I.after hq
    | next => exact False.elim hq
    | brk => exact False.elim hq
    | cont => exact False.elim hq

theorem pe_call (F : FnOk X.prog X.w X.K X.mg X.base CX k f fd ps sp) (hr : Room k X.A) (hg : Gl X x) (hm : X.mg x = some (.ref f)) (hk : PySem.W.keepIn X.K (.ref f) = true) (hb : Binds X.K fd ps ds) (hd : Vals dvs ds) (hx : Passes CX X E)
    (ha : PA X (e :: es) t) (hdb : (x == ("__debug__" : Str)) = false := by decide) (he : starEach (e :: es) X.env = (false, eval e X.env) :: starEach es X.env := by rfl) (hpl : (backTo pos (starEach es X.env)).any (·.1) = false := by rfl) :
    PE X (.Call (.Name x p) (e :: es) [] pos) (tCall sp dvs E t) := by
  intro pins s σ H Q I h
  refine wpAny_Call_Name_kw (ld_glob I hg hm ?_ hdb)
  refine PySem.W.callWith_K (h₀ := X.base) I.ok.mod.kin hk (thn (ha pos pins s σ H _ I h) fun us s1 ⟨vs, H1, I1, r, q⟩ => ⟨I1.kIn, ?_⟩) he hpl
  exact run_fn F hr hb hd hx I1 r q
theorem pe_call0 (F : FnOk X.prog X.w X.K X.mg X.base CX k f fd ps sp) (hr : Room k X.A) (hg : Gl X x) (hm : X.mg x = some (.ref f)) (hk : PySem.W.keepIn X.K (.ref f) = true) (hb : Binds X.K fd ps ds) (hd : Vals dvs ds) (hx : Passes CX X E)
    (hdb : (x == ("__debug__" : Str)) = false := by decide) : PE X (.Call (.Name x p) [] [] pos) (tCall sp dvs E tNil) := by
  intro pins s σ H Q I h
  refine wpAny_Call_Name_kw (ld_glob I hg hm ?_ hdb)
  exact PySem.W.callWith_K0 I.kIn hk (run_fn (us := []) F hr hb hd hx I .nil h)

/-- o.m(e, ..) -/
theorem pe_meth {pl : Sem Bool} (he : PE X o ta) (c : Cls X.K C) (hm : Meth X.K C m f) (F : FnOk X.prog X.w X.K X.mg X.base CX k f fd ps sp) (hr : Room k X.A) (hb : Binds X.K fd ps ds) (hd : Vals dvs ds) (hx : Passes CX X E) (ha : PA X (e :: es) t)
    (hst : starEach (e :: es) X.env = (false, eval e X.env) :: starEach es X.env := by rfl) (hpl : (backTo pos (starEach es X.env)).any (·.1) = false := by rfl)
    (ht : eval (.Call (.Attribute o m apos) (e :: es) [] pos) X.env = (do
      let ov ← eval o X.env
      standAt apos.atName
      let (f, first) ← holding [ov] (getMethod ov m pl)
      callWith pos f first (backTo pos (starEach (e :: es) X.env)) (backToKw pos (keywordEach [] X.env))) := by rfl) :
    PE X (.Call (.Attribute o m apos) (e :: es) [] pos) (tMeth C m sp dvs E ta t) := by
  intro pins s σ H Q I h
  refine PySem.W.methodCall_KW (pl := pl) (thn (he pins s σ H _ I h) fun u s1 ⟨x, H1, I1, rx, a, dx, fs, ex, ea, l, q⟩ => ?_) ht
  subst ex
  obtain rfl : u = Value.ref a := rx
  refine getmeth_ok I1 ea c hm l ?_
  refine PySem.W.callWith_K (first := [.ref a]) (h₀ := X.base) I.ok.mod.kin hm.kp (thn (ha pos pins s1 σ H1 _ I1 q) fun us s2 ⟨vs, H2, I2, r, q2⟩ => ⟨I2.kIn, ?_⟩) hst hpl
  exact run_fn (us := .ref a :: us) (vs := .ref a :: vs) F hr hb hd hx I2 (.cons rfl r) q2
/-- o.m() -/
theorem pe_meth0 {pl : Sem Bool} (he : PE X o ta) (c : Cls X.K C) (hm : Meth X.K C m f) (F : FnOk X.prog X.w X.K X.mg X.base CX k f fd ps sp) (hr : Room k X.A) (hb : Binds X.K fd ps ds) (hd : Vals dvs ds) (hx : Passes CX X E)
    (ht : eval (.Call (.Attribute o m apos) [] [] pos) X.env = (do
      let ov ← eval o X.env
      standAt apos.atName
      let (f, first) ← holding [ov] (getMethod ov m pl)
      callWith pos f first (backTo pos (starEach [] X.env)) (backToKw pos (keywordEach [] X.env))) := by rfl) :
    PE X (.Call (.Attribute o m apos) [] [] pos) (tMeth C m sp dvs E ta tNil) := by
  intro pins s σ H Q I h
  refine PySem.W.methodCall_KW (pl := pl) (thn (he pins s σ H _ I h) fun u s1 ⟨x, H1, I1, rx, a, dx, fs, ex, ea, l, q⟩ => ?_) ht
  subst ex
  obtain rfl : u = Value.ref a := rx
  refine getmeth_ok I1 ea c hm l ?_
  exact PySem.W.callWith_K0 (first := [.ref a]) I1.kIn hm.kp (run_fn (us := [.ref a]) (vs := [.ref a]) F hr hb hd hx I1 (.cons rfl .nil) q)

/-- what a class must have to be made -/
structure Mk (K : PySem.W.Frag) (C f : Addr) : Prop where
  makes : PySem.W.makesIn K C = true
  init : PySem.W.findIn K (.ref C) "__init__" = some (some (.ref f))
  fn : PySem.W.isFn K (.ref f) = true
  kp : PySem.W.keepIn K (.ref C) = true

theorem run_make {pins : List (Addr × Obj)} {σ : St} {H : Hp} {s : Shared} {Q : VK} {us : List Value} {vs : List V} (M : Mk X.K C f) (F : FnOk X.prog X.w X.K X.mg X.base CX k f fd ps sp) (hr : Room (k + 1) X.A) (hb : Binds X.K fd ps ds) (hd : Vals dvs ds)
    (hx : Passes CX X E) (I : Inv X pins σ H s) (r : Vals vs us)
    (h : ∀ x dx, H x = none → H dx = none → dx ≠ x → sp (.ref x :: (vs ++ dvs)) (upd (upd H dx (.own x)) x (.ins C dx [])) (fun v H2 => v = .non ∧ Q (.ref x) H2) E) :
    wpAny (model X.prog X.w) X.A (call (.ref C) us) (EP X pins σ Q) X.xe s := by
  have hq := h (s.heap.objs.size + 1) s.heap.objs.size (I.hok.fresh (Nat.le_succ _)) (I.hok.fresh (Nat.le_refl _)) (Nat.ne_of_lt (Nat.lt_succ_self _))
  have I2 := Inv.made (C := C) I
  have r2 : Vals (V.ref (s.heap.objs.size + 1) :: (vs ++ dvs)) (Value.ref (s.heap.objs.size + 1) :: (us ++ ds)) := .cons rfl (r.append hd)
  have hl : (Value.ref (s.heap.objs.size + 1) :: us ++ ds).length = ps.length := by
    have e := r2.length
    rw [F.len _ _ _ _ hq] at e
    exact e.symm
  refine wpAny_call (make_map (f := f) I.kIn M.makes M.init (beq_iff_eq.mp M.fn) (codeAny_mono (F.run _ X.stack _ _ ⟨Value.ref (s.heap.objs.size + 1) :: us, []⟩ (Value.ref (s.heap.objs.size + 1) :: (us ++ ds)) _ _ E (hr.make C us [])
    (I2.env0.make C us []) (hb _ (Value.ref (s.heap.objs.size + 1) :: us) I2.kIn hl) r2 hq) fun r s' hq' => ?_))
  cases r with
  | error e => exact hx pins σ _ _ e s' I2 hq'
  | ok fl =>
    cases fl with
    | ret u =>
      obtain ⟨v, H', I3, rv, ev, q3⟩ := I2.after hq'
      subst ev
      exact ⟨rv, ⟨V.ref (s.heap.objs.size + 1), H', I3, rfl, q3⟩⟩
    | next => exact False.elim hq'
    | brk => exact False.elim hq'
    | cont => exact False.elim hq'
theorem pe_make (M : Mk X.K C f) (F : FnOk X.prog X.w X.K X.mg X.base CX k f fd ps sp) (hr : Room (k + 1) X.A) (hg : Gl X x) (hm : X.mg x = some (.ref C)) (hb : Binds X.K fd ps ds) (hd : Vals dvs ds) (hx : Passes CX X E)
    (ha : PA X (e :: es) t) (hdb : (x == ("__debug__" : Str)) = false := by decide) (he : starEach (e :: es) X.env = (false, eval e X.env) :: starEach es X.env := by rfl) (hpl : (backTo pos (starEach es X.env)).any (·.1) = false := by rfl) :
    PE X (.Call (.Name x p) (e :: es) [] pos) (tMake C sp dvs E t) := by
  intro pins s σ H Q I h
  refine wpAny_Call_Name_kw (ld_glob I hg hm ?_ hdb)
  refine PySem.W.callWith_K (h₀ := X.base) I.ok.mod.kin M.kp (thn (ha pos pins s σ H _ I h) fun us s1 ⟨vs, H1, I1, r, q⟩ => ⟨I1.kIn, ?_⟩) he hpl
  exact run_make M F hr hb hd hx I1 r q
theorem pe_make0 (M : Mk X.K C f) (F : FnOk X.prog X.w X.K X.mg X.base CX k f fd ps sp) (hr : Room (k + 1) X.A) (hg : Gl X x) (hm : X.mg x = some (.ref C)) (hb : Binds X.K fd ps ds) (hd : Vals dvs ds) (hx : Passes CX X E)
    (hdb : (x == ("__debug__" : Str)) = false := by decide) : PE X (.Call (.Name x p) [] [] pos) (tMake C sp dvs E tNil) := by
  intro pins s σ H Q I h
  refine wpAny_Call_Name_kw (ld_glob I hg hm ?_ hdb)
  exact PySem.W.callWith_K0 I.kIn M.kp (run_make (us := []) M F hr hb hd hx I .nil h)
end

/-! ### keywords -/
/-- the values of the keywords, from the left -/
def PK (X : Cx) (kws : List Keyword) (t : TA) : Prop :=
  ∀ (pos : Pos) (pins : List (Addr × Obj)) (s : Shared) (σ : St) (H : Hp) (Q : List V → Hp → Prop), Inv X pins σ H s → t σ H Q → wpAny (model X.prog X.w) X.A (evalAll ((backToKw pos (keywordEach kws X.env)).map (·.2))) (AP X pins σ Q) X.xe s
section
variable {X : Cx} {CX : CXT} {k : Nat} {f C : Addr} {fd : FuncData} {ps ks : List Str} {sp : Sp} {E : XK} {x m : Str} {p pos apos kpos : Pos} {e o : Expr} {es : List Expr} {kws : List Keyword} {te ta : TE} {t tk : TA} {nm : Option Str}
theorem pk_nil : PK X [] tNil := fun _ _ _ _ H Q I h => wpAny_evalAll_nil ⟨[], H, I, .nil, h⟩
theorem pk_cons (ha : PE X e te) (hr : PK X kws t) : PK X (⟨nm, e, kpos⟩ :: kws) (tCons te t) := by
  intro pos pins s σ H Q I h
  show wpAny _ _ (evalAll ((do let v ← eval e X.env; standAt pos; pure v) :: (backToKw pos (keywordEach kws X.env)).map (·.2))) _ _ s
  refine wpAny_evalAll_cons (wpAny_bind (thn (ha pins s σ H _ I h) fun u s1 ⟨x, H1, I1, r1, q1⟩ => wpAny_bind (wpAny_standAt (wpAny_pure ?_))))
  exact thn (hr pos pins s1 σ H1 _ I1 q1) fun us s2 ⟨xs, H2, I2, r2, q2⟩ => ⟨x :: xs, H2, I2, .cons r1 r2, q2⟩

/-- how a call with keywords binds: g puts the positional values us and the keywords' values ws (names ks) in the parameters' order, defaults among them -/
structure KBinds (K : PySem.W.Frag) (fd : FuncData) (ps ks : List Str) (g : List Value → List Value → List Value) (gV : List V → List V → List V) : Prop where
  to : ∀ (s : Shared) (us ws : List Value), K.In s.heap → (g us ws).length = ps.length → BindsTo s fd ⟨us, ks.zip ws⟩ (ps.zip (g us ws))
  rel : ∀ {vs : List V} {us : List Value} {zs : List V} {ws : List Value}, Vals vs us → Vals zs ws → Vals (gV vs zs) (g us ws)
def tCallK (sp : Sp) (gV : List V → List V → List V) (E : XK) (t tk : TA) : TE := fun σ H Q => t σ H fun vs H1 => tk σ H1 fun zs H2 => sp (gV vs zs) H2 Q E
variable {g : List Value → List Value → List Value} {gV : List V → List V → List V}
theorem run_fnk {pins : List (Addr × Obj)} {σ : St} {H : Hp} {s : Shared} {Q : VK} {us ws : List Value} {vs zs : List V} (F : FnOk X.prog X.w X.K X.mg X.base CX k f fd ps sp) (hr : Room k X.A) (hb : KBinds X.K fd ps ks g gV) (hx : Passes CX X E)
    (I : Inv X pins σ H s) (r : Vals vs us) (rz : Vals zs ws) (h : sp (gV vs zs) H Q E) : wpAny (model X.prog X.w) X.A (call (.ref f) us (ks.zip ws)) (EP X pins σ Q) X.xe s := by
  have r2 := hb.rel r rz
  have hl : (g us ws).length = ps.length := by rw [← r2.length]; exact F.len _ _ _ _ h
  refine wpAny_call (codeAny_mono (F.run X.A X.stack s H ⟨us, ks.zip ws⟩ (g us ws) (gV vs zs) Q E hr I.env0 (hb.to s us ws I.kIn hl) r2 h) fun r s' hq => ?_)
  cases r with
  | error e => exact hx pins σ H s e s' I hq
  | ok fl =>
    cases fl with
    | ret u => exact I.after hq
    | next => exact False.elim hq
    | brk => exact False.elim hq
    | cont => exact False.elim hq
/-- f(e, .., k = v, ..) -/
theorem pe_callK (F : FnOk X.prog X.w X.K X.mg X.base CX k f fd ps sp) (hr : Room k X.A) (hg : Gl X x) (hm : X.mg x = some (.ref f)) (hk : PySem.W.keepIn X.K (.ref f) = true) (hb : KBinds X.K fd ps ks g gV) (hx : Passes CX X E)
    (ha : PA X (e :: es) t) (hkw : PK X kws tk) (hall : (backToKw pos (keywordEach kws X.env)).all (·.1.isSome) = true := by rfl) (hks : (backToKw pos (keywordEach kws X.env)).filterMap (·.1) = ks := by rfl)
    (hdb : (x == ("__debug__" : Str)) = false := by decide) (he : starEach (e :: es) X.env = (false, eval e X.env) :: starEach es X.env := by rfl)
    (hpl : ((backTo pos (starEach (e :: es) X.env)).any (·.1) || (backToKw pos (keywordEach kws X.env)).any (·.1.isNone)) = false := by rfl) :
    PE X (.Call (.Name x p) (e :: es) kws pos) (tCallK sp gV E t tk) := by
  intro pins s σ H Q I h
  refine wpAny_Call_Name_kw (ld_glob I hg hm ?_ hdb)
  refine PySem.W.callWith_KW (h₀ := X.base) I.ok.mod.kin hk hall (thn (ha pos pins s σ H _ I h) fun us s1 ⟨vs, H1, I1, r, q⟩ => ?_) hpl he
  refine thn (hkw pos pins s1 σ H1 _ I1 q) fun ws s2 ⟨zs, H2, I2, rz, q2⟩ => ⟨I2.kIn, ?_⟩
  rw [hks]
  exact run_fnk F hr hb hx I2 r rz q2
end

/-! ### a def's body keeps its promise -/
/-- names: the parameters first -/
structure FnScope (N P : List Str) (sc : Scope) : Prop where
  kind : sc.kind = .function
  co : sc.isCoroutine = false
  gen : sc.isGenerator = false
  nd : N.Nodup
  pre : N.take P.length = P
  par : ∀ x ∈ P, sc.names.lookup x = some .local ∨ sc.names.lookup x = some .cell
  nofree : ∀ y ∈ sc.names, y.2 ≠ .free

theorem bindL_out {kindOf : Str → Option NameKind} {x : Str} : ∀ {binds : List (Str × Value)} {m : Str → Option Value}, (∀ v, (x, v) ∉ binds) → bindL kindOf binds m x = m x
  | [], _, _ => rfl
  | (n, v) :: r, m, h => by
    unfold bindL
    rw [bindL_out fun w hw => h w (List.mem_cons_of_mem _ hw)]
    split
    · have : x ≠ n := by rintro rfl; exact h v List.mem_cons_self
      simp [this]
    · rfl
theorem bindC_out {kindOf : Str → Option NameKind} {x : Str} : ∀ {binds : List (Str × Value)} {m : Str → Option Value}, (∀ v, (x, v) ∉ binds) → bindC kindOf binds m x = m x
  | [], _, _ => rfl
  | (n, v) :: r, m, h => by
    unfold bindC
    rw [bindC_out fun w hw => h w (List.mem_cons_of_mem _ hw)]
    split
    · rfl
    · have : x ≠ n := by rintro rfl; exact h v List.mem_cons_self
      simp [this]
theorem bindL_get {kindOf : Str → Option NameKind} {x : Str} {v : Value} : ∀ {P : List Str} {vs : List Value} {i : Nat} {m : Str → Option Value}, P.Nodup → P[i]? = some x → vs[i]? = some v → kindOf x = some .local →
    bindL kindOf (P.zip vs) m x = some v
  | [], _, _, _, _, h, _, _ => by simp at h
  | _ :: _, [], _, _, _, _, h, _ => by simp at h
  | p :: P, w :: vs, 0, m, nd, h1, h2, hk => by
    simp at h1 h2; subst h1; subst h2
    show bindL kindOf ((p, w) :: P.zip vs) m p = _
    unfold bindL
    rw [bindL_out fun v hv => (List.nodup_cons.mp nd).1 (List.of_mem_zip hv).1, if_pos hk]
    simp
  | p :: P, w :: vs, i + 1, m, nd, h1, h2, hk => by
    show bindL kindOf ((p, w) :: P.zip vs) m x = _
    unfold bindL
    exact bindL_get (i := i) (List.nodup_cons.mp nd).2 (by simpa using h1) (by simpa using h2) hk
theorem bindC_get {kindOf : Str → Option NameKind} {x : Str} {v : Value} : ∀ {P : List Str} {vs : List Value} {i : Nat} {m : Str → Option Value}, P.Nodup → P[i]? = some x → vs[i]? = some v → kindOf x ≠ some .local →
    bindC kindOf (P.zip vs) m x = some v
  | [], _, _, _, _, h, _, _ => by simp at h
  | _ :: _, [], _, _, _, _, h, _ => by simp at h
  | p :: P, w :: vs, 0, m, nd, h1, h2, hk => by
    simp at h1 h2; subst h1; subst h2
    show bindC kindOf ((p, w) :: P.zip vs) m p = _
    unfold bindC
    rw [bindC_out fun v hv => (List.nodup_cons.mp nd).1 (List.of_mem_zip hv).1, if_neg hk]
    simp
  | p :: P, w :: vs, i + 1, m, nd, h1, h2, hk => by
    show bindC kindOf ((p, w) :: P.zip vs) m x = _
    unfold bindC
    exact bindC_get (i := i) (List.nodup_cons.mp nd).2 (by simpa using h1) (by simpa using h2) hk

/-- the names' values at the entry -/
def start (N : List Str) (vs : List V) : St := vs.map some ++ List.replicate (N.length - vs.length) none

/-- the context of a def's body, at its entry; an exception leaves the frame, then lies as CX says -/
def cxOf (CX : CXT) (P : Program) (w : World) (K : PySem.W.Frag) (mg : Str → Option Value) (base : Heap) (N : List Str) (qual : Str) (scope : Scope) (f : Addr) (cd : Value) (A : Around) (outer : List Env) (s : Shared) (H : Hp) (E : XK) : Cx where
  prog := P
  w := w
  K := K
  mg := mg
  base := base
  A := A.deeper (envOfC qual scope s.heap.objs.size f cd)
  N := N
  s₀ := s
  H₀ := H
  env := envOfC qual scope s.heap.objs.size f cd
  outer := outer
  stack := envOfC qual scope s.heap.objs.size f cd :: outer
  ex := []
  calm := true
  fn := fun _ => true
  pn := []
  xe := fun e s' => wpAny (model P w) (A.deeper (envOfC qual scope s.heap.objs.size f cd)) (leaving (envOfC qual scope s.heap.objs.size f cd) e) (fun _ s'' => CX outer H s E e s'') (fun e' s'' => CX outer H s E e' s'') s'

theorem cell_has {sc : Scope} {n : Nat} {x : Str} (h : sc.names.lookup x = some .cell) : ∃ c, (cellsFrom n sc.names []).lookup x = some c := by
  have q := PySem.W.cellsFrom_some sc.names n [] (.inl h)
  exact Option.isSome_iff_exists.mp q

theorem inv_start {CX : CXT} {P : Program} {w : World} {K : PySem.W.Frag} {mg : Str → Option Value} {base : Heap} {N ps : List Str} {qual : Str} {scope : Scope} {f : Addr} {cd : Value} {A : Around} {outer : List Env} {s s1 : Shared} {H : Hp} {E : XK} {us : List Value} {vs : List V}
    (S : FnScope N ps scope) (hd : A.handled = none) (e0 : Env0 P w K mg base A outer s H) (hl : vs.length = ps.length) (r : Vals vs us)
    (x : InCallC s s.heap.objs.size (bindL (envOfC qual scope s.heap.objs.size f cd).kindOf (ps.zip us) fun _ => none) (cellsFrom (s.heap.objs.size + 1) scope.names []) (bindC (envOfC qual scope s.heap.objs.size f cd).kindOf (ps.zip us) fun _ => none) s1) :
    Inv (cxOf CX P w K mg base N qual scope f cd A outer s H E) [] (start N vs) H s1 := by
  have hpl : ps.length ≤ N.length := by have := congrArg List.length S.pre; rw [List.length_take] at this; omega
  obtain ⟨h1, tk, rfl, hk⟩ := x.done
  have noA : ∀ b : Addr, b ∉ (cxOf CX P w K mg base N qual scope f cd A outer s H E).ex := fun b z => absurd (show b ∈ ([] : List Addr) from z) (by simp)
  refine ⟨⟨e0.mod, S.kind, rfl, rfl, Nat.le_refl _, fun y z c h1 h2 => ?_, fun y hy => ?_, fun y c _ h => ?_, fun _ => hd, Around.frames_deeper e0.frames, .inr ⟨rfl, rfl⟩, fun b z => absurd z (noA b), e0.bs, e0.bsz, fun b _ _ => noA b, fun b z => absurd z (noA b), e0.funs, e0.frf⟩,
    rfl, e0.bare, Un.kept hk, ⟨_, x.toInCall.ns, fun i y v h1 h2 h3 => ?_⟩, fun y c h => ⟨_, x.cell y c h⟩, e0.hok.fresh (Nat.le_refl _), fun y c h => ?_, fun p hp => absurd (show p ∈ ([] : List (Addr × Obj)) from hp) (by simp), e0.hok.kept hk, ?_⟩
  · exact name_of_addr x.apart (PySem.mem_of_lookup h1) (PySem.mem_of_lookup h2)
  · have hy : scope.names.lookup y = some .cell ∨ scope.names.lookup y = some .free := hy
    rcases hy with hy | hy
    · exact cell_has hy
    · exact absurd rfl (S.nofree _ (PySem.mem_of_lookup hy))
  · exact Nat.le_of_lt (x.above y c (PySem.mem_of_lookup h))
  · have hi : i < vs.length := by
      unfold start at h2
      by_cases hi : i < vs.length
      · exact hi
      · rw [List.getElem?_append_right (by simpa using hi)] at h2
        rw [List.getElem?_replicate] at h2
        split at h2 <;> cases h2
    have ha : vs[i]? = some v := by
      unfold start at h2
      rw [List.getElem?_append_left (by simpa using hi), List.getElem?_map] at h2
      cases e : vs[i]? with
      | none => rw [e] at h2; cases h2
      | some a => rw [e] at h2; cases h2; rfl
    obtain ⟨u, hu, rv⟩ := r.get ha
    have hp : ps[i]? = some y := by
      rw [← S.pre, List.getElem?_take_of_lt (by omega)]; exact h1
    have ndP : ps.Nodup := by rw [← S.pre]; exact S.nd.sublist (List.take_sublist _ _)
    refine ⟨u, rv, ?_⟩
    rcases S.par y (List.mem_of_getElem? hp) with k | k
    · exact .inl ⟨k, bindL_get ndP hp hu k⟩
    · obtain ⟨c, e⟩ := cell_has (n := s.heap.objs.size + 1) k
      refine .inr ⟨.inl k, c, e, ?_⟩
      have q := x.cell y c e
      rw [bindC_get ndP hp hu (by show scope.names.lookup y ≠ _; rw [k]; decide)] at q
      exact q
  · exact e0.hok.fresh (Nat.le_of_lt (x.above y c (PySem.mem_of_lookup h)))
  · unfold start
    show _ = N.length
    rw [List.length_append, List.length_map, List.length_replicate]
    omega

/-- THE RULE: a def (or a method) of the text, by its body. The body's reading t is chosen for each entry; it is run at the parameters' values -/
theorem fn_of {CX : CXT} {P : Program} {w : World} {K : PySem.W.Frag} {mg : Str → Option Value} {base : Heap} {k : Nat} {f : Addr} {name qual : Str} {params : Arguments} {body : List Stmt} {scope : Scope} {dV kV doc pm cdv ct oc : Value} {an od : Option Addr}
    {osl : Array (Option Value)} {N ps : List Str} {sp : Sp} (lk : K.lookup f = some ⟨oc, od, .func (PySem.W.fnOf name qual params body scope dV kV doc pm an cdv ct), osl⟩) (hcd : PySem.W.codeIn K cdv qual = true) (S : FnScope N ps scope)
    (len : ∀ vs H Q E, sp vs H Q E → vs.length = ps.length)
    (hbody : ∀ (A : Around) (outer : List Env) (s : Shared) (H : Hp) (vs : List V) (Q : VK) (E : XK), Room k (A.deeper (envOfC qual scope s.heap.objs.size f cdv)) → sp vs H Q E →
      ∃ t, PSs (cxOf CX P w K mg base N qual scope f cdv A outer s H E) body t ∧ t { nx := fun _ H' => Q .non H', rt := Q } (start N vs) H) :
    FnOk P w K mg base CX (k + 1) f (PySem.W.fnOf name qual params body scope dV kV doc pm an cdv ct) ps sp := by
  refine ⟨len, fun A outer s H args us vs Q E hr e0 hb r hsp => ?_⟩
  have hl := len _ _ _ _ hsp
  have KX : K.In s.heap := e0.mod.kin.keeps fun b o e => (e0.bs b o e).1
  have lim : s.heap.NoLimit := e0.mod.nolimit.keeps fun b o e => (e0.bs b o e).1
  have hkind : ∀ y ∈ ps.zip us, scope.names.lookup y.1 = some .local ∨ (scope.names.lookup y.1 = some .cell ∧ ((cellsFrom (s.heap.objs.size + 1) scope.names []).lookup y.1).isSome = true) := fun ⟨n, v⟩ hy => by
    rcases S.par n (List.of_mem_zip hy).1 with q | q
    · exact .inl q
    · exact .inr ⟨q, PySem.W.cellsFrom_some _ _ _ (.inl q)⟩
  refine codeAny_call_function hr.depth (KX _ _ lk) rfl S.co S.gen rfl (PySem.W.codeRec_of KX hcd) (hb _ _ _ _ ?_)
  refine wpAny_newFunctionEnv_cells S.kind hkind fun env he s1 x => ?_
  subst he
  refine ⟨lim.keeps x.toInCall.keep, codeAny_func ?_⟩
  obtain ⟨t, ht, hq⟩ := hbody A outer s H vs Q E (hr.deeper _) hsp
  have I : Inv (cxOf CX P w K mg base N qual scope f cdv A outer s H E) [] (start N vs) H s1 := inv_start S hr.hd e0 hl r x
  refine wpAny_mono (ht [] s1 (start N vs) H _ I hq) (fun fl s' hs => ?_) fun e s' hs => hs
  have fin : ∀ {σ' : St} {H' : Hp} {v : V} {u : Value}, Inv (cxOf CX P w K mg base N qual scope f cdv A outer s H E) [] σ' H' s' → RelV v u → Q v H' → CE outer P w H s Q u s' :=
    fun {σ' H' v u} J rv q => ⟨v, H', J.os, J.bare, J.base, J.hok, rv, q⟩
  cases fl with
  | ret u =>
    obtain ⟨v, σ', H', J, rv, q⟩ := hs
    exact fin J rv q
  | next =>
    obtain ⟨σ', H', J, q⟩ := hs
    exact fin (v := V.non) (u := Value.none) J rfl q
  | brk =>
    obtain ⟨_, _, _, q⟩ := hs
    exact False.elim q
  | cont =>
    obtain ⟨_, _, _, q⟩ := hs
    exact False.elim q
end L2

namespace L2
open PySem PySem.Spec PyProof.Rows
section
variable {X : Cx} {x : Str} {p pos : Pos} {e : Expr} {es : List Expr} {t : TA} {id T : String} {r : List V → Hp → VK → Prop}

def tCB (r : List V → Hp → VK → Prop) (t : TA) : TE := fun σ H Q => t σ H fun vs H1 => r vs H1 Q
/-- f(e, ..), f a built-in function -/
theorem pe_callB (hc : CallR X (.builtin id) r) (hg : Gl X x) (hm : X.mg x = none) (hv : bootBuiltins x = some (.builtin id)) (ha : PA X (e :: es) t) (hn : x ≠ "__name__" := by decide) (hdb : (x == ("__debug__" : Str)) = false := by decide)
    (he : starEach (e :: es) X.env = (false, eval e X.env) :: starEach es X.env := by rfl) (hpl : (backTo pos (starEach es X.env)).any (·.1) = false := by rfl) : PE X (.Call (.Name x p) (e :: es) [] pos) (tCB r t) := by
  intro pins s σ H Q I h
  refine wpAny_Call_Name_kw (ld_blt I hg hm hv ?_ hn hdb)
  exact PyProof.Rows.callWith_builtin1 (thn (ha pos pins s σ H _ I h) fun us s1 ⟨vs, H1, I1, r1, q1⟩ => hc pins s1 σ H1 vs us Q I1 r1 q1) he hpl
/-- T(e, ..), T a built-in type -/
theorem pe_callTy (hc : CallR X (.type T) r) (hg : Gl X x) (hm : X.mg x = none) (hv : bootBuiltins x = some (.type T)) (ha : PA X (e :: es) t) (hn : x ≠ "__name__" := by decide) (hdb : (x == ("__debug__" : Str)) = false := by decide)
    (he : starEach (e :: es) X.env = (false, eval e X.env) :: starEach es X.env := by rfl) (hpl : (backTo pos (starEach es X.env)).any (·.1) = false := by rfl) : PE X (.Call (.Name x p) (e :: es) [] pos) (tCB r t) := by
  intro pins s σ H Q I h
  refine wpAny_Call_Name_kw (ld_blt I hg hm hv ?_ hn hdb)
  exact PyProof.Rows.callWith_type1 (thn (ha pos pins s σ H _ I h) fun us s1 ⟨vs, H1, I1, r1, q1⟩ => hc pins s1 σ H1 vs us Q I1 r1 q1) he hpl
/-- T() -/
theorem pe_callTy0 (hc : CallR X (.type T) r) (hg : Gl X x) (hm : X.mg x = none) (hv : bootBuiltins x = some (.type T)) (hn : x ≠ "__name__" := by decide) (hdb : (x == ("__debug__" : Str)) = false := by decide) :
    PE X (.Call (.Name x p) [] [] pos) (tCB r tNil) := by
  intro pins s σ H Q I h
  refine wpAny_Call_Name_kw (ld_blt I hg hm hv ?_ hn hdb)
  exact PyProof.Rows.callWith_type0 (hc pins s σ H [] [] Q I .nil h)
end
end L2

namespace HT
open PySem PyProof.Rows

/-- t < u of tuples of ints -/
def lexLt : List Int → List Int → Bool
  | [], [] => false
  | [], _ :: _ => true
  | _ :: _, [] => false
  | x :: xs, y :: ys => if x = y then lexLt xs ys else decide (x < y)
theorem lexLt_cons (x y : Int) (xs ys : List Int) : lexLt (x :: xs) (y :: ys) = if x = y then lexLt xs ys else decide (x < y) := rfl
theorem lexLt_nil_nil : lexLt [] [] = false := rfl
theorem lexLt_nil_cons (y : Int) (ys : List Int) : lexLt [] (y :: ys) = true := rfl
theorem lexLt_cons_nil (x : Int) (xs : List Int) : lexLt (x :: xs) [] = false := rfl

theorem eqAt_int (A : Around) (s : Shared) (a : Int) (t : Tok) (c : Int) (u : Tok) : ∃ e, SeqAt.EqAt A s (.int a t) (.int c u) e ∧ (e = true ↔ a = c) :=
  ⟨(a == c), SeqAt.EqAt.int_int a t c u, by simp⟩
theorem rcLt_int (A : Around) (s : Shared) (a : Int) (t : Tok) (c : Int) (u : Tok) (prog : Program) (w : World) (E : Value → Shared → Prop) (Q : Value → Shared → Prop) (h : Q (.bool (decide (a < c))) s) :
    wpAny (model prog w) A (richCompare .Lt (.int a t) (.int c u)) Q E s :=
  (PyProof.Rows.lt_int h : wpAny (model prog w) A (compareOp .Lt (.int a t) (.int c u)) Q E s)

section
open PySem.SeqAt
open PySem.AutoSeq1 (wpAny_loadPart')
open PySem.MeetsSeq PySem.MeetsSeq2 PySem.MeetsSeq3

theorem tuple_lt_ints (l b : Addr) (items items2 : Array Value) (n n2 : Nat) (dd dd2 : Option Addr) (sl sl2 : Array (Option Value)) (ns ms : List Int) (hi : IntsAre items.toList ns) (hj : IntsAre items2.toList ms) :
    Meets (Builtin.«tuple.__lt__» ⟨[.ref l, .ref b], []⟩)
      (fun _ R s => s.heap.get? l = some { cls := .type "tuple", dict := dd, data := .seq items n, slots := sl } ∧ s.heap.get? b = some { cls := .type "tuple", dict := dd2, data := .seq items2 n2, slots := sl2 } ∧
        R (.ok (.ret (.bool (lexLt ns ms)))) s) :=
  .of_wp fun prog w A R s h => by
    obtain ⟨hp, g, d, tk, os⟩ := s; obtain ⟨hl, hb, h⟩ := h
    have f2 := AutoSeq1.sub_tuple_tuple
    have z1 : items.size = ns.length := by rw [← hi.length]; simp
    have z2 : items2.size = ms.length := by rw [← hj.length]; simp
    wp_walk using wpAny_loadPart' hl, wpAny_loadPart' hb, wpAny_forIn_list _ (fun rest b s' => b.1 = none ∧ s' = ⟨hp, g, d, tk, os⟩ ∧ ∃ (vs ws : List Value) (ns' ms' : List Int), rest = vs.zip ws ∧
      IntsAre vs ns' ∧ IntsAre ws ms' ∧ ns'.length + items2.size = ms'.length + items.size ∧ R (.ok (.ret (.bool (lexLt ns' ms')))) ⟨hp, g, d, tk, os⟩) _
    case turn =>
      rintro ⟨y, x⟩ rest b s' ⟨hb', rfl, vs, ws, ns', ms', hz, hvi, hwi, hlen, hR⟩
      cases hvi with
      | nil => rw [List.zip_nil_left] at hz; cases hz
      | cons a t hvi' =>
        cases hwi with
        | nil => rw [List.zip_nil_right] at hz; cases hz
        | cons c u hwi' =>
          rw [List.zip_cons_cons] at hz
          injection hz with hyx hrest
          injection hyx with hy hx
          subst hy hx
          rw [lexLt_cons] at hR
          simp only [List.length_cons] at hlen
          obtain ⟨e, he, hiff⟩ := eqAt_int A.in1 ⟨hp, g, d, tk, os⟩ a t c u
          refine wpAny_bind (he prog w _ _ ?_)
          cases e with
          | true =>
            rw [if_pos (hiff.mp rfl)] at hR
            wp_walk
            exact ⟨rfl, rfl, _, _, _, _, hrest, hvi', hwi', by omega, hR⟩
          | false =>
            rw [if_neg (fun q => absurd (hiff.mpr q) Bool.false_ne_true)] at hR
            have hri := rcLt_int A.in1 ⟨hp, g, d, tk, os⟩ a t c u prog w
            wp_walk using hri
            exact ⟨_, rfl, by simpa using hR⟩
    case fin =>
      rintro ⟨b1, b2⟩ s' ⟨hb', rfl, vs, ws, ns', ms', hz, hvi, hwi, hlen, hR⟩
      simp only at hb'
      subst hb'
      have hv : lexLt ns' ms' = decide (items.size < items2.size) := by
        cases hvi with
        | nil =>
          cases hwi with
          | nil =>
            simp only [List.length_nil] at hlen
            rw [lexLt_nil_nil]
            exact (decide_eq_false (by omega)).symm
          | cons c u hw =>
            simp only [List.length_nil, List.length_cons] at hlen
            rw [lexLt_nil_cons]
            exact (decide_eq_true (by omega)).symm
        | cons a t hv =>
          cases hwi with
          | nil =>
            simp only [List.length_nil, List.length_cons] at hlen
            rw [lexLt_cons_nil]
            exact (decide_eq_false (by omega)).symm
          | cons c u hw =>
            rw [List.zip_cons_cons] at hz
            cases hz
      rw [hv] at hR
      wp_walk
      exact ⟨_, rfl, by simpa [Builtin.Tuple.tupleCompareSizes] using hR⟩
    case h =>
      exact ⟨rfl, rfl, items.toList, items2.toList, ns, ms, rfl, hi, hj, by omega, h⟩
end

section
variable {prog : Program} {w : World} {A : Around} {E : Value → Shared → Prop} {s : Shared}

theorem lt_tupInts {l b : Addr} {items items2 : Array Value} {ns ms : List Int} {Q : Value → Shared → Prop} (hl : IsTup s.heap l items) (hb : IsTup s.heap b items2) (hi : IntsAre items.toList ns) (hj : IntsAre items2.toList ms)
    (hu : A.units < cLine) (h : Q (.bool (lexLt ns ms)) s) : wpAny (model prog w) A (compareOp .Lt (.ref l) (.ref b)) Q E s := by
  obtain ⟨⟨cls, dd, data, sl⟩, ho, hc, n, hd⟩ := id hl
  obtain ⟨⟨cls2, dd2, data2, sl2⟩, ho2, hc2, n2, hd2⟩ := id hb
  simp only at hc hd hc2 hd2
  subst hc hd hc2 hd2
  exact richCompare_meets_room (op := .Lt) ⟨_, ho, rfl⟩ ⟨_, ho2, rfl⟩ PySem.F.slot_tuple_lt PySem.F.entry_tuple_lt (PySem.F.args_tuple_lt_2 _ _) (tuple_lt_ints l b items items2 n n2 dd dd2 sl sl2 ns ms hi hj)
    ⟨ho, ho2, show Value.bool (lexLt ns ms) ≠ Value.notImplemented ∧ Q (.bool (lexLt ns ms)) s from ⟨(fun x => nomatch x), h⟩⟩ hu

/-- t + u, t not empty -/
theorem cat_tup {t b : Addr} {vs ws : List Value} {Q : Value → Shared → Prop} (ht : IsTup s.heap t vs.toArray) (hb : IsTup s.heap b ws.toArray) (hv : vs ≠ [])
    (h1 : ws = [] → Q (.ref t) s) (h2 : ws ≠ [] → Q (.ref s.heap.objs.size) { s with heap := s.heap.push { cls := .type "tuple", data := .seq (vs ++ ws).toArray } })
    (hsz : vs.length + ws.length ≤ sizeLine) : wpAny (model prog w) A (binaryOp .Add (.ref t) (.ref b)) Q E s := by
  obtain ⟨⟨cls, dd, data, sl⟩, ho, hc, n, hd⟩ := id ht
  obtain ⟨⟨cls2, dd2, data2, sl2⟩, ho2, hc2, n2, hd2⟩ := id hb
  simp only at hc hd hc2 hd2
  subst hc hd hc2 hd2
  have e : vs.toArray ++ ws.toArray = (vs ++ ws).toArray := by simp
  by_cases hw : ws = []
  · exact concat_meets ⟨_, ho, rfl⟩ ⟨_, ho2, rfl⟩ noFill_tuple_add seq_tuple_add PySem.F.slot_tuple_add PySem.F.entry_tuple_add (PySem.F.args_tuple_add_2 _ _)
      (tuple_addW1 t b vs.toArray ws.toArray n n2 dd dd2 sl sl2 (by simpa using hv) (by simp [hw])) ⟨ho, ho2, h1 hw⟩
  · refine concat_meets ⟨_, ho, rfl⟩ ⟨_, ho2, rfl⟩ noFill_tuple_add seq_tuple_add PySem.F.slot_tuple_add PySem.F.entry_tuple_add (PySem.F.args_tuple_add_2 _ _)
      (tuple_addW2 t b vs.toArray ws.toArray n n2 dd dd2 sl sl2 (by simpa using hv) (by simpa using hw) (by rw [List.size_toArray, List.size_toArray]; exact hsz)) ⟨ho, ho2, ?_⟩
    rw [e]
    exact h2 hw

/-! ### t[a:b], not the whole -/
/-- a slice's bound as a place among n (d where it is left out) -/
def sIx (n d : Nat) : Option Int → Nat
  | none => d
  | some v => if v < 0 then (v + (n : Int)).toNat else min v.toNat n
theorem sIx_none (n d : Nat) : sIx n d none = d := rfl
theorem sIx_nat (n d k : Nat) : sIx n d (some (k : Int)) = min k n := by
  show (if (k : Int) < 0 then ((k : Int) + (n : Int)).toNat else min (k : Int).toNat n) = min k n
  rw [if_neg (by omega), Int.toNat_natCast]
theorem sIx_le (n d : Nat) (hd : d ≤ n) (o : Option Int) : sIx n d o ≤ n := by
  cases o with
  | none => exact hd
  | some v =>
    show (if v < 0 then (v + (n : Int)).toNat else min v.toNat n) ≤ n
    by_cases hv : v < 0
    · rw [if_pos hv]; omega
    · rw [if_neg hv]; exact Nat.min_le_right _ _
theorem clip_eq (v : Int) (n d : Nat) : (if v < 0 then max (v + (n : Int)) 0 else min v (n : Int)) = ((sIx n d (some v) : Nat) : Int) := by
  show (if v < 0 then max (v + (n : Int)) 0 else min v (n : Int)) = (((if v < 0 then (v + (n : Int)).toNat else min v.toNat n) : Nat) : Int)
  by_cases hv : v < 0
  · simp only [if_pos hv]; omega
  · simp only [if_neg hv]; omega
theorem adjust_gen (lo hi : Option Int) (n : Nat) : Builtin.Slice.sliceAdjust lo hi 1 (n : Int) = (((sIx n 0 lo : Nat) : Int), ((sIx n n hi : Nat) : Int)) := by
  have h1 : ¬ ((1 : Int) < 0) := by omega
  unfold Builtin.Slice.sliceAdjust
  simp only [h1, if_false]
  refine Prod.ext ?_ ?_
  · cases lo with
    | none => rfl
    | some v => exact clip_eq v n 0
  · cases hi with
    | none => rfl
    | some v => exact clip_eq v n n
theorem places_gen (i j : Nat) : Builtin.Slice.slicePlaces (i : Int) (j : Int) 1 = j - i := by
  unfold Builtin.Slice.slicePlaces
  have h1 : (1 : Int) > 0 := by omega
  simp only [h1, if_true, Int.ediv_one]
  split <;> omega
theorem slicePart_ {v : Value} {o : Option Int} {Q : Option Int → Shared → Prop} (p : IsPart v o) (h : Q o s) : wpAny (model prog w) A (Builtin.Slice.slicePartIndex v) Q E s := by
  cases p with
  | none => exact slicePart_none h
  | int i t => exact slicePart_int h
theorem sliceApplied_gen {sl : Addr} {vl vu : Value} {lo hi : Option Int} {n : Nat} {Q : Int × Int × Nat → Shared → Prop} (hs : s.heap.IsSliceOf sl vl vu .none) (pl : IsPart vl lo) (pu : IsPart vu hi)
    (h : Q (((sIx n 0 lo : Nat) : Int), 1, sIx n n hi - sIx n 0 lo) s) : wpAny (model prog w) A (Builtin.Slice.sliceApplied (.ref sl) (pure (n : Int))) Q E s := by
  obtain ⟨os, hos, hcs, hds⟩ := id hs
  unfold Builtin.Slice.sliceApplied Builtin.Slice.sliceFields
  refine wpAny_bind (wpAny_bind (wpAny_field hos hds (x := vl) rfl (wpAny_bind (wpAny_field hos hds (x := vu) rfl (wpAny_bind (wpAny_field hos hds (x := .none) rfl (wpAny_pure ?_)))))))
  refine wpAny_bind (slicePart_none ?_)
  show wpAny _ _ (if ((1 : Int) == 0) = true then _ else _) _ _ s
  rw [if_neg (by decide)]
  refine wpAny_bind (slicePart_ pl (wpAny_bind (slicePart_ pu (wpAny_bind (wpAny_pure ?_)))))
  show wpAny _ _ (match Builtin.Slice.sliceAdjust lo hi 1 (n : Int) with | (lo, hi) => pure (lo, (1 : Int), Builtin.Slice.slicePlaces lo hi 1)) _ _ s
  rw [adjust_gen lo hi n]
  show wpAny _ _ (pure (((sIx n 0 lo : Nat) : Int), (1 : Int), Builtin.Slice.slicePlaces ((sIx n 0 lo : Nat) : Int) ((sIx n n hi : Nat) : Int) 1)) _ _ s
  rw [places_gen]
  exact wpAny_pure h
theorem pick_gen (xs : Array Value) (i k : Nat) : ((List.range k).filterMap fun (m : Nat) => xs[((i : Int) + (m : Int) * 1).toNat]?).toArray = ((xs.toList.drop i).take k).toArray := by
  have e : (fun (m : Nat) => xs[((i : Int) + (m : Int) * 1).toNat]?) = fun m => xs[i + m]? := by
    funext m
    have : ((i : Int) + (m : Int) * 1).toNat = i + m := by omega
    rw [this]
  rw [e]
  have := pick_run xs i k
  rw [List.filterMap_map] at this
  have e2 : ((fun x => xs[x]?) ∘ fun x => i + x) = fun m => xs[i + m]? := rfl
  rw [e2] at this
  rw [this]

theorem getItem_tuple_cut {t sl : Addr} {items : Array Value} {vl vu : Value} {lo hi : Option Int} {Q : Value → Shared → Prop} (ht : IsTup s.heap t items) (hs : s.heap.IsSliceOf sl vl vu .none) (pl : IsPart vl lo) (pu : IsPart vu hi)
    (hw : ¬ (sIx items.size 0 lo = 0 ∧ sIx items.size items.size hi = items.size))
    (h : Q (.ref s.heap.objs.size) { s with heap := s.heap.push { cls := .type "tuple", data := .seq ((items.toList.drop (sIx items.size 0 lo)).take (sIx items.size items.size hi - sIx items.size 0 lo)).toArray } })
    (hsz : items.size ≤ sizeLine) : wpAny (model prog w) A (getItem (.ref t) (.ref sl)) Q E s := by
  have htake : sizeOk (.seq ((items.toList.drop (sIx items.size 0 lo)).take (sIx items.size items.size hi - sIx items.size 0 lo)).toArray) := by
    show ((items.toList.drop (sIx items.size 0 lo)).take (sIx items.size items.size hi - sIx items.size 0 lo)).toArray.size ≤ sizeLine
    rw [List.size_toArray, List.length_take, List.length_drop, Array.length_toList]
    omega
  have hj : sIx items.size items.size hi ≤ items.size := sIx_le _ _ (Nat.le_refl _) hi
  obtain ⟨os, hos, hcs, hds⟩ := id hs
  have hTs : s.TypeIs (.ref sl) "slice" := ⟨os, hos, hcs⟩
  unfold getItem
  try with_reducible refine wpAny_holding ?_
  first | refine wpAny_bind (wpAny_pure ?_) | skip
  refine wpAny_bind (wpAny_sequenceKey ht.typeIs (by decide) ?_)
  refine wpAny_bind (wpAny_callSpecial?_slot (name := Str.ofString "__getitem__") ht.typeIs PyProof.Rows.slot_tuple_getitem
    (wpAny_call_entry PyProof.Rows.slot_tuple_getitem ht.typeIs entry_tuple_getitem ?_ (args_tuple_getitem _ _)))
  show wpAny _ _ (Builtin.Tuple.tupleItemsOf (.ref t) >>= _) _ _ s
  refine wpAny_bind (tupleItemsOf_ ht ?_)
  refine wpAny_bind (wpAny_typeOf hTs ?_)
  rw [if_pos (by decide)]
  refine wpAny_bind (sliceApplied_gen hs pl pu ?_)
  have hno : ¬ ((((sIx items.size 0 lo : Nat) : Int) == 0 && (1 : Int) == 1 && (sIx items.size items.size hi - sIx items.size 0 lo) == items.size) = true) := by
    intro q
    rw [Bool.and_eq_true, Bool.and_eq_true] at q
    have q1 : ((sIx items.size 0 lo : Nat) : Int) = 0 := eq_of_beq q.1.1
    have q2 : sIx items.size items.size hi - sIx items.size 0 lo = items.size := eq_of_beq q.2
    exact hw ⟨by omega, by omega⟩
  show wpAny _ _ (if (((sIx items.size 0 lo : Nat) : Int) == 0 && (1 : Int) == 1 && (sIx items.size items.size hi - sIx items.size 0 lo) == items.size) = true then _ else _) _ _ s
  rw [if_neg hno, pick_gen]
  first
    | exact wpAny_bind (m := Builtin.Tuple.tupleExact _) (wpAny_newObj_type (wpAny_pure ⟨_, rfl, wpAny_pure h⟩) htake)
    | exact wpAny_bind (m := Builtin.Tuple.tupleExact _) (wpAny_newObj_type (wpAny_bind (wpAny_pure (wpAny_pure ⟨_, rfl, wpAny_pure h⟩))) htake)
    | exact wpAny_bind (wpAny_bind (m := Builtin.Tuple.tupleExact _) (wpAny_newObj_type (wpAny_pure (wpAny_pure ⟨_, rfl, wpAny_pure h⟩)) htake))
    | exact wpAny_bind (wpAny_bind (m := Builtin.Tuple.tupleExact _) (wpAny_newObj_type (wpAny_pure ⟨_, rfl, wpAny_pure h⟩) htake))
end
end HT

namespace L2
open PySem PySem.Spec PyProof.Rows

/-! ### the parts of a slice -/
abbrev TO := St → Hp → (Option Int → Hp → Prop) → Prop
/-- a slice's part (left out, or an int) -/
def PO (X : Cx) (e : Option Expr) (t : TO) : Prop :=
  ∀ (pins : List (Addr × Obj)) (s : Shared) (σ : St) (H : Hp) (Q : Option Int → Hp → Prop), Inv X pins σ H s → t σ H Q →
    wpAny (model X.prog X.w) X.A (evalPart e X.env) (fun u s' => ∃ o H', Inv X pins σ H' s' ∧ IsPart u o ∧ Q o H') X.xe s
def tNoPart : TO := fun _ H Q => Q none H
def tPart (t : TE) : TO := fun σ H Q => t σ H fun x H1 => ∃ i, x = .int i ∧ Q (some i) H1

theorem intsAre_of {ns : List Int} : ∀ {us : List Value}, Vals (ns.map V.int) us → IntsAre us ns := by
  induction ns with
  | nil => intro us r; rw [List.map_nil] at r; cases r; exact .nil
  | cons n ns ih =>
    intro us r
    rw [List.map_cons] at r
    cases r with
    | cons r1 r2 =>
      obtain ⟨t, e⟩ := r1
      subst e
      exact .cons n t (ih r2)

section
variable {X : Cx} {e : Expr} {te : TE} {lo hi : Option Expr} {tl th : TO} {pos p2 : Pos}

theorem po_none : PO X none tNoPart := by
  intro pins s σ H Q I h
  rw [evalPart_none]
  exact wpAny_pure ⟨none, H, I, .none, h⟩
theorem po_some (h : PE X e te) : PO X (some e) (tPart te) := by
  intro pins s σ H Q I hw
  rw [evalPart_some]
  refine thn (h pins s σ H _ I hw) fun u s1 ⟨x, H1, I1, r1, q1⟩ => ?_
  obtain ⟨i, rfl, q⟩ := q1
  obtain ⟨t, rfl⟩ := r1
  exact ⟨some i, H1, I1, .int i t, q⟩

/-- what a slice of a value is, by values: the slice object stands at sl -/
def SlR (X : Cx) (r : V → Option Int → Option Int → Hp → VK → Prop) : Prop :=
  ∀ (pins : List (Addr × Obj)) (s : Shared) (σ : St) (H : Hp) (x : V) (v vl vu : Value) (lo hi : Option Int) (sl : Addr) (Q : VK), Inv X pins σ H s → RelV x v → s.heap.IsSliceOf sl vl vu .none → IsPart vl lo → IsPart vu hi → r x lo hi H Q →
    ∃ T id, typeLookup (.type T) "__getitem__" = pure (some (.builtin id)) ∧ s.TypeIs v T ∧ wpAny (model X.prog X.w) X.A (getItem v (.ref sl)) (EP X pins σ Q) X.xe s
theorem SlR.or {r r' : V → Option Int → Option Int → Hp → VK → Prop} (h : SlR X r) (h' : SlR X r') : SlR X (fun x lo hi H Q => r x lo hi H Q ∨ r' x lo hi H Q) := by
  intro pins s σ H x v vl vu lo hi sl Q I rx hs pl pu q
  rcases q with q | q
  · exact h pins s σ H x v vl vu lo hi sl Q I rx hs pl pu q
  · exact h' pins s σ H x v vl vu lo hi sl Q I rx hs pl pu q
def tSl (r : V → Option Int → Option Int → Hp → VK → Prop) (te : TE) (tl th : TO) : TE := fun σ H Q => te σ H fun x H1 => tl σ H1 fun l H2 => th σ H2 fun u H3 => r x l u H3 Q
/-- a[lo:hi], any a -/
theorem pe_slice {r : V → Option Int → Option Int → Hp → VK → Prop} (hr : SlR X r) (he : PE X e te) (hl : PO X lo tl) (hu : PO X hi th) : PE X (.Subscript e (.Slice lo hi none p2) pos) (tSl r te tl th) := by
  intro pins s σ H Q I h
  refine Subscript_ (thn (he pins s σ H _ I h) fun v s1 ⟨x, H1, I1, r1, q1⟩ => ?_)
  refine wpAny_Slice (thn (hl pins s1 σ H1 _ I1 q1) fun vl s2 ⟨l, H2, I2, pl, q2⟩ => thn (hu pins s2 σ H2 _ I2 q2) fun vu s3 ⟨u, H3, I3, pu, q3⟩ => ?_)
  rw [evalPart_none]
  refine wpAny_pure ?_
  have I4 : Inv X pins σ H3 { s3 with heap := s3.heap.push { cls := .type "slice", data := .fields #[vl, vu, .none] } } := I3.kept (t' := s3.toks) fun b ob q => Heap.get?_push_of_some _ q
  obtain ⟨T, id, hT, ht, hg⟩ := hr pins { s3 with heap := s3.heap.push { cls := .type "slice", data := .fields #[vl, vu, .none] } } σ H3 x v vl vu l u s3.heap.objs.size Q I4 r1 (Heap.IsSliceOf.new ..) pl pu q3
  show wpAny (model X.prog X.w) X.A (subscriptTail e (.Slice lo hi none p2) v (.ref s3.heap.objs.size)) (EP X pins σ Q) X.xe { s3 with heap := s3.heap.push { cls := .type "slice", data := .fields #[vl, vu, .none] } }
  exact tail_any (ops := [.ref s3.heap.objs.size, v]) ht hT hg (by with_unfolding_all rfl)

/-- the items of xs[lo:hi] -/
def cutV (xs : List V) (lo hi : Option Int) : List V := (xs.drop (HT.sIx xs.length 0 lo)).take (HT.sIx xs.length xs.length hi - HT.sIx xs.length 0 lo)
theorem cutV_length (xs : List V) (lo hi : Option Int) : (cutV xs lo hi).length ≤ xs.length := by
  unfold cutV
  rw [List.length_take, List.length_drop]
  omega
/-- t[lo:hi], not the whole of it (the whole would be t itself) -/
def rSlT (K : PySem.W.Frag) : V → Option Int → Option Int → Hp → VK → Prop := fun x lo hi H Q => ∃ a xs, x = .ref a ∧ SqT K H a xs ∧
  ¬ (HT.sIx xs.length 0 lo = 0 ∧ HT.sIx xs.length xs.length hi = xs.length) ∧ ∀ p, H p = none → Q (.ref p) (upd H p (.tup (cutV xs lo hi)))
theorem sl_tup : SlR X (rSlT X.K) := by
  intro pins s σ H x v vl vu lo hi sl Q I rx hs pl pu h
  obtain ⟨a, xs, rfl, hx, hw, q⟩ := h
  cases rx
  obtain ⟨its, r, ht, hz⟩ := I.tuple hx
  have hlen : its.toArray.size = xs.length := by rw [List.size_toArray]; exact r.length.symm
  refine ⟨"tuple", _, PyProof.Rows.slot_tuple_getitem.lookup, ht.typeIs, ?_⟩
  refine HT.getItem_tuple_cut ht hs pl pu (by rw [hlen]; exact hw) ?_ (by rw [hlen]; exact hz)
  rw [hlen]
  refine ⟨.ref s.heap.objs.size, _, I.laid (t' := s.toks) (o := .tup (cutV xs lo hi)) (fun b ob q => Heap.get?_push_of_some _ q) (Nat.le_refl _) ?_, rfl, q _ (I.hok.fresh (Nat.le_refl _))⟩
  exact ⟨Nat.le_trans (cutV_length xs lo hi) hz, _, (r.drop (HT.sIx xs.length 0 lo)).take (HT.sIx xs.length xs.length hi - HT.sIx xs.length 0 lo), IsTup.new _ _⟩

/-! ### t < u, t + u -/
def rLtT (K : PySem.W.Frag) : R2 := fun x y H Q => ∃ a b ns ms, x = .ref a ∧ y = .ref b ∧ SqT K H a (ns.map V.int) ∧ SqT K H b (ms.map V.int) ∧ Q (.bl (HT.lexLt ns ms)) H
theorem op_ltT (hu : X.A.units < cLine) : OpR X (compareOp .Lt) (rLtT X.K) := by
  intro pins s σ H x y v u Q I rx ry h
  obtain ⟨a, b, ns, ms, rfl, rfl, ha, hb, q⟩ := h
  cases rx
  cases ry
  obtain ⟨its, r1, p1, _⟩ := I.tuple ha
  obtain ⟨its2, r2, p2, _⟩ := I.tuple hb
  have i1 : IntsAre its.toArray.toList ns := intsAre_of r1
  have i2 : IntsAre its2.toArray.toList ms := intsAre_of r2
  exact HT.lt_tupInts p1 p2 i1 i2 hu ⟨.bl (HT.lexLt ns ms), H, I, rfl, q⟩
/-- t + u, t not empty: u empty gives t itself -/
def rCatT (K : PySem.W.Frag) : R2 := fun x y H Q => ∃ a b xs ys, x = .ref a ∧ y = .ref b ∧ SqT K H a xs ∧ SqT K H b ys ∧ xs ≠ [] ∧ xs.length + ys.length ≤ sizeLine ∧
  (ys = [] → Q (.ref a) H) ∧ (ys ≠ [] → ∀ p, H p = none → Q (.ref p) (upd H p (.tup (xs ++ ys))))
theorem Vals.nil_iff {xs : List V} {us : List Value} (r : Vals xs us) : us = [] ↔ xs = [] := by
  cases r with
  | nil => simp
  | cons _ _ => simp
theorem op_catT : OpR X (binaryOp .Add) (rCatT X.K) := by
  intro pins s σ H x y v u Q I rx ry h
  obtain ⟨a, b, xs, ys, rfl, rfl, ha, hb, hx, hz, q1, q2⟩ := h
  cases rx
  cases ry
  obtain ⟨its, r1, p1, _⟩ := I.tuple ha
  obtain ⟨its2, r2, p2, _⟩ := I.tuple hb
  refine HT.cat_tup p1 p2 (fun z => hx (r1.nil_iff.mp z)) (fun z => ⟨.ref a, H, I, rfl, q1 (r2.nil_iff.mp z)⟩) (fun z => ?_) (by rw [← r1.length, ← r2.length]; exact hz)
  refine ⟨.ref s.heap.objs.size, _, I.laid (t' := s.toks) (o := .tup (xs ++ ys)) (fun b ob q => Heap.get?_push_of_some _ q) (Nat.le_refl _) ?_, rfl, q2 (fun w => z (r2.nil_iff.mpr w)) _ (I.hok.fresh (Nat.le_refl _))⟩
  exact ⟨by rw [List.length_append]; exact hz, _, r1.append r2, IsTup.new _ _⟩
/-- tuple(t) -/
theorem call_tupleT : CallR X (.type "tuple") (fun xs H Q => ∃ a ys, xs = [.ref a] ∧ SqT X.K H a ys ∧ Q (.ref a) H) := by
  intro pins s σ H xs us Q I r h
  obtain ⟨a, ys, rfl, ha, q⟩ := h
  obtain ⟨u, rfl, ru⟩ := vals1 r
  cases ru
  obtain ⟨its, _, p1, _⟩ := I.tuple ha
  exact call_tuple_same (items := its.toArray) p1 ⟨.ref a, H, I, rfl, q⟩
end
end L2

namespace L2
open PySem PySem.Spec PyProof.Rows

/-! ### places -/
/-- the place that an index of any sign means -/
def ixN (n : Nat) (i : Int) : Option Nat := if 0 ≤ i then (if i < n then some i.toNat else none) else if -(n : Int) ≤ i then some (i + n).toNat else none
def atI {α : Type} (xs : List α) (i : Int) : Option α := (ixN xs.length i).bind fun j => xs[j]?
theorem ixN_seq {n : Nat} {i : Int} {j : Nat} (h : ixN n i = some j) : seqIndex? i n = some j ∧ j < n ∧ -(n : Int) ≤ i ∧ i < n := by
  unfold ixN at h
  by_cases h0 : 0 ≤ i
  · rw [if_pos h0] at h
    by_cases h1 : i < n
    · rw [if_pos h1] at h
      have e : i.toNat = j := Option.some.inj h
      exact ⟨by rw [seqIndex_of h0 h1, e], by omega, by omega, h1⟩
    · rw [if_neg h1] at h; cases h
  · rw [if_neg h0] at h
    by_cases h1 : -(n : Int) ≤ i
    · rw [if_pos h1] at h
      have e : (i + n).toNat = j := Option.some.inj h
      exact ⟨by rw [seqIndex_neg (by omega) h1, e], by omega, h1, by omega⟩
    · rw [if_neg h1] at h; cases h
theorem atI_get {α : Type} {xs : List α} {i : Int} {v : α} (h : atI xs i = some v) : ∃ j, seqIndex? i xs.length = some j ∧ xs[j]? = some v ∧ j < xs.length ∧ -(xs.length : Int) ≤ i ∧ i < xs.length := by
  unfold atI at h
  cases e : ixN xs.length i with
  | none => rw [e] at h; cases h
  | some j =>
    rw [e] at h
    obtain ⟨h1, h2, h3, h4⟩ := ixN_seq e
    exact ⟨j, h1, h, h2, h3, h4⟩
theorem atI_nat {α : Type} {xs : List α} {j : Nat} {v : α} (h : xs[j]? = some v) : atI xs (j : Int) = some v := by
  have hj : j < xs.length := (List.getElem?_eq_some_iff.mp h).1
  have e : ixN xs.length (j : Int) = some j := by
    unfold ixN
    rw [if_pos (by omega), if_pos (by omega)]; simp
  unfold atI; rw [e]; exact h
theorem atI_last {α : Type} (xs : List α) (v : α) : atI (xs ++ [v]) (-1) = some v := by
  have hl : (xs ++ [v]).length = xs.length + 1 := by simp
  have e : ixN (xs ++ [v]).length (-1) = some xs.length := by
    unfold ixN
    rw [hl, if_neg (by decide), if_pos (by omega)]
    congr 1
    omega
  unfold atI
  rw [e]
  show (xs ++ [v])[xs.length]? = some v
  simp

/-! ### what may be subscripted -/
/-- what stands as an index of a plain subscript -/
def PlainIx (b : Expr) : Prop := ∀ o i, subscripted b false o i = operate [o, i] (getItem o i)
/-- a subscript by values -/
def IxR (X : Cx) (r : R2) : Prop :=
  ∀ (value slice : Expr) (pins : List (Addr × Obj)) (s : Shared) (σ : St) (H : Hp) (x y : V) (v u : Value) (Q : VK), Inv X pins σ H s → RelV x v → RelV y u → r x y H Q →
    subscripted slice false v u = operate [v, u] (getItem v u) → wpAny (model X.prog X.w) X.A (subscriptTail value slice v u) (EP X pins σ Q) X.xe s
/-- a call of a builtin's method by values: the receiver, the arguments -/
def MtR (X : Cx) (id : String) (r : V → List V → Hp → VK → Prop) : Prop :=
  ∀ (pins : List (Addr × Obj)) (s : Shared) (σ : St) (H : Hp) (x : V) (xs : List V) (v : Value) (us : List Value) (Q : VK), Inv X pins σ H s → RelV x v → Vals xs us → r x xs H Q →
    wpAny (model X.prog X.w) X.A (call (.builtin id) (v :: us)) (EP X pins σ Q) X.xe s
section
variable {X : Cx} {a b : Expr} {ta tb : TE} {pos : Pos}
theorem IxR.or {r r' : R2} (h : IxR X r) (h' : IxR X r') : IxR X (fun x y H Q => r x y H Q ∨ r' x y H Q) := by
  intro value slice pins s σ H x y v u Q I rx ry q hs
  rcases q with q | q
  · exact h value slice pins s σ H x y v u Q I rx ry q hs
  · exact h' value slice pins s σ H x y v u Q I rx ry q hs
theorem MtR.or {id : String} {r r' : V → List V → Hp → VK → Prop} (h : MtR X id r) (h' : MtR X id r') : MtR X id (fun x xs H Q => r x xs H Q ∨ r' x xs H Q) := by
  intro pins s σ H x xs v us Q I rx rs q
  rcases q with q | q
  · exact h pins s σ H x xs v us Q I rx rs q
  · exact h' pins s σ H x xs v us Q I rx rs q
/-- a[b] -/
theorem pe_ix {r : R2} (hr : IxR X r) (ha : PE X a ta) (hb : PE X b tb) (hs : PlainIx b) : PE X (.Subscript a b pos) (tOp r ta tb) := by
  intro pins s σ H Q I h
  exact Subscript_ (binT ha hb I h fun v u s2 x y H2 I2 rx ry q => hr a b pins s2 σ H2 x y v u Q I2 rx ry q (hs _ _))

def rIxL (K : PySem.W.Frag) : R2 := fun x y H Q => ∃ p xs i v, x = .ref p ∧ y = .int i ∧ SqL K H p xs ∧ atI xs i = some v ∧ Q v H
def rIxT (K : PySem.W.Frag) : R2 := fun x y H Q => ∃ p xs i v, x = .ref p ∧ y = .int i ∧ SqT K H p xs ∧ atI xs i = some v ∧ Q v H
def rIxS : R2 := fun x y H Q => ∃ z i c, x = .str z ∧ y = .int i ∧ z.length ≤ sizeLine ∧ atI z.cps.toList i = some c ∧ Q (.str ⟨#[c]⟩) H
theorem ix_list : IxR X (rIxL X.K) := by
  intro value slice pins s σ H x y v u Q I rx ry h hs
  obtain ⟨p, xs, i, z, rfl, rfl, hq, he, q⟩ := h
  cases rx
  obtain ⟨t, rfl⟩ := ry
  obtain ⟨its, r, pl, hz⟩ := I.list hq
  obtain ⟨j, h1, h2, h3, h4, h5⟩ := atI_get he
  obtain ⟨w, ew, rw'⟩ := r.get h2
  have hl := r.length
  have hn := line63
  have fin : EP X pins σ Q w s := ⟨z, H, I, rw', q⟩
  by_cases h0 : 0 ≤ i
  · have hj : i.toNat = j := by
      rw [seqIndex_of h0 h5] at h1
      exact Option.some.inj h1
    exact item_listR pl.isList h0 (by omega) (by rw [hj]; simpa using ew) fin hs
  · have hj : (i + (its.toArray.size : Int)).toNat = j := by
      rw [seqIndex_neg (by omega) h4] at h1
      rw [List.size_toArray, ← hl]
      exact Option.some.inj h1
    exact subscriptTail_builtinR (x := w) pl.isList.typeIs slot_list_getitem.lookup
      (wpAny_getItem_list_neg (Q := fun r s' => r = w ∧ EP X pins σ Q r s') pl.isList (by omega) (by rw [List.size_toArray] <;> omega) (by omega) (by rw [hj]; simpa using ew) ⟨rfl, fin⟩) hs
theorem ix_tup : IxR X (rIxT X.K) := by
  intro value slice pins s σ H x y v u Q I rx ry h hs
  obtain ⟨p, xs, i, z, rfl, rfl, hq, he, q⟩ := h
  cases rx
  obtain ⟨t, rfl⟩ := ry
  obtain ⟨its, r, pl, hz⟩ := I.tuple hq
  obtain ⟨j, h1, h2, h3, h4, h5⟩ := atI_get he
  obtain ⟨w, ew, rw'⟩ := r.get h2
  have hl := r.length
  have hn := line63
  have fin : EP X pins σ Q w s := ⟨z, H, I, rw', q⟩
  exact subscriptTail_builtinR (x := w) pl.typeIs slot_tuple_getitem.lookup
    (getItem_tuple (j := j) (Q := fun r s' => r = w ∧ EP X pins σ Q r s') pl (by omega) (by omega) (by rw [List.size_toArray, ← hl]; exact h1) (by simpa using ew) ⟨rfl, fin⟩) hs
theorem ix_str : IxR X rIxS := by
  intro value slice pins s σ H x y v u Q I rx ry h hs
  obtain ⟨z, i, c, rfl, rfl, hz, he, q⟩ := h
  obtain ⟨t, rfl⟩ := rx
  obtain ⟨t', rfl⟩ := ry
  obtain ⟨j, h1, h2, h3, h4, h5⟩ := atI_get he
  have hl : z.cps.toList.length = z.length := by simp [Str.length]
  rw [hl] at h1 h4 h5
  have hn := line63
  exact tail_any (typeIs_str s z t) slot_str_getitem.lookup (getItem_str (c := c) (by
    have e1 : decide (i < -(2 ^ 63 : Int)) = false := decide_eq_false (by omega)
    have e2 : decide (i ≥ 2 ^ 63) = false := decide_eq_false (by omega)
    rw [e1, e2, Bool.or_false]) (by rw [h1]; simpa using h2) ⟨.str ⟨#[c]⟩, H, I.tok _, ⟨_, rfl⟩, q⟩) hs
/-- list, tuple or str -/
def rIx (K : PySem.W.Frag) : R2 := fun x y H Q => rIxL K x y H Q ∨ rIxT K x y H Q ∨ rIxS x y H Q
theorem ix_seq : IxR X (rIx X.K) := ix_list.or (ix_tup.or ix_str)

/-! ### xs[i] = v, any sign -/
/-- the list's object behind a store -/
theorem mapSeq_set (its : List Value) (n j : Nat) (u : Value) : Obj.mapSeq (·.setIfInBounds j u) { cls := .type "list", data := .seq its.toArray n } = { cls := .type "list", data := .seq (its.set j u).toArray n } := by
  simp [Obj.mapSeq]
theorem Inv.lst {pins : List (Addr × Obj)} {σ : St} {H : Hp} {s : Shared} {p : Addr} {xs : List V} (I : Inv X pins σ H s) (h : H p = some (.lst xs)) :
    ∃ (its : List Value) (n : Nat), Vals xs its ∧ s.heap.get? p = some { cls := .type "list", data := .seq its.toArray n } ∧ xs.length ≤ sizeLine := by
  obtain ⟨z, its, n, r, e⟩ := I.hok p _ h
  exact ⟨its, n, r, e, z⟩
/-- the list at p is written by an update of its object -/
theorem Inv.lstUpd {pins : List (Addr × Obj)} {σ : St} {H : Hp} {s : Shared} {p : Addr} {xs ys : List V} {its its' : List Value} {n n' : Nat} {f : Obj → Obj} (I : Inv X pins σ H s) (h : H p = some (.lst xs))
    (ho : s.heap.get? p = some { cls := .type "list", data := .seq its.toArray n }) (hf : f { cls := .type "list", data := .seq its.toArray n } = { cls := .type "list", data := .seq its'.toArray n' }) (r : Vals ys its') (hz : ys.length ≤ sizeLine) (t : Nat) :
    Inv X pins σ (upd H p (.lst ys)) { s with heap := s.heap.update p f, toks := t } := by
  have e : (s.heap.update p f).get? p = some { cls := .type "list", data := .seq its'.toArray n' } := by
    rw [Heap.get?_update_self f ho (by rw [hf] <;> rfl), hf]
  refine I.write (x := p) (e := p) (by rw [h]; trivial) (.inl rfl) (fun b u hb q => (Heap.get?_update_other _ _ (Ne.symm hb)).trans q) ⟨_, e⟩ ?_
  exact ⟨hz, its', n', r, e⟩
def rSetL : V → V → V → Hp → (Hp → Prop) → Prop := fun o i v H Q => ∃ p xs k j, o = .ref p ∧ i = .int k ∧ H p = some (.lst xs) ∧ ixN xs.length k = some j ∧ Q (upd H p (.lst (xs.set j v)))
theorem set_list : PSet X rSetL := by
  intro pins s σ H o i v ov iv u Q I ro ri rv h
  obtain ⟨p, xs, k, j, rfl, rfl, hp, hj, q⟩ := h
  cases ro
  obtain ⟨t, rfl⟩ := ri
  obtain ⟨its, n, r, ho, hz⟩ := I.lst hp
  obtain ⟨h1, h2, h3, h4⟩ := ixN_seq hj
  have hl := r.length
  have hn := line63
  have I' : Inv X pins σ (upd H p (.lst (xs.set j v))) { s with heap := s.heap.update p (Obj.mapSeq (·.setIfInBounds j u)) } :=
    I.lstUpd hp ho (mapSeq_set its n j u) (r.set rv j) (by rw [List.length_set]; exact hz) s.toks
  by_cases h0 : 0 ≤ k
  · have hk : k.toNat = j := by
      rw [seqIndex_of h0 h4] at h1
      exact Option.some.inj h1
    exact PySem.W.ki_setAt ho h0 (by omega) (by rw [List.size_toArray, ← hl]; exact h4) (by rw [hk]; exact ⟨_, I', q⟩)
  · have hk : (k + (its.toArray.size : Int)).toNat = j := by
      rw [seqIndex_neg (by omega) h3] at h1
      rw [List.size_toArray, ← hl]
      exact Option.some.inj h1
    exact PySem.W.ki_setBack ho (by omega) (by rw [List.size_toArray, ← hl]; exact h3) (by omega) (by rw [hk]; exact ⟨_, I', q⟩)

/-! ### slices -/
theorem slice_bounds (lo hi : Option Int) (n : Nat) : (sliceBounds lo hi none n).1 = ((HT.sIx n 0 lo : Nat) : Int) ∧ (sliceBounds lo hi none n).2.1 = ((HT.sIx n n hi : Nat) : Int) ∧ (sliceBounds lo hi none n).2.2 = 1 := by
  refine ⟨?_, ?_, rfl⟩
  · cases lo with
    | none => simp [sliceBounds, HT.sIx]
    | some i =>
      simp only [sliceBounds, HT.sIx, Option.getD_none, show (1 : Int) > 0 by decide, if_true]
      by_cases h : i < 0
      · simp only [h, if_true] <;> omega
      · simp only [h, if_false] <;> omega
  · cases hi with
    | none => simp [sliceBounds, HT.sIx]
    | some i =>
      simp only [sliceBounds, HT.sIx, Option.getD_none, show (1 : Int) > 0 by decide, if_true]
      by_cases h : i < 0
      · simp only [h, if_true] <;> omega
      · simp only [h, if_false] <;> omega
theorem slicePick_cut (its : List Value) (lo hi : Option Int) : slicePick its.toArray lo hi none = ((its.drop (HT.sIx its.length 0 lo)).take (HT.sIx its.length its.length hi - HT.sIx its.length 0 lo)).toArray := by
  obtain ⟨h1, h2, h3⟩ := slice_bounds lo hi its.toArray.size
  unfold slicePick
  rw [h1, h2, h3]
  simp only [sliceRange_one, pick_run, List.size_toArray] <;> rfl
/-- xs[lo:hi] of a list: a new list -/
def rSlL (K : PySem.W.Frag) : V → Option Int → Option Int → Hp → VK → Prop := fun x lo hi H Q => ∃ a xs, x = .ref a ∧ SqL K H a xs ∧ ∀ p, H p = none → Q (.ref p) (upd H p (.lst (cutV xs lo hi)))
theorem sl_list : SlR X (rSlL X.K) := by
  intro pins s σ H x v vl vu lo hi sl Q I rx hs pl pu h
  obtain ⟨a, xs, rfl, hx, q⟩ := h
  cases rx
  obtain ⟨its, r, ht, hz⟩ := I.list hx
  have hlen := r.length
  refine ⟨"list", _, slot_list_getitem.lookup, ht.isList.typeIs, ?_⟩
  refine wpAny_getItem_list_slice ht.isList hs pl pu .none (by simp) ?_ (by rw [List.size_toArray] <;> omega)
  rw [slicePick_cut, ← hlen]
  refine ⟨.ref s.heap.objs.size, _, I.laid (t' := s.toks) (o := .lst (cutV xs lo hi)) (fun b ob q => Heap.get?_push_of_some _ q) (Nat.le_refl _) ?_, rfl, q _ (I.hok.fresh (Nat.le_refl _))⟩
  exact ⟨Nat.le_trans (cutV_length xs lo hi) hz, _, 0, (r.drop (HT.sIx xs.length 0 lo)).take (HT.sIx xs.length xs.length hi - HT.sIx xs.length 0 lo), Heap.get?_push_size _ rfl⟩

/-! ### in, not in: flat items -/
def flatV : V → Bool
  | .non => true
  | .bl _ => true
  | .int _ => true
  | .str _ => true
  | _ => false
/-- == of flat values -/
def eqV : V → V → Bool
  | .non, .non => true
  | .bl a, .bl b => a == b
  | .bl a, .int b => (if a then 1 else 0) == b
  | .int a, .bl b => a == (if b then 1 else 0)
  | .int a, .int b => a == b
  | .str a, .str b => a == b
  | _, _ => false
theorem eqAt_V {A : Around} {s : Shared} {y x : V} {u v : Value} (ry : RelV y u) (rx : RelV x v) (fy : flatV y = true) (fx : flatV x = true) : SeqAt.EqAt A s u v (eqV y x) := by
  cases y with
  | non =>
    cases ry
    cases x with
    | non => cases rx; exact SeqAt.EqAt.same _
    | bl b => cases rx; exact SeqAt.EqAt.none_bool b
    | int b => obtain ⟨t, rfl⟩ := rx; exact SeqAt.EqAt.none_int b t
    | str b => obtain ⟨t, rfl⟩ := rx; exact SeqAt.EqAt.none_str b t
    | _ => exact absurd (show false = true from fx) Bool.false_ne_true
  | bl a =>
    cases ry
    cases x with
    | non => cases rx; exact SeqAt.EqAt.bool_none a
    | bl b => cases rx; exact SeqAt.EqAt.bool_bool a b
    | int b => obtain ⟨t, rfl⟩ := rx; exact SeqAt.EqAt.bool_int a b t
    | str b => obtain ⟨t, rfl⟩ := rx; exact SeqAt.EqAt.bool_str a b t
    | _ => exact absurd (show false = true from fx) Bool.false_ne_true
  | int a =>
    obtain ⟨t', rfl⟩ := ry
    cases x with
    | non => cases rx; exact SeqAt.EqAt.int_none a t'
    | bl b => cases rx; exact SeqAt.EqAt.int_bool a t' b
    | int b => obtain ⟨t, rfl⟩ := rx; exact SeqAt.EqAt.int_int a t' b t
    | str b => obtain ⟨t, rfl⟩ := rx; exact SeqAt.EqAt.int_str a t' b t
    | _ => exact absurd (show false = true from fx) Bool.false_ne_true
  | str a =>
    obtain ⟨t', rfl⟩ := ry
    cases x with
    | non => cases rx; exact SeqAt.EqAt.str_none a t'
    | bl b => cases rx; exact SeqAt.EqAt.str_bool a t' b
    | int b => obtain ⟨t, rfl⟩ := rx; exact SeqAt.EqAt.str_int a t' b t
    | str b => obtain ⟨t, rfl⟩ := rx; exact SeqAt.EqAt.str_str a t' b t
    | _ => exact absurd (show false = true from fx) Bool.false_ne_true
  | _ => exact absurd (show false = true from fy) Bool.false_ne_true
/-- the items' answers, read off the values (a value's own answer does not lean on its token) -/
def eqU (x : V) (u : Value) : Bool := match u with
  | .none => eqV .non x
  | .bool b => eqV (.bl b) x
  | .int i _ => eqV (.int i) x
  | .str z _ => eqV (.str z) x
  | _ => false
theorem eqU_of {x y : V} {u : Value} (r : RelV y u) (f : flatV y = true) : eqU x u = eqV y x := by
  cases y with
  | non => cases r; rfl
  | bl b => cases r; rfl
  | int i => obtain ⟨t, rfl⟩ := r; rfl
  | str z => obtain ⟨t, rfl⟩ := r; rfl
  | _ => exact absurd (show false = true from f) Bool.false_ne_true
theorem any_eqU {x : V} : ∀ {xs : List V} {us : List Value}, Vals xs us → xs.all flatV = true → us.any (eqU x) = xs.any fun y => eqV y x
  | _, _, .nil, _ => rfl
  | y :: xs, u :: us, .cons r t, f => by
    rw [List.all_cons, Bool.and_eq_true] at f
    rw [List.any_cons, List.any_cons, eqU_of r f.1, any_eqU t f.2]
theorem mem_eqAt {A : Around} {s : Shared} {x : V} {v : Value} (rx : RelV x v) (fx : flatV x = true) : ∀ {xs : List V} {us : List Value}, Vals xs us → xs.all flatV = true → ∀ u ∈ us, SeqAt.EqAt A s u v (eqU x u)
  | _, _, .nil, _ => fun u hu => by cases hu
  | y :: xs, u :: us, .cons r t, f => fun u' hu => by
    rw [List.all_cons, Bool.and_eq_true] at f
    rcases List.mem_cons.mp hu with rfl | hu
    · rw [eqU_of r f.1]; exact eqAt_V r rx f.1 fx
    · exact mem_eqAt rx fx t f.2 u' hu
def inV (x : V) (xs : List V) : Bool := xs.any fun y => eqV y x
/-- x in a list or tuple of flat items -/
def rIn (K : PySem.W.Frag) (neg : Bool) : R2 := fun x y H Q => ∃ p xs, y = .ref p ∧ (SqL K H p xs ∨ SqT K H p xs) ∧ flatV x = true ∧ xs.all flatV = true ∧ Q (.bl (if neg then !inV x xs else inV x xs)) H
theorem op_in_seq : OpR X (compareOp .In) (rIn X.K false) := by
  intro pins s σ H x y v u Q I rx ry h
  obtain ⟨p, xs, rfl, hq, fx, fs, q⟩ := h
  cases ry
  rcases hq with hq | hq
  · obtain ⟨its, r, pl, hz⟩ := I.list hq
    refine SeqAt.in_listAt (eqU x) pl.isList (fun w hw => mem_eqAt rx fx r fs w (by simpa using hw)) ⟨.bl _, H, I, rfl, ?_⟩
    rw [show its.toArray.any (eqU x) = its.any (eqU x) by simp, any_eqU r fs]
    exact q
  · obtain ⟨its, r, pl, hz⟩ := I.tuple hq
    refine SeqAt.in_tupleAt (eqU x) pl (fun w hw => mem_eqAt rx fx r fs w (by simpa using hw)) ⟨.bl _, H, I, rfl, ?_⟩
    rw [show its.toArray.any (eqU x) = its.any (eqU x) by simp, any_eqU r fs]
    exact q
theorem op_notIn_seq : OpR X (compareOp .NotIn) (rIn X.K true) := by
  intro pins s σ H x y v u Q I rx ry h
  obtain ⟨p, xs, rfl, hq, fx, fs, q⟩ := h
  cases ry
  rcases hq with hq | hq
  · obtain ⟨its, r, pl, hz⟩ := I.list hq
    refine SeqAt.notIn_listAt (eqU x) pl.isList (fun w hw => mem_eqAt rx fx r fs w (by simpa using hw)) ⟨.bl _, H, I, rfl, ?_⟩
    rw [show its.toArray.any (eqU x) = its.any (eqU x) by simp, any_eqU r fs]
    exact q
  · obtain ⟨its, r, pl, hz⟩ := I.tuple hq
    refine SeqAt.notIn_tupleAt (eqU x) pl (fun w hw => mem_eqAt rx fx r fs w (by simpa using hw)) ⟨.bl _, H, I, rfl, ?_⟩
    rw [show its.toArray.any (eqU x) = its.any (eqU x) by simp, any_eqU r fs]
    exact q
theorem op_notIn_str : OpR X (compareOp .NotIn) (fun x y H Q => ∃ i j, x = .str i ∧ y = .str j ∧ Q (.bl (!(!(Builtin.Str.occurrences j i 0 j.length 1).isEmpty))) H) := by
  intro pins s σ H x y v u Q I rx ry h
  obtain ⟨i, j, rfl, rfl, q⟩ := h
  obtain ⟨t, rfl⟩ := rx
  obtain ⟨t', rfl⟩ := ry
  exact notIn_str ⟨.bl _, H, I, rfl, q⟩

/-! ### len, list(x), tuple(x) of any list or tuple that is read -/
theorem call_len_seq : CallR X (.builtin "len") (fun xs H Q => ∃ p ys, xs = [.ref p] ∧ (SqL X.K H p ys ∨ SqT X.K H p ys) ∧ Q (.int ys.length) H) := by
  intro pins s σ H xs us Q I r h
  obtain ⟨p, ys, rfl, hq, q⟩ := h
  obtain ⟨u, rfl, rx⟩ := vals1 r
  cases rx
  have hn := line63
  rcases hq with hq | hq
  · obtain ⟨its, r', pl, hz⟩ := I.list hq
    have hlen := r'.length
    exact Calls.call_len_list pl.isList (by simp only [List.size_toArray] <;> omega) ⟨.int ys.length, H, I.tok _, ⟨s.toks + 1, by rw [List.size_toArray, hlen]⟩, q⟩
  · obtain ⟨its, r', pl, hz⟩ := I.tuple hq
    have hlen := r'.length
    exact len_tuple pl (by simp only [List.size_toArray] <;> omega) ⟨.int ys.length, H, I.tok _, ⟨s.toks + 1, by rw [List.size_toArray, hlen]⟩, q⟩
theorem call_len_str : CallR X (.builtin "len") (fun xs H Q => ∃ z, xs = [.str z] ∧ z.length ≤ sizeLine ∧ Q (.int z.length) H) := by
  intro pins s σ H xs us Q I r h
  obtain ⟨z, rfl, hz, q⟩ := h
  obtain ⟨u, rfl, t, rfl⟩ := vals1 r
  have hn := line63
  exact len_str (by omega) ⟨.int z.length, H, I.tok _, ⟨_, rfl⟩, q⟩
theorem CallR.or {f : Value} {r r' : List V → Hp → VK → Prop} (h : CallR X f r) (h' : CallR X f r') : CallR X f (fun xs H Q => r xs H Q ∨ r' xs H Q) := by
  intro pins s σ H xs us Q I rs q
  rcases q with q | q
  · exact h pins s σ H xs us Q I rs q
  · exact h' pins s σ H xs us Q I rs q
theorem call_list_of : CallR X (.type "list") (fun xs H Q => ∃ p ys, xs = [.ref p] ∧ (SqL X.K H p ys ∨ SqT X.K H p ys) ∧ ∀ l, H l = none → Q (.ref l) (upd H l (.lst ys))) := by
  intro pins s σ H xs us Q I r h
  obtain ⟨p, ys, rfl, hq, q⟩ := h
  obtain ⟨u, rfl, rx⟩ := vals1 r
  cases rx
  have fin : ∀ (its : List Value), Vals ys its → ys.length ≤ sizeLine → ∀ (h' : Heap) (c' : Nat), (∀ b o', s.heap.get? b = some o' → h'.get? b = some o') →
      h'.get? s.heap.objs.size = some { cls := .type "list", dict := none, data := .seq its.toArray c', slots := #[] } → EP X pins σ Q (.ref s.heap.objs.size) { s with heap := h' } := fun its r' hz h' c' kp e =>
    ⟨.ref s.heap.objs.size, _, I.laid (t' := s.toks) kp (Nat.le_refl _) (show ObjOk X.prog X.w _ h' _ (.lst ys) from ⟨hz, its, c', r', e⟩), rfl, q _ (I.hok.fresh (Nat.le_refl _))⟩
  rcases hq with hq | hq
  · obtain ⟨its, r', pl, hz⟩ := I.list hq
    have hlen := r'.length
    obtain ⟨o, ho, hc, n, hd⟩ := pl.isList
    exact call_list_seq p (.inl rfl) ho hc hd (fun h' c' kp e => fin its r' hz h' c' kp e) (by simp only [List.size_toArray] <;> omega)
  · obtain ⟨its, r', pl, hz⟩ := I.tuple hq
    have hlen := r'.length
    obtain ⟨o, ho, hc, n, hd⟩ := pl
    exact call_list_seq p (.inr rfl) ho hc hd (fun h' c' kp e => fin its r' hz h' c' kp e) (by simp only [List.size_toArray] <;> omega)
theorem call_tuple_of : CallR X (.type "tuple") (fun xs H Q => ∃ p ys, xs = [.ref p] ∧ ((SqL X.K H p ys ∧ ∀ l, H l = none → Q (.ref l) (upd H l (.tup ys))) ∨ (SqT X.K H p ys ∧ Q (.ref p) H))) := by
  intro pins s σ H xs us Q I r h
  obtain ⟨p, ys, rfl, h⟩ := h
  obtain ⟨u, rfl, rx⟩ := vals1 r
  cases rx
  rcases h with ⟨hq, q⟩ | ⟨hq, q⟩
  · obtain ⟨its, r', pl, hz⟩ := I.list hq
    have hlen := r'.length
    refine call_tuple_list pl.isList (fun h' kp => ?_) (by simp only [List.size_toArray] <;> omega)
    have I1 : Inv X pins σ H { s with heap := h' } := I.kept (t' := s.toks) kp
    have I2 : Inv X pins σ (upd H h'.objs.size (.tup ys)) { s with heap := h'.push { cls := .type "tuple", data := .seq its.toArray } } :=
      I1.laid (t' := s.toks) (fun b o e => Heap.get?_push_of_some _ e) (Nat.le_refl _) (show ObjOk X.prog X.w _ _ _ (.tup ys) from ⟨hz, its, r', IsTup.new _ _⟩)
    exact ⟨.ref h'.objs.size, _, I2, rfl, q _ (I1.hok.fresh (Nat.le_refl _))⟩
  · obtain ⟨its, r', pl, hz⟩ := I.tuple hq
    exact call_tuple_same pl ⟨.ref p, H, I, rfl, q⟩

/-! ### the call of a builtin's method: o.m(..) -/
/-- the value is of that builtin type -/
def tyV (K : PySem.W.Frag) (T : String) (x : V) (H : Hp) : Prop := match x with
  | .str _ => T = "str"
  | .int _ => T = "int"
  | .ref p => (T = "list" ∧ ∃ xs, SqL K H p xs) ∨ (T = "tuple" ∧ ∃ o, K.lookup p = some o ∧ o.cls = .type "tuple" ∧ o.dict = none) ∨
      (T = "dict" ∧ ((∃ kvs, H p = some (.dK kvs)) ∨ ∃ kvs, H p = some (.dT kvs))) ∨ (T = "set" ∧ ∃ S n, H p = some (.set S n))
  | _ => False
theorem tyV_is {pins : List (Addr × Obj)} {σ : St} {H : Hp} {s : Shared} {T : String} {x : V} {v : Value} (I : Inv X pins σ H s) (r : RelV x v) (ty : tyV X.K T x H) :
    s.TypeIs v T ∧ ∀ a, v = .ref a → ∃ ob, s.heap.get? a = some ob ∧ ob.dict = none := by
  cases x with
  | str z =>
    obtain ⟨t, rfl⟩ := r
    cases (show T = "str" from ty)
    exact ⟨typeIs_str s z t, fun _ e => nomatch e⟩
  | int i =>
    obtain ⟨t, rfl⟩ := r
    cases (show T = "int" from ty)
    exact ⟨typeIs_int s i t, fun _ e => nomatch e⟩
  | ref p =>
    cases r
    rcases ty with ⟨rfl, xs, hq⟩ | ⟨rfl, o, hk, hc, hd⟩ | ⟨rfl, hk⟩ | ⟨rfl, S, n, hk⟩
    · obtain ⟨its, _, pl, _⟩ := I.list hq
      refine ⟨pl.isList.typeIs, fun a e => ?_⟩
      cases e
      obtain ⟨o, n, e, c, hd, _⟩ := pl
      exact ⟨o, e, hd⟩
    · refine ⟨⟨o, I.kIn p o hk, hc⟩, fun a e => ?_⟩
      cases e
      exact ⟨o, I.kIn _ o hk, hd⟩
    · have z : ∃ o, s.heap.get? p = some o ∧ o.ExactDict := by
        rcases hk with ⟨kvs, hk⟩ | ⟨kvs, hk⟩
        · obtain ⟨_, _, _, _, o, _, _, e, ex, _⟩ := I.hok p _ hk
          exact ⟨o, e, ex⟩
        · obtain ⟨_, _, _, _, o, _, _, e, ex, _⟩ := I.hok p _ hk
          exact ⟨o, e, ex⟩
      obtain ⟨o, e, ex⟩ := z
      refine ⟨⟨o, e, ex.1⟩, fun a e2 => ?_⟩
      cases e2
      exact ⟨o, e, ex.2.1⟩
    · obtain ⟨o, _, _, _, e, ex, _⟩ := I.hok p _ hk
      refine ⟨⟨o, e, ex.1⟩, fun a e2 => ?_⟩
      cases e2
      exact ⟨o, e, ex.2.1⟩
  | _ => exact False.elim ty
def tBM0 (K : PySem.W.Frag) (T : String) (r : V → List V → Hp → VK → Prop) (to : TE) : TE := fun σ H Q => to σ H fun x H1 => tyV K T x H1 ∧ r x [] H1 Q
def tBM (K : PySem.W.Frag) (T : String) (r : V → List V → Hp → VK → Prop) (to : TE) (t : TA) : TE := fun σ H Q => to σ H fun x H1 => tyV K T x H1 ∧ t σ H1 fun xs H2 => r x xs H2 Q
variable {o e : Expr} {es : List Expr} {to : TE} {t : TA} {name : Str} {apos cpos : Pos} {T id : String} {r : V → List V → Hp → VK → Prop}
theorem pe_bm0 (pa : PlainAttrs T) (slot : Slot T name id) (hty : typeOf (.builtin id) = pure (.type "method_descriptor")) (hm : MtR X id r) (ho : PE X o to)
    (hbase : attributeBase o name X.env (eval o X.env) = eval o X.env := by rfl) (hline : (apos.endLine == cpos.line) = true := by rfl) : PE X (.Call (.Attribute o name apos) [] [] cpos) (tBM0 X.K T r to) := by
  intro pins s σ H Q I h
  refine wpAny_Call_method0_late hbase hline (thn (ho pins s σ H _ I h) fun v s1 ⟨x, H1, I1, r1, ty, q1⟩ => ?_)
  obtain ⟨h1, h2⟩ := tyV_is I1 r1 ty
  exact ⟨T, id, pa, slot, hty, h1, h2, Calls.callWith_builtin rfl (PySem.evalArgs_none (hm pins s1 σ H1 x [] v [] Q I1 r1 .nil q1))⟩
theorem pe_bm (pa : PlainAttrs T) (slot : Slot T name id) (hty : typeOf (.builtin id) = pure (.type "method_descriptor")) (hm : MtR X id r) (ho : PE X o to) (ha : PA X (e :: es) t)
    (hbase : attributeBase o name X.env (eval o X.env) = eval o X.env := by rfl)
    (hfew : ((backTo cpos (starEach (e :: es) X.env)).all (fun x => !x.1) && (backToKw cpos (keywordEach [] X.env)).all (fun x => x.1.isSome)
      && decide ((e :: es).length + ([] : List Keyword).length + (if ([] : List Keyword).isEmpty then 0 else 1) < 30)) = true := by rfl)
    (hline : (apos.endLine == cpos.line) = true := by rfl) (hs : starEach (e :: es) X.env = (false, eval e X.env) :: starEach es X.env := by rfl) (hplain : (backTo cpos (starEach es X.env)).any (·.1) = false := by rfl) :
    PE X (.Call (.Attribute o name apos) (e :: es) [] cpos) (tBM X.K T r to t) := by
  intro pins s σ H Q I h
  refine wpAny_Call_method_late hbase hfew hline rfl (thn (ho pins s σ H _ I h) fun v s1 ⟨x, H1, I1, r1, ty, q1⟩ => ?_)
  obtain ⟨h1, h2⟩ := tyV_is I1 r1 ty
  refine ⟨T, id, pa, slot, hty, h1, h2, ?_⟩
  have hA := ha cpos pins s1 σ H1 _ I1 q1
  rw [hs] at hA ⊢
  refine Calls.callWith_builtin (by show (false || (backTo cpos (starEach es X.env)).any (·.1)) = false; rw [hplain] <;> rfl) (Calls.evalArgs_plain ?_)
  exact thn hA fun us s2 ⟨vs, H2, I2, r2, q2⟩ => hm pins s2 σ H2 x vs v us Q I2 r1 r2 q2
/- xs.append(e), list.index on a module's tuple .. are MtR facts of 06m -/
end
end L2

namespace L2
open PySem PySem.Spec PyProof.Rows

def MtM (X : Cx) (id : String) (r : V → List V → Hp → VK → Prop) : Prop :=
  ∀ (pins : List (Addr × Obj)) (s : Shared) (σ : St) (H : Hp) (x : V) (xs : List V) (v : Value) (us : List Value) (Q : VK), Inv X pins σ H s → RelV x v → Vals xs us → r x xs H Q →
    wpAny (model X.prog X.w) X.A (call (.builtin id) (v :: us)) (EP X pins σ Q) X.xe s

/-! ### lists of values -/
theorem Vals.one : ∀ {x : V} {us : List Value}, Vals [x] us → ∃ u, us = [u] ∧ RelV x u
  | _, _, .cons r .nil => ⟨_, rfl, r⟩
theorem Vals.two : ∀ {x y : V} {us : List Value}, Vals [x, y] us → ∃ u v, us = [u, v] ∧ RelV x u ∧ RelV y v
  | _, _, _, .cons r (.cons q .nil) => ⟨_, _, rfl, r, q⟩
theorem Vals.zero : ∀ {us : List Value}, Vals [] us → us = []
  | _, .nil => rfl
theorem Vals.dropLast {xs : List V} {us : List Value} (h : Vals xs us) : Vals xs.dropLast us.dropLast := by
  induction h with
  | nil => exact .nil
  | cons r t ih =>
    cases t with
    | nil => exact .nil
    | cons q t' => exact .cons r ih
theorem Vals.eraseIdx : ∀ {xs : List V} {us : List Value} (i : Nat), Vals xs us → Vals (xs.eraseIdx i) (us.eraseIdx i)
  | _, _, _, .nil => .nil
  | _, _, 0, .cons _ t => t
  | _, _, i + 1, .cons r t => .cons r (Vals.eraseIdx i t)
theorem Vals.reverse {xs : List V} {us : List Value} (h : Vals xs us) : Vals xs.reverse us.reverse := by
  induction h with
  | nil => exact .nil
  | cons r t ih => rw [List.reverse_cons, List.reverse_cons]; exact Vals.append ih (.cons r .nil)
theorem Vals.rep {xs : List V} {us : List Value} (h : Vals xs us) : ∀ k : Nat, Vals (List.replicate k xs).flatten (List.replicate k us).flatten
  | 0 => .nil
  | k + 1 => by
    rw [List.replicate_succ, List.replicate_succ, List.flatten_cons, List.flatten_cons]
    exact Vals.append h (Vals.rep h k)
theorem erase_last {α : Type} (l : List α) : l.eraseIdx (l.length - 1) = l.dropLast := by
  induction l with
  | nil => rfl
  | cons a r ih =>
    cases r with
    | nil => rfl
    | cons b r =>
      have e : (a :: b :: r).length - 1 = ((b :: r).length - 1) + 1 := by
        have h1 : (a :: b :: r).length = r.length + 2 := rfl
        have h2 : (b :: r).length = r.length + 1 := rfl
        omega
      rw [e, List.eraseIdx_cons_succ, ih]
      all_goals rfl
theorem len_erase {α : Type} : ∀ (l : List α) (i : Nat), (l.eraseIdx i).length ≤ l.length
  | [], _ => Nat.le_refl _
  | _ :: _, 0 => Nat.le_succ _
  | _ :: r, i + 1 => Nat.succ_le_succ (len_erase r i)
theorem foldl_rep (its : List Value) : ∀ (k : Nat) (acc : List Value),
    List.foldl (fun x1 x2 => x1 ++ x2) acc.toArray (List.replicate k its.toArray) = (acc ++ (List.replicate k its).flatten).toArray
  | 0, acc => by simp
  | k + 1, acc => by
    have e : acc.toArray ++ its.toArray = (acc ++ its).toArray := by simp
    have e2 : (acc ++ its) ++ (List.replicate k its).flatten = acc ++ (List.replicate (k + 1) its).flatten := by
      rw [List.replicate_succ, List.flatten_cons, List.append_assoc]
    rw [← e2, ← foldl_rep its k (acc ++ its), ← e, List.replicate_succ, List.foldl_cons]

section
variable {X : Cx} {pins : List (Addr × Obj)} {σ : St} {H : Hp} {s : Shared} {l b : Addr} {xs ys zs : List V}

/-! ### the two steps: a tracked list is rewritten, a new list is laid -/
theorem Inv.lset {its its' : List Value} {n : Nat} {f : Array Value → Array Value} {t' : Nat} (I : Inv X pins σ H s) (hH : H l = some (.lst xs))
    (e : s.heap.get? l = some { cls := .type "list", data := .seq its.toArray n }) (hf : f its.toArray = its'.toArray) (hv : Vals ys its') (hz : ys.length ≤ sizeLine) :
    Inv X pins σ (upd H l (.lst ys)) { s with heap := s.heap.update l (Obj.mapSeq f), toks := t' } := by
  have q := PySem.IsL.update e f
  rw [hf] at q
  refine I.write (x := l) (e := l) (by rw [hH]; exact trivial) (.inl rfl) (fun b' u hb hu => (Heap.get?_update_other s.heap (Obj.mapSeq f) (Ne.symm hb)).trans hu) ⟨_, q⟩ ?_
  exact ⟨hz, its', _, hv, q⟩
theorem Inv.lnew {its : List Value} {t' : Nat} (I : Inv X pins σ H s) (hv : Vals ys its) (hz : ys.length ≤ sizeLine) :
    Inv X pins σ (upd H s.heap.objs.size (.lst ys)) { s with heap := s.heap.push { cls := .type "list", data := .seq its.toArray }, toks := t' } :=
  I.laid (fun _ _ q => Heap.get?_push_of_some _ q) (Nat.le_refl _) ⟨hz, its, 0, hv, Heap.get?_push_size _ rfl⟩
theorem Inv.fresh (I : Inv X pins σ H s) : H s.heap.objs.size = none := I.hok.fresh (Nat.le_refl _)
theorem Inv.lstM (I : Inv X pins σ H s) (hH : H l = some (.lst xs)) : xs.length ≤ sizeLine ∧ ∃ (its : List Value) (n : Nat), Vals xs its ∧ xs.length = its.length ∧ s.heap.get? l = some { cls := .type "list", data := .seq its.toArray n } := by
  obtain ⟨z, its, n, r, e⟩ := I.hok l _ hH
  exact ⟨z, its, n, r, r.length, e⟩

theorem notLongL {n : Nat} (h : n ≤ sizeLine) : Builtin.List.listTooLong n = false := by
  unfold Builtin.List.listTooLong
  exact decide_eq_false (by omega)
end

section
variable {X : Cx}

/-! ### methods -/
def rAppend : V → List V → Hp → VK → Prop := fun x vs H Q => ∃ l xs y, x = .ref l ∧ vs = [y] ∧ H l = some (.lst xs) ∧ xs.length < sizeLine ∧ Q .non (upd H l (.lst (xs ++ [y])))
theorem mt_append : MtM X "list.append" rAppend := by
  intro pins s σ H x vs v us Q I rx rv h
  obtain ⟨l, xs, y, rfl, rfl, hH, hz, q⟩ := h
  cases rx
  obtain ⟨u, rfl, ru⟩ := rv.one
  obtain ⟨z, its, n, r, hl, e⟩ := I.lstM hH
  refine call_meets F.slot_list_append ⟨_, e, rfl⟩ F.entry_list_append (F.args_list_append_2 _ _) (PySem.list_append l its.toArray n u (by rw [List.size_toArray]; omega)) ⟨e, ?_⟩
  refine ⟨.non, _, I.lset (its' := its ++ [u]) hH e (by simp) (r.append (.cons ru .nil)) ?_, rfl, q⟩
  rw [List.length_append, List.length_singleton]
  omega

def rExtend : V → List V → Hp → VK → Prop := fun x vs H Q => ∃ l b xs zs, x = .ref l ∧ vs = [.ref b] ∧ H l = some (.lst xs) ∧ H b = some (.lst zs) ∧ xs.length + zs.length ≤ sizeLine ∧ Q .non (upd H l (.lst (xs ++ zs)))
theorem mt_extend : MtM X "list.extend" rExtend := by
  intro pins s σ H x vs v us Q I rx rv h
  obtain ⟨l, b, xs, zs, rfl, rfl, hH, hB, hz, q⟩ := h
  cases rx
  obtain ⟨u, rfl, ru⟩ := rv.one
  cases ru
  obtain ⟨z, its, n, r, hl, e⟩ := I.lstM hH
  obtain ⟨z2, its2, n2, r2, hl2, e2⟩ := I.lstM hB
  have hsz : its.toArray.size + its2.toArray.size ≤ sizeLine := by rw [List.size_toArray, List.size_toArray]; omega
  have hlong : ¬ (!its.toArray.isEmpty && Builtin.List.listTooLong (its.toArray.size + its2.toArray.size)) = true := by
    rw [notLongL hsz, Bool.and_false]
    exact Bool.false_ne_true
  refine call_meets F.slot_list_extend ⟨_, e, rfl⟩ F.entry_list_extend (F.args_list_extend_2 _ _)
    (AutoSeq1.list_extend_list_list_0 l its.toArray n b its2.toArray n2 hlong (by rw [List.size_toArray]; omega) (by omega)) ⟨e, e2, ?_⟩
  refine ⟨.non, _, I.lset (its' := its ++ its2) hH e (by simp) (r.append r2) ?_, rfl, q⟩
  rw [List.length_append]
  omega

def rPop : V → List V → Hp → VK → Prop := fun x vs H Q => ∃ l xs y, x = .ref l ∧ vs = [] ∧ H l = some (.lst xs) ∧ xs[xs.length - 1]? = some y ∧ Q y (upd H l (.lst xs.dropLast))
theorem mt_pop : MtM X "list.pop" rPop := by
  intro pins s σ H x vs v us Q I rx rv h
  obtain ⟨l, xs, y, rfl, rfl, hH, hy, q⟩ := h
  cases rx
  have hus := rv.zero
  subst hus
  obtain ⟨z, its, n, r, hl, e⟩ := I.lstM hH
  obtain ⟨u, hu, ru⟩ := r.get hy
  have hy' : its.toArray[its.toArray.size - 1]? = some u := by
    show its.toArray[its.length - 1]? = some u
    rw [← Array.getElem?_toList, ← hl]
    exact hu
  refine call_meets F.slot_list_pop ⟨_, e, rfl⟩ F.entry_list_pop (F.args_list_pop_1 _) (MeetsSeq.list_pop_last l its.toArray n u hy' (by rw [List.size_toArray]; omega)) ⟨e, ?_⟩
  refine ⟨y, _, I.lset (its' := its.dropLast) hH e ?_ r.dropLast ?_, ru, q⟩
  · show its.toArray.eraseIdxIfInBounds (its.toArray.size - 1) = its.dropLast.toArray
    rw [List.size_toArray, List.eraseIdxIfInBounds_toArray, erase_last]
  · rw [List.length_dropLast]
    omega

def rPopAt : V → List V → Hp → VK → Prop := fun x vs H Q => ∃ l xs i k y, x = .ref l ∧ vs = [.int i] ∧ H l = some (.lst xs) ∧ -(2 ^ 63) ≤ i ∧ i < 2 ^ 63 ∧ seqIndex? i xs.length = some k ∧ xs[k]? = some y ∧ Q y (upd H l (.lst (xs.eraseIdx k)))
theorem mt_popAt : MtM X "list.pop" rPopAt := by
  intro pins s σ H x vs v us Q I rx rv h
  obtain ⟨l, xs, i, k, y, rfl, rfl, hH, h1, h2, hk, hy, q⟩ := h
  cases rx
  obtain ⟨u, rfl, ru⟩ := rv.one
  obtain ⟨t, rfl⟩ := ru
  obtain ⟨z, its, n, r, hl, e⟩ := I.lstM hH
  obtain ⟨w, hw, rw'⟩ := r.get hy
  refine call_meets F.slot_list_pop ⟨_, e, rfl⟩ F.entry_list_pop (F.args_list_pop_2 _ _)
    (MeetsSeq.list_pop_at l its.toArray n i t k w (fitsIndex_both h1 h2) (by rw [List.size_toArray, ← hl]; exact hk) (by rw [← Array.getElem?_toList]; exact hw) (by rw [List.size_toArray]; omega)) ⟨e, ?_⟩
  refine ⟨y, _, I.lset (its' := its.eraseIdx k) hH e ?_ (r.eraseIdx k) ?_, rw', q⟩
  · show its.toArray.eraseIdxIfInBounds k = (its.eraseIdx k).toArray
    rw [List.eraseIdxIfInBounds_toArray]
  · have := len_erase xs k
    omega

def rReverse : V → List V → Hp → VK → Prop := fun x vs H Q => ∃ l xs, x = .ref l ∧ vs = [] ∧ H l = some (.lst xs) ∧ Q .non (upd H l (.lst xs.reverse))
theorem mt_reverse : MtM X "list.reverse" rReverse := by
  intro pins s σ H x vs v us Q I rx rv h
  obtain ⟨l, xs, rfl, rfl, hH, q⟩ := h
  cases rx
  have hus := rv.zero
  subst hus
  obtain ⟨z, its, n, r, hl, e⟩ := I.lstM hH
  refine call_meets F.slot_list_reverse ⟨_, e, rfl⟩ F.entry_list_reverse (F.args_list_reverse_1 _) (AutoSeq1.list_reverse_list_0 l its.toArray n (by rw [List.size_toArray]; omega)) ⟨e, ?_⟩
  refine ⟨.non, _, I.lset (its' := its.reverse) hH e (by simp) r.reverse ?_, rfl, q⟩
  rw [List.length_reverse]
  omega

def rClear : V → List V → Hp → VK → Prop := fun x vs H Q => ∃ l xs, x = .ref l ∧ vs = [] ∧ H l = some (.lst xs) ∧ Q .non (upd H l (.lst []))
theorem mt_clear : MtM X "list.clear" rClear := by
  intro pins s σ H x vs v us Q I rx rv h
  obtain ⟨l, xs, rfl, rfl, hH, q⟩ := h
  cases rx
  have hus := rv.zero
  subst hus
  obtain ⟨z, its, n, r, hl, e⟩ := I.lstM hH
  refine call_meets F.slot_list_clear ⟨_, e, rfl⟩ F.entry_list_clear (F.args_list_clear_1 _) (AutoSeq1.list_clear_list_0 l its.toArray n (by rw [List.size_toArray]; omega)) ⟨e, ?_⟩
  exact ⟨.non, _, I.lset (its' := []) (ys := []) hH e rfl .nil (Nat.zero_le _), rfl, q⟩

/-! ### list + list, list += list, list * int -/
def rCat : R2 := fun x y H Q => ∃ l b xs zs, x = .ref l ∧ y = .ref b ∧ H l = some (.lst xs) ∧ H b = some (.lst zs) ∧ xs.length + zs.length ≤ sizeLine ∧ ∀ p, H p = none → Q (.ref p) (upd H p (.lst (xs ++ zs)))
theorem op_cat : OpR X (binaryOp .Add) rCat := by
  intro pins s σ H x y v u Q I rx ry h
  obtain ⟨l, b, xs, zs, rfl, rfl, hH, hB, hz, q⟩ := h
  cases rx
  cases ry
  obtain ⟨z, its, n, r, hl, e⟩ := I.lstM hH
  obtain ⟨z2, its2, n2, r2, hl2, e2⟩ := I.lstM hB
  refine PySem.P.add_list e e2 ?_ (by rw [List.size_toArray, List.size_toArray]; omega)
  have ea : its.toArray ++ its2.toArray = (its ++ its2).toArray := by simp
  rw [ea]
  exact ⟨.ref _, _, I.lnew (t' := s.toks) (r.append r2) (by rw [List.length_append]; omega), rfl, q _ I.fresh⟩
/-- a list times an int (a negative one is nothing) -/
def rRep : R2 := fun x y H Q => ∃ l k xs, x = .ref l ∧ y = .int k ∧ H l = some (.lst xs) ∧ -(2 ^ 63) ≤ k ∧ k < 2 ^ 63 ∧ xs.length * k.toNat ≤ sizeLine ∧
  ∀ p, H p = none → Q (.ref p) (upd H p (.lst (List.replicate k.toNat xs).flatten))
theorem len_rep {α : Type} (xs : List α) (k : Nat) : (List.replicate k xs).flatten.length = k * xs.length := by
  induction k with
  | zero => simp
  | succ k ih => rw [List.replicate_succ, List.flatten_cons, List.length_append, ih, Nat.succ_mul, Nat.add_comm]
theorem op_rep : OpR X (binaryOp .Mult) rRep := by
  intro pins s σ H x y v u Q I rx ry h
  obtain ⟨l, k, xs, rfl, rfl, hH, h1, h2, hz, q⟩ := h
  cases rx
  obtain ⟨t, rfl⟩ := ry
  obtain ⟨z, its, n, r, hl, e⟩ := I.lstM hH
  have hlen : its.toArray.size * k.toNat ≤ sizeLine := by rw [List.size_toArray, ← hl]; exact hz
  have hcap : ¬ its.toArray.size * k.toNat > (2 ^ 63 - 1) / 8 := by
    have : (sizeLine : Nat) ≤ (2 ^ 63 - 1) / 8 := by decide
    omega
  have hfit : ¬ (!Builtin.List.listFitsIndex k) = true := by
    rw [fitsIndex_both h1 h2]
    exact Bool.false_ne_true
  have hlong : ¬ Builtin.List.listTooLong (its.toArray.size * k.toNat) = true := by
    rw [notLongL hlen]
    exact Bool.false_ne_true
  have hnew : List.foldl (fun x1 x2 => x1 ++ x2) #[] (List.replicate (if its.toArray.isEmpty = true then 0 else k.toNat) its.toArray) = (List.replicate k.toNat its).flatten.toArray := by
    have f0 : ∀ m : Nat, List.foldl (fun x1 x2 => x1 ++ x2) #[] (List.replicate m its.toArray) = (List.replicate m its).flatten.toArray := fun m => by
      have := foldl_rep its m []
      rw [List.nil_append] at this
      exact this
    rw [f0]
    cases its with
    | nil => simp
    | cons a r' => rw [if_neg (by simp)]
  refine wpAny_binaryOp_repeat_ref (T := "list") (U := "int") (by decide) ⟨_, e, rfl⟩ (fun s' => typeIs_int s' k t) noFill_list_mul F.fills_int_mul F.slot_int_rmul repeat_list F.slot_int_index.lookup
    (call_meets F.slot_int_rmul (typeIs_int s k t) F.entry_int_rmul (F.args_int_rmul_2 _ _) (int___rmul___int_list k t l its.toArray n)
      ⟨e, rfl, ⟨_, e, rfl⟩, call_meets F.slot_list_mul ⟨_, e, rfl⟩ F.entry_list_mul (F.args_list_mul_2 _ _) (AutoListH.list___mul___list_int_3 l its.toArray n k t hfit hcap hlong) ⟨e, ?_⟩⟩)
  rw [hnew]
  exact ⟨.ref _, _, I.lnew (t' := s.toks) (r.rep k.toNat) (by rw [len_rep, Nat.mul_comm]; exact hz), rfl, q _ I.fresh⟩

/-! ### del xs[i] -/
theorem del_list {pins : List (Addr × Obj)} {s : Shared} {σ : St} {H : Hp} {l : Addr} {xs : List V} {i : Int} {t : Tok} {k : Nat} {Q : Unit → Shared → Prop} (I : Inv X pins σ H s) (hH : H l = some (.lst xs))
    (h1 : -(2 ^ 63) ≤ i) (h2 : i < 2 ^ 63) (hk : seqIndex? i xs.length = some k) (h : ∀ s', Inv X pins σ (upd H l (.lst (xs.eraseIdx k))) s' → Q () s') :
    wpAny (model X.prog X.w) X.A (delItem (.ref l) (.int i t)) Q X.xe s := by
  obtain ⟨z, its, n, r, hl, e⟩ := I.lstM hH
  refine PySem.P.delItem_list (k := k) e (fitsIndex_both h1 h2) (by rw [List.size_toArray, ← hl]; exact hk) (h _ ?_) (by rw [List.size_toArray]; omega)
  refine I.lset (its' := its.eraseIdx k) (t' := s.toks) hH e ?_ (r.eraseIdx k) ?_
  · show its.toArray.eraseIdxIfInBounds k = (its.eraseIdx k).toArray
    rw [List.eraseIdxIfInBounds_toArray]
  · have := len_erase xs k
    omega
end

/-! ### xs[a:b] = ys -/
section
variable {prog : Program} {w : World} {A : Around} {E : Value → Shared → Prop} {s : Shared}
theorem splice_eq (its its2 : List Value) (a c : Nat) : its.toArray.extract 0 a ++ its2.toArray ++ its.toArray.extract c its.toArray.size = (its.take a ++ its2 ++ its.drop c).toArray := by
  apply Array.toList_inj.mp
  first
    | (simp
       exact List.take_of_length_le (by simp))
    | simp [List.take_of_length_le]
    | simp
theorem bounds_run {a c n : Nat} (hac : a ≤ c) (hc : c ≤ n) : sliceBounds (some (a : Int)) (some (c : Int)) none n = ((a : Int), (c : Int), 1) := by
  simp only [sliceBounds, Option.getD_none]
  have h1 : ¬ ((a : Int) < 0) := by omega
  have h2 : ¬ ((c : Int) < 0) := by omega
  simp only [h1, h2, if_false, show (1 : Int) > 0 by decide, if_true]
  congr 1
  · omega
  · congr 1; omega
set_option maxRecDepth 100000 in
/-- list.__setitem__ with a slice of step one and another list -/
theorem setItem_slice {l b sl : Addr} {items new : Array Value} {n n2 : Nat} {vl vu : Value} {a c : Nat} {Q : Unit → Shared → Prop}
    (e : s.heap.get? l = some { cls := .type "list", data := .seq items n }) (e2 : s.heap.get? b = some { cls := .type "list", data := .seq new n2 }) (hne : l ≠ b)
    (hs : s.heap.IsSliceOf sl vl vu .none) (pl : IsPart vl (some (a : Int))) (pu : IsPart vu (some (c : Int))) (hac : a ≤ c) (hc : c ≤ items.size)
    (hsz : items.size + new.size ≤ sizeLine) (h : Q () { s with heap := s.heap.update l (Obj.mapSeq fun xs => xs.extract 0 a ++ new ++ xs.extract c xs.size) }) :
    wpAny (model prog w) A (setItem (.ref l) (.ref sl) (.ref b)) Q E s := by
  have hl : s.heap.IsList l items := PySem.IsL.isList e
  have hb : s.heap.IsList b new := PySem.IsL.isList e2
  obtain ⟨os, hos, hcs, hds⟩ := id hs
  have hTs : s.TypeIs (.ref sl) "slice" := ⟨os, hos, hcs⟩
  have hstep : ¬ ((rawPart none == rawInt 0) = true) := Bool.false_ne_true
  have hsame : Builtin.List.listSameRef (.ref l) (.ref b) = false := by
    unfold Builtin.List.listSameRef
    exact beq_eq_false_iff_ne.mpr hne
  have hmax : (max (a : Int) (c : Int)).toNat = c := by omega
  have hz' : ((fun xs : Array Value => xs.extract 0 a ++ new ++ xs.extract c xs.size) items).size ≤ sizeLine + 1 := by
    simp only [Array.size_append, Array.size_extract]
    omega
  unfold setItem
  try with_reducible refine wpAny_holding ?_
  first | refine wpAny_bind (wpAny_pure ?_) | skip
  refine wpAny_bind (wpAny_sequenceKey hl.typeIs (by decide) ?_)
  refine wpAny_bind (wpAny_callSpecial?_slot (name := Str.ofString "__setitem__") hl.typeIs slot_list_setitem
    (wpAny_call_entry slot_list_setitem hl.typeIs entry_list_setitem ?_ (args_list_setitem _ _ _)))
  show wpAny _ _ (Builtin.List.listSubscript? (.ref sl) >>= _) _ _ s
  refine wpAny_bind ?_
  unfold Builtin.List.listSubscript?
  refine wpAny_bind (wpAny_specialOf hTs slice_no_index ?_)
  simp only [Option.isNone_none, if_true]
  refine wpAny_pure ?_
  show wpAny _ _ (typeOf (.ref sl) >>= _) _ _ s
  refine wpAny_bind (wpAny_typeOf hTs ?_)
  first
    | rw [if_neg (by decide)]
    | refine PySem.W.KFB.if_not (by decide) ?_
  rw [listSliceParts_eq]
  refine wpAny_bind (wpAny_bind (wpAny_field hos hds (x := .none) rfl (wpAny_bind (wpAny_listPart .none ?_))))
  rw [if_neg hstep]
  refine wpAny_bind (wpAny_field hos hds (x := vl) rfl (wpAny_bind (wpAny_listPart pl ?_)))
  refine wpAny_bind (wpAny_field hos hds (x := vu) rfl (wpAny_bind (wpAny_listPart pu (wpAny_pure ?_))))
  first
    | simp only [hsame, Bool.false_eq_true, if_false]
    | refine PySem.W.KFB.if_not hsame ?_
    | (dsimp only
       rw [if_neg (by rw [hsame]; exact Bool.false_ne_true)])
  refine wpAny_bind (m := Builtin.List.listAllItems (.ref b) "must assign iterable to extended slice") ?_
  unfold Builtin.List.listAllItems
  refine wpAny_bind (wpAny_typeOf hb.typeIs ?_)
  first
    | refine PySem.W.KFB.if_so (by decide) ?_
    | rw [if_pos (by decide)]
    | simp only [beq_self_eq_true, Bool.true_or, if_true]
  unfold Builtin.List.listItems
  refine wpAny_bind (wpAny_seqItems e2 rfl (wpAny_pure ?_))
  refine wpAny_bind (wpAny_bind (wpAny_seqItems e rfl (wpAny_pure ?_)))
  refine wpAny_bind (wpAny_of_eq ((sliceIndices_raw (some (a : Int)) (some (c : Int)) none items.size (by simp)).trans (congrArg (pure : Int × Int × Int → Sem (Int × Int × Int)) (bounds_run hac hc))) ?_)
  show wpAny _ _ (if ((1 : Int) == 1) = true then _ else _) _ _ s
  rw [if_pos (by decide)]
  refine wpAny_bind (wpAny_rule ?_)
  first
    | simp only [notLongL hsz, Bool.false_eq_true, if_false]
    | refine PySem.W.KFB.if_not (notLongL hsz) ?_
  first | refine wpAny_bind (wpAny_pure ?_) | skip
  show wpAny _ _ (updateSeq l (fun xs => xs.extract 0 ((a : Int)).toNat ++ new ++ xs.extract (max (a : Int) (c : Int)).toNat xs.size) >>= _) _ _ s
  rw [hmax, Int.toNat_natCast]
  refine wpAny_bind (wpAny_updateSeq (hz := Nat.le_trans (Nat.le_add_right _ _) hsz) (_hz' := hz') e rfl ?_)
  refine wpAny_bind (wpAny_letGo ?_)
  first
    | exact wpAny_bind (wpAny_pure (wpAny_pure ⟨.none, rfl, wpAny_pure h⟩))
    | exact wpAny_pure ⟨.none, rfl, wpAny_pure h⟩
end

section
variable {X : Cx}
/-- xs[a:c] = ys of another list, at the value level: sl is the slice object that was just made -/
theorem set_slice {pins : List (Addr × Obj)} {s : Shared} {σ : St} {H : Hp} {l b sl : Addr} {xs ys : List V} {a c : Int} {vl vu : Value} {Q : Unit → Shared → Prop} (I : Inv X pins σ H s)
    (hH : H l = some (.lst xs)) (hB : H b = some (.lst ys)) (hne : l ≠ b) (hs : s.heap.IsSliceOf sl vl vu .none) (ra : RelV (.int a) vl) (rc : RelV (.int c) vu) (h0 : 0 ≤ a) (hac : a ≤ c) (hc : c ≤ xs.length)
    (hz : xs.length + ys.length ≤ sizeLine) (h : ∀ s', Inv X pins σ (upd H l (.lst (xs.take a.toNat ++ ys ++ xs.drop c.toNat))) s' → Q () s') :
    wpAny (model X.prog X.w) X.A (setItem (.ref l) (.ref sl) (.ref b)) Q X.xe s := by
  obtain ⟨ta, rfl⟩ := ra
  obtain ⟨tc, rfl⟩ := rc
  obtain ⟨z, its, n, r, hl, e⟩ := I.lstM hH
  obtain ⟨z2, its2, n2, r2, hl2, e2⟩ := I.lstM hB
  obtain ⟨a', rfl⟩ := Int.eq_ofNat_of_zero_le h0
  obtain ⟨c', rfl⟩ := Int.eq_ofNat_of_zero_le (Int.le_trans h0 hac)
  simp only [Int.toNat_natCast] at h
  refine setItem_slice (a := a') (c := c') e e2 hne hs (.int _ _) (.int _ _) (by omega) (by rw [List.size_toArray]; omega) (by rw [List.size_toArray, List.size_toArray]; omega) (h _ ?_)
  refine I.lset (its' := its.take a' ++ its2 ++ its.drop c') (t' := s.toks) hH e ?_ (Vals.append (Vals.append (r.take _) r2) (r.drop _)) ?_
  · exact splice_eq its its2 a' c'
  · rw [List.length_append, List.length_append, List.length_take, List.length_drop]
    omega
end
end L2

namespace Att
open PySem PySem.W PySem.Calls PyProof.Rows

/-! ### the script -/
theorem ints_of_wellAll {P : Params} {h : Heap} : ∀ (ns : List Int) (vs : List Value), WellAll P h vs (ns.map WData.int) → IntsAre vs ns := by
  intro ns
  induction ns with
  | nil =>
    intro vs w
    rw [List.map_nil] at w
    cases w
    exact .nil
  | cons n ns ih =>
    intro vs w
    rw [List.map_cons] at w
    cases w with
    | cons a b =>
      cases a
      exact .cons _ _ (ih _ b)

theorem script_of {l : OpenLaw} {n : Nat} (hn : l.most = some n) {P : Params} {h : Heap} {args : List WData} {vals : List Value}
    (hpre : l.row.toRowW.claim.pre args = true) (hwl : WellAll P h vals args) :
    ∃ a vs ns, vals = [Value.ref a] ∧ args = [WData.list (ns.map WData.int)] ∧ h.get? a = some { cls := .type "list", data := .seq vs.toArray } ∧ IntsAre vs ns ∧ ns.length ≤ n := by
  have hsh : WShape.hasAll [] args [.list .int] = true := (pre_splitW hpre).1
  have hc : l.pre.holds [] { args := args } = true := (pre_splitW hpre).2
  obtain ⟨d, r, rfl, h1, h2⟩ := hasAllW_cons hsh
  obtain rfl := hasAllW_nil h2
  obtain ⟨xs, rfl, h3⟩ := hasW_list h1
  obtain ⟨ns, rfl⟩ := items_int h3
  have hlen : ns.length ≤ n := by
    unfold OpenLaw.pre at hc
    have h4 : (WTm.not (.lt (.lit (.int (n : Int))) (.len (.arg 0)))).holds [] { args := [.list (ns.map .int)] } = true := by
      have h4 := (holds_andW hc).1
      rw [hn] at h4
      exact h4
    have h5 := condW_of h4 (w_not (w_lt w_lit (w_len_list (w_arg rfl))))
    rw [List.length_map] at h5
    refine Nat.le_of_not_lt fun q => ?_
    have q' : (n : Int) < ((ns.length : Nat) : Int) := by omega
    first
      | (rw [decide_eq_true q'] at h5; exact absurd h5 (by decide))
      | (simp at h5; omega)
  cases hwl with
  | cons w1 w2 =>
    cases w2
    cases w1 with
    | list ho hall => exact ⟨_, _, ns, rfl, rfl, ho, ints_of_wellAll ns _ hall, hlen⟩

theorem post_true (l : OpenLaw) (args : List WData) : l.row.toRowW.claim.post args (.bool true) args = true :=
  postW_of (r := l.row.toRowW) (X := (true == true))
    (show WShape.has [] (.bool true) .bool = true by first | rfl | decide | simp [WShape.has, WShape.arms, WShape.armsAll])
    (show (WTm.eq .res (.lit (.bool true))).value [] { args := args, res := some (.bool true), after := args } = some (.bool (true == true)) from w_eq_bool (w_res rfl) w_lit) rfl

/-! ### the attachment: holds_open's last premise (the goal 'hc' behind k_head) from a wpAny of the law's body -/
theorem attach {l : OpenLaw} {n : Nat} {q : Program} {loose : List Str} {XP : (Str → Option Value) → Heap → Prop} {YP : World → Heap → Prop} {d : DefRec} {x : Str}
    (hn : l.most = some n) (hdf : d.params.defaults = [])
    (hbind : ∀ pm cd doc v : Value, bindArgs (docDef d.name d.params d.body d.scope pm cd doc) ⟨[v], []⟩ = pure [(x, v)])
    (hx : d.scope.names.lookup x = some .local ∨ d.scope.names.lookup x = some .cell)
    (hk : d.scope.kind = .function) (hco : d.scope.isCoroutine = false) (hgen : d.scope.isGenerator = false)
    (body : ∀ (w : World) (s₀ s₁ s : Shared) (mg mb : Str → Option Value) (fa : Addr) (o : Obj) (pm cd doc : Value) (a : Addr) (vs : List Value) (ns : List Int),
      Ground q loose [] XP w s₀ mg mb s₁.heap → YP w s₁.heap →
      s₁.heap.get? fa = some o → o.data = .func (docDef d.name d.params d.body d.scope pm cd doc) → s₁.heap.CodeRec cd d.name → mg d.name = some (.ref fa) →
      s₁.heap.get? a = some { cls := .type "list", data := .seq vs.toArray } → IntsAre vs ns → ns.length ≤ n →
      s.gens = #[] → s.os = s₁.os →
      Fr s₁.heap s₁.heap.objs.size s.heap (bindL (envOfC d.name d.scope s₁.heap.objs.size fa cd).kindOf [(x, .ref a)] fun _ => none) →
      Cl s₁.heap.objs.size (cellsFrom (s₁.heap.objs.size + 1) d.scope.names []) s.heap (bindC (envOfC d.name d.scope s₁.heap.objs.size fa cd).kindOf [(x, .ref a)] fun _ => none) →
      wpAny (model l.prog w) (callerA.deeper (envOfC d.name d.scope s₁.heap.objs.size fa cd)) (execs d.body (envOfC d.name d.scope s₁.heap.objs.size fa cd))
        (fun f s' => f = .ret (.bool true) ∧ OldK s₁.heap s'.heap ∧ s'.os = s₁.os ∧ AllBare s'.gens) (fun _ _ => False) s) :
    WalkO q loose XP YP l.row.toRowW d [] (fun f vs => PySem.call f vs) := by
  intro w s₀ s₁ mg mb G Y fa o pm cd doc dV kV ho hd hcd hD hmg hg args vals as hpre hlay hrd hwl hlo
  obtain rfl : dV = .none := Dflts.none hD hdf
  obtain rfl : kV = .none := Dflts.noKw hD
  obtain ⟨a, vs, ns, rfl, rfl, hobj, hints, hlen⟩ := script_of hn hpre hwl
  refine enter_call ?_
  refine call_cells_ret (o := o) (by rw [depth_caller]; decide) ho (fd_plain hd) G.T.nolimit hcd (hbind pm cd doc (.ref a)) (fun y hy => ?_) (fun h₁ tk F X => ?_) hco hgen hk
  · obtain rfl : y = (x, Value.ref a) := List.mem_singleton.mp hy
    rcases hx with e | e
    · exact .inl e
    · exact .inr ⟨e, cellsFrom_some _ _ _ (.inl e)⟩
  · refine wpAny_mono (body w s₀ s₁ { s₁ with heap := h₁, toks := tk } mg mb fa o pm cd doc a vs ns G Y ho (fd_plain hd) hcd hmg hobj hints hlen hg rfl F X) (fun f s' hq => ?_) (fun _ _ hq => hq)
    obtain ⟨rfl, h2, h3, h4⟩ := hq
    exact ⟨.inl ⟨.bool true, .bool true, [], rfl, fun _ => rfl, .bool true, post_true l _, fun _ => ⟨List.Pairwise.nil, fun _ hm => (nomatch hm)⟩⟩, h2, h3, h4⟩

/-- the same from a codeAny of the CALL (for a layer whose function contracts speak of calls) -/
theorem attach_call {l : OpenLaw} {n : Nat} {q : Program} {loose : List Str} {XP : (Str → Option Value) → Heap → Prop} {YP : World → Heap → Prop} {d : DefRec}
    (hn : l.most = some n) (hdf : d.params.defaults = [])
    (call : ∀ (w : World) (s₀ s₁ : Shared) (mg mb : Str → Option Value) (fa : Addr) (o : Obj) (pm cd doc : Value) (a : Addr) (vs : List Value) (ns : List Int),
      Ground q loose [] XP w s₀ mg mb s₁.heap → YP w s₁.heap →
      s₁.heap.get? fa = some o → o.data = .func (docDef d.name d.params d.body d.scope pm cd doc) → s₁.heap.CodeRec cd d.name → mg d.name = some (.ref fa) →
      s₁.heap.get? a = some { cls := .type "list", data := .seq vs.toArray } → IntsAre vs ns → ns.length ≤ n → s₁.gens = #[] →
      codeAny (model l.prog w) callerA (.call (.ref fa) ⟨[.ref a], []⟩) (fun r s' => r = .ok (.ret (.bool true)) ∧ OldK s₁.heap s'.heap ∧ s'.os = s₁.os ∧ AllBare s'.gens) s₁) :
    WalkO q loose XP YP l.row.toRowW d [] (fun f vs => PySem.call f vs) := by
  intro w s₀ s₁ mg mb G Y fa o pm cd doc dV kV ho hd hcd hD hmg hg args vals as hpre hlay hrd hwl hlo
  obtain rfl : dV = .none := Dflts.none hD hdf
  obtain rfl : kV = .none := Dflts.noKw hD
  obtain ⟨a, vs, ns, rfl, rfl, hobj, hints, hlen⟩ := script_of hn hpre hwl
  refine enter_call (codeAny_mono (call w s₀ s₁ mg mb fa o pm cd doc a vs ns G Y ho (fd_plain hd) hcd hmg hobj hints hlen hg) fun r s' hq => ?_)
  obtain ⟨rfl, h2, h3, h4⟩ := hq
  exact ⟨.inl ⟨.bool true, .bool true, [], rfl, fun _ => rfl, .bool true, post_true l _, fun _ => ⟨List.Pairwise.nil, fun _ hm => (nomatch hm)⟩⟩, h2, h3, h4⟩

/-- the same where the top left finished generators (o_head chose holds_openN): nothing may have changed at all and no generator may be left -/
theorem attachN {l : OpenLaw} {n : Nat} {q : Program} {loose : List Str} {XP : (Str → Option Value) → Heap → Prop} {YP : World → Heap → Prop} {d : DefRec} {x : Str}
    (hn : l.most = some n) (hdf : d.params.defaults = [])
    (hbind : ∀ pm cd doc v : Value, bindArgs (docDef d.name d.params d.body d.scope pm cd doc) ⟨[v], []⟩ = pure [(x, v)])
    (hx : d.scope.names.lookup x = some .local ∨ d.scope.names.lookup x = some .cell)
    (hk : d.scope.kind = .function) (hco : d.scope.isCoroutine = false) (hgen : d.scope.isGenerator = false)
    (body : ∀ (w : World) (s₀ s₁ s : Shared) (mg mb : Str → Option Value) (fa : Addr) (o : Obj) (pm cd doc : Value) (a : Addr) (vs : List Value) (ns : List Int),
      Ground q loose [] XP w s₀ mg mb s₁.heap → YP w s₁.heap →
      s₁.heap.get? fa = some o → o.data = .func (docDef d.name d.params d.body d.scope pm cd doc) → s₁.heap.CodeRec cd d.name → mg d.name = some (.ref fa) →
      s₁.heap.get? a = some { cls := .type "list", data := .seq vs.toArray } → IntsAre vs ns → ns.length ≤ n →
      s.gens = #[] → s.os = s₁.os →
      Fr s₁.heap s₁.heap.objs.size s.heap (bindL (envOfC d.name d.scope s₁.heap.objs.size fa cd).kindOf [(x, .ref a)] fun _ => none) →
      Cl s₁.heap.objs.size (cellsFrom (s₁.heap.objs.size + 1) d.scope.names []) s.heap (bindC (envOfC d.name d.scope s₁.heap.objs.size fa cd).kindOf [(x, .ref a)] fun _ => none) →
      wpAny (model l.prog w) (callerA.deeper (envOfC d.name d.scope s₁.heap.objs.size fa cd)) (execs d.body (envOfC d.name d.scope s₁.heap.objs.size fa cd))
        (fun f s' => f = .ret (.bool true) ∧ (∀ b o, s₁.heap.get? b = some o → s'.heap.get? b = some o) ∧ s'.os = s₁.os ∧ s'.gens = #[]) (fun _ _ => False) s) :
    WalkN q loose XP YP l.row.toRowW d [] (fun f vs => PySem.call f vs) := by
  intro w s₀ s₁ mg mb G Y fa o pm cd doc dV kV ho hd hcd hD hmg hg args vals as hpre hlay hrd hwl hlo
  obtain rfl : dV = .none := Dflts.none hD hdf
  obtain rfl : kV = .none := Dflts.noKw hD
  obtain ⟨a, vs, ns, rfl, rfl, hobj, hints, hlen⟩ := script_of hn hpre hwl
  refine enter_callW ?_
  refine call_cells_ret (o := o) (by rw [depth_caller]; decide) ho (fd_plain hd) G.T.nolimit hcd (hbind pm cd doc (.ref a)) (fun y hy => ?_) (fun h₁ tk F X => ?_) hco hgen hk
  · obtain rfl : y = (x, Value.ref a) := List.mem_singleton.mp hy
    rcases hx with e | e
    · exact .inl e
    · exact .inr ⟨e, cellsFrom_some _ _ _ (.inl e)⟩
  · refine wpAny_mono (body w s₀ s₁ { s₁ with heap := h₁, toks := tk } mg mb fa o pm cd doc a vs ns G Y ho (fd_plain hd) hcd hmg hobj hints hlen hg rfl F X) (fun f s' hq => ?_) (fun _ _ hq => hq)
    obtain ⟨rfl, h2, h3, h4⟩ := hq
    exact ⟨.inl ⟨.bool true, .bool true, [], rfl, fun _ => rfl, .bool true, post_true l _, fun _ => ⟨List.Pairwise.nil, fun _ hm => (nomatch hm)⟩⟩, h2, h3, h4⟩

/-! ### rules over ANY heap (no ledger) from facts about the written part K: the library's own take a ledger (News) for what they write -/
section
variable {prog : Program} {w : World} {A : Around} {E : Value → Shared → Prop} {s : Shared} {K : Frag}

/-- a def of the module, or a method (qual 'C.m'), entered: the frame is the next address; cells behind it -/
theorem call_fn {R : Result → Shared → Prop} {name qual : Str} {params : Arguments} {body : List Stmt} {scope : Scope} {dV kV doc pm cdv ct oc : Value} {an od : Option Addr} {osl : Array (Option Value)} {f : Addr} {args : Args} {binds : List (Str × Value)}
    (X : K.In s.heap) (hlim : s.heap.NoLimit) (ho : K.lookup f = some ⟨oc, od, .func (fnOf name qual params body scope dV kV doc pm an cdv ct), osl⟩) (hcd : codeIn K cdv qual = true) (hroom : A.depth < recursionLimit)
    (hbind : BindsTo s (fnOf name qual params body scope dV kV doc pm an cdv ct) args binds)
    (hkind : (binds.all fun y => scope.names.lookup y.1 == some .local || scope.names.lookup y.1 == some .cell) = true)
    (h : ∀ s₁, InCallC s s.heap.objs.size (bindL (envOfC qual scope s.heap.objs.size f cdv).kindOf binds fun _ => none) (cellsFrom (s.heap.objs.size + 1) scope.names [])
        (bindC (envOfC qual scope s.heap.objs.size f cdv).kindOf binds fun _ => none) s₁ →
      wpAny (model prog w) (A.deeper (envOfC qual scope s.heap.objs.size f cdv)) (execs body (envOfC qual scope s.heap.objs.size f cdv))
        (fun fl s' => R (.ok (.ret (match fl with | .ret v => v | _ => .none))) s')
        (fun e s' => wpAny (model prog w) (A.deeper (envOfC qual scope s.heap.objs.size f cdv)) (leaving (envOfC qual scope s.heap.objs.size f cdv) e) (fun _ s'' => R (.error e) s'') (fun e' s'' => R (.error e') s'') s') s₁)
    (hco : scope.isCoroutine = false) (hgen : scope.isGenerator = false) (hk : scope.kind = .function) : codeAny (model prog w) A (.call (.ref f) args) R s := by
  refine codeAny_call_function hroom (X _ _ ho) rfl hco hgen rfl (codeRec_of X hcd) (hbind _ _ _ _ ?_)
  refine wpAny_newFunctionEnv_cells hk (kindsX hkind _) fun env he s₁ x => ?_
  subst he
  exact ⟨hlim.keeps x.toInCall.keep, codeAny_func (h s₁ x)⟩

/-- C(..): dict at size, instance at size + 1, then __init__ -/
theorem make_obj {R : Result → Shared → Prop} {C fI : Addr} {rest : List Value} {kw : List (Str × Value)}
    (X : K.In s.heap) (hm : makesIn K C = true) (hi : findIn K (.ref C) "__init__" = some (some (.ref fI))) (hf : isFn K (.ref fI) = true)
    (h : codeAny (model prog w) (A.under (.builtin "type.__call__" ⟨.ref C :: rest, kw⟩)) (.call (.ref fI) ⟨.ref (s.heap.objs.size + 1) :: rest, kw⟩) (InitBack (s.heap.objs.size + 1) R)
      { s with heap := (s.heap.push emptyDict).push (instObj C s.heap.objs.size) }) : codeAny (model prog w) A (.call (.ref C) ⟨rest, kw⟩) R s := by
  obtain ⟨hh, g, d, t, os⟩ := s
  exact make_core (makes_of X hm) (looks_findIn X hi) (fun self => bind_fn X self (beq_iff_eq.mp hf)) (.inl rfl) h

/-- x.name where the instance's dict holds the name and the class does not -/
theorem get_field {x C : Addr} {ox : Obj} {es : List DictEntry} {n : Nat} {name : Str} {expr : Bool} {v : Value} {Q : Value → Shared → Prop}
    (X : K.In s.heap) (I : PySem.W.InstAt s.heap x ox C (some (dictOf es n))) (hg : plainGet K C name = true) (hh : hasDictIn K C = true) (ha : findIn K (.ref C) name = some none)
    (hl : getL name es = some (some v)) (hv : handedIn v = true) (h : Q v { s with toks := s.toks + 1 }) : wpAny (model prog w) A (getAttr (.ref x) name expr) Q E s :=
  get_value X I (plainGet_of hg).1 (findObj_own hh ha rfl hl) hv h

/-- x.m(..): the method found in the class -/
theorem get_method {x C f : Addr} {ox : Obj} {es : List DictEntry} {n : Nat} {name : Str} {pl : Sem Bool} {Q : Value × List Value → Shared → Prop}
    (X : K.In s.heap) (I : PySem.W.InstAt s.heap x ox C (some (dictOf es n))) (hg : plainGet K C name = true) (hf : findIn K (.ref C) name = some (some (.ref f))) (ht : isFn K (.ref f) = true)
    (hl : getL name es = some none) (h : Q (.ref f, [.ref x]) s) : wpAny (model prog w) A (getMethod (.ref x) name pl) Q E s :=
  method_fn X I (plainGet_of hg).1 (plainGet_of hg).2 hf (beq_iff_eq.mp ht) (by show (lookIn name (dictOf es n)).map _ = _; rw [lookIn_dict, hl]; rfl) h

/-! the whole heap as the ledger: makes every rule that writes through a ledger a rule over any heap -/
def noObjs (h : Heap) : Heap := { h with objs := #[] }
theorem noObjs_get (h : Heap) (b : Addr) : (noObjs h).get? b = none := by
  cases e : (noObjs h).get? b with
  | none => rfl
  | some o => exact absurd (Heap.lt_size e) (Nat.not_lt_zero _)
def ledger (h : Heap) (L d : Addr) : List (Addr × Obj) := (List.range h.objs.size).filterMap fun a => if a = L ∨ a = d then none else (h.get? a).map fun o => (a, o)
theorem mem_ledger {h : Heap} {L d a : Addr} {o : Obj} : (a, o) ∈ ledger h L d ↔ a ≠ L ∧ a ≠ d ∧ h.get? a = some o := by
  unfold ledger
  rw [List.mem_filterMap]
  constructor
  · rintro ⟨b, _, e⟩
    split at e
    · cases e
    · rename_i hb
      obtain ⟨o', ho, e'⟩ := Option.map_eq_some_iff.mp e
      cases e'
      exact ⟨fun q => hb (.inl q), fun q => hb (.inr q), ho⟩
  · rintro ⟨n1, n2, ho⟩
    refine ⟨a, List.mem_range.mpr (Heap.lt_size ho), ?_⟩
    rw [if_neg (show ¬ (a = L ∨ a = d) from fun q => q.elim n1 n2), ho] <;> rfl
theorem news_ledger {h : Heap} {L d : Addr} {od : Obj} (hne : d ≠ L) (ho : h.get? d = some od) : News (noObjs h) L h ([] ++ (d, od) :: ledger h L d) := by
  rintro ⟨a, o⟩ hp
  rcases List.mem_cons.mp hp with e | hp
  · cases e
    exact ⟨ho, hne, noObjs_get _ _⟩
  · obtain ⟨n1, n2, e⟩ := mem_ledger.mp hp
    exact ⟨e, n1, noObjs_get _ _⟩
theorem fr_all {h : Heap} {L : Addr} {m : Str → Option Value} (n : h.Ns L m) : Fr (noObjs h) L h m :=
  ⟨n, fun b o e => (by rw [noObjs_get] at e; cases e), Nat.zero_le _⟩
/-- Upd of the head entry (for append_K, setItem_K ..) -/
theorem upd_ledger {h : Heap} {L d : Addr} {o o' : Obj} : Upd d o o' ((d, o) :: ledger h L d) ((d, o') :: ledger h L d) :=
  .head fun ⟨_, _⟩ hp => (mem_ledger.mp hp).2.1

/-- x.name = v over any heap: L is any namespace of the heap (the frame's, say): its map stays, its object is not told; all else but the dict stays -/
theorem set_field {x C dx L : Addr} {ox : Obj} {m : Str → Option Value} {es es' : List DictEntry} {n n' : Nat} {name : Str} {v : Value} {Q : Unit → Shared → Prop}
    (X : K.In s.heap) (I : PySem.W.InstAt s.heap x ox C (some (dictOf es n))) (hd : ox.dict = some dx) (hL : s.heap.Ns L m) (hne : dx ≠ L)
    (hs : findIn K (.ref C) "__setattr__" = some (some (.builtin "object.__setattr__"))) (hp : plainOver K C = true) (ht : takerIn K C name = some none) (hh : hasDictIn K C = true) (hl : (getL name es).isSome = true)
    (e : (putL name (PyData.keyHash w.params name) (.str name (s.toks + 1)) v es, putN name es n) = (es', n')) (hz : es'.length ≤ 1000)
    (h : ∀ h' : Heap, h'.Ns L m → h'.get? dx = some (dictOf es' n') → (∀ b o, b ≠ dx → b ≠ L → s.heap.get? b = some o → h'.get? b = some o) → Q () { s with heap := h', toks := s.toks + 2 }) :
    wpAny (model prog w) A (setAttr (.ref x) name v) Q E s := by
  obtain ⟨e1, e2⟩ := Prod.mk.inj e
  have hdx : s.heap.get? dx = some (dictOf es n) := by
    have := I.dict
    rw [hd] at this
    exact this
  refine set_plain X I hs (osa_dict (s := { s with toks := s.toks + 1 }) (h₀ := noObjs s.heap) (L := L) (m := m) (od := dictOf es n) (od' := dictOf es' n') (es := es') (n := n') (pre := []) (post := ledger s.heap L dx)
    (fr_all hL) (news_ledger hne hdx) X I hd hp ht hh hl (fun _ q => nomatch q) (fun ⟨_, _⟩ q => (mem_ledger.mp q).2.1) (by rw [putName_dict, e1, e2]) rfl hz fun h' F' N' => ?_)
  exact h h' F'.ns (N'.get (List.Mem.head _)) fun b o n1 n2 ho => N'.get (List.Mem.tail _ (mem_ledger.mpr ⟨n2, n1, ho⟩))
end
end Att

namespace L2
open PySem PySem.Spec PyProof.Rows

theorem vals_ints : ∀ {vs : List Value} {ns : List Int}, IntsAre vs ns → Vals (ns.map V.int) vs
  | _, _, .nil => .nil
  | _, _, .cons n t h => .cons ⟨t, rfl⟩ (vals_ints h)

/-- nothing is tracked but the script, known to the object (or it is an object of the module) -/
def Only (H : Hp) : Prop := ∀ b, H b = none ∨ ∃ o xs, H b = some (.frz o (.lst xs))

/-- THE HEAD: the law's promise, at the heap behind the top. F, the promise of the law's def, may use that base is part of the heap (so K.In base, base.Ns mainGlobals mg stand in Mod) -/
theorem law_call {P : Program} {w : World} {K : PySem.W.Frag} {mg mb : Str → Option Value} {CX : CXT} {k : Nat} {fa a : Addr} {fd : FuncData} {x : Str} {sp : Sp} {s₁ : Shared} {vs : List Value} {ns : List Int}
    (KX : K.In s₁.heap) (hns : s₁.heap.Ns mainGlobals mg) (hb : s₁.heap.Ns builtinsNs mb) (hbb : ∀ x : Str, x ≠ "__name__" → mb x = bootBuiltins x) (hlim : s₁.heap.NoLimit) (hg : s₁.gens = #[])
    (ha : s₁.heap.get? a = some { cls := .type "list", data := .seq vs.toArray }) (hi : IntsAre vs ns) (hl : ns.length ≤ sizeLine) (hr : Room k callerA)
    (F : ∀ base : Heap, K.In base → base.Ns mainGlobals mg → FnOk P w K mg base CX k fa fd [x] sp) (hbind : ∀ (s : Shared) (u : Value), BindsTo s fd ⟨[u], []⟩ [(x, u)])
    (hsp : ∀ H : Hp, Only H → SqL K H a (ns.map V.int) → sp [.ref a] H (fun v _ => v = .bl true) fun _ _ _ => False)
    (hCX : ∀ H e s', CX [] H s₁ (fun _ _ _ => False) e s' → False) :
    codeAny (model P w) callerA (.call (.ref fa) ⟨[.ref a], []⟩) (fun r s' => r = .ok (.ret (.bool true)) ∧ OldK s₁.heap s'.heap ∧ s'.os = s₁.os ∧ AllBare s'.gens) s₁ := by
  have rv := vals_ints hi
  have lenV := hi.length
  -- from an abstract heap in which nothing but the script may be tracked
  have core : ∀ H : Hp, Only H → SqL K H a (ns.map V.int) → HOk P w H s₁.heap → (∀ b, H b ≠ none → b = a) → (H a ≠ none → K.lookup a = none) →
      codeAny (model P w) callerA (.call (.ref fa) ⟨[.ref a], []⟩) (fun r s' => r = .ok (.ret (.bool true)) ∧ OldK s₁.heap s'.heap ∧ s'.os = s₁.os ∧ AllBare s'.gens) s₁ := by
    intro H hO hS hok hA hK
    have base_of : ∀ {b : Addr} {o : Obj}, s₁.heap.get? b = some o → H b = none → (hidT s₁.heap H).get? b = some o := fun e n => hidT_get e n
    have noA : ∀ {b : Addr} {o : Obj} {es : Array DictEntry} {ep : Nat}, s₁.heap.get? b = some o → o.data = .dict es ep → H b = none := fun {b o es ep} e d => by
      cases q : H b with
      | none => rfl
      | some u =>
        have e' : b = a := hA b (by rw [q]; simp)
        subst e'
        rw [ha] at e; cases e
        have d' : Data.seq vs.toArray _ = Data.dict es ep := d
        cases d'
    have nsK : ∀ {b : Addr} {m : Str → Option Value}, s₁.heap.Ns b m → (hidT s₁.heap H).Ns b m := fun {b m} ⟨o, es, ep, e, d, r⟩ => ⟨o, es, ep, base_of e (noA e d), d, r⟩
    have hKb : K.In (hidT s₁.heap H) := fun b o e => base_of (KX b o e) (by
      cases q : H b with
      | none => rfl
      | some u =>
        have e' : b = a := hA b (by rw [q]; simp)
        subst e'
        rw [hK (by rw [q]; simp)] at e; cases e)
    have hM : Mod K mg (hidT s₁.heap H) := ⟨hKb, nsK hns, ⟨mb, nsK hb, hbb⟩, let ⟨mc, h1, h2⟩ := hlim; ⟨mc, nsK h1, h2⟩⟩
    have e0 : Env0 P w K mg (hidT s₁.heap H) callerA [] s₁ H := ⟨rfl, hM, fun b o e => of_hidT e, Nat.le_of_eq (hidT_size _ _), trivial, fun b hb => absurd (show b ∈ ([] : List Addr) from hb) (by simp), hok, .of_eq hg⟩
    refine codeAny_mono ((F _ hKb (nsK hns)).run callerA [] s₁ H ⟨[.ref a], []⟩ [.ref a] [.ref a] _ _ hr e0 (hbind s₁ (.ref a)) (.cons rfl .nil) (hsp H hO hS)) fun r s' h => ?_
    cases r with
    | error e => exact (hCX H e s' h).elim
    | ok fl =>
      cases fl with
      | next => exact False.elim h
      | brk => exact False.elim h
      | cont => exact False.elim h
      | ret u =>
        obtain ⟨v, H', os, bare, un, hok', r', q⟩ := h
        have q' : v = .bl true := q
        subst q'
        obtain rfl : u = Value.bool true := r'
        refine ⟨rfl, OldK.of_keep fun b o e => ?_, os, bare⟩
        cases q : H b with
        | none => exact un.keep b o e q (by intro z; exact absurd (show b ∈ ([] : List Addr) from z) (by simp)) (by simp)
        | some u =>
          rcases hO b with z | ⟨ob, xs, z⟩
          · rw [q] at z; cases z
          · have z2 := un.frzs b ob _ z
            obtain ⟨e1, _⟩ := hok b _ z
            obtain ⟨e2, _⟩ := hok' b _ z2
            rw [e] at e1; cases e1
            exact e2
  cases hk : K.lookup a with
  | some o =>
    -- the script is one of the module's own objects
    have e := KX a o hk
    rw [ha] at e
    cases e
    refine core (fun _ => none) (fun _ => .inl rfl) (.inr ⟨_, vs.toArray, _, hk, rfl, rfl, rfl, by rw [List.size_toArray, lenV]; exact hl, by simpa using rv⟩) (fun b u z => by have z' : (none : Option HO) = some u := z; cases z') (fun b z => absurd rfl z) fun z => absurd rfl z
  | none =>
    refine core (fun b => if b = a then some (.frz { cls := .type "list", data := .seq vs.toArray } (.lst (ns.map V.int))) else none) (fun b => ?_) (.inl (.inr ⟨{ cls := .type "list", data := .seq vs.toArray }, if_pos rfl⟩)) (fun b u z => ?_) (fun b z => ?_) fun _ => hk
    · by_cases hb : b = a
      · exact .inr ⟨_, _, if_pos hb⟩
      · exact .inl (if_neg hb)
    · by_cases hb : b = a
      · have z' := (if_pos hb).symm.trans z
        cases z'
        subst hb
        exact ⟨ha, by rw [List.length_map]; exact hl, vs, _, rv, ha⟩
      · have z' := (if_neg hb).symm.trans z
        cases z'
    · by_cases hb : b = a
      · exact hb
      · exact absurd (if_neg hb) z
end L2

namespace L2
open PySem PySem.Spec PyProof.Rows

abbrev KOf {K : PySem.W.Frag} {h : Heap} (_ : K.In h) : PySem.W.Frag := K

/-- the goal that k_head leaves (case hc), from the law's promise. F gives the function object fd (K's own) once, then the promise over every base -/
theorem walk_of {l : PySem.W.OpenLaw} {n k : Nat} {q : Program} {loose : List Str} {XP : (Str → Option Value) → Heap → Prop} {YP : World → Heap → Prop} {d : DefRec} {K : Params → PySem.W.Frag} {CX : World → CXT} {sp : World → Sp} {x : Str}
    (hn : l.most = some n) (hn2 : n ≤ sizeLine) (hdf : d.params.defaults = []) (hr : Room k callerA)
    (hY : ∀ (w : World) (h : Heap), YP w h → (K w.params).In h)
    (F : ∀ (w : World) (mg : Str → Option Value) (fa : Addr) (h : Heap), (K w.params).In h → h.Ns mainGlobals mg → mg d.name = some (.ref fa) →
      ∃ fd : FuncData, (∀ (s : Shared) (u : Value), BindsTo s fd ⟨[u], []⟩ [(x, u)]) ∧
        ∀ base : Heap, (K w.params).In base → base.Ns mainGlobals mg → FnOk l.prog w (K w.params) mg base (CX w) k fa fd [x] (sp w))
    (hsp : ∀ (w : World) (H : Hp) (a : Addr) (ns : List Int), ns.length ≤ n → Only H → SqL (K w.params) H a (ns.map V.int) → sp w [.ref a] H (fun v _ => v = .bl true) fun _ _ _ => False)
    (hCX : ∀ (w : World) (H : Hp) (s : Shared) (e : Value) (s' : Shared), CX w [] H s (fun _ _ _ => False) e s' → False) :
    PySem.W.WalkO q loose XP YP l.row.toRowW d [] (fun f vs => PySem.call f vs) := by
  refine Att.attach_call hn hdf fun w s₀ s₁ mg mb fa o pm cd doc a vs ns G Y ho hd hcd hmg hobj hints hlen hg => ?_
  have KX := hY w _ Y
  obtain ⟨fd, hb, hF⟩ := F w mg fa _ KX G.T.g hmg
  exact law_call KX G.T.g G.T.b G.T.builtins G.T.nolimit hg hobj hints (Nat.le_trans hlen hn2) hr hF hb (fun H hO hS => hsp w H a ns hlen hO hS) fun H e s' => hCX w H s₁ e s'
/-- the same where the promise hangs on the written part alone: (sp := My.sp_law), no hole under a binder -/
theorem walk_ofK {l : PySem.W.OpenLaw} {n k : Nat} {q : Program} {loose : List Str} {XP : (Str → Option Value) → Heap → Prop} {YP : World → Heap → Prop} {d : DefRec} {K : Params → PySem.W.Frag} {CX : CXT} {sp : PySem.W.Frag → Sp} {x : Str}
    (hn : l.most = some n) (hn2 : n ≤ sizeLine) (hdf : d.params.defaults = []) (hr : Room k callerA)
    (hY : ∀ (w : World) (h : Heap), YP w h → (K w.params).In h)
    (F : ∀ (w : World) (mg : Str → Option Value) (fa : Addr) (h : Heap), (K w.params).In h → h.Ns mainGlobals mg → mg d.name = some (.ref fa) →
      ∃ fd : FuncData, (∀ (s : Shared) (u : Value), BindsTo s fd ⟨[u], []⟩ [(x, u)]) ∧
        ∀ base : Heap, (K w.params).In base → base.Ns mainGlobals mg → FnOk l.prog w (K w.params) mg base CX k fa fd [x] (sp (K w.params)))
    (hsp : ∀ (K : PySem.W.Frag) (H : Hp) (a : Addr) (ns : List Int), ns.length ≤ n → Only H → SqL K H a (ns.map V.int) → sp K [.ref a] H (fun v _ => v = .bl true) fun _ _ _ => False)
    (hCX : ∀ (H : Hp) (s : Shared) (e : Value) (s' : Shared), CX [] H s (fun _ _ _ => False) e s' → False) :
    PySem.W.WalkO q loose XP YP l.row.toRowW d [] (fun f vs => PySem.call f vs) :=
  walk_of (K := K) (CX := fun _ => CX) (sp := fun w => sp (K w.params)) hn hn2 hdf hr hY F (fun w H a ns h1 h2 h3 => hsp (K w.params) H a ns h1 h2 h3) fun _ H s e s' => hCX H s e s'
end L2

/- THE LAST THEOREM (shape; LID, My.* are yours):
   My.Adr: a structure of the addresses that your layer names (classes, functions); My.Txt K t: a structure (Prop) of the equations over K;
   My.txt_mk : {K} {implicit addresses ..} (e1 : nsIn K mainGlobals "law" = some (some (.ref f))) (e2 : K.lookup f = some ⟨oc, od, .func (fnOf "law" "law" params body scope dV kV doc pm an cdv ct), sl⟩) (e3 : codeIn K cdv "law" = true) .. : ∃ t, My.Txt K t

set_option maxRecDepth 100000 in
set_option maxHeartbeats 0 in
theorem PySem.Challenge.cw_LID_holds : PySem.Challenge.rw_LID.Holds := by
  w_on; o_law; k_head; (case hw => w_witness2)
  k_fill
  refine L2.walk_of (l := PySem.Challenge.rw_LID) (n := 63) (k := 40) (x := "script") (CX := fun w => ..) (sp := fun _ => My.sp_law) rfl (by decide) rfl ⟨rfl, by decide, by decide⟩ (fun w h Y => PySem.W.kIn_of Y) ?F ?S ?C
  case F =>
    intro w mg fa h KX G hmg
    have T : ∃ t, My.Txt (L2.KOf KX) t := by
      dsimp only [L2.KOf]                          -- K must stand as «<heap const> w.params» for k_is
      refine' My.txt_mk ?e1 ?e2 ?e3 ..
      (case e1 => PySem.W.k_is)                    -- in the order: a name -> its address -> its object -> its parts
      (case e2 => PySem.W.k_is)
      ..
    obtain ⟨t, T⟩ := T
    have e0 := hmg.symm.trans (PySem.W.mg_of KX G T.law)
    cases e0                                       -- fa is the law's own address
    exact ⟨_, fun s u => .of_eq rfl, fun base kb nb => My.law_fn T kb nb⟩     -- if «.of_eq rfl» comes too early: refine' ⟨_, ?b, fun base kb nb => My.law_fn T kb nb⟩; exact fun s u => .of_eq rfl
  case S => exact fun w H a ns hl hO hS => ..
  case C => exact ..
(the tactic k_is has no namespace: write k_is) -/

/-! SHORT WORDS over the layer: a def of the text, its body, what a loop and a test want. -/
namespace L2
open PySem PySem.Spec PyProof.Rows

/-! ### the text by places -/
/-- the j-th statement of a class's body -/
def inClass (s : Stmt) (j : Nat) : Stmt := match s with
  | .ClassDef _ _ _ body _ _ _ _ _ _ _ => body.getD j (.Pass ⟨0, 0, 0, 0⟩)
  | _ => .Pass ⟨0, 0, 0, 0⟩
def defArgs (s : Stmt) : Arguments := match s with
  | .FunctionDef _ a _ _ _ _ _ _ _ _ => a
  | _ => { posonlyargs := [], args := [], vararg := none, kwonlyargs := [], kw_defaults := [], kwarg := none, defaults := [] }
def defBody (s : Stmt) : List Stmt := match s with
  | .FunctionDef _ _ b _ _ _ _ _ _ _ => b
  | _ => []
def defScope (s : Stmt) : Scope := match s with
  | .FunctionDef _ _ _ _ _ _ sc _ _ _ => sc
  | _ => { kind := .function, names := [], isGenerator := false, isCoroutine := false }

/-! ### no exception leaves a def -/
abbrev CX0 : CXT := fun _ _ _ _ _ _ => False
abbrev E0 : XK := fun _ _ _ => False
theorem pass0 {X : Cx} : Passes CX0 X E0 := fun _ _ _ _ _ _ _ h => h.elim

/-! ### a def (or method) of the text as it stands behind the top -/
structure Fun (K : PySem.W.Frag) (x qual : Str) (st : Stmt) (f : Addr) (fd : FuncData) : Prop where
  ex : ∃ (oc : Value) (od : Option Addr) (kV doc pm : Value) (an : Option Addr) (cdv ct : Value) (osl : Array (Option Value)),
    fd = PySem.W.fnOf x qual (defArgs st) (defBody st) (defScope st) .none kV doc pm an cdv ct ∧ K.lookup f = some ⟨oc, od, .func fd, osl⟩ ∧ PySem.W.codeIn K cdv qual = true
  kp : PySem.W.keepIn K (.ref f) = true
section
variable {P : Program} {w : World} {K : PySem.W.Frag} {mg : Str → Option Value} {base : Heap}
/-- THE RULE for a def: its body as a term of rules, and the reading of that term -/
theorem Fun.ok {x qual : Str} {st : Stmt} {f : Addr} {fd : FuncData} {N ps : List Str} {k : Nat} {sp : Sp} (F : Fun K x qual st f fd) (S : FnScope N ps (defScope st)) (len : ∀ vs H Q E, sp vs H Q E → vs.length = ps.length)
    (hbody : ∀ (cdv : Value) (A : Around) (outer : List Env) (s : Shared) (H : Hp) (vs : List V) (Q : VK) (E : XK), Room k (A.deeper (envOfC qual (defScope st) s.heap.objs.size f cdv)) → sp vs H Q E →
      ∃ t, PSs (cxOf CX0 P w K mg base N qual (defScope st) f cdv A outer s H E).nox (defBody st) t ∧ t { nx := fun _ H' => Q .non H', rt := Q } (start N vs) H) : FnOk P w K mg base CX0 (k + 1) f fd ps sp := by
  obtain ⟨oc, od, kV, doc, pm, an, cdv, ct, osl, rfl, lk, hcd⟩ := F.ex
  refine fn_of lk hcd S len fun A outer s H vs Q E hr hsp => ?_
  obtain ⟨t, h, q⟩ := hbody cdv A outer s H vs Q E hr hsp
  exact ⟨t, h.nox, q⟩
/-- how its arguments bind (no defaults): h is «fun _ _ _ _ _ _ us hl => match us, hl with | [_, _], _ => rfl», one _ a parameter -/
theorem Fun.binds {x qual : Str} {st : Stmt} {f : Addr} {fd : FuncData} {ps : List Str} (F : Fun K x qual st f fd)
    (h : ∀ (kV doc pm : Value) (an : Option Addr) (cdv ct : Value) (us : List Value), us.length = ps.length → bindArgs (PySem.W.fnOf x qual (defArgs st) (defBody st) (defScope st) .none kV doc pm an cdv ct) ⟨us, []⟩ = pure (ps.zip us)) : Binds K fd ps [] := by
  obtain ⟨oc, od, kV, doc, pm, an, cdv, ct, osl, rfl, lk, hcd⟩ := F.ex
  exact .all (h kV doc pm an cdv ct)
theorem fun_mk {x qual : Str} {st : Stmt} {f : Addr} {oc : Value} {od an : Option Addr} {osl : Array (Option Value)} {kV doc pm cdv ct : Value} (l : K.lookup f = some ⟨oc, od, .func (PySem.W.fnOf x qual (defArgs st) (defBody st) (defScope st) .none kV doc pm an cdv ct), osl⟩)
    (c : PySem.W.codeIn K cdv qual = true) (k : PySem.W.keepIn K (.ref f) = true) : Fun K x qual st f (PySem.W.fnOf x qual (defArgs st) (defBody st) (defScope st) .none kV doc pm an cdv ct) := ⟨⟨oc, od, kV, doc, pm, an, cdv, ct, osl, rfl, l, c⟩, k⟩
end
theorem hu_of {A : Around} {k : Nat} (hr : Room k A) : A.units + 1 < cLine := Nat.lt_of_le_of_lt (Nat.add_le_add_left (by decide : 1 ≤ 64) _) hr.units
theorem small1000 {n : Nat} (h : n ≤ 1000) : n < sizeLine := Nat.lt_of_le_of_lt h (by decide)

/-! ### expressions in short: the name that stands in the i-th slot -/
section
variable {X : Cx}
theorem pv (i : Nat) {x : Str} {pos : Pos} (hN : X.N[i]? = some x := by rfl) (hv : Vis X.env.scope x := by first | exact Or.inl rfl | exact Or.inr (Or.inl rfl) | exact Or.inr (Or.inr rfl)) (hd : (x == ("__debug__" : Str)) = false := by decide)
    (hcd : (x == ("__classdict__" : Str)) = false := by decide) : PE X (.Name x pos) (tVar i) := pe_var hN hv hd hcd
end

/-! ### tests -/
theorem iteF {A B : Prop} (h : B) : if false = true then A else B := by
  rw [if_neg Bool.false_ne_true]
  exact h
theorem iteT {A B : Prop} (h : A) : if true = true then A else B := by
  rw [if_pos rfl]
  exact h
theorem ite2 {c A B : Prop} [Decidable c] (h1 : c → A) (h2 : ¬ c → B) : if c then A else B := by
  by_cases h : c
  · rw [if_pos h]
    exact h1 h
  · rw [if_neg h]
    exact h2 h
theorem iteNS {c A B : Prop} [Decidable c] (hc : c) (h : B) : if (!decide c) = true then A else B := by
  rw [decide_eq_true hc]
  exact iteF h

/-! ### heaps -/
/-- all that was tracked is as it was -/
def Same (H H' : Hp) : Prop := ∀ b o, H b = some o → H' b = some o
theorem Same.refl (H : Hp) : Same H H := fun _ _ h => h
theorem Same.trans {H H1 H2 : Hp} (a : Same H H1) (b : Same H1 H2) : Same H H2 := fun c o h => b c o (a c o h)
theorem Same.free {H H' : Hp} (e : Same H H') {l : Addr} (h : H' l = Option.none) : H l = Option.none := by
  cases q : H l with
  | none => rfl
  | some o =>
    rw [e l o q] at h
    cases h
theorem Same.seq {K : PySem.W.Frag} {H H' : Hp} {a : Addr} {xs : List V} (e : Same H H') (h : SqL K H a xs) : SqL K H' a xs := by
  rcases h with (h | ⟨o, h⟩) | h
  · exact .inl (.inl (e _ _ h))
  · exact .inl (.inr ⟨o, e _ _ h⟩)
  · exact .inr h

end L2

end

section
/-! The two cuttings of a text into words, over plain lists of codes: the program's, and the law's sign by sign; they are one. -/
namespace K10
abbrev Tx := List Nat
def figs : Tx := [48, 49, 50, 51, 52, 53, 54, 55, 56, 57]
def smalls : Tx := [97, 98, 99, 100, 101, 102, 103, 104, 105, 106, 107, 108, 109, 110, 111, 112, 113, 114, 115, 116, 117, 118, 119, 120, 121, 122]
def greats : Tx := [65, 66, 67, 68, 69, 70, 71, 72, 73, 74, 75, 76, 77, 78, 79, 80, 81, 82, 83, 84, 85, 86, 87, 88, 89, 90]
def gaps : Tx := [32, 9, 10]
def sgns : Tx := [40, 41, 123, 125, 44, 46, 59, 61, 43, 45, 42, 47, 60]
def isRow (c : Nat) : Bool := smalls.contains c || figs.contains c || greats.contains c
def isNum : Tx → Bool
  | [] => false
  | c :: r => decide (r.length ≤ 8) && (if c = 48 then r.isEmpty else (c :: r).all fun x => figs.contains x)
def isNm : Tx → Bool
  | [] => false
  | c :: r => decide (r.length ≤ 7) && (smalls.contains c && (c :: r).all fun x => smalls.contains x || figs.contains x)

theorem dropRow_le (t : Tx) : (t.dropWhile isRow).length ≤ t.length := (List.dropWhile_sublist isRow).length_le

abbrev Res := Except Nat (List Tx)
def pre (ws : List Tx) : Res → Res
  | .ok r => .ok (ws ++ r)
  | .error k => .error k
theorem pre_nil (r : Res) : pre [] r = r := by cases r <;> rfl
theorem pre_pre (a b : List Tx) (r : Res) : pre a (pre b r) = pre (a ++ b) r := by cases r <;> simp [pre]

def cutP : Tx → Nat → Res
  | [], _ => .ok []
  | c :: r, k =>
    if gaps.contains c then cutP r (k + 1)
    else if isRow c then
      if isNum ((c :: r).takeWhile isRow) || isNm ((c :: r).takeWhile isRow) then pre [(c :: r).takeWhile isRow] (cutP (r.dropWhile isRow) (k + ((c :: r).takeWhile isRow).length)) else .error k
    else if sgns.contains c then pre [[c]] (cutP r (k + 1)) else .error k
termination_by t => t.length
decreasing_by
  · simp
  · have := dropRow_le r; simp; omega
  · simp

/-- the law's test of a row that isn't empty -/
def lawRow : Tx → Bool
  | [] => true
  | c :: r =>
    if figs.contains c then decide (r.length < 9) && ((decide (c ≠ 48) || r.isEmpty) && (c :: r).all fun x => figs.contains x)
    else decide (r.length < 8) && (c :: r).all fun x => smalls.contains x || figs.contains x

/-- the law's loop: the signs that are left (the last one a blank), the place, the row, the words found -/
def lawGo (al : Nat → Bool) : Tx → Nat → Tx → List Tx → Res
  | [], _, _, found => .ok found
  | c :: r, k, row, found =>
    if al c then lawGo al r (k + 1) (row ++ [c]) found
    else if row ≠ [] ∧ lawRow row = false then .error (k - row.length)
    else
      let f2 := if row = [] then found else found ++ [row]
      if sgns.contains c then lawGo al r (k + 1) [] (f2 ++ [[c]])
      else if gaps.contains c then lawGo al r (k + 1) [] f2
      else .error k

theorem row_bound {c : Nat} (h : isRow c = true) : c < 128 := by
  simp only [isRow, Bool.or_eq_true, List.contains_eq_mem, decide_eq_true_eq, smalls, figs, greats] at h
  rcases h with (h | h) | h <;> (repeat (cases h with | head => decide | tail _ h => ?_)) <;> cases h
theorem contains_bound {l : Tx} (hl : ∀ x ∈ l, x < 128) {c : Nat} (h : l.contains c = true) : c < 128 := hl c (by simpa using h)
theorem sgn_lt {c : Nat} (h : sgns.contains c = true) : c < 128 := contains_bound (by decide) h
theorem gap_lt {c : Nat} (h : gaps.contains c = true) : c < 128 := contains_bound (by decide) h
theorem sgn_not {c : Nat} (h : sgns.contains c = true) : isRow c = false ∧ gaps.contains c = false := by
  have hb := sgn_lt h
  revert h; revert c; decide
theorem gap_not {c : Nat} (h : gaps.contains c = true) : isRow c = false ∧ sgns.contains c = false := by
  have hb := gap_lt h
  revert h; revert c; decide
theorem row_not {c : Nat} (h : isRow c = true) : gaps.contains c = false ∧ sgns.contains c = false := by
  have hb := row_bound h
  revert h; revert c; decide
theorem fig_small {c : Nat} (h : figs.contains c = true) : smalls.contains c = false ∧ greats.contains c = false := by
  have hb : c < 128 := contains_bound (by decide) h
  revert h; revert c; decide
theorem great_not {c : Nat} (h : greats.contains c = true) : smalls.contains c = false ∧ figs.contains c = false := by
  have hb : c < 128 := contains_bound (by decide) h
  revert h; revert c; decide

/-- a row of letters and figures is a word, by the law's test, just where it is one by the program's -/
theorem lawRow_eq {w : Tx} (hne : w ≠ []) (hall : w.all isRow = true) : lawRow w = (isNum w || isNm w) := by
  cases w with
  | nil => exact absurd rfl hne
  | cons c r =>
    have hc : isRow c = true := (List.all_eq_true.mp hall) c (List.mem_cons_self ..)
    have e9 : decide (r.length < 9) = decide (r.length ≤ 8) := by simp [Nat.lt_succ_iff]
    have e8 : decide (r.length < 8) = decide (r.length ≤ 7) := by simp [Nat.lt_succ_iff]
    simp only [lawRow, isNum, isNm]
    rw [e9, e8]
    cases hf : figs.contains c with
    | true =>
      have hs := (fig_small hf).1
      rw [hs, Bool.false_and, Bool.and_false, Bool.or_false, if_pos rfl]
      by_cases h0 : c = 48
      · subst h0
        cases r with
        | nil => decide
        | cons d r => simp
      · simp [h0]
    | false =>
      have h0 : c ≠ 48 := by intro e; subst e; revert hf; decide
      have hff : ((c :: r).all fun x => figs.contains x) = false := by rw [List.all_cons, hf, Bool.false_and]
      rw [if_neg Bool.false_ne_true, if_neg h0, hff, Bool.and_false, Bool.false_or]
      cases hs : smalls.contains c with
      | true => simp only [Bool.true_and]
      | false =>
        rw [List.all_cons, hs, hf]
        simp

theorem lawGo_row (al : Nat → Bool) : ∀ (r : Tx) (rest : Tx) (k : Nat) (row : Tx) (found : List Tx), r.all al = true → lawGo al (r ++ rest) k row found = lawGo al rest (k + r.length) (row ++ r) found
  | [], rest, k, row, found, _ => by simp
  | c :: r, rest, k, row, found, h => by
    rw [List.all_cons, Bool.and_eq_true] at h
    show lawGo al (c :: (r ++ rest)) k row found = _
    rw [lawGo, if_pos h.1, lawGo_row al r rest (k + 1) (row ++ [c]) found h.2]
    have e1 : k + 1 + r.length = k + (c :: r).length := by simp; omega
    have e2 : row ++ [c] ++ r = row ++ c :: r := by simp
    rw [e1, e2]
/-- at a sign that belongs to no row, a row that is a word goes to what was found -/
theorem lawGo_end (al : Nat → Bool) {c : Nat} {rest : Tx} {k : Nat} {row : Tx} {found : List Tx} (hc : al c = false) (hne : row ≠ []) :
    lawGo al (c :: rest) k row found = if lawRow row = true then lawGo al (c :: rest) k [] (found ++ [row]) else .error (k - row.length) := by
  by_cases h : lawRow row = true
  · simp [lawGo, hc, hne, h]
  · simp [lawGo, hc, hne, h]

theorem take_drop_row (t : Tx) : t.takeWhile isRow ++ t.dropWhile isRow = t := List.takeWhile_append_dropWhile
theorem take_all (t : Tx) : (t.takeWhile isRow).all isRow = true := by
  induction t with
  | nil => rfl
  | cons c r ih =>
    cases h : isRow c with
    | true => simp [h, ih]
    | false => simp [h]
theorem drop_head (t : Tx) : ∀ c r, t.dropWhile isRow = c :: r → isRow c = false := by
  induction t with
  | nil => intro c r h; cases h
  | cons d q ih =>
    intro c r h
    cases hd : isRow d with
    | true => rw [List.dropWhile_cons, if_pos hd] at h; exact ih c r h
    | false => rw [List.dropWhile_cons, if_neg (by rw [hd]; exact Bool.false_ne_true)] at h; cases h; exact hd

theorem all_congr {al : Nat → Bool} : ∀ (w : Tx), (∀ c ∈ w, al c = isRow c) → w.all al = w.all isRow
  | [], _ => rfl
  | c :: r, h => by rw [List.all_cons, List.all_cons, h c (List.mem_cons_self ..), all_congr r fun x hx => h x (List.mem_cons_of_mem _ hx)]

theorem go_eq (al : Nat → Bool) (hb : al 32 = false) : ∀ (n : Nat) (t : Tx) (k : Nat) (found : List Tx), t.length ≤ n → (∀ c ∈ t, al c = isRow c) → lawGo al (t ++ [32]) k [] found = pre found (cutP t k)
  | _, [], k, found, _, _ => by
    show lawGo al [32] k [] found = _
    rw [lawGo, if_neg (by rw [hb]; exact Bool.false_ne_true), if_neg (fun q => q.1 rfl), cutP]
    show (if sgns.contains 32 then _ else if gaps.contains 32 then lawGo al [] (k + 1) [] found else _) = _
    rw [if_neg (by decide), if_pos (by decide), lawGo]
    simp [pre]
  | 0, c :: r, _, _, h, _ => by simp at h
  | n + 1, c :: r, k, found, h, hal => by
    have hc := hal c (List.mem_cons_self ..)
    have hr : r.length ≤ n := by simp at h; omega
    have halr : ∀ x ∈ r, al x = isRow x := fun x hx => hal x (List.mem_cons_of_mem _ hx)
    cases hrow : isRow c with
    | false =>
      rw [hrow] at hc
      have step : lawGo al (c :: r ++ [32]) k [] found = if sgns.contains c then lawGo al (r ++ [32]) (k + 1) [] (found ++ [[c]]) else if gaps.contains c then lawGo al (r ++ [32]) (k + 1) [] found else .error k := by
        show lawGo al (c :: (r ++ [32])) k [] found = _
        rw [lawGo, if_neg (by rw [hc]; exact Bool.false_ne_true), if_neg (fun q => q.1 rfl)]
        simp only [if_true]
      rw [step, cutP]
      cases hg : gaps.contains c with
      | true =>
        rw [if_neg (by rw [(gap_not hg).2]; exact Bool.false_ne_true), if_pos rfl, if_pos rfl]
        exact go_eq al hb n r (k + 1) found hr halr
      | false =>
        cases hs : sgns.contains c with
        | true =>
          simp only [hrow, Bool.false_eq_true, if_false, if_true]
          rw [go_eq al hb n r (k + 1) _ hr halr, pre_pre]
        | false =>
          simp only [hrow, Bool.false_eq_true, if_false]
          rfl
    | true =>
      have hne : (c :: r).takeWhile isRow ≠ [] := by rw [List.takeWhile_cons, if_pos hrow]; simp
      have hW := take_all (c :: r)
      have hal2 : ((c :: r).takeWhile isRow).all al = true := by
        rw [all_congr _ fun x hx => hal x ((List.takeWhile_sublist isRow).subset hx)]
        exact hW
      have hD : (c :: r).dropWhile isRow = r.dropWhile isRow := by rw [List.dropWhile_cons, if_pos hrow]
      have hlen : (r.dropWhile isRow).length ≤ n := Nat.le_trans (dropRow_le r) hr
      have halD : ∀ x ∈ r.dropWhile isRow, al x = isRow x := fun x hx => halr x ((List.dropWhile_sublist isRow).subset hx)
      have e : c :: r ++ [32] = (c :: r).takeWhile isRow ++ (r.dropWhile isRow ++ [32]) := by
        rw [← hD, ← List.append_assoc, take_drop_row]
      have ih := go_eq al hb n (r.dropWhile isRow) (k + ((c :: r).takeWhile isRow).length) (found ++ [(c :: r).takeWhile isRow]) hlen halD
      rw [e, lawGo_row al _ _ k [] found hal2, List.nil_append, cutP, if_neg (by rw [(row_not hrow).1]; exact Bool.false_ne_true), if_pos hrow, ← lawRow_eq hne hW]
      have key : ∀ d q, r.dropWhile isRow ++ [32] = d :: q → al d = false := by
        intro d q hq
        cases hdr : r.dropWhile isRow with
        | nil => rw [hdr] at hq; cases hq; exact hb
        | cons d' q' =>
          rw [hdr] at hq
          cases hq
          rw [halD d (by rw [hdr]; exact List.mem_cons_self ..)]
          exact drop_head r d q' hdr
      cases hq : r.dropWhile isRow ++ [32] with
      | nil => simp at hq
      | cons d q =>
        rw [lawGo_end al (key d q hq) hne]
        rw [hq] at ih
        by_cases hl : lawRow ((c :: r).takeWhile isRow) = true
        · rw [if_pos hl, if_pos hl, ih, pre_pre]
        · rw [if_neg hl, if_neg hl, Nat.add_sub_cancel]
          rfl
theorem cut_eq (al : Nat → Bool) (hb : al 32 = false) (t : Tx) (hal : ∀ c ∈ t, al c = isRow c) : lawGo al (t ++ [32]) 0 [] [] = cutP t 0 := by
  rw [go_eq al hb t.length t 0 [] (Nat.le_refl _) hal, pre_nil]
/-! the long texts -/
theorem cutP_a (t : Tx) (k : Nat) : cutP (97 :: 32 :: t) k = pre [[97]] (cutP t (k + 2)) := by
  have e : (97 :: 32 :: t).takeWhile isRow = [97] := by
    rw [List.takeWhile_cons, if_pos (by decide), List.takeWhile_cons, if_neg (by decide)]
  have d : (32 :: t).dropWhile isRow = 32 :: t := by rw [List.dropWhile_cons, if_neg (by decide)]
  rw [cutP, e, d]
  have c : cutP (32 :: t) (k + [97].length) = cutP t (k + 2) := by rw [cutP, if_pos (by decide)]; rfl
  rw [c, if_neg (by decide), if_pos (by decide), if_pos (by decide)]
theorem cutP_as (t : Tx) : ∀ (n k : Nat), cutP ((List.replicate n [97, 32]).flatten ++ t) k = pre (List.replicate n [97]) (cutP t (k + 2 * n))
  | 0, k => by simp [pre_nil]
  | n + 1, k => by
    have e : (List.replicate (n + 1) [97, 32]).flatten ++ t = 97 :: 32 :: ((List.replicate n [97, 32]).flatten ++ t) := by
      rw [List.replicate_succ, List.flatten_cons]; rfl
    rw [e, cutP_a, cutP_as t n, pre_pre, show k + 2 + 2 * n = k + 2 * (n + 1) by omega]
    rfl
theorem cutP_b (k : Nat) : cutP [98] k = .ok [[98]] := by
  rw [cutP, if_neg (by decide), if_pos (by decide), if_pos (by decide)]
  show pre [[98]] (cutP [] _) = _
  rw [cutP]; rfl
theorem cutP_b1 (k : Nat) : cutP [98, 32] k = .ok [[98]] := by
  rw [cutP, if_neg (by decide), if_pos (by decide), if_pos (by decide)]
  show pre [[98]] (cutP [32] _) = _
  rw [cutP, if_pos (by decide), cutP]; rfl
theorem take_rep (n c : Nat) (h : isRow c = true) : (List.replicate n c).takeWhile isRow = List.replicate n c := by
  induction n with
  | zero => rfl
  | succ n ih => rw [List.replicate_succ, List.takeWhile_cons, if_pos h, ih]
theorem cutP_figs (n k : Nat) (h : 10 ≤ n) : cutP (List.replicate n 55) k = .error k := by
  obtain ⟨m, rfl⟩ : ∃ m, n = m + 1 := ⟨n - 1, by omega⟩
  have e := take_rep (m + 1) 55 (by decide)
  rw [List.replicate_succ] at e ⊢
  rw [cutP, e, if_neg (by decide), if_pos (by decide)]
  have h1 : isNum (55 :: List.replicate m 55) = false := by
    simp only [isNum, List.length_replicate]
    have : ¬ m ≤ 8 := by omega
    simp [this]
  have h2 : isNm (55 :: List.replicate m 55) = false := by
    simp only [isNm, List.length_replicate]
    have : ¬ m ≤ 7 := by omega
    simp [this]
  rw [h1, h2]
  rfl
theorem cutP_a_figs (n : Nat) (h : 10 ≤ n) : cutP (97 :: 32 :: List.replicate n 55) 0 = .error 2 := by
  rw [cutP_a, cutP_figs n _ h]; rfl
end K10

end

section
set_option linter.all false
set_option maxRecDepth 100000
set_option maxHeartbeats 4000000
/-! Texts as lists of codes: what the library's text functions are over the codes. -/
namespace K10
open PySem
abbrev cds (x : Str) : Tx := x.cps.toList
theorem cds_len (x : Str) : (cds x).length = x.length := by simp [cds, Str.length]
theorem cds_ext {x y : Str} (h : cds x = cds y) : x = y := by
  obtain ⟨⟨a⟩⟩ := x
  obtain ⟨⟨b⟩⟩ := y
  have h' : a = b := h
  rw [h']
theorem cds_app (x y : Str) : cds (x ++ y) = cds x ++ cds y := by
  show (x.cps ++ y.cps).toList = _
  rw [Array.toList_append]
theorem cds_slice (x : Str) {a b : Nat} (hab : a ≤ b) (hb : b ≤ x.length) : cds (Txt.slice x (some (a : Int)) (some (b : Int))) = ((cds x).drop a).take (b - a) := by
  have h := StrLaws.sliceText_nat x hab hb
  have h2 : Txt.slice x (some (a : Int)) (some (b : Int)) = StrLaws.sliceText x (some (a : Int)) (some (b : Int)) := rfl
  rw [h2, h]
theorem cds_slice_to (x : Str) {b : Nat} (hb : b ≤ x.length) : cds (Txt.slice x none (some (b : Int))) = (cds x).take b := by
  have h := StrLaws.sliceText_to (x := x) (j := (b : Int)) ⟨by omega, by rw [show x.cps.toList.length = x.length from cds_len x]; omega⟩
  have h2 : Txt.slice x none (some (b : Int)) = StrLaws.sliceText x none (some (b : Int)) := rfl
  rw [h2, h]
  simp [cds]
theorem cds_slice_from (x : Str) {a : Nat} (ha : a ≤ x.length) : cds (Txt.slice x (some (a : Int)) none) = (cds x).drop a := by
  have h := StrLaws.sliceText_from (x := x) (i := (a : Int)) ⟨by omega, by rw [show x.cps.toList.length = x.length from cds_len x]; omega⟩
  have h2 : Txt.slice x (some (a : Int)) none = StrLaws.sliceText x (some (a : Int)) none := rfl
  rw [h2, h]
  have hz : (x.cps.toList.drop a).length ≤ ((x.cps.toList.length : Int) - (a : Int)).toNat := by
    rw [List.length_drop]
    omega
  show List.take _ _ = _
  rw [Int.toNat_natCast, List.take_of_length_le hz]
theorem foldl_cps (c : Array Nat) : ∀ (k : Nat) (acc : Array Nat), ((List.replicate k c).foldl (· ++ ·) acc).toList = acc.toList ++ (List.replicate k c.toList).flatten
  | 0, acc => by simp
  | k + 1, acc => by
    rw [List.replicate_succ, List.foldl_cons, foldl_cps c k, List.replicate_succ, List.flatten_cons, Array.toList_append, List.append_assoc]
theorem cds_mul (x : Str) (k : Int) : cds (Txt.mul x k) = (List.replicate k.toNat (cds x)).flatten := by
  unfold Txt.mul
  by_cases h1 : k < 1
  · rw [if_pos h1, show k.toNat = 0 by omega]
    rfl
  · rw [if_neg h1]
    by_cases h2 : (k == 1 || x.length == 0) = true
    · rw [if_pos h2]
      rcases Bool.or_eq_true_iff.mp h2 with h | h
      · have : k = 1 := by simpa using h
        subst this
        simp [cds]
      · have hx : (cds x).length = 0 := by rw [cds_len]; simpa using h
        have hx' : cds x = [] := List.eq_nil_of_length_eq_zero hx
        rw [hx']
        simp
    · rw [if_neg h2]
      show ((List.replicate k.toNat x.cps).foldl (· ++ ·) #[]).toList = _
      rw [foldl_cps]
      simp [cds]
theorem foldl_glue : ∀ (ps : List Str) (acc : Array Nat), (ps.foldl (fun acc p => acc ++ Str.empty.cps ++ p.cps) acc).toList = acc.toList ++ (ps.map cds).flatten
  | [], acc => by simp
  | p :: r, acc => by
    rw [List.foldl_cons, foldl_glue r, List.map_cons, List.flatten_cons]
    simp [cds, Str.empty]
theorem cds_join (ys : List Str) : cds (Txt.join "" ys) = (ys.map cds).flatten := by
  show ((ys.drop 1).foldl (fun acc p => acc ++ Str.empty.cps ++ p.cps) (ys.headD Str.empty).cps).toList = _
  rw [foldl_glue]
  cases ys with
  | nil => rfl
  | cons y r => simp [cds]
theorem alnum_ascii {c : Nat} (h : c < 128) : Unicode.isAlnum c = isRow c := by
  revert h; revert c; decide +kernel
theorem isalnum_one (c : Nat) : Txt.isalnum ⟨#[c]⟩ = Unicode.isAlnum c := by
  simp [Txt.isalnum, Str.length]
theorem isalnum_all {x : Str} (hA : ∀ c ∈ cds x, c < 128) : Txt.isalnum x = (!(cds x).isEmpty && (cds x).all isRow) := by
  have hlen : decide (x.length > 0) = !(cds x).isEmpty := by
    rw [← cds_len]
    cases cds x <;> simp
  have hall : x.cps.all Unicode.isAlnum = (cds x).all isRow := by
    rw [← Array.all_toList]
    exact all_congr (al := Unicode.isAlnum) (cds x) fun c hc => alnum_ascii (hA c hc)
  unfold Txt.isalnum
  rw [hlen, hall]
end K10

end

section
set_option linter.all false
set_option maxRecDepth 100000
set_option maxHeartbeats 4000000
/-! An exception of an own class whose __init__ is a def of the text: how it is made. -/
namespace PySem.XO
open PySem

section
variable {prog : Program} {w : World} {A : Around} {E : Value → Shared → Prop} {h : Heap} {g : Array GenState} {d : Drawn} {t : Nat} {os : OsState}
variable {nm q : Str} {C N : Addr} {bs bm bmB : List Value} {hdct : Bool} {sn : List Str} {sub : List Value} {ab : Bool} {col : Option Bool} {dd : Option Addr} {k0 k1 k2 k3 k5 : Option Value} {B Bn newId nid initId inN : String} {bmN : List Value}

/-- the heap behind __new__: the arguments' tuple, the exception -/
def born (h : Heap) (C : Addr) (rest : List Value) : Heap :=
  (h.push { cls := .type "tuple", data := .seq rest.toArray }).push { cls := .ref C, data := .fields #[.ref h.objs.size, .none, .none, .none, .bool false, .none] }
theorem born_keeps {rest : List Value} {b : Addr} {o : Obj} (e : h.get? b = some o) : (born h C rest).get? b = some o := Heap.get?_push_of_some _ (Heap.get?_push_of_some _ e)
theorem born_self {rest : List Value} : (born h C rest).get? (h.objs.size + 1) = some { cls := .ref C, data := .fields #[.ref h.objs.size, .none, .none, .none, .bool false, .none] } := by
  unfold born
  heap_get

theorem type_call_own (Fn : ExcBaseFacts Bn newId inN bmN) (hBn : bmB.contains (.type Bn) = true) (F : ExcBaseFacts B nid initId bmB) (T : OwnTail h bmB bm) {mN : Str → Option Value} {rest : List Value} {f : Addr} {ofn : Obj} {Q : Fin → Shared → Prop}
    (hC : h.get? C = some (excClassObj nm q C N bs bm hdct sn sub ab col dd k0 k1 k2 k3 k5 newId)) (hn : h.Ns N mN) (hi : mN "__init__" = some (.ref f)) (hf : h.get? f = some ofn) (hfc : ofn.cls = .type "function")
    (hq : codeAny (model prog w) A (.call (.ref f) ⟨.ref (h.objs.size + 1) :: rest, []⟩) (fun r s' => match r with | .ok (.ret v) => v = .none ∧ Q (.done (.ret (.ref (h.objs.size + 1)))) s' | .ok _ => False | .error x => E x s') ⟨born h C rest, g, d, t, os⟩)
    (hrest : rest.length ≤ sizeLine) :
    wpAny (model prog w) A (Builtin.«type.__call__» ⟨.ref C :: rest, []⟩) Q E ⟨h, g, d, t, os⟩ := by
  repeat (first | with_reducible refine wpAny_madeBy_exc hC ?_ | with_reducible refine wpAny_loadPart_at hC ?_ | wp_step)
  refine codeAny_call_builtin_code (Code.quiet_builtin _ Fn.quiet) (wpAny_check_new_subU Fn hBn T hC (codeAny_exc_new_subU Fn hBn F T hC ?_ hrest))
  have hC1 := born_keeps (C := C) (rest := rest) hC
  have hn1 : (born h C rest).Ns N mN := hn.keeps fun b o e => born_keeps e
  have self := born_self (h := h) (C := C) (rest := rest)
  have hsub : (Value.ref C :: bm).contains (.ref C) = true := by simp
  have T1 : OwnTail (born h C rest) bmB bm := T.keeps fun b o e => born_keeps e
  change wpAny _ _ _ _ _ ⟨born h C rest, g, d, t, os⟩
  unfold isInstance
  repeat (first | with_reducible refine wpAny_loadPart_at self ?_ | (with_reducible refine wpAny_isSubtype_exc hC1 ?_; rw [hsub]) | wp_step)
  show wpAny _ _ (typeLookup (.ref C) _) _ _ _
  refine wpAny_typeLookup_tail hC1 hn1 T1 F.mroIs F.init.lookup ?_
  rw [hi]
  refine wpAny_holding (wpAny_bind (wpAny_bindSpecial_def (born_keeps hf) hfc ?_))
  refine wpAny_bind (wpAny_call (codeAny_mono hq fun r s' hr => ?_))
  cases r with
  | error x => exact hr
  | ok fl =>
    cases fl with
    | ret v =>
      obtain ⟨rfl, hr⟩ := hr
      wp_walk
      exact hr
    | next => exact hr.elim
    | brk => exact hr.elim
    | cont => exact hr.elim

theorem call_own (Fn : ExcBaseFacts Bn newId inN bmN) (hBn : bmB.contains (.type Bn) = true) (F : ExcBaseFacts B nid initId bmB) (T : OwnTail h bmB bm) {mN : Str → Option Value} {rest : List Value} {f : Addr} {ofn : Obj} {Q : Value → Shared → Prop}
    (hC : h.get? C = some (excClassObj nm q C N bs bm hdct sn sub ab col dd k0 k1 k2 k3 k5 newId)) (hn : h.Ns N mN) (hi : mN "__init__" = some (.ref f)) (hf : h.get? f = some ofn) (hfc : ofn.cls = .type "function")
    (hq : codeAny (model prog w) (A.under (.builtin "type.__call__" ⟨.ref C :: rest, []⟩)) (.call (.ref f) ⟨.ref (h.objs.size + 1) :: rest, []⟩) (fun r s' => match r with | .ok (.ret v) => v = .none ∧ Q (.ref (h.objs.size + 1)) s' | .ok _ => False | .error x => E x s') ⟨born h C rest, g, d, t, os⟩)
    (hrest : rest.length ≤ sizeLine) :
    wpAny (model prog w) A (call (.ref C) rest) Q E ⟨h, g, d, t, os⟩ := by
  have look := tc_lookup
  have bnd := tc_bind (.ref C)
  have isT : (⟨h, g, d, t, os⟩ : Shared).TypeIs (.ref C) "type" := ⟨_, hC, rfl⟩
  refine wpAny_call (codeAny_of_tree ?_)
  change wpAny _ _ (callAny (.ref C) _) _ _ _
  repeat (any_goals (first | with_reducible refine wpAny_loadPart_at hC ?_ | assumption | wp_step))
  refine ⟨rfl, codeAny_call_builtin_at (Code.quiet_builtin _ (by decide +kernel)) entry_typeCall (wpAny_check_type_call_sub hC ?_)⟩
  exact type_call_own Fn hBn F T hC hn hi hf hfc hq hrest
end

section
variable {M : Model} {A : Around} {E : Value → Shared → Prop} {env : Env} {s : Shared}
variable {nm q : Str} {C N : Addr} {bs bm : List Value} {hdct : Bool} {sn : List Str} {sub : List Value} {ab : Bool} {col : Option Bool} {dd : Option Addr} {k0 k1 k2 k3 k5 : Option Value} {newId : String}
/-- raise of a made exception, with or without a dict of its own -/
theorem raise_obj {x : Sem Value} {Q : Flow → Shared → Prop} (hbase : bm.contains (.type "BaseException") = true) (hh : A.handled = none)
    (h : wpAny M A x (fun v s1 => ∃ e ed vs sl, v = .ref e ∧ s1.heap.get? C = some (excClassObj nm q C N bs bm hdct sn sub ab col dd k0 k1 k2 k3 k5 newId) ∧
      s1.heap.get? e = some { cls := .ref C, dict := ed, data := .fields vs, slots := sl } ∧ vs[1]? = some .none ∧ E (.ref e) s1) E s) :
    wpAny M A (raiseStmt env (some x) none) Q E s := by
  have sup : (Value.ref C :: bm).contains (.type "BaseException") = true := by rw [List.contains_cons, hbase, Bool.or_true]
  unfold raiseStmt
  refine wpAny_bind (wpAny_mono h (fun v s1 h1 => ?_) fun _ _ z => z)
  obtain ⟨e, ed, vs, sl, rfl, hC, he, h1', hE⟩ := h1
  obtain ⟨hp, g, d, tk, os⟩ := s1
  have hC' : hp.get? C = some (excClassObj nm q C N bs bm hdct sn sub ab col dd k0 k1 k2 k3 k5 newId) := hC
  have he' : hp.get? e = some { cls := .ref C, dict := ed, data := .fields vs, slots := sl } := he
  repeat (first | with_reducible refine wpAny_loadPart_at he' ?_ | with_reducible refine wpAny_loadPart_at hC' ?_ | (with_reducible refine wpAny_isSubtype_exc hC' ?_; rw [sup]) | wp_step)
  rw [h1']
  refine wpAny_pure (wpAny_ite ?_)
  rw [if_neg (by decide)]
  exact wpAny_pure (wpAny_raiseNew_none hh hE)
end

/-! ### an exception that flies, its own dict kept -/
/-- e stands with its class, its dict and its fields; its newest traceback entry (if any) is at rest (fl = none) or in flight at a frame -/
def Tb (base h : Heap) (e : Addr) (vs : Array Value) (fl : Value) : Prop :=
  ∃ T oT ts, vs[1]? = some (.ref T) ∧ base.get? T = none ∧ T ≠ e ∧ h.get? T = some oT ∧ oT.data = .fields ts ∧ ts[3]? = some fl
/-- what noteFrame leaves -/
def Noted (base : Heap) (l : List Env) (e : Addr) (cls : Value) (ed : Option Addr) (sl : Array (Option Value)) (fl : Value) (h h' : Heap) : Prop :=
  base.StaysIn h' ∧ h'.FunFrames base l ∧ (∃ vs, h'.get? e = some { cls := cls, dict := ed, data := .fields vs, slots := sl } ∧ Tb base h' e vs fl) ∧ h.UpToSlots h'

section
variable {M : Model} {A : Around} {E : Value → Shared → Prop} {s : Shared}
theorem entry_d {base : Heap} {env : Env} {outer : List Env} {L e : Addr} {cls head : Value} {ed : Option Addr} {vs : Array Value} {sl : Array (Option Value)} {had : Bool} {Q : Unit → Shared → Prop}
    (hfr : A.frames = some (env :: outer)) (hl : s.heap.FunFrames base (env :: outer)) (hf : env.frame = some L) (hkb : base.StaysIn s.heap) (hen : base.get? e = none)
    (he : s.heap.get? e = some { cls := cls, dict := ed, data := .fields vs, slots := sl }) (hsz : 1 < vs.size)
    (hQ : ∀ h', Noted base (env :: outer) e cls ed sl (rawInt L) s.heap h' → Q () { s with heap := h' }) :
    wpAny M A (do let a ← frameOf env; let pl ← entryPlaceOf L had; let b ← EntryCells.newEntry head a .none (rawInt L) .none pl; setField (.ref e) 1 b) Q E s := by
  have hne : e ∉ (env :: outer).filterMap (·.frame) := fun hm => by
    obtain ⟨_, o, ho, hnf⟩ := hl.mem hm
    rw [he] at ho
    cases ho
    exact hnf vs rfl
  refine wpAny_bind (wpAny_frameOf_fun hfr hl hf fun h1 hs1 => wpAny_bind (wpAny_entryPlaceOf fun pl hpl => ?_))
  unfold EntryCells.newEntry newFields
  refine wpAny_bind (wpAny_newObj_type ?_ (hpl.sizeOk5 _ _ _ _ _))
  have e1 : h1.get? e = some { cls := cls, dict := ed, data := .fields vs, slots := sl } := (hs1.2.1 e hne).trans he
  have kb1 : base.StaysIn h1 := fun b o hb => (hs1.2.1 b fun hm => by rw [(hl.mem hm).1] at hb; cases hb).trans (hkb b o hb)
  generalize htr : ({ cls := .type "traceback", dict := none, data := .fields ([head, .ref L, .none, rawInt L, .none] ++ (if pl.isEmpty then List.replicate 6 Value.none else pl)).toArray } : Obj) = otr
  have e2 : (h1.push otr).get? e = _ := Heap.get?_push_of_some otr e1
  have hTe : h1.objs.size ≠ e := Nat.ne_of_gt (Heap.lt_size e1)
  refine wpAny_setField e2 rfl hsz (hQ _ ?_)
  have keep : ∀ b o, b ≠ e → h1.get? b = some o → ((h1.push otr).update e (Obj.mapFields (·.setIfInBounds 1 (Value.ref h1.objs.size)))).get? b = some o := fun b o hb hbo => by
    rw [Heap.get?_update_other _ _ (Ne.symm hb)]
    exact Heap.get?_push_of_some _ hbo
  have notRec : ∀ b o, s.heap.get? b = some o → (∀ ws, o.data ≠ .fields ws) → b ≠ e := fun b o hb hnf z => by
    rw [z, he] at hb
    cases hb
    exact hnf vs rfl
  have slots : ∀ b o, s.heap.get? b = some o → (∀ ws, o.data ≠ .fields ws) → ∃ s', ((h1.push otr).update e (Obj.mapFields (·.setIfInBounds 1 (Value.ref h1.objs.size)))).get? b = some { o with slots := s' } := fun b o hb hnf => by
    obtain ⟨s', q⟩ := hs1.2.2 b o hb
    exact ⟨s', keep b _ (notRec b o hb hnf) q⟩
  refine ⟨fun b o hb => keep b o (fun z => by rw [z, hen] at hb; cases hb) (kb1 b o hb), hl.of_keeps fun b o hb hnf => ?_, ⟨vs.setIfInBounds 1 (.ref h1.objs.size), ?_, h1.objs.size, otr, _, ?_, kb1.fresh, hTe, ?_, by rw [← htr], ?_⟩, slots⟩
  · obtain ⟨s', q⟩ := slots b o hb hnf
    exact ⟨_, q, rfl⟩
  · exact Heap.get?_update_self _ e2 rfl
  · simp [hsz]
  · rw [Heap.get?_update_other _ _ (Ne.symm hTe)]
    refine Heap.get?_push_size _ ?_
    rw [← htr]
    rfl
  · first | (simp; done) | (rcases hpl with rfl | ⟨_, _, _, _, _, _, _, rfl⟩ <;> simp)

/-- noteFrame at a frame that the exception comes to -/
theorem note_d {base : Heap} {env : Env} {outer : List Env} {L e : Addr} {cls : Value} {ed : Option Addr} {vs : Array Value} {sl : Array (Option Value)} {Q : Unit → Shared → Prop}
    (hfr : A.frames = some (env :: outer)) (hl : s.heap.FunFrames base (env :: outer)) (hf : env.frame = some L) (hkb : base.StaysIn s.heap) (hen : base.get? e = none)
    (he : s.heap.get? e = some { cls := cls, dict := ed, data := .fields vs, slots := sl }) (htb : vs[1]? = some .none ∨ Tb base s.heap e vs .none)
    (hQ : ∀ h', Noted base (env :: outer) e cls ed sl (rawInt L) s.heap h' → Q () { s with heap := h' }) : wpAny M A (noteFrame (.ref e) env) Q E s := by
  unfold noteFrame
  simp only [hf]
  rcases htb with h1 | ⟨T, oT, ts, h1, hnT, hTe, hT, hdT, h3⟩
  · have hsz := (Array.getElem?_eq_some_iff.mp h1).1
    refine wpAny_bind (wpAny_field he rfl h1 ?_)
    rw [if_neg (by decide)]
    exact entry_d hfr hl hf hkb hen he hsz hQ
  · have hsz := (Array.getElem?_eq_some_iff.mp h1).1
    refine wpAny_bind (wpAny_field he rfl h1 ?_)
    rw [if_pos (show (Value.ref T != Value.none) = true from by simp)]
    refine wpAny_bind (wpAny_field hT hdT h3 ?_)
    rw [if_neg (show ¬ ((Value.none == rawInt L) = true) from by simp [rawInt])]
    refine wpAny_bind (wpAny_setField hT hdT (Array.getElem?_eq_some_iff.mp h3).1 ?_)
    have other : ∀ b, b ≠ T → (s.heap.update T (Obj.mapFields (·.setIfInBounds 3 Value.none))).get? b = s.heap.get? b := fun b hb => Heap.get?_update_other _ _ (Ne.symm hb)
    have notT : ∀ b o, s.heap.get? b = some o → (∀ ws, o.data ≠ .fields ws) → b ≠ T := fun b o hb hnf z => by
      rw [z, hT] at hb
      cases hb
      exact hnf ts hdT
    refine entry_d (s := { s with heap := s.heap.update T (Obj.mapFields (·.setIfInBounds 3 Value.none)) }) hfr (hl.of_keeps fun b o hb hnf => ⟨o, (other b (notT b o hb hnf)).trans hb, rfl⟩) hf
      (fun b o hb => (other b fun z => by rw [z, hnT] at hb; cases hb).trans (hkb b o hb)) hen ((other e (Ne.symm hTe)).trans he) hsz fun h' hN => hQ h' ⟨hN.1, hN.2.1, hN.2.2.1, fun b o hb hnf => ?_⟩
    exact hN.2.2.2 b o ((other b (notT b o hb hnf)).trans hb) hnf
/-- noteFrame at the frame where it is noted already -/
theorem note_again {base : Heap} {env : Env} {L e : Addr} {cls : Value} {ed : Option Addr} {vs : Array Value} {sl : Array (Option Value)} {Q : Unit → Shared → Prop} (hf : env.frame = some L)
    (he : s.heap.get? e = some { cls := cls, dict := ed, data := .fields vs, slots := sl }) (htb : Tb base s.heap e vs (rawInt L)) (hQ : Q () s) : wpAny M A (noteFrame (.ref e) env) Q E s := by
  obtain ⟨T, oT, ts, h1, hnT, hTe, hT, hdT, h3⟩ := htb
  unfold noteFrame
  simp only [hf]
  refine wpAny_bind (wpAny_field he rfl h1 ?_)
  rw [if_pos (show (Value.ref T != Value.none) = true from by simp)]
  refine wpAny_bind (wpAny_field hT hdT h3 ?_)
  rw [if_pos (show (rawInt L == rawInt L) = true from by simp)]
  exact wpAny_pure hQ
/-- setFlight e none -/
theorem land_d {base : Heap} {l : List Env} {e : Addr} {cls fl : Value} {ed : Option Addr} {vs : Array Value} {sl : Array (Option Value)} {Q : Unit → Shared → Prop}
    (hl : s.heap.FunFrames base l) (hkb : base.StaysIn s.heap) (he : s.heap.get? e = some { cls := cls, dict := ed, data := .fields vs, slots := sl }) (htb : Tb base s.heap e vs fl)
    (hQ : ∀ h', Noted base l e cls ed sl .none s.heap h' → Q () { s with heap := h' }) : wpAny M A (setFlight (.ref e) none) Q E s := by
  obtain ⟨T, oT, ts, h1, hnT, hTe, hT, hdT, h3⟩ := htb
  have hsz := (Array.getElem?_eq_some_iff.mp h3).1
  have other : ∀ b, b ≠ T → (s.heap.update T (Obj.mapFields (·.setIfInBounds 3 ((none : Option Addr).elim Value.none fun f => rawInt f)))).get? b = s.heap.get? b := fun b hb => Heap.get?_update_other _ _ (Ne.symm hb)
  have notT : ∀ b o, s.heap.get? b = some o → (∀ ws, o.data ≠ .fields ws) → b ≠ T := fun b o hb hnf z => by
    rw [z, hT] at hb
    cases hb
    exact hnf ts hdT
  unfold setFlight
  refine wpAny_bind (wpAny_field he rfl h1 ?_)
  rw [if_pos (show (Value.ref T != Value.none) = true from by simp)]
  refine wpAny_setField hT hdT hsz (hQ _ ⟨fun b o hb => (other b fun z => by rw [z, hnT] at hb; cases hb).trans (hkb b o hb), hl.of_keeps fun b o hb hnf => ⟨o, (other b (notT b o hb hnf)).trans hb, rfl⟩, ⟨vs, (other e (Ne.symm hTe)).trans he, T, _, _, h1, hnT, hTe, Heap.get?_update_self _ hT (Obj.isFreed_of_fields (Obj.data_mapFields hdT _)), Obj.data_mapFields hdT _, by simp [hsz]⟩, fun b o hb hnf => ⟨o.slots, (other b (notT b o hb hnf)).trans hb⟩⟩)
/-- an exception leaves a frame -/
theorem leave_d {base : Heap} {env : Env} {outer : List Env} {L e : Addr} {cls : Value} {ed : Option Addr} {vs : Array Value} {sl : Array (Option Value)} {Q : Unit → Shared → Prop}
    (hfr : A.frames = some (env :: outer)) (hl : s.heap.FunFrames base (env :: outer)) (hf : env.frame = some L) (hkb : base.StaysIn s.heap) (hen : base.get? e = none)
    (he : s.heap.get? e = some { cls := cls, dict := ed, data := .fields vs, slots := sl }) (htb : vs[1]? = some .none ∨ Tb base s.heap e vs .none)
    (hQ : ∀ h', Noted base outer e cls ed sl .none s.heap h' → Q () { s with heap := h' }) : wpAny M A (leaving env (.ref e)) Q E s := by
  unfold leaving
  refine wpAny_bind (note_d hfr hl hf hkb hen he htb fun h1 n1 => ?_)
  obtain ⟨k1, f1, ⟨vs1, e1, t1⟩, u1⟩ := n1
  refine land_d (s := { s with heap := h1 }) f1 k1 e1 t1 fun h2 n2 => ?_
  obtain ⟨k2, f2, x2, u2⟩ := n2
  exact hQ h2 ⟨k2, f2.2.2, x2, u1.trans u2⟩
end
end PySem.XO

end

section
set_option linter.all false
set_option maxRecDepth 100000
set_option maxHeartbeats 4000000
/-! An exception that flies, told as what the heap keeps. -/
namespace PySem.XF
open PySem
/-- kept: all but the exception, the records at ex, the slots of the frames -/
structure Wake (fs ex : List Addr) (a : Addr) (h h' : Heap) : Prop where
  keep : ∀ b o, h.get? b = some o → b ∉ fs → b ≠ a → b ∉ ex → h'.get? b = some o
  slot : ∀ b o, h.get? b = some o → b ∈ fs → b ≠ a → b ∉ ex → ∃ sl, h'.get? b = some { o with slots := sl }
theorem Wake.refl (fs ex : List Addr) (a : Addr) (h : Heap) : Wake fs ex a h h := ⟨fun _ _ e _ _ _ => e, fun _ o e _ _ _ => ⟨o.slots, e⟩⟩
theorem Wake.trans {fs ex : List Addr} {a : Addr} {h h1 h2 : Heap} (x : Wake fs ex a h h1) (y : Wake fs ex a h1 h2) : Wake fs ex a h h2 :=
  ⟨fun b o e n1 n2 n3 => y.keep b o (x.keep b o e n1 n2 n3) n1 n2 n3, fun b o e n1 n2 n3 => by
    obtain ⟨sl, e1⟩ := x.slot b o e n1 n2 n3
    obtain ⟨sl2, e2⟩ := y.slot b _ e1 n1 n2 n3
    exact ⟨sl2, e2⟩⟩
/-- its newest traceback entry is T, in flight at fl -/
def TbAt (h : Heap) (vs : Array Value) (T : Addr) (fl : Value) : Prop := vs[1]? = some (.ref T) ∧ ∃ oT ts, h.get? T = some oT ∧ oT.data = .fields ts ∧ ts[3]? = some fl
section
variable {M : Model} {A : Around} {E : Value → Shared → Prop} {s : Shared}
theorem entry_w {base : Heap} {env : Env} {outer : List Env} {L e : Addr} {cls head : Value} {ed : Option Addr} {vs : Array Value} {sl : Array (Option Value)} {had : Bool} {Q : Unit → Shared → Prop}
    (hfr : A.frames = some (env :: outer)) (hl : s.heap.FunFrames base (env :: outer)) (hf : env.frame = some L)
    (he : s.heap.get? e = some { cls := cls, dict := ed, data := .fields vs, slots := sl }) (hsz : 1 < vs.size)
    (hQ : ∀ h' vs' T, Wake ((env :: outer).filterMap (·.frame)) [] e s.heap h' → s.heap.objs.size ≤ T → h'.get? e = some { cls := cls, dict := ed, data := .fields vs', slots := sl } → TbAt h' vs' T (rawInt L) → Q () { s with heap := h' }) :
    wpAny M A (do let a ← frameOf env; let pl ← entryPlaceOf L had; let b ← EntryCells.newEntry head a .none (rawInt L) .none pl; setField (.ref e) 1 b) Q E s := by
  have hne : e ∉ (env :: outer).filterMap (·.frame) := fun hm => by
    obtain ⟨_, o, ho, hnf⟩ := hl.mem hm
    rw [he] at ho
    cases ho
    exact hnf vs rfl
  refine wpAny_bind (wpAny_frameOf_fun hfr hl hf fun h1 hs1 => wpAny_bind (wpAny_entryPlaceOf fun pl hpl => ?_))
  unfold EntryCells.newEntry newFields
  refine wpAny_bind (wpAny_newObj_type ?_ (hpl.sizeOk5 _ _ _ _ _))
  have e1 : h1.get? e = some { cls := cls, dict := ed, data := .fields vs, slots := sl } := (hs1.2.1 e hne).trans he
  generalize htr : ({ cls := .type "traceback", dict := none, data := .fields ([head, .ref L, .none, rawInt L, .none] ++ (if pl.isEmpty then List.replicate 6 Value.none else pl)).toArray } : Obj) = otr
  have e2 : (h1.push otr).get? e = _ := Heap.get?_push_of_some otr e1
  have hTe : h1.objs.size ≠ e := Nat.ne_of_gt (Heap.lt_size e1)
  refine wpAny_setField e2 rfl hsz (hQ _ (vs.setIfInBounds 1 (.ref h1.objs.size)) h1.objs.size ⟨fun b o e n1 n2 _ => ?_, fun b o e n1 n2 _ => ?_⟩ (Nat.le_of_eq hs1.1.symm) (Heap.get?_update_self _ e2 rfl) ⟨by simp [hsz], otr, ([head, .ref L, .none, rawInt L, .none] ++ (if pl.isEmpty then List.replicate 6 Value.none else pl)).toArray, ?_, by rw [← htr], ?_⟩)
  · rw [Heap.get?_update_other _ _ (Ne.symm n2)]
    exact Heap.get?_push_of_some _ ((hs1.2.1 b n1).trans e)
  · obtain ⟨sl, q⟩ := hs1.2.2 b o e
    refine ⟨sl, ?_⟩
    rw [Heap.get?_update_other _ _ (Ne.symm n2)]
    exact Heap.get?_push_of_some _ q
  · rw [Heap.get?_update_other _ _ (Ne.symm hTe)]
    refine Heap.get?_push_size _ ?_
    rw [← htr]
    rfl
  · first | (simp; done) | (rcases hpl with rfl | ⟨_, _, _, _, _, _, _, rfl⟩ <;> simp)
/-- noteFrame: no traceback yet -/
theorem note_fresh {base : Heap} {env : Env} {outer : List Env} {L e : Addr} {cls : Value} {ed : Option Addr} {vs : Array Value} {sl : Array (Option Value)} {Q : Unit → Shared → Prop}
    (hfr : A.frames = some (env :: outer)) (hl : s.heap.FunFrames base (env :: outer)) (hf : env.frame = some L) (he : s.heap.get? e = some { cls := cls, dict := ed, data := .fields vs, slots := sl }) (h1 : vs[1]? = some .none)
    (hQ : ∀ h' vs' T, Wake ((env :: outer).filterMap (·.frame)) [] e s.heap h' → s.heap.objs.size ≤ T → h'.get? e = some { cls := cls, dict := ed, data := .fields vs', slots := sl } → TbAt h' vs' T (rawInt L) → Q () { s with heap := h' }) :
    wpAny M A (noteFrame (.ref e) env) Q E s := by
  unfold noteFrame
  simp only [hf]
  refine wpAny_bind (wpAny_field he rfl h1 ?_)
  rw [if_neg (by decide)]
  exact entry_w hfr hl hf he (Array.getElem?_eq_some_iff.mp h1).1 hQ
/-- .. its newest entry is at rest -/
theorem note_rest {base : Heap} {env : Env} {outer : List Env} {L e T0 : Addr} {cls : Value} {ed : Option Addr} {vs : Array Value} {sl : Array (Option Value)} {Q : Unit → Shared → Prop}
    (hfr : A.frames = some (env :: outer)) (hl : s.heap.FunFrames base (env :: outer)) (hf : env.frame = some L) (he : s.heap.get? e = some { cls := cls, dict := ed, data := .fields vs, slots := sl }) (htb : TbAt s.heap vs T0 .none) (hTe : T0 ≠ e)
    (hQ : ∀ h' vs' T, Wake ((env :: outer).filterMap (·.frame)) [T0] e s.heap h' → s.heap.objs.size ≤ T → h'.get? e = some { cls := cls, dict := ed, data := .fields vs', slots := sl } → TbAt h' vs' T (rawInt L) → Q () { s with heap := h' }) :
    wpAny M A (noteFrame (.ref e) env) Q E s := by
  obtain ⟨h1, oT, ts, hT, hdT, h3⟩ := htb
  unfold noteFrame
  simp only [hf]
  refine wpAny_bind (wpAny_field he rfl h1 ?_)
  rw [if_pos (show (Value.ref T0 != Value.none) = true from by simp)]
  refine wpAny_bind (wpAny_field hT hdT h3 ?_)
  rw [if_neg (show ¬ ((Value.none == rawInt L) = true) from by simp [rawInt])]
  refine wpAny_bind (wpAny_setField hT hdT (Array.getElem?_eq_some_iff.mp h3).1 ?_)
  have other : ∀ b, b ≠ T0 → (s.heap.update T0 (Obj.mapFields (·.setIfInBounds 3 Value.none))).get? b = s.heap.get? b := fun b hb => Heap.get?_update_other _ _ (Ne.symm hb)
  have notT : ∀ b o, s.heap.get? b = some o → (∀ ws, o.data ≠ .fields ws) → b ≠ T0 := fun b o hb hnf z => by
    rw [z, hT] at hb
    cases hb
    exact hnf ts hdT
  refine entry_w (s := { s with heap := s.heap.update T0 (Obj.mapFields (·.setIfInBounds 3 Value.none)) }) hfr (hl.of_keeps fun b o hb hnf => ⟨o, (other b (notT b o hb hnf)).trans hb, rfl⟩) hf
    ((other e (Ne.symm hTe)).trans he) (Array.getElem?_eq_some_iff.mp h1).1 fun h' vs' T wk ht q1 q2 => hQ h' vs' T ⟨fun b o e n1 n2 n3 => ?_, fun b o e n1 n2 n3 => ?_⟩ (Nat.le_trans (Nat.le_of_eq (by simp [Heap.update])) ht) q1 q2
  · exact wk.keep b o ((other b (by simpa using n3)).trans e) n1 n2 (by simp)
  · exact wk.slot b o ((other b (by simpa using n3)).trans e) n1 n2 (by simp)
/-- .. it is noted already -/
theorem note_here {env : Env} {L e T : Addr} {cls : Value} {ed : Option Addr} {vs : Array Value} {sl : Array (Option Value)} {Q : Unit → Shared → Prop} (hf : env.frame = some L)
    (he : s.heap.get? e = some { cls := cls, dict := ed, data := .fields vs, slots := sl }) (htb : TbAt s.heap vs T (rawInt L)) (hQ : Q () s) : wpAny M A (noteFrame (.ref e) env) Q E s := by
  obtain ⟨h1, oT, ts, hT, hdT, h3⟩ := htb
  unfold noteFrame
  simp only [hf]
  refine wpAny_bind (wpAny_field he rfl h1 ?_)
  rw [if_pos (show (Value.ref T != Value.none) = true from by simp)]
  refine wpAny_bind (wpAny_field hT hdT h3 ?_)
  rw [if_pos (show (rawInt L == rawInt L) = true from by simp)]
  exact wpAny_pure hQ
theorem flight_w {e T : Addr} {cls fl : Value} {ed : Option Addr} {vs : Array Value} {sl : Array (Option Value)} {fr : Option Addr} {Q : Unit → Shared → Prop}
    (he : s.heap.get? e = some { cls := cls, dict := ed, data := .fields vs, slots := sl }) (htb : TbAt s.heap vs T fl) (hTe : T ≠ e)
    (hQ : ∀ h', Wake [] [T] e s.heap h' → h'.get? e = some { cls := cls, dict := ed, data := .fields vs, slots := sl } → TbAt h' vs T (fr.elim .none fun f => rawInt f) → Q () { s with heap := h' }) : wpAny M A (setFlight (.ref e) fr) Q E s := by
  obtain ⟨h1, oT, ts, hT, hdT, h3⟩ := htb
  have hsz := (Array.getElem?_eq_some_iff.mp h3).1
  have other : ∀ b, b ≠ T → (s.heap.update T (Obj.mapFields (·.setIfInBounds 3 (fr.elim Value.none fun f => rawInt f)))).get? b = s.heap.get? b := fun b hb => Heap.get?_update_other _ _ (Ne.symm hb)
  unfold setFlight
  refine wpAny_bind (wpAny_field he rfl h1 ?_)
  rw [if_pos (show (Value.ref T != Value.none) = true from by simp)]
  refine wpAny_setField hT hdT hsz (hQ _ ⟨fun b o e _ _ n3 => (other b (by simpa using n3)).trans e, fun b o _ n _ _ => absurd n (by simp)⟩ ((other e (Ne.symm hTe)).trans he) ⟨h1, _, _, Heap.get?_update_self _ hT (Obj.isFreed_of_fields (Obj.data_mapFields hdT _)), Obj.data_mapFields hdT _, by simp [hsz]⟩)
end
end PySem.XF

end

section
set_option linter.all false
set_option maxRecDepth 100000
set_option maxHeartbeats 400000
/-! Attributes of an exception of an own class, read and stored, over the written part K. -/
namespace PySem.W
open PySem PySem.Calls PyProof.Rows Builtin Builtin.ObjectAttr
section
variable {prog : Program} {w : World} {A : Around} {E : Value → Shared → Prop} {s : Shared} {K : Frag} {x C : Addr} {ox : Obj} {od : Option Obj} {name : Str} {expr : Bool} {Q : Value → Shared → Prop}
theorem xget_value {v : Value} (X : K.In s.heap) (I : InstAt s.heap x ox C od) (hga : findIn K (.ref C) "__getattribute__" = some (some (.builtin "BaseException.__getattribute__"))) (hgk : findIn K (.ref C) "__getattr__" = some none)
    (hB : mroIn K C (.type "BaseException") = some true) (hf : findObj K C od name = some (.value v)) (hh : handedIn v = true) (h : Q v { s with toks := s.toks + 1 }) : wpAny (model prog w) A (getAttr (.ref x) name expr) Q E s := by
  obtain ⟨hp, g, d, t, os⟩ := s
  have L0 := I.type (M := model prog w)
  have L1 := looks_findIn (M := model prog w) X hga
  have L2 := looks_find (M := model prog w) X I hf
  have L3 : Looks (model prog w) hp (hookBefore (.ref C)) none := looks_hook (mc := .ref C) X (by have q : onTheHeap (Value.ref C) = true := rfl; rw [if_pos q]; exact hgk)
  have bnd := F.excAttr_ValueError.ga.bind (.ref x)
  unfold getAttr getAttrBy
  refine wpAny_bind (wpAny_mkText (wpAny_holding (wpAny_bind (L0.at (wpAny_bind (L1.at ?_))))))
  have hne : (onTheHeap (Value.ref C) && Value.builtin "BaseException.__getattribute__" == Value.builtin "object.__getattribute__") = false := by
    rw [show (Value.builtin "BaseException.__getattribute__" == Value.builtin "object.__getattribute__") = false by decide +kernel]
    rfl
  dsimp only
  rw [if_neg (by rw [hne]; exact Bool.false_ne_true)]
  unfold getAttrByItsOwn
  refine wpAny_bind (L3.at (wpAny_bind (wpAny_attempt (wpAny_holding ?_))))
  unfold callGetattribute
  rw [if_neg (by cases expr <;> decide)]
  unfold boundAndCalled
  refine wpAny_bind (wpAny_of_eq bnd ?_)
  have hI : Looks (model prog w) hp (isInstance (.ref x) (.type "BaseException")) true := L0.andThen (looks_mroIn X hB)
  have hkd : builtinKind "BaseException.__getattribute__" = some .slot := by decide +kernel
  have hsp : splitId "BaseException.__getattribute__" = some ("BaseException", "__getattribute__") := by decide +kernel
  refine wpAny_call ?_
  refine codeAny_call_builtin F.excAttr_ValueError.ga.plain F.entry_bexc_ga ?_
  have ha := F.args_bexc_ga (.ref x) (.str name t)
  refine @check_slot (model prog w) _ _ ⟨hp, g, d, t + 1, os⟩ "BaseException.__getattribute__" "BaseException" "__getattribute__" (.ref x) [.str name t] [] _ hkd hsp hI ha ?_
  refine wpAny_bind (wpAny_pure (wpAny_bind (wpAny_pure (wpAny_bind (L0.at (wpAny_bind (L2.at (wpAny_pure ?_))))))))
  show wpAny _ _ (handedOut v) _ _ _
  rw [handedOut_of hh]
  exact wpAny_pure h
end

/-! ### stored: the first attribute of an exception under ValueError -/
def underValue : List Value → Bool
  | [.type a, .type b, .type c, .type d] => a == "ValueError" && b == "Exception" && c == "BaseException" && d == "object"
  | .ref _ :: r => underValue r
  | _ => false
theorem refuse_value (self : Value) : ∀ {l : List Value}, underValue l = true → refuseLoop self "__setattr__" l = pure ()
  | [.type a, .type b, .type c, .type d], e => by
    simp only [underValue, Bool.and_eq_true, beq_iff_eq] at e
    obtain ⟨⟨⟨rfl, rfl⟩, rfl⟩, rfl⟩ := e
    exact PySem.F.store_ValueError.passes self
  | .ref c :: r, e => by rw [refuseLoop_ref]; exact refuse_value self (by cases r <;> first | exact e | cases e)
theorem value_has : ∀ {l : List Value}, underValue l = true → l.contains (.type "object") = true
  | [.type a, .type b, .type c, .type d], e => by
    simp only [underValue, Bool.and_eq_true, beq_iff_eq] at e
    obtain ⟨⟨⟨rfl, rfl⟩, rfl⟩, rfl⟩ := e
    simp
  | .ref c :: r, e => by rw [List.contains_cons, value_has (l := r) (by cases r <;> first | exact e | cases e), Bool.or_true]
def valueOver (K : Frag) (C : Addr) : Bool := (clsIn K C).any fun cd => underValue cd.mro
section
variable {prog : Program} {w : World} {A : Around} {E : Value → Shared → Prop} {R : Result → Shared → Prop} {s : Shared} {K : Frag} {x C : Addr} {ox : Obj} {od : Option Obj}
theorem xosa_open {name : Str} {tk : Tok} {v : Value} (X : K.In s.heap) (I : InstAt s.heap x ox C od) (hp : valueOver K C = true) (ht : takerIn K C name = some none)
    (h : ∀ b, wpAny (model prog w) A.in1 (storeInOwnDict (.ref x) (.ref C) (.str name tk) name v b)
      (fun fin s' => match fin with | .done f => R (.ok f) s' | .again c' => c'.quiet = true ∧ codeAny (model prog w) A c' R s') (fun e s' => R (.error e) s') s) :
    codeAny (model prog w) A (.call (.builtin "object.__setattr__") ⟨[.ref x, .str name tk, v], []⟩) R s := by
  have SF := PySem.F.store_object
  obtain ⟨cd, hc, ho⟩ := any_some hp
  have ne : cd.mro.isEmpty = false := by
    cases q : cd.mro with
    | nil => rw [q] at ho; cases ho
    | cons _ _ => rfl
  have sub : Looks (model prog w) s.heap (isInstance (.ref x) (.type "object")) true := I.type.andThen (looks_mroIn X (by unfold mroIn; rw [hc, Option.bind_some, if_neg (by rw [ne]; decide), value_has ho]))
  refine codeAny_call_builtin SF.slot.plain SF.entry (@check_slot (model prog w) _ _ s "object.__setattr__" "object" "__setattr__" (.ref x) [.str name tk, v] [] _ SF.kind SF.split sub (SF.args (.ref x) (.str name tk) v) ?_)
  obtain ⟨attr, ha, hr⟩ := Option.bind_eq_some_iff.mp ht
  have hm : Looks (model prog w) s.heap (mroOf (.ref C)) cd.mro := (looks_clsIn X hc).andThen .now
  have taker : Looks (model prog w) s.heap (storeTaker? attr) none := by
    cases attr with
    | none => exact .now
    | some a =>
      obtain ⟨b, hb, q⟩ := Option.map_eq_some_iff.mp hr
      refine (looks_takesIn X hb).andThen ?_
      cases b with
      | true => cases q
      | false => exact .now
  rw [osa_eq, refuse_eq]
  refine wpAny_bind (wpAny_bind (I.type.here (wpAny_bind (hm.here ?_))))
  rw [refuse_value _ ho]
  exact wpAny_pure (wpAny_bind (I.type.here (wpAny_bind ((looks_findIn X ha).here (wpAny_bind (taker.here (h _)))))))
/-- the first attribute: a dict is made for it -/
theorem xset_new {name : Str} {v : Value} {Q : Unit → Shared → Prop} {vs : Array Value} {sl : Array (Option Value)} (X : K.In s.heap) (hx : s.heap.get? x = some { cls := .ref C, dict := none, data := .fields vs, slots := sl })
    (hs : findIn K (.ref C) "__setattr__" = some (some (.builtin "object.__setattr__"))) (hp : valueOver K C = true) (ht : takerIn K C name = some none) (hh : hasDictIn K C = true)
    (h : ∀ h', h'.Ns1 s.heap.objs.size (fun y => if y = name then some v else none) → h'.get? x = some { cls := .ref C, dict := some s.heap.objs.size, data := .fields vs, slots := sl } →
      (∀ b o, b ≠ x → s.heap.get? b = some o → h'.get? b = some o) → Q () { s with heap := h', toks := s.toks + 2 }) :
    wpAny (model prog w) A (setAttr (.ref x) name v) Q E s := by
  have I : InstAt s.heap x { cls := .ref C, dict := none, data := .fields vs, slots := sl } C none := ⟨hx, rfl, rfl, True.intro⟩
  refine set_plain X I hs (xosa_open (s := { s with toks := s.toks + 1 }) X I hp ht fun b => ?_)
  obtain ⟨cd, hc, hd'⟩ := any_some hh
  have hxs : x ≠ s.heap.objs.size := Nat.ne_of_lt (Heap.lt_size hx)
  have hx1 : (s.heap.push { cls := .type "dict", data := .dict #[] }).get? x = some { cls := .ref C, dict := none, data := .fields vs, slots := sl } := Heap.get?_push_of_some _ hx
  refine wpAny_bind (wpAny_pure (wpAny_bind (wpAny_bind (wpAny_loadPart hx (wpAny_bind (Looks.here (s := { s with toks := s.toks + 1 }) (looks_clsIn X hc) ?_))))))
  rw [hd']
  change wpAny (model prog w) A.in1 (alloc { cls := .type "dict", data := .dict #[] } >>= fun d => update x (fun o => { o with dict := some d }) >>= fun _ => dictMade (.ref C) x d) _ _ _
  refine wpAny_bind (wpAny_alloc (wpAny_bind (wpAny_update hx1 ?_)))
  have hgd : ((s.heap.push { cls := .type "dict", data := .dict #[] }).update x fun o => { o with dict := some s.heap.objs.size }).get? s.heap.objs.size = some { cls := .type "dict", data := .dict #[] } :=
    (Heap.get?_update_ne _ _ _ _ hxs.symm).trans (Heap.get?_push_at rfl rfl)
  have hnd : ((s.heap.push { cls := .type "dict", data := .dict #[] }).update x fun o => { o with dict := some s.heap.objs.size }).Ns s.heap.objs.size (fun _ => none) :=
    ⟨_, #[], _, hgd, rfl, fun e he => absurd he (by simp), fun _ => rfl⟩
  refine wpAny_pure (a := some s.heap.objs.size) ?_
  show wpAny _ _ (storeInDict s.heap.objs.size (.str name _) name v) _ _ _
  unfold storeInDict newKeyGuard
  refine wpAny_bind (wpAny_pure (wpAny_bind (wpAny_nsSet1 (Heap.Ns1.of_empty hnd) fun h' hn' sb => ?_)))
  obtain ⟨oD, esD, epD, hoD, hdD, hcD⟩ := hn'.count (Within.cons name v Within.nil)
  refine wpAny_bind (wpAny_lookBehind hoD (by rw [hdD]; exact pastItsLine_dict (Nat.le_trans hcD (by rw [List.length_cons, List.length_nil, sizeLine_eq]; omega))) ?_)
  refine wpAny_pure (h h' hn' ?_ fun b o hb e => ?_)
  · exact (sb.2 x hxs).trans (Heap.get?_update_self _ hx1 rfl)
  · exact (sb.2 b (Nat.ne_of_lt (Heap.lt_size e))).trans ((Heap.get?_update_ne _ _ _ _ hb).trans (Heap.get?_push_of_some _ e))
end
end PySem.W

end

section
set_option linter.all false
set_option maxRecDepth 100000
set_option maxHeartbeats 400000
/-! isinstance of an exception of an own class. -/
namespace PySem.W
open PySem PySem.Calls PyProof.Rows Builtin Builtin.ObjectAttr
section
variable {prog : Program} {w : World} {A : Around} {E : Value → Shared → Prop} {s : Shared} {K : Frag} {x C : Addr} {ox : Obj} {od : Option Obj} {name : Str}
theorem xclass {Q : Option Value → Shared → Prop} (X : K.In s.heap) (I : InstAt s.heap x ox C od) (hga : findIn K (.ref C) "__getattribute__" = some (some (.builtin "BaseException.__getattribute__"))) (hgk : findIn K (.ref C) "__getattr__" = some none)
    (hB : mroIn K C (.type "BaseException") = some true) (hf : findObj K C od "__class__" = some (.bind (.builtin "getset_descriptor.__get__") (.builtin "object.__class__"))) (hm : mroIn K C (.type "object") = some true)
    (h : Q (some (.ref C)) { s with toks := s.toks + 1 }) : wpAny (model prog w) A (getAttr? (.ref x) "__class__") Q E s := by
  obtain ⟨hp, g, d, t, os⟩ := s
  have L0 := I.type (M := model prog w)
  have L1 := looks_findIn (M := model prog w) X hga
  have L2 := looks_find (M := model prog w) X I hf
  have L3 : Looks (model prog w) hp (hookBefore (.ref C)) none := looks_hook (mc := .ref C) X (by have q : onTheHeap (Value.ref C) = true := rfl; rw [if_pos q]; exact hgk)
  have bnd := F.excAttr_ValueError.ga.bind (.ref x)
  unfold getAttr? getAttrBy? getAttrBy
  refine wpAny_bind (wpAny_mkText (wpAny_bind (wpAny_attempt (wpAny_holding (wpAny_bind (L0.at (wpAny_bind (L1.at ?_))))))))
  have hne : (onTheHeap (Value.ref C) && Value.builtin "BaseException.__getattribute__" == Value.builtin "object.__getattribute__") = false := by
    rw [show (Value.builtin "BaseException.__getattribute__" == Value.builtin "object.__getattribute__") = false by decide +kernel]
    rfl
  dsimp only
  rw [if_neg (by rw [hne]; exact Bool.false_ne_true)]
  unfold getAttrByItsOwn
  refine wpAny_bind (L3.at (wpAny_bind (wpAny_attempt (wpAny_holding ?_))))
  unfold callGetattribute
  rw [if_neg (by decide)]
  unfold boundAndCalled
  refine wpAny_bind (wpAny_of_eq bnd ?_)
  have hI : Looks (model prog w) hp (isInstance (.ref x) (.type "BaseException")) true := L0.andThen (looks_mroIn X hB)
  have hkd : builtinKind "BaseException.__getattribute__" = some .slot := by decide +kernel
  have hsp : splitId "BaseException.__getattribute__" = some ("BaseException", "__getattribute__") := by decide +kernel
  refine wpAny_call ?_
  refine codeAny_call_builtin F.excAttr_ValueError.ga.plain F.entry_bexc_ga ?_
  have ha := F.args_bexc_ga (.ref x) (.str "__class__" t)
  refine @check_slot (model prog w) _ _ ⟨hp, g, d, t + 1, os⟩ "BaseException.__getattribute__" "BaseException" "__getattribute__" (.ref x) [.str "__class__" t] [] _ hkd hsp hI ha ?_
  refine wpAny_bind (wpAny_pure (wpAny_bind (wpAny_pure (wpAny_bind (L0.at (wpAny_bind (L2.at ?_)))))))
  show wpAny _ _ (holding [.builtin "object.__class__"] (call (.builtin "getset_descriptor.__get__") [.builtin "object.__class__", .ref x, .ref C]) >>= ret) _ _ _
  refine wpAny_bind (wpAny_holding (wpAny_call (class_get (s := ⟨hp, g, d, t + 1, os⟩) (ox := ox) (od := od) X I hm ?_)))
  refine wpAny_pure ?_
  show wpAny _ _ (handedOut (.ref C)) _ _ _
  exact handed_on rfl (wpAny_pure h)

theorem kitx_exc (hdct : hasDictIn K C = true) (hga : findIn K (.ref C) "__getattribute__" = some (some (.builtin "BaseException.__getattribute__"))) (hgk : findIn K (.ref C) "__getattr__" = some none)
    (hB : mroIn K C (.type "BaseException") = some true) (ha : findIn K (.ref C) "__class__" = some (some (.builtin "object.__class__")))
    (hn : specialIn K (.builtin "object.__class__") "__get__" = some (some (.builtin "getset_descriptor.__get__"))) (htk : takesIn K (.builtin "object.__class__") = some true) (hm : mroIn K C (.type "object") = some true) :
    KitX K (.ref x) (.ref C) (fun h => ∃ ox od, InstAt h x ox C od) where
  ty := fun _ _ _ ⟨_, _, I⟩ => I.type
  it := fun _ _ X _ => by
    obtain ⟨cd, hc, _⟩ := any_some hdct
    unfold clsIn at hc
    split at hc
    · rename_i ho
      intro A' Q' E' s' k q
      unfold isType loadHead
      exact wpAny_bind (wpAny_loadPart (k _ _ (X _ _ ho)) (wpAny_pure q))
    · cases hc
  ne := fun h tp dd its n sl X htp => by
    obtain ⟨cd, hc, _⟩ := any_some hdct
    refine Bool.eq_false_iff.mpr fun q => ?_
    have e : C = tp := Value.ref.inj (beq_iff_eq.mp q)
    subst e
    unfold clsIn at hc
    split at hc
    · rename_i ho
      have z := (X _ _ ho).symm.trans htp
      cases z
    · cases hc
  ca := fun X ⟨ox, od, I⟩ k => xclass X I hga hgk hB (by
    obtain ⟨cd, hc, _⟩ := any_some hdct
    unfold findObj
    rw [hc, Option.bind_some, ha, Option.bind_some]
    show (specialIn K (.builtin "object.__class__") "__get__").bind _ = _
    rw [hn, Option.bind_some]
    show (takesIn K (.builtin "object.__class__")).bind _ = _
    rw [htk]
    rfl) hm k
end
end PySem.W

end

section
set_option Elab.async false
set_option linter.all false
set_option maxRecDepth 100000
set_option maxHeartbeats 4000000
/-! A LIST COMPREHENSION over the hand layer: one clause, none or one test. Its block runs in a context of its own (Cx.block), whose entry is the state behind iter(..). -/
namespace L2
open PySem PySem.Spec PyProof.Rows

/-- the context of a comprehension's block: C its names' dict, fp the iterator's records, s and H the entry -/
def Cx.block (X : Cx) (N : List Str) (scope : Scope) (cl : List (Str × Addr)) (C : Addr) (fp : List Addr) (s : Shared) (H : Hp) : Cx :=
  { X with N := N, s₀ := s, H₀ := H, env := compEnvC scope cl C X.env, outer := X.stack, stack := X.stack, ex := fp, fn := fun _ => false, pn := [], xe := fun _ _ => False }

/-- what the names' table of a block must be: N the block's names, nl for each of them the slot of the def's name that is seen through it (none: a name of the block's own) -/
structure BlockOk (X : Cx) (N : List Str) (nl : List (Option Nat)) (scope : Scope) (cl : List (Str × Addr)) : Prop where
  kind : scope.kind = .function
  nocell : ∀ y ∈ scope.names, y.2 ≠ .cell
  names : ∀ y ∈ scope.names, y.2 = .local → scope.names.lookup y.1 = some .local
  clos : closureFor scope X.env = pure cl
  sub : ∀ y c, cl.lookup y = some c → X.env.cells.lookup y = some c
  has : ∀ y, scope.names.lookup y = some .free → ∃ c, cl.lookup y = some c
  len : nl.length = N.length
  seen : ∀ (i j : Nat) (y : Str), N[i]? = some y → nl[i]? = some (some j) → X.N[j]? = some y ∧ scope.names.lookup y = some .free ∧ (X.env.scope.names.lookup y = some .cell ∨ X.env.scope.names.lookup y = some .free)

/-- the block's names at its start -/
def stOf (nl : List (Option Nat)) (σ : St) : St := nl.map fun o => match o with
  | none => none
  | some j => (σ[j]?).join

theorem lookup_mem_kind {x : Str} {k : NameKind} : ∀ {l : List (Str × NameKind)}, l.lookup x = some k → (x, k) ∈ l
  | [], h => by simp at h
  | (n, q) :: r, h => by
    rw [List.lookup_cons] at h
    cases e : x == n with
    | true =>
      rw [e] at h
      have : q = k := by simpa using h
      have e' : x = n := by simpa using e
      rw [this, e']
      exact List.mem_cons_self
    | false =>
      rw [e] at h
      exact List.mem_cons_of_mem _ (lookup_mem_kind h)

theorem relabel_kind {env : Env} {x : Str} {k : NameKind} : ∀ {l : List (Str × NameKind)},
    (l.map fun (n, k) => if (k == NameKind.free && env.scope.kind == .function && env.kindOf n == some .cell) then (n, NameKind.cell) else (n, k)).lookup x = some k →
      (l.lookup x = some k ∨ (k = .cell ∧ l.lookup x = some .free))
  | [], h => by simp at h
  | (n, q) :: r, h => by
    rw [List.map_cons] at h
    cases e : x == n with
    | true =>
      by_cases hc : (q == NameKind.free && env.scope.kind == .function && env.kindOf n == some .cell) = true
      · simp only [hc, if_true, List.lookup_cons, e] at h
        have hq : q = .free := by
          rw [Bool.and_eq_true, Bool.and_eq_true] at hc
          simpa using hc.1.1
        refine .inr ⟨(by simpa using h.symm), ?_⟩
        rw [List.lookup_cons, e, hq]
      · change List.lookup x ((if (q == NameKind.free && env.scope.kind == .function && env.kindOf n == some .cell) = true then (n, NameKind.cell) else (n, q)) :: _) = some k at h
        rw [if_neg hc, List.lookup_cons, e] at h
        refine .inl ?_
        rw [List.lookup_cons, e]
        exact h
    | false =>
      have h' : (r.map fun (n, k) => if (k == NameKind.free && env.scope.kind == .function && env.kindOf n == some .cell) then (n, NameKind.cell) else (n, k)).lookup x = some k := by
        by_cases hc : (q == NameKind.free && env.scope.kind == .function && env.kindOf n == some .cell) = true
        · simpa only [hc, if_true, List.lookup_cons, e] using h
        · simpa only [hc, List.lookup_cons, e, if_false, Bool.false_eq_true] using h
      have ih := relabel_kind (env := env) h'
      rw [List.lookup_cons, e]
      exact ih

theorem relabel_free {env : Env} {x : Str} : ∀ {l : List (Str × NameKind)}, l.lookup x = some .free →
    (l.map fun (n, k) => if (k == NameKind.free && env.scope.kind == .function && env.kindOf n == some .cell) then (n, NameKind.cell) else (n, k)).lookup x = some .cell ∨
    (l.map fun (n, k) => if (k == NameKind.free && env.scope.kind == .function && env.kindOf n == some .cell) then (n, NameKind.cell) else (n, k)).lookup x = some .free
  | [], h => by simp at h
  | (n, q) :: r, h => by
    rw [List.map_cons]
    cases e : x == n with
    | true =>
      rw [List.lookup_cons, e] at h
      have hq : q = .free := by simpa using h
      by_cases hc : (q == NameKind.free && env.scope.kind == .function && env.kindOf n == some .cell) = true
      · left; simp only [hc, if_true, List.lookup_cons, e]
      · right
        change List.lookup x ((if (q == NameKind.free && env.scope.kind == .function && env.kindOf n == some .cell) = true then (n, NameKind.cell) else (n, q)) :: _) = some .free
        rw [if_neg hc, List.lookup_cons, e, hq]
    | false =>
      rw [List.lookup_cons, e] at h
      have ih := relabel_free (env := env) (l := r) h
      by_cases hc : (q == NameKind.free && env.scope.kind == .function && env.kindOf n == some .cell) = true
      · simpa only [hc, if_true, List.lookup_cons, e] using ih
      · simpa only [hc, List.lookup_cons, e, if_false, Bool.false_eq_true] using ih

section
variable {X : Cx} {pins : List (Addr × Obj)} {σ : St} {H : Hp} {s : Shared} {N : List Str} {nl : List (Option Nat)} {scope : Scope} {cl : List (Str × Addr)} {fp : List Addr}

theorem block_ctx (I : Inv X pins σ H s) (B : BlockOk X N nl scope cl) (hf : ∀ b ∈ fp, FpOk X pins H b) (hob : ∀ b ∈ fp, b < s.heap.objs.size) {C : Addr} (hC : s.heap.objs.size ≤ C) : (X.block N scope cl C fp s H).Ok := by
  have stk : ∀ b ∈ frs X.stack, b = X.env.locals ∨ b ∈ X.fs := fun b hb => List.mem_cons.mp (I.stkSub b hb)
  refine ⟨I.ok.mod, B.kind, I.ok.glob, I.ok.blt, hC, fun x y c h1 h2 => I.ok.inj x y c (B.sub x c h1) (B.sub y c h2), fun x hx => ?_, fun x c h => (nomatch h), I.ok.hd, I.ok.frames, .inl rfl, fun b hb => ⟨?_, fun x c e => ?_⟩,
    I.bs, Nat.le_trans I.ok.bsz I.sz, fun b o e hb => ?_, fun b hb hm => ?_, I.stack, I.stkFree⟩
  · have hx' : (scope.names.map fun (n, k) => if (k == NameKind.free && X.env.scope.kind == .function && X.env.kindOf n == some .cell) then (n, NameKind.cell) else (n, k)).lookup x = some .cell ∨
        (scope.names.map fun (n, k) => if (k == NameKind.free && X.env.scope.kind == .function && X.env.kindOf n == some .cell) then (n, NameKind.cell) else (n, k)).lookup x = some .free := hx
    rcases hx' with q | q
    · rcases relabel_kind q with z | ⟨_, z⟩
      · exact absurd rfl (B.nocell _ (lookup_mem_kind z))
      · exact B.has x z
    · rcases relabel_kind q with z | ⟨z, _⟩
      · exact B.has x z
      · cases z
  · exact Nat.ne_of_lt (Nat.lt_of_lt_of_le (hob b hb) hC)
  · exact (hf b hb).2.2.2.2.1 x c (B.sub x c e)
  · rcases (hf b hb).2.2.2.1 with z | z
    · exact I.ok.noex b o e z
    · exact absurd (Nat.lt_of_lt_of_le (Heap.lt_size (I.ok.bs b o e).1) z) (Nat.lt_irrefl _)
  · rcases stk b hm with z | z
    · exact (hf b hb).2.1 z
    · exact (hf b hb).2.2.1 z

theorem stOf_get {i : Nat} {v : V} (h : (stOf nl σ)[i]? = some (some v)) : ∃ j, nl[i]? = some (some j) ∧ σ[j]? = some (some v) := by
  unfold stOf at h
  rw [List.getElem?_map] at h
  cases e : nl[i]? with
  | none => rw [e] at h; cases h
  | some o =>
    rw [e] at h
    cases o with
    | none => cases h
    | some j =>
      refine ⟨j, rfl, ?_⟩
      have h' : (σ[j]?).join = some v := by simpa using h
      cases q : σ[j]? with
      | none => rw [q] at h'; cases h'
      | some o' =>
        rw [q] at h'
        have : o' = some v := by simpa using h'
        rw [this]

/-- the block's start: a new list D, the names' dict C behind it -/
theorem block_start (I : Inv X pins σ H s) (B : BlockOk X N nl scope cl) (hf : ∀ b ∈ fp, FpOk X pins H b) (hob : ∀ b ∈ fp, b < s.heap.objs.size) {C D : Addr} (hD : D = s.heap.objs.size) (hC : C = s.heap.objs.size + 1) {h1 : Heap} {tk : Nat} {m : Str → Option Value} {n : Nat}
    (hk : ∀ b o, s.heap.get? b = some o → h1.get? b = some o) (hl : h1.get? D = some { cls := .type "list", data := .seq ([] : List Value).toArray n }) (hn : h1.Ns C m) :
    Inv (X.block N scope cl C fp s H) [] (stOf nl σ) (upd H D (.lst [])) { s with heap := h1, toks := tk } := by
  have hDn : H D = none := I.hok.fresh (by rw [hD]; exact Nat.le_refl _)
  have hCD : C ≠ D := by rw [hC, hD]; exact Nat.succ_ne_self _
  have hCn : H C = none := I.hok.fresh (by rw [hC]; exact Nat.le_succ _)
  have cellD : ∀ y c, cl.lookup y = some c → c ≠ D := fun y c e z => by
    obtain ⟨v, q⟩ := I.cell y c (B.sub y c e)
    exact absurd q.lt (by rw [z, hD]; exact Nat.lt_irrefl _)
  refine ⟨block_ctx I B hf hob (by rw [hC]; exact Nat.le_succ _), rfl, I.bare, Un.laid hk (by rw [hD]; exact Nat.le_refl _) hDn, ⟨m, hn, fun i y v e1 e2 _ => ?_⟩, fun y c e => ?_, ?_, fun y c e => ?_, fun p hp => absurd hp (by simp [Cx.block]), ?_, ?_⟩
  · obtain ⟨j, hj, hv⟩ := stOf_get e2
    obtain ⟨x1, x2, x3⟩ := B.seen i j y e1 hj
    obtain ⟨m0, hm0, hl0⟩ := I.loc
    obtain ⟨u, r, l⟩ := hl0 j y v x1 hv (.inr x3)
    refine ⟨u, r, ?_⟩
    rcases l with ⟨hk1, _⟩ | ⟨_, c, hc, z⟩
    · have hk1' : X.env.scope.names.lookup y = some .local := hk1
      rcases x3 with q | q <;> (rw [hk1'] at q; cases q)
    · refine .inr ⟨relabel_free x2, c, ?_, z.keeps hk⟩
      obtain ⟨c', hc'⟩ := B.has y x2
      have q := B.sub y c' hc'
      rw [hc] at q
      cases q
      exact hc'
  · obtain ⟨v, q⟩ := I.cell y c (B.sub y c e)
    exact ⟨v, q.keeps hk⟩
  · show (upd H D (.lst [])) C = none
    rw [upd_ne hCD]
    exact hCn
  · rw [upd_ne (cellD y c e)]
    exact I.freeC y c (B.sub y c e)
  · exact I.hok.laid hk (by rw [hD]; exact Nat.le_refl _) ⟨Nat.zero_le _, [], n, .nil, hl⟩
  · show (stOf nl σ).length = N.length
    unfold stOf
    rw [List.length_map, B.len]

/-- the block's end: back to the def's own state; the names' dict has been emptied -/
theorem block_end {C : Addr} {σ' : St} {H' : Hp} {s' : Shared} {h2 : Heap} (I : Inv X pins σ H s) (hf : ∀ b ∈ fp, FpOk X pins H b) (hC : s.heap.objs.size ≤ C) (J : Inv (X.block N scope cl C fp s H) [] σ' H' s') (hk : ∀ b o, b ≠ C → s'.heap.get? b = some o → h2.get? b = some o) :
    Inv X pins σ H' { s' with heap := h2 } := by
  obtain ⟨hp, g, d, t, os⟩ := s'
  have ho : os = s.os := J.os
  subst ho
  have hCn : H' C = none := J.free
  have u := J.base
  have ne : ∀ b o, s.heap.get? b = some o → b ≠ C := fun b o e => Nat.ne_of_lt (Nat.lt_of_lt_of_le (Heap.lt_size e) hC)
  have u2 : Un (frs X.stack) fp H H' s.heap h2 :=
    ⟨fun b o e n hb hx => hk b o (ne b o e) (u.keep b o e n hb hx), fun b o e n hb hx => (let ⟨sl, q⟩ := u.slot b o e n hb hx; ⟨sl, hk b _ (ne b o e) q⟩), u.free, fun b o e hx => (let ⟨o', q⟩ := u.there b o e hx; ⟨o', hk b o' (ne b o e) q⟩), u.tups, u.frzs, u.tbls⟩
  have hok2 : HOk X.prog X.w H' h2 := fun b o e => (J.hok b o e).stay (fun c v hc q => hk c v (fun z => by
    subst z
    rcases hc with z | z
    · rw [← z, hCn] at e; cases e
    · rw [hCn] at z; cases z) q) (fun _ q => q) fun _ _ q => q
  have z := I.call (h' := h2) (g' := g) (d' := d) (t' := t) (ch := fp) u2 hok2 J.bare fun b hb => (let ⟨_, f1, _, f3, f4, f5⟩ := hf b hb; ⟨f3, f1, f4, f5⟩)
  exact z
end

/-! ### the rule -/
/-- a test of the clause, as the turn runs it -/
def PQ (X : Cx) (tst : Env → Sem Bool) (t : TT) : Prop :=
  ∀ (pins : List (Addr × Obj)) (s : Shared) (σ : St) (H : Hp) (Q : Bool → Hp → Prop), Inv X pins σ H s → t σ H Q → wpAny (model X.prog X.w) X.A (tst X.env) (TP X pins σ Q) X.xe s
def tTrue : TT := fun _ H Q => Q true H
theorem pq_none {X : Cx} : PQ X (fun _ => pure true) tTrue := fun _ _ _ H _ I h => wpAny_pure ⟨H, I, h⟩
theorem pq_one {X : Cx} {c : Expr} {t : TT} (h : PT X c t) : PQ X (fun env => isTrue c env (eval c env)) t := h

/-- the block's turns, from σ0 and H0 on: the list grows at D; W: what holds by the turn and a measure -/
def CompW (J : It) (g : TG) (tc : TT) (te : TE) (D : Addr) (Q : VK) (σ0 : St) (H0 : Hp) : Prop := ∃ W : Nat → Nat → St → Hp → Prop, (∃ m, W 0 m σ0 H0) ∧ ∀ i m σ' H', W i m σ' H' →
  (J.stop i H' ∧ Q (.ref D) H') ∨ (J.go i H' ∧ ∃ N : St → Hp → Prop, (∀ σ2 H2, N σ2 H2 → ∃ m', m' < m ∧ W (i + 1) m' σ2 H2) ∧ ∀ x H2, J.yld i H' x H2 → g x σ' H2 fun σ3 H3 => tc σ3 H3 fun b H4 =>
    if b = true then te σ3 H4 fun v H5 => ∃ xs, H5 D = some (.lst xs) ∧ xs.length < sizeLine ∧ N σ3 (upd H5 D (.lst (xs ++ [v]))) else N σ3 H4)
def tComp (wi : TI) (nl : List (Option Nat)) (g : TG) (tc : TT) (te : TE) : TE := fun σ H Q => wi σ H fun J H1 => ∀ D, H1 D = none → CompW J g tc te D Q (stOf nl σ) (upd H1 D (.lst []))

theorem comp_core {X : Cx} {N : List Str} {nl : List (Option Nat)} {scope : Scope} {cl : List (Str × Addr)} {elt tg iter : Expr} {ifs : List Expr} {pos : Pos} {wi : TI} {g : TG} {tst : Env → Sem Bool} {tc : TT} {te : TE} (hcalm : X.calm = true)
    (B : BlockOk X N nl scope cl) (hi : PI X tg iter wi) (hg : ∀ C fp s H, PG (X.block N scope cl C fp s H) tg g) (ht : ∀ C fp s H, PQ (X.block N scope cl C fp s H) tst tc) (he : ∀ C fp s H, PE (X.block N scope cl C fp s H) elt te)
    (hturn : ∀ (it acc : Value) (env : Env), compTurn (.ListComp elt [⟨tg, iter, ifs, 0⟩] scope pos) 0 it acc env = (do
      standAt iter.pos
      match ← pyNext it with
      | none => pure (.done .next)
      | some v =>
        letOwnedTupleGo tg it v
        assign tg env v
        let ok ← tst env
        if ok then (do
          (do let x ← eval elt env; let _ ← call (.builtin "list.append") [acc, x]; pure ())
          again (.compLoop (.ListComp elt [⟨tg, iter, ifs, 0⟩] scope pos) 0 it acc env))
        else again (.compLoop (.ListComp elt [⟨tg, iter, ifs, 0⟩] scope pos) 0 it acc env)))
    (hs : ∀ x, foldedSetIterable iter X.env x = pure x) {pins : List (Addr × Obj)} {s : Shared} {σ : St} {H : Hp} {Q : VK} (I : Inv X pins σ H s) (h : tComp wi nl g tc te σ H Q) {use : Option (Value → Sem Unit)} {Q' : Value → Shared → Prop}
    (hpost : ∀ (D C : Addr) (s' s2 : Shared) (fp : List Addr) (σ' : St) (H' H2 : Hp), Inv X pins σ H2 s2 → (∀ b ∈ fp, FpOk X pins H2 b) → s2.heap.objs.size ≤ C → Inv (X.block N scope cl C fp s2 H2) [] σ' H' s' → Q (.ref D) H' →
      compPost (model X.prog X.w) X.A X.xe use Q' (.ref D) C (.ok .next) s')
    (hpos : Pos) :
    wpAny (model X.prog X.w) X.A (comprehension (.ListComp elt [⟨tg, iter, ifs, 0⟩] scope pos) scope X.env hpos (newList []) false (eval iter X.env) use) Q' X.xe s := by
  refine wpAny_comprehension_free (use := use) rfl hs B.clos B.kind B.names ?_
  refine thn (hi pins s σ H _ I h) fun v s1 h1 => thn h1 fun itv s2 h2 => ?_
  obtain ⟨it, fp, tn, J, H2, e, I2, T, st2, f2, q⟩ := h2
  subst e
  have hob : ∀ b ∈ fp, b < s2.heap.objs.size := fun b hb => (let ⟨o, e, _⟩ := T.obj 0 _ st2 b hb; Heap.lt_size e)
  refine wpAny_newObj_type (wpAny_newFunctionEnv B.nocell (by intro y hy; simp at hy) (fun h1 hns hsb => ?_) B.kind)
  dsimp only at hns hsb ⊢
  generalize hD : s2.heap.objs.size = D at hns hsb ⊢
  have hC : (s2.heap.push { cls := .type "list", dict := none, data := .seq ([] : List Value).toArray }).objs.size = s2.heap.objs.size + 1 := by rw [Heap.size_push]
  generalize hC' : (s2.heap.push { cls := .type "list", dict := none, data := .seq ([] : List Value).toArray }).objs.size = C at hns hsb hC ⊢
  have hDC : D ≠ C := by rw [hC, ← hD]; exact (Nat.succ_ne_self _).symm
  have lt_ne : ∀ b, b < s2.heap.objs.size → b ≠ C := fun b hb => by rw [hC]; exact Nat.ne_of_lt (Nat.lt_succ_of_lt hb)
  have old : ∀ b o, s2.heap.get? b = some o → h1.get? b = some o := fun b o e =>
    hsb.extBut b o (lt_ne b (Heap.lt_size e)) (Heap.get?_push_of_some _ (Heap.get?_push_of_some _ e))
  have hl : h1.get? D = some { cls := .type "list", data := .seq ([] : List Value).toArray 0 } := by
    refine hsb.extBut D _ hDC (Heap.get?_push_of_some _ ?_)
    rw [← hD]
    exact Heap.get?_push_size _ rfl
  have fresh : H2 D = none := I2.hok.fresh (by rw [hD]; exact Nat.le_refl _)
  obtain ⟨W, ⟨m0, w0⟩, turn⟩ := q D fresh
  have hCle : s2.heap.objs.size ≤ C := by rw [hC]; exact Nat.le_succ _
  have stat : ∀ {H' : Hp}, (∀ b ∈ fp, H' b = none) → ∀ b ∈ fp, FpOk (X.block N scope cl C fp s2 H2) [] H' b := fun hn b hb => by
    obtain ⟨_, f1, f2', f3, f4, f5⟩ := f2 b hb
    refine ⟨hn b hb, lt_ne b (hob b hb), fun z => ?_, .inl hb, fun x c e => f4 x c (B.sub x c e), fun p hp => absurd hp (by simp [Cx.block])⟩
    rcases List.mem_cons.mp (I2.stkSub b z) with z | z
    · exact f1 z
    · exact f2' z
  have main : ∀ s4 : Shared, (∃ tk, s4 = { s2 with heap := h1, toks := tk }) →
      codeAny (model X.prog X.w) X.A (.compLoop (.ListComp elt [⟨tg, iter, ifs, 0⟩] scope pos) 0 (.ref it) (.ref D) (X.block N scope cl C fp s2 H2).env) (compPost (model X.prog X.w) X.A X.xe use Q' (.ref D) C) s4 := by
    rintro s4 ⟨tk, rfl⟩
    have I3 : Inv (X.block N scope cl C fp s2 H2) [] (stOf nl σ) (upd H2 D (.lst [])) { s2 with heap := h1, toks := tk } := block_start I2 B f2 hob hD.symm hC old hl hns
    refine codeAny_loop rfl (fun n s' => ∃ i σ' H', Inv (X.block N scope cl C fp s2 H2) [] σ' H' s' ∧ tn i s'.heap ∧ (∀ b ∈ fp, H' b = none) ∧ W i n σ' H') (fun n s5 hI => ?_) m0
      ⟨0, stOf nl σ, _, I3, T.keep 0 _ _ st2 fun b hb o e => old b o e, fun b hb => by rw [upd_ne (fun z => absurd (hob b hb) (by rw [z, ← hD]; exact Nat.lt_irrefl _))]; exact (f2 b hb).1, w0⟩
    show wpAny _ X.A ((compTurn (.ListComp elt [⟨tg, iter, ifs, 0⟩] scope pos) 0 (.ref it) (.ref D) (X.block N scope cl C fp s2 H2).env).onRaise (fun x => do noteFrame x (X.block N scope cl C fp s2 H2).env; theTreesLotGoes x)) _ _ s5
    refine wpAny_noted ?_
    rw [hturn]
    obtain ⟨i, σ5, H5, I5, st5, fr5, w5⟩ := hI
    have quiet : ∀ {α : Type} {t : Sem α} {R : α → Shared → Prop} {E' : Value → Shared → Prop} {s' : Shared}, wpAny (model X.prog X.w) X.A t R (fun _ _ => False) s' → wpAny (model X.prog X.w) X.A t R E' s' := fun hw => wpAny_mono hw (fun _ _ z => z) fun _ _ z => z.elim
    refine wpAny_bind (wpAny_standAt ?_)
    rcases turn i n σ5 H5 w5 with ⟨stop, qn⟩ | ⟨go, Nx, hN, step⟩
    · refine wpAny_bind (quiet (thn (T.done (X.block N scope cl C fp s2 H2) rfl rfl rfl hcalm i [] s5 σ5 H5 (fun _ _ => False) I5 (stat fr5) st5 stop) fun r s6 ⟨hr, I6⟩ => ?_))
      subst hr
      exact quiet (wpAny_pure (hpost D C s6 s2 fp σ5 H5 H2 I2 f2 hCle I6 qn))
    · refine wpAny_bind (quiet (thn (T.item (X.block N scope cl C fp s2 H2) rfl rfl rfl hcalm i [] s5 σ5 H5 (fun _ _ => False) I5 (stat fr5) st5 go) fun r s6 ⟨u, hr, h6⟩ => ?_))
      subst hr
      refine wpAny_bind (quiet (thn h6 fun _ s7 ⟨x, H7, I7, r7, y7, st7, fr7⟩ => ?_))
      have I7' := I7.pinned (stat fr7) (T.obj _ _ st7)
      have again' : ∀ {σ8 : St} {H8 : Hp} {s8 : Shared}, Inv (X.block N scope cl C fp s2 H2) ([] ++ pinsAt fp s7.heap) σ8 H8 s8 → Nx σ8 H8 → ∃ m, m < n ∧ ∃ i σ' H', Inv (X.block N scope cl C fp s2 H2) [] σ' H' s8 ∧ tn i s8.heap ∧ (∀ b ∈ fp, H' b = none) ∧ W i m σ' H' := fun {σ8 H8 s8} I8 n8 => by
        obtain ⟨m', hm, w8⟩ := hN σ8 H8 n8
        refine ⟨m', hm, i + 1, σ8, H8, I8.unpinned, T.keep _ _ _ st7 fun b hb o e => (I8.pin (b, o) (List.mem_append_right _ (List.mem_append_right _ (mem_pinsAt hb e)))).1, fun b hb => ?_, w8⟩
        obtain ⟨o, e, _⟩ := T.obj _ _ st7 b hb
        exact (I8.pin (b, o) (List.mem_append_right _ (List.mem_append_right _ (mem_pinsAt hb e)))).2.1
      refine wpAny_bind (quiet (thn (hg C fp s2 H2 _ s7 σ5 H7 x u _ I7' r7 (step x H7 y7)) fun _ s8 ⟨σ8, H8, I8, q8⟩ => ?_))
      refine wpAny_bind (quiet (thn (ht C fp s2 H2 _ s8 σ8 H8 _ I8 q8) fun b s9 ⟨H9, I9, q9⟩ => ?_))
      cases b with
      | false => exact quiet (wpAny_pure ⟨rfl, again' I9 q9⟩)
      | true =>
        refine wpAny_bind (wpAny_bind (quiet (thn (he C fp s2 H2 _ s9 σ8 H9 _ I9 q9) fun vy s10 ⟨y, H10, I10, r10, xs, e10, z10, n10⟩ => ?_)))
        refine wpAny_bind (quiet (thn (mt_append _ s10 σ8 H10 (.ref D) [y] (.ref D) [vy] (fun _ H' => Nx σ8 H') I10 rfl (.cons r10 .nil) ⟨D, xs, y, rfl, rfl, e10, z10, n10⟩) fun _ s11 ⟨_, H11, I11, _, q11⟩ => ?_))
        exact wpAny_pure (wpAny_pure ⟨rfl, again' I11 q11⟩)
  exact codeAny_compStart_list (main _ ⟨_, rfl⟩) (T.self _ 0 _ _ _ (T.keep 0 _ _ st2 fun b hb o e => old b o e) (main _ ⟨_, rfl⟩))

section
variable {X : Cx} {N : List Str} {nl : List (Option Nat)} {scope : Scope} {cl : List (Str × Addr)} {elt tg iter : Expr} {pos : Pos} {wi : TI} {g : TG} {tc : TT} {te : TE}

theorem comp_if0 (it acc : Value) (env : Env) : compTurn (.ListComp elt [⟨tg, iter, [], 0⟩] scope pos) 0 it acc env = (do
      standAt iter.pos
      match ← pyNext it with
      | none => pure (.done .next)
      | some v =>
        letOwnedTupleGo tg it v
        assign tg env v
        let ok ← (fun _ => pure true : Env → Sem Bool) env
        if ok then (do
          (do let x ← eval elt env; let _ ← call (.builtin "list.append") [acc, x]; pure ())
          again (.compLoop (.ListComp elt [⟨tg, iter, [], 0⟩] scope pos) 0 it acc env))
        else again (.compLoop (.ListComp elt [⟨tg, iter, [], 0⟩] scope pos) 0 it acc env)) := by rfl
theorem comp_if1 {c : Expr} (it acc : Value) (env : Env) : compTurn (.ListComp elt [⟨tg, iter, [c], 0⟩] scope pos) 0 it acc env = (do
      standAt iter.pos
      match ← pyNext it with
      | none => pure (.done .next)
      | some v =>
        letOwnedTupleGo tg it v
        assign tg env v
        let ok ← (fun env => isTrue c env (eval c env) : Env → Sem Bool) env
        if ok then (do
          (do let x ← eval elt env; let _ ← call (.builtin "list.append") [acc, x]; pure ())
          again (.compLoop (.ListComp elt [⟨tg, iter, [c], 0⟩] scope pos) 0 it acc env))
        else again (.compLoop (.ListComp elt [⟨tg, iter, [c], 0⟩] scope pos) 0 it acc env)) := by
  unfold compTurn
  simp
  rfl

theorem comp_done {pins : List (Addr × Obj)} {σ : St} {Q : VK} (D C : Addr) (s' s2 : Shared) (fp : List Addr) (σ' : St) (H' H2 : Hp) (I2 : Inv X pins σ H2 s2) (f2 : ∀ b ∈ fp, FpOk X pins H2 b) (hC : s2.heap.objs.size ≤ C) (J : Inv (X.block N scope cl C fp s2 H2) [] σ' H' s') (q : Q (.ref D) H') :
    compPost (model X.prog X.w) X.A X.xe none (EP X pins σ Q) (.ref D) C (.ok .next) s' := by
  obtain ⟨m, hn, _⟩ := J.loc
  exact ⟨m, hn, fun h' sb => ⟨.ref D, H', block_end I2 f2 hC J fun b o hb e => sb.extBut b o hb e, rfl, q⟩⟩

/-- [elt for tg in iter] -/
theorem pe_comp0 (hcalm : X.calm = true) (B : BlockOk X N nl scope cl) (hi : PI X tg iter wi) (hg : ∀ C fp s H, PG (X.block N scope cl C fp s H) tg g) (he : ∀ C fp s H, PE (X.block N scope cl C fp s H) elt te) (hs : ∀ x, foldedSetIterable iter X.env x = pure x := by intro _; rfl) :
    PE X (.ListComp elt [⟨tg, iter, [], 0⟩] scope pos) (tComp wi nl g tTrue te) := by
  intro pins s σ H Q I h
  rw [eval_ListComp]
  exact comp_core (tst := fun _ => pure true) hcalm B hi hg (fun _ _ _ _ => pq_none) he comp_if0 hs I h comp_done _
/-- [elt for tg in iter if c] -/
theorem pe_comp1 {c : Expr} (hcalm : X.calm = true) (B : BlockOk X N nl scope cl) (hi : PI X tg iter wi) (hg : ∀ C fp s H, PG (X.block N scope cl C fp s H) tg g) (hc : ∀ C fp s H, PT (X.block N scope cl C fp s H) c tc) (he : ∀ C fp s H, PE (X.block N scope cl C fp s H) elt te)
    (hs : ∀ x, foldedSetIterable iter X.env x = pure x := by intro _; rfl) : PE X (.ListComp elt [⟨tg, iter, [c], 0⟩] scope pos) (tComp wi nl g tc te) := by
  intro pins s σ H Q I h
  rw [eval_ListComp]
  exact comp_core (tst := fun env => isTrue c env (eval c env)) hcalm B hi hg (fun C fp s H => pq_one (hc C fp s H)) he comp_if1 hs I h comp_done _
end
end L2

end

section
set_option Elab.async false
set_option linter.all false
set_option maxRecDepth 100000
set_option maxHeartbeats 4000000
/-! == and != of nested data (lists and tuples of texts, ints, truths, None, and of such), over the hand layer. -/
namespace L2
open PySem PySem.Spec PyProof.Rows PySem.SeqAt

mutual
/-- the value x, read deep, is the datum -/
inductive RdD (K : PySem.W.Frag) (H : Hp) : V → PyData → Prop
  | non : RdD K H .non .none
  | bl (b : Bool) : RdD K H (.bl b) (.bool b)
  | int (i : Int) : RdD K H (.int i) (.int i)
  | str (x : Str) : RdD K H (.str x) (.str x)
  | lst {a : Addr} {xs : List V} {ds : List PyData} : SqL K H a xs → RdDs K H xs ds → RdD K H (.ref a) (.list ds)
  | tup {a : Addr} {xs : List V} {ds : List PyData} : SqT K H a xs → RdDs K H xs ds → RdD K H (.ref a) (.tuple ds)
inductive RdDs (K : PySem.W.Frag) (H : Hp) : List V → List PyData → Prop
  | nil : RdDs K H [] []
  | cons {x : V} {xs : List V} {d : PyData} {ds : List PyData} : RdD K H x d → RdDs K H xs ds → RdDs K H (x :: xs) (d :: ds)
end

section
variable {X : Cx} {pins : List (Addr × Obj)} {σ : St} {H : Hp} {s : Shared}
mutual
theorem RdD.reads (I : Inv X pins σ H s) : ∀ {x : V} {d : PyData} {v : Value}, RdD X.K H x d → RelV x v → ∃ as, Reads s.heap v d as
  | _, _, _, .non, r => by cases (show _ = Value.none from r); exact ⟨_, .none⟩
  | _, _, _, .bl b, r => by cases (show _ = Value.bool b from r); exact ⟨_, .bool b⟩
  | _, _, _, .int i, r => by obtain ⟨t, e⟩ := (show ∃ t, _ = Value.int i t from r); subst e; exact ⟨_, .int i t⟩
  | _, _, _, .str x, r => by obtain ⟨t, e⟩ := (show ∃ t, _ = Value.str x t from r); subst e; exact ⟨_, .str x t⟩
  | _, _, _, .lst (a := a) hq hs, r => by
    cases (show _ = Value.ref a from r)
    obtain ⟨its, rv, pl, _⟩ := I.list hq
    obtain ⟨as, ra⟩ := RdDs.reads I hs rv
    obtain ⟨o, ho, hc, n, hd⟩ := pl.isList
    exact ⟨_, .list ho hc hd (by simpa using ra)⟩
  | _, _, _, .tup (a := a) hq hs, r => by
    cases (show _ = Value.ref a from r)
    obtain ⟨its, rv, pl, _⟩ := I.tuple hq
    obtain ⟨as, ra⟩ := RdDs.reads I hs rv
    obtain ⟨o, ho, hc, n, hd⟩ := pl
    exact ⟨_, .tuple ho hc hd (by simpa using ra)⟩
theorem RdDs.reads (I : Inv X pins σ H s) : ∀ {xs : List V} {ds : List PyData} {vs : List Value}, RdDs X.K H xs ds → Vals xs vs → ∃ as, ReadsAll s.heap vs ds as
  | _, _, _, .nil, .nil => ⟨_, .nil⟩
  | _, _, _, .cons hd ht, .cons r rr => by
    obtain ⟨as, ra⟩ := RdD.reads I hd r
    obtain ⟨bs, rb⟩ := RdDs.reads I ht rr
    exact ⟨_, .cons ra rb⟩
end

def rEqD (K : PySem.W.Frag) : R2 := fun x y H Q => ∃ d e, RdD K H x d ∧ RdD K H y e ∧ shaped d = true ∧ shaped e = true ∧ Q (.bl (PyData.eqv d e)) H
def rNeD (K : PySem.W.Frag) : R2 := fun x y H Q => ∃ d e, RdD K H x d ∧ RdD K H y e ∧ shaped d = true ∧ shaped e = true ∧ Q (.bl (!PyData.eqv d e)) H
theorem op_eqD (hu : X.A.units + 64 < cLine) : OpR X (compareOp .Eq) (rEqD X.K) := by
  intro pins s σ H x y v u Q I rx ry h
  obtain ⟨d, e, hd, he, sd, se, q⟩ := h
  obtain ⟨as, ra⟩ := RdD.reads I hd rx
  obtain ⟨bs, rb⟩ := RdD.reads I he ry
  exact eq_dataH ra rb sd se hu ⟨.bl _, H, I, rfl, q⟩
theorem op_neD (hu : X.A.units + 64 < cLine) : OpR X (compareOp .NotEq) (rNeD X.K) := by
  intro pins s σ H x y v u Q I rx ry h
  obtain ⟨d, e, hd, he, sd, se, q⟩ := h
  obtain ⟨as, ra⟩ := RdD.reads I hd rx
  obtain ⟨bs, rb⟩ := RdD.reads I he ry
  exact ne_dataH ra rb sd se hu ⟨.bl _, H, I, rfl, q⟩
theorem RdDs.strs {K : PySem.W.Frag} {H : Hp} : ∀ (ys : List Str), RdDs K H (ys.map V.str) (ys.map PyData.str)
  | [] => .nil
  | y :: r => .cons (.str y) (RdDs.strs r)
theorem RdDs.ints {K : PySem.W.Frag} {H : Hp} : ∀ (ys : List Int), RdDs K H (ys.map V.int) (ys.map PyData.int)
  | [] => .nil
  | y :: r => .cons (.int y) (RdDs.ints r)
end
end L2

end

section
set_option Elab.async false
set_option linter.all false
set_option maxRecDepth 100000
set_option maxHeartbeats 4000000
/-! Texts over the hand layer: slices, times an int, isalnum, upper, join, split; a loop over a text's signs; isinstance; all. -/
namespace L2
open PySem PySem.Spec PyProof.Rows
section
variable {X : Cx}

/-! ### slices -/
def rSlS : V → Option Int → Option Int → Hp → VK → Prop := fun x lo hi H Q => ∃ z, x = .str z ∧ z.length ≤ sizeLine ∧ Q (.str (Txt.slice z lo hi)) H
theorem sl_str : SlR X rSlS := by
  intro pins s σ H x v vl vu lo hi sl Q I rx hs pl pu h
  obtain ⟨z, rfl, hz, q⟩ := h
  obtain ⟨t, rfl⟩ := rx
  have fin : ∀ t' k, EP X pins σ Q (.str (Txt.slice z lo hi) t') { s with toks := k } := fun t' k => ⟨.str _, H, I.tok k, ⟨t', rfl⟩, q⟩
  refine ⟨"str", _, F.slot_str_getitem.lookup, typeIs_str _ _ _, ?_⟩
  cases pl with
  | none =>
    cases pu with
    | none => exact wpAny_getItem_str_slice (l := none) (u := none) (st := none) hs rfl (post_val_or_str ⟨Nat.le_trans (Txt.slice_le z _ _) hz, fin⟩)
    | int j tj => exact wpAny_getItem_str_slice (l := none) (u := some (j, tj)) (st := none) hs rfl (post_val_or_str ⟨Nat.le_trans (Txt.slice_le z _ _) hz, fin⟩)
  | int i ti =>
    cases pu with
    | none => exact wpAny_getItem_str_slice (l := some (i, ti)) (u := none) (st := none) hs rfl (post_val_or_str ⟨Nat.le_trans (Txt.slice_le z _ _) hz, fin⟩)
    | int j tj => exact wpAny_getItem_str_slice (l := some (i, ti)) (u := some (j, tj)) (st := none) hs rfl (post_val_or_str ⟨Nat.le_trans (Txt.slice_le z _ _) hz, fin⟩)

/-! ### methods -/
def rIsalnum : V → List V → Hp → VK → Prop := fun x vs H Q => ∃ z, x = .str z ∧ vs = [] ∧ Q (.bl (Txt.isalnum z)) H
theorem mt_isalnum : MtR X "str.isalnum" rIsalnum := by
  intro pins s σ H x vs v us Q I rx rv h
  obtain ⟨z, rfl, rfl, q⟩ := h
  obtain ⟨t, rfl⟩ := rx
  have e := rv.zero
  subst e
  exact SC.isalnum ⟨.bl _, H, I, rfl, q⟩
def rUpper : V → List V → Hp → VK → Prop := fun x vs H Q => ∃ z, x = .str z ∧ vs = [] ∧ (Txt.upper z).length ≤ sizeLine ∧ Q (.str (Txt.upper z)) H
theorem mt_upper : MtR X "str.upper" rUpper := by
  intro pins s σ H x vs v us Q I rx rv h
  obtain ⟨z, rfl, rfl, hz, q⟩ := h
  obtain ⟨t, rfl⟩ := rx
  have e := rv.zero
  subst e
  exact SC.upper (by unfold Builtin.Str.tooLong; exact decide_eq_false (by omega)) ⟨.str _, H, I.tok _, ⟨_, rfl⟩, q⟩

theorem strsAre_of : ∀ {ys : List Str} {us : List Value}, Vals (ys.map V.str) us → StrsAre us ys
  | [], _, .nil => .nil
  | y :: r, _, .cons h t => by
    obtain ⟨tk, rfl⟩ := h
    exact .cons y tk (strsAre_of t)
def rJoin (K : PySem.W.Frag) : V → List V → Hp → VK → Prop := fun x vs H Q => ∃ z p ys, x = .str z ∧ vs = [.ref p] ∧ SqL K H p (ys.map V.str) ∧ (ys.map (·.length)).sum + ys.length * z.length ≤ 16777216 ∧ Q (.str (Txt.join z ys)) H
theorem mt_join : MtR X "str.join" (rJoin X.K) := by
  intro pins s σ H x vs v us Q I rx rv h
  obtain ⟨z, p, ys, rfl, rfl, hq, hl, q⟩ := h
  obtain ⟨t, rfl⟩ := rx
  obtain ⟨u, rfl, ru⟩ := rv.one
  cases ru
  obtain ⟨its, r, pl, _⟩ := I.list hq
  exact join_list pl.isList (by simpa using strsAre_of r) hl fun t' k => ⟨.str _, H, I.tok k, ⟨t', rfl⟩, q⟩

theorem ns_inj {h : Heap} {a : Addr} {m m' : Str → Option Value} (x : h.Ns a m) (y : h.Ns a m') : m = m' := by
  obtain ⟨o, es, ep, ho, hd, _, hf⟩ := x
  obtain ⟨o', es', ep', ho', hd', _, hf'⟩ := y
  rw [ho] at ho'
  cases ho'
  rw [hd] at hd'
  cases hd'
  funext n
  rw [← hf n, ← hf' n]
/-- a new object is laid and tracked; of the frame's own object only its map is known to stay -/
theorem Inv.laidL {pins : List (Addr × Obj)} {s : Shared} {σ : St} {H : Hp} {h' : Heap} {t' : Nat} {o : HO} {m : Str → Option Value} (I : Inv X pins σ H s) (hm : s.heap.Ns X.env.locals m) (hm' : h'.Ns X.env.locals m)
    (k : ∀ b u, b ≠ X.env.locals → s.heap.get? b = some u → h'.get? b = some u) (new : ObjOk X.prog X.w (upd H s.heap.objs.size o) h' s.heap.objs.size o) : Inv X pins σ (upd H s.heap.objs.size o) { s with heap := h', toks := t' } := by
  have fresh : H s.heap.objs.size = none := I.hok.fresh (Nat.le_refl _)
  have ne_t : ∀ b u, s.heap.get? b = some u → b ≠ s.heap.objs.size := fun b u q => Nat.ne_of_lt (Heap.lt_size q)
  have neL : ∀ b u, H b = some u → b ≠ X.env.locals := fun b u q => ne_of_none q I.free
  refine I.step (g' := s.gens) (d' := s.drawn) (ch := []) (fun _ z => nomatch z) (fun b u hb _ _ q _ => k b u hb q) (fun b u hb _ _ q _ => ⟨u.slots, k b u hb q⟩) (fun b u _ q n => by rw [upd_ne (ne_t b u q)]; exact n)
    (fun b u _ q => ?_) (fun b ys q => by rw [upd_ne (ne_of_none q fresh)]; exact q) (fun b u ys q => by rw [upd_ne (ne_of_none q fresh)]; exact q) (fun b ps q => ⟨#[], by rw [upd_ne (ne_of_none q fresh), q]; simp⟩)
    (fun m2 hm2 => by rw [ns_inj hm2 hm]; exact hm') (fun b u q => ?_) I.bare
  · by_cases hb : b = X.env.locals
    · subst hb
      obtain ⟨o2, _, _, q2, _⟩ := hm'
      exact ⟨o2, q2⟩
    · exact ⟨u, k b u hb q⟩
  · by_cases hb : b = s.heap.objs.size
    · subst hb
      rw [upd_same] at q
      cases q
      exact new
    · rw [upd_ne hb] at q
      refine (I.hok b u q).stay (fun c v hc r => ?_) (fun c r => by rw [upd_ne (ne_of_none r fresh)]; exact r) fun c ys r => by rw [upd_ne (ne_of_none r fresh)]; exact r
      rcases hc with z | z
      · exact k c v (by rw [z]; exact neL b u q) r
      · exact k c v (neL c _ z) r
theorem vals_strs : ∀ (l : List (Str × Tok)), Vals ((l.map (·.1)).map V.str) (strValues l)
  | [] => .nil
  | p :: r => .cons ⟨p.2, rfl⟩ (vals_strs r)
def rSplit : V → List V → Hp → VK → Prop := fun x vs H Q => ∃ z y, x = .str z ∧ vs = [.str y] ∧ (y.length == 0) = false ∧ z.length + 2 ≤ sizeLine ∧ (Txt.split z y).length ≤ sizeLine ∧ ∀ p, H p = none → Q (.ref p) (upd H p (.lst ((Txt.split z y).map V.str)))
theorem mt_split : MtR X "str.split" rSplit := by
  intro pins s σ H x vs v us Q I rx rv h
  obtain ⟨z, y, rfl, rfl, hy, hz, hl, q⟩ := h
  obtain ⟨t, rfl⟩ := rx
  obtain ⟨u, rfl, ru⟩ := rv.one
  obtain ⟨t2, rfl⟩ := ru
  obtain ⟨m, F⟩ := I.fr
  refine splitN1 (news := allNews X.base s.heap X.env.locals) F news_all hy (fun l h' k e F' N' => ?_) hz
  have hD := (N' (s.heap.objs.size, _) List.mem_cons_self).1
  obtain ⟨m0, hm0, _⟩ := I.loc
  have kk : ∀ b u, b ≠ X.env.locals → s.heap.get? b = some u → h'.get? b = some u := fun b u hb q => by
    cases hq : X.base.get? b with
    | some o =>
      have := I.bk b o hq
      rw [q] at this
      cases this
      exact F'.keep b _ hq
    | none => exact (N' (b, u) (List.mem_cons_of_mem _ (mem_allNews hb hq q))).1
  have hl' : ((l.map (·.1)).map V.str).length ≤ sizeLine := by rw [e, List.length_map]; exact hl
  refine ⟨.ref s.heap.objs.size, _, I.laidL (t' := k) (o := .lst ((l.map (·.1)).map V.str)) F.ns F'.ns kk ⟨hl', strValues l, 0, vals_strs l, hD⟩, rfl, ?_⟩
  rw [e]
  exact q _ (I.hok.fresh (Nat.le_refl _))

/-! ### text * int -/
def rMulS : R2 := fun x y H Q => ∃ z k, x = .str z ∧ y = .int k ∧ -(2 ^ 63) ≤ k ∧ k < 2 ^ 63 ∧ z.length * k.toNat ≤ sizeLine ∧ Q (.str (Txt.mul z k)) H
theorem op_mul_str : OpR X (binaryOp .Mult) rMulS := by
  intro pins s σ H x y v u Q I rx ry h
  obtain ⟨z, k, rfl, rfl, h1, h2, hz, q⟩ := h
  obtain ⟨t, rfl⟩ := rx
  obtain ⟨t', rfl⟩ := ry
  refine SB.mul ⟨?_, fun hk _ => ?_, fun _ _ => ?_⟩ fun t' k' => ⟨.str _, H, I.tok k', ⟨t', rfl⟩, q⟩
  · rw [decide_eq_false (by omega), decide_eq_false (by omega)]; rfl
  · intro hgt
    have hk1 : 1 ≤ k := by omega
    have e1 : (z.length : Int) * k ≤ (sizeLine : Nat) := by
      have : ((z.length * k.toNat : Nat) : Int) ≤ (sizeLine : Nat) := by exact_mod_cast hz
      rw [Int.natCast_mul, Int.toNat_of_nonneg (by omega)] at this
      exact this
    have e2 : ((2 ^ 63 - 1) / k + 1) * k ≤ (z.length : Int) * k := Int.mul_le_mul_of_nonneg_right (by omega) (by omega)
    have e3 : (2 ^ 63 - 1 : Int) < ((2 ^ 63 - 1) / k + 1) * k := by
      have := Int.lt_mul_of_ediv_lt (a := 2 ^ 63 - 1) (b := (2 ^ 63 - 1) / k + 1) (c := k) (by omega) (by omega)
      exact this
    have e4 : ((sizeLine : Nat) : Int) < 2 ^ 63 - 1 := by decide
    omega
  · unfold Builtin.Str.tooLong
    exact decide_eq_false (by omega)
end
end L2

end

section
set_option Elab.async false
set_option linter.all false
set_option maxRecDepth 100000
set_option maxHeartbeats 4000000
/-! What a loop or a comprehension walks, more of it: a text's signs; enumerate of a list. -/
namespace L2
open PySem PySem.Spec PyProof.Rows

/-! ### the signs of a text -/
def Its (x : Str) : It := ⟨fun i _ => i < x.cps.size, fun i H v H' => H' = H ∧ ∃ c, x.cps[i]? = some c ∧ v = .str ⟨#[c]⟩, fun i _ => i = x.cps.size⟩
theorem turn_str {P : Program} {w : World} {K : PySem.W.Frag} {tg : Expr} (it : Addr) (x : Str) (t : Tok) (cls : String)
    (hn : ["enumerate", "zip", "dict_itemiterator", "dict_reverseitemiterator", "odict_iterator", "itertools.zip_longest", "itertools.pairwise"].contains cls = false)
    (W : ∀ A : Around, A.handled = none → Walks P w A it [it] [it] x.cps.size (SignAt x) (fun i h => h.IsStrIter it cls x t i))
    (hself : ∀ (A : Around) (i : Nat) (s : Shared) (Q : Value → Shared → Prop) (E : Value → Shared → Prop), s.heap.IsStrIter it cls x t i → Q (.ref it) s → wpAny (model P w) A (pyIter (.ref it)) Q E s) :
    Turn P w K tg (Its x) [it] it (fun i h => h.IsStrIter it cls x t i) where
  mem := by simp
  obj := fun i h st b hb => by
    have e : b = it := by simpa using hb
    subst e
    obtain ⟨o, e, c, d⟩ := st
    exact ⟨o, e, fun v z => by rw [d] at z; cases z⟩
  keep := fun i h h' st k => (let ⟨o, ho, r⟩ := st; ⟨o, k it (by simp) o ho, r⟩)
  item := by
    intro X hP hw hK hc i pins s σ H E I hf st hg
    subst hP hw hK
    obtain ⟨f0, f1, f2, f3, f4, f5⟩ := hf it (by simp)
    refine (W X.A (I.ok.hd hc)).item i s _ E hg st fun v h' tk hv st' kk => ?_
    obtain ⟨c, u, hx, rfl⟩ := hv
    have I1 : Inv X pins σ H { s with heap := h', toks := tk } := I.turned (fun b o hb e => kk b o (by simpa using hb) e) f0 f1 f3 f4 f5
    obtain ⟨o, e, oc, d⟩ := id st'
    exact ⟨_, rfl, go_of (s := { s with heap := h', toks := tk }) e oc d hn ⟨.str ⟨#[c]⟩, H, I1, ⟨u, rfl⟩, ⟨rfl, c, hx, rfl⟩, st', fun b hb => (hf b hb).1⟩⟩
  done := by
    intro X hP hw hK hc i pins s σ H E I hf st hg
    subst hP hw hK
    obtain ⟨f0, f1, f2, f3, f4, f5⟩ := hf it (by simp)
    have hg' : i = x.cps.size := hg
    subst hg'
    exact (W X.A (I.ok.hd hc)).done s _ E st fun h' tk kk => ⟨rfl, I.turned (fun b o hb e => kk b o (by simpa using hb) e) f0 f1 f3 f4 f5⟩
  self := hself

section
variable {X : Cx} {tg : Expr}
def iStr (tl : TE) : TI := fun σ H R => tl σ H fun x H1 => ∃ z, x = .str z ∧ R (Its z) H1
theorem pi_str {l : Expr} {tl : TE} (hl : PE X l tl) : PI X tg l (iStr tl) := by
  intro pins s σ H R I h
  refine thn (hl pins s σ H _ I h) fun v s1 ⟨x, H1, I1, r1, q1⟩ => ?_
  obtain ⟨z, e, q⟩ := q1
  subst e
  obtain ⟨t, rfl⟩ := r1
  have fp : ∀ b ∈ [s1.heap.objs.size], FpOk X pins H1 b := fun b hb => by
    have e : b = s1.heap.objs.size := by simpa using hb
    subst e
    exact I1.fpOk (Nat.le_refl _) (I1.hok.fresh (Nat.le_refl _))
  cases ha : z.cps.all (· < 128) with
  | false =>
    refine wpAny_pyIter_wide ha ?_
    exact ⟨s1.heap.objs.size, [s1.heap.objs.size], _, _, H1, rfl, I1.kept (t' := s1.toks) fun b o e => Heap.get?_push_of_some _ e,
      turn_str _ z t "str_iterator" (by decide) (fun A hA => Walks.strWide hA _ z t) (fun A i s Q E st hq => wpAny_pyIter_striter_wide st hq), ⟨_, Heap.get?_push_size _ rfl, rfl, rfl⟩, fp, q⟩
  | true =>
    refine wpAny_pyIter_ascii ha ?_
    exact ⟨s1.heap.objs.size, [s1.heap.objs.size], _, _, H1, rfl, I1.kept (t' := s1.toks) fun b o e => Heap.get?_push_of_some _ e,
      turn_str _ z t "str_ascii_iterator" (by decide) (fun A hA => Walks.strAscii hA _ z t) (fun A i s Q E st hq => wpAny_pyIter_striter_ascii st hq), ⟨_, Heap.get?_push_size _ rfl, rfl, rfl⟩, fp, q⟩
end

/-! ### enumerate of a list, unpacked by the target -/
def Ite (K : PySem.W.Frag) (l : Addr) : It :=
  ⟨fun i H => ∃ xs x, SqL K H l xs ∧ xs[i]? = some x, fun i H v H' => ∃ t x, v = .ref t ∧ H t = none ∧ H' = upd H t (.tup [.int i, x]) ∧ ∀ xs, SqL K H l xs → xs[i]? = some x, fun i H => ∃ xs, SqL K H l xs ∧ xs.length ≤ i⟩
theorem turn_enum {P : Program} {w : World} {K : PySem.W.Frag} {elts : List Expr} {x1 : Nat} {tpos : Pos} (l e it : Addr) (hne : e ≠ it) :
    Turn P w K (.Tuple elts x1 tpos) (Ite K l) [e, it] e (fun i h => (∃ old, IsEnum h e it i old) ∧ h.IsListIter it l i) where
  mem := by simp
  obj := fun i h st b hb => by
    obtain ⟨⟨old, s1⟩, o, s2, c, d⟩ := st
    rcases List.mem_cons.mp hb with z | z
    · subst z; exact ⟨_, s1, fun v q => by cases q⟩
    · have z' : b = it := by simpa using z
      subst z'; exact ⟨o, s2, fun v q => by rw [d] at q; cases q⟩
  keep := fun i h h' st k => ⟨let ⟨old, q⟩ := st.1; ⟨old, k e (by simp) _ q⟩, st.2.at fun o q => k it (by simp) o q⟩
  item := by
    intro X hP hw hK hc i pins s σ H E I hf st hg
    subst hP hw hK
    obtain ⟨xs, x, hq, hx⟩ := hg
    obtain ⟨its, rv, p, hz⟩ := I.list hq
    obtain ⟨u, hu, ru⟩ := rv.get hx
    obtain ⟨⟨old, s1⟩, s2⟩ := st
    have fe := hf e (by simp)
    have fi := hf it (by simp)
    refine wpAny_pyNext_enum_item s1 s2 p.isList (x := u) (by simpa using hu) hne fun h' eo s2' ht hsz kk => ?_
    refine ⟨_, rfl, wpAny_letOwnedTupleGo_enum eo fun h2 en sb => ?_⟩
    have hte : s.heap.objs.size ≠ e := Nat.ne_of_gt (Heap.lt_size s1)
    have k2 : ∀ b o, b ≠ e → b ≠ it → s.heap.get? b = some o → h2.get? b = some o := fun b o h1 h3 q => sb.extBut b o h1 (kk b o h1 h3 q)
    have fresh : H s.heap.objs.size = none := I.hok.fresh (Nat.le_refl _)
    have ne_t : ∀ b o, s.heap.get? b = some o → b ≠ s.heap.objs.size := fun b o q => Nat.ne_of_lt (Heap.lt_size q)
    have ne2 : ∀ b o, H b = some o → b ≠ e ∧ b ≠ it := fun b o q => ⟨ne_of_none q fe.1, ne_of_none q fi.1⟩
    have htup : h2.get? s.heap.objs.size = some { cls := .type "tuple", data := .seq #[.int i s.toks, u] } := sb.extBut _ _ hte ht
    have inch : ∀ b, b ∉ [e, it] → b ≠ e ∧ b ≠ it := fun b hb => ⟨fun z => hb (by simp [z]), fun z => hb (by simp [z])⟩
    have I2 : Inv X pins σ (upd H s.heap.objs.size (.tup [.int i, x])) { s with heap := h2, toks := s.toks + 1 } := by
      refine I.step (g' := s.gens) (d' := s.drawn) (ch := [e, it]) (fun b hb => ?_) (fun b o _ _ hb q _ => k2 b o (inch b hb).1 (inch b hb).2 q) (fun b o _ _ hb q _ => ⟨o.slots, k2 b o (inch b hb).1 (inch b hb).2 q⟩)
        (fun b o _ q n => by rw [upd_ne (ne_t b o q)]; exact n) (fun b o hb q => ⟨o, k2 b o (inch b hb).1 (inch b hb).2 q⟩) (fun b ys q => by rw [upd_ne (ne_of_none q fresh)]; exact q) (fun b o ys q => by rw [upd_ne (ne_of_none q fresh)]; exact q)
        (fun b ps q => ⟨#[], by rw [upd_ne (ne_of_none q fresh), q]; simp⟩) (fun m hm => hm.at' fun o q => k2 _ o fe.2.1.symm fi.2.1.symm q) (fun b o q => ?_) I.bare
      · rcases List.mem_cons.mp hb with z | z
        · subst z; exact ⟨fe.2.2.2.1, fe.2.1, fe.2.2.2.2.1, fe.2.2.2.2.2⟩
        · have z' : b = it := by simpa using z
          subst z'; exact ⟨fi.2.2.2.1, fi.2.1, fi.2.2.2.2.1, fi.2.2.2.2.2⟩
      · by_cases hb : b = s.heap.objs.size
        · subst hb
          rw [upd_same] at q
          cases q
          exact ⟨by show 2 ≤ sizeLine; decide, [.int i s.toks, u], .cons ⟨_, rfl⟩ (.cons ru .nil), ⟨_, htup, rfl, _, rfl⟩⟩
        · rw [upd_ne hb] at q
          refine (I.hok b o q).stay (fun c v hc r => ?_) (fun c r => by rw [upd_ne (ne_of_none r fresh)]; exact r) fun c ys r => by rw [upd_ne (ne_of_none r fresh)]; exact r
          have hc' : ∃ o', H c = some o' := by
            rcases hc with z | z
            · exact ⟨o, by rw [z]; exact q⟩
            · exact ⟨_, z⟩
          obtain ⟨o', hc'⟩ := hc'
          exact k2 c v (ne2 c o' hc').1 (ne2 c o' hc').2 r
    refine ⟨.ref s.heap.objs.size, _, I2, rfl, ⟨_, x, rfl, fresh, rfl, fun ys hy => by rw [I.list_inj hy hq]; exact hx⟩, ⟨⟨u, ?_⟩, s2'.extBut sb.extBut hne.symm⟩, fun b hb => ?_⟩
    · have e1 : ((i + 1 : Nat) : Int) = (i : Int) + 1 := by omega
      rw [e1]
      exact en
    · rcases List.mem_cons.mp hb with z | z
      · subst z; rw [upd_ne (ne_t _ _ s1)]; exact fe.1
      · have z' : b = it := by simpa using z
        subst z'
        obtain ⟨o, s3, _⟩ := s2
        rw [upd_ne (ne_t _ _ s3)]; exact fi.1
  done := by
    intro X hP hw hK hc i pins s σ H E I hf st hg
    subst hP hw hK
    obtain ⟨xs, hq, hx⟩ := hg
    obtain ⟨its, rv, p, hz⟩ := I.list hq
    obtain ⟨⟨old, s1⟩, s2⟩ := st
    obtain ⟨f0, f1, f2, f3, f4, f5⟩ := hf it (by simp)
    have hl := rv.length
    exact wpAny_pyNext_enum_end (I.ok.hd hc) s1 s2 p.isList (by simp; omega) fun h' eb => ⟨rfl, I.turned (t' := s.toks) (fun b o hb q => eb b o hb q) f0 f1 f3 f4 f5⟩
  self := fun A i s Q E st h => (let ⟨old, q⟩ := st.1; wpAny_pyIter_enum q h)

section
variable {X : Cx}
def iEnum (K : PySem.W.Frag) (ta : TA) : TI := fun σ H R => ta σ H fun vs H1 => ∃ a, vs = [.ref a] ∧ (∃ xs, SqL K H1 a xs) ∧ R (Ite K a) H1
theorem pi_enum {elts : List Expr} {x1 : Nat} {tpos : Pos} {a : Expr} {ta : TA} {p pos : Pos} (hg : Gl X "enumerate") (hm : X.mg "enumerate" = none) (hb : bootBuiltins "enumerate" = some (.type "enumerate")) (ha : PA X [a] ta) (hs : starEach [a] X.env = [(false, eval a X.env)] := by rfl) :
    PI X (.Tuple elts x1 tpos) (.Call (.Name "enumerate" p) [a] [] pos) (iEnum X.K ta) := by
  intro pins s σ H R I h
  refine Call_ (ld_blt I hg hm hb (PyProof.Rows.callWith_type1 (thn (ha pos pins s σ H _ I h) fun us s1 ⟨vs, H1, I1, r1, q1⟩ => ?_) hs rfl))
  obtain ⟨l, e, ⟨xs, hq⟩, q⟩ := q1
  subst e
  obtain ⟨u, rfl, ru⟩ := r1.one
  cases ru
  obtain ⟨its, rv, pl, hz⟩ := I1.list hq
  refine call_enumerate_list pl.isList fun h' en li hsz kk => wpAny_pyIter_enum en ?_
  refine ⟨s1.heap.objs.size + 1, [s1.heap.objs.size + 1, s1.heap.objs.size], _, _, H1, rfl, I1.kept (t' := s1.toks) kk, turn_enum l _ _ (Nat.succ_ne_self _), ⟨⟨_, en⟩, li⟩, fun b hb => ?_, q⟩
  have hb' : s1.heap.objs.size ≤ b := by
    rcases List.mem_cons.mp hb with z | z
    · rw [z]; exact Nat.le_succ _
    · have z' : b = s1.heap.objs.size := by simpa using z
      rw [z']; exact Nat.le_refl _
  exact I1.fpOk hb' (I1.hok.fresh hb')
end
end L2

/-! ### all(..) of a list of truths -/
namespace L2
open PySem PySem.Spec PyProof.Rows
theorem range_all_get (ys : List Bool) : (List.range ys.length).all (fun i => ys.getD i false) = ys.all id := by
  rw [Bool.eq_iff_iff, List.all_eq_true, List.all_eq_true]
  constructor
  · intro h y hy
    obtain ⟨i, hi, e⟩ := List.getElem_of_mem hy
    have := h i (List.mem_range.mpr hi)
    rw [List.getD_eq_getElem?_getD, List.getElem?_eq_getElem hi] at this
    rw [← e]
    exact this
  · intro h i hi
    have hi' := List.mem_range.mp hi
    rw [List.getD_eq_getElem?_getD, List.getElem?_eq_getElem hi']
    exact h _ (List.getElem_mem hi')
theorem call_all {X : Cx} (hc : X.calm = true) : CallR X (.builtin "all") (fun xs H Q => ∃ (p : Addr) (ys : List Bool), xs = [.ref p] ∧ SqL X.K H p (ys.map V.bl) ∧ Q (.bl (ys.all id)) H) := by
  intro pins s σ H xs us Q I r h
  obtain ⟨p, ys, rfl, hq, q⟩ := h
  obtain ⟨u, rfl, ru⟩ := r.one
  cases ru
  obtain ⟨its, rv, pl, hz⟩ := I.list hq
  obtain ⟨o, ho, _, _, _⟩ := id pl.isList
  have hne : p ≠ s.heap.objs.size := Nat.ne_of_lt (Heap.lt_size ho)
  have hl := rv.length
  rw [List.length_map] at hl
  refine call_all_walk (wpAny_pyIter_list pl.isList ?_)
  refine ⟨s.heap.objs.size, _, _, _, _, _, fun i => ys.getD i false, rfl, Walks.list (A := X.A.in1) (show X.A.in1.handled = none from I.ok.hd hc) _ p hne its.toArray, ⟨⟨_, Heap.get?_push_size _ rfl, rfl, rfl⟩, pl.isList.at fun o e => Heap.get?_push_of_some _ e⟩, fun i v s1 Q1 E1 hv hq1 => ?_, fun h' tk kk => ?_⟩
  · have hv' : its[i]? = some v := by simpa using hv
    have hi : i < ys.length := by
      have := (List.getElem?_eq_some_iff.mp hv').1
      omega
    obtain ⟨u', e', r'⟩ := rv.get (i := i) (x := V.bl ys[i]) (by rw [List.getElem?_map, List.getElem?_eq_getElem hi]; rfl)
    rw [hv'] at e'
    cases e'
    cases (show _ = Value.bool ys[i] from r')
    refine wpAny_truthy_bool ?_
    dsimp only at hq1
    rw [List.getD_eq_getElem?_getD, List.getElem?_eq_getElem hi] at hq1
    exact hq1
  · have e : (List.range its.toArray.size).all (fun i => ys.getD i false) = ys.all id := by
      rw [List.size_toArray, ← hl]
      exact range_all_get ys
    refine ⟨.bl (ys.all id), H, I.kept fun b o e => kk b o (fun z => ?_) (Heap.get?_push_of_some _ e), by rw [e]; rfl, q⟩
    have z' : b = s.heap.objs.size := by simpa using z
    exact absurd (Heap.lt_size e) (by rw [z']; exact Nat.lt_irrefl _)
end L2

end

section
set_option Elab.async false
set_option linter.all false
set_option maxRecDepth 100000
set_option maxHeartbeats 4000000
/-! Comprehensions whose element and test change nothing: their list said at once. -/
namespace L2
open PySem PySem.Spec PyProof.Rows

/-- a block that sees no name of the def's -/
theorem BlockOk.plain {X : Cx} {N : List Str} {scope : Scope} (kind : scope.kind = .function) (nocell : ∀ y ∈ scope.names, y.2 ≠ .cell) (names : ∀ y ∈ scope.names, y.2 = .local → scope.names.lookup y.1 = some .local) (nofree : ∀ y ∈ scope.names, y.2 ≠ .free) :
    BlockOk X N (N.map fun _ => none) scope [] where
  kind := kind
  nocell := nocell
  names := names
  clos := closureFor_none nofree
  sub := fun y c h => by simp at h
  has := fun y h => absurd rfl (nofree _ (lookup_mem_kind h))
  len := by simp
  seen := fun i j y _ h => by
    rw [List.getElem?_map] at h
    cases q : N[i]? with
    | none => rw [q] at h; cases h
    | some z => rw [q] at h; cases h

theorem comp_pure {J : It} {g : TG} {tc : TT} {te : TE} {Q : VK} {H : Hp} {D : Addr} {σ0 : St} (ys : List V) (p : V → Bool) (f : V → V) (Pσ : St → Prop) (Rσ : V → St → Prop) (h0 : Pσ σ0)
    (hgo : ∀ i l, i < ys.length → J.go i (upd H D (.lst l))) (hstop : ∀ l, J.stop ys.length (upd H D (.lst l)))
    (hy : ∀ i l x H', i < ys.length → J.yld i (upd H D (.lst l)) x H' → H' = upd H D (.lst l) ∧ ys[i]? = some x)
    (hg : ∀ x ∈ ys, ∀ σ' H' K, Pσ σ' → (∀ σ3, Pσ σ3 → Rσ x σ3 → K σ3 H') → g x σ' H' K)
    (hc : ∀ x ∈ ys, ∀ σ' l K, Rσ x σ' → K (p x) (upd H D (.lst l)) → tc σ' (upd H D (.lst l)) K)
    (he : ∀ x ∈ ys, p x = true → ∀ σ' l K, Rσ x σ' → K (f x) (upd H D (.lst l)) → te σ' (upd H D (.lst l)) K)
    (hz : ys.length ≤ sizeLine) (hQ : Q (.ref D) (upd H D (.lst ((ys.filter p).map f)))) :
    CompW J g tc te D Q σ0 (upd H D (.lst [])) := by
  refine ⟨fun i m σ' H' => m = ys.length - i ∧ i ≤ ys.length ∧ Pσ σ' ∧ H' = upd H D (.lst (((ys.take i).filter p).map f)), ⟨ys.length, by simp, Nat.zero_le _, h0, by simp⟩, ?_⟩
  rintro i m σ' H' ⟨rfl, hi, hP, rfl⟩
  by_cases hlt : i < ys.length
  · refine .inr ⟨hgo i _ hlt, fun σ2 H2 => Pσ σ2 ∧ H2 = upd H D (.lst (((ys.take (i + 1)).filter p).map f)), fun σ2 H2 ⟨a, b⟩ => ⟨ys.length - (i + 1), by omega, rfl, hlt, a, b⟩, fun x H2 hx => ?_⟩
    obtain ⟨eH, hgx⟩ := hy i _ x H2 hlt hx
    subst eH
    have hm : x ∈ ys := List.mem_of_getElem? hgx
    have e1 : ys.take (i + 1) = ys.take i ++ [x] := by rw [List.take_add_one, hgx]; rfl
    refine hg x hm σ' _ _ hP fun σ3 hP3 hR => hc x hm σ3 _ _ hR ?_
    cases hp : p x with
    | true =>
      refine iteT (he x hm hp σ3 _ _ hR ⟨_, upd_same, ?_, hP3, ?_⟩)
      · rw [List.length_map]
        have a1 := List.length_filter_le p (ys.take i)
        have a2 : (ys.take i).length = i := by rw [List.length_take]; omega
        omega
      · rw [upd_upd, e1, List.filter_append, List.map_append]
        simp [hp]
    | false =>
      refine iteF ⟨hP3, ?_⟩
      rw [e1, List.filter_append, List.map_append]
      simp [hp]
  · have e : i = ys.length := by omega
    subst e
    refine .inl ⟨hstop _, ?_⟩
    rw [List.take_length]
    exact hQ

/-- .. over the signs of a text, the target one name in the first slot, the other slots rest -/
theorem comp_signs {tc : TT} {te : TE} {Q : VK} {H : Hp} {D : Addr} {z : Str} {σ0 : St} (v0 : Option V) (rest : St) (p : Nat → Bool) (f : Nat → V) (e0 : σ0 = v0 :: rest)
    (hc : ∀ c ∈ z.cps.toList, ∀ l K, K (p c) (upd H D (.lst l)) → tc (some (.str ⟨#[c]⟩) :: rest) (upd H D (.lst l)) K)
    (he : ∀ c ∈ z.cps.toList, p c = true → ∀ l K, K (f c) (upd H D (.lst l)) → te (some (.str ⟨#[c]⟩) :: rest) (upd H D (.lst l)) K)
    (hz : z.length ≤ sizeLine) (hQ : Q (.ref D) (upd H D (.lst ((z.cps.toList.filter p).map f)))) :
    CompW (Its z) (gName 0) tc te D Q σ0 (upd H D (.lst [])) := by
  have cod : ∀ c : Nat, (match (V.str ⟨#[c]⟩ : V) with | .str x => x.cps.getD 0 0 | _ => 0) = c := fun c => rfl
  refine comp_pure (z.cps.toList.map fun c => V.str ⟨#[c]⟩) (fun v => p (match v with | .str x => x.cps.getD 0 0 | _ => 0)) (fun v => f (match v with | .str x => x.cps.getD 0 0 | _ => 0)) (fun σ' => ∃ v, σ' = v :: rest) (fun x σ' => σ' = some x :: rest) ⟨v0, e0⟩
    (fun i l h => ?_) (fun l => ?_) (fun i l x H' _ h => ?_) (fun x _ σ' H' K h1 h2 => ?_) (fun x hx σ' l K h1 h2 => ?_) (fun x hx hp σ' l K h1 h2 => ?_) ?_ ?_
  · show i < z.cps.size
    rw [List.length_map, Array.length_toList] at h
    exact h
  · show (z.cps.toList.map fun c => V.str ⟨#[c]⟩).length = z.cps.size
    rw [List.length_map, Array.length_toList]
  · obtain ⟨rfl, c, hc', rfl⟩ := h
    refine ⟨rfl, ?_⟩
    rw [List.getElem?_map, show z.cps.toList[i]? = some c by simpa using hc']
    rfl
  · obtain ⟨v, rfl⟩ := h1
    exact h2 _ ⟨_, rfl⟩ rfl
  · obtain ⟨c, hc', rfl⟩ := List.mem_map.mp hx
    rw [h1]
    exact hc c hc' l K h2
  · obtain ⟨c, hc', rfl⟩ := List.mem_map.mp hx
    rw [h1]
    exact he c hc' hp l K h2
  · rw [List.length_map]
    have : z.cps.toList.length = z.length := by simp [Str.length]
    omega
  · have e : ((z.cps.toList.map fun c => V.str ⟨#[c]⟩).filter fun v => p (match v with | .str x => x.cps.getD 0 0 | _ => 0)).map (fun v => f (match v with | .str x => x.cps.getD 0 0 | _ => 0)) = (z.cps.toList.filter p).map f := by
      rw [List.filter_map, List.map_map]
      rfl
    rw [e]
    exact hQ
/-- .. without a test -/
theorem comp_signs0 {te : TE} {Q : VK} {H : Hp} {D : Addr} {z : Str} {σ0 : St} (v0 : Option V) (rest : St) (f : Nat → V) (e0 : σ0 = v0 :: rest)
    (he : ∀ c ∈ z.cps.toList, ∀ l K, K (f c) (upd H D (.lst l)) → te (some (.str ⟨#[c]⟩) :: rest) (upd H D (.lst l)) K)
    (hz : z.length ≤ sizeLine) (hQ : Q (.ref D) (upd H D (.lst (z.cps.toList.map f)))) : CompW (Its z) (gName 0) tTrue te D Q σ0 (upd H D (.lst [])) :=
  comp_signs v0 rest (fun _ => true) f e0 (fun _ _ _ _ k => k) (fun c hc _ => he c hc) hz (by rw [List.filter_eq_self.mpr fun _ _ => rfl]; exact hQ)
end L2

end

section
set_option Elab.async false
set_option linter.all false
set_option maxRecDepth 100000
set_option maxHeartbeats 1000000
/-! x = [.. for ..] on one line, x a local name: the list is stored ahead of the block's end. -/
namespace L2
open PySem PySem.Spec PyProof.Rows
section
variable {X : Cx} {N : List Str} {nl : List (Option Nat)} {scope : Scope} {cl : List (Str × Addr)} {elt tg iter : Expr} {pos pos' spos : Pos} {wi : TI} {g : TG} {tc : TT} {te : TE} {i : Nat} {x : Str}
theorem comp_used {pins : List (Addr × Obj)} {σ : St} {Dd : Ends} (hN : X.N.Nodup) (hi : X.N[i]? = some x) (hk : X.env.scope.names.lookup x = some .local) (D C : Addr) (s' s2 : Shared) (fp : List Addr) (σ' : St) (H' H2 : Hp)
    (I2 : Inv X pins σ H2 s2) (f2 : ∀ b ∈ fp, FpOk X pins H2 b) (hC : s2.heap.objs.size ≤ C) (J : Inv (X.block N scope cl C fp s2 H2) [] σ' H' s') (q : Dd.nx (σ.set i (some (.ref D))) H') :
    compPost (model X.prog X.w) X.A X.xe (some (assign (.Name x pos') X.env)) (fun _ s3 => SP X pins Dd .next s3) (.ref D) C (.ok .next) s' := by
  have I3 : Inv X pins σ H' s' := block_end (h2 := s'.heap) I2 f2 hC J fun b o _ e => e
  have ne : ∀ b o, s2.heap.get? b = some o → b ≠ C := fun b o e => Nat.ne_of_lt (Nat.lt_of_lt_of_le (Heap.lt_size e) hC)
  have neL : C ≠ X.env.locals := fun z => by
    obtain ⟨m, ⟨o, _, _, ho, _⟩, _⟩ := I2.loc
    exact ne _ o ho z.symm
  obtain ⟨m, hn, _⟩ := J.loc
  show wpAny _ _ (assign (.Name x pos') X.env (.ref D)) _ _ _
  have e : assign (.Name x pos') X.env (.ref D) = (do standAt pos'; bindName X.env x (.ref D)) := by rfl
  rw [e]
  refine wpAny_bind (wpAny_standAt (wpAny_bindName ?_))
  refine store_ok2 (v := .ref D) I3 hN hi (.inl hk) rfl (fun s4 I4 ⟨a, sb, ha⟩ => ?_) (.inr hk)
  have hCa : C ≠ a := by
    rcases ha with z | z
    · rw [z]; exact neL
    · obtain ⟨v, o, ho, _⟩ := I2.cell x a z
      exact fun z2 => ne a o ho z2.symm
  refine ⟨m, hn.sameBut sb hCa, fun h' sb' => ⟨_, H', ?_, q⟩⟩
  refine I4.turned (t' := s4.toks) (it := C) (fun b o hb e => sb'.extBut b o hb e) J.free neL (.inr (Nat.le_trans I2.sz hC)) (fun y c e z => ?_) fun p hp z => ?_
  · obtain ⟨v, o, ho, _⟩ := I2.cell y c e
    exact ne c o ho z
  · exact ne p.1 _ (I2.pin p hp).1 z
def tSetC (i : Nat) (t : TE) : TS := fun D σ H => t σ H fun v H' => D.nx (σ.set i (some v)) H'
theorem ps_setcomp0 (hcalm : X.calm = true) (hN : X.N.Nodup) (hi : X.N[i]? = some x) (hk : X.env.scope.names.lookup x = some .local) (B : BlockOk X N nl scope cl) (hit : PI X tg iter wi) (hg : ∀ C fp s H, PG (X.block N scope cl C fp s H) tg g) (he : ∀ C fp s H, PE (X.block N scope cl C fp s H) elt te)
    (hs : ∀ x, foldedSetIterable iter X.env x = pure x := by intro _; rfl) (hsw : swapsWith (.ListComp elt [⟨tg, iter, [], 0⟩] scope pos) (some (.Name x pos')) spos.line X.env = pure true := by rfl) :
    PS X (.Assign [.Name x pos'] (.ListComp elt [⟨tg, iter, [], 0⟩] scope pos) spos) (tSetC i (tComp wi nl g tTrue te)) := by
  intro pins s σ H D I h
  rw [exec_Assign_Name_used _ _ _ _ hsw]
  refine wpAny_bind (wpAny_standAt (wpAny_bind ?_))
  show wpAny _ _ (evalThenUse (.ListComp elt [⟨tg, iter, [], 0⟩] scope pos) X.env _) _ _ _
  unfold evalThenUse
  refine wpAny_bind ?_
  exact thn (comp_core (Q := fun v H' => D.nx (σ.set i (some v)) H') (tst := fun _ => pure true) (Q' := fun _ s3 => SP X pins D .next s3) hcalm B hit hg (fun _ _ _ _ => pq_none) he comp_if0 hs I h (fun D' C s' s2 fp σ' H' H2 I2 f2 hC J q => comp_used hN hi hk D' C s' s2 fp σ' H' H2 I2 f2 hC J q) _) fun _ s3 z => wpAny_pure (wpAny_pure z)
theorem ps_setcomp1 {c : Expr} (hcalm : X.calm = true) (hN : X.N.Nodup) (hi : X.N[i]? = some x) (hk : X.env.scope.names.lookup x = some .local) (B : BlockOk X N nl scope cl) (hit : PI X tg iter wi) (hg : ∀ C fp s H, PG (X.block N scope cl C fp s H) tg g) (hc : ∀ C fp s H, PT (X.block N scope cl C fp s H) c tc) (he : ∀ C fp s H, PE (X.block N scope cl C fp s H) elt te)
    (hs : ∀ x, foldedSetIterable iter X.env x = pure x := by intro _; rfl) (hsw : swapsWith (.ListComp elt [⟨tg, iter, [c], 0⟩] scope pos) (some (.Name x pos')) spos.line X.env = pure true := by rfl) :
    PS X (.Assign [.Name x pos'] (.ListComp elt [⟨tg, iter, [c], 0⟩] scope pos) spos) (tSetC i (tComp wi nl g tc te)) := by
  intro pins s σ H D I h
  rw [exec_Assign_Name_used _ _ _ _ hsw]
  refine wpAny_bind (wpAny_standAt (wpAny_bind ?_))
  show wpAny _ _ (evalThenUse (.ListComp elt [⟨tg, iter, [c], 0⟩] scope pos) X.env _) _ _ _
  unfold evalThenUse
  refine wpAny_bind ?_
  exact thn (comp_core (Q := fun v H' => D.nx (σ.set i (some v)) H') (tst := fun env => isTrue c env (eval c env)) (Q' := fun _ s3 => SP X pins D .next s3) hcalm B hit hg (fun C fp s H => pq_one (hc C fp s H)) he comp_if1 hs I h (fun D' C s' s2 fp σ' H' H2 I2 f2 hC J q => comp_used hN hi hk D' C s' s2 fp σ' H' H2 I2 f2 hC J q) _) fun _ s3 z => wpAny_pure (wpAny_pure z)
end
end L2

end

section
set_option Elab.async false
set_option linter.all false
set_option maxRecDepth 100000
set_option maxHeartbeats 4000000
namespace L2
open PySem PySem.Spec PyProof.Rows
/-- a block that sees names of the def's -/
theorem BlockOk.of {X : Cx} {N : List Str} {nl : List (Option Nat)} {scope : Scope} {cl : List (Str × Addr)} (kind : scope.kind = .function) (nocell : ∀ y ∈ scope.names, y.2 ≠ .cell) (names : ∀ y ∈ scope.names, y.2 = .local → scope.names.lookup y.1 = some .local)
    (clos : closureFor scope X.env = pure cl) (sub : ∀ p ∈ cl, X.env.cells.lookup p.1 = some p.2) {nm : List Str} (hnm : cl.map (·.1) = nm) (has : ∀ y ∈ scope.names, y.2 = .free → y.1 ∈ nm) (len : nl.length = N.length)
    (seen : ∀ i < nl.length, ∀ j, nl[i]? = some (some j) → ∃ y, N[i]? = some y ∧ X.N[j]? = some y ∧ scope.names.lookup y = some .free ∧ (X.env.scope.names.lookup y = some .cell ∨ X.env.scope.names.lookup y = some .free)) : BlockOk X N nl scope cl where
  kind := kind
  nocell := nocell
  names := names
  clos := clos
  sub := fun y c h => sub (y, c) (PySem.mem_of_lookup h)
  has := fun y h => by
    have hm := has _ (lookup_mem_kind h) rfl
    rw [← hnm] at hm
    cases q : cl.lookup y with
    | some c => exact ⟨c, rfl⟩
    | none =>
      obtain ⟨p, hp, e⟩ := List.mem_map.mp hm
      have := List.lookup_eq_none_iff.mp q p hp
      simp [e] at this
  len := len
  seen := fun i j y h1 h2 => by
    obtain ⟨z, a, b, c, d⟩ := seen i (List.getElem?_eq_some_iff.mp h2).1 j h2
    rw [h1] at a
    cases a
    exact ⟨b, c, d⟩
theorem sub1 {env : Env} {x : Str} {a : Addr} (h : env.cells.lookup x = some a) : ∀ p ∈ [(x, a)], env.cells.lookup p.1 = some p.2 := fun p hp => by
  rcases List.mem_cons.mp hp with e | hp
  · subst e; exact h
  · cases hp
theorem sub2 {env : Env} {x y : Str} {a b : Addr} (h : env.cells.lookup x = some a) (h' : env.cells.lookup y = some b) : ∀ p ∈ [(x, a), (y, b)], env.cells.lookup p.1 = some p.2 := fun p hp => by
  rcases List.mem_cons.mp hp with e | hp
  · subst e; exact h
  · exact sub1 h' p hp
/-- [elt for k in range(n)], the element a function of k -/
theorem comp_range {te : TE} {Q : VK} {H : Hp} {D : Addr} {n : Nat} {σ0 : St} (v0 : Option V) (rest : St) (f : Nat → V) (e0 : σ0 = v0 :: rest)
    (he : ∀ i, i < n → ∀ l K, K (f i) (upd H D (.lst l)) → te (some (.int i) :: rest) (upd H D (.lst l)) K)
    (hz : n ≤ sizeLine) (hQ : Q (.ref D) (upd H D (.lst ((List.range n).map f)))) : CompW (Itr 0 n) (gName 0) tTrue te D Q σ0 (upd H D (.lst [])) := by
  have cod : ∀ i : Nat, (match (V.int (i : Int) : V) with | .int x => x.toNat | _ => 0) = i := fun i => by simp
  refine comp_pure ((List.range n).map fun i : Nat => V.int i) (fun _ => true) (fun v => f (match v with | .int x => x.toNat | _ => 0)) (fun σ' => ∃ v, σ' = v :: rest) (fun x σ' => σ' = some x :: rest) ⟨v0, e0⟩
    (fun i l h => ?_) (fun l => ?_) (fun i l x H' hi h => ?_) (fun x _ σ' H' K h1 h2 => ?_) (fun x hx σ' l K h1 h2 => h2) (fun x hx hp σ' l K h1 h2 => ?_) ?_ ?_
  · rw [List.length_map, List.length_range] at h
    exact h
  · show n ≤ _
    rw [List.length_map, List.length_range]
    exact Nat.le_refl _
  · obtain ⟨rfl, hx⟩ := h
    refine ⟨rfl, ?_⟩
    rw [List.length_map, List.length_range] at hi
    rw [List.getElem?_map, List.getElem?_range hi, hx, Int.zero_add]
    rfl
  · obtain ⟨v, rfl⟩ := h1
    exact h2 _ ⟨_, rfl⟩ rfl
  · obtain ⟨i, hi, rfl⟩ := List.mem_map.mp hx
    rw [h1]
    have := he i (List.mem_range.mp hi) l K
    refine this ?_
    have h2' := h2
    simp only [Int.toNat_natCast] at h2'
    exact h2'
  · rw [List.length_map, List.length_range]; exact hz
  · rw [List.filter_eq_self.mpr fun _ _ => rfl, List.map_map]
    have : ((fun v => f (match v with | .int x => x.toNat | _ => 0)) ∘ fun i : Nat => V.int i) = f := by
      funext i
      simp
    rw [this]
    exact hQ
end L2

end

section
set_option Elab.async false
set_option linter.all false
set_option maxRecDepth 100000
set_option maxHeartbeats 1000000
/-! Exceptions of own classes at the layer's level. -/
namespace L2
open PySem PySem.Spec PyProof.Rows PySem.XF

/-- an exception of the class at C, its dict at ed -/
def excO (a C : Addr) (ed : Option Addr) : HO := .ext fun h => ∃ vs sl, h.get? a = some { cls := .ref C, dict := ed, data := .fields vs, slots := sl }
theorem excO_ok {P : Program} {w : World} {H : Hp} {h : Heap} {a C : Addr} {ed : Option Addr} {vs : Array Value} {sl : Array (Option Value)} (e : h.get? a = some { cls := .ref C, dict := ed, data := .fields vs, slots := sl }) : ObjOk P w H h a (excO a C ed) :=
  ⟨⟨vs, sl, e⟩, ⟨_, e⟩, fun h1 h2 ⟨vs, sl, q⟩ k => ⟨vs, sl, k _ q⟩⟩
/-- a record of the exception's own: nothing else leans on it -/
structure Lone (X : Cx) (pins : List (Addr × Obj)) (H : Hp) (a T : Addr) : Prop where
  new : X.s₀.heap.objs.size ≤ T
  pin : ∀ p ∈ X.pn ++ pins, p.1 ≠ T
  free : H T = none
  ne : T ≠ a
/-- the exception at a stands so: fresh (fl = none), or its newest entry is in flight at fl -/
def Flies (X : Cx) (pins : List (Addr × Obj)) (H : Hp) (h : Heap) (a C : Addr) (ed : Option Addr) (fl : Option Value) : Prop :=
  H a = some (excO a C ed) ∧ ∃ vs sl, h.get? a = some { cls := .ref C, dict := ed, data := .fields vs, slots := sl } ∧ match fl with
    | none => vs[1]? = some .none
    | some f => ∃ T, TbAt h vs T f ∧ Lone X pins H a T

section
variable {X : Cx} {pins : List (Addr × Obj)} {σ : St} {H : Hp} {s : Shared} {a C : Addr} {ed : Option Addr} {E : Value → Shared → Prop}
/-- a field record is no frame, no cell -/
theorem Inv.lone (I : Inv X pins σ H s) {T : Addr} {oT : Obj} {ts : Array Value} (n : Lone X pins H a T) (hT : s.heap.get? T = some oT) (hd : oT.data = .fields ts) :
    (T ∈ X.ex ∨ X.s₀.heap.objs.size ≤ T) ∧ T ≠ X.env.locals ∧ (∀ x c, X.env.cells.lookup x = some c → c ≠ T) ∧ ∀ p ∈ X.pn ++ pins, p.1 ≠ T := by
  refine ⟨.inr n.new, fun z => ?_, fun x c e z => ?_, n.pin⟩
  · obtain ⟨m, ⟨o, es, ep, ho, hd', _⟩, _⟩ := I.loc
    rw [← z, hT] at ho; cases ho; rw [hd] at hd'; cases hd'
  · obtain ⟨v, o, ho, hd'⟩ := I.cell x c e
    rw [z, hT] at ho; cases ho; rw [hd] at hd'; cases hd'
/-- the exception has moved: nothing else is changed -/
theorem Inv.wake {h' : Heap} {ex : List Addr} {vs : Array Value} {sl : Array (Option Value)} (I : Inv X pins σ H s) (hx : H a = some (excO a C ed)) (wk : Wake (frs X.stack) ex a s.heap h') (ea : h'.get? a = some { cls := .ref C, dict := ed, data := .fields vs, slots := sl })
    (hex : ∀ b ∈ ex, H b = none ∧ (b ∈ X.ex ∨ X.s₀.heap.objs.size ≤ b) ∧ b ≠ X.env.locals ∧ (∀ x c, X.env.cells.lookup x = some c → c ≠ b) ∧ ∀ p ∈ X.pn ++ pins, p.1 ≠ b) : Inv X pins σ H { s with heap := h' } := by
  have na : ∀ b, H b = none → b ≠ a := fun b n z => by rw [z, hx] at n; cases n
  have nfs : ∀ b o, H b = some o → b ∉ frs X.stack := fun b o q z => by rw [I.stkFree b z] at q; cases q
  have nex : ∀ b o, H b = some o → b ∉ ex := fun b o q z => by rw [(hex b z).1] at q; cases q
  have there : ∀ b o, s.heap.get? b = some o → b ∉ ex → ∃ o', h'.get? b = some o' := fun b o q z => by
    by_cases e1 : b = a
    · rw [e1]; exact ⟨_, ea⟩
    · by_cases e2 : b ∈ frs X.stack
      · obtain ⟨sl, r⟩ := wk.slot b o q e2 e1 z; exact ⟨_, r⟩
      · exact ⟨_, wk.keep b o q e2 e1 z⟩
  refine I.call (g' := s.gens) (d' := s.drawn) (t' := s.toks) (ch := ex) ⟨fun b o q n h1 h2 => wk.keep b o q h1 (na b n) h2, fun b o q n h1 h2 => wk.slot b o q h1 (na b n) h2, fun _ _ _ n _ => n, there, fun _ _ q => q, fun _ _ _ q => q, fun _ ps q => ⟨#[], by simpa using q⟩⟩ (fun b u q => ?_) I.bare fun b hb => (hex b hb).2
  by_cases e1 : b = a
  · subst e1
    rw [hx] at q; cases q
    exact excO_ok ea
  · refine (I.hok b u q).stay (fun c v hc r => ?_) (fun _ r => r) fun _ _ r => r
    have hca : c ≠ a := by
      rcases hc with rfl | hc
      · exact e1
      · intro z; rw [z, hx] at hc; cases hc
    have hcH : ∃ o, H c = some o := by
      rcases hc with rfl | hc
      · exact ⟨_, q⟩
      · exact ⟨_, hc⟩
    obtain ⟨o, hcH⟩ := hcH
    exact wk.keep c v r (nfs c o hcH) hca (nex c o hcH)
/-- the states in which an exception may come to a frame's own code -/
def FliesAny (X : Cx) (pins : List (Addr × Obj)) (H : Hp) (h : Heap) (a C : Addr) (ed : Option Addr) : Prop :=
  Flies X pins H h a C ed none ∨ Flies X pins H h a C ed (some .none) ∨ Flies X pins H h a C ed (some (rawInt X.env.locals))
theorem lone_new (I : Inv X pins σ H s) (hx : H a = some (excO a C ed)) {T : Addr} (hT : s.heap.objs.size ≤ T) : Lone X pins H a T := by
  refine ⟨Nat.le_trans I.sz hT, fun p hp z => ?_, I.hok.fresh hT, fun z => ?_⟩
  · have := Heap.lt_size (I.pin p hp).1
    rw [z] at this
    exact absurd (Nat.lt_of_lt_of_le this hT) (Nat.lt_irrefl _)
  · have := I.hok.lt hx
    rw [← z] at this
    exact absurd (Nat.lt_of_lt_of_le this hT) (Nat.lt_irrefl _)
theorem note_ok {A : Around} {Q : Unit → Shared → Prop} (I : Inv X pins σ H s) (hA : A.frames = X.A.frames) (hs : X.stack = X.env :: X.outer) (hf : X.env.frame = some X.env.locals) (F : FliesAny X pins H s.heap a C ed)
    (h : ∀ s', Inv X pins σ H s' → Flies X pins H s'.heap a C ed (some (rawInt X.env.locals)) → Q () s') : wpAny (model X.prog X.w) A (noteFrame (.ref a) X.env) Q E s := by
  have hfr : A.frames = some (X.env :: X.outer) := by rw [hA, I.ok.frames, hs]
  have hl : s.heap.FunFrames X.base (X.env :: X.outer) := by have := I.stack; rw [hs] at this; exact this
  have hfs : (X.env :: X.outer).filterMap (·.frame) = frs X.stack := by rw [hs]; rfl
  rcases F with ⟨hx, vs, sl, ea, h1⟩ | ⟨hx, vs, sl, ea, T, tb, ln⟩ | ⟨hx, vs, sl, ea, T, tb, ln⟩
  · refine note_fresh hfr hl hf ea h1 fun h' vs' T wk hT ea' tb' => h _ (I.wake hx (by rw [hfs] at wk; exact wk) ea' fun b z => absurd z (by simp)) ⟨hx, vs', sl, ea', T, tb', lone_new I hx hT⟩
  · refine note_rest hfr hl hf ea tb ln.ne fun h' vs' T' wk hT ea' tb' => h _ (I.wake hx (by rw [hfs] at wk; exact wk) ea' fun b z => ?_) ⟨hx, vs', sl, ea', T', tb', lone_new I hx hT⟩
    obtain rfl : b = T := by simpa using z
    obtain ⟨_, oT, ts, q1, q2, _⟩ := tb
    exact ⟨ln.free, I.lone ln q1 q2⟩
  · exact note_here hf ea tb (h s I ⟨hx, vs, sl, ea, T, tb, ln⟩)
theorem flight_ok {A : Around} {fr : Option Addr} {fl : Value} {Q : Unit → Shared → Prop} (I : Inv X pins σ H s) (F : Flies X pins H s.heap a C ed (some fl))
    (h : ∀ s', Inv X pins σ H s' → Flies X pins H s'.heap a C ed (some (fr.elim .none fun f => rawInt f)) → Q () s') : wpAny (model X.prog X.w) A (setFlight (.ref a) fr) Q E s := by
  obtain ⟨hx, vs, sl, ea, T, tb, ln⟩ := F
  refine flight_w ea tb ln.ne fun h' wk ea' tb' => h _ (I.wake hx ⟨fun b o q _ n2 n3 => wk.keep b o q (by simp) n2 n3, fun b o q _ n2 n3 => ⟨o.slots, wk.keep b o q (by simp) n2 n3⟩⟩ ea' fun b z => ?_) ⟨hx, vs, sl, ea', T, tb', ln⟩
  obtain rfl : b = T := by simpa using z
  obtain ⟨_, oT, ts, q1, q2, _⟩ := tb
  exact ⟨ln.free, I.lone ln q1 q2⟩
end

/-- what a body wishes of an exception that leaves it: E of the names' values, its class, its dict, the heap -/
def Raised (X : Cx) (E : St → XK) (e : Value) (s : Shared) : Prop := ∃ a C ed σ H, e = .ref a ∧ Inv X [] σ H s ∧ FliesAny X [] H s.heap a C ed ∧ E σ (.ref C) ed H
/-- how it lies behind a call -/
def CXe (P : Program) (w : World) : CXT := fun outer H s E e s' => ∃ a C ed H', e = .ref a ∧ s'.os = s.os ∧ AllBare s'.gens ∧ Un (frs outer) [] H H' s.heap s'.heap ∧ HOk P w H' s'.heap ∧ H' a = some (excO a C ed) ∧
  (∃ vs sl, s'.heap.get? a = some { cls := .ref C, dict := ed, data := .fields vs, slots := sl } ∧ ∃ T, TbAt s'.heap vs T .none ∧ s.heap.objs.size ≤ T ∧ H' T = none ∧ T ≠ a) ∧ E (.ref C) ed H'

section
variable {X : Cx} {E : St → XK}
theorem passes_raised (hs : X.stack = X.env :: X.outer) (hf : X.env.frame = some X.env.locals) : PassesOwn (model X.prog X.w) X.A X.env (Raised X E) := by
  rintro e s ⟨a, C, ed, σ, H, rfl, I, F, q⟩
  refine note_ok I rfl hs hf F fun s1 I1 F1 => ?_
  obtain ⟨hx, vs, sl, ea, T, tb, ln⟩ := F1
  refine wpAny_bind (wpAny_field ea rfl tb.1 ?_)
  rw [if_neg (show ¬ ((Value.ref T == Value.none) = true) from by simp)]
  refine flight_ok I1 ⟨hx, vs, sl, ea, T, tb, ln⟩ fun s2 I2 F2 => ?_
  rw [hf] at F2
  exact ⟨a, C, ed, σ, H, rfl, I2, .inr (.inr F2), q⟩
/-- a callee's exception comes to a body that wishes so -/
theorem raised_of {pins : List (Addr × Obj)} {σ : St} {H : Hp} {s s' : Shared} {e : Value} {E' : XK} (I : Inv X pins σ H s) (c : CXe X.prog X.w X.stack H s E' e s') (h : ∀ cl ed H', E' cl ed H' → E σ cl ed H') : Raised X E e s' := by
  obtain ⟨a, C, ed, H', rfl, ho, hg, un, hok, hx, ⟨vs, sl, ea, T, tb, hT, hfT, hne⟩, q⟩ := c
  have I1 : Inv X pins σ H' s' := I.call' ho un hok hg fun b z => absurd z (by simp)
  have I2 : Inv X [] σ H' s' := I1.pins_of fun p hp => absurd hp (by simp)
  refine ⟨a, C, ed, σ, H', rfl, I2, .inr (.inl ⟨hx, vs, sl, ea, T, tb, Nat.le_trans I.sz hT, fun p hp z => ?_, hfT, hne⟩), h _ _ _ q⟩
  have hp' : p ∈ X.pn := by simpa using hp
  have := Heap.lt_size (I.pin p (List.mem_append_left _ hp')).1
  rw [z] at this
  exact absurd (Nat.lt_of_lt_of_le this hT) (Nat.lt_irrefl _)
theorem Raised.mono {E' : St → XK} {e : Value} {s : Shared} (r : Raised X E e s) (h : ∀ σ cl ed H, E σ cl ed H → E' σ cl ed H) : Raised X E' e s := by
  obtain ⟨a, C, ed, σ, H, rfl, I, F, q⟩ := r
  exact ⟨a, C, ed, σ, H, rfl, I, F, h _ _ _ _ q⟩
/-- .. of a call -/
theorem Raised.passes {E' : XK} (h : ∀ σ cl ed H', E' cl ed H' → E σ cl ed H') : Passes (CXe X.prog X.w) (X.wish (Raised X E)) E' := fun pins σ H s e s' I c => raised_of I.unwish c fun _ _ _ q => h _ _ _ _ q
end

section
variable {P : Program} {w : World} {K : PySem.W.Frag} {mg : Str → Option Value} {base : Heap}
/-- an exception leaves a def's body -/
theorem leave_ok {N : List Str} {qual : Str} {scope : Scope} {f : Addr} {cd : Value} {A : Around} {outer : List Env} {s : Shared} {H : Hp} {E : XK} {e : Value} {s' : Shared}
    (r : Raised (cxOf (CXe P w) P w K mg base N qual scope f cd A outer s H E) (fun _ => E) e s') : (cxOf (CXe P w) P w K mg base N qual scope f cd A outer s H E).xe e s' := by
  obtain ⟨a, C, ed, σ, H', rfl, I, F, q⟩ := r
  show wpAny _ _ (leaving _ _) _ _ _
  unfold leaving
  refine wpAny_bind (note_ok I rfl rfl rfl F fun s1 I1 F1 => flight_ok I1 F1 fun s2 I2 F2 => ?_)
  obtain ⟨hx, vs, sl, ea, T, tb, ln⟩ := F2
  exact ⟨a, C, ed, H', rfl, I2.os, I2.bare, I2.base, I2.hok, hx, ⟨vs, sl, ea, T, tb, ln.new, ln.free, ln.ne⟩, q⟩
/-- THE RULE for a def that may raise -/
theorem Fun.okX {x qual : Str} {st : Stmt} {f : Addr} {fd : FuncData} {N ps : List Str} {k : Nat} {sp : Sp} (F : Fun K x qual st f fd) (S : FnScope N ps (defScope st)) (len : ∀ vs H Q E, sp vs H Q E → vs.length = ps.length)
    (hbody : ∀ (cdv : Value) (A : Around) (outer : List Env) (s : Shared) (H : Hp) (vs : List V) (Q : VK) (E : XK), Room k (A.deeper (envOfC qual (defScope st) s.heap.objs.size f cdv)) → sp vs H Q E →
      ∃ t, PSs ((cxOf (CXe P w) P w K mg base N qual (defScope st) f cdv A outer s H E).wish (Raised (cxOf (CXe P w) P w K mg base N qual (defScope st) f cdv A outer s H E) fun _ => E)) (defBody st) t ∧ t { nx := fun _ H' => Q .non H', rt := Q } (start N vs) H) :
    FnOk P w K mg base (CXe P w) (k + 1) f fd ps sp := by
  obtain ⟨oc, od, kV, doc, pm, an, cdv, ct, osl, rfl, lk, hcd⟩ := F.ex
  refine fn_of lk hcd S len fun A outer s H vs Q E hr hsp => ?_
  obtain ⟨t, h, q⟩ := hbody cdv A outer s H vs Q E hr hsp
  refine ⟨t, fun pins s1 σ H1 D I hw => wpAny_mono (h pins s1 σ H1 D (I.wish _) hw) (fun _ _ z => z.unwish) fun e s2 z => leave_ok z, q⟩
/-- a def that raises nothing, among those that do -/
theorem FnOk.quiet {k : Nat} {f : Addr} {fd : FuncData} {ps : List Str} {sp : Sp} (F : FnOk P w K mg base CX0 k f fd ps sp) : FnOk P w K mg base (CXe P w) k f fd ps sp :=
  ⟨F.len, fun A outer s H args us vs Q E hr he hb hv hs => codeAny_mono (F.run A outer s H args us vs Q E hr he hb hv hs) fun r s' q => by
    cases r with
    | error e => exact q.elim
    | ok f => cases f <;> exact q⟩
end
end L2

end

section
set_option Elab.async false
set_option linter.all false
set_option maxRecDepth 100000
set_option maxHeartbeats 1000000
/-! Own exceptions at the layer's level: made, raised, read. -/
namespace L2
open PySem PySem.Spec PyProof.Rows PySem.XF PySem.XO

/-! ### the class, as the written part tells it -/
abbrev bmV : List Value := [.type "ValueError", .type "Exception", .type "BaseException", .type "object"]
/-- an own class under ValueError; the __init__ that stands in it -/
def xIn (K : PySem.W.Frag) (C : Addr) (ini : Option Addr) : Bool := match K.lookup C with
  | some ⟨.type "type", _, .cls cd, sl⟩ => (match cd.mro, sl.toList with
    | .ref C' :: bm, [_, _, _, _, some (.builtin n), _] => C' == C && n == "ValueError.__new__" && !cd.hasDel && PySem.W.tailIn K bmV bm && PySem.W.nsOkIn K cd.ns && PySem.W.nsIn K cd.ns "__init__" == some (ini.map .ref)
    | _, _ => false)
  | _ => false
theorem ns_some_of {K : PySem.W.Frag} {h : Heap} {N : Addr} {mg : Str → Option Value} {n : Str} {v : Value} (X : K.In h) (G : h.Ns N mg) (e : PySem.W.nsIn K N n = some (some v)) : mg n = some v := by
  obtain ⟨o, es, ep, ho, hd, _, hf⟩ := G
  unfold PySem.W.nsIn at e
  split at e
  · rename_i c d es' n' sl q
    have := X _ _ q
    rw [ho] at this
    cases this
    cases hd
    split at e
    · rename_i en he
      cases e
      rw [← hf]
      unfold nsFind findBy
      rw [← Array.find?_toList, he]
      rfl
    · split at e <;> cases e
  · cases e
theorem x_of_in {K : PySem.W.Frag} {h : Heap} {C : Addr} {ini : Option Addr} (X : K.In h) (q : xIn K C ini = true) : ∃ nm qn N bs bm hdct sn sub ab col dd k0 k1 k2 k3 k5 mN,
    K.lookup C = some (excClassObj nm qn C N bs bm hdct sn sub ab col dd k0 k1 k2 k3 k5 "ValueError.__new__") ∧ h.Ns N mN ∧ mN "__init__" = ini.map .ref ∧ OwnTail h bmV bm := by
  unfold xIn at q
  split at q
  · rename_i dd cd sl ho
    split at q
    · rename_i C' bm k0 k1 k2 k3 n k5 hm hs
      simp only [Bool.and_eq_true, beq_iff_eq, Bool.not_eq_true'] at q
      obtain ⟨⟨⟨⟨⟨rfl, rfl⟩, hdel⟩, ht⟩, hok⟩, hi⟩ := q
      obtain ⟨nm, bs, mro, ns, qn, hd, sn, sub, ab, col, del⟩ := cd
      dsimp only at hm hdel hok hi
      subst hm hdel
      have hsl : sl = #[k0, k1, k2, k3, some (.builtin "ValueError.__new__"), k5] := by
        obtain ⟨l⟩ := sl
        simp only at hs
        rw [hs]
      subst hsl
      have G : h.Ns ns (h.nsMap ns) := .of_isNs (PySem.W.isNs_of_in X hok)
      refine ⟨nm, qn, ns, bs, bm, hd, sn, sub, ab, col, dd, k0, k1, k2, k3, k5, h.nsMap ns, ho, G, ?_, PySem.W.tail_of_in X ht⟩
      cases ini with
      | none => exact PySem.W.ns_none_of X G hi
      | some f => exact ns_some_of X G hi
    · cases q
  · cases q
theorem tail_base {h : Heap} {bm : List Value} (T : OwnTail h bmV bm) : bm.contains (.type "BaseException") = true := T.hasType (by decide)

theorem upd_self {H : Hp} {a : Addr} {o : HO} (h : H a = some o) : upd H a o = H := by
  funext b
  unfold upd
  split
  · rename_i e; rw [e, h]
  · rfl
/-! ### an exception that was never raised -/
def excN (a C : Addr) (ed : Option Addr) : HO := .ext fun h => ∃ vs sl, h.get? a = some { cls := .ref C, dict := ed, data := .fields vs, slots := sl } ∧ vs[1]? = some .none
theorem excN_ok {P : Program} {w : World} {H : Hp} {h : Heap} {a C : Addr} {ed : Option Addr} {vs : Array Value} {sl : Array (Option Value)} (e : h.get? a = some { cls := .ref C, dict := ed, data := .fields vs, slots := sl }) (n : vs[1]? = some .none) : ObjOk P w H h a (excN a C ed) :=
  ⟨⟨vs, sl, e, n⟩, ⟨_, e⟩, fun h1 h2 ⟨vs, sl, q, n⟩ k => ⟨vs, sl, k _ q, n⟩⟩
section
variable {X : Cx} {pins : List (Addr × Obj)} {σ : St} {H : Hp} {s : Shared} {a C : Addr} {ed : Option Addr} {E : Value → Shared → Prop}
theorem Inv.newExc (I : Inv X pins σ H s) (h : H a = some (excN a C ed)) : ∃ vs sl, s.heap.get? a = some { cls := .ref C, dict := ed, data := .fields vs, slots := sl } ∧ vs[1]? = some .none := (I.hok a _ h).1
theorem Inv.anExc (I : Inv X pins σ H s) (h : H a = some (excO a C ed)) : ∃ vs sl, s.heap.get? a = some { cls := .ref C, dict := ed, data := .fields vs, slots := sl } := (I.hok a _ h).1
/-- it may be raised now -/
theorem Inv.ready (I : Inv X pins σ H s) (h : H a = some (excN a C ed)) : Inv X pins σ (upd H a (excO a C ed)) s ∧ Flies X pins (upd H a (excO a C ed)) s.heap a C ed none := by
  obtain ⟨vs, sl, e, n⟩ := I.newExc h
  refine ⟨?_, upd_same, vs, sl, e, n⟩
  exact I.write (t' := s.toks) (h' := s.heap) (x := a) (e := a) (by rw [h]; exact True.intro) (.inl rfl) (fun b u _ q => q) ⟨_, e⟩ (excO_ok e)
end

/-! ### texts put together -/
abbrev TJ := Str → TE
def PJ (X : Cx) (es : List Expr) (t : TJ) : Prop :=
  ∀ (pins : List (Addr × Obj)) (s : Shared) (σ : St) (H : Hp) (acc : Str) (Q : VK), Inv X pins σ H s → t acc σ H Q → wpAny (model X.prog X.w) X.A (joinParts acc (evalEach es X.env)) (EP X pins σ Q) X.xe s
def tJnil : TJ := fun acc _ H Q => acc.length ≤ sizeLine ∧ Q (.str acc) H
def tJcons (te : TE) (tr : TJ) : TJ := fun acc σ H Q => te σ H fun x H1 => ∃ z, x = .str z ∧ (acc ++ z).length ≤ sizeLine ∧ tr (acc ++ z) σ H1 Q
def tFmt (te : TE) : TE := fun σ H Q => te σ H fun x H1 => (∃ i, x = .int i ∧ i.natAbs.log2 < 1920 ∧ Q (.str (toString i)) H1) ∨ (∃ z : Str, x = .str z ∧ z.length ≤ sizeLine ∧ Q (.str z) H1)
section
variable {X : Cx} {e v1 v2 : Expr} {es : List Expr} {te : TE} {t : TJ} {pos : Pos}
theorem pj_nil : PJ X [] tJnil := fun pins s σ H acc Q I h => joinParts_nil ⟨.str acc, H, I.tok _, ⟨_, rfl⟩, h.2⟩ h.1
theorem pj_cons (he : PE X e te) (hr : PJ X es t) (hs : evalEach (e :: es) X.env = eval e X.env :: evalEach es X.env := by rfl) : PJ X (e :: es) (tJcons te t) := by
  intro pins s σ H acc Q I h
  rw [hs]
  refine joinParts_cons (thn (he pins s σ H _ I h) fun u s1 ⟨x, H1, I1, r1, z, ex, hz, q1⟩ => ?_)
  subst ex
  obtain ⟨tk, rfl⟩ := r1
  exact ⟨hz, hr pins s1 σ H1 _ Q I1 q1⟩
theorem pe_join (h : PJ X (v1 :: v2 :: es) t) (hs : evalEach (v1 :: v2 :: es) X.env = eval v1 X.env :: eval v2 X.env :: evalEach es X.env := by rfl) : PE X (.JoinedStr (v1 :: v2 :: es) pos) (t Str.empty) := by
  intro pins s σ H Q I q
  refine JoinedStr_many ?_
  have := h pins s σ H Str.empty Q I q
  rw [hs] at this
  exact this
theorem pe_fmt (he : PE X e te) : PE X (.FormattedValue e (-1) none pos) (tFmt te) := by
  intro pins s σ H Q I h
  refine PyProof.Rows.FormattedValue_plain (thn (he pins s σ H _ I h) fun u s1 ⟨x, H1, I1, r1, q1⟩ => ?_)
  rcases q1 with ⟨i, ex, hi, q⟩ | ⟨z, ex, hz, q⟩
  · subst ex
    obtain ⟨tk, rfl⟩ := r1
    exact formatField_int_small hi ⟨.str _, H1, I1.tok _, ⟨_, rfl⟩, q⟩
  · subst ex
    obtain ⟨tk, rfl⟩ := r1
    exact formatField_str (fun t' tk' => ⟨.str _, H1, I1.tok _, ⟨_, rfl⟩, q⟩) hz
end

/-! ### B.__init__(self, ..) in the __init__ of a class under B -/
structure XSup (K : PySem.W.Frag) (B : Addr) : Prop where
  ga : PySem.W.specialIn K (.ref B) "__getattribute__" = some (some (.builtin "type.__getattribute__"))
  rd : PySem.W.readsIn K B (.type "type") = true
  ini : PySem.W.findCls K (.ref B) (.type "type") "__init__" = some (.val (.builtin "ValueError.__init__"))
def tXInit (K : PySem.W.Frag) (t : TA) : TE := fun σ H Q => t σ H fun vs H1 => ∃ x C ini ed ws, vs = .ref x :: ws ∧ H1 x = some (excN x C ed) ∧ xIn K C ini = true ∧ ws.length ≤ sizeLine ∧ Q .non H1
section
variable {X : Cx} {e : Expr} {es : List Expr} {te : TE} {t : TA} {pos apos p : Pos} {B : Addr} {b : Str}
theorem call_xinit {pins : List (Addr × Obj)} {σ : St} {H : Hp} {s : Shared} {x C : Addr} {ini ed : Option Addr} {us : List Value} {Q : Value → Shared → Prop} (I : Inv X pins σ H s) (hx : H x = some (excN x C ed)) (hC : xIn X.K C ini = true) (hz : us.length ≤ sizeLine)
    (h : ∀ s', Inv X pins σ H s' → Q .none s') : wpAny (model X.prog X.w) X.A (call (.builtin "ValueError.__init__") (.ref x :: us)) Q X.xe s := by
  obtain ⟨nm, qn, N, bs, bm, hdct, sn, sub, ab, col, dd, k0, k1, k2, k3, k5, mN, lC, nN, hi, T⟩ := x_of_in I.kIn hC
  have oC := I.kIn _ _ lC
  obtain ⟨vs, sl, ex, h1⟩ := I.newExc hx
  have F := PySem.F.excBase_ValueError
  obtain ⟨hp, g, d, tk, os⟩ := s
  have oC' : hp.get? C = some (excClassObj nm qn C N bs bm hdct sn sub ab col dd k0 k1 k2 k3 k5 "ValueError.__new__") := oC
  have ex' : hp.get? x = some { cls := .ref C, dict := ed, data := .fields vs, slots := sl } := ex
  refine wpAny_call (codeAny_call_builtin F.init.plain F.initEntry (wpAny_check_init_subU F T oC' ex' rfl ?_))
  have hsz : 0 < vs.size := Nat.lt_trans (Nat.zero_lt_one) (Array.getElem?_eq_some_iff.mp h1).1
  unfold Builtin.«BaseException.__init__»
  have ex2 : (hp.push { cls := .type "tuple", data := .seq us.toArray }).get? x = some { cls := .ref C, dict := ed, data := .fields vs, slots := sl } := Heap.get?_push_of_some _ ex'
  wp_walk
  have J : Inv X pins σ H ⟨(hp.push { cls := .type "tuple", data := .seq us.toArray }).update x (Obj.mapFields (·.setIfInBounds 0 (.ref hp.objs.size))), g, d, tk, os⟩ := by
    have J1 := I.kept (t' := tk) (h' := hp.push { cls := .type "tuple", data := .seq us.toArray }) fun b u q => Heap.get?_push_of_some _ q
    have e3 := Heap.get?_update_self (Obj.mapFields (·.setIfInBounds 0 (.ref hp.objs.size))) ex2 rfl
    have J2 := J1.write (t' := tk) (h' := (hp.push { cls := .type "tuple", data := .seq us.toArray }).update x (Obj.mapFields (·.setIfInBounds 0 (.ref hp.objs.size)))) (x := x) (e := x) (o := excN x C ed) (by rw [hx]; exact True.intro) (.inl rfl) (fun b u n q => (Heap.get?_update_other _ _ (Ne.symm n)).trans q) ⟨_, e3⟩ (excN_ok e3 (by show (vs.setIfInBounds 0 _)[1]? = _; rw [Array.getElem?_setIfInBounds_ne (by decide)]; exact h1))
    rw [upd_self hx] at J2
    exact J2
  rw [show vs[0]? = some vs[0] from Array.getElem?_eq_getElem hsz]
  refine wpAny_pure (wpAny_bind (wpAny_setField ex2 rfl hsz ?_))
  have fin : ∀ s', Inv X pins σ H s' → wpAny (model X.prog X.w) X.A.in1 (ret Value.none) (fun fin s' => match fin with
      | .done f => (match (Except.ok f : Result) with | .ok (.ret v) => Q v s' | .ok _ => False | .error e => X.xe e s')
      | .again c' => c'.quiet = true ∧ codeAny (model X.prog X.w) X.A c' (fun r s' => match r with | .ok (.ret v) => Q v s' | .ok _ => False | .error e => X.xe e s') s') (fun e s' => X.xe e s') s' := fun s' K => wpAny_pure (h s' K)
  split
  · exact wpAny_letGo (fin _ J)
  · exact wpAny_pure (fin _ J)
theorem pe_xinit (hB : XSup X.K B) (hg : Gl X b) (hm : X.mg b = some (.ref B)) (ha : PA X (e :: es) t) (hd : (b == ("__debug__" : Str)) = false := by decide)
    (hst : starEach (e :: es) X.env = (false, eval e X.env) :: starEach es X.env := by rfl) (hpl : (backTo pos (starEach es X.env)).any (·.1) = false := by rfl) {pl : Sem Bool}
    (ht : eval (.Call (.Attribute (.Name b p) "__init__" apos) (e :: es) [] pos) X.env = (do
      let ov ← eval (.Name b p) X.env
      standAt apos.atName
      let (f, first) ← holding [ov] (getMethod ov "__init__" pl)
      callWith pos f first (backTo pos (starEach (e :: es) X.env)) (backToKw pos (keywordEach [] X.env))) := by rfl) :
    PE X (.Call (.Attribute (.Name b p) "__init__" apos) (e :: es) [] pos) (tXInit X.K t) := by
  intro pins s σ H Q I h
  refine PySem.W.methodCall_KW (pl := pl) (ld_glob I hg hm ?_ hd) ht
  refine PySem.W.method_cls I.kIn hB.ga (PySem.W.cls_value I.kIn hB.rd hB.ini rfl ?_)
  have I1 := I.tok (s.toks + 1)
  have hA := ha pos pins _ σ H _ I1 h
  rw [hst] at hA ⊢
  refine Calls.callWith_builtin (by show (false || (backTo pos (starEach es X.env)).any (·.1)) = false; rw [hpl] <;> rfl) (Calls.evalArgs_plain ?_)
  refine thn hA fun us s2 ⟨vs, H2, I2, r2, x, C, ini, ed, ws, ev, hx, hC, hz, q⟩ => ?_
  subst ev
  cases r2 with
  | cons r r' =>
    obtain rfl := (show _ = Value.ref x from r)
    exact call_xinit I2 hx hC (by rw [← r'.length]; exact hz) fun s3 I3 => ⟨.non, H2, I3, rfl, q⟩
end
end L2

end

section
set_option Elab.async false
set_option linter.all false
set_option maxRecDepth 100000
set_option maxHeartbeats 1000000
/-! Own exceptions at the layer's level: attributes, raise, try. -/
namespace L2
open PySem PySem.Spec PyProof.Rows PySem.XF PySem.XO

/-! ### what of the text an own exception class must have -/
structure XCls (K : PySem.W.Frag) (C : Addr) : Prop where
  sa : PySem.W.findIn K (.ref C) "__setattr__" = some (some (.builtin "object.__setattr__"))
  vo : PySem.W.valueOver K C = true
  hd : PySem.W.hasDictIn K C = true
  ga : PySem.W.findIn K (.ref C) "__getattribute__" = some (some (.builtin "BaseException.__getattribute__"))
  gk : PySem.W.findIn K (.ref C) "__getattr__" = some none
  hB : PySem.W.mroIn K C (.type "BaseException") = some true
  ha : PySem.W.findIn K (.ref C) "__class__" = some (some (.builtin "object.__class__"))
  hn : PySem.W.specialIn K (.builtin "object.__class__") "__get__" = some (some (.builtin "getset_descriptor.__get__"))
  tk : PySem.W.takesIn K (.builtin "object.__class__") = some true
  hm : PySem.W.mroIn K C (.type "object") = some true

/-! ### its attributes -/
def sXFld (K : PySem.W.Frag) (ta tv : TE) (f : Str) : TS := fun D σ H => tv σ H fun y H1 => ta σ H1 fun x H2 => ∃ a C, x = .ref a ∧ H2 a = some (excN a C none) ∧ XCls K C ∧ NoAttr K C f ∧
  ∀ dx, H2 dx = none → D.nx σ (upd (upd H2 a (excN a C (some dx))) dx (.xd [(f, y)]))
def tXFld (K : PySem.W.Frag) (ta : TE) (f : Str) : TE := fun σ H Q => ta σ H fun x H1 => ∃ a C dx fs v, x = .ref a ∧ H1 a = some (excO a C (some dx)) ∧ H1 dx = some (.xd fs) ∧ XCls K C ∧ NoAttr K C f ∧ fs.lookup f = some v ∧ Q v H1
section
variable {X : Cx} {o e value : Expr} {f : Str} {pos pos' tpos : Pos} {ta tv : TE}
theorem ps_xfld (ha : PE X o ta) (hv : PE X value tv) (hs : swapsWith value (some (.Attribute o f pos')) pos.line X.env = pure false) : PS X (.Assign [.Attribute o f pos'] value pos) (sXFld X.K ta tv f) := by
  intro pins s σ H D I h
  refine plainObj_wpAny_Assign_Attribute (thn (hv pins s σ H _ I h) fun u s1 ⟨y, H1, I1, ry, q⟩ => thn (ha pins s1 σ H1 _ I1 q) fun ov s2 ⟨x, H2, I2, rx, a, C, ex, ea, c, n, q2⟩ => ?_) hs
  subst ex
  obtain rfl : ov = Value.ref a := rx
  obtain ⟨vs, sl, ga, h1⟩ := I2.newExc ea
  refine PySem.W.xset_new I2.kIn ga c.sa c.vo n.taker c.hd fun h' ns ga' kp => ?_
  have fr : H2 s2.heap.objs.size = none := I2.hok.fresh (Nat.le_refl _)
  refine ⟨σ, _, ?_, q2 _ fr⟩
  have nea : s2.heap.objs.size ≠ a := fun z => by rw [z, ea] at fr; cases fr
  have na : ∀ b, H2 b = none → b ≠ a := fun b n z => by rw [z, ea] at n; cases n
  have hold : ∀ b o, H2 b = some o → (∀ φ, o ≠ .ext φ) → upd (upd H2 a (excN a C (some s2.heap.objs.size))) s2.heap.objs.size (.xd [(f, y)]) b = some o := fun b o q ne => by
    rw [upd_ne (ne_of_none q fr), upd_ne]
    · exact q
    · rintro rfl; rw [ea] at q; cases q; exact ne _ rfl
  refine I2.un (t' := s2.toks + 2) (h' := h') ⟨fun b o q n _ _ => kp b o (na b n) q, fun b o q n _ _ => ⟨o.slots, kp b o (na b n) q⟩, fun b o q n _ => ?_, fun b o q _ => ?_, fun b xs q => hold b _ q (fun φ z => nomatch z), fun b o u q => hold b _ q (fun φ z => nomatch z), fun b ps q => ⟨#[], by simpa using hold b _ q (fun φ z => nomatch z)⟩⟩ fun b u q => ?_
  · rw [upd_ne (fun z => by rw [z] at q; exact absurd (Heap.lt_size q) (Nat.lt_irrefl _)), upd_ne (na b n)]; exact n
  · by_cases z : b = a
    · rw [z]; exact ⟨_, ga'⟩
    · exact ⟨o, kp b o z q⟩
  · by_cases z : b = s2.heap.objs.size
    · subst z
      rw [upd_same] at q; cases q
      refine ⟨_, ns, fun g => ?_⟩
      by_cases q : g = f
      · have hb : (g == f) = true := beq_iff_eq.mpr q
        simp only [List.lookup, hb, if_pos q]; exact ry
      · have hb : (g == f) = false := beq_eq_false_iff_ne.mpr q
        simp only [List.lookup, hb, if_neg q]; exact True.intro
    · rw [upd_ne z] at q
      by_cases z2 : b = a
      · subst z2
        rw [upd_same] at q; cases q
        exact excN_ok ga' h1
      · rw [upd_ne z2] at q
        refine (I2.hok b u q).stay (fun c v hc r => kp c v ?_ r) (fun c r => hold c _ r (fun φ z => nomatch z)) fun c xs r => hold c _ r (fun φ z => nomatch z)
        rcases hc with rfl | hc
        · exact z2
        · intro z; rw [z, ea] at hc; cases hc
theorem Inv.instX {pins : List (Addr × Obj)} {σ : St} {H : Hp} {s : Shared} {a C dx : Addr} {fs : List (Str × V)} (I : Inv X pins σ H s) (ea : H a = some (excO a C (some dx))) (ed : H dx = some (.xd fs)) :
    ∃ ox od, PySem.W.InstAt s.heap a ox C (some od) ∧ ∃ mA : Str → Option Value, (∀ name, PySem.W.lookIn name od = some (mA name)) ∧ ∀ g, RelO (fs.lookup g) (mA g) := by
  obtain ⟨vs, sl, ga⟩ := I.anExc ea
  obtain ⟨mA, ns, r⟩ := I.hok dx _ ed
  obtain ⟨od, ho, hl⟩ := lookIn_ns ns
  exact ⟨_, od, ⟨ga, rfl, rfl, ho⟩, mA, hl, r⟩
theorem pe_xfld (he : PE X e ta) (hb : attributeBase e f X.env (eval e X.env) = eval e X.env) : PE X (.Attribute e f pos) (tXFld X.K ta f) := by
  intro pins s σ H Q I h
  refine attr_of hb (thn (he pins s σ H _ I h) fun u s1 ⟨x, H1, I1, rx, a, C, dx, fs, v, ex, ea, ed, c, n, l, q⟩ => ?_)
  subst ex
  obtain rfl : u = Value.ref a := rx
  obtain ⟨ox, od, J, mA, hl, r⟩ := I1.instX ea ed
  obtain ⟨u, hu, ru⟩ := RelO.some_of (v := v) (o := mA f) (by rw [← l]; exact r f)
  exact PySem.W.xget_value I1.kIn J c.ga c.gk c.hB (PySem.W.findObj_own c.hd n rfl (by rw [hl, hu])) (handed_of ru) ⟨v, H1, I1.tok _, ru, q⟩
/-- isinstance of it -/
theorem isinstX_ok {pins : List (Addr × Obj)} {σ : St} {H : Hp} {s : Shared} {A : Around} {E : Value → Shared → Prop} {Q : Value → Shared → Prop} {cl : Value} {b : Bool} {a C dx : Addr} {fs : List (Str × V)} (I : Inv X pins σ H s) (ea : H a = some (excO a C (some dx))) (ed : H dx = some (.xd fs)) (c : XCls X.K C)
    (e : PySem.W.kitOne X.K (.ref C) cl = some b) (h : ∀ tk, Q (.bool b) { s with toks := tk }) : wpAny (model X.prog X.w) A (call (.builtin "isinstance") [.ref a, cl]) Q E s := by
  obtain ⟨ox, od, J, _⟩ := I.instX ea ed
  exact PySem.W.kia_one (PySem.W.kitx_exc c.hd c.ga c.gk c.hB c.ha c.hn c.tk c.hm) I.kIn ⟨ox, some od, J⟩ e (fun z => nomatch z) h
end

/-! ### raise C(..) -/
def tRaise (C : Addr) (sp : Sp) (E : St → XK) (t : TA) : TS := fun D σ H => t σ H fun vs H1 => vs.length ≤ sizeLine ∧ ∀ x, H1 x = none →
  sp (.ref x :: vs) (upd H1 x (excN x C none)) (fun v H2 => v = .non ∧ ∃ ed, H2 x = some (excN x C ed) ∧ E σ (.ref C) ed (upd H2 x (excO x C ed))) E0
section
variable {X : Cx} {E : St → XK} {k : Nat} {f C : Addr} {fd : FuncData} {ps : List Str} {sp : Sp} {c : Str} {p cpos pos : Pos} {e : Expr} {es : List Expr} {t : TA}
theorem ps_raise (hC : xIn X.K C (some f) = true) (kp : PySem.W.keepIn X.K (.ref C) = true) (hfn : PySem.W.isFn X.K (.ref f) = true) (F : FnOk X.prog X.w X.K X.mg X.base CX0 k f fd ps sp) (hr : Room (k + 1) X.A) (hb : Binds X.K fd ps [])
    (hg : Gl X c) (hm : X.mg c = some (.ref C)) (ha : PA (X.wish (Raised X E)) (e :: es) t) (hd : (c == ("__debug__" : Str)) = false := by decide)
    (hst : starEach (e :: es) X.env = (false, eval e X.env) :: starEach es X.env := by rfl) (hpl : (backTo cpos (starEach es X.env)).any (·.1) = false := by rfl) :
    PS (X.wish (Raised X E)) (.Raise (some (.Call (.Name c p) (e :: es) [] cpos)) none pos) (tRaise C sp E t) := by
  intro pins s σ H D I h
  obtain ⟨nm, qn, N, bs, bm, hdct, sn, sub, ab, col, dd, k0, k1, k2, k3, k5, mN, lC, nN, hi, T⟩ := x_of_in I.kIn hC
  rw [arm_exec_Raise]
  refine wpAny_bind (wpAny_standAt ?_)
  show wpAny _ _ (raiseStmt X.env (some (do let v ← eval (.Call (.Name c p) (e :: es) [] cpos) X.env; standAt pos; pure v)) none) _ _ _
  refine raise_obj (C := C) (nm := nm) (q := qn) (N := N) (bs := bs) (bm := bm) (hdct := hdct) (sn := sn) (sub := sub) (ab := ab) (col := col) (dd := dd) (k0 := k0) (k1 := k1) (k2 := k2) (k3 := k3) (k5 := k5) (newId := "ValueError.__new__") (tail_base T) hr.hd
    (wpAny_bind (thn ?_ fun v s1 z => wpAny_bind (wpAny_standAt (wpAny_pure z))))
  refine wpAny_Call_Name_kw (ld_glob I hg hm ?_ hd)
  refine PySem.W.callWith_K (h₀ := X.base) I.ok.mod.kin kp (thn (ha cpos pins s σ H _ I h) fun us s1 ⟨vs, H1, I1, r, hz, q⟩ => ⟨I1.kIn, ?_⟩) hst hpl
  obtain ⟨nm', qn', N', bs', bm', hdct', sn', sub', ab', col', dd', k0', k1', k2', k3', k5', mN', lC', nN', hi', T'⟩ := x_of_in I1.kIn hC
  have FV := PySem.F.excBase_ValueError
  obtain ⟨of, lf, hfc⟩ : ∃ of, X.K.lookup f = some of ∧ of.cls = .type "function" := by
    have z : (X.K.lookup f).map (·.cls) = some (.type "function") := beq_iff_eq.mp hfn
    cases q : X.K.lookup f with
    | none => rw [q] at z; cases z
    | some of => rw [q] at z; exact ⟨of, rfl, Option.some.inj z⟩
  have hzu : us.length ≤ sizeLine := by rw [← r.length]; exact hz
  obtain ⟨hp, g, d, tk, os⟩ := s1
  have fr : H1 (hp.objs.size + 1) = none := I1.hok.fresh (Nat.le_succ _)
  have e2 : (born hp C us).get? (hp.objs.size + 1) = some { cls := .ref C, data := .fields #[.ref hp.objs.size, .none, .none, .none, .bool false, .none] } := born_self
  have J1 := I1.kept (t' := tk) (h' := hp.push { cls := .type "tuple", data := .seq us.toArray }) fun b u q => Heap.get?_push_of_some _ q
  have J : Inv (X.wish (Raised X E)) pins σ (upd H1 (hp.objs.size + 1) (excN (hp.objs.size + 1) C none)) ⟨born hp C us, g, d, tk, os⟩ :=
    J1.laid (t' := tk) (h' := born hp C us) (fun b u q => Heap.get?_push_of_some _ q) (Nat.le_of_eq (Heap.size_push _ _)) (excN_ok e2 rfl)
  have hq := q (hp.objs.size + 1) fr
  have r2 : Vals (V.ref (hp.objs.size + 1) :: vs) (Value.ref (hp.objs.size + 1) :: us) := .cons rfl r
  have hl : (Value.ref (hp.objs.size + 1) :: us ++ []).length = ps.length := by
    rw [List.append_nil, ← r2.length]; exact F.len _ _ _ _ hq
  refine call_own (h := hp) FV (by decide) FV T' (I1.kIn _ _ lC') nN' hi' (I1.kIn _ _ lf) hfc ?_ hzu
  have bt := hb ⟨born hp C us, g, d, tk, os⟩ (Value.ref (hp.objs.size + 1) :: us) J.kIn hl
  rw [List.append_nil] at bt
  refine codeAny_mono (F.run _ X.stack _ _ ⟨Value.ref (hp.objs.size + 1) :: us, []⟩ (Value.ref (hp.objs.size + 1) :: us) _ _ E0 (hr.make C us []) (J.env0.make C us []) bt r2 hq) fun r s' z => ?_
  cases r with
  | error e => exact z.elim
  | ok fl =>
    cases fl with
    | ret u =>
      obtain ⟨v, H', I3, rv, ev, ed, hx, hE⟩ := J.after z
      subst ev
      obtain ⟨vs3, sl3, ex3, h3⟩ := I3.newExc hx
      obtain ⟨I4, F4⟩ := I3.ready hx
      refine ⟨rv, _, ed, vs3, sl3, rfl, I3.kIn _ _ lC, ex3, h3, ?_⟩
      exact ⟨_, C, ed, σ, _, rfl, I4.unwish.pins_of fun p hp => absurd hp (by simp), .inl F4, hE⟩
    | next => exact z.elim
    | brk => exact z.elim
    | cont => exact z.elim
end
end L2

end

section
set_option Elab.async false
set_option linter.all false
set_option maxRecDepth 100000
set_option maxHeartbeats 1000000
/-! try: .. except C as e: .. (own classes) -/
namespace L2
open PySem PySem.Spec PyProof.Rows PySem.XF PySem.XO

theorem exc_matches {M : Model} {A : Around} {E : Value → Shared → Prop} {h : Heap} {g : Array GenState} {d : Drawn} {t : Nat} {os : OsState} {Q : Bool → Shared → Prop} {e : Addr} {oe : Obj}
    {nm q : Str} {C N : Addr} {bs bm : List Value} {hdct : Bool} {sn : List Str} {sub : List Value} {ab : Bool} {col : Option Bool} {dd : Option Addr} {k0 k1 k2 k3 k5 : Option Value} {newId : String}
    {nm' q' : Str} {C' N' : Addr} {bs' bm' : List Value} {hdct' : Bool} {sn' : List Str} {sub' : List Value} {ab' : Bool} {col' : Option Bool} {dd' : Option Addr} {k0' k1' k2' k3' k5' : Option Value} {newId' : String} {b : Bool}
    (hC : h.get? C = some (excClassObj nm q C N bs bm hdct sn sub ab col dd k0 k1 k2 k3 k5 newId)) (he : h.get? e = some oe) (hcls : oe.cls = .ref C)
    (hB : h.get? C' = some (excClassObj nm' q' C' N' bs' bm' hdct' sn' sub' ab' col' dd' k0' k1' k2' k3' k5' newId')) (hbase : bm'.contains (.type "BaseException") = true) (hsub : (Value.ref C :: bm).contains (.ref C') = b)
    (hq : Q b ⟨h, g, d, t, os⟩) : wpAny M A (excMatches (.ref e) (.ref C')) Q E ⟨h, g, d, t, os⟩ := by
  have hcB : (Value.ref C' :: bm').contains (.type "BaseException") = true := by rw [List.contains_cons, hbase, Bool.or_true]
  have f := tc_notTuple
  unfold excMatches
  repeat (first | (with_reducible refine wpAny_loadPart_at he ?_; rw [hcls]) | with_reducible refine wpAny_loadPart_at hB ?_ | (with_reducible refine wpAny_isSubtype_exc hB ?_; rw [hcB]) | (with_reducible refine wpAny_isSubtype_exc hC ?_; rw [hsub]) | wp_step)
  cases b <;> (wp_walk; exact hq)

section
variable {X : Cx} {pins : List (Addr × Obj)} {σ : St} {H : Hp} {s : Shared}
/-- the pins of a loop about it, as such that every state bears -/
abbrev Cx.pinned (X : Cx) (l : List (Addr × Obj)) : Cx := { X with pn := l }
theorem Cx.Ok.pinned (ok : X.Ok) (l : List (Addr × Obj)) : (X.pinned l).Ok := ⟨ok.mod, ok.kind, ok.glob, ok.blt, ok.above, ok.inj, ok.has, ok.cab, ok.hd, ok.frames, ok.stk, ok.exf, ok.bs, ok.bsz, ok.noex, ok.exfs, ok.funs, ok.frf⟩
theorem Inv.borne (I : Inv X pins σ H s) : Inv (X.pinned (X.pn ++ pins)) [] σ H s := ⟨I.ok.pinned _, I.os, I.bare, I.base, I.loc, I.cell, I.free, I.freeC, fun p hp => I.pin p (by simpa using hp), I.hok, I.len⟩
theorem Inv.unborne (ok : X.Ok) (I : Inv (X.pinned (X.pn ++ pins)) [] σ H s) : Inv X pins σ H s := ⟨ok, I.os, I.bare, I.base, I.loc, I.cell, I.free, I.freeC, fun p hp => I.pin p (by simpa using hp), I.hok, I.len⟩
/-- within an except suite -/
abbrev Cx.held (X : Cx) (e : Value) : Cx := { X with A := X.A.mark (some e), calm := false }
theorem Inv.held (I : Inv X pins σ H s) (e : Value) : Inv (X.held e) pins σ H s :=
  ⟨⟨I.ok.mod, I.ok.kind, I.ok.glob, I.ok.blt, I.ok.above, I.ok.inj, I.ok.has, I.ok.cab, (fun z => nomatch z), I.ok.frames, I.ok.stk, I.ok.exf, I.ok.bs, I.ok.bsz, I.ok.noex, I.ok.exfs, I.ok.funs, I.ok.frf⟩, I.os, I.bare, I.base, I.loc, I.cell, I.free, I.freeC, I.pin, I.hok, I.len⟩
theorem Inv.unheld (ok : X.Ok) {e : Value} (I : Inv (X.held e) pins σ H s) : Inv X pins σ H s := ⟨ok, I.os, I.bare, I.base, I.loc, I.cell, I.free, I.freeC, I.pin, I.hok, I.len⟩
/-- the name of the exception goes -/
theorem goes_ok {M : Model} {A : Around} {E : Value → Shared → Prop} {i : Nat} {x : Str} {pos : Pos} {Q : Unit → Shared → Prop} (I : Inv X pins σ H s) (hN : X.N.Nodup) (hi : X.N[i]? = some x) (hk : X.env.scope.names.lookup x = some .local)
    (h : ∀ s', Inv X pins (σ.set i none) H s' → Q () s') : wpAny M A (do bindName X.env x .none; unbindBehindTheSuite X.env x pos) Q E s := by
  obtain ⟨m, hn, hl⟩ := id I.loc
  have hcls : (X.env.scope.kind == .class || (X.env.scope.kind == .module && X.env.locals != X.env.globals)) = false := by rw [I.ok.kind]; rfl
  have hiσ : i < σ.length := by rw [I.len]; exact (List.getElem?_eq_some_iff.mp hi).1
  refine wpAny_nameGoes_keeps hk hn hcls fun h' v hn' hs => ?_
  have I0 := I.tok (s.toks + 1)
  obtain ⟨oL, _, _, hoL, _⟩ := id hn
  have tracked : HOk X.prog X.w H h' := fun b ob e => by
    refine (I.hok b ob e).stay (fun c w' hc q => (hs.2 c ?_).trans q) (fun _ q => q) fun _ _ q => q
    rintro rfl
    rcases hc with rfl | hc
    · rw [I.free] at e; cases e
    · rw [I.free] at hc; cases hc
  refine h _ ⟨I.ok, I.os, I.bare, ⟨fun b o e n hb hx => ?_, fun b o e n hb hx => ?_, I.base.free, fun b o e hx => ?_, I.base.tups, I.base.frzs, I.base.tbls⟩, ⟨_, hn', fun j y v' e1 e2 e3 => ?_⟩, fun y c e => ?_, I.free, I.freeC, fun p hp => ?_, tracked, by simpa using I.len⟩
  · exact (hs.2 b (Nat.ne_of_lt (Nat.lt_of_lt_of_le (Heap.lt_size e) I.ok.above))).trans (I.base.keep b o e n hb hx)
  · obtain ⟨sl, e1⟩ := I.base.slot b o e n hb hx
    exact ⟨sl, (hs.2 b (Nat.ne_of_lt (Nat.lt_of_lt_of_le (Heap.lt_size e) I.ok.above))).trans e1⟩
  · obtain ⟨o', e1⟩ := I.base.there b o e hx
    exact ⟨o', (hs.2 b (Nat.ne_of_lt (Nat.lt_of_lt_of_le (Heap.lt_size e) I.ok.above))).trans e1⟩
  · by_cases hj : j = i
    · subst hj
      rw [List.getElem?_set_self hiσ] at e2
      cases e2
    · rw [List.getElem?_set_ne (Ne.symm hj)] at e2
      obtain ⟨u', r', q⟩ := hl j y v' e1 e2 e3
      refine ⟨u', r', ?_⟩
      rcases q with ⟨k, e⟩ | ⟨k, c, e, z⟩
      · refine .inl ⟨k, ?_⟩
        have : y ≠ x := fun e => hj (nodup_ix hN e1 (e ▸ hi))
        show (if y = x then v else m y) = some u'
        rw [if_neg this, e]
      · exact .inr ⟨k, c, e, z.sameBut hs (I.cne y c e)⟩
  · obtain ⟨w', z⟩ := I.cell y c e
    exact ⟨w', z.sameBut hs (I.cne y c e)⟩
  · obtain ⟨e, n, ne, nf, d⟩ := I.pin p hp
    exact ⟨(hs.2 p.1 ne).trans e, n, ne, nf, d⟩
end

/-- E: what the body's exceptions bring; i: the slot of the name; ts: the suite's reading at the exception a; nothing leaves the suite -/
def tTry (K : PySem.W.Frag) (B : Addr) (tb : (St → XK) → TS) (i : Nat) (ts : Addr → TS) : TS := fun D σ H => ∃ E : St → XK, tb E D σ H ∧
  ∀ σ' a C ed H', σ'.length = σ.length → E σ' (.ref C) ed H' → H' a = some (excO a C ed) → (∃ ini, xIn K C ini = true) ∧ PySem.W.mroIn K C (.ref B) = some true ∧
    ts a { nx := fun σ2 H2 => D.nx (σ2.set i none) H2, rt := D.rt, bk := fun σ2 H2 => D.bk (σ2.set i none) H2, ct := fun σ2 H2 => D.ct (σ2.set i none) H2 } (σ'.set i (some (.ref a))) H'
section
variable {X : Cx} {B : Addr} {b n : Str} {p hpos pos : Pos} {body suite : List Stmt} {b0 : Stmt} {i : Nat} {tb : (St → XK) → TS} {ts : Addr → TS}
theorem ps_try (hs : X.stack = X.env :: X.outer) (hf : X.env.frame = some X.env.locals) (hB : xIn X.K B none = true) (hg : Gl X b) (hm : X.mg b = some (.ref B)) (hN : X.N.Nodup) (hi : X.N[i]? = some n) (hk : X.env.scope.names.lookup n = some .local)
    (hb : ∀ (l : List (Addr × Obj)) (E : St → XK), PSs ((X.pinned l).wish (Raised (X.pinned l) E)) body (tb E)) (hsu : ∀ a, PSs (X.held (.ref a)).nox (b0 :: suite) (ts a)) (hd : (b == ("__debug__" : Str)) = false := by decide) :
    PS X (.Try body [.ExceptHandler (some (.Name b p)) (some n) (b0 :: suite) hpos] [] [] pos) (tTry X.K B tb i ts) := by
  intro pins s σ H D I h
  obtain ⟨E, h1, h2⟩ := h
  have ok := I.ok
  refine wpAny_Try_except (wpAny_mono (hb (X.pn ++ pins) E [] s σ H D ((I.borne).wish _) h1) (fun f s1 q => ?_) fun e s1 q => ?_)
  · cases f with
    | next => obtain ⟨σ', H', I', q⟩ := q; exact wpAny_execs_nil ⟨σ', H', I'.unwish.unborne ok, q⟩
    | brk => obtain ⟨σ', H', I', q⟩ := q; exact ⟨σ', H', I'.unwish.unborne ok, q⟩
    | cont => obtain ⟨σ', H', I', q⟩ := q; exact ⟨σ', H', I'.unwish.unborne ok, q⟩
    | ret u => obtain ⟨v, σ', H', I', r, q⟩ := q; exact ⟨v, σ', H', I'.unwish.unborne ok, r, q⟩
  obtain ⟨a, C, ed, σ', H', rfl, I1, F1, q⟩ := q
  have hx : H' a = some (excO a C ed) := by rcases F1 with F | F | F <;> exact F.1
  obtain ⟨⟨ini, xC⟩, hsub, h3⟩ := h2 σ' a C ed H' (I1.len.trans I.len.symm) q hx
  refine note_ok (X := X.pinned (X.pn ++ pins)) I1 rfl hs hf F1 fun s2 I2 F2 => flight_ok (X := X.pinned (X.pn ++ pins)) I2 F2 fun s3 I3 F3 => ?_
  refine wpAny_handleBy_cons (codeAny_handlers_test (ld_glob (X := (X.pinned (X.pn ++ pins)).held (.ref a)) (I3.held (.ref a)) hg hm ?_ hd)) (fun z => nomatch z)
  obtain ⟨nm, qn, N, bs, bm, hdct, sn, sub, ab, col, dd, k0, k1, k2, k3, k5, mN, lC, nN, _, T⟩ := x_of_in I3.kIn xC
  obtain ⟨nm', qn', N', bs', bm', hdct', sn', sub', ab', col', dd', k0', k1', k2', k3', k5', mN', lB, nN', _, T'⟩ := x_of_in I3.kIn hB
  obtain ⟨vs, sl, ea⟩ := I3.anExc hx
  have hs3 : (Value.ref C :: bm).contains (.ref B) = true := by
    unfold PySem.W.mroIn PySem.W.clsIn at hsub
    rw [show X.K.lookup C = _ from lC] at hsub
    simpa using hsub
  obtain ⟨hp, g, d, tk, os⟩ := s3
  refine exc_matches (h := hp) (I3.kIn _ _ lC) ea rfl (I3.kIn _ _ lB) (tail_base T') hs3 ?_
  refine codeAny_handlers_suite_as (flight_ok (X := X.pinned (X.pn ++ pins)) I3 F3 fun s4 I4 F4 => ?_)
  refine store_ok (X := X.pinned (X.pn ++ pins)) (v := .ref a) I4 hN hi (.inl hk) rfl (fun s5 I5 => ?_) (.inr hk)
  have I6 : Inv (X.held (.ref a)).nox pins (σ'.set i (some (.ref a))) H' s5 := (((I5.unborne (X := X) ok).held (.ref a))).wish _
  refine wpAny_mono (hsu a pins s5 _ H' _ I6 h3) (fun f s6 z => ?_) fun _ _ z => z.elim
  cases f with
  | next =>
    obtain ⟨σ2, H2, J, z⟩ := z
    exact goes_ok (J.unwish.unheld (X := X) ok) hN hi hk fun s7 J7 => ⟨_, H2, J7, z⟩
  | brk =>
    obtain ⟨σ2, H2, J, z⟩ := z
    exact goes_ok (J.unwish.unheld (X := X) ok) hN hi hk fun s7 J7 => ⟨_, H2, J7, z⟩
  | cont =>
    obtain ⟨σ2, H2, J, z⟩ := z
    exact goes_ok (J.unwish.unheld (X := X) ok) hN hi hk fun s7 J7 => ⟨_, H2, J7, z⟩
  | ret u =>
    obtain ⟨v, σ2, H2, J, r, z⟩ := z
    exact goes_ok (J.unwish.unheld (X := X) ok) hN hi hk fun s7 J7 => ⟨v, _, H2, J7, r, z⟩
end
end L2

end

section
set_option Elab.async false
set_option linter.all false
set_option maxRecDepth 100000
set_option maxHeartbeats 1000000
/-! isinstance as a call. -/
namespace L2
open PySem PySem.Spec PyProof.Rows
def clsV : V → Option Value
  | .ty n => some (.type n)
  | .ref a => some (.ref a)
  | _ => none
theorem clsV_rel {c : V} {cv u : Value} (h : clsV c = some cv) (r : RelV c u) : u = cv := by
  cases c with
  | ty n => cases h; exact r
  | ref a => cases h; exact r
  | _ => cases h
/-- isinstance(x, c), c one class -/
def rIsi (K : PySem.W.Frag) : List V → Hp → VK → Prop := fun xs H Q => ∃ x c cv t b, xs = [x, c] ∧ clsV c = some cv ∧ TyOf K H x t ∧ PySem.W.kitOne K t cv = some b ∧ Q (.bl b) H
section
variable {X : Cx}
theorem call_isi : CallR X (.builtin "isinstance") (rIsi X.K) := by
  intro pins s σ H xs us Q I rs h
  obtain ⟨x, c, cv, t, b, rfl, hc, ty, e, q⟩ := h
  obtain ⟨u, v, rfl, ru, rv⟩ := rs.two
  rw [clsV_rel hc rv]
  exact isinst_ok I ru ty e fun tk => ⟨.bl b, H, I.tok tk, rfl, q⟩
end
section
variable {K : PySem.W.Frag}
theorem kit_same {t : Value} : PySem.W.kitOne K t t = some true := by
  unfold PySem.W.kitOne
  rw [if_pos (by simp)]
theorem kit_non_str : PySem.W.kitOne K (.type "NoneType") (.type "str") = some false := by with_unfolding_all rfl
theorem kit_int_str : PySem.W.kitOne K (.type "int") (.type "str") = some false := by with_unfolding_all rfl
theorem kit_bool_str : PySem.W.kitOne K (.type "bool") (.type "str") = some false := by with_unfolding_all rfl
theorem kit_list_str : PySem.W.kitOne K (.type "list") (.type "str") = some false := by with_unfolding_all rfl
theorem kit_tuple_str : PySem.W.kitOne K (.type "tuple") (.type "str") = some false := by with_unfolding_all rfl
theorem kit_tuple_list : PySem.W.kitOne K (.type "tuple") (.type "list") = some false := by with_unfolding_all rfl
theorem kit_list_tuple : PySem.W.kitOne K (.type "list") (.type "tuple") = some false := by with_unfolding_all rfl
theorem kit_int_list : PySem.W.kitOne K (.type "int") (.type "list") = some false := by with_unfolding_all rfl
theorem kit_int_bool : PySem.W.kitOne K (.type "int") (.type "bool") = some false := by with_unfolding_all rfl
theorem kit_non_list : PySem.W.kitOne K (.type "NoneType") (.type "list") = some false := by with_unfolding_all rfl
end
end L2

end

section
set_option Elab.async false
set_option linter.all false
set_option maxRecDepth 100000
set_option maxHeartbeats 1000000
/-! isinstance of an own exception. -/
namespace L2
open PySem PySem.Spec PyProof.Rows
/-- .. of an own exception -/
def rIsiX (K : PySem.W.Frag) : List V → Hp → VK → Prop := fun xs H Q => ∃ a c cv C dx fs b, xs = [.ref a, c] ∧ clsV c = some cv ∧ H a = some (excO a C (some dx)) ∧ H dx = some (.xd fs) ∧ XCls K C ∧ PySem.W.kitOne K (.ref C) cv = some b ∧ Q (.bl b) H
section
variable {X : Cx}
theorem call_isiX : CallR X (.builtin "isinstance") (rIsiX X.K) := by
  intro pins s σ H xs us Q I rs h
  obtain ⟨a, c, cv, C, dx, fs, b, rfl, hc, ea, ed, cl, e, q⟩ := h
  obtain ⟨u, v, rfl, ru, rv⟩ := rs.two
  rw [clsV_rel hc rv]
  obtain rfl : u = Value.ref a := ru
  exact isinstX_ok I ea ed cl e fun tk => ⟨.bl b, H, I.tok tk, rfl, q⟩
end
end L2

end

section
set_option Elab.async false
set_option linter.all false
set_option maxRecDepth 100000
set_option maxHeartbeats 4000000
namespace K10
open PySem L2
seal L2.PE L2.PA L2.PT L2.PS L2.PSs L2.PG L2.PGs L2.PI L2.PW
def top (i : Nat) : Stmt := PySem.Challenge.pw_elderhouse_k10_words.main.body.getD i (.Pass ⟨0, 0, 0, 0⟩)
abbrev sTold : Stmt := top 17
abbrev sName : Stmt := top 18
abbrev sWords : Stmt := top 19
abbrev sWordAt : Stmt := top 20
abbrev sRowAt : Stmt := top 21
abbrev sRowSign : Stmt := top 22
abbrev sNumber : Stmt := top 23
abbrev sNameRow : Stmt := top 24

def told : List Str := ["house", "of", "has", "can", "main", "let", "in", "if", "then", "else", "new", "self", "elder", "set", "not", "yes", "no", "number", "truth"]
structure Txt (K : PySem.W.Frag) (mg : Str → Option Value) : Prop where
  figures : ∃ t, mg "FIGURES" = some (.str "0123456789" t)
  small : ∃ t, mg "SMALL_LETTERS" = some (.str "abcdefghijklmnopqrstuvwxyz" t)
  great : ∃ t, mg "GREAT_LETTERS" = some (.str "ABCDEFGHIJKLMNOPQRSTUVWXYZ" t)
  gaps : ∃ t, mg "GAPS" = some (.str " \t\n" t)
  signs : ∃ t, mg "SIGNS" = some (.str "(){},.;=+-*/<" t)
  longText : ∃ t, mg "LONGEST_TEXT" = some (.int 6000 t)
  longNumber : ∃ t, mg "LONGEST_NUMBER" = some (.int 9 t)
  longName : ∃ t, mg "LONGEST_NAME" = some (.int 8 t)
  toldW : ∃ a, mg "TOLD_WORDS" = some (.ref a) ∧ ∀ H, SqT K H a (told.map V.str)
  len : mg "len" = none
  all : mg "all" = none

theorem cds_figures : cds "0123456789" = figs := by decide +kernel
theorem cds_small : cds "abcdefghijklmnopqrstuvwxyz" = smalls := by decide +kernel
theorem cds_great : cds "ABCDEFGHIJKLMNOPQRSTUVWXYZ" = greats := by decide +kernel
theorem cds_gaps : cds " \t\n" = gaps := by decide +kernel
theorem cds_signs : cds "(){},.;=+-*/<" = sgns := by decide +kernel
/-- a sign in a written text -/
theorem in_text {x : Str} {l : Tx} (h : cds x = l) (c : Nat) : (!(Builtin.Str.occurrences x ⟨#[c]⟩ 0 x.length 1).isEmpty) = l.contains c := by
  rw [StrLaws.found_one, show x.cps.toList = l from h]
  simp
theorem pe_gS {X : Cx} {x z : Str} {t : Tok} {pos : Pos} (hg : Gl X x) (hm : X.mg x = some (.str z t)) (hd : (x == ("__debug__" : Str)) = false := by decide) : PE X (.Name x pos) (tC (.str z)) := pe_glob (v := .str z) hg hm ⟨t, rfl⟩ hd
theorem pe_gI {X : Cx} {x : Str} {i : Int} {t : Tok} {pos : Pos} (hg : Gl X x) (hm : X.mg x = some (.int i t)) (hd : (x == ("__debug__" : Str)) = false := by decide) : PE X (.Name x pos) (tC (.int i)) := pe_glob (v := .int i) hg hm ⟨t, rfl⟩ hd
theorem pe_gR {X : Cx} {x : Str} {a : Addr} {pos : Pos} (hg : Gl X x) (hm : X.mg x = some (.ref a)) (hd : (x == ("__debug__" : Str)) = false := by decide) : PE X (.Name x pos) (tC (.ref a)) := pe_glob (v := .ref a) hg hm rfl hd

section
variable {P : Program} {w : World} {K : PySem.W.Frag} {mg : Str → Option Value} {base : Heap}

/-! ### is_row_sign -/
def spRowSign : Sp := fun vs H Q _ => ∃ c : Nat, vs = [.str ⟨#[c]⟩] ∧ Q (.bl (isRow c)) H
theorem scRowSign : FnScope ["sign"] ["sign"] (defScope sRowSign) := ⟨rfl, rfl, rfl, by decide +kernel, rfl, by decide +kernel, by decide +kernel⟩
theorem ok_row_sign {f : Addr} {fd : FuncData} (F : Fun K "is_row_sign" "is_row_sign" sRowSign f fd) (T : Txt K mg) : FnOk P w K mg base CX0 1 f fd ["sign"] spRowSign := by
  refine F.ok scRowSign (fun vs H Q E h => ?_) (fun cdv A outer s H vs Q E hr h => ?_)
  · obtain ⟨c, rfl, _⟩ := h
    rfl
  obtain ⟨c, rfl, q⟩ := h
  obtain ⟨t1, g1⟩ := T.small
  obtain ⟨t2, g2⟩ := T.figures
  obtain ⟨t3, g3⟩ := T.great
  refine ⟨_, pss_one (ps_ret (pe_or (pe_cmpR op_in_str (pv 0) (pe_gS rfl g1) (by with_unfolding_all rfl)) (pe_or (pe_cmpR op_in_str (pv 0) (pe_gS rfl g2) (by with_unfolding_all rfl)) (pe_one (pe_cmpR op_in_str (pv 0) (pe_gS rfl g3) (by with_unfolding_all rfl)))))), ?_⟩
  refine ⟨_, rfl, _, _, rfl, rfl, _, rfl, ?_⟩
  rw [in_text cds_small]
  unfold isRow at q
  cases h1 : smalls.contains c with
  | true => rw [h1] at q; exact iteT q
  | false =>
    refine iteF ⟨_, rfl, _, _, rfl, rfl, _, rfl, ?_⟩
    rw [in_text cds_figures]
    cases h2 : figs.contains c with
    | true => rw [h1, h2] at q; exact iteT q
    | false =>
      refine iteF ⟨_, rfl, _, _, rfl, rfl, ?_⟩
      rw [in_text cds_great]
      rw [h1, h2] at q
      exact q

/-! ### is_told -/
def spTold : Sp := fun vs H Q _ => ∃ x : Str, vs = [.str x] ∧ Q (.bl (told.contains x)) H
theorem scTold : FnScope ["word"] ["word"] (defScope sTold) := ⟨rfl, rfl, rfl, by decide +kernel, rfl, by decide +kernel, by decide +kernel⟩
theorem inV_strs (x : Str) : ∀ l : List Str, inV (.str x) (l.map V.str) = l.contains x
  | [] => rfl
  | y :: r => by
    have ih := inV_strs x r
    unfold inV at ih ⊢
    rw [List.map_cons, List.any_cons, ih, List.contains_cons]
    show ((y == x) || r.contains x) = ((x == y) || r.contains x)
    rw [show (y == x) = (x == y) from BEq.comm]
theorem flat_strs : ∀ l : List Str, (l.map V.str).all flatV = true
  | [] => rfl
  | _ :: r => by rw [List.map_cons, List.all_cons, flat_strs r]; rfl
theorem ok_told {f : Addr} {fd : FuncData} (F : Fun K "is_told" "is_told" sTold f fd) (T : Txt K mg) : FnOk P w K mg base CX0 1 f fd ["word"] spTold := by
  refine F.ok scTold (fun vs H Q E h => ?_) (fun cdv A outer s H vs Q E hr h => ?_)
  · obtain ⟨c, rfl, _⟩ := h
    rfl
  obtain ⟨x, rfl, q⟩ := h
  obtain ⟨a, g, sq⟩ := T.toldW
  refine ⟨_, pss_one (ps_ret (pe_cmpR op_in_seq (pv 0) (pe_gR rfl g) (by with_unfolding_all rfl))), ?_⟩
  refine ⟨_, rfl, a, _, rfl, .inr (sq H), rfl, flat_strs told, ?_⟩
  show Q (.bl (inV (.str x) (told.map V.str))) H
  rw [inV_strs]
  exact q

/-! ### is_number -/
def spB (f : Tx → Bool) : Sp := fun vs H Q _ => ∃ x : Str, vs = [.str x] ∧ x.length ≤ sizeLine ∧ ∀ H', Same H H' → Q (.bl (f (cds x))) H'
theorem same_new {H : Hp} {p : Addr} (h : H p = none) (o : HO) : Same H (upd H p o) := fun b u q => by rw [upd_ne (ne_of_none q h)]; exact q
theorem cds_zero : cds "0" = [48] := by decide +kernel
theorem one_eq (c : Nat) (y : Str) (d : Nat) (hy : cds y = [d]) : decide (V.str ⟨#[c]⟩ = V.str y) = decide (c = d) := by
  have e : y = ⟨#[d]⟩ := cds_ext hy
  rw [e]
  by_cases h : c = d
  · rw [h]; simp
  · have h2 : ¬ (V.str ⟨#[c]⟩ = V.str ⟨#[d]⟩) := fun z => h (by injection z with z; injection z with z; simpa using z)
    rw [decide_eq_false h, decide_eq_false h2]
theorem all_map_bl (l : Tx) (p : Nat → Bool) : (l.map p).all id = l.all p := by
  induction l with
  | nil => rfl
  | cons c r ih => rw [List.map_cons, List.all_cons, List.all_cons, ih]; rfl
theorem scNumber : FnScope ["word"] ["word"] (defScope sNumber) := ⟨rfl, rfl, rfl, by decide +kernel, rfl, by decide +kernel, by decide +kernel⟩
theorem ok_number {f : Addr} {fd : FuncData} (F : Fun K "is_number" "is_number" sNumber f fd) (T : Txt K mg) : FnOk P w K mg base CX0 1 f fd ["word"] (spB isNum) := by
  refine F.ok scNumber (fun vs H Q E h => ?_) (fun cdv A outer s H vs Q E hr h => ?_)
  · obtain ⟨x, rfl, _⟩ := h
    rfl
  obtain ⟨x, rfl, hz, q⟩ := h
  obtain ⟨t1, g1⟩ := T.longNumber
  obtain ⟨t2, g2⟩ := T.figures
  refine ⟨_, pss_cons (ps_if (pt_not (pt_chain op_le op_le pe_int (pe_callB call_len_str rfl T.len PySem.boot_len (pa_cons (pv 0) pa_nil)) (pe_gI rfl g1))) (pss_one (ps_ret pe_bl)) pss_nil)
    (pss_cons (ps_if (pt_cmpR op_eq (pe_ix ix_str (pv 0) pe_int (fun _ _ => rfl)) pe_str (nomark _)) (pss_one (ps_ret (pe_cmpR op_eq (pv 0) pe_str (nomark _)))) pss_nil)
    (pss_one (ps_ret (pe_callB (call_all rfl) rfl T.all PyProof.Rows.boot_all (pa_cons (pe_comp0 rfl (BlockOk.plain (N := ["sign"]) rfl (by decide +kernel) (by decide +kernel) (by decide +kernel)) (pi_str (pv 0))
      (fun C fp s H => pg_name (i := 0) (show (["sign"] : List Str).Nodup by decide +kernel) rfl (Or.inl rfl)) (fun C fp s H => pe_cmpR op_in_str (pv 0) (pe_gS rfl g2) (by with_unfolding_all rfl))) pa_nil))))), ?_⟩
  refine ⟨_, rfl, _, rfl, hz, _, _, rfl, rfl, _, rfl, ?_⟩
  have hlen := cds_len x
  by_cases h1 : (1 : Int) ≤ (x.length : Int)
  · rw [decide_eq_true h1]
    refine iteT ⟨_, _, rfl, rfl, _, rfl, ?_⟩
    by_cases h2 : (x.length : Int) ≤ 9
    · rw [decide_eq_true h2]
      refine iteF ?_
      obtain ⟨c, r, e⟩ : ∃ c r, cds x = c :: r := by
        cases e : cds x with
        | nil => rw [e] at hlen; simp at hlen; omega
        | cons c r => exact ⟨c, r, rfl⟩
      have hr : r.length ≤ 8 := by rw [e] at hlen; simp at hlen; omega
      have eq : isNum (cds x) = (if c = 48 then r.isEmpty else (c :: r).all fun y => figs.contains y) := by rw [e]; simp [isNum, hr]
      refine ⟨_, rfl, x, 0, c, rfl, rfl, hz, by show atI (cds x) ((0 : Nat) : Int) = some c; exact atI_nat (by rw [e]; rfl), rfl, _, rfl, ?_⟩
      rw [one_eq c "0" 48 cds_zero]
      by_cases h0 : c = 48
      · rw [decide_eq_true h0]
        refine iteT ⟨_, rfl, rfl, ?_⟩
        have e0 : decide (V.str x = V.str "0") = isNum (cds x) := by
          rw [eq, if_pos h0]
          cases r with
          | nil =>
            have : x = "0" := cds_ext (by rw [e, cds_zero, h0])
            rw [this]; simp
          | cons d r =>
            have : ¬ V.str x = V.str "0" := fun z => by
              injection z with z
              rw [z, cds_zero] at e
              cases e
            rw [decide_eq_false this]; rfl
        rw [e0]
        exact q H (Same.refl H)
      · rw [decide_eq_false h0]
        refine iteF ⟨_, rfl, _, rfl, fun D hD => comp_signs0 none [] (fun c => .bl (figs.contains c)) rfl (fun c _ l K k => ⟨_, rfl, _, _, rfl, rfl, by rw [in_text cds_figures]; exact k⟩) hz ?_⟩
        refine ⟨D, (cds x).map fun c => figs.contains c, rfl, SqL.of (by rw [upd_same, List.map_map]; rfl), ?_⟩
        rw [all_map_bl]
        have := q _ (same_new hD (.lst (x.cps.toList.map fun c => V.bl (figs.contains c))))
        rw [eq, if_neg h0, ← e] at this
        exact this
    · rw [decide_eq_false h2]
      refine iteT ?_
      have e0 : isNum (cds x) = false := by
        cases e : cds x with
        | nil => rfl
        | cons c r =>
          have : ¬ r.length ≤ 8 := by rw [e] at hlen; simp at hlen; omega
          simp [isNum, this]
      have := q H (Same.refl H)
      rw [e0] at this
      exact this
  · rw [decide_eq_false h1]
    refine iteF ⟨_, rfl, iteT ?_⟩
    have e0 : cds x = [] := List.eq_nil_of_length_eq_zero (by omega)
    have := q H (Same.refl H)
    rw [e0] at this
    exact this

/-! ### is_name_row -/
theorem scNameRow : FnScope ["word"] ["word"] (defScope sNameRow) := ⟨rfl, rfl, rfl, by decide +kernel, rfl, by decide +kernel, by decide +kernel⟩
theorem ok_name_row {f : Addr} {fd : FuncData} (F : Fun K "is_name_row" "is_name_row" sNameRow f fd) (T : Txt K mg) : FnOk P w K mg base CX0 1 f fd ["word"] (spB isNm) := by
  refine F.ok scNameRow (fun vs H Q E h => ?_) (fun cdv A outer s H vs Q E hr h => ?_)
  · obtain ⟨x, rfl, _⟩ := h
    rfl
  obtain ⟨x, rfl, hz, q⟩ := h
  obtain ⟨t1, g1⟩ := T.longName
  obtain ⟨t2, g2⟩ := T.figures
  obtain ⟨t3, g3⟩ := T.small
  refine ⟨_, pss_cons (ps_if (pt_not (pt_chain op_le op_le pe_int (pe_callB call_len_str rfl T.len PySem.boot_len (pa_cons (pv 0) pa_nil)) (pe_gI rfl g1))) (pss_one (ps_ret pe_bl)) pss_nil)
    (pss_one (ps_ret (pe_and (pe_cmpR op_in_str (pe_ix ix_str (pv 0) pe_int (fun _ _ => rfl)) (pe_gS rfl g3) (by with_unfolding_all rfl))
      (pe_one (pe_callB (call_all rfl) rfl T.all PyProof.Rows.boot_all (pa_cons (pe_comp0 rfl (BlockOk.plain (N := ["sign"]) rfl (by decide +kernel) (by decide +kernel) (by decide +kernel)) (pi_str (pv 0))
      (fun C fp s H => pg_name (i := 0) (show (["sign"] : List Str).Nodup by decide +kernel) rfl (Or.inl rfl))
      (fun C fp s H => pe_or (pe_cmpR op_in_str (pv 0) (pe_gS rfl g3) (by with_unfolding_all rfl)) (pe_one (pe_cmpR op_in_str (pv 0) (pe_gS rfl g2) (by with_unfolding_all rfl))))) pa_nil)))))), ?_⟩
  refine ⟨_, rfl, _, rfl, hz, _, _, rfl, rfl, _, rfl, ?_⟩
  have hlen := cds_len x
  by_cases h1 : (1 : Int) ≤ (x.length : Int)
  · rw [decide_eq_true h1]
    refine iteT ⟨_, _, rfl, rfl, _, rfl, ?_⟩
    by_cases h2 : (x.length : Int) ≤ 8
    · rw [decide_eq_true h2]
      refine iteF ?_
      obtain ⟨c, r, e⟩ : ∃ c r, cds x = c :: r := by
        cases e : cds x with
        | nil => rw [e] at hlen; simp at hlen; omega
        | cons c r => exact ⟨c, r, rfl⟩
      have hr : r.length ≤ 7 := by rw [e] at hlen; simp at hlen; omega
      have eq : isNm (cds x) = (smalls.contains c && (c :: r).all fun y => smalls.contains y || figs.contains y) := by rw [e]; simp [isNm, hr]
      refine ⟨_, rfl, x, 0, c, rfl, rfl, hz, by show atI (cds x) ((0 : Nat) : Int) = some c; exact atI_nat (by rw [e]; rfl), _, _, rfl, rfl, _, rfl, ?_⟩
      rw [in_text cds_small]
      cases hs : smalls.contains c with
      | false =>
        refine iteF ?_
        have := q H (Same.refl H)
        rw [eq, hs] at this
        exact this
      | true =>
        refine iteT ⟨_, rfl, _, rfl, fun D hD => comp_signs0 none [] (fun c => .bl (smalls.contains c || figs.contains c)) rfl (fun c _ l K k => ⟨_, rfl, _, _, rfl, rfl, _, rfl, ?_⟩) hz ?_⟩
        · rw [in_text cds_small]
          cases h3 : smalls.contains c with
          | true => rw [h3] at k; exact iteT k
          | false =>
            refine iteF ⟨_, rfl, _, _, rfl, rfl, ?_⟩
            rw [in_text cds_figures]
            rw [h3] at k
            exact k
        · refine ⟨D, (cds x).map fun c => smalls.contains c || figs.contains c, rfl, SqL.of (by rw [upd_same, List.map_map]; rfl), ?_⟩
          rw [all_map_bl]
          have := q _ (same_new hD (.lst (x.cps.toList.map fun c => V.bl (smalls.contains c || figs.contains c))))
          rw [eq, hs, Bool.true_and, ← e] at this
          exact this
    · rw [decide_eq_false h2]
      refine iteT ?_
      have e0 : isNm (cds x) = false := by
        cases e : cds x with
        | nil => rfl
        | cons c r =>
          have : ¬ r.length ≤ 7 := by rw [e] at hlen; simp at hlen; omega
          simp [isNm, this]
      have := q H (Same.refl H)
      rw [e0] at this
      exact this
  · rw [decide_eq_false h1]
    refine iteF ⟨_, rfl, iteT ?_⟩
    have e0 : cds x = [] := List.eq_nil_of_length_eq_zero (by omega)
    have := q H (Same.refl H)
    rw [e0] at this
    exact this

/-! ### is_name -/
def spName : Sp := fun vs H Q _ => ∃ x : Str, vs = [.str x] ∧ x.length ≤ sizeLine ∧ ∀ H', Same H H' → Q (.bl (isNm (cds x) && !told.contains x)) H'
theorem scName : FnScope ["word"] ["word"] (defScope sName) := ⟨rfl, rfl, rfl, by decide +kernel, rfl, by decide +kernel, by decide +kernel⟩
theorem ok_name {f g1 g2 : Addr} {fd d1 d2 : FuncData} (F : Fun K "is_name" "is_name" sName f fd) (G1 : FnOk P w K mg base CX0 1 g1 d1 ["word"] (spB isNm)) (b1 : Binds K d1 ["word"] []) (k1 : PySem.W.keepIn K (.ref g1) = true) (m1 : mg "is_name_row" = some (.ref g1))
    (G2 : FnOk P w K mg base CX0 1 g2 d2 ["word"] spTold) (b2 : Binds K d2 ["word"] []) (k2 : PySem.W.keepIn K (.ref g2) = true) (m2 : mg "is_told" = some (.ref g2)) : FnOk P w K mg base CX0 2 f fd ["word"] spName := by
  refine F.ok scName (fun vs H Q E h => ?_) (fun cdv A outer s H vs Q E hr h => ?_)
  · obtain ⟨x, rfl, _⟩ := h
    rfl
  obtain ⟨x, rfl, hz, q⟩ := h
  refine ⟨_, pss_one (ps_ret (pe_and (pe_call G1 hr rfl m1 k1 b1 .nil pass0 (pa_cons (pv 0) pa_nil)) (pe_one (pe_not (pe_call G2 hr rfl m2 k2 b2 .nil pass0 (pa_cons (pv 0) pa_nil)))))), ?_⟩
  refine ⟨_, rfl, x, rfl, hz, fun H1 s1 => ⟨_, rfl, ?_⟩⟩
  cases hn : isNm (cds x) with
  | false =>
    refine iteF ?_
    have := q H1 s1
    rw [hn] at this
    exact this
  | true =>
    refine iteT ⟨_, rfl, x, rfl, _, rfl, ?_⟩
    have := q H1 s1
    rw [hn] at this
    exact this

/-! ### row_at -/
def spRowAt : Sp := fun vs H Q _ => ∃ (x : Str) (k : Nat), vs = [.str x, .int k] ∧ k ≤ x.length ∧ x.length ≤ 100000 ∧ ∀ y : Str, cds y = ((cds x).drop k).takeWhile isRow → Q (.str y) H
theorem scRowAt : FnScope ["text", "at", "end"] ["text", "at"] (defScope sRowAt) := ⟨rfl, rfl, rfl, by decide +kernel, rfl, by decide +kernel, by decide +kernel⟩
/-- the signs from k to n are all of a row, and the one at n is none (or the end) -/
theorem take_stop (l : Tx) (n : Nat) (h : n ≤ l.length) (ha : (l.take n).all isRow = true) (hb : ∀ c, l[n]? = some c → isRow c = false) : l.takeWhile isRow = l.take n := by
  induction l generalizing n with
  | nil => simp
  | cons c r ih =>
    cases n with
    | zero =>
      have := hb c rfl
      rw [List.takeWhile_cons, if_neg (by rw [this]; exact Bool.false_ne_true)]
      rfl
    | succ n =>
      rw [List.take_succ_cons, List.all_cons, Bool.and_eq_true] at ha
      rw [List.takeWhile_cons, if_pos ha.1, List.take_succ_cons, ih n (by simpa using h) ha.2 (fun d hd => hb d (by simpa using hd))]
/-- while, by a word and a measure; no monotony is asked -/
theorem while_by2 {c : TT} {tb : TS} {D : Ends} {σ : St} {H : Hp} (Pv : St → Hp → Prop) (μ : St → Hp → Nat) (h0 : Pv σ H)
    (hs : ∀ σ H, Pv σ H → c σ H fun b H1 => if b = true then ∃ N : St → Hp → Prop, (∀ σ' H', N σ' H' → ∃ m', m' < μ σ H ∧ (m' = μ σ' H' ∧ Pv σ' H')) ∧ tb { D with nx := N, ct := N, bk := D.nx } σ H1 else D.nx σ H1) : tWhile c tb D σ H :=
  ⟨fun m σ H => m = μ σ H ∧ Pv σ H, ⟨_, rfl, h0⟩, fun m σ H ⟨e, p⟩ => by subst e; exact hs σ H p⟩
theorem ok_row_at {f g1 : Addr} {fd d1 : FuncData} (F : Fun K "row_at" "row_at" sRowAt f fd) (T : Txt K mg) (G1 : FnOk P w K mg base CX0 1 g1 d1 ["sign"] spRowSign) (b1 : Binds K d1 ["sign"] []) (k1 : PySem.W.keepIn K (.ref g1) = true) (m1 : mg "is_row_sign" = some (.ref g1)) :
    FnOk P w K mg base CX0 2 f fd ["text", "at"] spRowAt := by
  refine F.ok scRowAt (fun vs H Q E h => ?_) (fun cdv A outer s H vs Q E hr h => ?_)
  · obtain ⟨x, k, rfl, _⟩ := h
    rfl
  obtain ⟨x, k, rfl, hk, hz, q⟩ := h
  have hz' : x.length ≤ sizeLine := Nat.le_trans hz (by decide)
  have hlen := cds_len x
  refine ⟨_, pss_cons (ps_set (i := 2) scRowAt.nd rfl (Or.inl rfl) (pv 1))
    (pss_cons (ps_while PassesOwn.never (PW.pt (pw_and (pt_cmpR op_lt (pv 2) (pe_callB call_len_str rfl T.len PySem.boot_len (pa_cons (pv 0) pa_nil)) (nomark _)) (pw_and1 (pt_val (pe_call G1 hr rfl m1 k1 b1 .nil pass0 (pa_cons (pe_ix ix_str (pv 0) (pv 2) (fun _ _ => rfl)) pa_nil)))))) (pss_one (ps_aug (i := 2) scRowAt.nd rfl (Or.inl rfl) pe_int ip_add)))
    (pss_one (ps_ret (pe_slice sl_str (pv 0) (po_some (pv 1)) (po_some (pv 2)))))), ?_⟩
  refine ⟨_, rfl, ?_⟩
  have fin : ∀ n : Nat, k ≤ n → n ≤ x.length → (((cds x).drop k).take (n - k)).all isRow = true → (∀ c, (cds x)[n]? = some c → isRow c = false) → cds (Txt.slice x (some (k : Int)) (some (n : Int))) = ((cds x).drop k).takeWhile isRow := fun n h1 h2 h3 h4 => by
    rw [cds_slice x h1 h2]
    refine (take_stop _ (n - k) ?_ h3 fun c hc => h4 c ?_).symm
    · rw [List.length_drop]; omega
    · rw [List.getElem?_drop, show k + (n - k) = n by omega] at hc
      exact hc
  let Pv : St → Hp → Prop := fun σ H' => H' = H ∧ ∃ n : Nat, σ = [some (.str x), some (.int k), some (.int n)] ∧ k ≤ n ∧ n ≤ x.length ∧ (((cds x).drop k).take (n - k)).all isRow = true
  let μ : St → Hp → Nat := fun σ _ => match σ with | [_, _, some (.int n)] => (x.length - n.toNat) | _ => 0
  refine while_by2 Pv μ ⟨rfl, k, rfl, Nat.le_refl _, hk, by simp⟩ ?_
  rintro σ H' ⟨rfl, n, rfl, h1, h2, h3⟩
  refine ⟨_, rfl, _, rfl, _, rfl, hz', _, _, rfl, rfl, _, rfl, ?_⟩
  by_cases hlt : (n : Int) < (x.length : Int)
  · rw [decide_eq_true hlt]
    have hn : n < (cds x).length := by omega
    refine iteT ⟨_, rfl, _, rfl, x, n, (cds x)[n], rfl, rfl, hz', atI_nat (List.getElem?_eq_getElem hn), (cds x)[n], rfl, _, rfl, ?_⟩
    cases hr : isRow (cds x)[n] with
    | false =>
      refine iteF ⟨_, rfl, _, rfl, _, rfl, _, rfl, _, rfl, x, rfl, hz', q _ (fin n h1 h2 h3 fun c hc => ?_)⟩
      rw [List.getElem?_eq_getElem hn] at hc
      cases hc
      exact hr
    | true =>
      refine iteT ⟨fun σ' H2 => Pv σ' H2 ∧ μ σ' H2 < x.length - n, fun σ' H2 ⟨a, b⟩ => ⟨_, b, rfl, a⟩, ?_⟩
      refine ⟨_, rfl, _, _, rfl, rfl, ⟨rfl, n + 1, rfl, by omega, by omega, ?_⟩, ?_⟩
      · have e : ((cds x).drop k).take (n + 1 - k) = ((cds x).drop k).take (n - k) ++ [(cds x)[n]] := by
          rw [show n + 1 - k = (n - k) + 1 by omega, List.take_add_one, List.getElem?_drop, show k + (n - k) = n by omega, List.getElem?_eq_getElem hn]
          rfl
        rw [e, List.all_append, h3, List.all_cons, hr]
        rfl
      · show x.length - ((n : Int) + 1).toNat < x.length - n
        omega
  · rw [decide_eq_false hlt]
    refine iteF (iteF ⟨_, rfl, _, rfl, _, rfl, _, rfl, _, rfl, x, rfl, hz', q _ (fin n h1 h2 h3 fun c hc => ?_)⟩)
    have := (List.getElem?_eq_some_iff.mp hc).1
    omega
end
end K10

end

section
set_option Elab.async false
set_option linter.all false
set_option maxRecDepth 100000
set_option maxHeartbeats 4000000
namespace K10
open PySem L2
seal L2.PE L2.PA L2.PT L2.PS L2.PSs L2.PG L2.PGs L2.PI L2.PW
abbrev sBad : Stmt := top 2
abbrev sInit : Stmt := inClass sBad 0
/-- what of the classes is wanted: H HouseError, B BadWords, f its __init__ -/
structure Bad (K : PySem.W.Frag) (mg : Str → Option Value) (Hc B f : Addr) : Prop where
  mH : mg "HouseError" = some (.ref Hc)
  mB : mg "BadWords" = some (.ref B)
  sup : XSup K Hc
  xH : xIn K Hc none = true
  xB : xIn K B (some f) = true
  cls : XCls K B
  no : NoAttr K B "at"
  kp : PySem.W.keepIn K (.ref B) = true
  fn : PySem.W.isFn K (.ref f) = true
  sub : PySem.W.mroIn K B (.ref Hc) = some true
  isi : mg "isinstance" = none
  str : mg "str" = none
section
variable {P : Program} {w : World} {K : PySem.W.Frag} {mg : Str → Option Value} {base : Heap}

/-! ### BadWords.__init__ -/
def spInit (K : PySem.W.Frag) (B : Addr) : Sp := fun vs H Q _ => ∃ x i, vs = [.ref x, .int i] ∧ H x = some (excN x B none) ∧ 0 ≤ i ∧ i < 2 ^ 64 ∧ ∀ dx, H dx = none → Q .non (upd (upd H x (excN x B (some dx))) dx (.xd [("at", .int i)]))
theorem scInit : FnScope ["self", "at"] ["self", "at"] (defScope sInit) := ⟨rfl, rfl, rfl, by decide +kernel, rfl, by decide +kernel, by decide +kernel⟩
theorem log_small {i : Int} (h0 : 0 ≤ i) (h : i < 2 ^ 64) : i.natAbs.log2 < 64 := by
  by_cases hz : i.natAbs = 0
  · rw [hz]; decide
  · rw [Nat.log2_lt hz]
    omega
theorem text_small {i : Int} (h0 : 0 ≤ i) (h : i < 2 ^ 64) : (Str.ofString (toString i)).length ≤ 100 := by
  have e := int_text_length_le (a := i) (k := 64) (by decide) (log_small h0 h)
  rw [ofString_length]
  omega
theorem ok_init {f Hc B : Addr} {fd : FuncData} (F : Fun K "__init__" "BadWords.__init__" sInit f fd) (D : Bad K mg Hc B f) : FnOk P w K mg base CX0 1 f fd ["self", "at"] (spInit K B) := by
  refine F.ok scInit (fun vs H Q E h => ?_) (fun cdv A outer s H vs Q E hr h => ?_)
  · obtain ⟨x, i, rfl, _⟩ := h
    rfl
  obtain ⟨x, i, rfl, hx, h0, hi, q⟩ := h
  refine ⟨_, pss_cons (ps_expr (pe_xinit D.sup rfl D.mH (pa_cons (pv 0) (pa_cons (pe_join (pj_cons pe_str (pj_cons (pe_fmt (pv 1)) pj_nil))) pa_nil)))) (pss_one (ps_xfld (pv 0) (pv 1) rfl)), ?_⟩
  have hl := text_small h0 hi
  refine ⟨.ref x, rfl, _, rfl, by decide, .int i, rfl, .inl ⟨i, rfl, Nat.lt_of_lt_of_le (log_small h0 hi) (by decide), ?_⟩⟩
  have hb : ∀ z : Str, (Str.empty ++ z).length = z.length := fun z => by rw [← cds_len, ← cds_len, cds_app]; rfl
  have hlen : (Str.empty ++ ("no word of the language at " : Str) ++ Str.ofString (toString i)).length ≤ sizeLine := by
    rw [← cds_len, cds_app, List.length_append, cds_len, cds_len, hb, sizeLine_eq]
    have : ("no word of the language at " : Str).length = 27 := by decide
    omega
  refine ⟨_, rfl, hlen, hlen, x, B, some f, none, _, rfl, hx, D.xB, (by show 1 ≤ sizeLine; decide), ?_⟩
  exact ⟨.int i, rfl, .ref x, rfl, x, B, rfl, hx, D.cls, D.no, fun dx hdx => q dx hdx⟩

/-! ### word_at -/
/-- the exception that tells the place k -/
def AtK (H : Hp) (B : Addr) (k : Nat) (E : XK) : Prop := ∀ H' dx, Same H H' → H' dx = some (.xd [("at", .int k)]) → E (.ref B) (some dx) H'
theorem raise_at {H : Hp} {B x : Addr} {k : Nat} {E : XK} (h : AtK H B k E) (hk : k < 2 ^ 64) (hx : H x = none) :
    spInit K B [.ref x, .int k] (upd H x (excN x B none)) (fun v H2 => v = .non ∧ ∃ ed, H2 x = some (excN x B ed) ∧ E (.ref B) ed (upd H2 x (excO x B ed))) E0 := by
  refine ⟨x, k, rfl, upd_same, by omega, by omega, fun dx hdx => ⟨rfl, some dx, ?_, h _ dx (fun b o q => ?_) ?_⟩⟩
  all_goals
    have nx : dx ≠ x := fun z => by rw [z, upd_same] at hdx; cases hdx
    have hdx' : H dx = none := by rw [upd_ne nx] at hdx; exact hdx
  · rw [upd_ne (Ne.symm nx), upd_same]
  · have n1 : b ≠ x := ne_of_none q hx
    have n2 : b ≠ dx := ne_of_none q hdx'
    rw [upd_ne n1, upd_ne n2, upd_ne n1, upd_ne n1]
    exact q
  · rw [upd_ne nx, upd_same]
abbrev ofTx (l : Tx) : Str := ⟨l.toArray⟩
def spWordAt (B : Addr) : Sp := fun vs H Q E => ∃ (x : Str) (k : Nat), vs = [.str x, .int k] ∧ x.length ≤ 100000 ∧ ∃ c r, (cds x).drop k = c :: r ∧
  (if (isNum ((c :: r).takeWhile isRow) || isNm ((c :: r).takeWhile isRow)) = true then ∀ H', Same H H' → Q (.str (ofTx ((c :: r).takeWhile isRow))) H'
   else if isRow c = false ∧ sgns.contains c = true then ∀ H', Same H H' → Q (.str (ofTx [c])) H' else AtK H B k E)
theorem scWordAt : FnScope ["text", "at", "row"] ["text", "at"] (defScope sWordAt) := ⟨rfl, rfl, rfl, by decide +kernel, rfl, by decide +kernel, by decide +kernel⟩
theorem AtK.mono {H H' : Hp} {B : Addr} {k : Nat} {E : XK} (h : AtK H B k E) (s : Same H H') : AtK H' B k E := fun H2 dx s2 q => h H2 dx (s.trans s2) q
theorem take_nil_iff (c : Nat) (r : Tx) : (c :: r).takeWhile isRow = [] ↔ isRow c = false := by
  rw [List.takeWhile_cons]
  cases isRow c <;> simp
theorem ok_word_at {f Hc B fi g1 g2 g3 : Addr} {fd di d1 d2 d3 : FuncData} (F : Fun K "word_at" "word_at" sWordAt f fd) (T : Txt K mg) (D : Bad K mg Hc B fi)
    (GI : FnOk P w K mg base CX0 1 fi di ["self", "at"] (spInit K B)) (bi : Binds K di ["self", "at"] [])
    (G1 : FnOk P w K mg base CX0 2 g1 d1 ["text", "at"] spRowAt) (b1 : Binds K d1 ["text", "at"] []) (k1 : PySem.W.keepIn K (.ref g1) = true) (m1 : mg "row_at" = some (.ref g1))
    (G2 : FnOk P w K mg base CX0 1 g2 d2 ["word"] (spB isNum)) (b2 : Binds K d2 ["word"] []) (k2 : PySem.W.keepIn K (.ref g2) = true) (m2 : mg "is_number" = some (.ref g2))
    (G3 : FnOk P w K mg base CX0 1 g3 d3 ["word"] (spB isNm)) (b3 : Binds K d3 ["word"] []) (k3 : PySem.W.keepIn K (.ref g3) = true) (m3 : mg "is_name_row" = some (.ref g3)) :
    FnOk P w K mg base (CXe P w) 3 f fd ["text", "at"] (spWordAt B) := by
  refine F.okX scWordAt (fun vs H Q E h => ?_) (fun cdv A outer s H vs Q E hr h => ?_)
  · obtain ⟨x, k, rfl, _⟩ := h
    rfl
  obtain ⟨x, k, rfl, hz, c, r, ecr, h⟩ := h
  obtain ⟨t1, g1'⟩ := T.signs
  have hr1 : Room 1 _ := hr.mono (by decide)
  have hk : k < x.length := by
    have := congrArg List.length ecr
    rw [List.length_drop, cds_len] at this
    simp at this
    omega
  have hz' : x.length ≤ sizeLine := Nat.le_trans hz (by decide)
  have hat : atI (cds x) ((k : Nat) : Int) = some c := atI_nat (by
    have : ((cds x).drop k)[0]? = some c := by rw [ecr]; rfl
    rw [List.getElem?_drop] at this
    simpa using this)
  refine ⟨_, pss_cons (ps_set (i := 2) scWordAt.nd rfl (Or.inl rfl) (pe_call G1 hr rfl m1 k1 b1 .nil pass0 (pa_cons (pv 0) (pa_cons (pv 1) pa_nil))))
    (pss_cons (ps_if (PW.pt (pw_or (pt_val (pe_call G2 hr1 rfl m2 k2 b2 .nil pass0 (pa_cons (pv 2) pa_nil))) (pw_or1 (pt_val (pe_call G3 hr1 rfl m3 k3 b3 .nil pass0 (pa_cons (pv 2) pa_nil)))))) (pss_one (ps_ret (pv 2))) pss_nil)
    (pss_cons (ps_if (PW.pt (pw_and (pt_cmpR op_eq (pv 2) pe_str (nomark _)) (pw_and1 (pt_cmpR op_in_str (pe_ix ix_str (pv 0) (pv 1) (fun _ _ => rfl)) (pe_gS rfl g1') (by with_unfolding_all rfl))))) (pss_one (ps_ret (pe_ix ix_str (pv 0) (pv 1) (fun _ _ => rfl)))) pss_nil)
    (pss_one (ps_raise D.xB D.kp D.fn GI hr bi rfl D.mB (pa_cons (pv 1) pa_nil))))), ?_⟩
  refine ⟨_, rfl, _, rfl, x, k, rfl, by omega, hz, fun y hy => ?_⟩
  rw [ecr] at hy
  have hy' : y = ofTx ((c :: r).takeWhile isRow) := cds_ext hy
  have ylen : y.length ≤ sizeLine := by
    rw [← cds_len, hy]
    refine Nat.le_trans (List.takeWhile_sublist isRow).length_le ?_
    have := congrArg List.length ecr
    rw [List.length_drop, cds_len] at this
    omega
  refine ⟨_, rfl, y, rfl, ylen, fun H1 s1 => ⟨_, rfl, ?_⟩⟩
  rw [hy]
  cases hn : isNum ((c :: r).takeWhile isRow) with
  | true =>
    rw [hn, Bool.true_or, if_pos rfl] at h
    refine iteT (iteT ⟨_, rfl, ?_⟩)
    rw [hy']
    exact h H1 s1
  | false =>
    refine iteF ⟨_, rfl, y, rfl, ylen, fun H2 s2 => ⟨_, rfl, ?_⟩⟩
    rw [hy]
    cases hm : isNm ((c :: r).takeWhile isRow) with
    | true =>
      rw [hm, Bool.or_true, if_pos rfl] at h
      refine iteT ⟨_, rfl, ?_⟩
      rw [hy']
      exact h H2 (s1.trans s2)
    | false =>
      rw [hn, hm, Bool.or_false, if_neg Bool.false_ne_true] at h
      refine iteF ⟨_, rfl, rfl, _, rfl, ?_⟩
      have e0 : decide (V.str y = V.str "") = !isRow c := by
        cases hc : isRow c with
        | true =>
          refine decide_eq_false fun z => ?_
          injection z with z
          rw [z] at hy
          have := (take_nil_iff c r).mp (by rw [← hy]; decide +kernel)
          rw [hc] at this; cases this
        | false =>
          refine decide_eq_true ?_
          rw [hy', (take_nil_iff c r).mpr hc]
          rfl
      rw [e0]
      cases hc : isRow c with
      | true =>
        rw [if_neg (by rw [hc]; simp)] at h
        refine iteF (iteF ⟨_, rfl, (show 1 ≤ sizeLine by decide), fun x' hx' => raise_at (h.mono (s1.trans s2)) (by omega) hx'⟩)
      | false =>
        refine iteT ⟨_, rfl, _, rfl, x, k, c, rfl, rfl, hz', hat, _, _, rfl, rfl, _, rfl, ?_⟩
        rw [in_text cds_signs]
        cases hs : sgns.contains c with
        | true =>
          rw [if_pos ⟨hc, hs⟩] at h
          exact iteT ⟨_, rfl, _, rfl, x, k, c, rfl, rfl, hz', hat, h H2 (s1.trans s2)⟩
        | false =>
          rw [if_neg (by rw [hs]; simp)] at h
          exact iteF ⟨_, rfl, (show 1 ≤ sizeLine by decide), fun x' hx' => raise_at (h.mono (s1.trans s2)) (by omega) hx'⟩

/-! ### words -/
abbrev vT (l : Tx) : V := .str (ofTx l)
/-- what cutting a text gives: the list, or the exception -/
def CutTo (B : Addr) (H : Hp) (Q : VK) (E : XK) : Res → Prop
  | .ok ws => ∀ H' p, H p = none → Same H H' → H' p = some (.lst (ws.map vT)) → Q (.ref p) H'
  | .error k => AtK H B k E
def spWords (K : PySem.W.Frag) (B : Addr) : Sp := fun vs H Q E => (∃ x : Str, vs = [.str x] ∧ x.length ≤ 100000 ∧ (if x.length ≤ 6000 then CutTo B H Q E (cutP (cds x) 0) else AtK H B 0 E)) ∨
  (∃ v t, vs = [v] ∧ TyOf K H v t ∧ PySem.W.kitOne K t (.type "str") = some false ∧ AtK H B 0 E)
theorem scWords : FnScope ["text", "cut", "at", "word"] ["text"] (defScope sWords) := ⟨rfl, rfl, rfl, by decide +kernel, rfl, by decide +kernel, by decide +kernel⟩
theorem drop_row (l : Tx) : l.drop (l.takeWhile isRow).length = l.dropWhile isRow := by
  have h := take_drop_row l
  have : l.drop (l.takeWhile isRow).length = (l.takeWhile isRow ++ l.dropWhile isRow).drop (l.takeWhile isRow).length := by rw [h]
  rw [this, List.drop_left]
theorem ok_words {f Hc B fi g1 : Addr} {fd di d1 : FuncData} (F : Fun K "words" "words" sWords f fd) (T : Txt K mg) (D : Bad K mg Hc B fi)
    (GI : FnOk P w K mg base CX0 1 fi di ["self", "at"] (spInit K B)) (bi : Binds K di ["self", "at"] [])
    (G1 : FnOk P w K mg base (CXe P w) 3 g1 d1 ["text", "at"] (spWordAt B)) (b1 : Binds K d1 ["text", "at"] []) (k1 : PySem.W.keepIn K (.ref g1) = true) (m1 : mg "word_at" = some (.ref g1)) :
    FnOk P w K mg base (CXe P w) 4 f fd ["text"] (spWords K B) := by
  refine F.okX scWords (fun vs H Q E h => ?_) (fun cdv A outer s H vs Q E hr h => ?_)
  · rcases h with ⟨x, rfl, _⟩ | ⟨v, t, rfl, _⟩ <;> rfl
  obtain ⟨t1, lt⟩ := T.longText
  obtain ⟨t2, gp⟩ := T.gaps
  have hr2 : Room 2 _ := hr.mono (by decide)
  refine ⟨_, pss_cons (ps_if (PW.pt (pw_or (pt_not (pt_val (pe_callB call_isi rfl D.isi PyProof.Rows.boot_isinstance (pa_cons (pv 0) (pa_cons (pe_bltn (v := .ty "str") rfl D.str PyProof.Rows.boot_str rfl) pa_nil)))))
      (pw_or1 (pt_cmpR op_gt (pe_callB call_len_str rfl T.len PySem.boot_len (pa_cons (pv 0) pa_nil)) (pe_gI rfl lt) (nomark _)))))
      (pss_one (ps_raise D.xB D.kp D.fn GI hr2 bi rfl D.mB (pa_cons pe_int pa_nil))) pss_nil)
    (pss_cons (ps_set (i := 1) scWords.nd rfl (Or.inl rfl) (pe_lst pa_nil))
    (pss_cons (ps_set (i := 2) scWords.nd rfl (Or.inl rfl) pe_int)
    (pss_cons (ps_while (passes_raised rfl rfl) (pt_cmpR op_lt (pv 2) (pe_callB call_len_str rfl T.len PySem.boot_len (pa_cons (pv 0) pa_nil)) (nomark _))
      (pss_one (ps_if (pt_cmpR op_in_str (pe_ix ix_str (pv 0) (pv 2) (fun _ _ => rfl)) (pe_gS rfl gp) (by with_unfolding_all rfl))
        (pss_one (ps_aug (i := 2) scWords.nd rfl (Or.inl rfl) pe_int ip_add))
        (pss_cons (ps_set (i := 3) scWords.nd rfl (Or.inl rfl) (pe_call G1 hr rfl m1 k1 b1 .nil (Raised.passes fun _ _ _ _ q => q) (pa_cons (pv 0) (pa_cons (pv 2) pa_nil))))
        (pss_cons (ps_expr (pe_bm PySem.F.plainAttrs_list PySem.F.slot_list_append PySem.F.type_list_append mt_append (pv 1) (pa_cons (pv 3) pa_nil)))
        (pss_one (ps_aug (i := 2) scWords.nd rfl (Or.inl rfl) (pe_callB call_len_str rfl T.len PySem.boot_len (pa_cons (pv 3) pa_nil)) ip_add)))))))
    (pss_one (ps_ret (pv 1)))))), ?_⟩
  rcases h with ⟨x, rfl, hz, h⟩ | ⟨v, t, rfl, ty, kt, h⟩
  · have hz' : x.length ≤ sizeLine := Nat.le_trans hz (by decide)
    have hlen := cds_len x
    refine ⟨_, rfl, _, _, _, _, _, rfl, rfl, .str x, kit_same, _, rfl, ?_⟩
    refine iteF ⟨_, rfl, _, rfl, hz', _, _, rfl, rfl, _, rfl, ?_⟩
    by_cases hl : x.length ≤ 6000
    · rw [if_pos hl] at h
      rw [decide_eq_false (show ¬ (6000 : Int) < (x.length : Int) by omega)]
      refine iteF ⟨by decide, fun p hp => ?_⟩
      let Pv : St → Hp → Prop := fun σ H' => ∃ (n : Nat) (dn : List Tx) (wd : Option V), σ = [some (.str x), some (.ref p), some (.int n), wd] ∧ H' p = some (.lst (dn.map vT)) ∧ Same H H' ∧ n ≤ x.length ∧ dn.length ≤ n ∧ cutP (cds x) 0 = pre dn (cutP ((cds x).drop n) n)
      let μ : St → Hp → Nat := fun σ _ => match σ with | [_, _, some (.int n), _] => (x.length - n.toNat) | _ => 0
      refine while_by2 Pv μ ⟨0, [], none, rfl, upd_same, same_new hp _, Nat.zero_le _, Nat.zero_le _, by rw [pre_nil]; rfl⟩ ?_
      rintro σ H' ⟨n, dn, wd, rfl, hd, hs, hn, hdn, hc⟩
      refine ⟨_, rfl, _, rfl, x, rfl, hz', _, _, rfl, rfl, _, rfl, ?_⟩
      by_cases hlt : (n : Int) < (x.length : Int)
      · rw [decide_eq_true hlt]
        have hn' : n < (cds x).length := by omega
        have ecr : (cds x).drop n = (cds x)[n] :: (cds x).drop (n + 1) := List.drop_eq_getElem_cons hn'
        generalize hcc : (cds x)[n] = c at ecr
        have hat : atI (cds x) ((n : Nat) : Int) = some c := atI_nat (by rw [List.getElem?_eq_getElem hn', hcc])
        refine iteT ⟨fun σ' H2 => Pv σ' H2 ∧ μ σ' H2 < x.length - n, fun σ' H2 ⟨a, b⟩ => ⟨_, b, rfl, a⟩, ?_⟩
        refine ⟨_, rfl, _, rfl, x, n, c, rfl, rfl, hz', hat, _, _, rfl, rfl, _, rfl, ?_⟩
        rw [in_text cds_gaps]
        rw [ecr, cutP] at hc
        cases hg : gaps.contains c with
        | true =>
          rw [if_pos hg] at hc
          refine iteT ⟨_, rfl, _, _, rfl, rfl, ⟨n + 1, dn, wd, rfl, hd, hs, by omega, by omega, hc⟩, ?_⟩
          show x.length - ((n : Int) + 1).toNat < x.length - n
          omega
        | false =>
          rw [if_neg (by rw [hg]; exact Bool.false_ne_true)] at hc
          refine iteF ⟨_, rfl, _, rfl, x, n, rfl, hz, c, (cds x).drop (n + 1), ecr, ?_⟩
          have dlen : ((cds x).drop (n + 1)).length = x.length - (n + 1) := by rw [List.length_drop, cds_len]
          /- a word of m signs was found -/
          have go : ∀ (row : Tx) (H2 : Hp), Same H' H2 → row ≠ [] → row.length ≤ x.length - n → cutP (cds x) 0 = pre (dn ++ [row]) (cutP ((cds x).drop (n + row.length)) (n + row.length)) →
              tSeq (tDrop (tBM K "list" rAppend (tVar 1) (tCons (tVar 3) tNil))) (tAug 2 (tCB (fun xs H Q => ∃ z : Str, xs = [.str z] ∧ z.length ≤ sizeLine ∧ Q (.int z.length) H) (tCons (tVar 3) tNil)) (ipI fun i j => i + j)) { nx := fun σ' H2 => Pv σ' H2 ∧ μ σ' H2 < x.length - n, rt := Q, bk := fun _ _ => False, ct := fun _ _ => False } [some (.str x), some (.ref p), some (.int n), some (vT row)] H2 := fun row H2 s2 hne hrl hc2 => by
            have hd2 := s2 _ _ hd
            have rl : (ofTx row).length = row.length := by rw [← cds_len]
            refine ⟨_, rfl, .inl ⟨rfl, _, SqL.of hd2⟩, _, rfl, p, _, _, rfl, rfl, hd2, by rw [List.length_map, sizeLine_eq]; omega, ?_⟩
            refine ⟨_, rfl, _, rfl, _, rfl, by rw [rl, sizeLine_eq]; omega, _, _, rfl, rfl, ⟨n + row.length, dn ++ [row], some (vT row), ?_, ?_, ?_, by omega, ?_, hc2⟩, ?_⟩
            · rw [rl]; rfl
            · rw [upd_same, List.map_append]; rfl
            · intro b o q
              rw [upd_ne (ne_of_none q hp)]
              exact s2 _ _ (hs _ _ q)
            · have : 0 < row.length := List.length_pos_iff.mpr hne
              rw [List.length_append]
              show dn.length + 1 ≤ _
              omega
            · have : 0 < row.length := List.length_pos_iff.mpr hne
              show x.length - ((n : Int) + ((ofTx row).length : Int)).toNat < x.length - n
              rw [rl]
              omega
          generalize hdr : (cds x).drop (n + 1) = r at ecr hc dlen
          cases hw : (isNum ((c :: r).takeWhile isRow) || isNm ((c :: r).takeWhile isRow)) with
          | true =>
            rw [if_pos rfl]
            have hne : (c :: r).takeWhile isRow ≠ [] := fun z => by rw [z] at hw; exact absurd hw (by decide)
            have hcr : isRow c = true := by
              cases q : isRow c with
              | true => rfl
              | false => exact absurd ((take_nil_iff c r).mpr q) hne
            rw [if_pos hcr, hw, if_pos rfl, pre_pre] at hc
            refine fun H2 s2 => go _ H2 s2 hne ?_ ?_
            · refine Nat.le_trans (List.takeWhile_sublist isRow).length_le ?_
              show r.length + 1 ≤ _
              omega
            · rw [hc, ← List.drop_drop, ecr, drop_row, List.dropWhile_cons, if_pos hcr]
          | false =>
            rw [if_neg Bool.false_ne_true]
            cases hcr : isRow c with
            | true =>
              rw [if_neg (by simp)]
              rw [if_pos hcr, hw, if_neg Bool.false_ne_true] at hc
              rw [hc] at h
              exact AtK.mono h hs
            | false =>
              rw [if_neg (by rw [hcr]; exact Bool.false_ne_true)] at hc
              cases hsg : sgns.contains c with
              | true =>
                rw [if_pos ⟨rfl, rfl⟩]
                rw [if_pos hsg, pre_pre] at hc
                refine fun H2 s2 => go [c] H2 s2 (by simp) (by show 1 ≤ _; omega) ?_
                rw [hc]
                show _ = pre (dn ++ [[c]]) (cutP ((cds x).drop (n + 1)) (n + 1))
                rw [hdr]
              | false =>
                rw [if_neg (by simp)]
                rw [if_neg (by rw [hsg]; exact Bool.false_ne_true)] at hc
                rw [hc] at h
                exact AtK.mono h hs
      · rw [decide_eq_false hlt]
        refine iteF ⟨_, rfl, ?_⟩
        have e0 : (cds x).drop n = [] := List.drop_eq_nil_of_le (by omega)
        rw [e0, cutP] at hc
        rw [hc] at h
        refine h H' p hp hs ?_
        rw [List.append_nil]
        exact hd
    · rw [if_neg hl] at h
      rw [decide_eq_true (show (6000 : Int) < (x.length : Int) by omega)]
      exact iteT ⟨(show 1 ≤ sizeLine by decide), fun x' hx' => raise_at h (by decide) hx'⟩
  · refine ⟨v, rfl, _, _, _, _, _, rfl, rfl, ty, kt, _, rfl, ?_⟩
    exact iteT (iteT ⟨(show 1 ≤ sizeLine by decide), fun x' hx' => raise_at h (by decide) hx'⟩)
end
end K10

end

section
set_option Elab.async false
set_option linter.all false
set_option maxRecDepth 100000
set_option maxHeartbeats 4000000
namespace K10
open PySem L2
seal L2.PE L2.PA L2.PT L2.PS L2.PSs L2.PG L2.PGs L2.PI L2.PW
abbrev sLTold : Stmt := top 33
/-- the other classes -/
structure Oth (K : PySem.W.Frag) (mg : Str → Option Value) (B : Addr) : Prop where
  form : ∃ a, mg "BadForm" = some (.ref a) ∧ PySem.W.kitOne K (.ref B) (.ref a) = some false
  name : ∃ a, mg "BadName" = some (.ref a) ∧ PySem.W.kitOne K (.ref B) (.ref a) = some false
  kind : ∃ a, mg "BadKind" = some (.ref a) ∧ PySem.W.kitOne K (.ref B) (.ref a) = some false
  inp : ∃ a, mg "BadInput" = some (.ref a) ∧ PySem.W.kitOne K (.ref B) (.ref a) = some false
  val : mg "ValueError" = none ∧ PySem.W.kitOne K (.ref B) (.type "ValueError") = some true
theorem boot_ValueError : bootBuiltins "ValueError" = some (.type "ValueError") := by decide +kernel
section
variable {P : Program} {w : World} {K : PySem.W.Frag} {mg : Str → Option Value} {base : Heap}
def TupK (H : Hp) (Q : VK) (k : Nat) : Prop := ∀ H' p, H p = none → Same H H' → H' p = some (.tup [.int k]) → Q (.ref p) H'
def ToldTo (H : Hp) (Q : VK) : Res → Prop
  | .ok ws => ∀ H' p, H p = none → Same H H' → H' p = some (.lst (ws.map vT)) → Q (.ref p) H'
  | .error k => TupK H Q k
def spLTold (K : PySem.W.Frag) : Sp := fun vs H Q _ => (∃ x : Str, vs = [.str x] ∧ x.length ≤ 100000 ∧ (if x.length ≤ 6000 then ToldTo H Q (cutP (cds x) 0) else TupK H Q 0)) ∨
  (∃ v t, vs = [v] ∧ TyOf K H v t ∧ PySem.W.kitOne K t (.type "str") = some false ∧ TupK H Q 0)
theorem scLTold : FnScope ["_law_text", "e", "_law_others"] ["_law_text"] (defScope sLTold) := ⟨rfl, rfl, rfl, by decide +kernel, rfl, by decide +kernel, by decide +kernel⟩
theorem ok_ltold {f Hc B fi g1 : Addr} {fd d1 : FuncData} (F : Fun K "_law_told" "_law_told" sLTold f fd) (D : Bad K mg Hc B fi) (O : Oth K mg B)
    (G1 : FnOk P w K mg base (CXe P w) 4 g1 d1 ["text"] (spWords K B)) (b1 : Binds K d1 ["text"] []) (k1 : PySem.W.keepIn K (.ref g1) = true) (m1 : mg "words" = some (.ref g1)) :
    FnOk P w K mg base CX0 5 f fd ["_law_text"] (spLTold K) := by
  refine F.ok scLTold (fun vs H Q E h => ?_) (fun cdv A outer s H vs Q E hr h => ?_)
  · rcases h with ⟨x, rfl, _⟩ | ⟨v, t, rfl, _⟩ <;> rfl
  obtain ⟨aF, mF, kF⟩ := O.form
  obtain ⟨aN, mN, kN⟩ := O.name
  obtain ⟨aK, mK, kK⟩ := O.kind
  obtain ⟨aI, mI, kI⟩ := O.inp
  obtain ⟨mV, kV⟩ := O.val
  refine ⟨_, pss_one (ps_try (i := 1) rfl rfl D.xH rfl D.mH scLTold.nd rfl rfl
    (fun l E' => pss_one (ps_ret (pe_call G1 hr rfl m1 k1 b1 .nil (Raised.passes (E := E') (E' := fun cl ed H' => ∀ σ, E' σ cl ed H') fun σ _ _ _ q => q σ) (pa_cons (pv 0) pa_nil))))
    (fun a => pss_cons (ps_set (i := 2) scLTold.nd rfl (Or.inl rfl) (pe_or (pe_callB call_isiX rfl D.isi PyProof.Rows.boot_isinstance (pa_cons (pv 1) (pa_cons (pe_gR rfl mF) pa_nil)))
        (pe_or (pe_callB call_isiX rfl D.isi PyProof.Rows.boot_isinstance (pa_cons (pv 1) (pa_cons (pe_gR rfl mN) pa_nil)))
        (pe_or (pe_callB call_isiX rfl D.isi PyProof.Rows.boot_isinstance (pa_cons (pv 1) (pa_cons (pe_gR rfl mK) pa_nil)))
        (pe_one (pe_callB call_isiX rfl D.isi PyProof.Rows.boot_isinstance (pa_cons (pv 1) (pa_cons (pe_gR rfl mI) pa_nil))))))))
      (pss_cons (ps_if (PW.pt (pw_or (pt_val (pv 2)) (pw_or (pt_not (pt_val (pe_callB call_isiX rfl D.isi PyProof.Rows.boot_isinstance (pa_cons (pv 1) (pa_cons (pe_gR rfl D.mB) pa_nil)))))
        (pw_or1 (pt_not (pt_val (pe_callB call_isiX rfl D.isi PyProof.Rows.boot_isinstance (pa_cons (pv 1) (pa_cons (pe_bltn (v := .ty "ValueError") rfl mV boot_ValueError rfl) pa_nil)))))))))
        (pss_one (ps_ret pe_non)) pss_nil)
      (pss_one (ps_ret (pe_tup (pa_cons (pe_xfld (pv 1) rfl) pa_nil))))))), ?_⟩
  have hv : vs.length = 1 := by rcases h with ⟨x, rfl, _⟩ | ⟨v, t, rfl, _⟩ <;> rfl
  refine ⟨fun _ cl ed H' => cl = .ref B ∧ ∃ (dx : Addr) (k : Nat), ed = some dx ∧ Same H H' ∧ H' dx = some (.xd [("at", .int k)]) ∧ TupK H Q k, ?_, ?_⟩
  · have at_ : ∀ k, TupK H Q k → AtK H B k fun cl ed H' => ∀ _ : St, cl = .ref B ∧ ∃ (dx : Addr) (k : Nat), ed = some dx ∧ Same H H' ∧ H' dx = some (.xd [("at", .int k)]) ∧ TupK H Q k := fun k h H' dx s q _ => ⟨rfl, dx, k, rfl, s, q, h⟩
    rcases h with ⟨x, rfl, hz, h⟩ | ⟨v, t, rfl, ty, kt, h⟩
    · refine ⟨_, rfl, .inl ⟨x, rfl, hz, ?_⟩⟩
      by_cases hl : x.length ≤ 6000
      · rw [if_pos hl] at h ⊢
        cases hc : cutP (cds x) 0 with
        | ok ws => rw [hc] at h; exact h
        | error k => rw [hc] at h; exact at_ k h
      · rw [if_neg hl] at h ⊢
        exact at_ 0 h
    · exact ⟨_, rfl, .inr ⟨v, t, rfl, ty, kt, at_ 0 h⟩⟩
  · rintro σ' a C ed H' hl ⟨e, dx, k, rfl, sm, hd, tk⟩ hx
    obtain rfl : C = B := by injection e
    refine ⟨⟨_, D.xB⟩, D.sub, ?_⟩
    obtain ⟨a0, a1, a2, rfl⟩ : ∃ a0 a1 a2, σ' = [a0, a1, a2] := by
      have hl : σ'.length = 3 := by
        rw [hl]
        unfold L2.start
        rw [List.length_append, List.length_map, List.length_replicate, hv]
        rfl
      match σ', hl with
      | [a0, a1, a2], _ => exact ⟨a0, a1, a2, rfl⟩
    refine ⟨_, rfl, _, _, _, _, _, _, _, rfl, rfl, hx, hd, D.cls, kF, _, rfl, iteF ?_⟩
    refine ⟨_, rfl, _, _, _, _, _, _, _, rfl, rfl, hx, hd, D.cls, kN, _, rfl, iteF ?_⟩
    refine ⟨_, rfl, _, _, _, _, _, _, _, rfl, rfl, hx, hd, D.cls, kK, _, rfl, iteF ?_⟩
    refine ⟨_, rfl, _, _, _, _, _, _, _, rfl, rfl, hx, hd, D.cls, kI, ?_⟩
    refine ⟨_, rfl, _, rfl, iteF ?_⟩
    refine ⟨_, rfl, _, _, _, _, _, _, _, rfl, rfl, hx, hd, D.cls, kit_same, _, rfl, iteF ?_⟩
    refine ⟨_, rfl, _, _, _, _, _, _, _, rfl, rfl, hx, hd, D.cls, kV, _, rfl, iteF ?_⟩
    refine ⟨_, rfl, a, C, dx, _, .int k, rfl, hx, hd, D.cls, D.no, rfl, (show 1 ≤ sizeLine by decide), fun p hp => ?_⟩
    exact tk _ p (sm.free hp) (sm.trans (same_new hp _)) upd_same
end
end K10

end

section
set_option Elab.async false
set_option linter.all false
set_option maxRecDepth 100000
set_option maxHeartbeats 4000000
namespace K10
open PySem L2
seal L2.PE L2.PA L2.PT L2.PS L2.PSs L2.PG L2.PGs L2.PI L2.PW
abbrev sCell : Stmt := top 26
abbrev sMixed : Stmt := top 27
abbrev sToldW : Stmt := top 28
abbrev sPiece : Stmt := top 29
abbrev sBuilt : Stmt := top 30
abbrev sIsRow : Stmt := top 31
abbrev sCut : Stmt := top 32
abbrev sGood : Stmt := top 34
abbrev sLaw : Stmt := top 35

/-! ### data -/
theorem eqvAll_strs : ∀ ys zs : List Str, PyData.eqvAll (ys.map PyData.str) (zs.map PyData.str) = decide (ys = zs)
  | [], [] => by simp [PyData.eqvAll]
  | [], z :: zs => by simp [PyData.eqvAll]
  | y :: ys, [] => by simp [PyData.eqvAll]
  | y :: ys, z :: zs => by
    have ih := eqvAll_strs ys zs
    simp only [List.map_cons, PyData.eqvAll, PyData.eqv, ih]
    by_cases h1 : y = z
    · subst h1; simp
    · have : (y == z) = false := by simpa using h1
      rw [this]
      simp [h1]
theorem eqv_strs (ys zs : List Str) : PyData.eqv (.list (ys.map .str)) (.list (zs.map .str)) = decide (ys = zs) := by
  rw [PyData.eqv, eqvAll_strs]
def lowS (x : Str) : Prop := ∀ c ∈ cds x, c < 128
theorem strOk_low {x : Str} (h : lowS x) : PyData.strOk x = true := by
  unfold PyData.strOk
  rw [← Array.all_toList, List.all_eq_true]
  intro c hc
  have := h c hc
  exact decide_eq_true (by omega)
theorem shaped_strs {ys : List Str} (h : ∀ y ∈ ys, lowS y) : PySem.SeqAt.shaped (.list (ys.map .str)) = true := by
  unfold PySem.SeqAt.shaped
  rw [PyData.canLay0, PyProof.Rows.canLayAll_strs', PyData.depth, PyProof.Rows.depthAll_strs']
  rw [List.all_eq_true.mpr fun y hy => strOk_low (h y hy)]
  rfl

section
variable {P : Program} {w : World} {K : PySem.W.Frag} {mg : Str → Option Value} {base : Heap}
/-! ### _law_cell_at -/
def spCell (K : PySem.W.Frag) : Sp := fun vs H Q _ => ∃ (a : Addr) (ns : List Int) (k : Nat), vs = [.ref a, .int k] ∧ SqL K H a (ns.map V.int) ∧ Q (.int (ns.getD k 0)) H
theorem scCell : FnScope ["_law_script", "_law_k"] ["_law_script", "_law_k"] (defScope sCell) := ⟨rfl, rfl, rfl, by decide +kernel, rfl, by decide +kernel, by decide +kernel⟩
theorem ok_cell {f : Addr} {fd : FuncData} (F : Fun K "_law_cell_at" "_law_cell_at" sCell f fd) (T : Txt K mg) : FnOk P w K mg base CX0 1 f fd ["_law_script", "_law_k"] (spCell K) := by
  refine F.ok scCell (fun vs H Q E h => ?_) (fun cdv A outer s H vs Q E hr h => ?_)
  · obtain ⟨a, ns, k, rfl, _⟩ := h
    rfl
  obtain ⟨a, ns, k, rfl, sq, q⟩ := h
  refine ⟨_, pss_cons (ps_if (pt_cmpR op_lt (pv 1) (pe_callB call_len_seq rfl T.len PySem.boot_len (pa_cons (pv 0) pa_nil)) (nomark _)) (pss_one (ps_ret (pe_ix ix_list (pv 0) (pv 1) (fun _ _ => rfl)))) pss_nil) (pss_one (ps_ret pe_int)), ?_⟩
  refine ⟨_, rfl, _, rfl, a, _, rfl, .inl sq, _, _, rfl, rfl, _, rfl, ?_⟩
  rw [List.length_map]
  by_cases h : (k : Int) < (ns.length : Int)
  · rw [decide_eq_true h]
    have hk : k < ns.length := by omega
    refine iteT ⟨_, rfl, _, rfl, a, _, k, .int ns[k], rfl, rfl, sq, atI_nat (by rw [List.getElem?_map, List.getElem?_eq_getElem hk]; rfl), ?_⟩
    rw [List.getD_eq_getElem?_getD, List.getElem?_eq_getElem hk] at q
    exact q
  · rw [decide_eq_false h]
    refine iteF ?_
    rw [List.getD_eq_getElem?_getD, List.getElem?_eq_none (by omega)] at q
    exact q

/-! ### _law_mixed -/
def spMixed : Sp := fun vs H Q _ => ∃ (c : Int) (k : Nat), vs = [.int c, .int k] ∧ k < 1000 ∧ ∀ r : Int, 0 ≤ r → r < 2 ^ 31 → Q (.int r) H
theorem scMixed : FnScope ["_law_cell", "_law_k"] ["_law_cell", "_law_k"] (defScope sMixed) := ⟨rfl, rfl, rfl, by decide +kernel, rfl, by decide +kernel, by decide +kernel⟩
theorem ok_mixed {f : Addr} {fd : FuncData} (F : Fun K "_law_mixed" "_law_mixed" sMixed f fd) : FnOk P w K mg base CX0 1 f fd ["_law_cell", "_law_k"] spMixed := by
  refine F.ok scMixed (fun vs H Q E h => ?_) (fun cdv A outer s H vs Q E hr h => ?_)
  · obtain ⟨c, k, rfl, _⟩ := h
    rfl
  obtain ⟨c, k, rfl, hk, q⟩ := h
  refine ⟨_, pss_one (ps_ret (pe_op op_fdiv (pe_op op_mod (pe_op op_mul (pe_op op_add (pe_op op_add (pe_op op_mod (pe_op op_mul (pv 0) pe_int) pe_int) (pe_op op_mul (pe_op op_mul pe_int (pv 1)) (pv 1))) (pe_op op_mul pe_int (pv 1))) pe_int) pe_int) pe_int)), ?_⟩
  refine ⟨_, rfl, _, _, rfl, rfl, .inr (by decide), _, _, rfl, rfl, (show (0 : Int) < 2147483647 by decide), ?_⟩
  refine ⟨_, rfl, _, _, rfl, rfl, .inl (by decide), _, rfl, _, _, rfl, rfl, .inr (by omega), _, _, rfl, rfl, ?_⟩
  refine ⟨_, rfl, _, _, rfl, rfl, .inl (by decide), _, _, rfl, rfl, _, _, rfl, rfl, .inr (by decide), _, _, rfl, rfl, (show (0 : Int) < 2147483629 by decide), _, _, rfl, rfl, ⟨by decide, by decide⟩, ?_⟩
  generalize ((c * 48271 % 2147483647 + 7919 * (k : Int) * k + 104729 * k) * 69621) = z
  refine q _ ?_ ?_
  · have := Int.emod_nonneg z (show (2147483629 : Int) ≠ 0 by decide)
    omega
  · have := Int.emod_lt_of_pos z (show (0 : Int) < 2147483629 by decide)
    have := Int.emod_nonneg z (show (2147483629 : Int) ≠ 0 by decide)
    omega

/-! ### _law_told_words -/
def spToldW : Sp := fun vs H Q _ => vs = [] ∧ ∀ p, H p = none → Q (.ref p) (upd H p (.lst (told.map V.str)))
theorem scToldW : FnScope [] [] (defScope sToldW) := ⟨rfl, rfl, rfl, by decide +kernel, rfl, by decide +kernel, by decide +kernel⟩
theorem told_split : Txt.split "house of has can main let in if then else new self elder set not yes no number truth" " " = told := by decide +kernel
theorem ok_toldW {f : Addr} {fd : FuncData} (F : Fun K "_law_told_words" "_law_told_words" sToldW f fd) : FnOk P w K mg base CX0 1 f fd [] spToldW := by
  refine F.ok scToldW (fun vs H Q E h => ?_) (fun cdv A outer s H vs Q E hr h => ?_)
  · obtain ⟨rfl, _⟩ := h
    rfl
  obtain ⟨rfl, q⟩ := h
  refine ⟨_, pss_one (ps_ret (pe_bm PySem.F.plainAttrs_str PySem.F.slot_str_split PySem.F.type_str_split mt_split pe_str (pa_cons pe_str pa_nil))), ?_⟩
  refine ⟨rfl, _, _, rfl, rfl, by decide +kernel, by decide +kernel, by rw [told_split]; decide, fun p hp => ?_⟩
  rw [told_split]
  exact q p hp

/-! ### _law_is_row -/
def spLRow : Sp := fun vs H Q _ => ∃ x : Str, vs = [.str x] ∧ cds x ≠ [] ∧ lowS x ∧ x.length ≤ sizeLine ∧ ∀ H', Same H H' → Q (.bl (lawRow (cds x))) H'
theorem scLRow : FnScope ["_law_row", "_law_odd", "_law_small"] ["_law_row"] (defScope sIsRow) := ⟨rfl, rfl, rfl, by decide +kernel, rfl, by decide +kernel, by decide +kernel⟩

theorem sgn_notin {x : Str} {l : Tx} (h : cds x = l) (c : Nat) : (!(!(Builtin.Str.occurrences x ⟨#[c]⟩ 0 x.length 1).isEmpty)) = !l.contains c := by rw [in_text h]
theorem cds_both : cds "abcdefghijklmnopqrstuvwxyz0123456789" = smalls ++ figs := by decide +kernel
theorem filter_nil_iff (l : Tx) (p : Nat → Bool) : (l.filter fun c => !p c) = [] ↔ l.all p = true := by
  rw [List.filter_eq_nil_iff, List.all_eq_true]
  constructor
  · intro h c hc
    have := h c hc
    simpa using this
  · intro h c hc
    rw [h c hc]
    simp
/-- a list of one-sign texts == [] -/
theorem eq_nil {K : PySem.W.Frag} {H : Hp} {a b : Addr} {l : Tx} (hl : ∀ c ∈ l, c < 1114112) (ha : SqL K H a (l.map fun c => V.str ⟨#[c]⟩)) (hb : SqL K H b []) {Q : VK} (q : Q (.bl (decide (l = []))) H) : rEqD K (.ref a) (.ref b) H Q := by
  refine ⟨_, _, .lst ha (by have := RdDs.strs (K := K) (H := H) (l.map fun c => (⟨#[c]⟩ : Str)); rw [List.map_map] at this; exact this), .lst hb .nil, ?_, by decide +kernel, ?_⟩
  · unfold PySem.SeqAt.shaped
    rw [PyData.canLay0, PyProof.Rows.canLayAll_strs', PyData.depth, PyProof.Rows.depthAll_strs', List.all_map]
    rw [List.all_eq_true.mpr fun c hc => ?_]
    · rfl
    · show PyData.strOk ⟨#[c]⟩ = true
      unfold PyData.strOk
      have := hl c hc
      simp
      omega
  · have e : PyData.eqv (.list ((l.map fun c => (⟨#[c]⟩ : Str)).map PyData.str)) (.list []) = decide (l = []) := by
      have := eqv_strs (l.map fun c => (⟨#[c]⟩ : Str)) []
      rw [show ([] : List Str).map PyData.str = [] from rfl] at this
      rw [this]
      simp
    rw [e]
    exact q
theorem ok_lrow {f : Addr} {fd : FuncData} (F : Fun K "_law_is_row" "_law_is_row" sIsRow f fd) (T : Txt K mg) : FnOk P w K mg base CX0 1 f fd ["_law_row"] spLRow := by
  refine F.ok scLRow (fun vs H Q E h => ?_) (fun cdv A outer s H vs Q E hr h => ?_)
  · obtain ⟨x, rfl, _⟩ := h
    rfl
  obtain ⟨x, rfl, hne, hlow, hz, q⟩ := h
  refine ⟨_, pss_cons (ps_if (pt_cmpR op_in_str (pe_ix ix_str (pv 0) pe_int (fun _ _ => rfl)) pe_str (by with_unfolding_all rfl))
      (pss_cons (ps_setcomp1 (i := 1) rfl scLRow.nd rfl rfl (BlockOk.plain (N := ["_law_sign"]) rfl (by decide +kernel) (by decide +kernel) (by decide +kernel)) (pi_str (pv 0))
        (fun C fp s H => pg_name (i := 0) (show (["_law_sign"] : List Str).Nodup by decide +kernel) rfl (Or.inl rfl)) (fun C fp s H => pt_cmpR op_notin_str (pv 0) pe_str (by with_unfolding_all rfl)) (fun C fp s H => pv 0))
      (pss_one (ps_ret (pe_and (pe_cmpR op_lt (pe_callB call_len_str rfl T.len PySem.boot_len (pa_cons (pv 0) pa_nil)) pe_int (nomark _)) (pe_and (pe_or (pe_cmpR op_eq (pv 0) pe_str (nomark _)) (pe_one (pe_cmpR op_ne (pe_ix ix_str (pv 0) pe_int (fun _ _ => rfl)) pe_str (nomark _))))
        (pe_one (pe_cmpR (op_eqD hr.units) (pv 1) (pe_lst pa_nil) (nomark _)))))))) pss_nil)
    (pss_cons (ps_setcomp1 (i := 2) rfl scLRow.nd rfl rfl (BlockOk.plain (N := ["_law_sign"]) rfl (by decide +kernel) (by decide +kernel) (by decide +kernel)) (pi_str (pv 0))
        (fun C fp s H => pg_name (i := 0) (show (["_law_sign"] : List Str).Nodup by decide +kernel) rfl (Or.inl rfl)) (fun C fp s H => pt_cmpR op_notin_str (pv 0) pe_str (by with_unfolding_all rfl)) (fun C fp s H => pv 0))
      (pss_one (ps_ret (pe_and (pe_cmpR op_lt (pe_callB call_len_str rfl T.len PySem.boot_len (pa_cons (pv 0) pa_nil)) pe_int (nomark _)) (pe_one (pe_cmpR (op_eqD hr.units) (pv 2) (pe_lst pa_nil) (nomark _))))))), ?_⟩
  have hlen := cds_len x
  obtain ⟨c, r, e⟩ : ∃ c r, cds x = c :: r := by
    cases e : cds x with
    | nil => exact absurd e hne
    | cons c r => exact ⟨c, r, rfl⟩
  have xl : x.length = r.length + 1 := by rw [e] at hlen; simpa using hlen.symm
  have h0 : atI (cds x) ((0 : Nat) : Int) = some c := atI_nat (by rw [e]; rfl)
  refine ⟨_, rfl, x, 0, c, rfl, rfl, hz, h0, _, _, rfl, rfl, _, rfl, ?_⟩
  rw [in_text cds_figures]
  have xlow : ∀ p : Nat → Bool, ∀ d ∈ (cds x).filter p, d ∈ cds x := fun p d hd => (List.mem_filter.mp hd).1
  cases hf : figs.contains c with
  | true =>
    refine iteT ⟨_, rfl, _, rfl, fun D hD => comp_signs none [] (fun d => !figs.contains d) (fun d => .str ⟨#[d]⟩) rfl (fun d _ l K k => ⟨_, rfl, _, _, rfl, rfl, _, rfl, by rw [sgn_notin cds_figures]; exact k⟩) (fun d _ _ l K k => ⟨_, rfl, k⟩) hz ?_⟩
    refine ⟨_, rfl, _, rfl, hz, _, _, rfl, rfl, _, rfl, ?_⟩
    have qq : ∀ H', Same H H' → Q (.bl (decide (r.length < 9) && ((decide (c ≠ 48) || r.isEmpty) && (c :: r).all fun x => figs.contains x))) H' := fun H' s' => by
      have := q H' s'
      rw [e, lawRow, if_pos hf] at this
      exact this
    have sD := same_new (o := .lst (((x.cps.toList).filter fun d => !figs.contains d).map fun d => V.str ⟨#[d]⟩)) hD
    by_cases h9 : (x.length : Int) < 10
    · rw [decide_eq_true h9]
      rw [decide_eq_true (show r.length < 9 by omega)] at qq
      refine iteT ⟨_, rfl, rfl, _, rfl, ?_⟩
      have fin : ∀ b : Bool, b = (decide (c ≠ 48) || r.isEmpty) → b = true → ∀ H', Same H H' → Q (.bl (decide (((x.cps.toList).filter fun d => !figs.contains d) = []))) H' := fun b hb hb2 H' s' => by
        have := qq H' s'
        rw [← hb, hb2, Bool.true_and, Bool.true_and] at this
        have e2 : decide (((x.cps.toList).filter fun d => !figs.contains d) = []) = (c :: r).all fun x => figs.contains x := by
          rw [← e]
          exact Bool.eq_iff_iff.mpr (by rw [decide_eq_true_iff]; exact filter_nil_iff (cds x) fun d => figs.contains d)
        rw [e2]
        exact this
      have nil : ∀ (H' : Hp) (b : Addr), H' b = none → (∀ u o, H u = some o → H' u = some o) → H' D = some (.lst (((x.cps.toList).filter fun d => !figs.contains d).map fun d => V.str ⟨#[d]⟩)) → (decide (c ≠ 48) || r.isEmpty) = true →
          rEqD K (.ref D) (.ref b) (upd H' b (.lst [])) Q := fun H' b hb hs hd hx =>
        eq_nil (l := (x.cps.toList).filter fun d => !figs.contains d) (fun d hd => by have := hlow d (xlow _ d hd); omega) (SqL.of (by rw [upd_ne (ne_of_none hd hb)]; exact hd)) (SqL.of upd_same) (fin _ rfl hx _ (Same.trans hs (same_new hb _)))
      by_cases hx : V.str x = V.str "0"
      · rw [decide_eq_true hx]
        have hx' : cds x = [48] := by injection hx with hx; rw [hx, cds_zero]
        rw [hx'] at e
        cases e
        exact iteT ⟨_, rfl, iteT ⟨_, rfl, by decide, fun b hb => nil _ b hb sD upd_same rfl⟩⟩
      · rw [decide_eq_false hx]
        refine iteF ⟨_, rfl, x, 0, c, rfl, rfl, hz, h0, rfl, _, rfl, ?_⟩
        rw [one_eq c "0" 48 cds_zero]
        by_cases hc : c = 48
        · rw [decide_eq_true hc]
          refine iteF ?_
          have hr0 : r.isEmpty = false := by
            cases r with
            | nil => exact absurd (by rw [show x = "0" from cds_ext (by rw [e, cds_zero, hc])]) hx
            | cons _ _ => rfl
          have := qq _ sD
          rw [hr0, hc] at this
          exact this
        · rw [decide_eq_false hc]
          exact iteT ⟨_, rfl, by decide, fun b hb => nil _ b hb sD upd_same (by rw [decide_eq_true hc]; rfl)⟩
    · rw [decide_eq_false h9]
      refine iteF ?_
      have := qq _ sD
      rw [decide_eq_false (show ¬ r.length < 9 by omega)] at this
      exact this
  | false =>
    have qq : ∀ H', Same H H' → Q (.bl (decide (r.length < 8) && (c :: r).all fun x => smalls.contains x || figs.contains x)) H' := fun H' s' => by
      have := q H' s'
      rw [e, lawRow, if_neg (by rw [hf]; exact Bool.false_ne_true)] at this
      exact this
    refine iteF ⟨_, rfl, _, rfl, fun D hD => comp_signs none [] (fun d => !(smalls ++ figs).contains d) (fun d => .str ⟨#[d]⟩) rfl (fun d _ l K k => ⟨_, rfl, _, _, rfl, rfl, _, rfl, by rw [sgn_notin cds_both]; exact k⟩) (fun d _ _ l K k => ⟨_, rfl, k⟩) hz ?_⟩
    refine ⟨_, rfl, _, rfl, hz, _, _, rfl, rfl, _, rfl, ?_⟩
    have sD := same_new (o := .lst (((x.cps.toList).filter fun d => !(smalls ++ figs).contains d).map fun d => V.str ⟨#[d]⟩)) hD
    by_cases h9 : (x.length : Int) < 9
    · rw [decide_eq_true h9]
      rw [decide_eq_true (show r.length < 8 by omega)] at qq
      refine iteT ⟨_, rfl, by decide, fun b hb => eq_nil (l := (x.cps.toList).filter fun d => !(smalls ++ figs).contains d) (fun d hd => by have := hlow d (xlow _ d hd); omega) (SqL.of (by rw [upd_ne (ne_of_none upd_same hb), upd_same])) (SqL.of upd_same) ?_⟩
      have := qq _ (sD.trans (same_new hb (.lst [])))
      rw [Bool.true_and] at this
      have e2 : decide (((x.cps.toList).filter fun d => !(smalls ++ figs).contains d) = []) = (c :: r).all fun x => smalls.contains x || figs.contains x := by
        rw [← e]
        refine Bool.eq_iff_iff.mpr ?_
        rw [decide_eq_true_iff]
        refine (filter_nil_iff (cds x) fun d => (smalls ++ figs).contains d).trans ?_
        have : (fun d : Nat => (smalls ++ figs).contains d) = fun d => smalls.contains d || figs.contains d := by
          funext d
          simp [List.contains_eq_mem, List.mem_append]
        rw [this]
      rw [e2]
      exact this
    · rw [decide_eq_false h9]
      refine iteF ?_
      have := qq _ sD
      rw [decide_eq_false (show ¬ r.length < 8 by omega)] at this
      exact this
end
end K10

end

section
set_option Elab.async false
set_option linter.all false
set_option maxRecDepth 100000
set_option maxHeartbeats 4000000
namespace K10
open PySem L2
seal L2.PE L2.PA L2.PT L2.PS L2.PSs L2.PG L2.PGs L2.PI L2.PW
section
variable {P : Program} {w : World} {K : PySem.W.Frag} {mg : Str → Option Value} {base : Heap}
/-- more names of the module -/
structure Blt (mg : Str → Option Value) : Prop where
  range : mg "range" = none
  int : mg "int" = none
  str : mg "str" = none
  enum : mg "enumerate" = none
  list : mg "list" = none
  tuple : mg "tuple" = none
  bool : mg "bool" = none

/-! ### _law_cut -/
def CutI (H : Hp) (Q : VK) : Res → Prop
  | .ok ws => ∀ H' p, H p = none → Same H H' → H' p = some (.lst (ws.map vT)) → Q (.ref p) H'
  | .error k => ∀ H', Same H H' → Q (.int k) H'
def spCut : Sp := fun vs H Q _ => ∃ x : Str, vs = [.str x] ∧ lowS x ∧ x.length ≤ 100000 ∧ CutI H Q (cutP (cds x) 0)
theorem scCut : FnScope ["_law_text", "_law_found", "_law_row", "_law_k", "_law_sign"] ["_law_text"] (defScope sCut) := ⟨rfl, rfl, rfl, by decide +kernel, rfl, by decide +kernel, by decide +kernel⟩
theorem cds_one (c : Nat) : cds ⟨#[c]⟩ = [c] := rfl
theorem cds_ofTx (l : Tx) : cds (ofTx l) = l := rfl
theorem ofTx_len (l : Tx) : (ofTx l).length = l.length := by rw [← cds_len]
theorem ofTx_app (a b : Tx) : ofTx a ++ ofTx b = ofTx (a ++ b) := cds_ext (by rw [cds_app])
theorem cds_blank : cds " " = [32] := by decide +kernel
theorem empty_iff (l : Tx) : decide (V.str (ofTx l) = V.str "") = decide (l = []) := by
  refine decide_eq_decide.mpr ⟨fun z => ?_, fun z => by rw [z]; rfl⟩
  injection z with z
  have : cds (ofTx l) = cds "" := by rw [z]
  rw [cds_ofTx] at this
  rw [this]
  decide +kernel
theorem ok_cut {f g1 : Addr} {fd d1 : FuncData} (F : Fun K "_law_cut" "_law_cut" sCut f fd) (T : Txt K mg) (Bl : Blt mg) (G1 : FnOk P w K mg base CX0 1 g1 d1 ["_law_row"] spLRow) (b1 : Binds K d1 ["_law_row"] []) (k1 : PySem.W.keepIn K (.ref g1) = true) (m1 : mg "_law_is_row" = some (.ref g1)) :
    FnOk P w K mg base CX0 2 f fd ["_law_text"] spCut := by
  refine F.ok scCut (fun vs H Q E h => ?_) (fun cdv A outer s H vs Q E hr h => ?_)
  · obtain ⟨x, rfl, _⟩ := h
    rfl
  obtain ⟨x, rfl, hlow, hz, h⟩ := h
  refine ⟨_, pss_cons (ps_set (i := 1) scCut.nd rfl (Or.inl rfl) (pe_lst pa_nil))
    (pss_cons (ps_set (i := 2) scCut.nd rfl (Or.inl rfl) pe_str)
    (pss_cons (ps_for PassesOwn.never rfl (pi_range1 rfl Bl.range (pa_cons (pe_op op_add (pe_callB call_len_str rfl T.len PySem.boot_len (pa_cons (pv 0) pa_nil)) pe_int) pa_nil)) (pg_name (i := 3) scCut.nd rfl (Or.inl rfl))
      (pss_cons (ps_set (i := 4) scCut.nd rfl (Or.inl rfl) (pe_ix ix_str (pe_op op_add_str (pv 0) pe_str) (pv 3) (fun _ _ => rfl)))
      (pss_one (ps_if (pt_val (pe_bm0 PySem.F.plainAttrs_str PySem.F.slot_str_isalnum PySem.F.type_str_isalnum mt_isalnum (pv 4)))
        (pss_one (ps_set (i := 2) scCut.nd rfl (Or.inl rfl) (pe_op op_add_str (pv 2) (pv 4))))
        (pss_cons (ps_if (PW.pt (pw_and (pt_cmpR op_ne (pv 2) pe_str (nomark _)) (pw_and1 (pt_not (pt_val (pe_call G1 hr rfl m1 k1 b1 .nil pass0 (pa_cons (pv 2) pa_nil))))))) (pss_one (ps_ret (pe_op op_sub (pv 3) (pe_callB call_len_str rfl T.len PySem.boot_len (pa_cons (pv 2) pa_nil))))) pss_nil)
        (pss_cons (ps_set (i := 1) scCut.nd rfl (Or.inl rfl) (pe_op op_cat (pv 1) (pe_op op_rep (pe_lst (pa_cons (pv 2) pa_nil)) (pe_callTy call_int1 rfl Bl.int PyProof.Rows.boot_int (pa_cons (pe_cmpR op_ne (pv 2) pe_str (nomark _)) pa_nil)))))
        (pss_cons (ps_set (i := 2) scCut.nd rfl (Or.inl rfl) pe_str)
        (pss_one (ps_if (pt_cmpR op_in_str (pv 4) pe_str (by with_unfolding_all rfl)) (pss_one (ps_expr (pe_bm PySem.F.plainAttrs_list PySem.F.slot_list_append PySem.F.type_list_append mt_append (pv 1) (pa_cons (pv 4) pa_nil))))
          (pss_one (ps_if (pt_cmpR op_notin_str (pv 4) pe_str (by with_unfolding_all rfl)) (pss_one (ps_ret (pv 3))) pss_nil))))))))))) 
    (pss_one (ps_ret (pv 1))))), ?_⟩
  have hz' : x.length ≤ sizeLine := Nat.le_trans hz (by decide)
  have hlen := cds_len x
  have hcut : lawGo Unicode.isAlnum (cds x ++ [32]) 0 [] [] = cutP (cds x) 0 := cut_eq Unicode.isAlnum (by decide +kernel) (cds x) fun c hc => alnum_ascii (hlow c hc)
  generalize hl : cds x ++ [32] = l at hcut
  have llow : ∀ c ∈ l, c < 128 := fun c hc => by
    rw [← hl] at hc
    rcases List.mem_append.mp hc with hc | hc
    · exact hlow c hc
    · have : c = 32 := by simpa using hc
      omega
  have llen : l.length = x.length + 1 := by rw [← hl, List.length_append, hlen]; rfl
  generalize cutP (cds x) 0 = R at hcut h
  refine ⟨by decide, fun p0 hp0 => ?_⟩
  refine ⟨_, rfl, _, rfl, hz', _, _, rfl, rfl, _, rfl, by omega, by omega, ?_⟩
  let W : Nat → Nat → St → Hp → Prop := fun i m σ H' => m = (x.length + 1) - i ∧ i ≤ x.length + 1 ∧ ∃ (p : Addr) (row : Tx) (found : List Tx) (k s : Option V), σ = [some (.str x), some (.ref p), some (.str (ofTx row)), k, s] ∧ H p = none ∧ Same H H' ∧ H' p = some (.lst (found.map vT)) ∧
    lawGo Unicode.isAlnum (l.drop i) i row found = R ∧ row.length ≤ i ∧ found.length ≤ 2 * i ∧ ∀ c ∈ row, c < 128
  refine ⟨W, ⟨_, rfl, Nat.zero_le _, p0, [], [], none, none, rfl, hp0, same_new hp0 _, upd_same, hcut, Nat.le_refl _, Nat.le_refl _, fun c hc => absurd hc (by simp)⟩, ?_⟩
  rintro i m σ H' ⟨rfl, hi, p, row, found, k, s', rfl, hp, hs, hd, hg, hrow, hfd, hrl⟩
  by_cases hlt : i < x.length + 1
  · have hi' : i < l.length := by omega
    have edr : l.drop i = l[i] :: l.drop (i + 1) := List.drop_eq_getElem_cons hi'
    have hcm : l[i] ∈ l := List.getElem_mem hi'
    have hat : atI l ((i : Nat) : Int) = some l[i] := atI_nat (List.getElem?_eq_getElem hi')
    generalize l[i] = c at edr hcm hat
    have hc128 := llow c hcm
    rw [edr, lawGo] at hg
    refine .inr ⟨by show i < ((x.length : Int) + 1).toNat; omega, fun σ' H2 => W (i + 1) (x.length + 1 - (i + 1)) σ' H2, fun σ' H2 hW => ⟨_, by omega, hW⟩, ?_⟩
    rintro v H2 ⟨rfl, hv⟩
    obtain rfl : v = .int i := by rw [hv, Int.zero_add]
    have elx : cds (x ++ " ") = l := by rw [cds_app, cds_blank, hl]
    refine ⟨_, rfl, _, _, rfl, rfl, by show x.length + 1 ≤ sizeLine; rw [sizeLine_eq]; omega, _, rfl, x ++ " ", i, c, rfl, rfl, by rw [← cds_len, elx, llen, sizeLine_eq]; omega, by show atI (cds (x ++ " ")) _ = _; rw [elx]; exact hat, ?_⟩
    refine ⟨_, rfl, rfl, _, rfl, rfl, _, rfl, ?_⟩
    rw [isalnum_one]
    cases hal : Unicode.isAlnum c with
    | true =>
      rw [if_pos hal] at hg
      refine iteT ⟨_, rfl, _, rfl, _, _, rfl, rfl, by rw [ofTx_len]; show row.length + 1 ≤ sizeLine; rw [sizeLine_eq]; omega, rfl, hlt, p, row ++ [c], found, some (.int i), some (.str ⟨#[c]⟩), ?_, hp, hs, hd, hg, by rw [List.length_append]; show row.length + 1 ≤ _; omega, by omega, fun d hd => ?_⟩
      · show [some (V.str x), some (V.ref p), some (V.str (ofTx row ++ ofTx [c])), some (V.int i), some (V.str (ofTx [c]))] = _
        rw [ofTx_app]
      · rcases List.mem_append.mp hd with hd | hd
        · exact hrl d hd
        · have : d = c := by simpa using hd
          omega
    | false =>
      rw [if_neg (by rw [hal]; exact Bool.false_ne_true)] at hg
      by_cases hbad : row ≠ [] ∧ lawRow row = false
      · rw [if_pos hbad] at hg
        refine iteF ⟨_, rfl, rfl, _, rfl, ?_⟩
        rw [empty_iff, decide_eq_false hbad.1]
        refine iteT ⟨_, rfl, ofTx row, rfl, hbad.1, hrl, by rw [ofTx_len, sizeLine_eq]; omega, fun H1 s1 => ⟨_, rfl, ?_⟩⟩
        rw [cds_ofTx, hbad.2]
        refine iteT ⟨_, rfl, _, rfl, _, rfl, by rw [ofTx_len, sizeLine_eq]; omega, _, _, rfl, rfl, ?_⟩
        rw [← hg] at h
        have := h H1 (hs.trans s1)
        rw [show ((i - row.length : Nat) : Int) = (i : Int) - ((ofTx row).length : Nat) by rw [ofTx_len]; omega] at this
        exact this
      · rw [if_neg hbad] at hg
        refine iteF ?_
        have restE : found.map vT ++ (List.replicate (if (!decide (V.str (ofTx row) = V.str "")) = true then (1 : Int) else 0).toNat [vT row]).flatten = (if row = [] then found else found ++ [row]).map vT := by
          rw [empty_iff]
          by_cases he : row = []
          · rw [decide_eq_true he, if_pos he]; simp
          · rw [decide_eq_false he, if_neg he]; simp
        have fl2 : (if row = [] then found else found ++ [row]).length ≤ 2 * i + 1 := by
          split
          · omega
          · rw [List.length_append]; show found.length + 1 ≤ _; omega
        simp only [] at hg
        generalize (if row = [] then found else found ++ [row]) = f2 at restE fl2 hg
        by_cases he : row = []
        · refine ⟨_, rfl, rfl, _, rfl, ?_⟩
          rw [empty_iff, decide_eq_true he]
          refine iteF (iteF ?_)
          have hs1 := hs
          have hd1 := hd
          have hpq : ∀ z, _ = none → p ≠ z := fun z hz => ne_of_none hd1 hz
          refine ⟨_, rfl, _, rfl, (show 1 ≤ sizeLine by decide), fun q hq => ⟨_, rfl, rfl, .inr ⟨_, rfl, q, _, [vT row], rfl, rfl, upd_same, ?_, ?_, ?_, fun q2 hq2 => ⟨p, q2, found.map vT, _, rfl, rfl, ?_, upd_same, ?_, fun p2 hp2 => ?_⟩⟩⟩⟩
          · split <;> decide
          · split <;> decide
          · show 1 * _ ≤ sizeLine
            split <;> decide
          · have n1 : p ≠ q := hpq q hq
            have n2 : p ≠ q2 := fun z => by rw [← z, upd_ne n1, hd1] at hq2; cases hq2
            rw [upd_ne n2, upd_ne n1]
            exact hd1
          · rw [← List.length_append, restE, List.length_map, sizeLine_eq]
            omega
          have t1 := same_new (o := .lst [vT row]) hq
          have t2 := same_new (o := .lst (List.replicate (if (!decide (V.str (ofTx row) = V.str "")) = true then (1 : Int) else 0).toNat [vT row]).flatten) hq2
          have t3 := same_new (o := .lst (found.map vT ++ (List.replicate (if (!decide (V.str (ofTx row) = V.str "")) = true then (1 : Int) else 0).toNat [vT row]).flatten)) hp2
          have np2 : H p2 = none := ((hs1.trans t1).trans t2).free hp2
          have sm := ((hs1.trans t1).trans t2).trans t3
          rw [restE] at sm
          refine ⟨_, rfl, _, _, rfl, rfl, _, rfl, ?_⟩
          rw [in_text cds_signs]
          cases hsg : sgns.contains c with
          | true =>
            rw [if_pos hsg] at hg
            refine iteT ⟨_, rfl, .inl ⟨rfl, _, SqL.of upd_same⟩, _, rfl, p2, _, _, rfl, rfl, upd_same, ?_, rfl, hlt, p2, [], f2 ++ [[c]], some (.int i), some (.str ⟨#[c]⟩), rfl, np2, ?_, ?_, hg, Nat.zero_le _, ?_, fun d hd => absurd hd (by simp)⟩
            · rw [restE, List.length_map, sizeLine_eq]; omega
            · intro b o hb
              rw [upd_ne (ne_of_none hb np2)]
              rw [restE]
              exact sm b o hb
            · rw [upd_same, restE, List.map_append]; rfl
            · rw [List.length_append]; show f2.length + 1 ≤ _; omega
          | false =>
            rw [if_neg (by rw [hsg]; exact Bool.false_ne_true)] at hg
            refine iteF ⟨_, rfl, _, _, rfl, rfl, _, rfl, ?_⟩
            rw [sgn_notin cds_gaps]
            cases hgp : gaps.contains c with
            | true =>
              rw [if_pos hgp] at hg
              refine iteF ⟨rfl, hlt, p2, [], f2, some (.int i), some (.str ⟨#[c]⟩), rfl, np2, ?_, ?_, hg, Nat.zero_le _, by omega, fun d hd => absurd hd (by simp)⟩
              · rw [restE]; exact sm
              · rw [upd_same, restE]
            | false =>
              rw [if_neg (by rw [hgp]; exact Bool.false_ne_true)] at hg
              refine iteT ⟨_, rfl, ?_⟩
              rw [← hg] at h
              refine h _ ?_
              rw [restE]; exact sm
        · have hlr : lawRow row = true := by
            cases q : lawRow row with
            | true => rfl
            | false => exact absurd ⟨he, q⟩ hbad
          refine ⟨_, rfl, rfl, _, rfl, ?_⟩
          rw [empty_iff, decide_eq_false he]
          refine iteT ⟨_, rfl, ofTx row, rfl, he, hrl, by rw [ofTx_len, sizeLine_eq]; omega, fun H1 s1 => ⟨_, rfl, ?_⟩⟩
          rw [cds_ofTx, hlr]
          refine iteF ?_
          have hs1 := hs.trans s1
          have hd1 := s1 _ _ hd
          have hpq : ∀ z, _ = none → p ≠ z := fun z hz => ne_of_none hd1 hz
          refine ⟨_, rfl, _, rfl, (show 1 ≤ sizeLine by decide), fun q hq => ⟨_, rfl, rfl, .inr ⟨_, rfl, q, _, [vT row], rfl, rfl, upd_same, ?_, ?_, ?_, fun q2 hq2 => ⟨p, q2, found.map vT, _, rfl, rfl, ?_, upd_same, ?_, fun p2 hp2 => ?_⟩⟩⟩⟩
          · split <;> decide
          · split <;> decide
          · show 1 * _ ≤ sizeLine
            split <;> decide
          · have n1 : p ≠ q := hpq q hq
            have n2 : p ≠ q2 := fun z => by rw [← z, upd_ne n1, hd1] at hq2; cases hq2
            rw [upd_ne n2, upd_ne n1]
            exact hd1
          · rw [← List.length_append, restE, List.length_map, sizeLine_eq]
            omega
          have t1 := same_new (o := .lst [vT row]) hq
          have t2 := same_new (o := .lst (List.replicate (if (!decide (V.str (ofTx row) = V.str "")) = true then (1 : Int) else 0).toNat [vT row]).flatten) hq2
          have t3 := same_new (o := .lst (found.map vT ++ (List.replicate (if (!decide (V.str (ofTx row) = V.str "")) = true then (1 : Int) else 0).toNat [vT row]).flatten)) hp2
          have np2 : H p2 = none := ((hs1.trans t1).trans t2).free hp2
          have sm := ((hs1.trans t1).trans t2).trans t3
          rw [restE] at sm
          refine ⟨_, rfl, _, _, rfl, rfl, _, rfl, ?_⟩
          rw [in_text cds_signs]
          cases hsg : sgns.contains c with
          | true =>
            rw [if_pos hsg] at hg
            refine iteT ⟨_, rfl, .inl ⟨rfl, _, SqL.of upd_same⟩, _, rfl, p2, _, _, rfl, rfl, upd_same, ?_, rfl, hlt, p2, [], f2 ++ [[c]], some (.int i), some (.str ⟨#[c]⟩), rfl, np2, ?_, ?_, hg, Nat.zero_le _, ?_, fun d hd => absurd hd (by simp)⟩
            · rw [restE, List.length_map, sizeLine_eq]; omega
            · intro b o hb
              rw [upd_ne (ne_of_none hb np2)]
              rw [restE]
              exact sm b o hb
            · rw [upd_same, restE, List.map_append]; rfl
            · rw [List.length_append]; show f2.length + 1 ≤ _; omega
          | false =>
            rw [if_neg (by rw [hsg]; exact Bool.false_ne_true)] at hg
            refine iteF ⟨_, rfl, _, _, rfl, rfl, _, rfl, ?_⟩
            rw [sgn_notin cds_gaps]
            cases hgp : gaps.contains c with
            | true =>
              rw [if_pos hgp] at hg
              refine iteF ⟨rfl, hlt, p2, [], f2, some (.int i), some (.str ⟨#[c]⟩), rfl, np2, ?_, ?_, hg, Nat.zero_le _, by omega, fun d hd => absurd hd (by simp)⟩
              · rw [restE]; exact sm
              · rw [upd_same, restE]
            | false =>
              rw [if_neg (by rw [hgp]; exact Bool.false_ne_true)] at hg
              refine iteT ⟨_, rfl, ?_⟩
              rw [← hg] at h
              refine h _ ?_
              rw [restE]; exact sm
  · refine .inl ⟨by show ((x.length : Int) + 1).toNat ≤ i; omega, _, rfl, ?_⟩
    have e0 : l.drop i = [] := List.drop_eq_nil_of_le (by omega)
    rw [e0, lawGo] at hg
    rw [← hg] at h
    exact h H' p hp hs hd
end
end K10

end

section
set_option Elab.async false
set_option linter.all false
set_option maxRecDepth 100000
set_option maxHeartbeats 4000000
namespace K10
open PySem L2
seal L2.PE L2.PA L2.PT L2.PS L2.PSs L2.PG L2.PGs L2.PI L2.PW
theorem cut_sub : ∀ (n : Nat) (t : Tx) (k : Nat) (ws : List Tx), t.length ≤ n → cutP t k = .ok ws → ∀ w ∈ ws, ∀ c ∈ w, c ∈ t
  | _, [], k, ws, _, h, w, hw, c, hc => by
    rw [cutP] at h
    cases h
    cases hw
  | 0, c :: r, _, _, h, _, _, _, _, _ => by simp at h
  | n + 1, c :: r, k, ws, hn, h, w, hw, d, hd => by
    have hr : r.length ≤ n := by simpa using hn
    rw [cutP] at h
    have sub1 : ∀ (q : Res) (v : List Tx), pre v q = .ok ws → ∃ ws', q = .ok ws' ∧ ws = v ++ ws' := fun q v e => by
      cases q with
      | error _ => cases e
      | ok ws' => cases e; exact ⟨ws', rfl, rfl⟩
    split at h
    · exact List.mem_cons_of_mem _ (cut_sub n r (k + 1) ws hr h w hw d hd)
    · split at h
      · split at h
        · obtain ⟨ws', e1, rfl⟩ := sub1 _ _ h
          rcases List.mem_append.mp hw with hw | hw
          · obtain rfl : w = (c :: r).takeWhile isRow := by simpa using hw
            exact (List.takeWhile_sublist isRow).subset hd
          · have := cut_sub n (r.dropWhile isRow) _ ws' (Nat.le_trans (dropRow_le r) hr) e1 w hw d hd
            exact List.mem_cons_of_mem _ ((List.dropWhile_sublist isRow).subset this)
        · cases h
      · split at h
        · obtain ⟨ws', e1, rfl⟩ := sub1 _ _ h
          rcases List.mem_append.mp hw with hw | hw
          · obtain rfl : w = [c] := by simpa using hw
            obtain rfl : d = c := by simpa using hd
            exact List.mem_cons_self
          · exact List.mem_cons_of_mem _ (cut_sub n r (k + 1) ws' hr e1 w hw d hd)
        · cases h
section
variable {P : Program} {w : World} {K : PySem.W.Frag} {mg : Str → Option Value} {base : Heap}
/-! ### _law_good -/
def spGood : Sp := fun vs H Q _ => ∃ x : Str, vs = [.str x] ∧ lowS x ∧ x.length ≤ 6000 ∧ ∀ H', Same H H' → Q (.bl true) H'
theorem scGood : FnScope ["_law_text", "_law_due", "_law_found", "_law_is_due"] ["_law_text"] (defScope sGood) := ⟨rfl, rfl, rfl, by decide +kernel, rfl, by decide +kernel, by decide +kernel⟩
theorem map_vT (ws : List Tx) : ws.map vT = (ws.map ofTx).map V.str := by rw [List.map_map]; rfl
theorem shaped_ws {ws : List Tx} {x : Str} (hx : lowS x) (h : ∀ w ∈ ws, ∀ c ∈ w, c ∈ cds x) : PySem.SeqAt.shaped (.list ((ws.map ofTx).map .str)) = true :=
  shaped_strs fun y hy => by
    obtain ⟨w, hw, rfl⟩ := List.mem_map.mp hy
    exact fun c hc => hx c (h w hw c hc)
theorem ok_good {f g1 g2 : Addr} {fd d1 d2 : FuncData} (F : Fun K "_law_good" "_law_good" sGood f fd) (Bl : Blt mg) (isi : mg "isinstance" = none)
    (G1 : FnOk P w K mg base CX0 2 g1 d1 ["_law_text"] spCut) (b1 : Binds K d1 ["_law_text"] []) (k1 : PySem.W.keepIn K (.ref g1) = true) (m1 : mg "_law_cut" = some (.ref g1))
    (G2 : FnOk P w K mg base CX0 5 g2 d2 ["_law_text"] (spLTold K)) (b2 : Binds K d2 ["_law_text"] []) (k2 : PySem.W.keepIn K (.ref g2) = true) (m2 : mg "_law_told" = some (.ref g2)) :
    FnOk P w K mg base CX0 6 f fd ["_law_text"] spGood := by
  refine F.ok scGood (fun vs H Q E h => ?_) (fun cdv A outer s H vs Q E hr h => ?_)
  · obtain ⟨x, rfl, _⟩ := h
    rfl
  obtain ⟨x, rfl, hlow, hz, q⟩ := h
  have hr2 : Room 2 _ := hr.mono (by decide)
  refine ⟨_, pss_cons (ps_set (i := 1) scGood.nd rfl (Or.inl rfl) (pe_call G1 hr2 rfl m1 k1 b1 .nil pass0 (pa_cons (pv 0) pa_nil)))
    (pss_cons (ps_set (i := 2) scGood.nd rfl (Or.inl rfl) (pe_call G2 hr rfl m2 k2 b2 .nil pass0 (pa_cons (pv 0) pa_nil)))
    (pss_cons (ps_if (pt_val (pe_callB call_isi rfl isi PyProof.Rows.boot_isinstance (pa_cons (pv 1) (pa_cons (pe_bltn (v := .ty "list") rfl Bl.list PyProof.Rows.boot_list rfl) pa_nil))))
      (pss_cons (ps_set (i := 3) scGood.nd rfl (Or.inl rfl) (pe_and (pe_callB call_isi rfl isi PyProof.Rows.boot_isinstance (pa_cons (pv 2) (pa_cons (pe_bltn (v := .ty "list") rfl Bl.list PyProof.Rows.boot_list rfl) pa_nil))) (pe_one (pe_cmpR (op_eqD hr.units) (pv 2) (pv 1) (nomark _)))))
      (pss_cons (ps_if (pt_val (pv 3)) (pss_one (ps_expr (pe_bm0 PySem.F.plainAttrs_list PySem.F.slot_list_clear PySem.F.type_list_clear mt_clear (pv 2)))) pss_nil)
      (pss_one (ps_ret (pv 3))))) pss_nil)
    (pss_one (ps_ret (pe_and (pe_callB call_isi rfl isi PyProof.Rows.boot_isinstance (pa_cons (pv 2) (pa_cons (pe_bltn (v := .ty "tuple") rfl Bl.tuple PyProof.Rows.boot_tuple rfl) pa_nil)))
      (pe_and (pe_not (pe_callB call_isi rfl isi PyProof.Rows.boot_isinstance (pa_cons (pe_ix ix_tup (pv 2) pe_int (fun _ _ => rfl)) (pa_cons (pe_bltn (v := .ty "bool") rfl Bl.bool PyProof.Rows.boot_bool rfl) pa_nil))))
      (pe_one (pe_cmpR (op_eqD hr.units) (pv 2) (pe_tup (pa_cons (pv 1) pa_nil)) (nomark _))))))))), ?_⟩
  refine ⟨_, rfl, x, rfl, hlow, by omega, ?_⟩
  cases hc : cutP (cds x) 0 with
  | ok ws =>
    refine fun H1 p hp s1 hd1 => ⟨_, rfl, .inl ⟨x, rfl, by omega, ?_⟩⟩
    rw [if_pos hz, hc]
    refine fun H2 p2 hp2 s2 hd2 => ?_
    have hd1' := s2 _ _ hd1
    refine ⟨_, rfl, _, _, _, _, _, rfl, rfl, .lst hd1', kit_same, _, rfl, iteT ?_⟩
    refine ⟨_, rfl, _, _, _, _, _, rfl, rfl, .lst hd2, kit_same, _, rfl, iteT ?_⟩
    have sh := shaped_ws hlow (cut_sub _ _ _ _ (Nat.le_refl _) hc)
    refine ⟨_, rfl, _, rfl, _, _, .lst (SqL.of hd2) (by rw [map_vT]; exact RdDs.strs _), .lst (SqL.of hd1') (by rw [map_vT]; exact RdDs.strs _), sh, sh, ?_⟩
    rw [eqv_strs, decide_eq_true rfl]
    refine ⟨_, rfl, _, rfl, iteT ⟨_, rfl, .inl ⟨rfl, _, SqL.of hd2⟩, p2, _, rfl, rfl, hd2, _, rfl, ?_⟩⟩
    refine q _ fun b o hb => ?_
    rw [upd_ne (ne_of_none hb (s1.free hp2))]
    exact s2 _ _ (s1 _ _ hb)
  | error k =>
    refine fun H1 s1 => ⟨_, rfl, .inl ⟨x, rfl, by omega, ?_⟩⟩
    rw [if_pos hz, hc]
    refine fun H2 p2 hp2 s2 hd2 => ?_
    refine ⟨_, rfl, _, _, _, _, _, rfl, rfl, .int _, kit_int_list, _, rfl, iteF ?_⟩
    refine ⟨_, rfl, _, _, _, _, _, rfl, rfl, .tup hd2, kit_same, _, rfl, iteT ?_⟩
    refine ⟨_, rfl, p2, _, 0, .int k, rfl, rfl, SqT.of hd2, rfl, _, _, _, _, _, rfl, rfl, .int _, kit_int_bool, _, rfl, _, rfl, iteT ?_⟩
    refine ⟨_, rfl, _, rfl, (show 1 ≤ sizeLine by decide), fun b hb => ⟨.tuple [.int k], .tuple [.int k], .tup (SqT.of (by rw [upd_ne (ne_of_none hd2 hb)]; exact hd2)) (RdDs.ints [(k : Int)]), .tup (SqT.of upd_same) (RdDs.ints [(k : Int)]), by simp [PySem.SeqAt.shaped, PyData.canLay0, PyData.canLayAll0, PyData.depth, PyData.depthAll], by simp [PySem.SeqAt.shaped, PyData.canLay0, PyData.canLayAll0, PyData.depth, PyData.depthAll], ?_⟩⟩
    have : PyData.eqv (.tuple [.int k]) (.tuple [.int k]) = true := by simp [PyData.eqv, PyData.eqvAll]
    rw [this]
    exact q _ ((s1.trans s2).trans (same_new hb _))
end
end K10

end

section
set_option Elab.async false
set_option linter.all false
set_option maxRecDepth 100000
set_option maxHeartbeats 4000000

namespace K10
open PySem L2
seal L2.PE L2.PA L2.PT L2.PS L2.PSs L2.PG L2.PGs L2.PI L2.PW
section
variable {P : Program} {w : World} {K : PySem.W.Frag} {mg : Str → Option Value} {base : Heap}
/-! ### _law_piece -/
def spPiece : Sp := fun vs H Q _ => ∃ c : Int, vs = [.int c] ∧ 0 ≤ c ∧ c < 2 ^ 31 ∧ ∀ y : Str, lowS y → y.length ≤ 20 → ∀ H', Same H H' → Q (.str y) H'
theorem scPiece : FnScope ["_law_cell", "_law_more", "_law_size", "_law_letters", "_law_row", "_law_at", "_law_great"] ["_law_cell"] (defScope sPiece) := ⟨rfl, rfl, rfl, by decide +kernel, rfl, by decide +kernel, by decide +kernel⟩
theorem at_getD (z : Tx) (j : Int) (h0 : 0 ≤ j) (h1 : j < z.length) : atI z j = some (z.getD j.toNat 0) := by
  obtain ⟨n, rfl⟩ := Int.eq_ofNat_of_zero_le h0
  have hn : n < z.length := by omega
  have := atI_nat (List.getElem?_eq_getElem hn)
  rw [show ((n : Nat) : Int).toNat = n by omega, List.getD_eq_getElem?_getD, List.getElem?_eq_getElem hn]
  exact this
theorem getD_low {z : Tx} (hz : ∀ c ∈ z, c < 128) (n : Nat) : z.getD n 0 < 128 := by
  rw [List.getD_eq_getElem?_getD]
  cases q : z[n]? with
  | none => show 0 < 128; decide
  | some c => exact hz c (List.mem_of_getElem? q)
theorem low_one {c : Nat} (h : c < 128) : lowS ⟨#[c]⟩ := fun d hd => by
  have : d = c := by simpa [cds] using hd
  omega
theorem low_app {x y : Str} (hx : lowS x) (hy : lowS y) : lowS (x ++ y) := fun c hc => by
  rw [cds_app] at hc
  rcases List.mem_append.mp hc with h | h
  · exact hx c h
  · exact hy c h
theorem app_len (x y : Str) : (x ++ y).length = x.length + y.length := by rw [← cds_len, cds_app, List.length_append, cds_len, cds_len]
theorem low_num : ∀ n : Fin 1000, ((cds (Str.ofString (toString ((n.val : Nat) : Int)))).all (fun c => decide (c < 128)) && decide ((Str.ofString (toString ((n.val : Nat) : Int))).length ≤ 20)) = true := by decide +kernel
theorem low_told : told.all (fun x => (cds x).all (fun c => decide (c < 128)) && decide (x.length ≤ 20)) = true := by decide +kernel
theorem low_up : smalls.all (fun c => (cds (Txt.upper ⟨#[c]⟩)).all (fun d => decide (d < 128)) && decide ((Txt.upper ⟨#[c]⟩).length = 1)) = true := by decide +kernel
theorem low_of {x : Str} (h : (cds x).all (fun c => decide (c < 128)) = true) : lowS x := fun c hc => of_decide_eq_true (List.all_eq_true.mp h c hc)
/-- "".join of one-sign texts -/
theorem join_ones (n : Nat) (g : Nat → Nat) : cds (Txt.join "" ((List.range n).map fun i => (⟨#[g i]⟩ : Str))) = (List.range n).map g := by
  rw [cds_join, List.map_map]
  have : (cds ∘ fun i => (⟨#[g i]⟩ : Str)) = fun i => [g i] := rfl
  rw [this]
  generalize List.range n = l
  induction l with
  | nil => rfl
  | cons a r ih => rw [List.map_cons, List.flatten_cons, ih]; rfl
theorem sum_ones (n : Nat) (g : Nat → Nat) : (((List.range n).map fun i => (⟨#[g i]⟩ : Str)).map (·.length)).sum = n := by
  rw [List.map_map]
  have : (Str.length ∘ fun i => (⟨#[g i]⟩ : Str)) = fun _ => 1 := rfl
  rw [this]
  generalize hl : List.range n = l
  have hn : n = l.length := by rw [← hl, List.length_range]
  rw [hn]
  clear hl hn
  induction l with
  | nil => rfl
  | cons a r ih => rw [List.map_cons, List.sum_cons, ih, List.length_cons]; omega
theorem cds_nine : cds "123456789" = [49, 50, 51, 52, 53, 54, 55, 56, 57] := by decide +kernel
theorem cds_all36 : cds ("abcdefghijklmnopqrstuvwxyz" ++ "0123456789") = smalls ++ figs := by decide +kernel
theorem mem_rep {k : Nat} {l : Tx} {c : Nat} (h : c ∈ (List.replicate k l).flatten) : c ∈ l := by
  obtain ⟨x, hx, hc⟩ := List.mem_flatten.mp h
  obtain ⟨_, rfl⟩ := List.mem_replicate.mp hx
  exact hc
theorem low_mul {x : Str} (h : lowS x) (k : Int) : lowS (Txt.mul x k) := fun c hc => by
  rw [cds_mul] at hc
  exact h c (mem_rep hc)
theorem mul_len (x : Str) (k : Int) : (Txt.mul x k).length = k.toNat * x.length := by
  rw [← cds_len, cds_mul, len_rep, cds_len]
theorem low_join (n : Nat) (g : Nat → Nat) (h : ∀ i, g i < 128) : lowS (Txt.join "" ((List.range n).map fun i => (⟨#[g i]⟩ : Str))) := fun c hc => by
  rw [join_ones] at hc
  obtain ⟨i, _, rfl⟩ := List.mem_map.mp hc
  exact h i
theorem join_len (n : Nat) (g : Nat → Nat) : (Txt.join "" ((List.range n).map fun i => (⟨#[g i]⟩ : Str))).length = n := by
  rw [← cds_len, join_ones, List.length_map, List.length_range]
def g9 (m : Int) (i : Nat) : Nat := [49, 50, 51, 52, 53, 54, 55, 56, 57].getD ((m / 22 + 7 * (i : Int)) % 9).toNat 0
def g36 (m : Int) (i : Nat) : Nat := (smalls ++ figs).getD ((m / 11 + 5 * (i : Int)) % 36).toNat 0
theorem g9_low (m : Int) (i : Nat) : g9 m i < 128 := getD_low (by decide) _
theorem g36_low (m : Int) (i : Nat) : g36 m i < 128 := getD_low (by decide) _
theorem ok_piece {f g1 : Addr} {fd d1 : FuncData} (F : Fun K "_law_piece" "_law_piece" sPiece f fd) (Bl : Blt mg) (G1 : FnOk P w K mg base CX0 1 g1 d1 [] spToldW) (b1 : Binds K d1 [] []) (k1 : PySem.W.keepIn K (.ref g1) = true) (m1 : mg "_law_told_words" = some (.ref g1)) :
    FnOk P w K mg base CX0 2 f fd ["_law_cell"] spPiece := by
  refine F.ok scPiece (fun vs H Q E h => ?_) (fun cdv A outer s H vs Q E hr h => ?_)
  · obtain ⟨x, rfl, _⟩ := h
    rfl
  obtain ⟨c, rfl, hc0, hc1, q⟩ := h
  refine ⟨_, pss_cons (ps_set (i := 1) scPiece.nd rfl (Or.inr rfl) (pe_op op_fdiv (pv 0) pe_int))
    (pss_cons (ps_if (pt_cmpR op_eq (pe_op op_mod (pv 0) pe_int) pe_int (nomark _)) (pss_one (ps_ret (pe_callTy call_str_int rfl Bl.str PyProof.Rows.boot_str (pa_cons (pe_op op_mod (pv 1) pe_int) pa_nil)))) pss_nil)
    (pss_cons (ps_if (pt_cmpR op_eq (pe_op op_mod (pv 0) pe_int) pe_int (nomark _)) (pss_one (ps_ret (pe_ix ix_list (pe_call0 G1 hr rfl m1 k1 b1 .nil pass0) (pe_op op_mod (pv 1) pe_int) (fun _ _ => rfl)))) pss_nil)
    (pss_cons (ps_if (pt_cmpR op_lt (pe_op op_mod (pv 0) pe_int) pe_int (nomark _)) (pss_one (ps_ret (pe_ix ix_str pe_str (pe_op op_mod (pv 1) pe_int) (fun _ _ => rfl)))) pss_nil)
    (pss_cons (ps_set (i := 2) scPiece.nd rfl (Or.inl rfl) (pe_op op_add pe_int (pe_op op_mod (pv 1) pe_int)))
    (pss_cons (ps_if (pt_cmpR op_eq (pe_op op_mod (pv 0) pe_int) pe_int (nomark _)) (pss_one (ps_ret (pe_op op_add_str (pe_op op_mul_str pe_str (pe_op op_mod (pe_op op_fdiv (pv 1) pe_int) pe_int))
        (pe_bm PySem.F.plainAttrs_str PySem.F.slot_str_join PySem.F.type_str_join mt_join pe_str (pa_cons (pe_comp0 rfl (BlockOk.of (N := ["_law_k", "_law_more"]) (nl := [none, some 1]) (cl := [("_law_more", s.heap.objs.size + 1)]) rfl (by decide +kernel) (by decide +kernel) rfl (sub1 rfl) (nm := ["_law_more"]) rfl (by decide +kernel) rfl (fun i hi j hj => by
            match i, hi with
            | 0, _ => cases hj
            | 1, _ => cases hj; exact ⟨_, rfl, rfl, rfl, .inl rfl⟩)) (pi_range1 rfl Bl.range (pa_cons (pv 2) pa_nil))
          (fun C fp s H => pg_name (i := 0) (show (["_law_k", "_law_more"] : List Str).Nodup by decide +kernel) rfl (Or.inl rfl))
          (fun C fp s H => pe_ix ix_str pe_str (pe_op op_mod (pe_op op_add (pe_op op_fdiv (pv 1) pe_int) (pe_op op_mul pe_int (pv 0))) pe_int) (fun _ _ => rfl))) pa_nil))))) pss_nil)
    (pss_cons (ps_set (i := 3) scPiece.nd rfl (Or.inr rfl) pe_str)
    (pss_cons (ps_set (i := 4) scPiece.nd rfl (Or.inl rfl) (pe_bm PySem.F.plainAttrs_str PySem.F.slot_str_join PySem.F.type_str_join mt_join pe_str (pa_cons (pe_comp0 rfl (BlockOk.of (N := ["_law_k", "_law_letters", "_law_more"]) (nl := [none, some 3, some 1]) (cl := [("_law_more", s.heap.objs.size + 1), ("_law_letters", s.heap.objs.size + 2)]) rfl (by decide +kernel) (by decide +kernel) rfl (sub2 rfl rfl) (nm := ["_law_more", "_law_letters"]) rfl (by decide +kernel) rfl (fun i hi j hj => by
            match i, hi with
            | 0, _ => cases hj
            | 1, _ => cases hj; exact ⟨_, rfl, rfl, rfl, .inl rfl⟩
            | 2, _ => cases hj; exact ⟨_, rfl, rfl, rfl, .inl rfl⟩)) (pi_range1 rfl Bl.range (pa_cons (pv 2) pa_nil))
          (fun C fp s H => pg_name (i := 0) (show (["_law_k", "_law_letters", "_law_more"] : List Str).Nodup by decide +kernel) rfl (Or.inl rfl))
          (fun C fp s H => pe_ix ix_str (pe_op op_add_str (pv 1) pe_str) (pe_op op_mod (pe_op op_add (pe_op op_fdiv (pv 2) pe_int) (pe_op op_mul pe_int (pv 0))) pe_int) (fun _ _ => rfl))) pa_nil)))
    (pss_cons (ps_if (pt_cmpR op_eq (pe_op op_mod (pv 0) pe_int) pe_int (nomark _)) (pss_one (ps_ret (pe_op op_add_str (pe_ix ix_str (pv 3) (pe_op op_mod (pe_op op_fdiv (pv 1) pe_int) pe_int) (fun _ _ => rfl)) (pe_slice sl_str (pv 4) (po_some pe_int) po_none)))) pss_nil)
    (pss_cons (ps_set (i := 5) scPiece.nd rfl (Or.inl rfl) (pe_op op_mod (pe_op op_fdiv (pv 1) pe_int) (pv 2)))
    (pss_cons (ps_set (i := 6) scPiece.nd rfl (Or.inl rfl) (pe_op op_mul_str (pe_bm0 PySem.F.plainAttrs_str PySem.F.slot_str_upper PySem.F.type_str_upper mt_upper (pe_ix ix_str (pv 3) (pe_op op_mod (pe_op op_fdiv (pv 1) pe_int) pe_int) (fun _ _ => rfl)))
        (pe_callTy call_int1 rfl Bl.int PyProof.Rows.boot_int (pa_cons (pe_cmpR op_eq (pe_op op_mod (pe_op op_fdiv (pv 1) pe_int) pe_int) pe_int (nomark _)) pa_nil))))
    (pss_one (ps_ret (pe_op op_add_str (pe_op op_add_str (pe_slice sl_str (pv 4) po_none (po_some (pv 5))) (pv 6)) (pe_slice sl_str (pv 4) (po_some (pv 5)) po_none)))))))))))))), ?_⟩
  have hm0 : 0 ≤ c / 7 := by omega
  have hm1 : c / 7 < 2 ^ 31 := by omega
  have q0 : ∀ y : Str, lowS y → y.length ≤ 20 → Q (.str y) H := fun y a b => q y a b H (Same.refl H)
  refine ⟨_, rfl, _, _, rfl, rfl, ⟨by decide, by decide⟩, ?_⟩
  refine ⟨_, rfl, _, _, rfl, rfl, (show (0 : Int) < 7 by decide), rfl, _, rfl, ?_⟩
  by_cases e0 : V.int (c % 7) = V.int 0
  · rw [decide_eq_true e0]
    refine iteT ⟨_, rfl, _, _, rfl, rfl, (show (0 : Int) < 1000 by decide), _, rfl, ?_, ?_⟩
    · have h1 : 0 ≤ (c / 7) % 1000 := Int.emod_nonneg _ (by decide)
      have h2 : (c / 7) % 1000 < 2 ^ 64 := by omega
      exact Nat.lt_of_lt_of_le (log_small h1 h2) (by decide)
    · have h1 : 0 ≤ (c / 7) % 1000 := Int.emod_nonneg _ (by decide)
      have h2 : ((c / 7) % 1000).toNat < 1000 := by omega
      have := low_num ⟨((c / 7) % 1000).toNat, h2⟩
      rw [show ((((c / 7) % 1000).toNat : Nat) : Int) = (c / 7) % 1000 by omega, Bool.and_eq_true] at this
      exact q0 _ (low_of this.1) (of_decide_eq_true this.2)
  rw [decide_eq_false e0]
  refine iteF ⟨_, rfl, _, _, rfl, rfl, (show (0 : Int) < 7 by decide), rfl, _, rfl, ?_⟩
  by_cases e1 : V.int (c % 7) = V.int 1
  · rw [decide_eq_true e1]
    refine iteT ⟨rfl, fun p hp => ⟨_, rfl, _, _, rfl, rfl, (show (0 : Int) < 19 by decide), p, told.map V.str, (c / 7) % 19, .str (told.getD ((c / 7) % 19).toNat ""), rfl, rfl, SqL.of upd_same, ?_, ?_⟩⟩
    · have h1 : 0 ≤ (c / 7) % 19 := Int.emod_nonneg _ (by decide)
      have h2 : ((c / 7) % 19).toNat < told.length := by show _ < 19; omega
      rw [show (c / 7) % 19 = ((((c / 7) % 19).toNat : Nat) : Int) by omega]
      refine atI_nat ?_
      rw [List.getElem?_map, show ((((c / 7) % 19).toNat : Nat) : Int).toNat = ((c / 7) % 19).toNat by omega, List.getD_eq_getElem?_getD, List.getElem?_eq_getElem h2]
      rfl
    · have h2 : ((c / 7) % 19).toNat < told.length := by show _ < 19; omega
      have := List.all_eq_true.mp low_told (told.getD ((c / 7) % 19).toNat "") (by rw [List.getD_eq_getElem?_getD, List.getElem?_eq_getElem h2]; exact List.getElem_mem h2)
      rw [Bool.and_eq_true] at this
      exact q _ (low_of this.1) (of_decide_eq_true this.2) _ (same_new hp _)
  rw [decide_eq_false e1]
  refine iteF ⟨_, rfl, _, _, rfl, rfl, (show (0 : Int) < 7 by decide), _, _, rfl, rfl, _, rfl, ?_⟩
  by_cases e2 : c % 7 < 4
  · rw [decide_eq_true e2]
    refine iteT ⟨_, rfl, _, _, rfl, rfl, (show (0 : Int) < 13 by decide), _, _, sgns.getD ((c / 7) % 13).toNat 0, rfl, rfl, by decide, ?_, q0 _ (low_one (getD_low (by decide) _)) (by show 1 ≤ 20; decide)⟩
    have h1 : 0 ≤ (c / 7) % 13 := Int.emod_nonneg _ (by decide)
    have : cds "(){},.;=+-*/<" = sgns := cds_signs
    show atI (cds "(){},.;=+-*/<") _ = _
    rw [this]
    exact at_getD sgns _ h1 (by show (c / 7) % 13 < 13; omega)
  rw [decide_eq_false e2]
  refine iteF ⟨_, rfl, _, _, rfl, rfl, (show (0 : Int) < 11 by decide), _, _, rfl, rfl, ?_⟩
  have hs0 : 1 ≤ 1 + (c / 7) % 11 := by omega
  have hs1 : 1 + (c / 7) % 11 ≤ 11 := by omega
  refine ⟨_, rfl, _, _, rfl, rfl, (show (0 : Int) < 7 by decide), rfl, _, rfl, ?_⟩
  by_cases e4 : V.int (c % 7) = V.int 4
  · rw [decide_eq_true e4]
    refine iteT ⟨_, rfl, _, _, rfl, rfl, ⟨by decide, by decide⟩, _, _, rfl, rfl, (show (0 : Int) < 2 by decide), ?_⟩
    have hk0 : 0 ≤ (c / 7) / 11 % 2 := Int.emod_nonneg _ (by decide)
    have hk1 : (c / 7) / 11 % 2 < 2 := Int.emod_lt_of_pos _ (by decide)
    refine ⟨_, _, rfl, rfl, by omega, by omega, by show 1 * _ ≤ sizeLine; rw [sizeLine_eq]; omega, ?_⟩
    have hn : (1 + (c / 7) % 11).toNat ≤ 11 := by omega
    refine ⟨rfl, _, rfl, _, rfl, by omega, by omega, fun D hD => comp_range none [some (.int (c / 7))] (fun i => .str ⟨#[g9 (c / 7) i]⟩) rfl (fun i hi l K k => ?_) (by rw [sizeLine_eq]; omega) ?_⟩
    · refine ⟨_, rfl, _, _, rfl, rfl, ⟨by decide, by decide⟩, _, rfl, _, _, rfl, rfl, .inl (by decide), _, _, rfl, rfl, _, _, rfl, rfl, (show (0 : Int) < 9 by decide), _, _, _, rfl, rfl, by decide, ?_, k⟩
      show atI (cds "123456789") _ = _
      rw [cds_nine]
      exact at_getD _ _ (Int.emod_nonneg _ (by decide)) (by show _ < (9 : Int); exact Int.emod_lt_of_pos _ (by decide))
    · refine ⟨_, D, (List.range (1 + (c / 7) % 11).toNat).map fun i => (⟨#[g9 (c / 7) i]⟩ : Str), rfl, rfl, SqL.of (by rw [upd_same, List.map_map]; rfl), ?_, ?_⟩
      · rw [sum_ones (1 + (c / 7) % 11).toNat (g9 (c / 7)), List.length_map, List.length_range]
        show _ + _ * 0 ≤ _
        omega
      · have jl := join_len (1 + (c / 7) % 11).toNat (g9 (c / 7))
        have ml := mul_len "0" ((c / 7) / 11 % 2)
        have z1 : ("0" : Str).length = 1 := by decide
        rw [z1] at ml
        have lz : lowS "0" := low_of (by decide)
        refine ⟨_, _, rfl, rfl, ?_, q _ (low_app (low_mul lz ((c / 7) / 11 % 2)) (low_join (1 + (c / 7) % 11).toNat (g9 (c / 7)) (g9_low (c / 7)))) ?_ _ (same_new hD _)⟩
        · show (Txt.mul "0" ((c / 7) / 11 % 2)).length + _ ≤ _
          rw [ml, jl, sizeLine_eq]; omega
        · rw [app_len]
          show (Txt.mul "0" ((c / 7) / 11 % 2)).length + _ ≤ _
          rw [ml, jl]; omega
  rw [decide_eq_false e4]
  refine iteF ?_
  have hn : (1 + (c / 7) % 11).toNat ≤ 11 := by omega
  have hn1 : 1 ≤ (1 + (c / 7) % 11).toNat := by omega
  refine ⟨rfl, _, rfl, _, rfl, by omega, by omega, fun D hD => comp_range none [some (.str "abcdefghijklmnopqrstuvwxyz"), some (.int (c / 7))] (fun i => .str ⟨#[g36 (c / 7) i]⟩) rfl (fun i hi l K k => ?_) (by rw [sizeLine_eq]; omega) ?_⟩
  · refine ⟨_, rfl, _, _, rfl, rfl, by decide, _, rfl, _, _, rfl, rfl, ⟨by decide, by decide⟩, _, rfl, _, _, rfl, rfl, .inl (by decide), _, _, rfl, rfl, _, _, rfl, rfl, (show (0 : Int) < 36 by decide), _, _, _, rfl, rfl, by decide +kernel, ?_, k⟩
    show atI (cds ("abcdefghijklmnopqrstuvwxyz" ++ "0123456789")) _ = _
    rw [cds_all36]
    exact at_getD _ _ (Int.emod_nonneg _ (by decide)) (by show _ < (36 : Int); exact Int.emod_lt_of_pos _ (by decide))
  refine ⟨_, D, (List.range (1 + (c / 7) % 11).toNat).map fun i => (⟨#[g36 (c / 7) i]⟩ : Str), rfl, rfl, SqL.of (by rw [upd_same, List.map_map]; rfl), ?_, ?_⟩
  · rw [sum_ones (1 + (c / 7) % 11).toNat (g36 (c / 7)), List.length_map, List.length_range]
    show _ + _ * 0 ≤ _
    omega
  have jl := join_len (1 + (c / 7) % 11).toNat (g36 (c / 7))
  have jlow := low_join (1 + (c / 7) % 11).toNat (g36 (c / 7)) (g36_low (c / 7))
  have sD := fun o => same_new (o := o) hD
  generalize Txt.join "" ((List.range (1 + (c / 7) % 11).toNat).map fun i => (⟨#[g36 (c / 7) i]⟩ : Str)) = row at jl jlow
  refine ⟨_, rfl, _, _, rfl, rfl, (show (0 : Int) < 7 by decide), rfl, _, rfl, ?_⟩
  have hle : lowS "abcdefghijklmnopqrstuvwxyz" := low_of (by decide +kernel)
  have hletter : atI (cds "abcdefghijklmnopqrstuvwxyz") ((c / 7) / 11 % 26) = some (smalls.getD ((c / 7) / 11 % 26).toNat 0) := by
    rw [cds_small]
    exact at_getD _ _ (Int.emod_nonneg _ (by decide)) (by show _ < (26 : Int); exact Int.emod_lt_of_pos _ (by decide))
  have hlet : smalls.getD ((c / 7) / 11 % 26).toNat 0 ∈ smalls := by
    have h1 : ((c / 7) / 11 % 26).toNat < smalls.length := by show _ < 26; omega
    rw [List.getD_eq_getElem?_getD, List.getElem?_eq_getElem h1]
    exact List.getElem_mem h1
  generalize smalls.getD ((c / 7) / 11 % 26).toNat 0 = lt at hletter hlet
  have hlt : lt < 128 := by
    have : ∀ d ∈ smalls, d < 128 := by decide
    exact this _ hlet
  by_cases e5 : V.int (c % 7) = V.int 5
  · rw [decide_eq_true e5]
    have hsl : cds (Txt.slice row (some (1 : Int)) none) = (cds row).drop 1 := cds_slice_from row (a := 1) (by omega)
    have hsl2 : (Txt.slice row (some (1 : Int)) none).length ≤ 11 := by rw [← cds_len, hsl, List.length_drop, cds_len]; omega
    have hsl3 : lowS (Txt.slice row (some (1 : Int)) none) := fun d hd => by rw [hsl] at hd; exact jlow d (List.mem_of_mem_drop hd)
    refine iteT ⟨_, rfl, _, rfl, _, _, rfl, rfl, ⟨by decide, by decide⟩, _, _, rfl, rfl, (show (0 : Int) < 26 by decide), _, _, lt, rfl, rfl, by decide +kernel, hletter, _, rfl, 1, rfl, row, rfl, by rw [sizeLine_eq]; omega, _, _, rfl, rfl, ?_, q _ (low_app (low_one hlt) hsl3) ?_ _ (sD _)⟩
    · show 1 + _ ≤ sizeLine
      rw [sizeLine_eq]; omega
    · rw [app_len]
      show 1 + _ ≤ _
      omega
  rw [decide_eq_false e5]
  refine iteF ⟨_, rfl, _, _, rfl, rfl, ⟨by decide, by decide⟩, _, rfl, _, _, rfl, rfl, (show (0 : Int) < 1 + (c / 7) % 11 by omega), ?_⟩
  have ha0 : 0 ≤ (c / 7) / 400 % (1 + (c / 7) % 11) := Int.emod_nonneg _ (by omega)
  have ha1 : (c / 7) / 400 % (1 + (c / 7) % 11) < 1 + (c / 7) % 11 := Int.emod_lt_of_pos _ (by omega)
  refine ⟨_, rfl, _, rfl, _, _, rfl, rfl, ⟨by decide, by decide⟩, _, _, rfl, rfl, (show (0 : Int) < 26 by decide), _, _, lt, rfl, rfl, by decide +kernel, hletter, rfl, _, rfl, rfl, ?_, ?_⟩
  · have := List.all_eq_true.mp low_up lt hlet
    rw [Bool.and_eq_true] at this
    rw [of_decide_eq_true this.2]
    decide
  have hup : lowS (Txt.upper ⟨#[lt]⟩) ∧ (Txt.upper ⟨#[lt]⟩).length = 1 := by
    have := List.all_eq_true.mp low_up lt hlet
    rw [Bool.and_eq_true] at this
    exact ⟨low_of this.1, of_decide_eq_true this.2⟩
  refine ⟨_, rfl, _, _, rfl, rfl, ⟨by decide, by decide⟩, _, _, rfl, rfl, (show (0 : Int) < 3 by decide), rfl, .inr ⟨_, rfl, ?_⟩⟩
  have hkk : (0 : Int) ≤ (if decide (V.int ((c / 7) / 4400 % 3) = V.int 1) = true then 1 else 0) ∧ (if decide (V.int ((c / 7) / 4400 % 3) = V.int 1) = true then (1 : Int) else 0) ≤ 1 := by split <;> decide
  generalize hkd : (if decide (V.int ((c / 7) / 4400 % 3) = V.int 1) = true then (1 : Int) else 0) = kk at hkk
  refine ⟨Txt.upper ⟨#[lt]⟩, kk, rfl, rfl, by omega, by omega, by rw [hup.2, sizeLine_eq]; omega, ?_⟩
  have gl := mul_len (Txt.upper ⟨#[lt]⟩) kk
  rw [hup.2] at gl
  have glow := low_mul hup.1 kk
  generalize Txt.mul (Txt.upper ⟨#[lt]⟩) kk = great at gl glow
  obtain ⟨a, ea⟩ : ∃ a : Nat, ((a : Nat) : Int) = (c / 7) / 400 % (1 + (c / 7) % 11) := ⟨((c / 7) / 400 % (1 + (c / 7) % 11)).toNat, by omega⟩
  have s1 : cds (Txt.slice row none (some (a : Int))) = (cds row).take a := cds_slice_to row (by omega)
  have s2 : cds (Txt.slice row (some (a : Int)) none) = (cds row).drop a := cds_slice_from row (by omega)
  rw [ea] at s1 s2
  have l1 : (Txt.slice row none (some ((c / 7) / 400 % (1 + (c / 7) % 11)))).length ≤ a := by rw [← cds_len, s1, List.length_take]; omega
  have l2 : (Txt.slice row (some ((c / 7) / 400 % (1 + (c / 7) % 11))) none).length ≤ 11 - a := by rw [← cds_len, s2, List.length_drop, cds_len]; omega
  have w1 : lowS (Txt.slice row none (some ((c / 7) / 400 % (1 + (c / 7) % 11)))) := fun d hd => by rw [s1] at hd; exact jlow d (List.mem_of_mem_take hd)
  have w2 : lowS (Txt.slice row (some ((c / 7) / 400 % (1 + (c / 7) % 11))) none) := fun d hd => by rw [s2] at hd; exact jlow d (List.mem_of_mem_drop hd)
  have rl : row.length ≤ sizeLine := by rw [sizeLine_eq]; omega
  refine ⟨_, rfl, _, rfl, _, rfl, row, rfl, rl, _, rfl, _, _, rfl, rfl, ?_, _, rfl, _, rfl, _, rfl, row, rfl, rl, _, _, rfl, rfl, ?_, q _ (low_app (low_app w1 glow) w2) ?_ _ (sD _)⟩
  · rw [sizeLine_eq]
    show (Txt.slice row none (some ((c / 7) / 400 % (1 + (c / 7) % 11)))).length + great.length ≤ _
    omega
  · rw [app_len, sizeLine_eq]
    show (Txt.slice row none (some ((c / 7) / 400 % (1 + (c / 7) % 11)))).length + great.length + (Txt.slice row (some ((c / 7) / 400 % (1 + (c / 7) % 11))) none).length ≤ _
    omega
  · rw [app_len, app_len]
    omega
end
end K10

end

section
set_option Elab.async false
set_option linter.all false
set_option maxRecDepth 100000
set_option maxHeartbeats 4000000
namespace K10
open PySem L2
seal L2.PE L2.PA L2.PT L2.PS L2.PSs L2.PG L2.PGs L2.PI L2.PW
section
variable {P : Program} {w : World} {K : PySem.W.Frag} {mg : Str → Option Value} {base : Heap}
/-! ### _law_built -/
def spBuilt (K : PySem.W.Frag) : Sp := fun vs H Q _ => ∃ (a : Addr) (ns : List Int), vs = [.ref a] ∧ SqL K H a (ns.map V.int) ∧ ∀ (x : Str) (ps : List Str) (H' : Hp) (t p : Addr), lowS x → x.length ≤ 6000 → (∀ y ∈ ps, lowS y ∧ y.length ≤ 20) → ps.length ≤ 40 →
  Same H H' → H p = none → H' p = some (.lst (ps.map V.str)) → H' t = some (.tup [.str x, .ref p]) → Q (.ref t) H'
theorem scBuilt : FnScope ["_law_script", "_law_text", "_law_pieces", "_law_k", "_law_number", "_law_cell", "_law_some", "_law_at"] ["_law_script"] (defScope sBuilt) := ⟨rfl, rfl, rfl, by decide +kernel, rfl, by decide +kernel, by decide +kernel⟩
theorem cut_ints (ns : List Int) : ∃ ms : List Int, cutV (ns.map V.int) (some 2) (some 42) = ms.map V.int ∧ ms.length ≤ 40 := by
  unfold cutV
  refine ⟨(ns.drop (HT.sIx (ns.map V.int).length 0 (some 2))).take (HT.sIx (ns.map V.int).length (ns.map V.int).length (some 42) - HT.sIx (ns.map V.int).length 0 (some 2)), by rw [List.map_take, List.map_drop], ?_⟩
  have e1 := HT.sIx_nat (ns.map V.int).length 0 2
  have e2 := HT.sIx_nat (ns.map V.int).length (ns.map V.int).length 42
  rw [show ((2 : Nat) : Int) = 2 from rfl] at e1
  rw [show ((42 : Nat) : Int) = 42 from rfl] at e2
  rw [List.length_take, e1, e2]
  omega
abbrev some96 : Str := "\t\n !\"#$&'()*+,-./0123456789:;<=>?@ABCDEFGHIJKLMNOPQRSTUVWXYZ[\\]^_`" ++ "abcdefghijklmnopqrstuvwxyz{|}~"
theorem some_ok : ((cds some96).all (fun c => decide (c < 128)) && decide (some96.length = 96)) = true := by decide +kernel
theorem low_blank : lowS " " := low_of (by decide)
def seps : List Str := ["", " ", "\n", "\t", " "]
theorem seps_ok : seps.all (fun x => (cds x).all (fun c => decide (c < 128)) && decide (x.length ≤ 1)) = true := by decide +kernel
theorem ok_built {f g1 g2 g3 : Addr} {fd d1 d2 d3 : FuncData} (F : Fun K "_law_built" "_law_built" sBuilt f fd) (T : Txt K mg) (Bl : Blt mg)
    (G1 : FnOk P w K mg base CX0 1 g1 d1 ["_law_script", "_law_k"] (spCell K)) (b1 : Binds K d1 ["_law_script", "_law_k"] []) (k1 : PySem.W.keepIn K (.ref g1) = true) (m1 : mg "_law_cell_at" = some (.ref g1))
    (G2 : FnOk P w K mg base CX0 1 g2 d2 ["_law_cell", "_law_k"] spMixed) (b2 : Binds K d2 ["_law_cell", "_law_k"] []) (k2 : PySem.W.keepIn K (.ref g2) = true) (m2 : mg "_law_mixed" = some (.ref g2))
    (G3 : FnOk P w K mg base CX0 2 g3 d3 ["_law_cell"] spPiece) (b3 : Binds K d3 ["_law_cell"] []) (k3 : PySem.W.keepIn K (.ref g3) = true) (m3 : mg "_law_piece" = some (.ref g3)) :
    FnOk P w K mg base CX0 3 f fd ["_law_script"] (spBuilt K) := by
  refine F.ok scBuilt (fun vs H Q E h => ?_) (fun cdv A outer s H vs Q E hr h => ?_)
  · obtain ⟨x, ns, rfl, _⟩ := h
    rfl
  obtain ⟨a, ns, rfl, sq, q⟩ := h
  have hr1 : Room 1 _ := hr.mono (by decide)
  refine ⟨_, pss_cons (ps_set (i := 1) scBuilt.nd rfl (Or.inl rfl) (pe_op op_mul_str pe_str (pe_op op_mod (pe_op op_fdiv (pe_call G1 hr1 rfl m1 k1 b1 .nil pass0 (pa_cons (pv 0) (pa_cons pe_int pa_nil))) pe_int) pe_int)))
    (pss_cons (ps_set (i := 2) scBuilt.nd rfl (Or.inl rfl) (pe_lst pa_nil))
    (pss_cons (ps_for PassesOwn.never rfl (pi_enum rfl Bl.enum PyProof.Rows.boot_enumerate (pa_cons (pe_slice sl_list (pv 0) (po_some pe_int) (po_some pe_int)) pa_nil)) (pg_tup rfl (pgs_cons (pg_name (i := 3) scBuilt.nd rfl (Or.inl rfl)) (pgs_cons (pg_name (i := 4) scBuilt.nd rfl (Or.inl rfl)) pgs_nil)))
      (pss_cons (ps_set (i := 5) scBuilt.nd rfl (Or.inl rfl) (pe_call G2 hr1 rfl m2 k2 b2 .nil pass0 (pa_cons (pv 4) (pa_cons (pv 3) pa_nil))))
      (pss_cons (ps_expr (pe_bm PySem.F.plainAttrs_list PySem.F.slot_list_append PySem.F.type_list_append mt_append (pv 2) (pa_cons (pe_call G3 hr rfl m3 k3 b3 .nil pass0 (pa_cons (pe_op op_fdiv (pv 5) pe_int) pa_nil)) pa_nil)))
      (pss_one (ps_set (i := 1) scBuilt.nd rfl (Or.inl rfl) (pe_op op_add_str (pe_op op_add_str (pv 1) (pe_ix ix_list (pv 2) (pe_un un_neg pe_int) (fun _ _ => rfl))) (pe_ix ix_list (pe_lst (pa_cons pe_str (pa_cons pe_str (pa_cons pe_str (pa_cons pe_str (pa_cons pe_str pa_nil)))))) (pe_op op_mod (pv 5) pe_int) (fun _ _ => rfl))))))))
    (pss_cons (ps_set (i := 6) scBuilt.nd rfl (Or.inl rfl) pe_str)
    (pss_cons (ps_set (i := 6) scBuilt.nd rfl (Or.inl rfl) (pe_op op_add_str (pv 6) pe_str))
    (pss_cons (ps_set (i := 5) scBuilt.nd rfl (Or.inl rfl) (pe_call G2 hr1 rfl m2 k2 b2 .nil pass0 (pa_cons (pe_call G1 hr1 rfl m1 k1 b1 .nil pass0 (pa_cons (pv 0) (pa_cons pe_int pa_nil))) (pa_cons pe_int pa_nil))))
    (pss_cons (ps_if (pt_cmpR op_eq (pe_op op_mod (pv 5) pe_int) pe_int (nomark _))
      (pss_cons (ps_set (i := 7) scBuilt.nd rfl (Or.inl rfl) (pe_op op_mod (pe_op op_fdiv (pv 5) pe_int) (pe_op op_add (pe_callB call_len_str rfl T.len PySem.boot_len (pa_cons (pv 1) pa_nil)) pe_int)))
      (pss_one (ps_set (i := 1) scBuilt.nd rfl (Or.inl rfl) (pe_op op_add_str (pe_op op_add_str (pe_slice sl_str (pv 1) po_none (po_some (pv 7))) (pe_ix ix_str (pv 6) (pe_op op_mod (pe_op op_fdiv (pv 5) pe_int) pe_int) (fun _ _ => rfl))) (pe_slice sl_str (pv 1) (po_some (pv 7)) po_none))))) pss_nil)
    (pss_one (ps_ret (pe_tup (pa_cons (pv 1) (pa_cons (pv 2) pa_nil))))))))))), ?_⟩
  refine ⟨_, rfl, a, ns, 0, rfl, sq, _, _, rfl, rfl, ⟨by decide, by decide⟩, _, _, rfl, rfl, (show (0 : Int) < 3 by decide), ?_⟩
  have hk0 : 0 ≤ ns.getD 0 0 / 3 % 3 := Int.emod_nonneg _ (by decide)
  have hk1 : ns.getD 0 0 / 3 % 3 < 3 := Int.emod_lt_of_pos _ (by decide)
  have ml := mul_len " " (ns.getD 0 0 / 3 % 3)
  have z1 : (" " : Str).length = 1 := by decide
  rw [z1] at ml
  refine ⟨_, _, rfl, rfl, by omega, by omega, by show 1 * _ ≤ sizeLine; rw [sizeLine_eq]; omega, ?_⟩
  obtain ⟨ms, ems, hms⟩ := cut_ints ns
  refine ⟨by decide, fun p hp => ?_⟩
  refine ⟨_, rfl, 2, rfl, 42, rfl, a, _, rfl, (same_new hp _).seq sq, fun l hl => ⟨l, rfl, ⟨_, SqL.of upd_same⟩, ?_⟩⟩
  rw [ems]
  have hlp : l ≠ p := fun z => by rw [z, upd_same] at hl; cases hl
  have hl0 : H l = none := by rw [upd_ne hlp] at hl; exact hl
  let W : Nat → Nat → St → Hp → Prop := fun i m σ H' => m = ms.length - i ∧ i ≤ ms.length ∧ ∃ (x : Str) (ps : List Str) (o3 o4 o5 : Option V), σ = [some (.ref a), some (.str x), some (.ref p), o3, o4, o5, none, none] ∧ lowS x ∧ x.length ≤ 2 + 21 * i ∧ (∀ y ∈ ps, lowS y ∧ y.length ≤ 20) ∧ ps.length = i ∧
    Same H H' ∧ H' p = some (.lst (ps.map V.str)) ∧ H' l = some (.lst (ms.map V.int))
  refine ⟨W, ⟨_, rfl, Nat.zero_le _, _, [], none, none, none, rfl, low_mul low_blank _, by show (Txt.mul " " (ns.getD 0 0 / 3 % 3)).length ≤ _; rw [ml]; omega, fun y hy => absurd hy (by simp), rfl, (same_new hp _).trans (same_new hl _), by rw [upd_ne (Ne.symm hlp), upd_same]; rfl, upd_same⟩, ?_⟩
  rintro i m σ H' ⟨rfl, hi, x, ps, o3, o4, o5, rfl, hx, hxl, hps, hpl, hs, hd, hld⟩
  by_cases hlt : i < ms.length
  · refine .inr ⟨⟨_, .int ms[i], SqL.of hld, by rw [List.getElem?_map, List.getElem?_eq_getElem hlt]; rfl⟩, fun σ' H2 => W (i + 1) (ms.length - (i + 1)) σ' H2, fun σ' H2 hW => ⟨_, by omega, hW⟩, ?_⟩
    rintro v H2 ⟨t, x', rfl, ht, rfl, hx'⟩
    obtain rfl : x' = .int ms[i] := by
      have := hx' _ (SqL.of hld)
      rw [List.getElem?_map, List.getElem?_eq_getElem hlt] at this
      exact (Option.some.inj this).symm
    refine ⟨t, _, rfl, SqT.of upd_same, rfl, _, _, rfl, _, _, rfl, rfl, ?_⟩
    refine ⟨_, rfl, _, rfl, ms[i], i, rfl, by omega, fun r hr0 hr1 => ?_⟩
    have s3 := same_new (o := .tup [.int i, .int ms[i]]) ht
    have hd3 := s3 _ _ hd
    have hl3 := s3 _ _ hld
    refine ⟨_, rfl, .inl ⟨rfl, _, SqL.of hd3⟩, _, rfl, _, _, rfl, rfl, ⟨by decide, by decide⟩, _, rfl, by show 0 ≤ r / 5; omega, by show r / 5 < 2 ^ 31; omega, fun y ylow ylen H4 s4 => ?_⟩
    have hd4 := s4 _ _ hd3
    have hl4 := s4 _ _ hl3
    refine ⟨p, _, _, rfl, rfl, hd4, by rw [List.length_map, sizeLine_eq]; omega, ?_⟩
    have hso := List.all_eq_true.mp seps_ok (seps.getD (r % 5).toNat "") (by
      have h1 : (r % 5).toNat < seps.length := by show _ < 5; omega
      rw [List.getD_eq_getElem?_getD, List.getElem?_eq_getElem h1]
      exact List.getElem_mem h1)
    rw [Bool.and_eq_true] at hso
    have hsl := of_decide_eq_true hso.2
    refine ⟨_, rfl, _, rfl, 1, rfl, p, _, -1, .str y, rfl, rfl, SqL.of upd_same, atI_last _ _, _, _, rfl, rfl, by rw [sizeLine_eq]; omega, by decide, fun z hz => ?_⟩
    refine ⟨_, rfl, _, _, rfl, rfl, (show (0 : Int) < 5 by decide), z, seps.map V.str, r % 5, .str (seps.getD (r % 5).toNat ""), rfl, rfl, SqL.of upd_same, ?_, _, _, rfl, rfl, ?_, rfl, hlt, x ++ y ++ seps.getD (r % 5).toNat "", ps ++ [y], _, _, _, rfl, low_app (low_app hx ylow) (low_of hso.1), ?_, ?_, ?_, ?_, ?_, ?_⟩
    · have h1 : (r % 5).toNat < seps.length := by show _ < 5; omega
      rw [show r % 5 = (((r % 5).toNat : Nat) : Int) by omega]
      refine atI_nat ?_
      rw [List.getElem?_map, show (((r % 5).toNat : Nat) : Int).toNat = (r % 5).toNat by omega, List.getD_eq_getElem?_getD, List.getElem?_eq_getElem h1]
      rfl
    · rw [app_len, sizeLine_eq]; omega
    · rw [app_len, app_len]; omega
    · intro y' hy'
      rcases List.mem_append.mp hy' with h | h
      · exact hps y' h
      · obtain rfl : y' = y := by simpa using h
        exact ⟨ylow, ylen⟩
    · rw [List.length_append, hpl]; rfl
    · intro b o hb
      have n1 : b ≠ p := ne_of_none hb hp
      have q4 := s4 _ _ (s3 _ _ (hs _ _ hb))
      have q5 : upd H4 p (.lst (ps.map V.str ++ [V.str y])) b = some o := by rw [upd_ne n1]; exact q4
      rw [upd_ne (ne_of_none q5 hz)]
      exact q5
    · have q5 : upd H4 p (.lst (ps.map V.str ++ [V.str y])) p = some (.lst (ps.map V.str ++ [V.str y])) := upd_same
      rw [upd_ne (ne_of_none q5 hz), upd_same, List.map_append]
      rfl
    · have q5 : upd H4 p (.lst (ps.map V.str ++ [V.str y])) l = some (.lst (ms.map V.int)) := by rw [upd_ne hlp]; exact hl4
      rw [upd_ne (ne_of_none q5 hz)]
      exact q5
  · refine .inl ⟨⟨_, SqL.of hld, by rw [List.length_map]; omega⟩, ?_⟩
    have hso := some_ok
    rw [Bool.and_eq_true] at hso
    have hslow : lowS some96 := low_of hso.1
    have hslen := of_decide_eq_true hso.2
    refine ⟨_, rfl, _, _, rfl, rfl, by decide +kernel, ?_⟩
    refine ⟨_, rfl, a, ns, 1, rfl, hs.seq sq, _, 50, rfl, by decide, fun r hr0 hr1 => ?_⟩
    refine ⟨_, rfl, _, _, rfl, rfl, (show (0 : Int) < 3 by decide), rfl, _, rfl, ?_⟩
    by_cases e1 : V.int (r % 3) = V.int 1
    · rw [decide_eq_true e1]
      refine iteT ⟨_, rfl, _, _, rfl, rfl, ⟨by decide, by decide⟩, _, rfl, x, rfl, by rw [sizeLine_eq]; omega, _, _, rfl, rfl, _, _, rfl, rfl, (show (0 : Int) < (x.length : Int) + 1 by omega), ?_⟩
      have ha0 : 0 ≤ r / 3 % ((x.length : Int) + 1) := Int.emod_nonneg _ (by omega)
      have ha1 : r / 3 % ((x.length : Int) + 1) < (x.length : Int) + 1 := Int.emod_lt_of_pos _ (by omega)
      obtain ⟨b, eb⟩ : ∃ b : Nat, ((b : Nat) : Int) = r / 3 % ((x.length : Int) + 1) := ⟨(r / 3 % ((x.length : Int) + 1)).toNat, by omega⟩
      have s1 : cds (Txt.slice x none (some (b : Int))) = (cds x).take b := cds_slice_to x (by omega)
      have s2 : cds (Txt.slice x (some (b : Int)) none) = (cds x).drop b := cds_slice_from x (by omega)
      rw [eb] at s1 s2
      have l1 : (Txt.slice x none (some (r / 3 % ((x.length : Int) + 1)))).length ≤ 2000 := by rw [← cds_len, s1, List.length_take, cds_len]; omega
      have l2 : (Txt.slice x (some (r / 3 % ((x.length : Int) + 1))) none).length ≤ 2000 := by rw [← cds_len, s2, List.length_drop, cds_len]; omega
      have w1 : lowS (Txt.slice x none (some (r / 3 % ((x.length : Int) + 1)))) := fun d hd => by rw [s1] at hd; exact hx d (List.mem_of_mem_take hd)
      have w2 : lowS (Txt.slice x (some (r / 3 % ((x.length : Int) + 1))) none) := fun d hd => by rw [s2] at hd; exact hx d (List.mem_of_mem_drop hd)
      have rl : x.length ≤ sizeLine := by rw [sizeLine_eq]; omega
      refine ⟨_, rfl, _, rfl, _, rfl, x, rfl, rl, _, rfl, _, rfl, _, _, rfl, rfl, ⟨by decide, by decide⟩, _, _, rfl, rfl, (show (0 : Int) < 96 by decide), some96, _, (cds some96).getD (r / 30011 % 96).toNat 0, rfl, rfl, by rw [hslen, sizeLine_eq]; omega, ?_, _, _, rfl, rfl, ?_, _, rfl, _, rfl, _, rfl, x, rfl, rl, _, _, rfl, rfl, ?_, ?_⟩
      · exact at_getD _ _ (Int.emod_nonneg _ (by decide)) (by rw [cds_len, hslen]; exact Int.emod_lt_of_pos _ (by decide))
      · show _ + 1 ≤ _
        rw [sizeLine_eq]
        show (Txt.slice x none (some (r / 3 % ((x.length : Int) + 1)))).length + 1 ≤ _
        omega
      · rw [app_len, sizeLine_eq]
        show (Txt.slice x none (some (r / 3 % ((x.length : Int) + 1)))).length + 1 + (Txt.slice x (some (r / 3 % ((x.length : Int) + 1))) none).length ≤ _
        omega
      · refine ⟨_, rfl, _, rfl, (show 2 ≤ sizeLine by decide), fun t ht => ?_⟩
        have hn := same_new (o := .tup [.str (Txt.slice x none (some (r / 3 % ((x.length : Int) + 1))) ++ ⟨#[(cds some96).getD (r / 30011 % 96).toNat 0]⟩ ++ Txt.slice x (some (r / 3 % ((x.length : Int) + 1))) none), .ref p]) ht
        refine q _ ps _ t p (low_app (low_app w1 (low_one (getD_low hslow _))) w2) ?_ hps (by omega) (hs.trans hn) hp (hn _ _ hd) upd_same
        rw [app_len, app_len]
        show (Txt.slice x none (some (r / 3 % ((x.length : Int) + 1)))).length + 1 + (Txt.slice x (some (r / 3 % ((x.length : Int) + 1))) none).length ≤ _
        omega
    · rw [decide_eq_false e1]
      refine iteF ⟨_, rfl, _, rfl, (show 2 ≤ sizeLine by decide), fun t ht => ?_⟩
      have hn := same_new (o := .tup [.str x, .ref p]) ht
      exact q x ps _ t p hx (by omega) hps (by omega) (hs.trans hn) hp (hn _ _ hd) upd_same
end
end K10

end

section
set_option Elab.async false
set_option linter.all false
set_option maxRecDepth 100000
set_option maxHeartbeats 4000000
namespace L2
open PySem PySem.Spec PyProof.Rows
theorem PS.imp {X : Cx} {st : Stmt} {t t' : TS} (h : PS X st t) (i : ∀ D σ H, t' D σ H → t D σ H) : PS X st t' := fun pins s σ H D I hw => h pins s σ H D I (i D σ H hw)
theorem op_isnotB {X : Cx} : OpR X (compareOp .IsNot) (fun x y H Q => ∃ a b, x = .bl a ∧ y = .bl b ∧ Q (.bl (!(a == b))) H) := by
  intro pins s σ H x y v u Q I rx ry h
  obtain ⟨a, b, rfl, rfl, q⟩ := h
  obtain rfl : v = .bool a := rx
  obtain rfl : u = .bool b := ry
  show wpAny _ _ (do return Value.bool (!(← isSame (.bool a) (.bool b)))) _ _ _
  have e : isSame (.bool a) (.bool b) = pure (a == b) := by
    cases a <;> cases b <;> rfl
  rw [e]
  exact wpAny_bind (wpAny_pure (wpAny_pure ⟨.bl _, H, I, rfl, q⟩))
end L2
namespace K10
open PySem L2
seal L2.PE L2.PA L2.PT L2.PS L2.PSs L2.PG L2.PGs L2.PI L2.PW
def L0 (a : Addr) (v1 v2 : V) (o : List (Option V)) : St := some (.ref a) :: some v1 :: some v2 :: o
/-- the script, the text and the pieces stay; the other names may be anything behind it -/
def tKeep (K : PySem.W.Frag) : TS := fun D σ H => ∃ (a : Addr) (ns : List Int) (v1 v2 : V) (o : List (Option V)), σ = L0 a v1 v2 o ∧ o.length = 8 ∧ SqL K H a (ns.map V.int) ∧ ∀ o' H', o'.length = 8 → Same H H' → D.nx (L0 a v1 v2 o') H'
theorem eight {o : List (Option V)} (h : o.length = 8) : ∃ a b c d e f g i, o = [a, b, c, d, e, f, g, i] := by
  match o, h with
  | [a, b, c, d, e, f, g, i], _ => exact ⟨a, b, c, d, e, f, g, i, rfl⟩
def longT (k : Nat) : Str := Txt.mul "a " 2999 ++ "b" ++ Txt.mul " " (k : Int)
theorem cds_long (k : Nat) : cds (longT k) = (List.replicate 2999 [97, 32]).flatten ++ ([98] ++ List.replicate k 32) := by
  unfold longT
  rw [cds_app, cds_app, cds_mul, cds_mul, List.append_assoc]
  have e1 : cds "a " = [97, 32] := by decide +kernel
  have e2 : cds "b" = [98] := by decide +kernel
  rw [e1, e2, cds_blank, show ((2999 : Int)).toNat = 2999 from rfl, Int.toNat_natCast]
  congr 2
  induction k with
  | zero => rfl
  | succ k ih => rw [List.replicate_succ, List.replicate_succ, List.flatten_cons, ih]; rfl
theorem long_len (k : Nat) : (longT k).length = 5999 + k := by
  rw [← cds_len, cds_long, List.length_append, len_rep, List.length_append, List.length_replicate]
  simp
  omega
theorem cut_long0 : cutP (cds (longT 0)) 0 = .ok (List.replicate 2999 [97] ++ [[98]]) := by
  rw [cds_long, cutP_as]
  show pre _ (cutP [98] _) = _
  rw [cutP_b]
  rfl
theorem cut_long1 : cutP (cds (longT 1)) 0 = .ok (List.replicate 2999 [97] ++ [[98]]) := by
  rw [cds_long, cutP_as]
  show pre _ (cutP [98, 32] _) = _
  rw [cutP_b1]
  rfl
/-- ["a"] * 2999 + ["b"], and what cutting tells -/
theorem long_vs : ((List.replicate 2999 [97] ++ [[98]] : List Tx).map vT) = (List.replicate 2999 ("a" : Str) ++ [("b" : Str)]).map V.str := by
  rw [List.map_append, List.map_append, List.map_replicate, List.map_replicate]
  rfl
theorem rep_flat (v : V) : ∀ n : Nat, (List.replicate n [v]).flatten = List.replicate n v
  | 0 => rfl
  | n + 1 => by rw [List.replicate_succ, List.replicate_succ, List.flatten_cons, rep_flat v n]; rfl
theorem long_shaped : PySem.SeqAt.shaped (.list ((List.replicate 2999 ("a" : Str) ++ [("b" : Str)]).map .str)) = true := shaped_strs fun y hy => by
  rcases List.mem_append.mp hy with h | h
  · rw [(List.mem_replicate.mp h).2]; exact low_of (by decide)
  · obtain rfl : y = "b" := by simpa using h
    exact low_of (by decide)
theorem low_long (k : Nat) : lowS (longT k) := by
  intro c hc
  rw [cds_long] at hc
  rcases List.mem_append.mp hc with h | h
  · have := mem_rep h
    have : c = 97 ∨ c = 32 := by simpa using this
    omega
  · rcases List.mem_append.mp h with h | h
    · have : c = 98 := by simpa using h
      omega
    · rw [(List.mem_replicate.mp h).2]; decide
theorem zero_shaped : PySem.SeqAt.shaped (.tuple [.int 0]) = true := by decide +kernel
theorem bools_shaped (a b : Bool) : PySem.SeqAt.shaped (.list [.bool a, .bool b]) = true := by cases a <;> cases b <;> decide +kernel
end K10
namespace K10
open PySem L2
section
variable {P : Program} {w : World} {K : PySem.W.Frag} {mg : Str → Option Value} {base : Heap}
def spLaw (K : PySem.W.Frag) : Sp := fun vs H Q _ => ∃ (a : Addr) (ns : List Int), vs = [.ref a] ∧ SqL K H a (ns.map V.int) ∧ ∀ H', Q (.bl true) H'
theorem scLaw : FnScope ["_law_script", "_law_text", "_law_pieces", "_law_long", "_law_found", "_law_figures", "_law_told_here", "_law_word", "_law_answers", "_law_is_good", "_law_due"] ["_law_script"] (defScope sLaw) := ⟨rfl, rfl, rfl, by decide +kernel, rfl, by decide +kernel, by decide +kernel⟩
def odd8 : List Str := ["", " ", "a b", "a.", "if ", "a\n", "A", "-1"]
/-- the figures stand in their slot -/
def tFig (K : PySem.W.Frag) : TS := fun D σ H => ∃ (a : Addr) (ns : List Int) (v1 v2 : V) (o3 o4 o6 o7 o8 o9 o10 : Option V) (n : Nat), σ = [some (.ref a), some v1, some v2, o3, o4, some (.str (Txt.mul "7" n)), o6, o7, o8, o9, o10] ∧ 4300 ≤ n ∧ n < 5000 ∧ SqL K H a (ns.map V.int) ∧ ∀ o' H', o'.length = 8 → Same H H' → D.nx (L0 a v1 v2 o') H'
/-- the odd words: all but the word's slot stays -/
def tOdd : TS := fun D σ H => ∀ v H', Same H H' → D.nx (σ.set 7 v) H'
/-- deep data stays read -/
theorem SqT.same {K : PySem.W.Frag} {H H' : Hp} {a : Addr} {xs : List V} (e : Same H H') (h : SqT K H a xs) : SqT K H' a xs := by
  rcases h with (h | ⟨o, h⟩) | h
  · exact .inl (.inl (e _ _ h))
  · exact .inl (.inr ⟨o, e _ _ h⟩)
  · exact .inr h
/-- the test of the long text: [found == .., found == (0,)] != [len < 6001, len > 6000] is false -/
theorem long_test {D : Ends} {H : Hp} {a fq : Addr} {v1 v2 : V} {o5 o6 o7 o8 o9 o10 : Option V} {x : Str} {d : PyData} {t : TS} (hx : x.length ≤ 7000) (hrd : ∀ H', Same H H' → RdD K H' (.ref fq) d) (sd : PySem.SeqAt.shaped d = true)
    (h1 : PyData.eqv d (.list ((List.replicate 2999 ("a" : Str) ++ [("b" : Str)]).map .str)) = decide ((x.length : Int) < 6001)) (h2 : PyData.eqv d (.tuple [.int 0]) = decide ((6000 : Int) < (x.length : Int)))
    (k : ∀ H', Same H H' → D.nx [some (.ref a), some v1, some v2, some (.str x), some (.ref fq), o5, o6, o7, o8, o9, o10] H') :
    tIfS (tTest (tOp (rNeD K) (tLst (tCons (tOp (rEqD K) (tVar 4) (tOp rCat (tOp rRep (tLst (tCons (tC (.str "a")) tNil)) (tC (.int 2999))) (tLst (tCons (tC (.str "b")) tNil)))) (tCons (tOp (rEqD K) (tVar 4) (tTup (tCons (tC (.int 0)) tNil))) tNil)))
      (tLst (tCons (tOp (rI0 fun i j => .bl (decide (i < j))) (tCB (fun xs H Q => ∃ z, xs = [.str z] ∧ z.length ≤ sizeLine ∧ Q (.int z.length) H) (tCons (tVar 3) tNil)) (tC (.int 6001))) (tCons (tOp (rI0 fun i j => .bl (decide (j < i))) (tCB (fun xs H Q => ∃ z, xs = [.str z] ∧ z.length ≤ sizeLine ∧ Q (.int z.length) H) (tCons (tVar 3) tNil)) (tC (.int 6000))) tNil))))) t tNext D
      [some (.ref a), some v1, some v2, some (.str x), some (.ref fq), o5, o6, o7, o8, o9, o10] H := by
  have xz : x.length ≤ sizeLine := by rw [sizeLine_eq]; omega
  refine ⟨_, rfl, (show 1 ≤ sizeLine by decide), fun c1 hc1 => ⟨c1, 2999, [.str "a"], rfl, rfl, upd_same, by decide, by decide, (show 1 * 2999 ≤ sizeLine by decide), fun c2 hc2 => ⟨(show 1 ≤ sizeLine by decide), fun c3 hc3 => ⟨c2, c3, (List.replicate 2999 [V.str "a"]).flatten, [.str "b"], rfl, rfl, ?_, upd_same, ?_, fun c4 hc4 => ?_⟩⟩⟩⟩
  · rw [upd_ne (fun z => by rw [← z, upd_same] at hc3; cases hc3), upd_same]; rfl
  · rw [rep_flat, List.length_replicate]; decide
  have s1 := same_new (o := .lst [.str "a"]) hc1
  have s2 := s1.trans (same_new (o := .lst (List.replicate (2999 : Int).toNat [V.str "a"]).flatten) hc2)
  have s3 := s2.trans (same_new (o := .lst [.str "b"]) hc3)
  have s4 := s3.trans (same_new (o := .lst ((List.replicate 2999 [V.str "a"]).flatten ++ [.str "b"])) hc4)
  have e1 : (List.replicate 2999 [V.str "a"]).flatten ++ [V.str "b"] = (List.replicate 2999 ("a" : Str) ++ [("b" : Str)]).map V.str := by rw [rep_flat, List.map_append, List.map_replicate]; rfl
  refine ⟨d, _, hrd _ s4, .lst (SqL.of upd_same) (by rw [e1]; exact RdDs.strs _), sd, long_shaped, ?_⟩
  rw [h1]
  refine ⟨_, rfl, (show 1 ≤ sizeLine by decide), fun c5 hc5 => ⟨d, _, hrd _ (s4.trans (same_new hc5 _)), .tup (SqT.of upd_same) (RdDs.ints [0]), sd, zero_shaped, ?_⟩⟩
  rw [show PyData.eqv d (.tuple ([(0 : Int)].map PyData.int)) = decide ((6000 : Int) < (x.length : Int)) from h2]
  refine ⟨(show 2 ≤ sizeLine by decide), fun c6 hc6 => ?_⟩
  refine ⟨_, rfl, _, rfl, xz, _, _, rfl, rfl, _, rfl, _, rfl, xz, _, _, rfl, rfl, (show 2 ≤ sizeLine by decide), fun c7 hc7 => ?_⟩
  have s5 := s4.trans (same_new (o := .tup [.int 0]) hc5)
  have s6 := s5.trans (same_new (o := .lst [.bl (decide ((x.length : Int) < 6001)), .bl (decide ((6000 : Int) < (x.length : Int)))]) hc6)
  have s7 := s6.trans (same_new (o := .lst [.bl (decide ((x.length : Int) < 6001)), .bl (decide ((6000 : Int) < (x.length : Int)))]) hc7)
  refine ⟨.list [.bool (decide ((x.length : Int) < 6001)), .bool (decide ((6000 : Int) < (x.length : Int)))], .list [.bool (decide ((x.length : Int) < 6001)), .bool (decide ((6000 : Int) < (x.length : Int)))],
    .lst (SqL.of (by rw [upd_ne (ne_of_none upd_same hc7), upd_same])) (.cons (.bl _) (.cons (.bl _) .nil)), .lst (SqL.of upd_same) (.cons (.bl _) (.cons (.bl _) .nil)), bools_shaped _ _, bools_shaped _ _, _, rfl, ?_⟩
  have ee : PyData.eqv (.list [.bool (decide ((x.length : Int) < 6001)), .bool (decide ((6000 : Int) < (x.length : Int)))]) (.list [.bool (decide ((x.length : Int) < 6001)), .bool (decide ((6000 : Int) < (x.length : Int)))]) = true := by simp [PyData.eqv, PyData.eqvAll]
  rw [ee]
  exact iteF (k _ s7)

theorem eqv_zero_list (ds : List PyData) : PyData.eqv (.tuple [.int 0]) (.list ds) = false := by rw [PyData.eqv]
theorem eqv_list_tup (ds es : List PyData) : PyData.eqv (.list ds) (.tuple es) = false := by rw [PyData.eqv]
theorem told_long {n : Nat} (hn : n < 3) {H : Hp} {Q : VK} {E : XK} (h : ∀ H1 q d, Same H H1 → (∀ H', Same H1 H' → RdD K H' (.ref q) d) → PySem.SeqAt.shaped d = true → PyData.eqv d (.list ((List.replicate 2999 ("a" : Str) ++ [("b" : Str)]).map .str)) = decide (((longT n).length : Int) < 6001) →
    PyData.eqv d (.tuple [.int 0]) = decide ((6000 : Int) < ((longT n).length : Int)) → Q (.ref q) H1) : spLTold K [.str (longT n)] H Q E := by
  refine .inl ⟨longT n, rfl, by rw [long_len]; omega, ?_⟩
  have lst : ∀ m, m < 2 → n = m → cutP (cds (longT n)) 0 = .ok (List.replicate 2999 [97] ++ [[98]]) → (if (longT n).length ≤ 6000 then ToldTo H Q (cutP (cds (longT n)) 0) else TupK H Q 0) := fun m hm e hc => by
    rw [if_pos (by rw [long_len]; omega), hc]
    refine fun H1 p hp s1 hd => h H1 p _ s1 (fun H' s' => .lst (SqL.of (s' _ _ hd)) (by rw [long_vs]; exact RdDs.strs _)) long_shaped ?_ ?_
    · rw [eqv_strs, decide_eq_true rfl, decide_eq_true (by rw [long_len]; omega)]
    · rw [eqv_list_tup, decide_eq_false (by rw [long_len]; omega)]
  rcases (show n = 0 ∨ n = 1 ∨ n = 2 by omega) with e | e | e
  · exact lst 0 (by decide) e (by rw [e]; exact cut_long0)
  · exact lst 1 (by decide) e (by rw [e]; exact cut_long1)
  · rw [if_neg (by rw [long_len, e]; decide)]
    refine fun H1 p hp s1 hd => h H1 p (.tuple [.int 0]) s1 (fun H' s' => .tup (SqT.same s' (SqT.of hd)) (RdDs.ints [0])) zero_shaped ?_ ?_
    · rw [eqv_zero_list, decide_eq_false (by rw [long_len, e]; decide)]
    · rw [decide_eq_true (by rw [long_len, e]; decide)]
      simp [PyData.eqv, PyData.eqvAll]
theorem told_fig {n : Nat} (h1 : 4300 ≤ n) (h2 : n < 5000) {H : Hp} {Q : VK} {E : XK} (h : ∀ H1 q, Same H H1 → H1 q = some (.tup [.int 2]) → Q (.ref q) H1) : spLTold K [.str ("a " ++ Txt.mul "7" (n : Int))] H Q E := by
  have e1 : cds "a " = [97, 32] := by decide +kernel
  have e2 : cds "7" = [55] := by decide +kernel
  have ec : cds ("a " ++ Txt.mul "7" (n : Int)) = 97 :: 32 :: List.replicate n 55 := by
    rw [cds_app, cds_mul, e1, e2, Int.toNat_natCast]
    have : ∀ k : Nat, (List.replicate k [55]).flatten = List.replicate k 55 := fun k => by
      induction k with
      | zero => rfl
      | succ k ih => rw [List.replicate_succ, List.replicate_succ, List.flatten_cons, ih]; rfl
    rw [this]
    rfl
  have el : ("a " ++ Txt.mul "7" (n : Int)).length = n + 2 := by rw [← cds_len, ec]; simp
  refine .inl ⟨_, rfl, by rw [el]; omega, ?_⟩
  rw [if_pos (by rw [el]; omega), ec, cutP_a_figs n (by omega)]
  exact fun H1 p hp s1 hd => h H1 p s1 hd
theorem told_empty {H : Hp} {Q : VK} {E : XK} (h : ∀ H1 q, Same H H1 → H1 q = some (.lst []) → Q (.ref q) H1) : spLTold K [.str ""] H Q E := by
  refine .inl ⟨_, rfl, by decide, ?_⟩
  rw [if_pos (by decide), show cds "" = [] by decide +kernel, cutP]
  exact fun H1 p hp s1 hd => h H1 p s1 hd
theorem tup_ne {K : PySem.W.Frag} {H : Hp} {p c : Addr} {i : Int} {Q : VK} (hp : H p = some (.tup [.int i])) (hc : H c = none) (q : Q (.bl false) (upd H c (.tup [.int i]))) : rNeD K (.ref p) (.ref c) (upd H c (.tup [.int i])) Q := by
  refine ⟨.tuple [.int i], .tuple [.int i], .tup (SqT.of (by rw [upd_ne (ne_of_none hp hc)]; exact hp)) (RdDs.ints [i]), .tup (SqT.of upd_same) (RdDs.ints [i]), ?_, ?_, ?_⟩
  · simp [PySem.SeqAt.shaped, PyData.canLay0, PyData.canLayAll0, PyData.depth, PyData.depthAll]
  · simp [PySem.SeqAt.shaped, PyData.canLay0, PyData.canLayAll0, PyData.depth, PyData.depthAll]
  · rw [show PyData.eqv (.tuple [.int i]) (.tuple [.int i]) = true by simp [PyData.eqv, PyData.eqvAll]]
    exact q
theorem nil_ne {K : PySem.W.Frag} {H : Hp} {p c : Addr} {Q : VK} (hp : H p = some (.lst [])) (hc : H c = none) (q : Q (.bl false) (upd H c (.lst []))) : rNeD K (.ref p) (.ref c) (upd H c (.lst [])) Q := by
  refine ⟨.list [], .list [], .lst (SqL.of (by rw [upd_ne (ne_of_none hp hc)]; exact hp)) .nil, .lst (SqL.of upd_same) .nil, by decide +kernel, by decide +kernel, ?_⟩
  rw [show PyData.eqv (.list []) (.list []) = true by simp [PyData.eqv, PyData.eqvAll]]
  exact q
theorem odd_no : odd8.all (fun x => !told.contains x && !(isNm (cds x) && !told.contains x) && decide (x.length ≤ 20)) = true := by decide +kernel
/-- one of the five things that are no texts -/
theorem five {H : Hp} {Q : VK} {E : XK} {l t : Addr} (hl : H l = some (.lst [.str "a"])) (ht : H t = some (.tup [.str "a"])) {j : Int} (h0 : 0 ≤ j) (h1 : j < 5) (h : ∀ H1 q, Same H H1 → H1 q = some (.tup [.int 0]) → Q (.ref q) H1) :
    ∃ v, atI [V.non, .int 5, .ref l, .bl true, .ref t] j = some v ∧ spLTold K [v] H Q E := by
  have tk : TupK H Q 0 := fun H1 p hp s1 hd => h H1 p s1 hd
  have : j = 0 ∨ j = 1 ∨ j = 2 ∨ j = 3 ∨ j = 4 := by omega
  rcases this with rfl | rfl | rfl | rfl | rfl
  · exact ⟨_, rfl, .inr ⟨_, _, rfl, .non, kit_non_str, tk⟩⟩
  · exact ⟨_, rfl, .inr ⟨_, _, rfl, .int 5, kit_int_str, tk⟩⟩
  · exact ⟨_, rfl, .inr ⟨_, _, rfl, .lst hl, kit_list_str, tk⟩⟩
  · exact ⟨_, rfl, .inr ⟨_, _, rfl, .bl true, kit_bool_str, tk⟩⟩
  · exact ⟨_, rfl, .inr ⟨_, _, rfl, .tup ht, kit_tuple_str, tk⟩⟩
/-- a low word: the law's own look at it, and the program's -/
theorem word_due {x : Str} (hx : lowS x) : (isNm (cds x) && !told.contains x) = (if Txt.isalnum x = true then (lawRow (cds x) && (!figs.contains ((cds x).headD 0) && !told.contains x)) else false) := by
  rw [isalnum_all hx]
  cases e : cds x with
  | nil => rfl
  | cons c r =>
    cases ha : (c :: r).all isRow with
    | false =>
      have hn : isNm (c :: r) = false := by
        cases q : isNm (c :: r) with
        | false => rfl
        | true =>
          rw [isNm, Bool.and_eq_true, Bool.and_eq_true] at q
          have : (c :: r).all isRow = true := List.all_eq_true.mpr fun d hd => by
            have := List.all_eq_true.mp q.2.2 d hd
            unfold isRow
            rw [Bool.or_eq_true] at this
            rcases this with h | h
            · rw [h]; rfl
            · rw [h]; simp
          rw [ha] at this; cases this
      rw [hn]
      rfl
    | true =>
      rw [lawRow_eq (by simp) ha]
      show _ = (if (true && true) = true then _ else false)
      rw [Bool.and_self, if_pos rfl]
      show _ = ((isNum (c :: r) || isNm (c :: r)) && (!figs.contains c && !told.contains x))
      have nf : isNm (c :: r) = true → figs.contains c = false := fun q => by
        rw [isNm, Bool.and_eq_true, Bool.and_eq_true] at q
        cases z : figs.contains c with
        | false => rfl
        | true => have := (fig_small z).1; rw [q.2.1] at this; cases this
      have nn : isNum (c :: r) = true → figs.contains c = true := fun q => by
        rw [isNum, Bool.and_eq_true] at q
        have q2 := q.2
        split at q2
        · rename_i hc; rw [hc]; decide
        · exact List.all_eq_true.mp q2 c List.mem_cons_self
      cases h1 : isNm (c :: r) with
      | true => rw [nf h1]; simp
      | false =>
        cases h2 : isNum (c :: r) with
        | true => rw [nn h2]; simp
        | false => rfl
end
end K10

end

section
set_option Elab.async false
set_option linter.all false
set_option maxRecDepth 100000
set_option maxHeartbeats 4000000
namespace K10
open PySem L2
seal L2.PE L2.PA L2.PT L2.PS L2.PSs L2.PG L2.PGs L2.PI L2.PW
section
variable {K : PySem.W.Frag}
abbrev NmB (z : Str) : Bool := isNm (cds z) && !told.contains z
theorem all_isi {σ : St} {H : Hp} {c1 : Addr} {T N : Bool} {Q : Bool → Hp → Prop} (hc : H c1 = some (.lst [.bl T, .bl N])) (h8 : σ[8]? = some (some (.ref c1))) (q : ∀ H', Same H H' → Q false H') :
    tNot (tB (tCB (fun xs H Q => ∃ (p : Addr) (ys : List Bool), xs = [.ref p] ∧ SqL K H p (ys.map V.bl) ∧ Q (.bl (ys.all id)) H) (tCons (tComp (iList K (tVar 8)) ((["_law_one"] : List Str).map fun _ => none) (gName 0) tTrue (tCB (rIsi K) (tCons (tVar 0) (tCons (tC (.ty "bool")) tNil)))) tNil))) σ H Q := by
  refine ⟨_, h8, c1, rfl, ⟨_, SqL.of hc⟩, fun D hD => ?_⟩
  have hne : c1 ≠ D := ne_of_none hc hD
  have sq : ∀ l, SqL K (upd H D (.lst l)) c1 [.bl T, .bl N] := fun l => SqL.of (by rw [upd_ne hne]; exact hc)
  refine comp_pure (J := Itl K c1) [.bl T, .bl N] (fun _ => true) (fun _ => .bl true) (fun σ' => ∃ v, σ' = [v]) (fun x σ' => σ' = [some x]) ⟨none, rfl⟩ (fun i l h => ⟨_, _, sq l, List.getElem?_eq_getElem h⟩) (fun l => ⟨_, sq l, Nat.le_refl _⟩) (fun i l x H' h1 h2 => ⟨h2.1, h2.2 _ (sq l)⟩)
    (fun x _ σ' H' K' h1 h2 => ?_) (fun x _ σ' l K' h1 h2 => h2) (fun x hx _ σ' l K' h1 h2 => ?_) (show 2 ≤ sizeLine by decide) ?_
  · obtain ⟨v, rfl⟩ := h1
    exact h2 _ ⟨_, rfl⟩ rfl
  · rw [h1]
    obtain ⟨b, rfl⟩ : ∃ b, x = V.bl b := by
      have : x = .bl T ∨ x = .bl N := by simpa using hx
      rcases this with e | e
      · exact ⟨_, e⟩
      · exact ⟨_, e⟩
    exact ⟨_, rfl, _, _, _, _, true, rfl, rfl, .bl b, kit_same, h2⟩
  · exact ⟨D, [true, true], rfl, SqL.of upd_same, _, rfl, q _ (same_new hD _)⟩
theorem due_read {σ : St} {H : Hp} {p6 : Addr} {z : Str} {g : Bool} {Q : VK} (h7 : σ[7]? = some (some (.str z))) (h6 : σ[6]? = some (some (.ref p6))) (h9 : σ[9]? = some (some (.bl g))) (hd : H p6 = some (.lst (told.map V.str))) (hz : lowS z) (zs : z.length ≤ sizeLine)
    (hg : g = if Txt.isalnum z = true then lawRow (cds z) else false) (q : ∀ c2, H c2 = none → Q (.ref c2) (upd H c2 (.lst [.bl (told.contains z), .bl (NmB z)]))) :
    tLst (tCons (tOp (rIn K false) (tVar 7) (tVar 6)) (tCons (tAndV (tVar 9) (tAndV (tOp (fun x y H Q => ∃ i j, x = .str i ∧ y = .str j ∧ Q (.bl (!(!(Builtin.Str.occurrences j i 0 j.length 1).isEmpty))) H) (tOp rIxS (tVar 7) (tC (.int 0))) (tC (.str "0123456789"))) (tOp (rIn K true) (tVar 7) (tVar 6)))) tNil)) σ H Q := by
  refine ⟨_, h7, _, h6, p6, _, rfl, .inl (SqL.of hd), rfl, flat_strs told, ?_⟩
  show (fun _ => _) _
  rw [show (if false = true then !inV (V.str z) (told.map V.str) else inV (V.str z) (told.map V.str)) = told.contains z by rw [if_neg Bool.false_ne_true, inV_strs]]
  refine ⟨_, h9, _, rfl, ?_⟩
  have wd : NmB z = (if Txt.isalnum z = true then (lawRow (cds z) && (!figs.contains ((cds z).headD 0) && !told.contains z)) else false) := word_due hz
  cases g with
  | false =>
    have e : NmB z = false := by
      rw [wd]
      cases ha : Txt.isalnum z with
      | false => rfl
      | true => rw [ha, if_pos rfl] at hg; rw [if_pos rfl, ← hg]; rfl
    rw [e] at q
    exact iteF ⟨(show 2 ≤ sizeLine by decide), q⟩
  | true =>
    have ha : Txt.isalnum z = true := by
      cases ha : Txt.isalnum z with
      | true => rfl
      | false => rw [ha] at hg; cases hg
    rw [ha, if_pos rfl] at hg
    rw [ha, if_pos rfl, ← hg, Bool.true_and] at wd
    obtain ⟨c, r, e⟩ : ∃ c r, cds z = c :: r := by
      cases e : cds z with
      | nil => rw [isalnum_all hz, e] at ha; cases ha
      | cons c r => exact ⟨c, r, rfl⟩
    refine iteT ⟨_, h7, z, 0, c, rfl, rfl, zs, by show atI (cds z) ((0 : Nat) : Int) = some c; exact atI_nat (by rw [e]; rfl), _, _, rfl, rfl, _, rfl, ?_⟩
    rw [sgn_notin cds_figures]
    rw [e] at wd
    have wd' : NmB z = (!figs.contains c && !told.contains z) := wd
    cases hf : figs.contains c with
    | true =>
      rw [hf] at wd'
      rw [wd'] at q
      exact iteF ⟨(show 2 ≤ sizeLine by decide), q⟩
    | false =>
      refine iteT ⟨_, h7, _, h6, p6, _, rfl, .inl (SqL.of hd), rfl, flat_strs told, (show 2 ≤ sizeLine by decide), fun c2 hc2 => ?_⟩
      have := q c2 hc2
      rw [wd', hf] at this
      show (fun _ => _) _
      rw [show (if true = true then !inV (V.str z) (told.map V.str) else inV (V.str z) (told.map V.str)) = !told.contains z by rw [if_pos rfl, inV_strs]]
      exact this
end
end K10

end

section
set_option Elab.async false
set_option linter.all false
set_option maxRecDepth 100000
set_option maxHeartbeats 4000000
namespace K10
open PySem L2
seal L2.PE L2.PA L2.PT L2.PS L2.PSs L2.PG L2.PGs L2.PI L2.PW
section
variable {P : Program} {w : World} {K : PySem.W.Frag} {mg : Str → Option Value} {base : Heap}
theorem told_longX {n : Nat} {x : Str} (hx : x = longT n) (hn : n < 3) {H : Hp} {Q : VK} {E : XK} (h : ∀ H1 q d, Same H H1 → (∀ H', Same H1 H' → RdD K H' (.ref q) d) → PySem.SeqAt.shaped d = true → PyData.eqv d (.list ((List.replicate 2999 ("a" : Str) ++ [("b" : Str)]).map .str)) = decide ((x.length : Int) < 6001) →
    PyData.eqv d (.tuple [.int 0]) = decide ((6000 : Int) < (x.length : Int)) → Q (.ref q) H1) : spLTold K [.str x] H Q E := by
  subst hx
  exact told_long hn h
theorem fiveX {H : Hp} {l t : Addr} (hl : H l = some (.lst [.str "a"])) (ht : H t = some (.tup [.str "a"])) {j : Int} (h0 : 0 ≤ j) (h1 : j < 5) :
    ∃ v, atI [V.non, .int 5, .ref l, .bl true, .ref t] j = some v ∧ ∀ (Q : VK) (E : XK), (∀ H1 q, Same H H1 → H1 q = some (.tup [.int 0]) → Q (.ref q) H1) → spLTold K [v] H Q E := by
  have : j = 0 ∨ j = 1 ∨ j = 2 ∨ j = 3 ∨ j = 4 := by omega
  rcases this with rfl | rfl | rfl | rfl | rfl
  · exact ⟨_, rfl, fun Q E h => .inr ⟨_, _, rfl, .non, kit_non_str, fun H1 p hp s1 hd => h H1 p s1 hd⟩⟩
  · exact ⟨_, rfl, fun Q E h => .inr ⟨_, _, rfl, .int 5, kit_int_str, fun H1 p hp s1 hd => h H1 p s1 hd⟩⟩
  · exact ⟨_, rfl, fun Q E h => .inr ⟨_, _, rfl, .lst hl, kit_list_str, fun H1 p hp s1 hd => h H1 p s1 hd⟩⟩
  · exact ⟨_, rfl, fun Q E h => .inr ⟨_, _, rfl, .bl true, kit_bool_str, fun H1 p hp s1 hd => h H1 p s1 hd⟩⟩
  · exact ⟨_, rfl, fun Q E h => .inr ⟨_, _, rfl, .tup ht, kit_tuple_str, fun H1 p hp s1 hd => h H1 p s1 hd⟩⟩
theorem tC_i {v : V} {σ : St} {H : Hp} {Q : VK} (h : Q v H) : tC v σ H Q := h
def tFigX (K : PySem.W.Frag) : TS := fun D σ H => ∃ (a : Addr) (ns : List Int) (v1 v2 : V) (o3 o4 o6 o7 o8 o9 o10 : Option V) (n : Nat) (y : Str), σ = [some (.ref a), some v1, some v2, o3, o4, some (.str y), o6, o7, o8, o9, o10] ∧ y = Txt.mul "7" (n : Int) ∧ 4300 ≤ n ∧ n < 5000 ∧ SqL K H a (ns.map V.int) ∧ ∀ o' H', o'.length = 8 → Same H H' → D.nx (L0 a v1 v2 o') H'
def tOddX : TS := fun D σ H => σ.length = 11 ∧ ∀ v H', Same H H' → D.nx (σ.set 7 v) H'
theorem ok_law {f g1 g2 g3 g4 g5 g6 g7 g8 : Addr} {fd d1 d2 d3 d4 d5 d6 d7 d8 : FuncData} (F : Fun K "law" "law" sLaw f fd) (T : Txt K mg) (Bl : Blt mg) (isi : mg "isinstance" = none)
    (G1 : FnOk P w K mg base CX0 3 g1 d1 ["_law_script"] (spBuilt K)) (b1 : Binds K d1 ["_law_script"] []) (k1 : PySem.W.keepIn K (.ref g1) = true) (m1 : mg "_law_built" = some (.ref g1))
    (G2 : FnOk P w K mg base CX0 6 g2 d2 ["_law_text"] spGood) (b2 : Binds K d2 ["_law_text"] []) (k2 : PySem.W.keepIn K (.ref g2) = true) (m2 : mg "_law_good" = some (.ref g2))
    (G3 : FnOk P w K mg base CX0 1 g3 d3 ["_law_script", "_law_k"] (spCell K)) (b3 : Binds K d3 ["_law_script", "_law_k"] []) (k3 : PySem.W.keepIn K (.ref g3) = true) (m3 : mg "_law_cell_at" = some (.ref g3))
    (G4 : FnOk P w K mg base CX0 5 g4 d4 ["_law_text"] (spLTold K)) (b4 : Binds K d4 ["_law_text"] []) (k4 : PySem.W.keepIn K (.ref g4) = true) (m4 : mg "_law_told" = some (.ref g4))
    (G5 : FnOk P w K mg base CX0 1 g5 d5 [] spToldW) (b5 : Binds K d5 [] []) (k5 : PySem.W.keepIn K (.ref g5) = true) (m5 : mg "_law_told_words" = some (.ref g5))
    (G6 : FnOk P w K mg base CX0 1 g6 d6 ["word"] spTold) (b6 : Binds K d6 ["word"] []) (k6 : PySem.W.keepIn K (.ref g6) = true) (m6 : mg "is_told" = some (.ref g6))
    (G7 : FnOk P w K mg base CX0 2 g7 d7 ["word"] spName) (b7 : Binds K d7 ["word"] []) (k7 : PySem.W.keepIn K (.ref g7) = true) (m7 : mg "is_name" = some (.ref g7))
    (G8 : FnOk P w K mg base CX0 1 g8 d8 ["_law_row"] spLRow) (b8 : Binds K d8 ["_law_row"] []) (k8 : PySem.W.keepIn K (.ref g8) = true) (m8 : mg "_law_is_row" = some (.ref g8)) :
    FnOk P w K mg base CX0 7 f fd ["_law_script"] (spLaw K) := by
  refine F.ok scLaw (fun vs H Q E h => ?_) (fun cdv A outer s H vs Q E hr h => ?_)
  · obtain ⟨x, ns, rfl, _⟩ := h
    rfl
  obtain ⟨a, ns, rfl, sq, q⟩ := h
  have hr1 : Room 1 _ := hr.mono (by decide)
  have hr2 : Room 2 _ := hr.mono (by decide)
  have hr3 : Room 3 _ := hr.mono (by decide)
  have hr5 : Room 5 _ := hr.mono (by decide)
  refine ⟨_, pss_cons (ps_asg (pe_call G1 hr3 rfl m1 k1 b1 .nil pass0 (pa_cons (pv 0) pa_nil)) (pg_tup rfl (pgs_cons (pg_name (i := 1) scLaw.nd rfl (Or.inl rfl)) (pgs_cons (pg_name (i := 2) scLaw.nd rfl (Or.inl rfl)) pgs_nil))))
    (pss_cons (ps_if (PW.pt (pw_or (pt_not (pt_val (pe_call G2 hr rfl m2 k2 b2 .nil pass0 (pa_cons (pv 1) pa_nil)))) (pw_or1 (pt_not (pt_val (pe_call G2 hr rfl m2 k2 b2 .nil pass0 (pa_cons (pv 1) pa_nil))))))) (pss_one (ps_ret pe_bl)) pss_nil)
    (pss_cons (PS.imp (t' := tKeep K) (ps_if (pt_cmpR op_eq (pe_op op_mod (pe_call G3 hr1 rfl m3 k3 b3 .nil pass0 (pa_cons (pv 0) (pa_cons pe_int pa_nil))) pe_int) pe_int (nomark _))
      (pss_cons (ps_set (i := 3) scLaw.nd rfl (Or.inl rfl) (pe_op op_add_str (pe_op op_add_str (pe_op op_mul_str pe_str pe_int) pe_str) (pe_op op_mul_str pe_str (pe_op op_mod (pe_op op_fdiv (pe_call G3 hr1 rfl m3 k3 b3 .nil pass0 (pa_cons (pv 0) (pa_cons pe_int pa_nil))) pe_int) pe_int))))
      (pss_cons (ps_set (i := 4) scLaw.nd rfl (Or.inl rfl) (pe_call G4 hr5 rfl m4 k4 b4 .nil pass0 (pa_cons (pv 3) pa_nil)))
      (pss_one (ps_if (pt_cmpR (op_neD hr.units) (pe_lst (pa_cons (pe_cmpR (op_eqD hr.units) (pv 4) (pe_op op_cat (pe_op op_rep (pe_lst (pa_cons pe_str pa_nil)) pe_int) (pe_lst (pa_cons pe_str pa_nil))) (nomark _)) (pa_cons (pe_cmpR (op_eqD hr.units) (pv 4) (pe_tup (pa_cons pe_int pa_nil)) (nomark _)) pa_nil)))
        (pe_lst (pa_cons (pe_cmpR op_lt (pe_callB call_len_str rfl T.len PySem.boot_len (pa_cons (pv 3) pa_nil)) pe_int (nomark _)) (pa_cons (pe_cmpR op_gt (pe_callB call_len_str rfl T.len PySem.boot_len (pa_cons (pv 3) pa_nil)) pe_int (nomark _)) pa_nil))) (nomark _)) (pss_one (ps_ret pe_bl)) pss_nil)))) pss_nil) (by
        rintro D σ H ⟨a, ns, v1, v2, o, rfl, ho, sq, k⟩
        obtain ⟨o3, o4, o5, o6, o7, o8, o9, o10, rfl⟩ := eight ho
        refine ⟨_, rfl, a, ns, 0, rfl, sq, _, _, rfl, rfl, (show (0 : Int) < 4 by decide), rfl, _, rfl, ?_⟩
        by_cases e0 : V.int (ns.getD 0 0 % 4) = V.int 0
        · rw [decide_eq_true e0]
          have lk0 : 0 ≤ ns.getD 0 0 / 4 % 3 := Int.emod_nonneg _ (by decide)
          have lk1 : ns.getD 0 0 / 4 % 3 < 3 := Int.emod_lt_of_pos _ (by decide)
          obtain ⟨n, en⟩ : ∃ n : Nat, (n : Int) = ns.getD 0 0 / 4 % 3 := ⟨(ns.getD 0 0 / 4 % 3).toNat, by omega⟩
          have la : (Txt.mul "a " 2999).length = 5998 := by rw [mul_len]; decide
          have z1 : (" " : Str).length = 1 := by decide
          have zb : ("b" : Str).length = 1 := by decide
          have lb : (Txt.mul " " (ns.getD 0 0 / 4 % 3)).length ≤ 2 := by rw [mul_len, z1]; omega
          refine iteT ⟨_, _, rfl, rfl, by decide, by decide, by decide, _, _, rfl, rfl, by rw [la]; decide, _, rfl, a, ns, 0, rfl, sq, _, _, rfl, rfl, ⟨by decide, by decide⟩, _, _, rfl, rfl, (show (0 : Int) < 3 by decide), _, _, rfl, rfl, by omega, by omega, ?_, _, _, rfl, rfl, ?_, ?_⟩
          · show 1 * _ ≤ sizeLine
            rw [sizeLine_eq]; omega
          · show (Txt.mul "a " 2999 ++ "b").length + (Txt.mul " " (ns.getD 0 0 / 4 % 3)).length ≤ _
            rw [app_len, la, zb, sizeLine_eq]; omega
          · refine ⟨_, rfl, told_longX (E := E0) (n := n) (x := Txt.mul "a " 2999 ++ "b" ++ Txt.mul " " (ns.getD 0 0 / 4 % 3)) (by rw [← en]; rfl) (by omega) fun H1 fq d s1 hrd sd h1 h2 => long_test ?_ hrd sd h1 h2 fun H' s' => k [_, _, _, _, _, _, _, _] H' rfl (s1.trans s')⟩
            rw [app_len, app_len, la, zb]; omega
        · rw [decide_eq_false e0]
          exact iteF (k _ H rfl (Same.refl H))))
    (pss_cons (ps_set (i := 5) scLaw.nd rfl (Or.inl rfl) (pe_op op_mul_str pe_str (pe_op op_add pe_int (pe_op op_mod (pe_op op_fdiv (pe_call G3 hr1 rfl m3 k3 b3 .nil pass0 (pa_cons (pv 0) (pa_cons pe_int pa_nil))) pe_int) pe_int))))
    (pss_cons (PS.imp (t' := tFigX K) (ps_if (PW.pt (pw_and (pt_cmpR op_eq (pe_op op_mod (pe_call G3 hr1 rfl m3 k3 b3 .nil pass0 (pa_cons (pv 0) (pa_cons pe_int pa_nil))) pe_int) pe_int (nomark _)) (pw_and1 (pt_cmpR (op_neD hr.units) (pe_call G4 hr5 rfl m4 k4 b4 .nil pass0 (pa_cons (pe_op op_add_str pe_str (pv 5)) pa_nil)) (pe_tup (pa_cons pe_int pa_nil)) (nomark _))))) (pss_one (ps_ret pe_bl)) pss_nil) (by
        rintro D σ H ⟨a, ns, v1, v2, o3, o4, o6, o7, o8, o9, o10, n, y, rfl, ey, n1, n2, sq, k⟩
        refine ⟨_, rfl, a, ns, 0, rfl, sq, _, _, rfl, rfl, (show (0 : Int) < 4 by decide), rfl, _, rfl, ?_⟩
        by_cases e0 : V.int (ns.getD 0 0 % 4) = V.int 1
        · rw [decide_eq_true e0]
          have z7 : ("7" : Str).length = 1 := by decide
          have za : ("a " : Str).length = 2 := by decide
          have ly : y.length = n := by rw [ey, mul_len, z7]; omega
          refine iteT ⟨_, rfl, _, _, rfl, rfl, by rw [za, ly, sizeLine_eq]; omega, ?_⟩
          subst ey
          exact told_fig (E := E0) n1 n2 fun H1 fq s1 hq => ⟨(show 1 ≤ sizeLine by decide), fun c hc => tup_ne hq hc ⟨_, rfl, iteF (k [_, _, _, _, _, _, _, _] _ rfl (s1.trans (same_new hc _)))⟩⟩
        · rw [decide_eq_false e0]
          exact iteF (iteF (k [_, _, _, _, _, _, _, _] H rfl (Same.refl H)))))
    (pss_cons (PS.imp (t' := tKeep K) (ps_if (PW.pt (pw_or (pt_cmpR (op_neD hr.units) (pe_call G4 hr5 rfl m4 k4 b4 .nil pass0 (pa_cons (pe_ix ix_list (pe_lst (pa_cons pe_non (pa_cons pe_int (pa_cons (pe_lst (pa_cons pe_str pa_nil)) (pa_cons pe_bl (pa_cons (pe_tup (pa_cons pe_str pa_nil)) pa_nil)))))) (pe_op op_mod (pe_call G3 hr1 rfl m3 k3 b3 .nil pass0 (pa_cons (pv 0) (pa_cons pe_int pa_nil))) pe_int) (fun _ _ => rfl)) pa_nil)) (pe_tup (pa_cons pe_int pa_nil)) (nomark _))
        (pw_or1 (pt_cmpR (op_neD hr.units) (pe_call G4 hr5 rfl m4 k4 b4 .nil pass0 (pa_cons pe_str pa_nil)) (pe_lst pa_nil) (nomark _))))) (pss_one (ps_ret pe_bl)) pss_nil) (by
        rintro D σ H ⟨a, ns, v1, v2, o, rfl, ho, sq, k⟩
        refine ⟨(show 1 ≤ sizeLine by decide), fun l hl => ⟨(show 1 ≤ sizeLine by decide), fun t ht => ⟨(show 5 ≤ sizeLine by decide), fun p hp => ?_⟩⟩⟩
        have h1 := same_new (o := .lst [.str "a"]) hl
        have h2 := same_new (o := .tup [.str "a"]) ht
        have h3 := same_new (o := .lst [.non, .int 5, .ref l, .bl true, .ref t]) hp
        obtain ⟨v, ev, hsp⟩ := fiveX (K := K) (h3 _ _ (h2 _ _ upd_same)) (h3 _ _ upd_same) (Int.emod_nonneg (ns.getD 0 0) (show (5 : Int) ≠ 0 by decide)) (Int.emod_lt_of_pos (ns.getD 0 0) (by decide))
        refine ⟨_, rfl, a, ns, 0, rfl, ((h1.trans h2).trans h3).seq sq, _, _, rfl, rfl, (show (0 : Int) < 5 by decide), p, _, _, v, rfl, rfl, SqL.of upd_same, ev, hsp _ E0 fun H1 fq s1 hq => ⟨(show 1 ≤ sizeLine by decide), fun c hc => tup_ne hq hc ⟨_, rfl, iteF (told_empty (E := E0) fun H2 q2 s2 hq2 => ⟨by decide, fun c2 hc2 => nil_ne hq2 hc2 ⟨_, rfl, iteF (k _ _ ho ?_)⟩⟩)⟩⟩⟩
        exact ((((((h1.trans h2).trans h3).trans s1).trans (same_new hc _)).trans s2).trans (same_new hc2 _))))
    (pss_cons (ps_set (i := 6) scLaw.nd rfl (Or.inl rfl) (pe_call0 G5 hr1 rfl m5 k5 b5 .nil pass0))
    (pss_cons (PS.imp (t' := tOddX) (ps_for PassesOwn.never rfl (pi_list (pe_lst (pa_cons pe_str (pa_cons pe_str (pa_cons pe_str (pa_cons pe_str (pa_cons pe_str (pa_cons pe_str (pa_cons pe_str (pa_cons pe_str pa_nil)))))))))) (pg_name (i := 7) scLaw.nd rfl (Or.inl rfl))
        (pss_one (ps_if (PW.pt (pw_or (pt_cmpR op_isnotB (pe_call G6 hr1 rfl m6 k6 b6 .nil pass0 (pa_cons (pv 7) pa_nil)) pe_bl (nomark _)) (pw_or1 (pt_cmpR op_isnotB (pe_call G7 hr2 rfl m7 k7 b7 .nil pass0 (pa_cons (pv 7) pa_nil)) pe_bl (nomark _))))) (pss_one (ps_ret pe_bl)) pss_nil))) (by
        rintro D σ H ⟨hσ, k⟩
        refine ⟨(show 8 ≤ sizeLine by decide), fun p hp => ⟨p, rfl, ⟨_, SqL.of upd_same⟩, for_list (K := K) (a := p) (xs := odd8.map V.str) (fun i σ' H' => ((i = 0 ∧ σ' = σ) ∨ ∃ v, σ' = σ.set 7 v) ∧ Same (upd H p (.lst (odd8.map V.str))) H') ⟨.inl ⟨rfl, rfl⟩, Same.refl _⟩ (fun i σ' H' _ z => SqL.of (z.2 _ _ upd_same)) ?_ ?_⟩⟩
        · rintro i y σ' H' hy ⟨hσ', s1⟩
          obtain ⟨x, hx, rfl⟩ : ∃ x, x ∈ odd8 ∧ y = V.str x := by
            obtain ⟨x, hx, e⟩ := List.mem_map.mp (List.mem_of_getElem? hy)
            exact ⟨x, hx, e.symm⟩
          have hno := List.all_eq_true.mp odd_no x hx
          rw [Bool.and_eq_true, Bool.and_eq_true] at hno
          have t0 : told.contains x = false := by simpa using hno.1.1
          have t1 : (isNm (cds x) && !told.contains x) = false := by
            have := hno.1.2
            cases q : (isNm (cds x) && !told.contains x) with
            | false => rfl
            | true => rw [q] at this; cases this
          have hl := of_decide_eq_true hno.2
          have eσ : σ'.set 7 (some (V.str x)) = σ.set 7 (some (V.str x)) := by
            rcases hσ' with ⟨_, rfl⟩ | ⟨v, rfl⟩
            · rfl
            · rw [List.set_set]
          show tIfS _ _ _ _ (σ'.set 7 (some (V.str x))) H'
          rw [eσ]
          have g7 : (σ.set 7 (some (V.str x)))[7]? = some (some (V.str x)) := List.getElem?_set_self (by omega)
          refine ⟨_, g7, x, rfl, _, _, rfl, rfl, _, rfl, ?_⟩
          rw [t0]
          refine iteF ⟨_, g7, x, rfl, by rw [sizeLine_eq]; omega, fun H1 s2 => ⟨_, _, rfl, rfl, _, rfl, ?_⟩⟩
          rw [t1]
          exact iteF ⟨.inr ⟨_, rfl⟩, s1.trans s2⟩
        · rintro σ' H' ⟨hσ', s1⟩
          rcases hσ' with ⟨e, _⟩ | ⟨v, rfl⟩
          · cases e
          · exact k v H' ((same_new hp _).trans s1)))
    (pss_cons (ps_for PassesOwn.never rfl (pi_list (pe_op op_cat (pv 2) (pv 6))) (pg_name (i := 7) scLaw.nd rfl (Or.inl rfl))
        (pss_cons (ps_set (i := 8) scLaw.nd rfl (Or.inl rfl) (pe_lst (pa_cons (pe_call G6 hr1 rfl m6 k6 b6 .nil pass0 (pa_cons (pv 7) pa_nil)) (pa_cons (pe_call G7 hr2 rfl m7 k7 b7 .nil pass0 (pa_cons (pv 7) pa_nil)) pa_nil))))
        (pss_cons (ps_set (i := 9) scLaw.nd rfl (Or.inl rfl) (pe_ifExp (pt_val (pe_bm0 PySem.F.plainAttrs_str PySem.F.slot_str_isalnum PySem.F.type_str_isalnum mt_isalnum (pv 7))) (pe_call G8 hr1 rfl m8 k8 b8 .nil pass0 (pa_cons (pv 7) pa_nil)) pe_bl))
        (pss_cons (ps_set (i := 10) scLaw.nd rfl (Or.inl rfl) (pe_lst (pa_cons (pe_cmpR op_in_seq (pv 7) (pv 6) (by with_unfolding_all rfl)) (pa_cons (pe_and (pv 9) (pe_and (pe_cmpR op_notin_str (pe_ix ix_str (pv 7) pe_int (fun _ _ => rfl)) pe_str (by with_unfolding_all rfl)) (pe_one (pe_cmpR op_notIn_seq (pv 7) (pv 6) (by with_unfolding_all rfl))))) pa_nil))))
        (pss_one (ps_if (PW.pt (pw_or (pt_cmpR (op_neD hr.units) (pv 8) (pv 10) (nomark _)) (pw_or1 (pt_not (pt_val (pe_callB (call_all rfl) rfl T.all PyProof.Rows.boot_all (pa_cons (pe_comp0 rfl (BlockOk.plain (N := ["_law_one"]) rfl (by decide +kernel) (by decide +kernel) (by decide +kernel)) (pi_list (pv 8))
            (fun C fp s H => pg_name (i := 0) (show (["_law_one"] : List Str).Nodup by decide +kernel) rfl (Or.inl rfl)) (fun C fp s H => pe_callB (r := rIsi K) call_isi rfl isi PyProof.Rows.boot_isinstance (pa_cons (pv 0) (pa_cons (pe_bltn (v := .ty "bool") rfl Bl.bool PyProof.Rows.boot_bool rfl) pa_nil)))) pa_nil))))))) (pss_one (ps_ret pe_bl)) pss_nil))))))
    (pss_one (ps_ret pe_bl)))))))))), ?_⟩
  refine ⟨_, rfl, a, ns, rfl, sq, fun x ps H1 t p hx hxl hps hpl s1 hp hd ht => ?_⟩
  refine ⟨t, _, rfl, SqT.of ht, rfl, _, _, rfl, _, _, rfl, rfl, ?_⟩
  refine ⟨_, rfl, x, rfl, hx, hxl, fun H2 s2 => ⟨_, rfl, iteF ⟨_, rfl, x, rfl, hx, hxl, fun H3 s3 => ⟨_, rfl, iteF ?_⟩⟩⟩⟩
  have s13 := (s1.trans s2).trans s3
  refine ⟨a, ns, .str x, .ref p, _, rfl, rfl, s13.seq sq, fun o' H4 ho s4 => ?_⟩
  obtain ⟨o3, o4, o5, o6, o7, o8, o9, o10, rfl⟩ := eight ho
  have s14 := s13.trans s4
  have lk0 : 0 ≤ ns.getD 0 0 / 4 % 300 := Int.emod_nonneg _ (by decide)
  have lk1 : ns.getD 0 0 / 4 % 300 < 300 := Int.emod_lt_of_pos _ (by decide)
  obtain ⟨n, en⟩ : ∃ n : Nat, (n : Int) = 4300 + ns.getD 0 0 / 4 % 300 := ⟨(4300 + ns.getD 0 0 / 4 % 300).toNat, by omega⟩
  refine ⟨_, rfl, a, ns, 0, rfl, s14.seq sq, _, _, rfl, rfl, ⟨by decide, by decide⟩, _, _, rfl, rfl, (show (0 : Int) < 300 by decide), _, _, rfl, rfl, _, _, rfl, rfl, by omega, by omega, ?_, ?_⟩
  · show 1 * (4300 + ns.getD 0 0 / 4 % 300).toNat ≤ sizeLine
    rw [sizeLine_eq]; omega
  refine ⟨a, ns, .str x, .ref p, o3, o4, o6, o7, o8, o9, o10, n, Txt.mul "7" (4300 + ns.getD 0 0 / 4 % 300), rfl, by rw [en], by omega, by omega, s14.seq sq, fun o'' H5 ho'' s5 => ?_⟩
  have s15 := s14.trans s5
  refine ⟨a, ns, .str x, .ref p, o'', rfl, ho'', s15.seq sq, fun o3' H6 ho3 s6 => ?_⟩
  obtain ⟨u3, u4, u5, u6, u7, u8, u9, u10, rfl⟩ := eight ho3
  refine ⟨rfl, fun p6 hp6 => ⟨rfl, fun v7 H8 s8 => ?_⟩⟩
  have hd6 : H8 p6 = some (.lst (told.map V.str)) := s8 _ _ upd_same
  have hd8 : H8 p = some (.lst (ps.map V.str)) := s8 _ _ (same_new hp6 _ _ _ (s6 _ _ (s5 _ _ (s4 _ _ (s3 _ _ (s2 _ _ hd))))))
  refine ⟨_, rfl, _, rfl, p, p6, _, _, rfl, rfl, hd8, hd6, ?_, fun pl hpl' => ⟨pl, rfl, ⟨_, SqL.of upd_same⟩, ?_⟩⟩
  · rw [List.length_map, List.length_map, sizeLine_eq]
    show ps.length + 19 ≤ _
    omega
  have low : ∀ y ∈ ps ++ told, lowS y ∧ y.length ≤ 20 := fun y hy => by
    rcases List.mem_append.mp hy with h | h
    · exact hps y h
    · have := List.all_eq_true.mp low_told y h
      rw [Bool.and_eq_true] at this
      exact ⟨low_of this.1, of_decide_eq_true this.2⟩
  refine for_list (K := K) (a := pl) (xs := ps.map V.str ++ told.map V.str) (fun i σ' H' => (∃ w7 w8 w9 w10, σ' = [some (.ref a), some (.str x), some (.ref p), u3, u4, u5, some (.ref p6), w7, w8, w9, w10]) ∧ Same (upd H8 pl (.lst (ps.map V.str ++ told.map V.str))) H') ⟨⟨_, _, _, _, rfl⟩, Same.refl _⟩ (fun i σ' H' _ z => SqL.of (z.2 _ _ upd_same)) ?_ (fun σ' H' _ => q H')
  rintro i y σ' H' hy ⟨⟨w7, w8, w9, w10, rfl⟩, s9⟩
  obtain ⟨z, hz, rfl⟩ : ∃ z, z ∈ ps ++ told ∧ y = V.str z := by
    have := List.mem_of_getElem? hy
    rw [← List.map_append] at this
    obtain ⟨z, hz, e⟩ := List.mem_map.mp this
    exact ⟨z, hz, e.symm⟩
  obtain ⟨zl, zn⟩ := low z hz
  have zs : z.length ≤ sizeLine := by rw [sizeLine_eq]; omega
  have h6 : H' p6 = some (.lst (told.map V.str)) := s9 _ _ (same_new hpl' _ _ _ hd6)
  refine ⟨_, rfl, z, rfl, _, rfl, z, rfl, zs, fun H10 s10 => ⟨(show 2 ≤ sizeLine by decide), fun c1 hc1 => ?_⟩⟩
  have t1 := same_new (o := .lst [.bl (told.contains z), .bl (NmB z)]) hc1
  refine ⟨_, rfl, rfl, _, rfl, rfl, _, rfl, ?_⟩
  cases hal : Txt.isalnum z with
  | true =>
    refine iteT ⟨_, rfl, z, rfl, ?_, zl, zs, fun H11 s11 => ?_⟩
    · intro e
      rw [isalnum_all zl, e] at hal
      cases hal
    · skip
      dsimp only [gName, tSeq, tAsg]
      refine due_read (K := K) (σ := [some (.ref a), some (.str x), some (.ref p), u3, u4, u5, some (.ref p6), some (.str z), some (.ref c1), some (.bl (lawRow (cds z))), w10]) (g := lawRow (cds z)) rfl rfl rfl (s11 _ _ (t1 _ _ (s10 _ _ h6))) zl zs (by simp [hal]) fun c2 hc2 => ?_
      have t2 := same_new (o := .lst [.bl (told.contains z), .bl (NmB z)]) hc2
      have hc1' : upd H11 c2 (.lst [.bl (told.contains z), .bl (NmB z)]) c1 = some (.lst [.bl (told.contains z), .bl (NmB z)]) := t2 _ _ (s11 _ _ upd_same)
      refine ⟨_, rfl, _, rfl, .list [.bool (told.contains z), .bool (NmB z)], .list [.bool (told.contains z), .bool (NmB z)], .lst (SqL.of hc1') (.cons (.bl _) (.cons (.bl _) .nil)), .lst (SqL.of upd_same) (.cons (.bl _) (.cons (.bl _) .nil)), bools_shaped _ _, bools_shaped _ _, _, rfl, ?_⟩
      rw [show PyData.eqv (.list [.bool (told.contains z), .bool (NmB z)]) (.list [.bool (told.contains z), .bool (NmB z)]) = true by simp [PyData.eqv, PyData.eqvAll]]
      refine iteF (all_isi (K := K) (σ := [some (.ref a), some (.str x), some (.ref p), u3, u4, u5, some (.ref p6), some (.str z), some (.ref c1), some (.bl (lawRow (cds z))), some (.ref c2)]) hc1' rfl fun H12 s12 => iteF ⟨⟨_, _, _, _, rfl⟩, ((((s9.trans s10).trans t1).trans s11).trans t2).trans s12⟩)
  | false =>
    refine iteF (tC_i ?_)
    · skip
      dsimp only [gName, tSeq, tAsg]
      refine due_read (K := K) (σ := [some (.ref a), some (.str x), some (.ref p), u3, u4, u5, some (.ref p6), some (.str z), some (.ref c1), some (.bl false), w10]) (g := false) rfl rfl rfl (t1 _ _ (s10 _ _ h6)) zl zs (by simp [hal]) fun c2 hc2 => ?_
      have t2 := same_new (o := .lst [.bl (told.contains z), .bl (NmB z)]) hc2
      have hc1' : upd (upd H10 c1 (.lst [.bl (told.contains z), .bl (NmB z)])) c2 (.lst [.bl (told.contains z), .bl (NmB z)]) c1 = some (.lst [.bl (told.contains z), .bl (NmB z)]) := t2 _ _ upd_same
      refine ⟨_, rfl, _, rfl, .list [.bool (told.contains z), .bool (NmB z)], .list [.bool (told.contains z), .bool (NmB z)], .lst (SqL.of hc1') (.cons (.bl _) (.cons (.bl _) .nil)), .lst (SqL.of upd_same) (.cons (.bl _) (.cons (.bl _) .nil)), bools_shaped _ _, bools_shaped _ _, _, rfl, ?_⟩
      rw [show PyData.eqv (.list [.bool (told.contains z), .bool (NmB z)]) (.list [.bool (told.contains z), .bool (NmB z)]) = true by simp [PyData.eqv, PyData.eqvAll]]
      refine iteF (all_isi (K := K) (σ := [some (.ref a), some (.str x), some (.ref p), u3, u4, u5, some (.ref p6), some (.str z), some (.ref c1), some (.bl false), some (.ref c2)]) hc1' rfl fun H12 s12 => iteF ⟨⟨_, _, _, _, rfl⟩, (((s9.trans s10).trans t1).trans t2).trans s12⟩)
end
end K10

end

section
set_option Elab.async false
set_option linter.all false
set_option maxRecDepth 100000
set_option maxHeartbeats 4000000
namespace K10
open PySem L2
seal L2.PE L2.PA L2.PT L2.PS L2.PSs L2.PG L2.PGs L2.PI L2.PW
theorem all_mk {l : PySem.W.OpenLaw} {w : World} {K : PySem.W.Frag} {h : Heap} {mg : Str → Option Value} {fa : Addr} {f0 f1 f2 f3 f4 f5 f6 f7 f8 f9 f10 f11 f12 f13 f14 f15 f16 f17 fI Hc B aF aN aK aI tw : Addr} {od0 an0 od1 an1 od2 an2 od3 an3 od4 an4 od5 an5 od6 an6 od7 an7 od8 an8 od9 an9 od10 an10 od11 an11 od12 an12 od13 an13 od14 an14 od15 an15 od16 an16 od17 an17 od18 an18 : Option Addr} {sl0 sl1 sl2 sl3 sl4 sl5 sl6 sl7 sl8 sl9 sl10 sl11 sl12 sl13 sl14 sl15 sl16 sl17 sl18 : Array (Option Value)} {oc0 kV0 dc0 pm0 cd0 ct0 oc1 kV1 dc1 pm1 cd1 ct1 oc2 kV2 dc2 pm2 cd2 ct2 oc3 kV3 dc3 pm3 cd3 ct3 oc4 kV4 dc4 pm4 cd4 ct4 oc5 kV5 dc5 pm5 cd5 ct5 oc6 kV6 dc6 pm6 cd6 ct6 oc7 kV7 dc7 pm7 cd7 ct7 oc8 kV8 dc8 pm8 cd8 ct8 oc9 kV9 dc9 pm9 cd9 ct9 oc10 kV10 dc10 pm10 cd10 ct10 oc11 kV11 dc11 pm11 cd11 ct11 oc12 kV12 dc12 pm12 cd12 ct12 oc13 kV13 dc13 pm13 cd13 ct13 oc14 kV14 dc14 pm14 cd14 ct14 oc15 kV15 dc15 pm15 cd15 ct15 oc16 kV16 dc16 pm16 cd16 ct16 oc17 kV17 dc17 pm17 cd17 ct17 oc18 kV18 dc18 pm18 cd18 ct18 : Value} {t_figures t_small t_great t_gaps t_signs t_longText t_longNumber t_longName : Tok} {two : Obj} (X : K.In h) (G : h.Ns mainGlobals mg) (hfa : mg "law" = some (.ref fa))
    (a0 : PySem.W.nsIn K mainGlobals "is_told" = some (some (.ref f0)))
    (l0 : K.lookup f0 = some ⟨oc0, od0, .func (PySem.W.fnOf "is_told" "is_told" (defArgs sTold) (defBody sTold) (defScope sTold) .none kV0 dc0 pm0 an0 cd0 ct0), sl0⟩)
    (c0 : PySem.W.codeIn K cd0 "is_told" = true)
    (k0 : PySem.W.keepIn K (.ref f0) = true)
    (a1 : PySem.W.nsIn K mainGlobals "is_name" = some (some (.ref f1)))
    (l1 : K.lookup f1 = some ⟨oc1, od1, .func (PySem.W.fnOf "is_name" "is_name" (defArgs sName) (defBody sName) (defScope sName) .none kV1 dc1 pm1 an1 cd1 ct1), sl1⟩)
    (c1 : PySem.W.codeIn K cd1 "is_name" = true)
    (k1 : PySem.W.keepIn K (.ref f1) = true)
    (a2 : PySem.W.nsIn K mainGlobals "words" = some (some (.ref f2)))
    (l2 : K.lookup f2 = some ⟨oc2, od2, .func (PySem.W.fnOf "words" "words" (defArgs sWords) (defBody sWords) (defScope sWords) .none kV2 dc2 pm2 an2 cd2 ct2), sl2⟩)
    (c2 : PySem.W.codeIn K cd2 "words" = true)
    (k2 : PySem.W.keepIn K (.ref f2) = true)
    (a3 : PySem.W.nsIn K mainGlobals "word_at" = some (some (.ref f3)))
    (l3 : K.lookup f3 = some ⟨oc3, od3, .func (PySem.W.fnOf "word_at" "word_at" (defArgs sWordAt) (defBody sWordAt) (defScope sWordAt) .none kV3 dc3 pm3 an3 cd3 ct3), sl3⟩)
    (c3 : PySem.W.codeIn K cd3 "word_at" = true)
    (k3 : PySem.W.keepIn K (.ref f3) = true)
    (a4 : PySem.W.nsIn K mainGlobals "row_at" = some (some (.ref f4)))
    (l4 : K.lookup f4 = some ⟨oc4, od4, .func (PySem.W.fnOf "row_at" "row_at" (defArgs sRowAt) (defBody sRowAt) (defScope sRowAt) .none kV4 dc4 pm4 an4 cd4 ct4), sl4⟩)
    (c4 : PySem.W.codeIn K cd4 "row_at" = true)
    (k4 : PySem.W.keepIn K (.ref f4) = true)
    (a5 : PySem.W.nsIn K mainGlobals "is_row_sign" = some (some (.ref f5)))
    (l5 : K.lookup f5 = some ⟨oc5, od5, .func (PySem.W.fnOf "is_row_sign" "is_row_sign" (defArgs sRowSign) (defBody sRowSign) (defScope sRowSign) .none kV5 dc5 pm5 an5 cd5 ct5), sl5⟩)
    (c5 : PySem.W.codeIn K cd5 "is_row_sign" = true)
    (k5 : PySem.W.keepIn K (.ref f5) = true)
    (a6 : PySem.W.nsIn K mainGlobals "is_number" = some (some (.ref f6)))
    (l6 : K.lookup f6 = some ⟨oc6, od6, .func (PySem.W.fnOf "is_number" "is_number" (defArgs sNumber) (defBody sNumber) (defScope sNumber) .none kV6 dc6 pm6 an6 cd6 ct6), sl6⟩)
    (c6 : PySem.W.codeIn K cd6 "is_number" = true)
    (k6 : PySem.W.keepIn K (.ref f6) = true)
    (a7 : PySem.W.nsIn K mainGlobals "is_name_row" = some (some (.ref f7)))
    (l7 : K.lookup f7 = some ⟨oc7, od7, .func (PySem.W.fnOf "is_name_row" "is_name_row" (defArgs sNameRow) (defBody sNameRow) (defScope sNameRow) .none kV7 dc7 pm7 an7 cd7 ct7), sl7⟩)
    (c7 : PySem.W.codeIn K cd7 "is_name_row" = true)
    (k7 : PySem.W.keepIn K (.ref f7) = true)
    (a8 : PySem.W.nsIn K mainGlobals "_law_cell_at" = some (some (.ref f8)))
    (l8 : K.lookup f8 = some ⟨oc8, od8, .func (PySem.W.fnOf "_law_cell_at" "_law_cell_at" (defArgs sCell) (defBody sCell) (defScope sCell) .none kV8 dc8 pm8 an8 cd8 ct8), sl8⟩)
    (c8 : PySem.W.codeIn K cd8 "_law_cell_at" = true)
    (k8 : PySem.W.keepIn K (.ref f8) = true)
    (a9 : PySem.W.nsIn K mainGlobals "_law_mixed" = some (some (.ref f9)))
    (l9 : K.lookup f9 = some ⟨oc9, od9, .func (PySem.W.fnOf "_law_mixed" "_law_mixed" (defArgs sMixed) (defBody sMixed) (defScope sMixed) .none kV9 dc9 pm9 an9 cd9 ct9), sl9⟩)
    (c9 : PySem.W.codeIn K cd9 "_law_mixed" = true)
    (k9 : PySem.W.keepIn K (.ref f9) = true)
    (a10 : PySem.W.nsIn K mainGlobals "_law_told_words" = some (some (.ref f10)))
    (l10 : K.lookup f10 = some ⟨oc10, od10, .func (PySem.W.fnOf "_law_told_words" "_law_told_words" (defArgs sToldW) (defBody sToldW) (defScope sToldW) .none kV10 dc10 pm10 an10 cd10 ct10), sl10⟩)
    (c10 : PySem.W.codeIn K cd10 "_law_told_words" = true)
    (k10 : PySem.W.keepIn K (.ref f10) = true)
    (a11 : PySem.W.nsIn K mainGlobals "_law_piece" = some (some (.ref f11)))
    (l11 : K.lookup f11 = some ⟨oc11, od11, .func (PySem.W.fnOf "_law_piece" "_law_piece" (defArgs sPiece) (defBody sPiece) (defScope sPiece) .none kV11 dc11 pm11 an11 cd11 ct11), sl11⟩)
    (c11 : PySem.W.codeIn K cd11 "_law_piece" = true)
    (k11 : PySem.W.keepIn K (.ref f11) = true)
    (a12 : PySem.W.nsIn K mainGlobals "_law_built" = some (some (.ref f12)))
    (l12 : K.lookup f12 = some ⟨oc12, od12, .func (PySem.W.fnOf "_law_built" "_law_built" (defArgs sBuilt) (defBody sBuilt) (defScope sBuilt) .none kV12 dc12 pm12 an12 cd12 ct12), sl12⟩)
    (c12 : PySem.W.codeIn K cd12 "_law_built" = true)
    (k12 : PySem.W.keepIn K (.ref f12) = true)
    (a13 : PySem.W.nsIn K mainGlobals "_law_is_row" = some (some (.ref f13)))
    (l13 : K.lookup f13 = some ⟨oc13, od13, .func (PySem.W.fnOf "_law_is_row" "_law_is_row" (defArgs sIsRow) (defBody sIsRow) (defScope sIsRow) .none kV13 dc13 pm13 an13 cd13 ct13), sl13⟩)
    (c13 : PySem.W.codeIn K cd13 "_law_is_row" = true)
    (k13 : PySem.W.keepIn K (.ref f13) = true)
    (a14 : PySem.W.nsIn K mainGlobals "_law_cut" = some (some (.ref f14)))
    (l14 : K.lookup f14 = some ⟨oc14, od14, .func (PySem.W.fnOf "_law_cut" "_law_cut" (defArgs sCut) (defBody sCut) (defScope sCut) .none kV14 dc14 pm14 an14 cd14 ct14), sl14⟩)
    (c14 : PySem.W.codeIn K cd14 "_law_cut" = true)
    (k14 : PySem.W.keepIn K (.ref f14) = true)
    (a15 : PySem.W.nsIn K mainGlobals "_law_told" = some (some (.ref f15)))
    (l15 : K.lookup f15 = some ⟨oc15, od15, .func (PySem.W.fnOf "_law_told" "_law_told" (defArgs sLTold) (defBody sLTold) (defScope sLTold) .none kV15 dc15 pm15 an15 cd15 ct15), sl15⟩)
    (c15 : PySem.W.codeIn K cd15 "_law_told" = true)
    (k15 : PySem.W.keepIn K (.ref f15) = true)
    (a16 : PySem.W.nsIn K mainGlobals "_law_good" = some (some (.ref f16)))
    (l16 : K.lookup f16 = some ⟨oc16, od16, .func (PySem.W.fnOf "_law_good" "_law_good" (defArgs sGood) (defBody sGood) (defScope sGood) .none kV16 dc16 pm16 an16 cd16 ct16), sl16⟩)
    (c16 : PySem.W.codeIn K cd16 "_law_good" = true)
    (k16 : PySem.W.keepIn K (.ref f16) = true)
    (a17 : PySem.W.nsIn K mainGlobals "law" = some (some (.ref f17)))
    (l17 : K.lookup f17 = some ⟨oc17, od17, .func (PySem.W.fnOf "law" "law" (defArgs sLaw) (defBody sLaw) (defScope sLaw) .none kV17 dc17 pm17 an17 cd17 ct17), sl17⟩)
    (c17 : PySem.W.codeIn K cd17 "law" = true)
    (k17 : PySem.W.keepIn K (.ref f17) = true)
    (aH : PySem.W.nsIn K mainGlobals "HouseError" = some (some (.ref Hc)))
    (aB : PySem.W.nsIn K mainGlobals "BadWords" = some (some (.ref B)))
    (aFo : PySem.W.nsIn K mainGlobals "BadForm" = some (some (.ref aF)))
    (aNa : PySem.W.nsIn K mainGlobals "BadName" = some (some (.ref aN)))
    (aKi : PySem.W.nsIn K mainGlobals "BadKind" = some (some (.ref aK)))
    (aIn : PySem.W.nsIn K mainGlobals "BadInput" = some (some (.ref aI)))
    (fI0 : PySem.W.findIn K (.ref B) "__init__" = some (some (.ref fI)))
    (l18 : K.lookup fI = some ⟨oc18, od18, .func (PySem.W.fnOf "__init__" "BadWords.__init__" (defArgs sInit) (defBody sInit) (defScope sInit) .none kV18 dc18 pm18 an18 cd18 ct18), sl18⟩)
    (c18 : PySem.W.codeIn K cd18 "BadWords.__init__" = true)
    (k18 : PySem.W.keepIn K (.ref fI) = true)
    (iI : PySem.W.isFn K (.ref fI) = true)
    (x_figures : PySem.W.nsIn K mainGlobals "FIGURES" = some (some (.str "0123456789" t_figures)))
    (x_small : PySem.W.nsIn K mainGlobals "SMALL_LETTERS" = some (some (.str "abcdefghijklmnopqrstuvwxyz" t_small)))
    (x_great : PySem.W.nsIn K mainGlobals "GREAT_LETTERS" = some (some (.str "ABCDEFGHIJKLMNOPQRSTUVWXYZ" t_great)))
    (x_gaps : PySem.W.nsIn K mainGlobals "GAPS" = some (some (.str " \t\n" t_gaps)))
    (x_signs : PySem.W.nsIn K mainGlobals "SIGNS" = some (some (.str "(){},.;=+-*/<" t_signs)))
    (x_longText : PySem.W.nsIn K mainGlobals "LONGEST_TEXT" = some (some (.int 6000 t_longText)))
    (x_longNumber : PySem.W.nsIn K mainGlobals "LONGEST_NUMBER" = some (some (.int 9 t_longNumber)))
    (x_longName : PySem.W.nsIn K mainGlobals "LONGEST_NAME" = some (some (.int 8 t_longName)))
    (aT : PySem.W.nsIn K mainGlobals "TOLD_WORDS" = some (some (.ref tw)))
    (lT : K.lookup tw = some two)
    (vT : (∃ (its : Array Value) (n : Nat), two.cls = .type "tuple" ∧ two.data = .seq its n ∧ its.size ≤ sizeLine ∧ Vals (told.map V.str) its.toList))
    (z_len : PySem.W.nsIn K mainGlobals "len" = some none)
    (z_all : PySem.W.nsIn K mainGlobals "all" = some none)
    (z_isinstance : PySem.W.nsIn K mainGlobals "isinstance" = some none)
    (z_str : PySem.W.nsIn K mainGlobals "str" = some none)
    (z_range : PySem.W.nsIn K mainGlobals "range" = some none)
    (z_int : PySem.W.nsIn K mainGlobals "int" = some none)
    (z_enumerate : PySem.W.nsIn K mainGlobals "enumerate" = some none)
    (z_list : PySem.W.nsIn K mainGlobals "list" = some none)
    (z_tuple : PySem.W.nsIn K mainGlobals "tuple" = some none)
    (z_bool : PySem.W.nsIn K mainGlobals "bool" = some none)
    (z_ValueError : PySem.W.nsIn K mainGlobals "ValueError" = some none)
    (s1 : PySem.W.specialIn K (.ref Hc) "__getattribute__" = some (some (.builtin "type.__getattribute__")))
    (s2 : PySem.W.readsIn K Hc (.type "type") = true)
    (s3 : PySem.W.findCls K (.ref Hc) (.type "type") "__init__" = some (.val (.builtin "ValueError.__init__")))
    (xH : xIn K Hc none = true)
    (xB : xIn K B (some fI) = true)
    (q1 : PySem.W.findIn K (.ref B) "__setattr__" = some (some (.builtin "object.__setattr__")))
    (q2 : PySem.W.valueOver K B = true)
    (q3 : PySem.W.hasDictIn K B = true)
    (q4 : PySem.W.findIn K (.ref B) "__getattribute__" = some (some (.builtin "BaseException.__getattribute__")))
    (q5 : PySem.W.findIn K (.ref B) "__getattr__" = some none)
    (q6 : PySem.W.mroIn K B (.type "BaseException") = some true)
    (q7 : PySem.W.findIn K (.ref B) "__class__" = some (some (.builtin "object.__class__")))
    (q8 : PySem.W.specialIn K (.builtin "object.__class__") "__get__" = some (some (.builtin "getset_descriptor.__get__")))
    (q9 : PySem.W.takesIn K (.builtin "object.__class__") = some true)
    (q10 : PySem.W.mroIn K B (.type "object") = some true)
    (no : PySem.W.findIn K (.ref B) "at" = some none)
    (kB : PySem.W.keepIn K (.ref B) = true)
    (sub : PySem.W.mroIn K B (.ref Hc) = some true)
    (kF : PySem.W.kitOne K (.ref B) (.ref aF) = some false)
    (kN : PySem.W.kitOne K (.ref B) (.ref aN) = some false)
    (kK : PySem.W.kitOne K (.ref B) (.ref aK) = some false)
    (kI : PySem.W.kitOne K (.ref B) (.ref aI) = some false)
    (kV : PySem.W.kitOne K (.ref B) (.type "ValueError") = some true)
    : ∃ fd : FuncData, (∀ (s : Shared) (v : Value), BindsTo s fd ⟨[v], []⟩ [("_law_script", v)]) ∧ ∀ base : Heap, K.In base → base.Ns mainGlobals mg → FnOk l.prog w K mg base CX0 7 fa fd ["_law_script"] (spLaw K) := by
  have e := hfa.symm.trans (PySem.W.mg_of X G a17)
  cases e
  obtain ⟨its, nT, w1, w2, w3, w4⟩ := vT
  have T : Txt K mg := ⟨⟨_, PySem.W.mg_of X G x_figures⟩, ⟨_, PySem.W.mg_of X G x_small⟩, ⟨_, PySem.W.mg_of X G x_great⟩, ⟨_, PySem.W.mg_of X G x_gaps⟩, ⟨_, PySem.W.mg_of X G x_signs⟩, ⟨_, PySem.W.mg_of X G x_longText⟩, ⟨_, PySem.W.mg_of X G x_longNumber⟩, ⟨_, PySem.W.mg_of X G x_longName⟩, ⟨tw, PySem.W.mg_of X G aT, fun H => .inr ⟨two, its, nT, lT, w1, w2, w3, w4⟩⟩, PySem.W.mg_none_of X G z_len, PySem.W.mg_none_of X G z_all⟩
  have Bl : Blt mg := ⟨PySem.W.mg_none_of X G z_range, PySem.W.mg_none_of X G z_int, PySem.W.mg_none_of X G z_str, PySem.W.mg_none_of X G z_enumerate, PySem.W.mg_none_of X G z_list, PySem.W.mg_none_of X G z_tuple, PySem.W.mg_none_of X G z_bool⟩
  have D : Bad K mg Hc B fI := ⟨PySem.W.mg_of X G aH, PySem.W.mg_of X G aB, ⟨s1, s2, s3⟩, xH, xB, ⟨q1, q2, q3, q4, q5, q6, q7, q8, q9, q10⟩, no, kB, iI, sub, PySem.W.mg_none_of X G z_isinstance, PySem.W.mg_none_of X G z_str⟩
  have O : Oth K mg B := ⟨⟨_, PySem.W.mg_of X G aFo, kF⟩, ⟨_, PySem.W.mg_of X G aNa, kN⟩, ⟨_, PySem.W.mg_of X G aKi, kK⟩, ⟨_, PySem.W.mg_of X G aIn, kI⟩, ⟨PySem.W.mg_none_of X G z_ValueError, kV⟩⟩
  have F0 := fun_mk (st := sTold) l0 c0 k0
  have b0 := F0.binds (ps := ["word"]) fun _ _ _ _ _ _ us hl => match us, hl with | [_], _ => rfl
  have m0 := PySem.W.mg_of X G a0
  have F1 := fun_mk (st := sName) l1 c1 k1
  have b1 := F1.binds (ps := ["word"]) fun _ _ _ _ _ _ us hl => match us, hl with | [_], _ => rfl
  have m1 := PySem.W.mg_of X G a1
  have F2 := fun_mk (st := sWords) l2 c2 k2
  have b2 := F2.binds (ps := ["text"]) fun _ _ _ _ _ _ us hl => match us, hl with | [_], _ => rfl
  have m2 := PySem.W.mg_of X G a2
  have F3 := fun_mk (st := sWordAt) l3 c3 k3
  have b3 := F3.binds (ps := ["text", "at"]) fun _ _ _ _ _ _ us hl => match us, hl with | [_, _], _ => rfl
  have m3 := PySem.W.mg_of X G a3
  have F4 := fun_mk (st := sRowAt) l4 c4 k4
  have b4 := F4.binds (ps := ["text", "at"]) fun _ _ _ _ _ _ us hl => match us, hl with | [_, _], _ => rfl
  have m4 := PySem.W.mg_of X G a4
  have F5 := fun_mk (st := sRowSign) l5 c5 k5
  have b5 := F5.binds (ps := ["sign"]) fun _ _ _ _ _ _ us hl => match us, hl with | [_], _ => rfl
  have m5 := PySem.W.mg_of X G a5
  have F6 := fun_mk (st := sNumber) l6 c6 k6
  have b6 := F6.binds (ps := ["word"]) fun _ _ _ _ _ _ us hl => match us, hl with | [_], _ => rfl
  have m6 := PySem.W.mg_of X G a6
  have F7 := fun_mk (st := sNameRow) l7 c7 k7
  have b7 := F7.binds (ps := ["word"]) fun _ _ _ _ _ _ us hl => match us, hl with | [_], _ => rfl
  have m7 := PySem.W.mg_of X G a7
  have F8 := fun_mk (st := sCell) l8 c8 k8
  have b8 := F8.binds (ps := ["_law_script", "_law_k"]) fun _ _ _ _ _ _ us hl => match us, hl with | [_, _], _ => rfl
  have m8 := PySem.W.mg_of X G a8
  have F9 := fun_mk (st := sMixed) l9 c9 k9
  have b9 := F9.binds (ps := ["_law_cell", "_law_k"]) fun _ _ _ _ _ _ us hl => match us, hl with | [_, _], _ => rfl
  have m9 := PySem.W.mg_of X G a9
  have F10 := fun_mk (st := sToldW) l10 c10 k10
  have b10 := F10.binds (ps := []) fun _ _ _ _ _ _ us hl => match us, hl with | [], _ => rfl
  have m10 := PySem.W.mg_of X G a10
  have F11 := fun_mk (st := sPiece) l11 c11 k11
  have b11 := F11.binds (ps := ["_law_cell"]) fun _ _ _ _ _ _ us hl => match us, hl with | [_], _ => rfl
  have m11 := PySem.W.mg_of X G a11
  have F12 := fun_mk (st := sBuilt) l12 c12 k12
  have b12 := F12.binds (ps := ["_law_script"]) fun _ _ _ _ _ _ us hl => match us, hl with | [_], _ => rfl
  have m12 := PySem.W.mg_of X G a12
  have F13 := fun_mk (st := sIsRow) l13 c13 k13
  have b13 := F13.binds (ps := ["_law_row"]) fun _ _ _ _ _ _ us hl => match us, hl with | [_], _ => rfl
  have m13 := PySem.W.mg_of X G a13
  have F14 := fun_mk (st := sCut) l14 c14 k14
  have b14 := F14.binds (ps := ["_law_text"]) fun _ _ _ _ _ _ us hl => match us, hl with | [_], _ => rfl
  have m14 := PySem.W.mg_of X G a14
  have F15 := fun_mk (st := sLTold) l15 c15 k15
  have b15 := F15.binds (ps := ["_law_text"]) fun _ _ _ _ _ _ us hl => match us, hl with | [_], _ => rfl
  have m15 := PySem.W.mg_of X G a15
  have F16 := fun_mk (st := sGood) l16 c16 k16
  have b16 := F16.binds (ps := ["_law_text"]) fun _ _ _ _ _ _ us hl => match us, hl with | [_], _ => rfl
  have m16 := PySem.W.mg_of X G a16
  have F17 := fun_mk (st := sLaw) l17 c17 k17
  have b17 := F17.binds (ps := ["_law_script"]) fun _ _ _ _ _ _ us hl => match us, hl with | [_], _ => rfl
  have m17 := PySem.W.mg_of X G a17
  have F18 := fun_mk (st := sInit) l18 c18 k18
  have b18 := F18.binds (ps := ["self", "at"]) fun _ _ _ _ _ _ us hl => match us, hl with | [_, _], _ => rfl
  refine ⟨PySem.W.fnOf "law" "law" (defArgs sLaw) (defBody sLaw) (defScope sLaw) .none kV17 dc17 pm17 an17 cd17 ct17, fun s v => .of_eq rfl, fun base _ _ => ?_⟩
  have GI := ok_init (P := l.prog) (w := w) (base := base) F18 D
  have G5 := ok_row_sign (P := l.prog) (w := w) (mg := mg) (base := base) F5 T
  have G0 := ok_told (P := l.prog) (w := w) (mg := mg) (base := base) F0 T
  have G6 := ok_number (P := l.prog) (w := w) (mg := mg) (base := base) F6 T
  have G7 := ok_name_row (P := l.prog) (w := w) (mg := mg) (base := base) F7 T
  have G1 := ok_name F1 G7 b7 k7 m7 G0 b0 k0 m0
  have G4 := ok_row_at F4 T G5 b5 k5 m5
  have G3 := ok_word_at F3 T D GI b18 G4 b4 k4 m4 G6 b6 k6 m6 G7 b7 k7 m7
  have G2 := ok_words F2 T D GI b18 G3 b3 k3 m3
  have G8 := ok_cell (P := l.prog) (w := w) (mg := mg) (base := base) F8 T
  have G9 := ok_mixed (P := l.prog) (w := w) (mg := mg) (base := base) F9
  have G10 := ok_toldW (P := l.prog) (w := w) (mg := mg) (base := base) F10
  have G11 := ok_piece F11 Bl G10 b10 k10 m10
  have G12 := ok_built F12 T Bl G8 b8 k8 m8 G9 b9 k9 m9 G11 b11 k11 m11
  have G13 := ok_lrow (P := l.prog) (w := w) (mg := mg) (base := base) F13 T
  have G14 := ok_cut F14 T Bl G13 b13 k13 m13
  have G15 := ok_ltold F15 D O G2 b2 k2 m2
  have G16 := ok_good F16 Bl D.isi G14 b14 k14 m14 G15 b15 k15 m15
  exact ok_law F17 T Bl D.isi G12 b12 k12 m12 G16 b16 k16 m16 G8 b8 k8 m8 G15 b15 k15 m15 G10 b10 k10 m10 G0 b0 k0 m0 G1 b1 k1 m1 G13 b13 k13 m13
theorem walk {l : PySem.W.OpenLaw} {q : Program} {loose : List Str} {XP : (Str → Option Value) → Heap → Prop} {YP : World → Heap → Prop} {d : DefRec} {K : Params → PySem.W.Frag} (hn : l.most = some 63) (hdf : d.params.defaults = [])
    (hY : ∀ (w : World) (h : Heap), YP w h → (K w.params).In h)
    (F : ∀ (w : World) (mg : Str → Option Value) (fa : Addr) (h : Heap), (K w.params).In h → h.Ns mainGlobals mg → mg d.name = some (.ref fa) →
      ∃ fd : FuncData, (∀ (s : Shared) (u : Value), BindsTo s fd ⟨[u], []⟩ [("_law_script", u)]) ∧ ∀ base : Heap, (K w.params).In base → base.Ns mainGlobals mg → FnOk l.prog w (K w.params) mg base CX0 7 fa fd ["_law_script"] (spLaw (K w.params))) :
    PySem.W.WalkO q loose XP YP l.row.toRowW d [] (fun f vs => PySem.call f vs) :=
  L2.walk_of (n := 63) (k := 7) (x := "_law_script") (CX := fun _ => CX0) (sp := fun w => spLaw (K w.params)) hn (by decide) hdf ⟨rfl, by decide, by decide, rfl⟩ hY F (fun _ _ a ns hl _ hS => ⟨a, ns, rfl, hS, fun _ => rfl⟩) fun _ _ _ _ _ z => z
end K10

end
open PySem PySem.W PyProof.Rows
set_option maxRecDepth 100000 in
set_option maxHeartbeats 0 in
theorem PySem.Challenge.cw_elderhouse_k10_words_holds : PySem.Challenge.rw_elderhouse_k10_words.Holds := by
  w_on; o_law; k_head; (case hw => w_witness2)
  k_fill
  refine K10.walk (l := PySem.Challenge.rw_elderhouse_k10_words) rfl rfl (fun w h Y => PySem.W.kIn_of Y) ?F
  case F =>
    intro w mg fa h KX G hmg
    refine' K10.all_mk KX G hmg ?a0 ?l0 ?c0 ?k0 ?a1 ?l1 ?c1 ?k1 ?a2 ?l2 ?c2 ?k2 ?a3 ?l3 ?c3 ?k3 ?a4 ?l4 ?c4 ?k4 ?a5 ?l5 ?c5 ?k5 ?a6 ?l6 ?c6 ?k6 ?a7 ?l7 ?c7 ?k7 ?a8 ?l8 ?c8 ?k8 ?a9 ?l9 ?c9 ?k9 ?a10 ?l10 ?c10 ?k10 ?a11 ?l11 ?c11 ?k11 ?a12 ?l12 ?c12 ?k12 ?a13 ?l13 ?c13 ?k13 ?a14 ?l14 ?c14 ?k14 ?a15 ?l15 ?c15 ?k15 ?a16 ?l16 ?c16 ?k16 ?a17 ?l17 ?c17 ?k17 ?aH ?aB ?aFo ?aNa ?aKi ?aIn ?fI0 ?l18 ?c18 ?k18 ?iI ?x_figures ?x_small ?x_great ?x_gaps ?x_signs ?x_longText ?x_longNumber ?x_longName ?aT ?lT ?vT ?z_len ?z_all ?z_isinstance ?z_str ?z_range ?z_int ?z_enumerate ?z_list ?z_tuple ?z_bool ?z_ValueError ?s1 ?s2 ?s3 ?xH ?xB ?q1 ?q2 ?q3 ?q4 ?q5 ?q6 ?q7 ?q8 ?q9 ?q10 ?no ?kB ?sub ?kF ?kN ?kK ?kI ?kV
    (case a0 => k_is)
    (case l0 => k_is)
    (case c0 => k_is)
    (case k0 => k_is)
    (case a1 => k_is)
    (case l1 => k_is)
    (case c1 => k_is)
    (case k1 => k_is)
    (case a2 => k_is)
    (case l2 => k_is)
    (case c2 => k_is)
    (case k2 => k_is)
    (case a3 => k_is)
    (case l3 => k_is)
    (case c3 => k_is)
    (case k3 => k_is)
    (case a4 => k_is)
    (case l4 => k_is)
    (case c4 => k_is)
    (case k4 => k_is)
    (case a5 => k_is)
    (case l5 => k_is)
    (case c5 => k_is)
    (case k5 => k_is)
    (case a6 => k_is)
    (case l6 => k_is)
    (case c6 => k_is)
    (case k6 => k_is)
    (case a7 => k_is)
    (case l7 => k_is)
    (case c7 => k_is)
    (case k7 => k_is)
    (case a8 => k_is)
    (case l8 => k_is)
    (case c8 => k_is)
    (case k8 => k_is)
    (case a9 => k_is)
    (case l9 => k_is)
    (case c9 => k_is)
    (case k9 => k_is)
    (case a10 => k_is)
    (case l10 => k_is)
    (case c10 => k_is)
    (case k10 => k_is)
    (case a11 => k_is)
    (case l11 => k_is)
    (case c11 => k_is)
    (case k11 => k_is)
    (case a12 => k_is)
    (case l12 => k_is)
    (case c12 => k_is)
    (case k12 => k_is)
    (case a13 => k_is)
    (case l13 => k_is)
    (case c13 => k_is)
    (case k13 => k_is)
    (case a14 => k_is)
    (case l14 => k_is)
    (case c14 => k_is)
    (case k14 => k_is)
    (case a15 => k_is)
    (case l15 => k_is)
    (case c15 => k_is)
    (case k15 => k_is)
    (case a16 => k_is)
    (case l16 => k_is)
    (case c16 => k_is)
    (case k16 => k_is)
    (case a17 => k_is)
    (case l17 => k_is)
    (case c17 => k_is)
    (case k17 => k_is)
    (case aH => k_is)
    (case aB => k_is)
    (case aFo => k_is)
    (case aNa => k_is)
    (case aKi => k_is)
    (case aIn => k_is)
    (case fI0 => k_is)
    (case l18 => k_is)
    (case c18 => k_is)
    (case k18 => k_is)
    (case iI => k_is)
    (case x_figures => k_is)
    (case x_small => k_is)
    (case x_great => k_is)
    (case x_gaps => k_is)
    (case x_signs => k_is)
    (case x_longText => k_is)
    (case x_longNumber => k_is)
    (case x_longName => k_is)
    (case aT => k_is)
    (case lT => k_is)
    (case vT => exact ⟨_, _, rfl, rfl, by decide, by repeat' (first | exact .nil | refine .cons ⟨_, rfl⟩ ?_)⟩)
    (case z_len => k_is)
    (case z_all => k_is)
    (case z_isinstance => k_is)
    (case z_str => k_is)
    (case z_range => k_is)
    (case z_int => k_is)
    (case z_enumerate => k_is)
    (case z_list => k_is)
    (case z_tuple => k_is)
    (case z_bool => k_is)
    (case z_ValueError => k_is)
    (case s1 => k_is)
    (case s2 => k_is)
    (case s3 => k_is)
    (case xH => kernel_rfl)
    (case xB => kernel_rfl)
    (case q1 => k_is)
    (case q2 => kernel_rfl)
    (case q3 => k_is)
    (case q4 => k_is)
    (case q5 => k_is)
    (case q6 => k_is)
    (case q7 => k_is)
    (case q8 => k_is)
    (case q9 => k_is)
    (case q10 => k_is)
    (case no => k_is)
    (case kB => k_is)
    (case sub => k_is)
    (case kF => kernel_rfl)
    (case kN => kernel_rfl)
    (case kK => kernel_rfl)
    (case kI => kernel_rfl)
    (case kV => kernel_rfl)
