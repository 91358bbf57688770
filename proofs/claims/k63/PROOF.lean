import PyProof.Rows.All
import Wide.All
import OpenK.AllK
import Wide.FinOn
import OpenK.KMore
import OpenK.KMake
import OpenK.KDescr
import OpenK.KOwn
import KE.KIsAll
import KE.KItem
import KE.KxBytes
import PyProof.EqAt
import PyProof.EqKinds
import PyProof.TupleCall
import KE.KDictOf
import PyProof.CompUse
import PyProof.ReprRoads
import PyProof.ReprLen
import PyProof.CallFns
import PyProof.ListMulRoad
import PyProof.FactsAll.tuple
import PyProof.Rows.SeqMore
import PyProof.SumWalkG
import Lean
import PySem.Challenge.RW_elderhouse_k63_whole_remembered_or_not
set_option Elab.async false
set_option linter.all false
section
set_option Elab.async false
set_option linter.all false
set_option maxRecDepth 100000
namespace L2
open PySem PySem.Spec PyProof.Rows
abbrev Key := Sum Int Str
def keyIs : Key → Value → Bool
  | .inl k, v => Value.isInt k v
  | .inr x, v => Value.isStrOf x v
def keyH (w : World) : Key → Int
  | .inl k => hashInt k
  | .inr x => hashStr w x
theorem keyIs_shape : ∀ {k : Key} {v : Value}, keyIs k v = true → (∃ i t, k = Sum.inl i ∧ v = Value.int i t) ∨ (∃ x t, k = Sum.inr x ∧ v = Value.str x t)
  | .inl i, v, h => by
    obtain ⟨t, e⟩ := Value.isInt_shape (k := i) (v := v) h
    exact .inl ⟨i, t, rfl, e⟩
  | .inr x, v, h => by
    obtain ⟨t, e⟩ := Value.isStrOf_shape (x := x) (v := v) h
    exact .inr ⟨x, t, rfl, e⟩
theorem keyIs_int (i : Int) (t : Tok) : keyIs (.inl i) (.int i t) = true := by simp [keyIs, Value.isInt]
theorem keyIs_str (x : Str) (t : Tok) : keyIs (.inr x) (.str x t) = true := by simp [keyIs, Value.isStrOf]
theorem key_ll (a b : Int) : decide ((Sum.inl a : Key) = Sum.inl b) = (a == b) := by
  by_cases e : a = b
  · subst e; simp
  · have h : ¬ (Sum.inl a : Key) = Sum.inl b := fun q => e (Sum.inl.inj q)
    rw [decide_eq_false h]
    exact (beq_eq_false_iff_ne.mpr e).symm
theorem key_rr (a b : Str) : decide ((Sum.inr a : Key) = Sum.inr b) = decide (a = b) := by
  by_cases e : a = b
  · subst e; simp
  · have h : ¬ (Sum.inr a : Key) = Sum.inr b := fun q => e (Sum.inr.inj q)
    rw [decide_eq_false h, decide_eq_false e]
theorem key_lr (a : Int) (b : Str) : decide ((Sum.inl a : Key) = Sum.inr b) = false := decide_eq_false (fun q => nomatch q)
theorem key_rl (a : Str) (b : Int) : decide ((Sum.inr a : Key) = Sum.inl b) = false := decide_eq_false (fun q => nomatch q)
def mixKind (prog : Program) (w : World) : PySem.KeyKind prog w Key where
  is := keyIs
  hash := keyH w
  inj := fun v a b ha hb => by
    rcases keyIs_shape ha with ⟨i, t, rfl, rfl⟩ | ⟨x, t, rfl, rfl⟩
    · rcases keyIs_shape hb with ⟨j, u, rfl, e⟩ | ⟨y, u, rfl, e⟩
      · injection e with e1 _; rw [e1]
      · exact nomatch e
    · rcases keyIs_shape hb with ⟨j, u, rfl, e⟩ | ⟨y, u, rfl, e⟩
      · exact nomatch e
      · injection e with e1 _; rw [e1]
  byValue := fun k v h => by
    rcases keyIs_shape h with ⟨i, t, rfl, rfl⟩ | ⟨x, t, rfl, rfl⟩ <;> rfl
  pyHash := fun hv h => by
    rcases keyIs_shape hv with ⟨i, t, rfl, rfl⟩ | ⟨x, t, rfl, rfl⟩
    · exact wpAny_pyHash_int h
    · exact wpAny_pyHash_str h
  eqBool := fun hu hv h => by
    rcases keyIs_shape hu with ⟨i, t, rfl, rfl⟩ | ⟨x, t, rfl, rfl⟩
    · rcases keyIs_shape hv with ⟨j, u, rfl, rfl⟩ | ⟨y, u, rfl, rfl⟩
      · rw [key_ll] at h; exact wpAny_eqBool_int h
      · rw [key_lr] at h; exact SeqAt.EqAt.int_str i t y u _ _ _ _ h
    · rcases keyIs_shape hv with ⟨j, u, rfl, rfl⟩ | ⟨y, u, rfl, rfl⟩
      · rw [key_rl] at h; exact SeqAt.EqAt.str_int x t j u _ _ _ _ h
      · rw [key_rr] at h; exact wpAny_eqBool_str h
  «strs» := fun k x t v h => by
    rcases keyIs_shape h with ⟨i, u, rfl, e⟩ | ⟨y, u, rfl, e⟩
    · exact nomatch e
    · injection e with e1 _
      subst e1
      cases v <;> rfl
theorem mixKind_int (prog : Program) (w : World) (i : Int) (t : Tok) : (mixKind prog w).is (.inl i) (.int i t) = true := keyIs_int i t
theorem mixKind_str (prog : Program) (w : World) (x : Str) (t : Tok) : (mixKind prog w).is (.inr x) (.str x t) = true := keyIs_str x t
end L2
namespace L2
open PySem PySem.Spec PyProof.Rows
inductive V where
  | non | bl (b : Bool) | int (i : Int) | str (x : Str) | byt (b : Array UInt8) | flt (b : UInt64) | ref (a : Addr) | ty (n : String)
  deriving DecidableEq
def RelV : V → Value → Prop
  | .non, u => u = Value.none
  | .bl b, u => u = Value.bool b
  | .int i, u => ∃ t, u = Value.int i t
  | .str x, u => ∃ t, u = Value.str x t
  | .byt b, u => ∃ t, u = Value.bytes b t
  | .flt b, u => ∃ t, u = Value.float b t
  | .ref a, u => u = Value.ref a
  | .ty n, u => u = Value.type n
abbrev Vals : List V → List Value → Prop := Paired RelV
theorem Vals.length {xs : List V} {us : List Value} (r : Vals xs us) : xs.length = us.length := Paired.length r
theorem Vals.get : ∀ {xs : List V} {us : List Value} {i : Nat} {x : V}, Vals xs us → xs[i]? = some x → ∃ u, us[i]? = some u ∧ RelV x u
  | _, _, _, _, .nil, e => by simp at e
  | _, _, 0, _, .cons r _, e => by simp at e; subst e; exact ⟨_, rfl, r⟩
  | _, _, i + 1, x, .cons _ t, e => by
    obtain ⟨u, h1, h2⟩ := Vals.get (i := i) (x := x) t (by simpa using e)
    exact ⟨u, by simpa using h1, h2⟩
theorem Vals.set {x : V} {u : Value} (r : RelV x u) : ∀ {xs : List V} {us : List Value} (i : Nat), Vals xs us → Vals (xs.set i x) (us.set i u)
  | _, _, _, .nil => .nil
  | _, _, 0, .cons _ t => .cons r t
  | _, _, i + 1, .cons q t => .cons q (Vals.set r i t)
theorem Vals.append : ∀ {xs ys : List V} {us ws : List Value}, Vals xs us → Vals ys ws → Vals (xs ++ ys) (us ++ ws)
  | _, _, _, _, .nil, s => s
  | _, _, _, _, .cons r t, s => .cons r (Vals.append t s)
theorem Vals.take : ∀ {xs : List V} {us : List Value} (n : Nat), Vals xs us → Vals (xs.take n) (us.take n)
  | _, _, 0, _ => .nil
  | _, _, _ + 1, .nil => .nil
  | _, _, n + 1, .cons r t => .cons r (Vals.take n t)
theorem Vals.drop : ∀ {xs : List V} {us : List Value} (n : Nat), Vals xs us → Vals (xs.drop n) (us.drop n)
  | _, _, 0, r => r
  | _, _, _ + 1, .nil => .nil
  | _, _, n + 1, .cons _ t => Vals.drop n t
def RelO : Option V → Option Value → Prop
  | some v, some u => RelV v u
  | none, none => True
  | _, _ => False
def KV {κ : Type} : List (κ × V) → List (κ × Value) → Prop := Paired fun (p : κ × V) (q : κ × Value) => p.1 = q.1 ∧ RelV p.2 q.2
def kV : Key → V
  | .inl i => .int i
  | .inr x => .str x
inductive HO where
  | lst (xs : List V)
  | tup (xs : List V)
  | dK (kvs : List (Key × V)) | dT (kvs : List (List Key × V))
  | set (S : Int → Bool) (n : Nat)
  | ins (C dx : Addr) (fs : List (Str × V))
  | own (x : Addr)
  | xd (fs : List (Str × V))
  | met (f x : Addr)
  | rng (lo hi : Int)
  | frz (o : Obj) (u : HO)
  | tbl (ps : Array Value)
  | ext (φ : Heap → Prop)
abbrev Hp := Addr → Option HO
def upd (H : Hp) (a : Addr) (o : HO) : Hp := fun b => if b = a then some o else H b
theorem upd_same {H : Hp} {a : Addr} {o : HO} : upd H a o a = some o := by unfold upd; rw [if_pos rfl]
theorem upd_ne {H : Hp} {a b : Addr} {o : HO} (h : b ≠ a) : upd H a o b = H b := by unfold upd; rw [if_neg h]
theorem upd_upd {H : Hp} {a : Addr} {o u : HO} : upd (upd H a o) a u = upd H a u := by
  funext b; unfold upd; split <;> rfl
theorem ne_of {H : Hp} {a b : Addr} {o u : HO} (h : H a = some o) (h' : H b = some u) (d : o ≠ u) : a ≠ b := by
  intro e; subst e; rw [h] at h'; exact d (Option.some.inj h')
theorem ne_of_none {H : Hp} {a b : Addr} {o : HO} (h : H a = some o) (h' : H b = none) : a ≠ b := by
  intro e; subst e; rw [h] at h'; cases h'
section
variable (P : Program) (w : World)
def ObjOk (H : Hp) (h : Heap) (a : Addr) : HO → Prop
  | .lst xs => xs.length ≤ sizeLine ∧ ∃ (its : List Value) (n : Nat), Vals xs its ∧ h.get? a = some { cls := .type "list", data := .seq its.toArray n }
  | .tup xs => xs.length ≤ sizeLine ∧ ∃ its : List Value, Vals xs its ∧ IsTup h a its.toArray
  | .dK kvs => kvs.length ≤ sizeLine ∧ (a == sysModules) = false ∧ ∃ vs, KV kvs vs ∧ h.DictOf (mixKind P w) a vs
  | .dT kvs => kvs.length ≤ sizeLine ∧ (a == sysModules) = false ∧ ∃ xs : List (List Key × Addr × Value),
      Paired (fun (p : List Key × V) (q : List Key × Addr × Value) => p.1 = q.1 ∧ H q.2.1 = some (.tup (p.1.map kV)) ∧ RelV p.2 q.2.2) kvs xs ∧
      ∃ o es ep, h.get? a = some o ∧ o.ExactDict ∧ o.data = .dict es ep ∧ es.toList = xs.map (entryOfKey (tupleKind (mixKind P w))) ∧ (xs.map (·.1)).Nodup
  | .set S n => h.SetOf (intKind P w) a S n
  | .ins C dx fs => H dx = some (.own a) ∧ fs.length ≤ 1000 ∧ dx ≠ a ∧ h.get? a = some (PySem.W.instObj C dx) ∧
      ∃ mA, h.Ns1 dx mA ∧ (∀ f, RelO (fs.lookup f) (mA f)) ∧ PySem.Within mA (fs.map (·.1))
  | .own _ => ∃ o, h.get? a = some o
  | .xd fs => ∃ mA, h.Ns1 a mA ∧ ∀ f, RelO (fs.lookup f) (mA f)
  | .rng lo hi => ∃ t u v, h.get? a = some { cls := .type "range", data := .fields #[.int lo t, .int hi u, .int 1 v] }
  | .frz o u => h.get? a = some o ∧ ObjOk H h a u
  | .tbl ps => h.get? a = some { cls := .none, data := .fields ps }
  | .met f x => h.get? a = some (PySem.W.methodObj (.ref f) (.ref x))
  | .ext φ => φ h ∧ (∃ o, h.get? a = some o) ∧ ∀ h1 h2 : Heap, φ h1 → (∀ o, h1.get? a = some o → h2.get? a = some o) → φ h2
def HOk (H : Hp) (h : Heap) : Prop := ∀ a o, H a = some o → ObjOk P w H h a o
end
section
variable {P : Program} {w : World} {H H' : Hp} {h h' : Heap} {a : Addr} {o : HO}
theorem ObjOk.lt (x : ObjOk P w H h a o) : a < h.objs.size := by
  cases o with
  | lst xs => obtain ⟨_, _, _, _, e⟩ := x; exact Heap.lt_size e
  | tup xs => obtain ⟨_, _, _, p⟩ := x; exact p.lt
  | dK kvs => obtain ⟨_, _, _, _, o, _, _, e, _⟩ := x; exact Heap.lt_size e
  | dT kvs => obtain ⟨_, _, _, _, o, _, _, e, _⟩ := x; exact Heap.lt_size e
  | set S n => obtain ⟨o, _, _, _, e, _⟩ := x; exact Heap.lt_size e
  | ins C dx fs => obtain ⟨_, _, _, e, _⟩ := x; exact Heap.lt_size e
  | own y => obtain ⟨_, e⟩ := x; exact Heap.lt_size e
  | xd fs => obtain ⟨_, ⟨_, _, _, e, _⟩, _⟩ := x; exact Heap.lt_size e
  | rng lo hi => obtain ⟨_, _, _, e⟩ := x; exact Heap.lt_size e
  | frz ob u => obtain ⟨e, _⟩ := x; exact Heap.lt_size e
  | tbl ps => exact Heap.lt_size (show h.get? a = some _ from x)
  | met f y => exact Heap.lt_size (show h.get? a = some _ from x)
  | ext φ => obtain ⟨_, ⟨_, e⟩, _⟩ := x; exact Heap.lt_size e
theorem Paired.mapP {α β : Type} {F G : α → β → Prop} : ∀ {l₁ : List α} {l₂ : List β}, Paired F l₁ l₂ → (∀ a b, F a b → G a b) → Paired G l₁ l₂
  | _, _, .nil, _ => .nil
  | _, _, .cons r t, f => .cons (f _ _ r) (Paired.mapP t f)
theorem Paired.imp' {α β : Type} {F G : α → β → Prop} (f : ∀ a b, F a b → G a b) {l₁ : List α} {l₂ : List β} (r : Paired F l₁ l₂) : Paired G l₁ l₂ := Paired.mapP r f
theorem ObjOk.stay (x : ObjOk P w H h a o) (k : ∀ b u, (b = a ∨ H b = some (.own a)) → h.get? b = some u → h'.get? b = some u)
    (ho : ∀ b, H b = some (.own a) → H' b = some (.own a)) (ht : ∀ b xs, H b = some (.tup xs) → H' b = some (.tup xs)) : ObjOk P w H' h' a o := by
  induction o with
  | lst xs => obtain ⟨z, its, n, r, e⟩ := x; exact ⟨z, its, n, r, k _ _ (.inl rfl) e⟩
  | tup xs => obtain ⟨z, its, r, ob, e, c⟩ := x; exact ⟨z, its, r, ob, k _ _ (.inl rfl) e, c⟩
  | dK kvs => obtain ⟨z, y, vs, r, ob, es, ep, e, c⟩ := x; exact ⟨z, y, vs, r, ob, es, ep, k _ _ (.inl rfl) e, c⟩
  | dT kvs =>
    obtain ⟨z, y, xs, r, ob, es, ep, e, c⟩ := x
    exact ⟨z, y, xs, Paired.mapP r fun p q z => ⟨z.1, ht _ _ z.2.1, z.2.2⟩, ob, es, ep, k _ _ (.inl rfl) e, c⟩
  | set S n => obtain ⟨ob, es, ep, t, e, c⟩ := x; exact ⟨ob, es, ep, t, k _ _ (.inl rfl) e, c⟩
  | ins C dx fs =>
    obtain ⟨d, z, ne, e, mA, ⟨od, es, ep, e2, c⟩, r⟩ := x
    exact ⟨ho _ d, z, ne, k _ _ (.inl rfl) e, mA, ⟨od, es, ep, k _ _ (.inr d) e2, c⟩, r⟩
  | own y => obtain ⟨ob, e⟩ := x; exact ⟨ob, k _ _ (.inl rfl) e⟩
  | xd fs => obtain ⟨mA, ⟨od, es, ep, e, c⟩, r⟩ := x; exact ⟨mA, ⟨od, es, ep, k _ _ (.inl rfl) e, c⟩, r⟩
  | rng lo hi => obtain ⟨t, u, v, e⟩ := x; exact ⟨t, u, v, k _ _ (.inl rfl) e⟩
  | frz ob u ih => obtain ⟨e, q⟩ := x; exact ⟨k _ _ (.inl rfl) e, ih q⟩
  | tbl ps =>
    have e : h.get? a = some { cls := .none, data := .fields ps } := x
    show h'.get? a = some { cls := .none, data := .fields ps }
    exact k a _ (.inl rfl) e
  | met f y =>
    have e : h.get? a = some (PySem.W.methodObj (.ref f) (.ref y)) := x
    show h'.get? a = some (PySem.W.methodObj (.ref f) (.ref y))
    exact k a _ (.inl rfl) e
  | ext φ => obtain ⟨p, ⟨o, e⟩, st⟩ := x; exact ⟨st _ _ p fun o q => k _ _ (.inl rfl) q, ⟨o, k _ _ (.inl rfl) e⟩, st⟩
theorem HOk.lt (x : HOk P w H h) (e : H a = some o) : a < h.objs.size := (x a o e).lt
theorem HOk.fresh (x : HOk P w H h) (e : h.objs.size ≤ a) : H a = none := by
  cases q : H a with
  | none => rfl
  | some u => exact absurd (Nat.lt_of_lt_of_le (x.lt q) e) (Nat.lt_irrefl _)
theorem HOk.kept (x : HOk P w H h) (k : ∀ b u, h.get? b = some u → h'.get? b = some u) : HOk P w H h' := fun a o e =>
  (x a o e).stay (fun b u _ q => k b u q) (fun _ q => q) fun _ _ q => q
theorem HOk.laid (x : HOk P w H h) (k : ∀ b u, h.get? b = some u → h'.get? b = some u) (hp : h.objs.size ≤ a) (new : ObjOk P w (upd H a o) h' a o) : HOk P w (upd H a o) h' := fun b u e => by
  have hn := x.fresh hp
  by_cases hb : b = a
  · subst hb; rw [upd_same] at e; cases e; exact new
  · rw [upd_ne hb] at e
    exact (x b u e).stay (fun c v _ q => k c v q) (fun c q => by rw [upd_ne (ne_of_none q hn)]; exact q) fun c xs q => by rw [upd_ne (ne_of_none q hn)]; exact q
end
def Rd (H : Hp) (a : Addr) (u : HO) : Prop := H a = some u ∨ ∃ o, H a = some (.frz o u)
theorem Rd.of {H : Hp} {a : Addr} {u : HO} (h : H a = some u) : Rd H a u := .inl h
theorem Rd.ok {P : Program} {w : World} {H : Hp} {h : Heap} {a : Addr} {u : HO} (r : Rd H a u) (x : HOk P w H h) : ObjOk P w H h a u := by
  rcases r with r | ⟨o, r⟩
  · exact x a u r
  · obtain ⟨_, q⟩ := x a _ r
    exact q
def Mut : Option HO → Prop
  | some (.lst _) => True
  | some (.dK _) => True
  | some (.dT _) => True
  | some (.set _ _) => True
  | some (.ins _ _ _) => True
  | some (.ext _) => True
  | _ => False
section
variable {P : Program} {w : World} {H : Hp} {h h' : Heap} {x e : Addr} {o' : HO}
theorem HOk.write (ok : HOk P w H h) (mu : Mut (H x)) (he : e = x ∨ H e = some (.own x)) (k : ∀ b u, b ≠ e → h.get? b = some u → h'.get? b = some u) (heo : ∃ u, h'.get? e = some u)
    (new : ObjOk P w (upd H x o') h' x o') : HOk P w (upd H x o') h' := fun b u q => by
  have nown : ∀ c y, H c = some (.own y) → c ≠ x := fun c y r z => by subst z; rw [r] at mu; exact mu
  have ntup : ∀ c xs, H c = some (.tup xs) → c ≠ x := fun c xs r z => by subst z; rw [r] at mu; exact mu
  by_cases hb : b = x
  · subst hb; rw [upd_same] at q; cases q; exact new
  · rw [upd_ne hb] at q
    by_cases hbe : b = e
    · have q' : H b = some (.own x) := by
        rcases he with z | z
        · exact absurd (hbe.trans z) hb
        · rw [hbe]; exact z
      rw [q] at q'; cases q'
      obtain ⟨v, hv⟩ := heo
      exact ⟨v, by rw [hbe]; exact hv⟩
    · refine (ok b u q).stay (fun c v hc r => k c v ?_ r) (fun c r => by rw [upd_ne (nown c b r)]; exact r) fun c xs r => by rw [upd_ne (ntup c xs r)]; exact r
      rcases hc with rfl | hc
      · exact hbe
      · rintro rfl
        rcases he with z | z
        · exact nown c b hc z
        · rw [hc] at z; cases z; exact hb rfl
end
structure Un (fs ex : List Addr) (H H' : Hp) (h h' : Heap) : Prop where
  keep : ∀ b o, h.get? b = some o → H b = none → b ∉ fs → b ∉ ex → h'.get? b = some o
  slot : ∀ b o, h.get? b = some o → H b = none → b ∈ fs → b ∉ ex → ∃ sl, h'.get? b = some { o with slots := sl }
  free : ∀ b o, h.get? b = some o → H b = none → b ∉ ex → H' b = none
  there : ∀ b o, h.get? b = some o → b ∉ ex → ∃ o', h'.get? b = some o'
  tups : ∀ b xs, H b = some (.tup xs) → H' b = some (.tup xs)
  frzs : ∀ b o u, H b = some (.frz o u) → H' b = some (.frz o u)
  tbls : ∀ b ps, H b = some (.tbl ps) → ∃ more, H' b = some (.tbl (ps ++ more))
section
variable {fs fs' ex ex' : List Addr} {H H1 H2 : Hp} {h h1 h2 h' : Heap} {a x e : Addr} {o : HO}
theorem Un.any (u : Un fs ex H H1 h h1) {b : Addr} {ob : Obj} (q : h.get? b = some ob) (n : H b = none) (hx : b ∉ ex) : ∃ sl, h1.get? b = some { ob with slots := sl } := by
  by_cases hb : b ∈ fs
  · exact u.slot b ob q n hb hx
  · exact ⟨ob.slots, u.keep b ob q n hb hx⟩
theorem Un.kept (k : ∀ b u, h.get? b = some u → h'.get? b = some u) : Un fs ex H H h h' :=
  ⟨fun b ob q _ _ _ => k b ob q, fun b ob q _ _ _ => ⟨ob.slots, k b ob q⟩, fun _ _ _ n _ => n, fun b ob q _ => ⟨ob, k b ob q⟩, fun _ _ q => q, fun _ _ _ q => q, fun _ ps q => ⟨#[], by rw [q]; simp⟩⟩
theorem Un.refl : Un fs ex H H h h := Un.kept fun _ _ q => q
theorem Un.laid (k : ∀ b u, h.get? b = some u → h'.get? b = some u) (hp : h.objs.size ≤ a) (hn : H a = none) : Un fs ex H (upd H a o) h h' where
  keep := fun b u q _ _ _ => k b u q
  slot := fun b u q _ _ _ => ⟨u.slots, k b u q⟩
  free := fun b u q n _ => by rw [upd_ne (Nat.ne_of_lt (Nat.lt_of_lt_of_le (Heap.lt_size q) hp))]; exact n
  there := fun b u q _ => ⟨u, k b u q⟩
  tups := fun b xs q => by rw [upd_ne (ne_of_none q hn)]; exact q
  frzs := fun b u xs q => by rw [upd_ne (ne_of_none q hn)]; exact q
  tbls := fun b ps q => ⟨#[], by rw [upd_ne (ne_of_none q hn), q]; simp⟩
theorem Un.write (mu : Mut (H x)) (he : e = x ∨ H e = some (.own x)) (k : ∀ b u, b ≠ e → h.get? b = some u → h'.get? b = some u) (heo : ∃ u, h'.get? e = some u) : Un fs ex H (upd H x o) h h' := by
  have hx : ∀ b, H b = none → b ≠ x := fun b n z => by subst z; rw [n] at mu; exact mu
  have hb : ∀ b, H b = none → b ≠ e := fun b n z => by
    subst z
    rcases he with r | r
    · exact hx b n r
    · rw [n] at r; cases r
  have hm : ∀ b u, H b = some u → ¬ Mut (some u) → b ≠ x := fun b u q nm z => by subst z; rw [q] at mu; exact nm mu
  refine ⟨fun b u q n _ _ => k b u (hb b n) q, fun b u q n _ _ => ⟨u.slots, k b u (hb b n) q⟩, fun b u q n _ => by rw [upd_ne (hx b n)]; exact n, fun b u q _ => ?_,
    fun b xs q => by rw [upd_ne (hm b _ q fun z => z)]; exact q, fun b u xs q => by rw [upd_ne (hm b _ q fun z => z)]; exact q, fun b ps q => ⟨#[], by rw [upd_ne (hm b _ q fun z => z), q]; simp⟩⟩
  by_cases hbe : b = e
  · subst hbe; exact heo
  · exact ⟨u, k b u hbe q⟩
end
def trk (h : Heap) (H : Hp) : List Addr := (List.range h.objs.size).filter fun a => (H a).isSome
def hidT (h : Heap) (H : Hp) : Heap := PySem.W.hideAll h (trk h H)
theorem hidT_size (h : Heap) (H : Hp) : (hidT h H).objs.size = h.objs.size := PySem.W.hideAll_size _ _
theorem hidT_get {h : Heap} {H : Hp} {b : Addr} {o : Obj} (e : h.get? b = some o) (n : H b = none) : (hidT h H).get? b = some o :=
  PySem.W.hideAll_get _ e fun hm => by
    have q : (H b).isSome = true := (List.mem_filter.mp hm).2
    rw [n] at q; simp at q
theorem of_hidT {h : Heap} {H : Hp} {b : Addr} {o : Obj} (e : (hidT h H).get? b = some o) : h.get? b = some o ∧ H b = none := by
  have e' : h.get? b = some o := PySem.W.of_hideAll (trk h H) e
  refine ⟨e', ?_⟩
  cases q : H b with
  | none => rfl
  | some x =>
    have hm : b ∈ trk h H := List.mem_filter.mpr ⟨List.mem_range.mpr (Heap.lt_size e'), by simp [q]⟩
    have z : (hidT h H).get? b = none := PySem.W.hideAll_none (trk h H) hm
    rw [z] at e; cases e
def allNews (g h : Heap) (L : Addr) : List (Addr × Obj) := (List.range h.objs.size).filterMap fun a => if a = L ∨ (g.get? a).isSome = true then none else (h.get? a).map fun o => (a, o)
def rest (g h : Heap) (L d : Addr) : List (Addr × Obj) := (allNews g h L).filter fun p => decide (p.1 ≠ d)
end L2
namespace L2
open PySem PySem.Spec PyProof.Rows
structure Mod (K : PySem.W.Frag) (mg : Str → Option Value) (base : Heap) : Prop where
  kin : K.In base
  glob : base.Ns mainGlobals mg
  blt : ∃ mb, base.Ns builtinsNs mb ∧ ∀ x : Str, x ≠ "__name__" → mb x = bootBuiltins x
  nolimit : base.NoLimit
structure Cx where
  prog : Program
  w : World
  K : PySem.W.Frag
  mg : Str → Option Value
  base : Heap
  A : Around
  N : List Str
  s₀ : Shared
  H₀ : Hp
  env : Env
  outer : List Env
  stack : List Env
  ex : List Addr
  fn : Str → Bool
  calm : Bool
  pn : List (Addr × Obj)
  xe : Value → Shared → Prop
def frs (l : List Env) : List Addr := l.filterMap (·.frame)
abbrev Cx.fs (X : Cx) : List Addr := frs X.outer
def Vis (sc : Scope) (x : Str) : Prop := sc.names.lookup x = some .local ∨ sc.names.lookup x = some .cell ∨ sc.names.lookup x = some .free
def Loc (sc : Scope) (x : Str) : Prop := sc.names.lookup x = some .local ∨ sc.names.lookup x = some .cell
def Look (env : Env) (h : Heap) (m : Str → Option Value) (x : Str) (u : Value) : Prop :=
  (env.kindOf x = some .local ∧ m x = some u) ∨ ((env.kindOf x = some .cell ∨ env.kindOf x = some .free) ∧ ∃ c, env.cells.lookup x = some c ∧ h.IsCell c (some u))
structure Cx.Ok (X : Cx) : Prop where
  mod : Mod X.K X.mg X.base
  kind : X.env.scope.kind = .function
  glob : X.env.globals = mainGlobals
  blt : X.env.builtins = builtinsNs
  above : X.s₀.heap.objs.size ≤ X.env.locals
  inj : ∀ x y c, X.env.cells.lookup x = some c → X.env.cells.lookup y = some c → x = y
  has : ∀ x, (X.env.kindOf x = some .cell ∨ X.env.kindOf x = some .free) → ∃ c, X.env.cells.lookup x = some c
  cab : ∀ x c, X.fn x = true → X.env.cells.lookup x = some c → X.s₀.heap.objs.size ≤ c
  hd : X.calm = true → X.A.handled = none
  frames : X.A.frames = some X.stack
  stk : X.stack = X.outer ∨ (X.stack = X.env :: X.outer ∧ X.env.frame = some X.env.locals)
  exf : ∀ b ∈ X.ex, b ≠ X.env.locals ∧ ∀ x c, X.env.cells.lookup x = some c → c ≠ b
  bs : ∀ b o, X.base.get? b = some o → X.s₀.heap.get? b = some o ∧ X.H₀ b = none
  bsz : X.base.objs.size ≤ X.s₀.heap.objs.size
  noex : ∀ b o, X.base.get? b = some o → b ∉ X.ex
  exfs : ∀ b ∈ X.ex, b ∉ X.fs
  funs : X.s₀.heap.FunFrames X.base X.outer
  frf : ∀ b ∈ X.fs, X.H₀ b = none
structure Inv (X : Cx) (pins : List (Addr × Obj)) (σ : List (Option V)) (H : Hp) (s : Shared) : Prop where
  ok : X.Ok
  os : s.os = X.s₀.os
  bare : AllBare s.gens
  base : Un X.fs X.ex X.H₀ H X.s₀.heap s.heap
  loc : ∃ m, s.heap.Ns X.env.locals m ∧ ∀ (i : Nat) (x : Str) (v : V), X.N[i]? = some x → σ[i]? = some (some v) → Vis X.env.scope x → ∃ u, RelV v u ∧ Look X.env s.heap m x u
  cell : ∀ x c, X.env.cells.lookup x = some c → ∃ v, s.heap.IsCell c v
  free : H X.env.locals = none
  freeC : ∀ x c, X.env.cells.lookup x = some c → H c = none
  pin : ∀ p ∈ X.pn ++ pins, s.heap.get? p.1 = some p.2 ∧ H p.1 = none ∧ p.1 ≠ X.env.locals ∧ p.1 ∉ X.fs ∧ ∀ v, p.2.data ≠ .cell v
  hok : HOk X.prog X.w H s.heap
  len : σ.length = X.N.length
section
variable {X : Cx} {pins : List (Addr × Obj)} {σ : List (Option V)} {H H' : Hp} {s : Shared} {h' : Heap}
theorem Cx.Ok.nofr (ok : X.Ok) {b : Addr} {o : Obj} (e : X.base.get? b = some o) : b ∉ X.fs := fun hb => by
  have := (ok.funs.mem hb).1
  rw [e] at this; cases this
theorem Inv.bs (I : Inv X pins σ H s) : ∀ b o, X.base.get? b = some o → s.heap.get? b = some o ∧ H b = none := fun b o e =>
  ⟨I.base.keep b o (I.ok.bs b o e).1 (I.ok.bs b o e).2 (I.ok.nofr e) (I.ok.noex b o e), I.base.free b o (I.ok.bs b o e).1 (I.ok.bs b o e).2 (I.ok.noex b o e)⟩
theorem Inv.bk (I : Inv X pins σ H s) : ∀ b o, X.base.get? b = some o → s.heap.get? b = some o := fun b o e => (I.bs b o e).1
theorem Inv.mod (I : Inv X pins σ H s) : Mod X.K X.mg X.base := I.ok.mod
theorem Inv.kIn (I : Inv X pins σ H s) : X.K.In s.heap := I.ok.mod.kin.keeps I.bk
theorem Inv.lt (I : Inv X pins σ H s) : X.env.locals < s.heap.objs.size := let ⟨_, hn, _⟩ := I.loc; hn.lt
theorem Inv.sz (I : Inv X pins σ H s) : X.s₀.heap.objs.size ≤ s.heap.objs.size := Nat.le_trans I.ok.above (Nat.le_of_lt I.lt)
theorem Inv.nofs (I : Inv X pins σ H s) {a : Addr} (h : s.heap.objs.size ≤ a) : a ∉ X.fs := fun hb => by
  obtain ⟨_, o, ho, _⟩ := I.ok.funs.mem hb
  exact absurd (Nat.lt_of_lt_of_le (Heap.lt_size ho) (Nat.le_trans I.sz h)) (Nat.lt_irrefl _)
theorem Inv.cne (I : Inv X pins σ H s) : ∀ x c, X.env.cells.lookup x = some c → c ≠ X.env.locals := fun x c e z => by
  obtain ⟨v, o, ho, hd⟩ := I.cell x c e
  obtain ⟨m, ⟨o', es, ep, ho', hd', _⟩, _⟩ := I.loc
  rw [z, ho'] at ho; cases ho; rw [hd'] at hd; cases hd
theorem Inv.funs (I : Inv X pins σ H s) : s.heap.FunFrames X.base X.outer := by
  have all : ∀ (l : List Env), (∀ b ∈ frs l, b ∈ X.fs) → X.s₀.heap.FunFrames X.base l → s.heap.FunFrames X.base l := by
    intro l
    induction l with
    | nil => intro _ _; trivial
    | cons env r ih =>
      intro hs hl
      obtain ⟨hk, ⟨L, o, hf, hn, ho, hd⟩, hr⟩ := hl
      have hL : L ∈ X.fs := hs L (by unfold frs; rw [List.filterMap_cons, hf]; exact List.mem_cons_self)
      obtain ⟨sl, e⟩ := I.base.slot L o ho (I.ok.frf L hL) hL fun z => I.ok.exfs L z hL
      exact ⟨hk, ⟨L, _, hf, hn, e, hd⟩, ih (fun b hb => hs b (by unfold frs; rw [List.filterMap_cons, hf]; exact List.mem_cons_of_mem _ hb)) hr⟩
  exact all X.outer (fun _ hb => hb) I.ok.funs
theorem Inv.stack (I : Inv X pins σ H s) : s.heap.FunFrames X.base X.stack := by
  rcases I.ok.stk with e | ⟨e, hf⟩
  · rw [e]; exact I.funs
  · rw [e]
    obtain ⟨m, hn, _⟩ := I.loc
    refine .cons (by rw [I.ok.kind]; decide) hf hn ?_ I.funs
    exact Heap.get?_none_of_le (Nat.le_trans I.ok.bsz I.ok.above)
theorem Inv.stkSub (I : Inv X pins σ H s) : ∀ b ∈ frs X.stack, b ∈ X.env.locals :: X.fs := fun b hb => by
  rcases I.ok.stk with e | ⟨e, hf⟩
  · rw [e] at hb; exact List.mem_cons_of_mem _ hb
  · rw [e] at hb
    unfold frs at hb
    rw [List.filterMap_cons, hf] at hb
    exact hb
theorem Inv.stkFree (I : Inv X pins σ H s) : ∀ b ∈ frs X.stack, H b = none := fun b hb => by
  rcases List.mem_cons.mp (I.stkSub b hb) with e | hb
  · rw [e]; exact I.free
  · obtain ⟨_, o, ho, _⟩ := I.ok.funs.mem hb
    exact I.base.free b o ho (I.ok.frf b hb) fun z => I.ok.exfs b z hb
theorem Inv.step {g' : Array GenState} {t' : Nat} {d' : Drawn} {ch : List Addr} (I : Inv X pins σ H s)
    (hch : ∀ b ∈ ch, (b ∈ X.ex ∨ X.s₀.heap.objs.size ≤ b) ∧ b ≠ X.env.locals ∧ (∀ x c, X.env.cells.lookup x = some c → c ≠ b) ∧ ∀ p ∈ X.pn ++ pins, p.1 ≠ b)
    (keep : ∀ b o, b ≠ X.env.locals → b ∉ X.fs → b ∉ ch → s.heap.get? b = some o → H b = none → h'.get? b = some o)
    (slot : ∀ b o, b ≠ X.env.locals → b ∈ X.fs → b ∉ ch → s.heap.get? b = some o → H b = none → ∃ sl, h'.get? b = some { o with slots := sl }) (free : ∀ b o, b ∉ ch → s.heap.get? b = some o → H b = none → H' b = none)
    (there : ∀ b o, b ∉ ch → s.heap.get? b = some o → ∃ o', h'.get? b = some o')
    (tups : ∀ b xs, H b = some (.tup xs) → H' b = some (.tup xs)) (frzs : ∀ b o u, H b = some (.frz o u) → H' b = some (.frz o u)) (tbls : ∀ b ps, H b = some (.tbl ps) → ∃ more, H' b = some (.tbl (ps ++ more)))
    (ns : ∀ m, s.heap.Ns X.env.locals m → h'.Ns X.env.locals m) (hok : HOk X.prog X.w H' h') (hg : AllBare g') :
    Inv X pins σ H' { s with heap := h', gens := g', drawn := d', toks := t' } := by
  have neL : ∀ b o, X.s₀.heap.get? b = some o → b ≠ X.env.locals := fun b o e => Nat.ne_of_lt (Nat.lt_of_lt_of_le (Heap.lt_size e) I.ok.above)
  have neC : ∀ b o, X.s₀.heap.get? b = some o → b ∉ X.ex → b ∉ ch := fun b o e hx hb => by
    rcases (hch b hb).1 with z | z
    · exact hx z
    · exact absurd (Nat.lt_of_lt_of_le (Heap.lt_size e) z) (Nat.lt_irrefl _)
  have cellK : ∀ x c, X.env.cells.lookup x = some c → ∀ v, s.heap.IsCell c v → h'.IsCell c v := fun x c e v ⟨o, ho, hd⟩ => by
    have nch : c ∉ ch := fun z => (hch c z).2.2.1 x c e rfl
    by_cases hc : c ∈ X.fs
    · obtain ⟨sl, q⟩ := slot c o (I.cne x c e) hc nch ho (I.freeC x c e)
      exact ⟨_, q, hd⟩
    · exact ⟨o, keep c o (I.cne x c e) hc nch ho (I.freeC x c e), hd⟩
  refine ⟨I.ok, I.os, hg, ⟨fun b o e n hb hx => ?_, fun b o e n hb hx => ?_, fun b o e n hx => ?_, fun b o e hx => ?_, fun b xs e => tups b xs (I.base.tups b xs e), fun b o xs e => frzs b o xs (I.base.frzs b o xs e), fun b ps e => ?_⟩, ?_, fun x c e => ?_, ?_, fun x c e => ?_, fun p hp => ?_, hok, I.len⟩
  · exact keep b o (neL b o e) hb (neC b o e hx) (I.base.keep b o e n hb hx) (I.base.free b o e n hx)
  · obtain ⟨sl, e1⟩ := I.base.slot b o e n hb hx
    obtain ⟨sl', e2⟩ := slot b _ (neL b o e) hb (neC b o e hx) e1 (I.base.free b o e n hx)
    exact ⟨sl', e2⟩
  · obtain ⟨o', e1⟩ := I.base.there b o e hx
    exact free b o' (neC b o e hx) e1 (I.base.free b o e n hx)
  · obtain ⟨o', e1⟩ := I.base.there b o e hx
    exact there b o' (neC b o e hx) e1
  · obtain ⟨m1, e1⟩ := I.base.tbls b ps e
    obtain ⟨m2, e2⟩ := tbls b _ e1
    exact ⟨m1 ++ m2, by rw [e2, Array.append_assoc]⟩
  · obtain ⟨m, hn, hl⟩ := I.loc
    refine ⟨m, ns m hn, fun i x v e1 e2 e3 => ?_⟩
    obtain ⟨u, r, l⟩ := hl i x v e1 e2 e3
    refine ⟨u, r, ?_⟩
    rcases l with l | ⟨k, c, e, z⟩
    · exact .inl l
    · exact .inr ⟨k, c, e, cellK x c e _ z⟩
  · obtain ⟨v, z⟩ := I.cell x c e
    exact ⟨v, cellK x c e v z⟩
  · obtain ⟨m, ⟨o, _, _, ho, _⟩, _⟩ := I.loc
    exact free _ o (fun z => (hch _ z).2.1 rfl) ho I.free
  · obtain ⟨v, o, ho, hd⟩ := I.cell x c e
    exact free c o (fun z => (hch c z).2.2.1 x c e rfl) ho (I.freeC x c e)
  · obtain ⟨e, n, ne, nf, d⟩ := I.pin p hp
    have nch : p.1 ∉ ch := fun z => (hch p.1 z).2.2.2 p hp rfl
    exact ⟨keep p.1 p.2 ne nf nch e n, free p.1 p.2 nch e n, ne, nf, d⟩
theorem Inv.un {t' : Nat} (I : Inv X pins σ H s) (u : Un X.fs [] H H' s.heap h') (hok : HOk X.prog X.w H' h') : Inv X pins σ H' { s with heap := h', toks := t' } := by
  obtain ⟨m, ⟨o, es, ep, ho, r⟩, _⟩ := id I.loc
  obtain ⟨sl, hL⟩ := u.any ho I.free (by simp)
  exact I.step (g' := s.gens) (d' := s.drawn) (ch := []) (fun _ z => nomatch z) (fun b o _ hb _ e n => u.keep b o e n hb (by simp)) (fun b o _ hb _ e n => u.slot b o e n hb (by simp)) (fun b o _ e n => u.free b o e n (by simp)) (fun b o _ e => u.there b o e (by simp)) u.tups u.frzs u.tbls (fun m' hm => by
    obtain ⟨o', es', ep', ho', r'⟩ := hm
    rw [ho] at ho'; cases ho'
    exact ⟨_, es', ep', hL, r'⟩) hok I.bare
theorem Inv.call {g' : Array GenState} {t' : Nat} {d' : Drawn} {ch : List Addr} (I : Inv X pins σ H s) (u : Un (frs X.stack) ch H H' s.heap h') (hok : HOk X.prog X.w H' h') (hg : AllBare g')
    (hch : ∀ b ∈ ch, (b ∈ X.ex ∨ X.s₀.heap.objs.size ≤ b) ∧ b ≠ X.env.locals ∧ (∀ x c, X.env.cells.lookup x = some c → c ≠ b) ∧ ∀ p ∈ X.pn ++ pins, p.1 ≠ b) :
    Inv X pins σ H' { s with heap := h', gens := g', drawn := d', toks := t' } := by
  obtain ⟨m, ⟨o, es, ep, ho, r⟩, _⟩ := id I.loc
  obtain ⟨sl, hL⟩ := u.any ho I.free fun z => (hch _ z).2.1 rfl
  exact I.step (ch := ch) hch (fun b o hL hb hc e n => u.keep b o e n (fun z => (List.mem_cons.mp (I.stkSub b z)).elim hL hb) hc) (fun b o _ _ hc e n => u.any e n hc) (fun b o hc e n => u.free b o e n hc) (fun b o hc e => u.there b o e hc) u.tups u.frzs u.tbls (fun m' hm => by
    obtain ⟨o', es', ep', ho', r'⟩ := hm
    rw [ho] at ho'; cases ho'
    exact ⟨_, es', ep', hL, r'⟩) hok hg
theorem Inv.turned {t' : Nat} {it : Addr} (I : Inv X pins σ H s) (k : ∀ b o, b ≠ it → s.heap.get? b = some o → h'.get? b = some o) (hn : H it = none) (hL : it ≠ X.env.locals)
    (h1 : it ∈ X.ex ∨ X.s₀.heap.objs.size ≤ it) (h2 : ∀ x c, X.env.cells.lookup x = some c → c ≠ it) (h3 : ∀ p ∈ X.pn ++ pins, p.1 ≠ it) : Inv X pins σ H { s with heap := h', toks := t' } := by
  have nit : ∀ b u, H b = some u → b ≠ it := fun b u e z => by rw [z, hn] at e; cases e
  refine I.step (g' := s.gens) (d' := s.drawn) (ch := [it]) (fun b hb => ?_) (fun b o _ _ hc e _ => k b o (fun z => hc (by simp [z])) e) (fun b o _ _ hc e _ => ⟨o.slots, k b o (fun z => hc (by simp [z])) e⟩) (fun _ _ _ _ n => n)
    (fun b o hc e => ⟨o, k b o (fun z => hc (by simp [z])) e⟩) (fun _ _ e => e) (fun _ _ _ e => e) (fun b ps e => ⟨#[], by rw [e]; simp⟩) (fun m hm => ?_) (fun b u e => ?_) I.bare
  · have e : b = it := by simpa using hb
    subst e
    exact ⟨h1, hL, h2, h3⟩
  · obtain ⟨o, es, ep, ho, r⟩ := hm
    exact ⟨o, es, ep, k _ o (Ne.symm hL) ho, r⟩
  · refine (I.hok b u e).stay (fun c v hc q => k c v ?_ q) (fun _ q => q) fun _ _ q => q
    rcases hc with z | z
    · rw [z]; exact nit b u e
    · exact nit c _ z
theorem Inv.tok (I : Inv X pins σ H s) (t : Nat) : Inv X pins σ H { s with toks := t } := I.un (h' := s.heap) (t' := t) Un.refl I.hok
theorem Inv.kept {t' : Nat} (I : Inv X pins σ H s) (k : ∀ b u, s.heap.get? b = some u → h'.get? b = some u) : Inv X pins σ H { s with heap := h', toks := t' } := I.un (Un.kept k) (I.hok.kept k)
theorem Inv.laid {a : Addr} {o : HO} {t' : Nat} (I : Inv X pins σ H s) (k : ∀ b u, s.heap.get? b = some u → h'.get? b = some u) (hp : s.heap.objs.size ≤ a) (new : ObjOk X.prog X.w (upd H a o) h' a o) :
    Inv X pins σ (upd H a o) { s with heap := h', toks := t' } := I.un (Un.laid k hp (I.hok.fresh hp)) (I.hok.laid k hp new)
theorem Inv.write {x e : Addr} {o : HO} {t' : Nat} (I : Inv X pins σ H s) (mu : Mut (H x)) (he : e = x ∨ H e = some (.own x)) (k : ∀ b u, b ≠ e → s.heap.get? b = some u → h'.get? b = some u) (heo : ∃ u, h'.get? e = some u)
    (new : ObjOk X.prog X.w (upd H x o) h' x o) : Inv X pins σ (upd H x o) { s with heap := h', toks := t' } := I.un (Un.write mu he k heo) (I.hok.write mu he k heo new)
theorem Inv.pins_of {pins' : List (Addr × Obj)} (I : Inv X pins σ H s) (h : ∀ p ∈ pins', s.heap.get? p.1 = some p.2 ∧ H p.1 = none ∧ p.1 ≠ X.env.locals ∧ p.1 ∉ X.fs ∧ ∀ v, p.2.data ≠ .cell v) : Inv X pins' σ H s :=
  ⟨I.ok, I.os, I.bare, I.base, I.loc, I.cell, I.free, I.freeC, fun p hp => (List.mem_append.mp hp).elim (fun z => I.pin p (List.mem_append_left _ z)) (h p), I.hok, I.len⟩
theorem nodup_ix {N : List Str} (hN : N.Nodup) {i j : Nat} {x : Str} (a : N[i]? = some x) (b : N[j]? = some x) : i = j := by
  obtain ⟨h1, e1⟩ := List.getElem?_eq_some_iff.mp a
  obtain ⟨h2, e2⟩ := List.getElem?_eq_some_iff.mp b
  exact (List.getElem_inj hN).mp (e1.trans e2.symm)
theorem store_ok2 {M : Model} {A : Around} {E : Value → Shared → Prop} {i : Nat} {x : Str} {v : V} {u : Value} {Q : Unit → Shared → Prop} (I : Inv X pins σ H s) (hN : X.N.Nodup) (hi : X.N[i]? = some x) (hx : Loc X.env.scope x) (r : RelV v u)
    (h : ∀ s', Inv X pins (σ.set i (some v)) H s' → (∃ a, Heap.SameBut a s.heap s'.heap ∧ (a = X.env.locals ∨ X.env.cells.lookup x = some a)) → Q () s') (hf : X.fn x = true ∨ X.env.scope.names.lookup x = some .local := by first | exact .inl rfl | exact .inr rfl | assumption) : wpAny M A (storeName X.env x u) Q E s := by
  obtain ⟨m, hn, hl⟩ := id I.loc
  have hcls : (X.env.scope.kind == .class || (X.env.scope.kind == .module && X.env.locals != X.env.globals)) = false := by rw [I.ok.kind]; rfl
  have hiσ : i < σ.length := by rw [I.len]; exact (List.getElem?_eq_some_iff.mp hi).1
  have cne := I.cne
  have tracked : ∀ {a : Addr} {h' : Heap}, (∃ o, s.heap.get? a = some o ∧ H a = none) → Heap.SameBut a s.heap h' → HOk X.prog X.w H h' := fun {a h'} ha hs b ob e => by
    obtain ⟨_, _, hfree⟩ := ha
    refine (I.hok b ob e).stay (fun c w' hc q => (hs.2 c ?_).trans q) (fun _ q => q) fun _ _ q => q
    rintro rfl
    rcases hc with rfl | hc
    · rw [hfree] at e; cases e
    · rw [hfree] at hc; cases hc
  rcases hx with hk | hk
  · refine wpAny_storeName_local hk hn (fun h' hn' hs => ?_) hcls
    obtain ⟨oL, _, _, hoL, _⟩ := id hn
    refine h _ ⟨I.ok, I.os, I.bare, ⟨fun b o e n hb hx => ?_, fun b o e n hb hx => ?_, I.base.free, fun b o e hx => ?_, I.base.tups, I.base.frzs, I.base.tbls⟩, ⟨_, hn', fun j y v' e1 e2 e3 => ?_⟩, fun y c e => ?_, I.free, I.freeC, fun p hp => ?_, tracked ⟨oL, hoL, I.free⟩ hs, by simpa using I.len⟩ ⟨_, hs, .inl rfl⟩
    · exact (hs.2 b (Nat.ne_of_lt (Nat.lt_of_lt_of_le (Heap.lt_size e) I.ok.above))).trans (I.base.keep b o e n hb hx)
    · obtain ⟨sl, e1⟩ := I.base.slot b o e n hb hx
      exact ⟨sl, (hs.2 b (Nat.ne_of_lt (Nat.lt_of_lt_of_le (Heap.lt_size e) I.ok.above))).trans e1⟩
    · obtain ⟨o', e1⟩ := I.base.there b o e hx
      exact ⟨o', (hs.2 b (Nat.ne_of_lt (Nat.lt_of_lt_of_le (Heap.lt_size e) I.ok.above))).trans e1⟩
    · by_cases hj : j = i
      · subst hj
        rw [hi] at e1; cases e1
        rw [List.getElem?_set_self hiσ] at e2
        cases e2
        exact ⟨u, r, .inl ⟨hk, by simp⟩⟩
      · rw [List.getElem?_set_ne (Ne.symm hj)] at e2
        obtain ⟨u', r', q⟩ := hl j y v' e1 e2 e3
        refine ⟨u', r', ?_⟩
        rcases q with ⟨k, e⟩ | ⟨k, c, e, z⟩
        · refine .inl ⟨k, ?_⟩
          have : y ≠ x := fun e => hj (nodup_ix hN e1 (e ▸ hi))
          simp [this, e]
        · exact .inr ⟨k, c, e, z.sameBut hs (cne y c e)⟩
    · obtain ⟨w', z⟩ := I.cell y c e
      exact ⟨w', z.sameBut hs (cne y c e)⟩
    · obtain ⟨e, n, ne, nf, d⟩ := I.pin p hp
      exact ⟨(hs.2 p.1 ne).trans e, n, ne, nf, d⟩
  · have hfn : X.fn x = true := by
      rcases hf with z | z
      · exact z
      · rw [z] at hk; cases hk
    obtain ⟨c, hc⟩ := I.ok.has x (.inl hk)
    obtain ⟨w', z⟩ := I.cell x c hc
    refine wpAny_storeName_cell I.ok.kind hk hc z (fun h' hc' hs => ?_)
    obtain ⟨oc, hoc, hocd⟩ := id z
    refine h { s with heap := h' } ⟨I.ok, I.os, I.bare, ⟨fun b o e n hb hx => ?_, fun b o e n hb hx => ?_, I.base.free, fun b o e hx => ?_, I.base.tups, I.base.frzs, I.base.tbls⟩, ⟨m, hn.sameBut hs (Ne.symm (cne x c hc)), fun j y v' e1 e2 e3 => ?_⟩, fun y c' e => ?_, I.free, I.freeC, fun p hp => ?_, tracked ⟨oc, hoc, I.freeC x c hc⟩ hs, by simpa using I.len⟩ ⟨c, hs, .inr hc⟩
    · exact (hs.2 b (Nat.ne_of_lt (Nat.lt_of_lt_of_le (Heap.lt_size e) (I.ok.cab x c hfn hc)))).trans (I.base.keep b o e n hb hx)
    · obtain ⟨sl, e1⟩ := I.base.slot b o e n hb hx
      exact ⟨sl, (hs.2 b (Nat.ne_of_lt (Nat.lt_of_lt_of_le (Heap.lt_size e) (I.ok.cab x c hfn hc)))).trans e1⟩
    · obtain ⟨o', e1⟩ := I.base.there b o e hx
      exact ⟨o', (hs.2 b (Nat.ne_of_lt (Nat.lt_of_lt_of_le (Heap.lt_size e) (I.ok.cab x c hfn hc)))).trans e1⟩
    · by_cases hj : j = i
      · subst hj
        rw [hi] at e1; cases e1
        rw [List.getElem?_set_self hiσ] at e2
        cases e2
        exact ⟨u, r, .inr ⟨.inl hk, c, hc, hc'⟩⟩
      · rw [List.getElem?_set_ne (Ne.symm hj)] at e2
        obtain ⟨u', r', q⟩ := hl j y v' e1 e2 e3
        refine ⟨u', r', ?_⟩
        rcases q with q | ⟨k, c', e, z'⟩
        · exact .inl q
        · refine .inr ⟨k, c', e, z'.sameBut hs ?_⟩
          rintro rfl
          exact hj (nodup_ix hN e1 (I.ok.inj _ _ _ e hc ▸ hi))
    · by_cases hcc : c' = c
      · subst hcc; exact ⟨_, hc'⟩
      · obtain ⟨w2, z2⟩ := I.cell y c' e
        exact ⟨w2, z2.sameBut hs hcc⟩
    · obtain ⟨e, n, ne, nf, d⟩ := I.pin p hp
      refine ⟨(hs.2 p.1 ?_).trans e, n, ne, nf, d⟩
      intro q
      rw [q, hoc] at e
      have q' : oc = p.2 := Option.some.inj e
      exact d w' (by rw [← q']; exact hocd)
theorem store_ok {M : Model} {A : Around} {E : Value → Shared → Prop} {i : Nat} {x : Str} {v : V} {u : Value} {Q : Unit → Shared → Prop} (I : Inv X pins σ H s) (hN : X.N.Nodup) (hi : X.N[i]? = some x) (hx : Loc X.env.scope x) (r : RelV v u)
    (h : ∀ s', Inv X pins (σ.set i (some v)) H s' → Q () s') (hf : X.fn x = true ∨ X.env.scope.names.lookup x = some .local := by first | exact .inl rfl | exact .inr rfl | assumption) : wpAny M A (storeName X.env x u) Q E s :=
  store_ok2 I hN hi hx r (fun s' I' _ => h s' I') hf
end
abbrev XK := Value → Option Addr → Hp → Prop
abbrev St := List (Option V)
abbrev VK := V → Hp → Prop
abbrev TE := St → Hp → VK → Prop
abbrev TT := St → Hp → (Bool → Hp → Prop) → Prop
abbrev TA := St → Hp → (List V → Hp → Prop) → Prop
structure Ends where
  nx : St → Hp → Prop
  rt : VK
  bk : St → Hp → Prop := fun _ _ => False
  ct : St → Hp → Prop := fun _ _ => False
abbrev TS := Ends → St → Hp → Prop
def EP (X : Cx) (pins : List (Addr × Obj)) (σ : St) (Q : VK) (u : Value) (s' : Shared) : Prop := ∃ v H', Inv X pins σ H' s' ∧ RelV v u ∧ Q v H'
def TP (X : Cx) (pins : List (Addr × Obj)) (σ : St) (Q : Bool → Hp → Prop) (b : Bool) (s' : Shared) : Prop := ∃ H', Inv X pins σ H' s' ∧ Q b H'
def AP (X : Cx) (pins : List (Addr × Obj)) (σ : St) (Q : List V → Hp → Prop) (us : List Value) (s' : Shared) : Prop := ∃ vs H', Inv X pins σ H' s' ∧ Vals vs us ∧ Q vs H'
def SP (X : Cx) (pins : List (Addr × Obj)) (D : Ends) (f : Flow) (s' : Shared) : Prop :=
  match f with
  | .next => ∃ σ' H', Inv X pins σ' H' s' ∧ D.nx σ' H'
  | .brk => ∃ σ' H', Inv X pins σ' H' s' ∧ D.bk σ' H'
  | .cont => ∃ σ' H', Inv X pins σ' H' s' ∧ D.ct σ' H'
  | .ret u => ∃ v σ' H', Inv X pins σ' H' s' ∧ RelV v u ∧ D.rt v H'
def PE (X : Cx) (e : Expr) (t : TE) : Prop :=
  ∀ (pins : List (Addr × Obj)) (s : Shared) (σ : St) (H : Hp) (Q : VK), Inv X pins σ H s → t σ H Q → wpAny (model X.prog X.w) X.A (eval e X.env) (EP X pins σ Q) X.xe s
def PT (X : Cx) (e : Expr) (t : TT) : Prop :=
  ∀ (pins : List (Addr × Obj)) (s : Shared) (σ : St) (H : Hp) (Q : Bool → Hp → Prop), Inv X pins σ H s → t σ H Q → wpAny (model X.prog X.w) X.A (isTrue e X.env (eval e X.env)) (TP X pins σ Q) X.xe s
def PW (X : Cx) (e : Expr) (t : TT) : Prop :=
  ∀ (whole : Sem Value) (pins : List (Addr × Obj)) (s : Shared) (σ : St) (H : Hp) (Q : Bool → Hp → Prop), Inv X pins σ H s → t σ H Q → wpAny (model X.prog X.w) X.A (isTrue e X.env whole) (TP X pins σ Q) X.xe s
theorem PW.pt {X : Cx} {e : Expr} {t : TT} (h : PW X e t) : PT X e t := h _
def PA (X : Cx) (es : List Expr) (t : TA) : Prop :=
  ∀ (pos : Pos) (pins : List (Addr × Obj)) (s : Shared) (σ : St) (H : Hp) (Q : List V → Hp → Prop), Inv X pins σ H s → t σ H Q → wpAny (model X.prog X.w) X.A (spliced (backTo pos (starEach es X.env))) (AP X pins σ Q) X.xe s
def PS (X : Cx) (st : Stmt) (t : TS) : Prop :=
  ∀ (pins : List (Addr × Obj)) (s : Shared) (σ : St) (H : Hp) (D : Ends), Inv X pins σ H s → t D σ H → wpAny (model X.prog X.w) X.A (exec st X.env) (SP X pins D) X.xe s
def PSs (X : Cx) (st : List Stmt) (t : TS) : Prop :=
  ∀ (pins : List (Addr × Obj)) (s : Shared) (σ : St) (H : Hp) (D : Ends), Inv X pins σ H s → t D σ H → wpAny (model X.prog X.w) X.A (execs st X.env) (SP X pins D) X.xe s
theorem thn {α : Type} {t : Sem α} {Q Q' : α → Shared → Prop} {M : Model} {A : Around} {E : Value → Shared → Prop} {s : Shared} (h : wpAny M A t Q E s) (hQ : ∀ a s, Q a s → Q' a s) : wpAny M A t Q' E s := wpAny_mono h hQ fun _ _ x => x
end L2
namespace L2
open PySem PySem.Spec PyProof.Rows
section
variable {X : Cx}
theorem bin {a b : Expr} {ta tb : TE} (ha : PE X a ta) (hb : PE X b tb) {pins : List (Addr × Obj)} {s : Shared} {σ : St} {H : Hp} {R : V → V → Hp → Prop} (I : Inv X pins σ H s) (h : ta σ H fun x H1 => tb σ H1 fun y H2 => R x y H2)
    {α : Type} {Q : α → Shared → Prop} {f : Value → Value → Sem α}
    (hf : ∀ v u s2 x y H2, Inv X pins σ H2 s2 → RelV x v → RelV y u → R x y H2 → wpAny (model X.prog X.w) X.A (f v u) Q X.xe s2) :
    wpAny (model X.prog X.w) X.A (eval a X.env) (fun v s₁ => wpAny (model X.prog X.w) X.A (eval b X.env) (fun u s₂ => wpAny (model X.prog X.w) X.A (f v u) Q X.xe s₂) X.xe s₁) X.xe s := by
  refine thn (ha pins s σ H _ I h) fun v s1 ⟨x, H1, I1, r1, q1⟩ => ?_
  refine thn (hb pins s1 σ H1 _ I1 q1) fun u s2 ⟨y, H2, I2, r2, q2⟩ => ?_
  exact hf v u s2 x y H2 I2 r1 r2 q2
def tVar (i : Nat) : TE := fun σ H Q => ∃ v, σ[i]? = some (some v) ∧ Q v H
def tC (v : V) : TE := fun _ H Q => Q v H
theorem pe_var {i : Nat} {x : Str} {pos : Pos} (hN : X.N[i]? = some x) (hv : Vis X.env.scope x) (hd : (x == ("__debug__" : Str)) = false := by decide) (hcd : (x == ("__classdict__" : Str)) = false := by decide) : PE X (.Name x pos) (tVar i) := by
  intro pins s σ H Q I h
  obtain ⟨v, e, h⟩ := h
  obtain ⟨m, hn, hl⟩ := I.loc
  obtain ⟨u, r, l⟩ := hl i x v hN e hv
  have fin : EP X pins σ Q u s := ⟨v, H, I, r, h⟩
  rcases l with ⟨hk, hm⟩ | ⟨hk, c, hc, hcell⟩
  · exact wpAny_Name (wpAny_loadName_local I.ok.kind hk hn hm fin) hd
  · rcases hk with hk | hk
    · exact wpAny_Name (wpAny_loadName_cell I.ok.kind hk hc hcell fin) hd
    · exact wpAny_Name (wpAny_loadName_free I.ok.kind hk hc hcell fin hcd) hd
theorem pe_int {i j pos} : PE X (.Constant (.int i) j pos) (tC (.int i)) := fun _ _ _ H _ I h => wpAny_Constant_int ⟨.int i, H, I.tok _, ⟨_, rfl⟩, h⟩
theorem pe_bl {b j pos} : PE X (.Constant (.bool b) j pos) (tC (.bl b)) := fun _ _ _ H _ I h => Constant_bool ⟨.bl b, H, I, rfl, h⟩
theorem pe_non {j pos} : PE X (.Constant .none j pos) (tC .non) := fun _ _ _ H _ I h => Constant_none ⟨.non, H, I, rfl, h⟩
theorem pe_str {x j pos} : PE X (.Constant (.str x) j pos) (tC (.str x)) := fun _ _ _ H _ I h => Calls.Constant_str ⟨.str x, H, I.tok _, ⟨_, rfl⟩, h⟩
def Gl (X : Cx) (x : Str) : Prop := X.env.kindOf x = some .globalImplicit
theorem ld_glob {E : Value → Shared → Prop} {pins : List (Addr × Obj)} {s : Shared} {σ : St} {H : Hp} {x : Str} {u : Value} {pos : Pos} {Q : Value → Shared → Prop} (I : Inv X pins σ H s) (hg : Gl X x) (hm : X.mg x = some u) (h : Q u s)
    (hd : (x == ("__debug__" : Str)) = false := by decide) : wpAny (model X.prog X.w) X.A (eval (.Name x pos) X.env) Q E s :=
  Calls.Name_function_global I.ok.kind hg (Calls.loadGlobal_global (by rw [I.ok.glob]; exact I.mod.glob.keeps I.bk) hm h) hd
theorem ld_blt {E : Value → Shared → Prop} {pins : List (Addr × Obj)} {s : Shared} {σ : St} {H : Hp} {x : Str} {u : Value} {pos : Pos} {Q : Value → Shared → Prop} (I : Inv X pins σ H s) (hg : Gl X x) (hm : X.mg x = none) (hv : bootBuiltins x = some u) (h : Q u s)
    (hn : x ≠ "__name__" := by decide) (hd : (x == ("__debug__" : Str)) = false := by decide) : wpAny (model X.prog X.w) X.A (eval (.Name x pos) X.env) Q E s := by
  obtain ⟨mb, h1, h2⟩ := I.mod.blt
  exact Calls.Name_function_global I.ok.kind hg (Calls.loadGlobal_builtin (by rw [I.ok.glob]; exact I.mod.glob.keeps I.bk) hm (by rw [I.ok.blt]; exact h1.keeps I.bk) ((h2 x hn).trans hv) h) hd
theorem pe_glob {x : Str} {v : V} {u : Value} {pos : Pos} (hg : Gl X x) (hm : X.mg x = some u) (r : RelV v u) (hd : (x == ("__debug__" : Str)) = false := by decide) : PE X (.Name x pos) (tC v) :=
  fun _ _ _ H _ I h => ld_glob I hg hm ⟨v, H, I, r, h⟩ hd
theorem pe_bltn {x : Str} {v : V} {u : Value} {pos : Pos} (hg : Gl X x) (hm : X.mg x = none) (hv : bootBuiltins x = some u) (r : RelV v u) (hn : x ≠ "__name__" := by decide) (hd : (x == ("__debug__" : Str)) = false := by decide) : PE X (.Name x pos) (tC v) :=
  fun _ _ _ H _ I h => ld_blt I hg hm hv ⟨v, H, I, r, h⟩ hn hd
variable {a b : Expr} {ta tb : TE} {pos : Pos}
def PC (X : Cx) (op : CmpOp) (a b : Expr) (t : TE) : Prop :=
  ∀ (pins : List (Addr × Obj)) (s : Shared) (σ : St) (H : Hp) (Q : VK), Inv X pins σ H s → t σ H Q →
    wpAny (model X.prog X.w) X.A (eval a X.env) (fun v s₁ => wpAny (model X.prog X.w) X.A (eval b X.env) (fun u s₂ => wpAny (model X.prog X.w) X.A (compareOp op v u) (EP X pins σ Q) X.xe s₂) X.xe s₁) X.xe s
theorem nobehind (b : Expr) {op : CmpOp} (h : op ≠ .In) (h2 : op ≠ .NotIn) : behindInMarks op b = false := by
  have e1 : (op == CmpOp.In) = false := by cases op <;> first | rfl | exact absurd rfl h
  have e2 : (op == CmpOp.NotIn) = false := by cases op <;> first | rfl | exact absurd rfl h2
  cases b <;> simp [behindInMarks, e1, e2]
def tB (t : TE) : TT := fun σ H Q => t σ H fun x H1 => ∃ c, x = .bl c ∧ Q c H1
theorem pt_cmp {op : CmpOp} {t : TE} (h : PC X op a b t) (h1 : behindInMarks op b = false := by first | exact nobehind _ (by decide) (by decide) | rfl) : PT X (.Compare a [op] [b] pos) (tB t) := by
  intro pins s σ H Q I hw
  refine wpAny_isTrue_Compare1 (thn (h pins s σ H _ I hw) fun v s1 h1 => thn h1 fun u s2 h2 => thn h2 fun c s3 ⟨x, H1, I1, r1, q1⟩ => ?_) h1
  obtain ⟨d, rfl, q⟩ := q1
  cases r1
  exact wpAny_truthy_bool ⟨H1, I1, q⟩
theorem pt_val {e : Expr} {t : TE} (h : PE X e t) (he : ∀ whole, isTrue e X.env whole = (do let v ← whole; standAt e.pos; holding [v] (truthy v)) := by intro _; rfl) : PT X e (tB t) := by
  intro pins s σ H Q I hw
  refine isTrue_plain (thn (h pins s σ H _ I hw) fun v s1 ⟨x, H1, I1, r1, q1⟩ => ?_) (he _)
  obtain ⟨d, rfl, q⟩ := q1
  cases r1
  exact wpAny_truthy_bool ⟨H1, I1, q⟩
variable {tA tB' : TT} {rest : List Expr}
def tAnd (t u : TT) : TT := fun σ H Q => t σ H fun c H1 => if c = true then u σ H1 Q else Q false H1
def tOr (t u : TT) : TT := fun σ H Q => t σ H fun c H1 => if c = true then Q true H1 else u σ H1 Q
def tNot (t : TT) : TT := fun σ H Q => t σ H fun c H1 => Q (!c) H1
theorem pw_and1 (ha : PT X a tA) : PW X (.BoolOp .And [a] pos) tA := by
  intro wh pins s σ H Q I h
  refine isTrue_and (thn (ha pins s σ H Q I h) fun c s1 e => ?_)
  cases c with
  | true => exact isTrue_and_nil e
  | false => exact e
theorem pw_or1 (ha : PT X a tA) : PW X (.BoolOp .Or [a] pos) tA := by
  intro wh pins s σ H Q I h
  refine isTrue_or (thn (ha pins s σ H Q I h) fun c s1 e => ?_)
  cases c with
  | false => exact isTrue_or_nil e
  | true => exact e
theorem pw_and (ha : PT X a tA) (hb : PW X (.BoolOp .And (b :: rest) pos) tB') : PW X (.BoolOp .And (a :: b :: rest) pos) (tAnd tA tB') := by
  intro wh pins s σ H Q I h
  refine isTrue_and (thn (ha pins s σ H _ I h) fun c s1 ⟨H1, I1, q1⟩ => ?_)
  cases c with
  | true => exact hb wh pins s1 σ H1 Q I1 q1
  | false => exact ⟨H1, I1, q1⟩
theorem pw_or (ha : PT X a tA) (hb : PW X (.BoolOp .Or (b :: rest) pos) tB') : PW X (.BoolOp .Or (a :: b :: rest) pos) (tOr tA tB') := by
  intro wh pins s σ H Q I h
  refine isTrue_or (thn (ha pins s σ H _ I h) fun c s1 ⟨H1, I1, q1⟩ => ?_)
  cases c with
  | true => exact ⟨H1, I1, q1⟩
  | false => exact hb wh pins s1 σ H1 Q I1 q1
theorem pt_not (ha : PT X a tA) : PT X (.UnaryOp .Not a pos) (tNot tA) := by
  intro pins s σ H Q I h
  exact isTrue_not (ha pins s σ H (fun c H1 => Q (!c) H1) I h)
def tAndV (ta tb : TE) : TE := fun σ H Q => ta σ H fun x H1 => ∃ c, x = .bl c ∧ if c = true then tb σ H1 Q else Q (.bl false) H1
def tOrV (ta tb : TE) : TE := fun σ H Q => ta σ H fun x H1 => ∃ c, x = .bl c ∧ if c = true then Q (.bl true) H1 else tb σ H1 Q
def tNotV (ta : TE) : TE := fun σ H Q => ta σ H fun x H1 => ∃ c, x = .bl c ∧ Q (.bl (!c)) H1
theorem pe_one {op} {t : TE} (h : PE X a t) : PE X (.BoolOp op [a] pos) t := fun pins s σ H Q I hw => BoolOp_one (h pins s σ H Q I hw)
theorem pe_and (ha : PE X a ta) (hb : PE X (.BoolOp .And (b :: rest) pos) tb) : PE X (.BoolOp .And (a :: b :: rest) pos) (tAndV ta tb) := by
  intro pins s σ H Q I h
  refine BoolOp_and (thn (ha pins s σ H _ I h) fun v s1 ⟨x, H1, I1, r1, q1⟩ => ?_)
  obtain ⟨c, rfl, q1⟩ := q1
  cases r1
  refine wpAny_truthy_bool ?_
  cases c with
  | true => exact hb pins s1 σ H1 Q I1 q1
  | false => exact ⟨.bl false, H1, I1, rfl, q1⟩
theorem pe_not (ha : PE X a ta) : PE X (.UnaryOp .Not a pos) (tNotV ta) := by
  intro pins s σ H Q I h
  refine UnaryOp_ (thn (ha pins s σ H _ I h) fun v s1 ⟨x, H1, I1, r1, q1⟩ => ?_)
  obtain ⟨c, rfl, q1⟩ := q1
  cases r1
  exact not_of (wpAny_truthy_bool ⟨.bl (!c), H1, I1, rfl, q1⟩)
def tIf (t : TT) (ta tb : TE) : TE := fun σ H Q => t σ H fun c H1 => if c = true then ta σ H1 Q else tb σ H1 Q
theorem pe_ifExp {c : Expr} (hc : PT X c tA) (ha : PE X a ta) (hb : PE X b tb) : PE X (.IfExp c a b pos) (tIf tA ta tb) := by
  intro pins s σ H Q I h
  refine wpAny_IfExp (thn (hc pins s σ H _ I h) fun d s1 ⟨H1, I1, q1⟩ => ?_)
  cases d with
  | true => exact ha pins s1 σ H1 Q I1 q1
  | false => exact hb pins s1 σ H1 Q I1 q1
end
end L2
namespace L2
open PySem PySem.Spec PyProof.Rows
def SqL (K : PySem.W.Frag) (H : Hp) (a : Addr) (xs : List V) : Prop :=
  Rd H a (.lst xs) ∨
    ∃ (o : Obj) (its : Array Value) (n : Nat), K.lookup a = some o ∧ o.cls = .type "list" ∧ o.dict = none ∧ o.data = .seq its n ∧ its.size ≤ sizeLine ∧ Vals xs its.toList
def SqT (K : PySem.W.Frag) (H : Hp) (a : Addr) (xs : List V) : Prop :=
  Rd H a (.tup xs) ∨
    ∃ (o : Obj) (its : Array Value) (n : Nat), K.lookup a = some o ∧ o.cls = .type "tuple" ∧ o.data = .seq its n ∧ its.size ≤ sizeLine ∧ Vals xs its.toList
def absV : Value → Option V
  | .none => some .non
  | .bool b => some (.bl b)
  | .int i _ => some (.int i)
  | .str x _ => some (.str x)
  | .bytes b _ => some (.byt b)
  | .float b _ => some (.flt b)
  | .ref a => some (.ref a)
  | .type n => some (.ty n)
  | _ => none
theorem RelV.abs {x : V} {u : Value} (r : RelV x u) : absV u = some x := by
  cases x with
  | non => cases r; rfl
  | bl _ => cases r; rfl
  | int _ => obtain ⟨t, rfl⟩ := r; rfl
  | str _ => obtain ⟨t, rfl⟩ := r; rfl
  | byt _ => obtain ⟨t, rfl⟩ := r; rfl
  | flt _ => obtain ⟨t, rfl⟩ := r; rfl
  | ref _ => cases r; rfl
  | ty _ => cases r; rfl
theorem RelV.inj {x y : V} {u : Value} (r : RelV x u) (q : RelV y u) : x = y := Option.some.inj (r.abs.symm.trans q.abs)
theorem Vals.inj : ∀ {xs ys : List V} {us : List Value}, Vals xs us → Vals ys us → xs = ys
  | _, _, _, .nil, .nil => rfl
  | _, _, _, .cons r t, .cons r' t' => by rw [r.inj r', Vals.inj t t']
section
variable {X : Cx} {pins : List (Addr × Obj)} {σ : St} {H : Hp} {s : Shared} {a : Addr} {xs ys : List V}
theorem SqL.of {K : PySem.W.Frag} (h : H a = some (.lst xs)) : SqL K H a xs := .inl (.inl h)
theorem SqT.of {K : PySem.W.Frag} (h : H a = some (.tup xs)) : SqT K H a xs := .inl (.inl h)
theorem Inv.list (I : Inv X pins σ H s) (h : SqL X.K H a xs) : ∃ its : List Value, Vals xs its ∧ PlainL s.heap a its.toArray ∧ xs.length ≤ sizeLine := by
  rcases h with h | ⟨o, its, n, hk, hc, hd, hs, hz, r⟩
  · obtain ⟨z, its, n, r, e⟩ := h.ok I.hok
    exact ⟨its, r, ⟨_, n, e, rfl, rfl, rfl⟩, z⟩
  · refine ⟨its.toList, r, ⟨o, n, I.kIn a o hk, hc, hd, by simpa using hs⟩, ?_⟩
    have e := r.length
    simp only [Array.length_toList] at e
    omega
theorem Inv.tuple (I : Inv X pins σ H s) (h : SqT X.K H a xs) : ∃ its : List Value, Vals xs its ∧ IsTup s.heap a its.toArray ∧ xs.length ≤ sizeLine := by
  rcases h with h | ⟨o, its, n, hk, hc, hs, hz, r⟩
  · obtain ⟨z, its, r, p⟩ := h.ok I.hok
    exact ⟨its, r, p, z⟩
  · refine ⟨its.toList, r, ⟨o, I.kIn a o hk, hc, n, by simpa using hs⟩, ?_⟩
    have e := r.length
    simp only [Array.length_toList] at e
    omega
theorem Inv.list_inj (I : Inv X pins σ H s) (h : SqL X.K H a xs) (h' : SqL X.K H a ys) : xs = ys := by
  obtain ⟨its, r, ⟨o, n, e, _, _, d⟩, _⟩ := I.list h
  obtain ⟨its', r', ⟨o', n', e', _, _, d'⟩, _⟩ := I.list h'
  rw [e] at e'; cases e'
  rw [d] at d'
  injection d' with d1 _
  have : its = its' := by simpa using congrArg Array.toList d1
  subst this
  exact r.inj r'
end
abbrev Cx.wish (X : Cx) (E : Value → Shared → Prop) : Cx := { X with xe := E }
abbrev Cx.nox (X : Cx) : Cx := X.wish fun _ _ => False
theorem Cx.Ok.wish {X : Cx} (ok : X.Ok) (E : Value → Shared → Prop) : (X.wish E).Ok :=
  ⟨ok.mod, ok.kind, ok.glob, ok.blt, ok.above, ok.inj, ok.has, ok.cab, ok.hd, ok.frames, ok.stk, ok.exf, ok.bs, ok.bsz, ok.noex, ok.exfs, ok.funs, ok.frf⟩
theorem Cx.Ok.unwish {X : Cx} {E : Value → Shared → Prop} (ok : (X.wish E).Ok) : X.Ok :=
  ⟨ok.mod, ok.kind, ok.glob, ok.blt, ok.above, ok.inj, ok.has, ok.cab, ok.hd, ok.frames, ok.stk, ok.exf, ok.bs, ok.bsz, ok.noex, ok.exfs, ok.funs, ok.frf⟩
section
variable {X : Cx} {pins : List (Addr × Obj)} {σ : St} {H : Hp} {s : Shared} {E : Value → Shared → Prop}
theorem Inv.wish (I : Inv X pins σ H s) (E : Value → Shared → Prop) : Inv (X.wish E) pins σ H s := ⟨I.ok.wish E, I.os, I.bare, I.base, I.loc, I.cell, I.free, I.freeC, I.pin, I.hok, I.len⟩
theorem Inv.unwish (I : Inv (X.wish E) pins σ H s) : Inv X pins σ H s := ⟨I.ok.unwish, I.os, I.bare, I.base, I.loc, I.cell, I.free, I.freeC, I.pin, I.hok, I.len⟩
theorem SP.unwish {D : Ends} {f : Flow} {s' : Shared} (h : SP (X.wish E) pins D f s') : SP X pins D f s' := by
  cases f with
  | next => obtain ⟨σ', H', I, q⟩ := h; exact ⟨σ', H', I.unwish, q⟩
  | brk => obtain ⟨σ', H', I, q⟩ := h; exact ⟨σ', H', I.unwish, q⟩
  | cont => obtain ⟨σ', H', I, q⟩ := h; exact ⟨σ', H', I.unwish, q⟩
  | ret u => obtain ⟨v, σ', H', I, r, q⟩ := h; exact ⟨v, σ', H', I.unwish, r, q⟩
theorem PSs.nox {st : List Stmt} {t : TS} (h : PSs X.nox st t) : PSs X st t := fun pins s σ H D I hw =>
  wpAny_mono (h pins s σ H D (I.wish _) hw) (fun _ _ q => q.unwish) fun _ _ z => False.elim z
end
section
variable {X : Cx} {st : Stmt} {rest : List Stmt} {t u : TS} {e : Expr} {te : TE} {pos : Pos}
def tNext : TS := fun D σ H => D.nx σ H
def tSeq (t u : TS) : TS := fun D σ H => t { D with nx := u D } σ H
theorem pss_nil : PSs X [] tNext := fun _ _ σ H _ I h => wpAny_execs_nil ⟨σ, H, I, h⟩
theorem pss_cons (h1 : PS X st t) (h2 : PSs X rest u) : PSs X (st :: rest) (tSeq t u) := by
  intro pins s σ H D I h
  refine wpAny_execs_cons (thn (h1 pins s σ H { D with nx := u D } I h) fun f s1 q => ?_)
  cases f with
  | next =>
    obtain ⟨σ', H', I', q⟩ := q
    exact h2 pins s1 σ' H' D I' q
  | ret v => exact q
  | brk => exact q
  | cont => exact q
theorem pss_one (h1 : PS X st t) : PSs X [st] t := by
  intro pins s σ H D I h
  refine wpAny_execs_cons (thn (h1 pins s σ H D I h) fun f s1 q => ?_)
  cases f with
  | next => exact wpAny_execs_nil q
  | ret v => exact q
  | brk => exact q
  | cont => exact q
theorem Inv.quiet {pins : List (Addr × Obj)} {σ : St} {H : Hp} {s : Shared} (I : Inv X pins σ H s) : interactive X.env = false := by simp [interactive, I.ok.kind]
def tDrop (te : TE) : TS := fun D σ H => te σ H fun _ H1 => D.nx σ H1
theorem ps_expr (he : PE X e te) (hs : swapsWith e none pos.line X.env = pure false := by rfl) : PS X (.Expr e pos) (tDrop te) := by
  intro pins s σ H D I h
  exact wpAny_Expr_any (thn (he pins s σ H _ I h) fun v s1 ⟨x, H1, I1, r1, q1⟩ => ⟨σ, H1, I1, q1⟩) I.quiet hs
def tRet (te : TE) : TS := fun D σ H => te σ H D.rt
theorem ps_ret (he : PE X e te) : PS X (.Return (some e) pos) (tRet te) := by
  intro pins s σ H D I h
  exact wpAny_Return_some (thn (he pins s σ H _ I h) fun v s1 ⟨x, H1, I1, r1, q1⟩ => ⟨x, σ, H1, I1, r1, q1⟩)
def tRetN : TS := fun D _ H => D.rt .non H
theorem ps_retN : PS X (.Return none pos) tRetN := fun _ _ σ H _ I h => wpAny_Return_none ⟨.non, σ, H, I, rfl, h⟩
def tIfS (c : TT) (t u : TS) : TS := fun D σ H => c σ H fun b H1 => if b = true then t D σ H1 else u D σ H1
theorem ps_if {c : Expr} {a b : List Stmt} {tc : TT} (hc : PT X c tc) (ha : PSs X a t) (hb : PSs X b u) : PS X (.If c a b pos) (tIfS tc t u) := by
  intro pins s σ H D I h
  refine wpAny_If (thn (hc pins s σ H _ I h) fun d s1 ⟨H1, I1, q1⟩ => ?_)
  cases d with
  | true => exact ha pins s1 σ H1 D I1 q1
  | false => exact hb pins s1 σ H1 D I1 q1
end
abbrev TG := V → St → Hp → (St → Hp → Prop) → Prop
abbrev TGs := List V → St → Hp → (St → Hp → Prop) → Prop
def PG (X : Cx) (target : Expr) (t : TG) : Prop :=
  ∀ (pins : List (Addr × Obj)) (s : Shared) (σ : St) (H : Hp) (v : V) (u : Value) (Q : St → Hp → Prop), Inv X pins σ H s → RelV v u → t v σ H Q →
    wpAny (model X.prog X.w) X.A (assign target X.env u) (fun _ s' => ∃ σ' H', Inv X pins σ' H' s' ∧ Q σ' H') X.xe s
def PGs (X : Cx) (ts : List Expr) (t : TGs) : Prop :=
  ∀ (pins : List (Addr × Obj)) (s : Shared) (σ : St) (H : Hp) (vs : List V) (us : List Value) (Q : St → Hp → Prop), Inv X pins σ H s → Vals vs us → t vs σ H Q →
    wpAny (model X.prog X.w) X.A (assignInOrder ((assignEach ts X.env).map (·.2)) us) (fun _ s' => ∃ σ' H', Inv X pins σ' H' s' ∧ Q σ' H') X.xe s
abbrev TSet := V → V → V → Hp → (Hp → Prop) → Prop
def PSet (X : Cx) (t : TSet) : Prop :=
  ∀ (pins : List (Addr × Obj)) (s : Shared) (σ : St) (H : Hp) (o i v : V) (ov iv u : Value) (Q : Hp → Prop), Inv X pins σ H s → RelV o ov → RelV i iv → RelV v u → t o i v H Q →
    wpAny (model X.prog X.w) X.A (setItem ov iv u) (fun _ s' => ∃ H', Inv X pins σ H' s' ∧ Q H') X.xe s
section
variable {X : Cx} {pos : Pos}
def gName (i : Nat) : TG := fun v σ H Q => Q (σ.set i (some v)) H
theorem pg_name {i : Nat} {x : Str} (hN : X.N.Nodup) (hi : X.N[i]? = some x) (hx : Loc X.env.scope x) (hf : X.fn x = true ∨ X.env.scope.names.lookup x = some .local := by first | exact .inl rfl | exact .inr rfl | assumption) : PG X (.Name x pos) (gName i) := by
  intro pins s σ H v u Q I r h
  exact wpAny_assign_Name (store_ok I hN hi hx r (fun s' I' => ⟨_, H, I', h⟩) hf)
def gNil : TGs := fun vs σ H Q => vs = [] ∧ Q σ H
def gCons (t : TG) (u : TGs) : TGs := fun vs σ H Q => ∃ v r, vs = v :: r ∧ t v σ H fun σ' H' => u r σ' H' Q
theorem pgs_nil : PGs X [] gNil := by
  intro pins s σ H vs us Q I r h
  obtain ⟨e, h⟩ := h
  subst e
  cases r
  exact assignInOrder_nil ⟨σ, H, I, h⟩
theorem pgs_cons {e : Expr} {es : List Expr} {t : TG} {u : TGs} (h1 : PG X e t) (h2 : PGs X es u)
    (hs : (assignEach (e :: es) X.env).map (·.2) = assign e X.env :: (assignEach es X.env).map (·.2) := by rfl) : PGs X (e :: es) (gCons t u) := by
  intro pins s σ H vs us Q I r h
  obtain ⟨v, vr, e1, h⟩ := h
  subst e1
  cases r with
  | cons r rr =>
    rw [hs]
    refine assignInOrder_cons (thn (h1 pins s σ H _ _ _ I r h) fun _ s1 ⟨σ1, H1, I1, q1⟩ => ?_)
    exact h2 pins s1 σ1 H1 _ _ Q I1 rr q1
def gTup (K : PySem.W.Frag) (n : Nat) (t : TGs) : TG := fun v σ H Q => ∃ a xs, v = .ref a ∧ SqT K H a xs ∧ xs.length = n ∧ t xs σ H Q
theorem pg_tup {es : List Expr} {k : Nat} {t : TGs} {n : Nat} (hc : X.calm = true) (h : PGs X es t)
    (hn : (assignEach es X.env).length = n := by rfl) (hst : (assignEach es X.env).findIdx? (·.1) = none := by rfl) : PG X (.Tuple es k pos) (gTup X.K n t) := by
  intro pins s σ H v u Q I r hw
  obtain ⟨a, xs, e1, hq, hl, hw⟩ := hw
  subst e1
  cases r
  obtain ⟨its, rv, ht, hz⟩ := I.tuple hq
  refine assign_Tuple_tuple (I.ok.hd hc) ht (by simp [hn, ← hl, rv.length]) hst fun h' hx => ?_
  have I1 : Inv X pins σ H { s with heap := h' } := I.kept (t' := s.toks) fun b o e => hx b o (Nat.ne_of_lt (Heap.lt_size e)) e
  exact h pins _ σ H xs _ Q I1 (by simpa using rv) hw
def gSub (to ti : TE) (t : TSet) : TG := fun v σ H Q => to σ H fun o H1 => ti σ H1 fun i H2 => t o i v H2 fun H3 => Q σ H3
theorem pg_sub {o i : Expr} {to ti : TE} {t : TSet} (ho : PE X o to) (hi : PE X i ti) (hs : PSet X t)
    (ha : ∀ v, assign (.Subscript o i pos) X.env v = (do
      let ov ← holding [v] (eval o X.env)
      let iv ← holding [v, ov] (eval i X.env)
      standAt pos
      holding [v, ov, iv] (setItem ov iv v)
      release [v, ov, iv] []) := by intro _; rfl) : PG X (.Subscript o i pos) (gSub to ti t) := by
  intro pins s σ H v u Q I r h
  rw [ha]
  refine wpAny_bind (wpAny_holding (thn (ho pins s σ H _ I h) fun ov s1 ⟨x, H1, I1, r1, q1⟩ => ?_))
  refine wpAny_bind (wpAny_holding (thn (hi pins s1 σ H1 _ I1 q1) fun iv s2 ⟨y, H2, I2, r2, q2⟩ => ?_))
  refine wpAny_bind (wpAny_standAt (wpAny_bind (wpAny_holding (thn (hs pins s2 σ H2 x y v ov iv u _ I2 r1 r2 r q2) fun _ s3 ⟨H3, I3, q3⟩ => ?_))))
  exact wpAny_release ⟨σ, H3, I3, q3⟩
def tAsg (te : TE) (g : TG) : TS := fun D σ H => te σ H fun x H1 => g x σ H1 D.nx
theorem ps_asg {tg e : Expr} {te : TE} {g : TG} (he : PE X e te) (hg : PG X tg g) (hs : swapsWithSole [tg] e pos.line X.env = pure false := by rfl) (hw : swappedStores [tg] e X.env = pure none := by rfl)
    (h1 : (assignEach [tg] X.env).map (·.2) = [assign tg X.env] := by rfl) : PS X (.Assign [tg] e pos) (tAsg te g) := by
  intro pins s σ H D I h
  refine wpAny_Assign_stores (thn (he pins s σ H _ I h) fun v s1 ⟨x, H1, I1, r1, q1⟩ => ?_) hs hw
  rw [h1]
  exact thn (hg pins s1 σ H1 x v _ I1 r1 q1) fun _ s2 q => q
theorem ps_set {i : Nat} {x : Str} {e : Expr} {te : TE} {pos' : Pos} (hN : X.N.Nodup) (hi : X.N[i]? = some x) (hx : Loc X.env.scope x) (he : PE X e te) (hs : swapsWith e (some (.Name x pos')) pos.line X.env = pure false := by rfl) (hf : X.fn x = true ∨ X.env.scope.names.lookup x = some .local := by first | exact .inl rfl | exact .inr rfl | assumption) :
    PS X (.Assign [.Name x pos'] e pos) (tAsg te (gName i)) := by
  intro pins s σ H D I h
  refine wpAny_Assign_Name (thn (he pins s σ H _ I h) fun v s1 ⟨y, H1, I1, r1, q1⟩ => ?_) hs
  exact store_ok I1 hN hi hx r1 (fun s2 I2 => ⟨_, H1, I2, q1⟩) hf
end
section
variable {X : Cx} {pos : Pos}
def tWhile (c : TT) (tb : TS) : TS := fun D σ H => ∃ W : Nat → St → Hp → Prop, (∃ m, W m σ H) ∧ ∀ m σ H, W m σ H →
  c σ H fun b H1 => if b = true then ∃ N : St → Hp → Prop, (∀ σ' H', N σ' H' → ∃ m', m' < m ∧ W m' σ' H') ∧ tb { D with nx := N, ct := N, bk := D.nx } σ H1 else D.nx σ H1
theorem ps_while {c : Expr} {body : List Stmt} {tc : TT} {tb : TS} (hp : PassesOwn (model X.prog X.w) X.A X.env X.xe) (hc : PT X c tc) (hb : PSs X body tb) : PS X (.While c body [] pos) (tWhile tc tb) := by
  intro pins s σ H D I h
  obtain ⟨W, ⟨m0, w0⟩, turn⟩ := h
  refine wpAny_While (codeAny_whileLoop (fun n s' => ∃ σ' H', Inv X pins σ' H' s' ∧ W n σ' H') ?_ m0 ⟨σ, H, I, w0⟩)
  rintro n s1 ⟨σ1, H1, I1, w1⟩
  refine wpAny_passesOwn hp (thn (hc pins s1 σ1 H1 _ I1 (turn n σ1 H1 w1)) fun b s2 ⟨H2, I2, q2⟩ => ?_)
  cases b with
  | true =>
    obtain ⟨N, hN, q2⟩ := q2
    rw [if_pos rfl]
    refine wpAny_passesOwn hp (thn (hb pins s2 σ1 H2 _ I2 q2) fun f s3 q3 => ?_)
    cases f with
    | next =>
      obtain ⟨σ3, H3, I3, n3⟩ := q3
      obtain ⟨m', hm, w3⟩ := hN σ3 H3 n3
      exact ⟨m', hm, σ3, H3, I3, w3⟩
    | cont =>
      obtain ⟨σ3, H3, I3, n3⟩ := q3
      obtain ⟨m', hm, w3⟩ := hN σ3 H3 n3
      exact ⟨m', hm, σ3, H3, I3, w3⟩
    | brk => exact q3
    | ret v => exact q3
  | false =>
    rw [if_neg Bool.false_ne_true]
    exact wpAny_execs_nil ⟨σ1, H2, I2, q2⟩
end
structure It where
  go : Nat → Hp → Prop
  yld : Nat → Hp → V → Hp → Prop
  stop : Nat → Hp → Prop
def FpOk (X : Cx) (pins : List (Addr × Obj)) (H : Hp) (b : Addr) : Prop :=
  H b = none ∧ b ≠ X.env.locals ∧ b ∉ X.fs ∧ (b ∈ X.ex ∨ X.s₀.heap.objs.size ≤ b) ∧ (∀ x c, X.env.cells.lookup x = some c → c ≠ b) ∧ ∀ p ∈ X.pn ++ pins, p.1 ≠ b
theorem Inv.fpOk {X : Cx} {pins : List (Addr × Obj)} {σ : St} {H H' : Hp} {s : Shared} {b : Addr} (I : Inv X pins σ H s) (hb : s.heap.objs.size ≤ b) (hn : H' b = none) : FpOk X pins H' b := by
  refine ⟨hn, Nat.ne_of_gt (Nat.lt_of_lt_of_le I.lt hb), I.nofs hb, .inr (Nat.le_trans I.sz hb), fun x c e z => ?_, fun p hp z => ?_⟩
  · obtain ⟨v, q⟩ := I.cell x c e
    exact absurd (Nat.lt_of_lt_of_le q.lt (by rw [z]; exact hb)) (Nat.lt_irrefl _)
  · exact absurd (Nat.lt_of_lt_of_le (Heap.lt_size (I.pin p hp).1) (by rw [z]; exact hb)) (Nat.lt_irrefl _)
structure Turn (P : Program) (w : World) (K : PySem.W.Frag) (tg : Expr) (J : It) (fp : List Addr) (it : Addr) (tn : Nat → Heap → Prop) : Prop where
  mem : it ∈ fp
  obj : ∀ i h, tn i h → ∀ b ∈ fp, ∃ o, h.get? b = some o ∧ ∀ v, o.data ≠ .cell v
  keep : ∀ i h h', tn i h → (∀ b ∈ fp, ∀ o, h.get? b = some o → h'.get? b = some o) → tn i h'
  item : ∀ (X : Cx), X.prog = P → X.w = w → X.K = K → X.calm = true → ∀ (i : Nat) (pins : List (Addr × Obj)) (s : Shared) (σ : St) (H : Hp) (E : Value → Shared → Prop), Inv X pins σ H s → (∀ b ∈ fp, FpOk X pins H b) → tn i s.heap → J.go i H →
    wpAny (model P w) X.A (pyNext (.ref it)) (fun r s1 => ∃ u, r = some u ∧
      wpAny (model P w) X.A (letOwnedTupleGo tg (.ref it) u) (fun _ s2 => ∃ x H', Inv X pins σ H' s2 ∧ RelV x u ∧ J.yld i H x H' ∧ tn (i + 1) s2.heap ∧ ∀ b ∈ fp, H' b = none) E s1) E s
  done : ∀ (X : Cx), X.prog = P → X.w = w → X.K = K → X.calm = true → ∀ (i : Nat) (pins : List (Addr × Obj)) (s : Shared) (σ : St) (H : Hp) (E : Value → Shared → Prop), Inv X pins σ H s → (∀ b ∈ fp, FpOk X pins H b) → tn i s.heap → J.stop i H →
    wpAny (model P w) X.A (pyNext (.ref it)) (fun r s1 => r = none ∧ Inv X pins σ H s1) E s
  self : ∀ (A : Around) (i : Nat) (s : Shared) (Q : Value → Shared → Prop) (E : Value → Shared → Prop), tn i s.heap → Q (.ref it) s → wpAny (model P w) A (pyIter (.ref it)) Q E s
abbrev TI := St → Hp → (It → Hp → Prop) → Prop
def PIE (X : Cx) (pins : List (Addr × Obj)) (σ : St) (tg : Expr) (R : It → Hp → Prop) (itv : Value) (s2 : Shared) : Prop :=
  ∃ (it : Addr) (fp : List Addr) (tn : Nat → Heap → Prop) (J : It) (H' : Hp), itv = .ref it ∧ Inv X pins σ H' s2 ∧ Turn X.prog X.w X.K tg J fp it tn ∧ tn 0 s2.heap ∧ (∀ b ∈ fp, FpOk X pins H' b) ∧ R J H'
def PI (X : Cx) (tg iter : Expr) (wi : TI) : Prop :=
  ∀ (pins : List (Addr × Obj)) (s : Shared) (σ : St) (H : Hp) (R : It → Hp → Prop), Inv X pins σ H s → wi σ H R →
    wpAny (model X.prog X.w) X.A (eval iter X.env) (fun v s1 => wpAny (model X.prog X.w) X.A (pyIter v) (PIE X pins σ tg R) X.xe s1) X.xe s
theorem go_of {M : Model} {A : Around} {E : Value → Shared → Prop} {s : Shared} {tg : Expr} {it : Addr} {u : Value} {o : Obj} {n : String} {vs : Array Value} {Q : Unit → Shared → Prop} (ho : s.heap.get? it = some o) (hc : o.cls = .type n) (hd : o.data = .fields vs)
    (hn : ["enumerate", "zip", "dict_itemiterator", "dict_reverseitemiterator", "odict_iterator", "itertools.zip_longest", "itertools.pairwise"].contains n = false) (hQ : Q () s) : wpAny M A (letOwnedTupleGo tg (.ref it) u) Q E s := by
  unfold letOwnedTupleGo
  cases tg <;> first
    | exact wpAny_pure hQ
    | (cases u <;> first
        | exact wpAny_pure hQ
        | (refine wpAny_bind (wpAny_load ho ?_)
           rw [hc, hd]
           show wpAny M A (if (["enumerate", "zip", "dict_itemiterator", "dict_reverseitemiterator", "odict_iterator", "itertools.zip_longest", "itertools.pairwise"].contains n && vs[0]? == some (rawInt _)) = true then _ else _) Q E s
           rw [if_neg (by intro h; rw [hn, Bool.false_and] at h; cases h)]
           exact wpAny_pure hQ))
def Itl (K : PySem.W.Frag) (a : Addr) : It :=
  ⟨fun i H => ∃ xs x, SqL K H a xs ∧ xs[i]? = some x, fun i H x H' => H' = H ∧ ∀ xs, SqL K H a xs → xs[i]? = some x, fun i H => ∃ xs, SqL K H a xs ∧ xs.length ≤ i⟩
def Itt (K : PySem.W.Frag) (a : Addr) : It :=
  ⟨fun i H => ∃ xs x, SqT K H a xs ∧ xs[i]? = some x, fun i H x H' => H' = H ∧ ∀ xs, SqT K H a xs → xs[i]? = some x, fun i H => ∃ xs, SqT K H a xs ∧ xs.length ≤ i⟩
def Itr (lo : Int) (n : Nat) : It := ⟨fun i _ => i < n, fun i H x H' => H' = H ∧ x = .int (lo + i), fun i _ => n ≤ i⟩
theorem turn_list {P : Program} {w : World} {K : PySem.W.Frag} {tg : Expr} (a it : Addr) : Turn P w K tg (Itl K a) [it] it (fun i h => h.IsListIter it a i) where
  mem := by simp
  obj := fun i h st b hb => by
    have e : b = it := by simpa using hb
    subst e
    obtain ⟨o, e, c, d⟩ := st
    exact ⟨o, e, fun v z => by rw [d] at z; cases z⟩
  keep := fun i h h' st k => st.at fun o e => k it (by simp) o e
  item := by
    intro X hP hw hK hc i pins s σ H E I hf st hg
    subst hP hw hK
    obtain ⟨xs, x, hq, hx⟩ := hg
    obtain ⟨its, rv, p, hz⟩ := I.list hq
    obtain ⟨u, hu, ru⟩ := rv.get hx
    obtain ⟨f0, f1, f2, f3, f4, f5⟩ := hf it (by simp)
    refine wpAny_pyNext_list_item st p.isList (x := u) (by simpa using hu) fun h' st' sb => ?_
    have I1 : Inv X pins σ H { s with heap := h' } := I.turned (t' := s.toks) (fun b o hb e => (sb.2 b hb).trans e) f0 f1 f3 f4 f5
    obtain ⟨o, e, c, d⟩ := id st'
    exact ⟨u, rfl, go_of (s := { s with heap := h' }) e c d (by decide) ⟨x, H, I1, ru, ⟨rfl, fun ys hy => by rw [I.list_inj hy hq]; exact hx⟩, st', fun b hb => (hf b hb).1⟩⟩
  done := by
    intro X hP hw hK hc i pins s σ H E I hf st hg
    subst hP hw hK
    obtain ⟨xs, hq, hx⟩ := hg
    obtain ⟨its, rv, p, hz⟩ := I.list hq
    obtain ⟨f0, f1, f2, f3, f4, f5⟩ := hf it (by simp)
    have hl := rv.length
    exact wpAny_pyNext_list_end (I.ok.hd hc) st p.isList (by simp; omega) fun h' eb => ⟨rfl, I.turned (t' := s.toks) (fun b o hb e => eb b o hb e) f0 f1 f3 f4 f5⟩
  self := fun _ _ _ _ _ st h => wpAny_pyIter_listiter st h
theorem turn_range {P : Program} {w : World} {K : PySem.W.Frag} {tg : Expr} (it : Addr) (lo : Int) (n : Nat) : Turn P w K tg (Itr lo n) [it] it (fun i h => IsRangeIter h it (lo + (i : Nat) * 1) ((n : Int) - (i : Nat)) 1) where
  mem := by simp
  obj := fun i h st b hb => by
    have e : b = it := by simpa using hb
    subst e
    exact ⟨_, st, fun v z => by
      have z' : Data.fields _ = Data.cell v := z
      cases z'⟩
  keep := fun i h h' st k => k it (by simp) _ st
  item := by
    intro X hP hw hK hc i pins s σ H E I hf st hg
    subst hP hw hK
    obtain ⟨f0, f1, f2, f3, f4, f5⟩ := hf it (by simp)
    have W := Walks.range (prog := X.prog) (w := X.w) (I.ok.hd hc) it lo 1 n
    refine W.item i s _ _ hg st fun v h' tk hv st' kk => ?_
    obtain ⟨t, rfl⟩ := hv
    have I1 : Inv X pins σ H { s with heap := h', toks := tk } := I.turned (fun b o hb e => kk b o (by simpa using hb) e) f0 f1 f3 f4 f5
    refine ⟨_, rfl, go_of (s := { s with heap := h', toks := tk }) (n := "range_iterator") st' rfl rfl (by decide) ⟨.int (lo + i), H, I1, ⟨t, ?_⟩, ⟨rfl, rfl⟩, st', fun b hb => (hf b hb).1⟩⟩
    rw [Int.mul_one]
  done := by
    intro X hP hw hK hc i pins s σ H E I hf st hg
    subst hP hw hK
    obtain ⟨f0, f1, f2, f3, f4, f5⟩ := hf it (by simp)
    exact wpAny_pyNext_range_end (I.ok.hd hc) st (by have : n ≤ i := hg; omega) fun h' eb => ⟨rfl, I.turned (t' := s.toks) (fun b o hb e => eb b o hb e) f0 f1 f3 f4 f5⟩
  self := fun _ _ _ _ _ st h => wpAny_pyIter_rangeiter st h
end L2
namespace L2
open PySem PySem.Spec PyProof.Rows
section
variable {X : Cx} {tg : Expr}
def iList (K : PySem.W.Frag) (tl : TE) : TI := fun σ H R => tl σ H fun x H1 => ∃ a, x = .ref a ∧ (∃ xs, SqL K H1 a xs) ∧ R (Itl K a) H1
def iTup (K : PySem.W.Frag) (tl : TE) : TI := fun σ H R => tl σ H fun x H1 => ∃ a, x = .ref a ∧ (∃ xs, SqT K H1 a xs) ∧ R (Itt K a) H1
theorem pi_list {l : Expr} {tl : TE} (hl : PE X l tl) : PI X tg l (iList X.K tl) := by
  intro pins s σ H R I h
  refine thn (hl pins s σ H _ I h) fun v s1 ⟨x, H1, I1, r1, q1⟩ => ?_
  obtain ⟨a, e, ⟨xs, hq⟩, q⟩ := q1
  subst e
  cases r1
  obtain ⟨its, rv, p, hz⟩ := I1.list hq
  refine wpAny_pyIter_list p.isList ?_
  refine ⟨s1.heap.objs.size, [s1.heap.objs.size], _, _, H1, rfl, I1.kept (t' := s1.toks) fun b o e => Heap.get?_push_of_some _ e, turn_list a _, ⟨_, Heap.get?_push_size _ rfl, rfl, rfl⟩, fun b hb => ?_, q⟩
  have e : b = s1.heap.objs.size := by simpa using hb
  subst e
  exact I1.fpOk (Nat.le_refl _) (I1.hok.fresh (Nat.le_refl _))
theorem range_it {pins : List (Addr × Obj)} {σ : St} {H : Hp} {s : Shared} {R : It → Hp → Prop} {E : Value → Shared → Prop} {lo hi : Int} {t u v : Tok} {tk : Nat} (I : Inv X pins σ H s) (h1 : -(2 ^ 62) ≤ lo) (h2 : lo < 2 ^ 62) (h3 : -(2 ^ 62) ≤ hi) (h4 : hi < 2 ^ 62)
    (q : R (Itr lo (hi - lo).toNat) H) : wpAny (model X.prog X.w) X.A (pyIter (.ref s.heap.objs.size)) (PIE X pins σ tg R) E { s with heap := s.heap.push { cls := .type "range", data := .fields #[.int lo t, .int hi u, .int 1 v] }, toks := tk } := by
  refine wpAny_pyIter_range (IsRange.new ..) (small_one h1 h2 h3 h4) ?_
  have I1 : Inv X pins σ H { s with heap := s.heap.push { cls := .type "range", data := .fields #[.int lo t, .int hi u, .int 1 v] }, toks := tk } := I.kept fun b o e => Heap.get?_push_of_some _ e
  refine ⟨(s.heap.push { cls := .type "range", data := .fields #[.int lo t, .int hi u, .int 1 v] }).objs.size, [(s.heap.push { cls := .type "range", data := .fields #[.int lo t, .int hi u, .int 1 v] }).objs.size], _, _, H, rfl,
    I1.kept (t' := tk) fun b o e => Heap.get?_push_of_some _ e, turn_range _ lo (hi - lo).toNat, ?_, fun b hb => ?_, q⟩
  · have e1 : lo + ((0 : Nat) : Int) * 1 = lo := by simp
    have e2 : (((hi - lo).toNat : Nat) : Int) - ((0 : Nat) : Int) = Builtin.Range.rangeSize lo hi 1 := by rw [rangeSize_one]; split <;> omega
    show IsRangeIter _ _ (lo + ((0 : Nat) : Int) * 1) ((((hi - lo).toNat : Nat) : Int) - ((0 : Nat) : Int)) 1
    rw [e1, e2]
    exact Heap.get?_push_size _ rfl
  · have e : b = (s.heap.push { cls := .type "range", data := .fields #[.int lo t, .int hi u, .int 1 v] }).objs.size := by simpa using hb
    subst e
    exact I1.fpOk (Nat.le_refl _) (I1.hok.fresh (Nat.le_refl _))
def iRng1 (ta : TA) : TI := fun σ H R => ta σ H fun vs H1 => ∃ j : Int, vs = [.int j] ∧ -(2 ^ 62) ≤ j ∧ j < 2 ^ 62 ∧ R (Itr 0 j.toNat) H1
def iRng2 (ta : TA) : TI := fun σ H R => ta σ H fun vs H1 => ∃ i j : Int, vs = [.int i, .int j] ∧ (-(2 ^ 62) ≤ i ∧ i < 2 ^ 62 ∧ -(2 ^ 62) ≤ j ∧ j < 2 ^ 62) ∧ R (Itr i (j - i).toNat) H1
theorem pi_range1 {a : Expr} {ta : TA} {p pos : Pos} (hg : Gl X "range") (hm : X.mg "range" = none) (ha : PA X [a] ta) (hs : starEach [a] X.env = [(false, eval a X.env)] := by rfl) : PI X tg (.Call (.Name "range" p) [a] [] pos) (iRng1 ta) := by
  intro pins s σ H R I h
  refine Call_ (ld_blt I hg hm boot_range (PyProof.Rows.callWith_type1 (thn (ha pos pins s σ H _ I h) fun us s1 ⟨vs, H1, I1, r1, q1⟩ => ?_) hs rfl))
  obtain ⟨j, e, q1, q2, q⟩ := q1
  subst e
  cases r1 with
  | cons r rr =>
    cases rr
    obtain ⟨t, rfl⟩ := r
    exact call_range_1 (range_it I1 (by omega) (by omega) q1 q2 (by simpa using q))
theorem pi_range2 {a b : Expr} {ta : TA} {p pos : Pos} (hg : Gl X "range") (hm : X.mg "range" = none) (ha : PA X [a, b] ta) (hs : starEach [a, b] X.env = [(false, eval a X.env), (false, eval b X.env)] := by rfl) (hs2 : starEach [b] X.env = [(false, eval b X.env)] := by rfl) :
    PI X tg (.Call (.Name "range" p) [a, b] [] pos) (iRng2 ta) := by
  intro pins s σ H R I h
  refine Call_ (ld_blt I hg hm boot_range (PyProof.Rows.callWith_type1 (thn (ha pos pins s σ H _ I h) fun us s1 ⟨vs, H1, I1, r1, q1⟩ => ?_) (by rw [hs, hs2]) (by rw [hs2]; rfl)))
  obtain ⟨i, j, e, ⟨q1, q2, q3, q4⟩, q⟩ := q1
  subst e
  cases r1 with
  | cons r rr =>
    cases rr with
    | cons r' rr =>
      cases rr
      obtain ⟨t, rfl⟩ := r
      obtain ⟨t', rfl⟩ := r'
      exact call_range_2 (range_it I1 q1 q2 q3 q4 q)
def tFor (wi : TI) (g : TG) (tb : TS) : TS := fun D σ H => wi σ H fun J H1 => ∃ W : Nat → Nat → St → Hp → Prop, (∃ m, W 0 m σ H1) ∧ ∀ i m σ H, W i m σ H →
  (J.stop i H ∧ D.nx σ H) ∨ (J.go i H ∧ ∃ N : St → Hp → Prop, (∀ σ' H', N σ' H' → ∃ m', m' < m ∧ W (i + 1) m' σ' H') ∧ ∀ x H', J.yld i H x H' → g x σ H' fun σ2 H2 => tb { D with nx := N, ct := N, bk := D.nx } σ2 H2)
def pinsAt (fp : List Addr) (h : Heap) : List (Addr × Obj) := fp.filterMap fun b => (h.get? b).map fun o => (b, o)
theorem mem_pinsAt {fp : List Addr} {h : Heap} {b : Addr} {o : Obj} (hb : b ∈ fp) (e : h.get? b = some o) : (b, o) ∈ pinsAt fp h := List.mem_filterMap.mpr ⟨b, hb, by rw [e]; rfl⟩
theorem of_pinsAt {fp : List Addr} {h : Heap} {p : Addr × Obj} (hp : p ∈ pinsAt fp h) : p.1 ∈ fp ∧ h.get? p.1 = some p.2 := by
  obtain ⟨b, hb, e⟩ := List.mem_filterMap.mp hp
  cases q : h.get? b with
  | none => rw [q] at e; cases e
  | some o =>
    rw [q] at e
    have e' : (b, o) = p := Option.some.inj e
    subst e'
    exact ⟨hb, q⟩
theorem Inv.pinned {pins : List (Addr × Obj)} {σ : St} {H : Hp} {s : Shared} {fp : List Addr} (I : Inv X pins σ H s) (hf : ∀ b ∈ fp, FpOk X pins H b) (ho : ∀ b ∈ fp, ∃ o, s.heap.get? b = some o ∧ ∀ v, o.data ≠ .cell v) : Inv X (pins ++ pinsAt fp s.heap) σ H s :=
  I.pins_of fun p hp => (List.mem_append.mp hp).elim (fun z => I.pin p (List.mem_append_right _ z)) fun z => by
    obtain ⟨hb, e⟩ := of_pinsAt z
    obtain ⟨f0, f1, f2, _⟩ := hf p.1 hb
    obtain ⟨o, e', d⟩ := ho p.1 hb
    rw [e] at e'; cases e'
    exact ⟨e, f0, f1, f2, d⟩
theorem Inv.unpinned {pins pl : List (Addr × Obj)} {σ : St} {H : Hp} {s : Shared} (I : Inv X (pins ++ pl) σ H s) : Inv X pins σ H s := I.pins_of fun p hp => I.pin p (List.mem_append_right _ (List.mem_append_left _ hp))
theorem ps_for {iter : Expr} {body : List Stmt} {wi : TI} {g : TG} {tb : TS} {pos : Pos} (hp : PassesOwn (model X.prog X.w) X.A X.env X.xe) (hc : X.calm = true) (hi : PI X tg iter wi) (hg : PG X tg g) (hb : PSs X body tb)
    (hs : ∀ x, foldedSetIterable iter X.env x = pure x := by intro _; rfl) : PS X (.For tg iter body [] pos) (tFor wi g tb) := by
  intro pins s σ H D I h
  refine wpAny_For (thn (hi pins s σ H _ I h) fun v s1 h1 => thn h1 fun itv s2 h2 => ?_) hs
  obtain ⟨it, fp, tn, J, H2, e, I2, T, st2, f2, W, ⟨m0, w0⟩, turn⟩ := h2
  subst e
  -- what stays true of the iterator's objects through the loop
  have stat : ∀ {H' : Hp}, (∀ b ∈ fp, H' b = none) → ∀ b ∈ fp, FpOk X pins H' b := fun hn b hb => ⟨hn b hb, (f2 b hb).2⟩
  refine codeAny_forLoop_any (fun n s' => ∃ i σ' H', Inv X pins σ' H' s' ∧ tn i s'.heap ∧ (∀ b ∈ fp, H' b = none) ∧ W i n σ' H') ?_ m0 ⟨0, σ, H2, I2, st2, fun b hb => (f2 b hb).1, w0⟩
  rintro n s3 ⟨i, σ3, H3, I3, st3, fr3, w3⟩
  rcases turn i n σ3 H3 w3 with ⟨stop, qn⟩ | ⟨go, N, hN, step⟩
  · refine wpAny_passesOwn hp (thn (T.done X rfl rfl rfl hc i pins s3 σ3 H3 X.xe I3 (stat fr3) st3 stop) fun r s4 ⟨hr, I4⟩ => ?_)
    subst hr
    exact wpAny_execs_nil ⟨σ3, H3, I4, qn⟩
  · refine wpAny_passesOwn hp (thn (T.item X rfl rfl rfl hc i pins s3 σ3 H3 X.xe I3 (stat fr3) st3 go) fun r s4 ⟨u, hr, h4⟩ => ?_)
    subst hr
    refine wpAny_passesOwn hp (thn h4 fun _ s5 ⟨x, H5, I5, r5, y5, st5, fr5⟩ => ?_)
    have I5' := I5.pinned (stat fr5) (T.obj _ _ st5)
    refine wpAny_passesOwn hp (thn (hg _ s5 σ3 H5 x u _ I5' r5 (step x H5 y5)) fun _ s6 ⟨σ6, H6, I6, q6⟩ => ?_)
    refine wpAny_passesOwn hp (thn (hb _ s6 σ6 H6 _ I6 q6) fun f s7 q7 => ?_)
    have again : ∀ {σ7 : St} {H7 : Hp}, Inv X (pins ++ pinsAt fp s5.heap) σ7 H7 s7 → N σ7 H7 → ∃ m, m < n ∧ ∃ i σ' H', Inv X pins σ' H' s7 ∧ tn i s7.heap ∧ (∀ b ∈ fp, H' b = none) ∧ W i m σ' H' := fun {σ7 H7} I7 n7 => by
      obtain ⟨m', hm, w7⟩ := hN σ7 H7 n7
      refine ⟨m', hm, i + 1, σ7, H7, I7.unpinned, T.keep _ _ _ st5 fun b hb o e => (I7.pin (b, o) (List.mem_append_right _ (List.mem_append_right _ (mem_pinsAt hb e)))).1, fun b hb => ?_, w7⟩
      obtain ⟨o, e, d⟩ := T.obj _ _ st5 b hb
      exact (I7.pin (b, o) (List.mem_append_right _ (List.mem_append_right _ (mem_pinsAt hb e)))).2.1
    cases f with
    | next => obtain ⟨σ7, H7, I7, n7⟩ := q7; exact again I7 n7
    | cont => obtain ⟨σ7, H7, I7, n7⟩ := q7; exact again I7 n7
    | brk => obtain ⟨σ7, H7, I7, q7⟩ := q7; exact ⟨σ7, H7, I7.unpinned, q7⟩
    | ret v => obtain ⟨x7, σ7, H7, I7, r7, q7⟩ := q7; exact ⟨x7, σ7, H7, I7.unpinned, r7, q7⟩
end
theorem for_list {K : PySem.W.Frag} {a : Addr} {xs : List V} {g : TG} {tb : TS} {D : Ends} {σ : St} {H : Hp} (Pv : Nat → St → Hp → Prop) (h0 : Pv 0 σ H) (hl : ∀ i σ H, i ≤ xs.length → Pv i σ H → SqL K H a xs)
    (hs : ∀ i x σ H, xs[i]? = some x → Pv i σ H → g x σ H fun σ2 H2 => tb { D with nx := Pv (i + 1), ct := Pv (i + 1), bk := D.nx } σ2 H2) (hd : ∀ σ H, Pv xs.length σ H → D.nx σ H) :
    ∃ W : Nat → Nat → St → Hp → Prop, (∃ m, W 0 m σ H) ∧ ∀ i m σ H, W i m σ H →
      ((Itl K a).stop i H ∧ D.nx σ H) ∨ ((Itl K a).go i H ∧ ∃ N : St → Hp → Prop, (∀ σ' H', N σ' H' → ∃ m', m' < m ∧ W (i + 1) m' σ' H') ∧ ∀ x H', (Itl K a).yld i H x H' → g x σ H' fun σ2 H2 => tb { D with nx := N, ct := N, bk := D.nx } σ2 H2) := by
  refine ⟨fun i m σ H => m = xs.length - i ∧ i ≤ xs.length ∧ Pv i σ H, ⟨xs.length, by simp, Nat.zero_le _, h0⟩, ?_⟩
  rintro i m σ H ⟨rfl, hi, p⟩
  have q := hl i σ H hi p
  by_cases hlt : i < xs.length
  · refine .inr ⟨⟨xs, xs[i], q, by simp [hlt]⟩, Pv (i + 1), fun σ' H' p' => ⟨xs.length - (i + 1), by omega, rfl, hlt, p'⟩, fun x H' y => ?_⟩
    obtain ⟨e, y⟩ := y
    subst e
    exact hs i x σ _ (y xs q) p
  · have e : i = xs.length := by omega
    subst e
    exact .inl ⟨⟨xs, q, Nat.le_refl _⟩, hd σ H p⟩
theorem for_range {lo : Int} {n : Nat} {g : TG} {tb : TS} {D : Ends} {σ : St} {H : Hp} (Pv : Nat → St → Hp → Prop) (h0 : Pv 0 σ H)
    (hs : ∀ i σ H, i < n → Pv i σ H → g (.int (lo + i)) σ H fun σ2 H2 => tb { D with nx := Pv (i + 1), ct := Pv (i + 1), bk := D.nx } σ2 H2) (hd : ∀ σ H, Pv n σ H → D.nx σ H) :
    ∃ W : Nat → Nat → St → Hp → Prop, (∃ m, W 0 m σ H) ∧ ∀ i m σ H, W i m σ H →
      ((Itr lo n).stop i H ∧ D.nx σ H) ∨ ((Itr lo n).go i H ∧ ∃ N : St → Hp → Prop, (∀ σ' H', N σ' H' → ∃ m', m' < m ∧ W (i + 1) m' σ' H') ∧ ∀ x H', (Itr lo n).yld i H x H' → g x σ H' fun σ2 H2 => tb { D with nx := N, ct := N, bk := D.nx } σ2 H2) := by
  refine ⟨fun i m σ H => m = n - i ∧ i ≤ n ∧ Pv i σ H, ⟨n, by simp, Nat.zero_le _, h0⟩, ?_⟩
  rintro i m σ H ⟨rfl, hi, p⟩
  by_cases hlt : i < n
  · refine .inr ⟨hlt, Pv (i + 1), fun σ' H' p' => ⟨n - (i + 1), by omega, rfl, hlt, p'⟩, fun x H' y => ?_⟩
    obtain ⟨e, y⟩ := y
    subst e y
    exact hs i σ _ hlt p
  · have e : i = n := by omega
    subst e
    exact .inl ⟨Nat.le_refl _, hd σ H p⟩
end L2
namespace L2
open PySem PySem.Spec PyProof.Rows
abbrev R2 := V → V → Hp → VK → Prop
def OpR (X : Cx) (f : Value → Value → Sem Value) (r : R2) : Prop :=
  ∀ (pins : List (Addr × Obj)) (s : Shared) (σ : St) (H : Hp) (x y : V) (v u : Value) (Q : VK), Inv X pins σ H s → RelV x v → RelV y u → r x y H Q →
    wpAny (model X.prog X.w) X.A (f v u) (EP X pins σ Q) X.xe s
def UnR (X : Cx) (f : Value → Sem Value) (r : V → Hp → VK → Prop) : Prop :=
  ∀ (pins : List (Addr × Obj)) (s : Shared) (σ : St) (H : Hp) (x : V) (v : Value) (Q : VK), Inv X pins σ H s → RelV x v → r x H Q →
    wpAny (model X.prog X.w) X.A (f v) (EP X pins σ Q) X.xe s
def CallR (X : Cx) (f : Value) (r : List V → Hp → VK → Prop) : Prop :=
  ∀ (pins : List (Addr × Obj)) (s : Shared) (σ : St) (H : Hp) (xs : List V) (us : List Value) (Q : VK), Inv X pins σ H s → Vals xs us → r xs H Q →
    wpAny (model X.prog X.w) X.A (call f us) (EP X pins σ Q) X.xe s
def tOp (r : R2) (ta tb : TE) : TE := fun σ H Q => ta σ H fun x H1 => tb σ H1 fun y H2 => r x y H2 Q
def tUn (r : V → Hp → VK → Prop) (ta : TE) : TE := fun σ H Q => ta σ H fun x H1 => r x H1 Q
def rI (C : Int → Int → Prop) (g : Int → Int → V) : R2 := fun x y H Q => ∃ i j, x = .int i ∧ y = .int j ∧ C i j ∧ Q (g i j) H
def rI0 (g : Int → Int → V) : R2 := fun x y H Q => ∃ i j, x = .int i ∧ y = .int j ∧ Q (g i j) H
def rU (g : Int → V) : V → Hp → VK → Prop := fun x H Q => ∃ i, x = .int i ∧ Q (g i) H
section
variable {X : Cx} {a b c : Expr} {ta tb tc : TE} {pos : Pos}
theorem binT (ha : PE X a ta) (hb : PE X b tb) {pins : List (Addr × Obj)} {s : Shared} {σ : St} {H : Hp} {R : V → V → Hp → Prop} (I : Inv X pins σ H s)
    (h : ta σ H fun x H1 => tb σ H1 fun y H2 => R x y H2) {Q : Value → Shared → Prop} {f : Value → Value → Sem Value}
    (hf : ∀ v u s2 x y H2, Inv X pins σ H2 s2 → RelV x v → RelV y u → R x y H2 → wpAny (model X.prog X.w) X.A (f v u) Q X.xe s2) :
    wpAny (model X.prog X.w) X.A (eval a X.env) (fun v s₁ => wpAny (model X.prog X.w) X.A (eval b X.env) (fun u s₂ => wpAny (model X.prog X.w) X.A (f v u) Q X.xe s₂) X.xe s₁) X.xe s := by
  refine thn (ha pins s σ H _ I h) fun v s1 ⟨x, H1, I1, r1, q1⟩ => ?_
  refine thn (hb pins s1 σ H1 _ I1 q1) fun u s2 ⟨y, H2, I2, r2, q2⟩ => ?_
  exact hf v u s2 x y H2 I2 r1 r2 q2
theorem pe_op {op : Operator} {r : R2} (ho : OpR X (binaryOp op) r) (ha : PE X a ta) (hb : PE X b tb) : PE X (.BinOp a op b pos) (tOp r ta tb) := by
  intro pins s σ H Q I h
  exact wpAny_BinOp (binT ha hb I h fun v u s2 x y H2 I2 rx ry q => ho pins s2 σ H2 x y v u Q I2 rx ry q)
theorem pe_un {op : UnaryOp} {r : V → Hp → VK → Prop} (ho : UnR X (unaryOp op) r) (ha : PE X a ta) : PE X (.UnaryOp op a pos) (tUn r ta) := by
  intro pins s σ H Q I h
  exact UnaryOp_ (thn (ha pins s σ H _ I h) fun v s1 ⟨x, H1, I1, r1, q1⟩ => ho pins s1 σ H1 x v Q I1 r1 q1)
theorem opI {f : Value → Value → Sem Value} {C : Int → Int → Prop} {g : Int → Int → Int}
    (rule : ∀ (i j : Int) (t u : Tok) (s : Shared) (Q : Value → Shared → Prop) (E : Value → Shared → Prop), C i j → Q (.int (g i j) s.toks) { s with toks := s.toks + 1 } → wpAny (model X.prog X.w) X.A (f (.int i t) (.int j u)) Q E s) :
    OpR X f (rI C fun i j => .int (g i j)) := by
  intro pins s σ H x y v u Q I rx ry h
  obtain ⟨i, j, rfl, rfl, hc, q⟩ := h
  obtain ⟨t, rfl⟩ := rx
  obtain ⟨t', rfl⟩ := ry
  exact rule i j t t' s _ _ hc ⟨.int (g i j), H, I.tok _, ⟨_, rfl⟩, q⟩
theorem opI0 {f : Value → Value → Sem Value} {g : Int → Int → Int}
    (rule : ∀ (i j : Int) (t u : Tok) (s : Shared) (Q : Value → Shared → Prop) (E : Value → Shared → Prop), Q (.int (g i j) s.toks) { s with toks := s.toks + 1 } → wpAny (model X.prog X.w) X.A (f (.int i t) (.int j u)) Q E s) :
    OpR X f (rI0 fun i j => .int (g i j)) := by
  intro pins s σ H x y v u Q I rx ry h
  obtain ⟨i, j, rfl, rfl, q⟩ := h
  obtain ⟨t, rfl⟩ := rx
  obtain ⟨t', rfl⟩ := ry
  exact rule i j t t' s _ _ ⟨.int (g i j), H, I.tok _, ⟨_, rfl⟩, q⟩
theorem opB0 {f : Value → Value → Sem Value} {g : Int → Int → Bool}
    (rule : ∀ (i j : Int) (t u : Tok) (s : Shared) (Q : Value → Shared → Prop) (E : Value → Shared → Prop), Q (.bool (g i j)) s → wpAny (model X.prog X.w) X.A (f (.int i t) (.int j u)) Q E s) :
    OpR X f (rI0 fun i j => .bl (g i j)) := by
  intro pins s σ H x y v u Q I rx ry h
  obtain ⟨i, j, rfl, rfl, q⟩ := h
  obtain ⟨t, rfl⟩ := rx
  obtain ⟨t', rfl⟩ := ry
  exact rule i j t t' s _ _ ⟨.bl (g i j), H, I, rfl, q⟩
def CDiv (i j : Int) : Prop := 0 < j ∧ j < 1073741824
def CPow (i j : Int) : Prop := 0 ≤ j ∧ j ≤ 1000000 ∧ i.natAbs < 2 ^ 64
def CMul (i j : Int) : Prop := (-(2 ^ 64) < i ∧ i < 2 ^ 64) ∨ (-(2 ^ 64) < j ∧ j < 2 ^ 64)
theorem CMul.ok {i j : Int} (h : CMul i j) : IntMulOk i j := by
  rcases h with ⟨h1, h2⟩ | ⟨h1, h2⟩
  · exact .of_left (intBits_le_64 h1 h2)
  · exact .of_right (intBits_le_64 h1 h2)
theorem op_add : OpR X (binaryOp .Add) (rI0 fun i j => .int (i + j)) := opI0 fun _ _ _ _ _ _ _ q => add_int q
theorem op_sub : OpR X (binaryOp .Sub) (rI0 fun i j => .int (i - j)) := opI0 fun _ _ _ _ _ _ _ q => sub_int q
theorem op_mul : OpR X (binaryOp .Mult) (rI CMul fun i j => .int (i * j)) := opI fun _ _ _ _ _ _ _ hc q => mul_int q hc.ok
theorem op_fdiv : OpR X (binaryOp .FloorDiv) (rI CDiv fun i j => .int (i / j)) := opI fun i j _ _ _ _ _ hc q => by
  have h1 : (0 : Int) < j := hc.1
  have h2 : j < 1073741824 := hc.2
  exact floordiv_int (by omega) (by rw [Int.fdiv_eq_ediv_of_nonneg i (by omega)]; exact q) (.inl (PyProof.noPylong_small (by omega)))
theorem op_mod : OpR X (binaryOp .Mod) (rI (fun _ j => 0 < j) fun i j => .int (i % j)) := opI fun i j _ _ _ _ _ hc q => by
  have h1 : (0 : Int) < j := hc
  exact mod_int' (by omega) (by rw [Int.fmod_eq_emod_of_nonneg i (by omega)]; exact q)
theorem iop_add : OpR X (inplaceOp .Add) (rI0 fun i j => .int (i + j)) := opI0 fun _ _ _ _ _ _ _ q => iadd_int q
theorem unI {f : Value → Sem Value} {g : Int → Int}
    (rule : ∀ (i : Int) (t : Tok) (s : Shared) (Q : Value → Shared → Prop) (E : Value → Shared → Prop), Q (.int (g i) s.toks) { s with toks := s.toks + 1 } → wpAny (model X.prog X.w) X.A (f (.int i t)) Q E s) :
    UnR X f (rU fun i => .int (g i)) := by
  intro pins s σ H x v Q I rx h
  obtain ⟨i, rfl, q⟩ := h
  obtain ⟨t, rfl⟩ := rx
  exact rule i t s _ _ ⟨.int (g i), H, I.tok _, ⟨_, rfl⟩, q⟩
theorem un_neg : UnR X (unaryOp .USub) (rU fun i => .int (-i)) := unI fun _ _ _ _ _ q => neg_int q
end
def scal : V → V → Bool
  | .non, .non => true | .non, .int _ => true | .int _, .non => true | .non, .bl _ => true | .bl _, .non => true | .non, .str _ => true | .str _, .non => true
  | .int _, .int _ => true | .bl _, .bl _ => true | .str _, .str _ => true | .byt _, .byt _ => true
  | .int _, .str _ => true | .str _, .int _ => true | .bl _, .str _ => true | .str _, .bl _ => true
  | _, _ => false
def rEq : R2 := fun x y H Q => scal x y = true ∧ Q (.bl (decide (x = y))) H
def rNe : R2 := fun x y H Q => scal x y = true ∧ Q (.bl (!decide (x = y))) H
theorem dec_int {i j : Int} : decide (V.int i = V.int j) = (i == j) := by
  rw [Bool.eq_iff_iff]
  simp
theorem dec_bl {i j : Bool} : decide (V.bl i = V.bl j) = (i == j) := by
  rw [Bool.eq_iff_iff]
  simp
theorem dec_str {i j : Str} : decide (V.str i = V.str j) = (i == j) := by
  rw [Bool.eq_iff_iff]
  simp
theorem dec_byt {i j : Array UInt8} : decide (V.byt i = V.byt j) = (i.toList == j.toList) := by
  rw [Bool.eq_iff_iff]
  cases i
  cases j
  simp
section
variable {X : Cx} {a b c : Expr} {ta tb tc : TE} {pos : Pos}
theorem fin_bl {pins : List (Addr × Obj)} {σ : St} {H : Hp} {s : Shared} {Q : VK} {k k' : Bool} (I : Inv X pins σ H s) (q : Q (.bl k) H) (e : k = k') : EP X pins σ Q (.bool k') s := by
  subst e
  exact ⟨.bl k, H, I, rfl, q⟩
theorem op_eq : OpR X (compareOp .Eq) rEq := by
  intro pins s σ H x y v u Q I rx ry h
  obtain ⟨hs, q⟩ := h
  cases x with
  | non =>
    cases rx
    cases y with
    | non => cases ry; exact PySem.EqNone.eq_none_none (fin_bl I q (by simp))
    | bl j => cases ry; exact PySem.EqNone.eq_none_bool (fin_bl I q (by simp))
    | int j => obtain ⟨t', rfl⟩ := ry; exact PySem.EqNone.eq_none_int (fin_bl I q (by simp))
    | str j => obtain ⟨t', rfl⟩ := ry; exact PySem.EqNone.eq_none_str (fin_bl I q (by simp))
    | _ => exact absurd (show false = true from hs) Bool.false_ne_true
  | bl i =>
    cases rx
    cases y with
    | non => cases ry; exact PySem.EqNone.eq_bool_none (fin_bl I q (by simp))
    | bl j => cases ry; exact eq_bool (fin_bl I q dec_bl)
    | str j => obtain ⟨t', rfl⟩ := ry; exact PySem.EqMixed.eq_bool_str (fin_bl I q (by simp))
    | _ => exact absurd (show false = true from hs) Bool.false_ne_true
  | int i =>
    obtain ⟨t, rfl⟩ := rx
    cases y with
    | non => cases ry; exact PySem.EqNone.eq_int_none (fin_bl I q (by simp))
    | int j => obtain ⟨t', rfl⟩ := ry; exact eq_int (fin_bl I q dec_int)
    | str j => obtain ⟨t', rfl⟩ := ry; exact PySem.EqMixed.eq_int_str (fin_bl I q (by simp))
    | _ => exact absurd (show false = true from hs) Bool.false_ne_true
  | str i =>
    obtain ⟨t, rfl⟩ := rx
    cases y with
    | non => cases ry; exact PySem.EqNone.eq_str_none (fin_bl I q (by simp))
    | bl j => cases ry; exact PySem.EqMixed.eq_str_bool (fin_bl I q (by simp))
    | int j => obtain ⟨t', rfl⟩ := ry; exact PySem.EqMixed.eq_str_int (fin_bl I q (by simp))
    | str j => obtain ⟨t', rfl⟩ := ry; exact eq_str (fin_bl I q dec_str)
    | _ => exact absurd (show false = true from hs) Bool.false_ne_true
  | byt i =>
    obtain ⟨t, rfl⟩ := rx
    cases y with
    | byt j => obtain ⟨t', rfl⟩ := ry; exact PySem.W.eq_bytes (fin_bl I q dec_byt)
    | _ => exact absurd (show false = true from hs) Bool.false_ne_true
  | _ => cases y <;> exact absurd (show false = true from hs) Bool.false_ne_true
theorem op_ne : OpR X (compareOp .NotEq) rNe := by
  intro pins s σ H x y v u Q I rx ry h
  obtain ⟨hs, q⟩ := h
  cases x with
  | non =>
    cases rx
    cases y with
    | non => cases ry; exact PySem.EqNone.ne_none_none (fin_bl I q (by simp))
    | bl j => cases ry; exact PySem.EqNone.ne_none_bool (fin_bl I q (by simp))
    | int j => obtain ⟨t', rfl⟩ := ry; exact PySem.EqNone.ne_none_int (fin_bl I q (by simp))
    | str j => obtain ⟨t', rfl⟩ := ry; exact PySem.EqNone.ne_none_str (fin_bl I q (by simp))
    | _ => exact absurd (show false = true from hs) Bool.false_ne_true
  | bl i =>
    cases rx
    cases y with
    | non => cases ry; exact PySem.EqNone.ne_bool_none (fin_bl I q (by simp))
    | bl j => cases ry; exact ne_bool (fin_bl I q (congrArg not dec_bl))
    | str j => obtain ⟨t', rfl⟩ := ry; exact PySem.EqMixed.ne_bool_str (fin_bl I q (by simp))
    | _ => exact absurd (show false = true from hs) Bool.false_ne_true
  | int i =>
    obtain ⟨t, rfl⟩ := rx
    cases y with
    | non => cases ry; exact PySem.EqNone.ne_int_none (fin_bl I q (by simp))
    | int j => obtain ⟨t', rfl⟩ := ry; exact ne_int (fin_bl I q (congrArg not dec_int))
    | str j => obtain ⟨t', rfl⟩ := ry; exact PySem.EqMixed.ne_int_str (fin_bl I q (by simp))
    | _ => exact absurd (show false = true from hs) Bool.false_ne_true
  | str i =>
    obtain ⟨t, rfl⟩ := rx
    cases y with
    | non => cases ry; exact PySem.EqNone.ne_str_none (fin_bl I q (by simp))
    | bl j => cases ry; exact PySem.EqMixed.ne_str_bool (fin_bl I q (by simp))
    | int j => obtain ⟨t', rfl⟩ := ry; exact PySem.EqMixed.ne_str_int (fin_bl I q (by simp))
    | str j => obtain ⟨t', rfl⟩ := ry; exact ne_str (fin_bl I q (congrArg not dec_str))
    | _ => exact absurd (show false = true from hs) Bool.false_ne_true
  | byt i =>
    obtain ⟨t, rfl⟩ := rx
    cases y with
    | byt j => obtain ⟨t', rfl⟩ := ry; exact PySem.W.ne_bytes (fin_bl I q (congrArg not dec_byt))
    | _ => exact absurd (show false = true from hs) Bool.false_ne_true
  | _ => cases y <;> exact absurd (show false = true from hs) Bool.false_ne_true
theorem op_lt : OpR X (compareOp .Lt) (rI0 fun i j => .bl (decide (i < j))) := opB0 fun _ _ _ _ _ _ _ q => lt_int q
theorem op_gt : OpR X (compareOp .Gt) (rI0 fun i j => .bl (decide (j < i))) := opB0 fun _ _ _ _ _ _ _ q => gt_int q
theorem op_ge : OpR X (compareOp .GtE) (rI0 fun i j => .bl (decide (j ≤ i))) := opB0 fun _ _ _ _ _ _ _ q => ge_int q
theorem op_notN : OpR X (compareOp .IsNot) (fun x y H Q => y = .non ∧ Q (.bl (!decide (x = .non))) H) := by
  intro pins s σ H x y v u Q I rx ry h
  obtain ⟨rfl, q⟩ := h
  cases ry
  refine isnot_none_gen (fin_bl I q ?_)
  cases x <;> first
    | (cases rx; rfl)
    | (obtain ⟨t, rfl⟩ := rx; rfl)
theorem nomark (b : Expr) {op : CmpOp} (h : op ≠ .In := by decide) (h2 : op ≠ .NotIn := by decide) : behindInMarks op b = false := by
  have e1 : (op == CmpOp.In) = false := by cases op <;> first | rfl | exact absurd rfl h
  have e2 : (op == CmpOp.NotIn) = false := by cases op <;> first | rfl | exact absurd rfl h2
  cases b <;> simp [behindInMarks, e1, e2]
theorem pe_cmpR {op : CmpOp} {r : R2} (ho : OpR X (compareOp op) r) (ha : PE X a ta) (hb : PE X b tb) (hm : behindInMarks op b = false) : PE X (.Compare a [op] [b] pos) (tOp r ta tb) := by
  intro pins s σ H Q I h
  exact wpAny_Compare1 (binT ha hb I h fun v u s2 x y H2 I2 rx ry q => ho pins s2 σ H2 x y v u Q I2 rx ry q) hm
def tTest (t : TE) : TT := fun σ H Q => t σ H fun x H' => ∃ k, x = .bl k ∧ Q k H'
theorem pt_cmpR {op : CmpOp} {r : R2} (ho : OpR X (compareOp op) r) (ha : PE X a ta) (hb : PE X b tb) (hm : behindInMarks op b = false) : PT X (.Compare a [op] [b] pos) (tTest (tOp r ta tb)) := by
  intro pins s σ H Q I h
  refine wpAny_isTrue_Compare1 (thn (ha pins s σ H _ I h) fun v s1 ⟨x, H1, I1, r1, q1⟩ => thn (hb pins s1 σ H1 _ I1 q1) fun u s2 ⟨y, H2, I2, r2, q2⟩ =>
    thn (ho pins s2 σ H2 x y v u _ I2 r1 r2 q2) fun c s3 ⟨z, H3, I3, r3, k, e, q3⟩ => ?_) hm
  subst e
  cases r3
  exact wpAny_truthy_bool ⟨H3, I3, q3⟩
theorem line63 : (sizeLine : Nat) < 2 ^ 63 := by rw [sizeLine_eq]; decide
theorem vals1 {x : V} {us : List Value} (r : Vals [x] us) : ∃ u, us = [u] ∧ RelV x u := by
  cases r with
  | cons r1 r2 => cases r2; exact ⟨_, rfl, r1⟩
theorem vals2 {x y : V} {us : List Value} (r : Vals [x, y] us) : ∃ u w', us = [u, w'] ∧ RelV x u ∧ RelV y w' := by
  cases r with
  | cons r1 r2 =>
    cases r2 with
    | cons r3 r4 => cases r4; exact ⟨_, _, rfl, r1, r3⟩
theorem call_abs : CallR X (.builtin "abs") (fun xs H Q => ∃ i, xs = [.int i] ∧ Q (.int (if i < 0 then -i else i)) H) := by
  intro pins s σ H xs us Q I r h
  obtain ⟨i, rfl, q⟩ := h
  obtain ⟨u, rfl, t, rfl⟩ := vals1 r
  exact call_abs_int fun u tk => ⟨.int (if i < 0 then -i else i), H, I.tok _, ⟨_, rfl⟩, q⟩
theorem call_max2 (hc : X.calm = true) : CallR X (.builtin "max") (fun xs H Q => ∃ i j, xs = [.int i, .int j] ∧ Q (.int (if j > i then j else i)) H) := by
  intro pins s σ H xs us Q I r h
  obtain ⟨i, j, rfl, q⟩ := h
  obtain ⟨u, w', rfl, ⟨t, rfl⟩, ⟨t', rfl⟩⟩ := vals2 r
  refine max_two_ints (I.ok.hd hc) fun h' tk k => ⟨_, H, I.kept k, ?_, q⟩
  by_cases hj : j > i
  · rw [if_pos hj, if_pos hj]; exact ⟨_, rfl⟩
  · rw [if_neg hj, if_neg hj]; exact ⟨_, rfl⟩
theorem call_int1 : CallR X (.type "int") (fun xs H Q => (∃ i, xs = [.int i] ∧ Q (.int i) H) ∨ ∃ k, xs = [.bl k] ∧ Q (.int (if k then 1 else 0)) H) := by
  intro pins s σ H xs us Q I r h
  rcases h with ⟨i, rfl, q⟩ | ⟨k, rfl, q⟩
  · obtain ⟨u, rfl, t, rfl⟩ := vals1 r
    exact call_int_int ⟨.int i, H, I, ⟨_, rfl⟩, q⟩
  · obtain ⟨u, rfl, r1⟩ := vals1 r
    cases r1
    exact call_int_bool ⟨.int (if k then 1 else 0), H, I.tok _, ⟨_, rfl⟩, q⟩
end
end L2
namespace L2
open PySem PySem.Spec PyProof.Rows
structure ObjM (h : Heap) (x dx C : Addr) (mA : Str → Option Value) : Prop where
  obj : h.get? x = some (PySem.W.instObj C dx)
  ns : h.Ns1 dx mA
  ne : dx ≠ x
theorem lookIn_ns {h : Heap} {dx : Addr} {mA : Str → Option Value} (n : h.Ns1 dx mA) : ∃ od, h.get? dx = some od ∧ ∀ name, PySem.W.lookIn name od = some (mA name) := by
  obtain ⟨o, es, ep, ho, hd, hk, _, hm⟩ := n
  refine ⟨o, ho, fun name => ?_⟩
  have e := hm name
  unfold nsFind findBy at e
  rw [← Array.find?_toList] at e
  unfold PySem.W.lookIn
  rw [hd]
  dsimp only
  split
  · rename_i y q
    rw [q] at e
    exact congrArg some e
  · rename_i q
    rw [q] at e
    have a : es.toList.any (·.refKey) = false := by
      rw [List.any_eq_false]
      intro y hy
      obtain ⟨z, t, hkey⟩ := hk y (Array.mem_toList_iff.mp hy)
      simp [DictEntry.refKey, hkey]
    have a' : ¬ es.toList.any (·.refKey) = true := by rw [a]; exact Bool.false_ne_true
    rw [if_neg a']
    exact congrArg some e
theorem ObjM.look {h : Heap} {x dx C : Addr} {mA : Str → Option Value} (I : ObjM h x dx C mA) : ∃ od, PySem.W.InstAt h x (PySem.W.instObj C dx) C (some od) ∧ ∀ name, PySem.W.lookIn name od = some (mA name) :=
  let ⟨od, ho, hl⟩ := lookIn_ns I.ns
  ⟨od, ⟨I.obj, rfl, rfl, ho⟩, hl⟩
section
variable {prog : Program} {w : World} {A : Around} {E : Value → Shared → Prop} {s : Shared} {K : PySem.W.Frag} {x dx C f : Addr} {mA : Str → Option Value} {name : Str} {v : Value}
theorem get_map {expr : Bool} {Q : Value → Shared → Prop} (X : K.In s.heap) (I : ObjM s.heap x dx C mA) (hg : PySem.W.plainGet K C name = true) (hh : PySem.W.hasDictIn K C = true)
    (ha : PySem.W.findIn K (.ref C) name = some none) (hv : mA name = some v) (hv' : PySem.W.handedIn v = true) (h : Q v { s with toks := s.toks + 1 }) :
    wpAny (model prog w) A (getAttr (.ref x) name expr) Q E s := by
  obtain ⟨od, J, hl⟩ := I.look
  exact PySem.W.get_value X J (PySem.W.plainGet_of hg).1 (PySem.W.findObj_own hh ha rfl (by rw [hl, hv])) hv' h
theorem get_meth {pl : Sem Bool} {Q : Value × List Value → Shared → Prop} (X : K.In s.heap) (I : ObjM s.heap x dx C mA) (hg : PySem.W.plainGet K C name = true)
    (hf : PySem.W.findIn K (.ref C) name = some (some (.ref f))) (ht : PySem.W.isFn K (.ref f) = true) (hv : mA name = none) (h : Q (.ref f, [.ref x]) s) :
    wpAny (model prog w) A (getMethod (.ref x) name pl) Q E s := by
  obtain ⟨od, J, hl⟩ := I.look
  exact PySem.W.method_fn X J (PySem.W.plainGet_of hg).1 (PySem.W.plainGet_of hg).2 hf (beq_iff_eq.mp ht) (by show (PySem.W.lookIn name od).map (·.isSome) = some false; rw [hl, hv]; rfl) h
theorem set_map {ns : List Str} {Q : Unit → Shared → Prop} (X : K.In s.heap) (I : ObjM s.heap x dx C mA)
    (hs : PySem.W.findIn K (.ref C) "__setattr__" = some (some (.builtin "object.__setattr__"))) (hp : PySem.W.plainOver K C = true) (ht : PySem.W.takerIn K C name = some none) (hh : PySem.W.hasDictIn K C = true)
    (hw : PySem.Within mA ns) (hsz : ns.length ≤ sizeLine)
    (h : ∀ h', ObjM h' x dx C (fun y => if y = name then some v else mA y) → Heap.SameBut dx s.heap h' → Q () { s with heap := h', toks := s.toks + 2 }) :
    wpAny (model prog w) A (setAttr (.ref x) name v) Q E s := by
  obtain ⟨od, J, hl⟩ := I.look
  refine PySem.W.set_plain X J hs (PySem.W.osa_open (s := { s with toks := s.toks + 1 }) (r := none) X J hp ht fun b => ?_)
  obtain ⟨cd, hc, hd'⟩ := PySem.W.any_some hh
  have hx : s.heap.get? x = some ⟨.ref C, some dx, .plain, #[]⟩ := I.obj
  refine wpAny_bind (wpAny_pure (wpAny_bind (wpAny_bind (wpAny_loadPart hx (wpAny_bind (PySem.W.Looks.here (s := { s with toks := s.toks + 1 }) (PySem.W.looks_clsIn X hc) ?_))))))
  rw [hd']
  refine wpAny_pure (a := some dx) (wpAny_bind (wpAny_pure (wpAny_bind ?_)))
  refine wpAny_nsSet1 (s := { s with toks := s.toks + 1 }) I.ns fun h' hn2 hs2 => ?_
  obtain ⟨oD, esD, epD, hoD, hdD, hcD⟩ := hn2.count (PySem.Within.cons name v hw)
  refine wpAny_bind (wpAny_lookBehind hoD (by rw [hdD]; exact pastItsLine_dict (Nat.le_trans hcD (by rw [List.length_cons]; omega))) ?_)
  exact wpAny_pure (h _ ⟨(hs2.2 _ (Ne.symm I.ne)).trans I.obj, hn2, I.ne⟩ hs2)
theorem make_map {R : Result → Shared → Prop} {vs : List Value} {kw : List (Str × Value)} (X : K.In s.heap) (hm : PySem.W.makesIn K C = true)
    (hi : PySem.W.findIn K (.ref C) "__init__" = some (some (.ref f))) (hf : PySem.W.typeIn K (.ref f) = some (.type "function"))
    (h : codeAny (model prog w) (A.under (.builtin "type.__call__" ⟨.ref C :: vs, kw⟩)) (.call (.ref f) ⟨.ref (s.heap.objs.size + 1) :: vs, kw⟩) (PySem.W.InitBack (s.heap.objs.size + 1) R)
      { s with heap := (s.heap.push PySem.W.emptyDict).push (PySem.W.instObj C s.heap.objs.size) }) :
    codeAny (model prog w) A (.call (.ref C) ⟨vs, kw⟩) R s := by
  obtain ⟨hh, g, d, t, os⟩ := s
  exact PySem.W.make_core (PySem.W.makes_of X hm) (PySem.W.looks_findIn X hi) (fun self => PySem.W.bind_fn X self hf) (.inl rfl) h
end
def putF (f : Str) (v : V) : List (Str × V) → List (Str × V)
  | [] => [(f, v)]
  | (g, x) :: r => if g = f then (g, v) :: r else (g, x) :: putF f v r
theorem lookup_putF (f g : Str) (v : V) : ∀ fs : List (Str × V), (putF f v fs).lookup g = if g = f then some v else fs.lookup g
  | [] => by
    show List.lookup g [(f, v)] = _
    by_cases h : g = f
    · have hb : (g == f) = true := beq_iff_eq.mpr h
      simp only [List.lookup, hb, if_pos h]
    · have hb : (g == f) = false := beq_eq_false_iff_ne.mpr h
      simp only [List.lookup, hb, if_neg h]
  | (k, x) :: r => by
    have ih := lookup_putF f g v r
    rw [show putF f v ((k, x) :: r) = (if k = f then (k, v) :: r else (k, x) :: putF f v r) from rfl]
    by_cases hk : k = f
    · rw [if_pos hk]
      by_cases h : g = k
      · have hb : (g == k) = true := beq_iff_eq.mpr h
        simp only [List.lookup, hb, if_pos (h.trans hk)]
      · have hb : (g == k) = false := beq_eq_false_iff_ne.mpr h
        simp only [List.lookup, hb, if_neg (fun e : g = f => h (e.trans hk.symm))]
    · rw [if_neg hk]
      by_cases h : g = k
      · have hb : (g == k) = true := beq_iff_eq.mpr h
        simp only [List.lookup, hb, if_neg (fun e : g = f => hk (h.symm.trans e))]
      · have hb : (g == k) = false := beq_eq_false_iff_ne.mpr h
        simp only [List.lookup, hb]
        exact ih
theorem keys_putF (f : Str) (v : V) : ∀ fs : List (Str × V), f ∈ (putF f v fs).map (·.1) ∧ ∀ g, g ∈ fs.map (·.1) → g ∈ (putF f v fs).map (·.1)
  | [] => ⟨by simp [putF], fun g h => by simp at h⟩
  | (k, x) :: r => by
    obtain ⟨i1, i2⟩ := keys_putF f v r
    rw [show putF f v ((k, x) :: r) = (if k = f then (k, v) :: r else (k, x) :: putF f v r) from rfl]
    by_cases hk : k = f
    · rw [if_pos hk]
      subst hk
      exact ⟨by simp, fun g h => by simpa using h⟩
    · rw [if_neg hk]
      refine ⟨?_, fun g h => ?_⟩
      · rw [List.map_cons]
        exact List.mem_cons_of_mem _ i1
      · rw [List.map_cons] at h ⊢
        rcases List.mem_cons.mp h with e | e
        · exact List.mem_cons.mpr (.inl e)
        · exact List.mem_cons_of_mem _ (i2 g e)
theorem length_putF (f : Str) (v : V) : ∀ fs : List (Str × V), (putF f v fs).length ≤ fs.length + 1
  | [] => by simp [putF]
  | (k, x) :: r => by
    have ih := length_putF f v r
    rw [show putF f v ((k, x) :: r) = (if k = f then (k, v) :: r else (k, x) :: putF f v r) from rfl]
    by_cases hk : k = f
    · rw [if_pos hk, List.length_cons, List.length_cons]; omega
    · rw [if_neg hk, List.length_cons, List.length_cons]; omega
theorem RelO.some_of {v : V} {o : Option Value} (r : RelO (some v) o) : ∃ u, o = some u ∧ RelV v u := by
  cases o with
  | none => exact (show False from r).elim
  | some u => exact ⟨u, rfl, r⟩
theorem RelO.none_of {o : Option Value} (r : RelO none o) : o = none := by
  cases o with
  | none => rfl
  | some u => exact (show False from r).elim
theorem handed_of {v : V} {u : Value} (r : RelV v u) : PySem.W.handedIn u = true := by
  cases v with
  | non => cases (show u = Value.none from r); rfl
  | bl b => cases (show u = Value.bool b from r); rfl
  | int i => obtain ⟨t, e⟩ := (show ∃ t, u = Value.int i t from r); cases e; rfl
  | str x => obtain ⟨t, e⟩ := (show ∃ t, u = Value.str x t from r); cases e; rfl
  | byt b => obtain ⟨t, e⟩ := (show ∃ t, u = Value.bytes b t from r); cases e; rfl
  | flt b => obtain ⟨t, e⟩ := (show ∃ t, u = Value.float b t from r); cases e; rfl
  | ref a => cases (show u = Value.ref a from r); rfl
  | ty n => cases (show u = Value.type n from r); rfl
section
variable {P : Program} {w : World} {H H' : Hp} {h h' : Heap} {a C dx : Addr} {fs fs' : List (Str × V)}
theorem ins_get (hok : HOk P w H h) (e : H a = some (.ins C dx fs)) : ∃ mA, ObjM h a dx C mA ∧ (∀ f, RelO (fs.lookup f) (mA f)) ∧ PySem.Within mA (fs.map (·.1)) ∧ fs.length ≤ 1000 ∧ H dx = some (.own a) := by
  obtain ⟨d, z, ne, ob, mA, n, r, q⟩ := (show ObjOk P w H h a (.ins C dx fs) from hok a _ e)
  exact ⟨mA, ⟨ob, n, ne⟩, r, q, z, d⟩
end
structure Cls (K : PySem.W.Frag) (C : Addr) : Prop where
  pg : PySem.W.plainGet K C Str.empty = true
  hd : PySem.W.hasDictIn K C = true
  po : PySem.W.plainOver K C = true
  sa : PySem.W.findIn K (.ref C) "__setattr__" = some (some (.builtin "object.__setattr__"))
theorem Cls.get {K : PySem.W.Frag} {C : Addr} (c : Cls K C) (f : Str) : PySem.W.plainGet K C f = true := c.pg
def NoAttr (K : PySem.W.Frag) (C : Addr) (f : Str) : Prop := PySem.W.findIn K (.ref C) f = some none
theorem NoAttr.taker {K : PySem.W.Frag} {C : Addr} {f : Str} (n : NoAttr K C f) : PySem.W.takerIn K C f = some none := by
  unfold PySem.W.takerIn
  rw [show PySem.W.findIn K (.ref C) f = some none from n]
  rfl
structure Meth (K : PySem.W.Frag) (C : Addr) (m : Str) (f : Addr) : Prop where
  at_ : PySem.W.findIn K (.ref C) m = some (some (.ref f))
  fn : PySem.W.isFn K (.ref f) = true
  kp : PySem.W.keepIn K (.ref f) = true
section
variable {X : Cx} {pins : List (Addr × Obj)} {σ : St} {H : Hp} {s : Shared} {a C dx : Addr} {fs : List (Str × V)} {f : Str} {v : V} {A : Around} {E : Value → Shared → Prop}
theorem getattr_ok {b : Bool} {Q : Value → Shared → Prop} (I : Inv X pins σ H s) (e : H a = some (.ins C dx fs)) (c : Cls X.K C) (n : NoAttr X.K C f) (l : fs.lookup f = some v)
    (h : ∀ u s', Inv X pins σ H s' → RelV v u → Q u s') : wpAny (model X.prog X.w) A (getAttr (.ref a) f b) Q E s := by
  obtain ⟨mA, O, r, _, _, _⟩ := ins_get I.hok e
  obtain ⟨u, hu, ru⟩ := RelO.some_of (v := v) (o := mA f) (by rw [← l]; exact r f)
  exact get_map I.kIn O (c.get f) c.hd n hu (handed_of ru) (h u _ (I.tok _) ru)
theorem getmeth_ok {m : Str} {g : Addr} {pl : Sem Bool} {Q : Value × List Value → Shared → Prop} (I : Inv X pins σ H s) (e : H a = some (.ins C dx fs)) (c : Cls X.K C) (k : Meth X.K C m g) (l : fs.lookup m = none)
    (h : Q (.ref g, [.ref a]) s) : wpAny (model X.prog X.w) A (getMethod (.ref a) m pl) Q E s := by
  obtain ⟨mA, O, r, _, _, _⟩ := ins_get I.hok e
  have hn : mA m = none := RelO.none_of (by rw [← l]; exact r m)
  exact get_meth I.kIn O (c.get m) k.at_ k.fn hn h
theorem setattr_ok {y : V} {u : Value} {Q : Unit → Shared → Prop} (I : Inv X pins σ H s) (e : H a = some (.ins C dx fs)) (c : Cls X.K C) (n : NoAttr X.K C f) (hl : fs.length < 1000) (ry : RelV y u)
    (h : ∀ s', Inv X pins σ (upd H a (.ins C dx (putF f y fs))) s' → Q () s') : wpAny (model X.prog X.w) A (setAttr (.ref a) f u) Q E s := by
  obtain ⟨mA, O, r, wi, _, ho⟩ := ins_get I.hok e
  have hz : (fs.map (·.1)).length ≤ sizeLine := by rw [List.length_map, sizeLine_eq]; omega
  refine set_map I.kIn O c.sa c.po n.taker c.hd wi hz fun h' O' sb => h _ ?_
  have hd : ∃ o, h'.get? dx = some o := let ⟨o, _, _, e', _⟩ := O'.ns; ⟨o, e'⟩
  refine I.write (x := a) (e := dx) (by rw [e]; exact True.intro) (.inr ho) (fun b q hb z => (sb.2 b hb).trans z) hd ?_
  refine ⟨by rw [upd_ne O.ne]; exact ho, ?_, O.ne, O'.obj, _, O'.ns, fun g => ?_, fun g hg => ?_⟩
  · have := length_putF f y fs; omega
  · show RelO ((putF f y fs).lookup g) (if g = f then some u else mA g)
    rw [lookup_putF]
    by_cases q : g = f
    · rw [if_pos q, if_pos q]; exact ry
    · rw [if_neg q, if_neg q]; exact r g
  · by_cases q : g = f
    · rw [q]; exact (keys_putF f y fs).1
    · refine (keys_putF f y fs).2 g (wi g fun z => hg ?_)
      show (if g = f then some u else mA g) = none
      rw [if_neg q]; exact z
theorem Inv.made (I : Inv X pins σ H s) : Inv X pins σ (upd (upd H s.heap.objs.size (.own (s.heap.objs.size + 1))) (s.heap.objs.size + 1) (.ins C s.heap.objs.size []))
    { s with heap := (s.heap.push PySem.W.emptyDict).push (PySem.W.instObj C s.heap.objs.size) } := by
  have e1 : (s.heap.push PySem.W.emptyDict).get? s.heap.objs.size = some PySem.W.emptyDict := Heap.get?_push_size s.heap rfl
  have e2 : ((s.heap.push PySem.W.emptyDict).push (PySem.W.instObj C s.heap.objs.size)).get? (s.heap.objs.size + 1) = some (PySem.W.instObj C s.heap.objs.size) := by
    have := Heap.get?_push_size (s.heap.push PySem.W.emptyDict) (o := PySem.W.instObj C s.heap.objs.size) rfl
    rwa [Heap.size_push] at this
  have e3 : (s.heap.push PySem.W.emptyDict).Ns s.heap.objs.size (fun _ => none) := ⟨PySem.W.emptyDict, #[], _, e1, rfl, (fun e he => absurd he (by simp)), fun _ => rfl⟩
  have I1 := I.laid (a := s.heap.objs.size) (o := .own (s.heap.objs.size + 1)) (h' := s.heap.push PySem.W.emptyDict) (t' := s.toks) (fun b u q => Heap.get?_push_of_some _ q) (Nat.le_refl _) ⟨_, e1⟩
  refine I1.laid (a := s.heap.objs.size + 1) (o := .ins C s.heap.objs.size []) (t' := s.toks) (fun b u q => Heap.get?_push_of_some _ q) (Nat.le_of_eq (Heap.size_push _ _)) ?_
  have ne : s.heap.objs.size ≠ s.heap.objs.size + 1 := Nat.ne_of_lt (Nat.lt_succ_self _)
  refine ⟨by rw [upd_ne ne, upd_same], Nat.zero_le _, ne, e2, fun _ => none, (Heap.Ns1.of_empty e3).at fun o q => Heap.get?_push_of_some _ q, fun _ => True.intro, fun y hy => absurd rfl hy⟩
theorem attr_of {prog : Program} {w : World} {env : Env} {e : Expr} {f : Str} {pos : Pos} {s : Shared} {Q : Value → Shared → Prop} (hb : attributeBase e f env (eval e env) = eval e env)
    (h : wpAny (model prog w) A (eval e env) (fun o s₁ => wpAny (model prog w) A (getAttr o f true) Q E s₁) E s) : wpAny (model prog w) A (eval (.Attribute e f pos) env) Q E s :=
  Attribute_any_ h (by rw [arm_eval_Attribute, hb])
end
def InOp (X : Cx) (op : Operator) (rd : V → V → Hp → VK → Prop) : Prop :=
  ∀ (pins : List (Addr × Obj)) (s : Shared) (σ : St) (H : Hp) (x y : V) (u v : Value) (Q : VK), Inv X pins σ H s → RelV x u → RelV y v → rd x y H Q → wpAny (model X.prog X.w) X.A (inplaceOp op u v) (EP X pins σ Q) X.xe s
section
variable {X : Cx} {o e value : Expr} {f : Str} {pos pos' tpos : Pos} {ta tv : TE}
theorem methcall_of {pl : Sem Bool} {m : Str} {apos : Pos} {args : List Expr} {pins : List (Addr × Obj)} {s : Shared} {σ : St} {H : Hp} {Q : Value → Shared → Prop} {te : TE} (he : PE X e te) (I : Inv X pins σ H s)
    (h : te σ H fun x H1 => ∃ a C dx fs g, x = .ref a ∧ H1 a = some (.ins C dx fs) ∧ Cls X.K C ∧ Meth X.K C m g ∧ fs.lookup m = none ∧
      ∀ s1, Inv X pins σ H1 s1 → wpAny (model X.prog X.w) X.A (callWith pos (.ref g) [.ref a] (backTo pos (starEach args X.env)) (backToKw pos (keywordEach [] X.env))) Q X.xe s1)
    (ht : eval (.Call (.Attribute e m apos) args [] pos) X.env = (do
      let ov ← eval e X.env
      standAt apos.atName
      let (f, first) ← holding [ov] (getMethod ov m pl)
      callWith pos f first (backTo pos (starEach args X.env)) (backToKw pos (keywordEach [] X.env)))) :
    wpAny (model X.prog X.w) X.A (eval (.Call (.Attribute e m apos) args [] pos) X.env) Q X.xe s := by
  refine PySem.W.methodCall_KW (pl := pl) (thn (he pins s σ H _ I h) fun u s1 hz_ => ?_) ht
  obtain ⟨x, H1, I1, rx, a, C, dx, fs, g, ex, ea, c, k, l, q⟩ := hz_
  subst ex
  obtain rfl : u = Value.ref a := rx
  exact getmeth_ok I1 ea c k l (q s1 I1)
end
section
variable {X : Cx} {pins : List (Addr × Obj)} {σ : St} {H : Hp} {s : Shared} {A : Around} {E : Value → Shared → Prop} {Q : Value → Shared → Prop} {c : Value} {b : Bool}
inductive TyOf (K : PySem.W.Frag) (H : Hp) : V → Value → Prop where
  | non : TyOf K H .non (.type "NoneType")
  | bl (x : Bool) : TyOf K H (.bl x) (.type "bool")
  | int (i : Int) : TyOf K H (.int i) (.type "int")
  | str (x : Str) : TyOf K H (.str x) (.type "str")
  | flt (x : UInt64) : TyOf K H (.flt x) (.type "float")
  | lst {a : Addr} {xs : List V} (e : H a = some (.lst xs)) : TyOf K H (.ref a) (.type "list")
  | frz {a : Addr} {o : Obj} {xs : List V} (e : H a = some (.frz o (.lst xs))) : TyOf K H (.ref a) (.type "list")
  | tup {a : Addr} {xs : List V} (e : H a = some (.tup xs)) : TyOf K H (.ref a) (.type "tuple")
  | dK {a : Addr} {kvs : List (Key × V)} (e : H a = some (.dK kvs)) : TyOf K H (.ref a) (.type "dict")
  | dT {a : Addr} {kvs : List (List Key × V)} (e : H a = some (.dT kvs)) : TyOf K H (.ref a) (.type "dict")
  | ins {a C dx : Addr} {fs : List (Str × V)} (e : H a = some (.ins C dx fs)) (cl : Cls K C) (ha : PySem.W.findIn K (.ref C) "__class__" = some (some (.builtin "object.__class__")))
      (hn : PySem.W.specialIn K (.builtin "object.__class__") "__get__" = some (some (.builtin "getset_descriptor.__get__"))) (htk : PySem.W.takesIn K (.builtin "object.__class__") = some true)
      (hm : PySem.W.mroIn K C (.type "object") = some true) : TyOf K H (.ref a) (.ref C)
theorem isinst_ok {x : V} {u t : Value} (I : Inv X pins σ H s) (rx : RelV x u) (ty : TyOf X.K H x t) (e : PySem.W.kitOne X.K t c = some b) (h : ∀ tk, Q (.bool b) { s with toks := tk }) :
    wpAny (model X.prog X.w) A (call (.builtin "isinstance") [u, c]) Q E s := by
  cases ty with
  | non => cases (show u = Value.none from rx); exact PySem.W.kia_one PySem.W.kitx_none I.kIn True.intro e (fun z => nomatch z) h
  | bl y => cases (show u = Value.bool y from rx); exact PySem.W.kia_one PySem.W.kitx_bool I.kIn True.intro e (fun z => nomatch z) h
  | int i => obtain ⟨t, q⟩ := (show ∃ t, u = Value.int i t from rx); cases q; exact PySem.W.kia_one PySem.W.kitx_int I.kIn True.intro e (fun z => nomatch z) h
  | str y => obtain ⟨t, q⟩ := (show ∃ t, u = Value.str y t from rx); cases q; exact PySem.W.kia_one PySem.W.kitx_str I.kIn True.intro e (fun z => nomatch z) h
  | flt y => obtain ⟨t, q⟩ := (show ∃ t, u = Value.float y t from rx); cases q; exact PySem.W.kia_one PySem.W.kitx_float I.kIn True.intro e (fun z => nomatch z) h
  | @lst a xs ea =>
    cases (show u = Value.ref a from rx)
    obtain ⟨_, _, n, _, h1⟩ := (show ObjOk X.prog X.w H s.heap a (.lst xs) from I.hok a _ ea)
    exact PySem.W.kia_one PySem.W.kitx_list I.kIn ⟨_, h1, rfl⟩ e (fun z => nomatch z) h
  | @frz a ob xs ea =>
    cases (show u = Value.ref a from rx)
    obtain ⟨_, _, _, n, _, h1⟩ := (show ObjOk X.prog X.w H s.heap a (.frz ob (.lst xs)) from I.hok a _ ea)
    exact PySem.W.kia_one PySem.W.kitx_list I.kIn ⟨_, h1, rfl⟩ e (fun z => nomatch z) h
  | @tup a xs ea =>
    cases (show u = Value.ref a from rx)
    obtain ⟨_, _, _, p⟩ := (show ObjOk X.prog X.w H s.heap a (.tup xs) from I.hok a _ ea)
    obtain ⟨o, h1, h2, _⟩ := p
    exact PySem.W.kia_one PySem.W.kitx_tuple I.kIn ⟨o, h1, h2⟩ e (fun z => nomatch z) h
  | @dK a kvs ea =>
    cases (show u = Value.ref a from rx)
    obtain ⟨_, _, vs, _, p⟩ := (show ObjOk X.prog X.w H s.heap a (.dK kvs) from I.hok a _ ea)
    obtain ⟨o, es, ep, h1, h2, _⟩ := p
    exact PySem.W.kia_one PySem.W.kitx_dict I.kIn ⟨o, h1, h2.1⟩ e (fun z => nomatch z) h
  | @dT a kvs ea =>
    cases (show u = Value.ref a from rx)
    obtain ⟨_, _, xs, _, o, es, ep, h1, h2, _⟩ := (show ObjOk X.prog X.w H s.heap a (.dT kvs) from I.hok a _ ea)
    exact PySem.W.kia_one PySem.W.kitx_dict I.kIn ⟨o, h1, h2.1⟩ e (fun z => nomatch z) h
  | @ins a C dx fs ea cl ha hn htk hm =>
    cases (show u = Value.ref a from rx)
    obtain ⟨mA, O, _⟩ := ins_get I.hok ea
    obtain ⟨od, J, _⟩ := O.look
    exact PySem.W.kia_one (PySem.W.kitx_own (cl.get _) cl.hd ha hn htk hm) I.kIn J e (fun z => nomatch z) h
end
end L2
namespace L2
open PySem PySem.Spec PyProof.Rows
structure Room (k : Nat) (A : Around) : Prop where
  hd : A.handled = none
  dp : A.depth + 3 * k + 5 < recursionLimit
  un : A.units + 16 * k + 200 < cLine
  gd : A.guards = some []
theorem Room.mono {j k : Nat} {A : Around} (r : Room k A) (h : j ≤ k) : Room j A := ⟨r.hd, by have := r.dp; omega, by have := r.un; omega, r.gd⟩
theorem Room.deeper {k : Nat} {A : Around} (r : Room (k + 1) A) (env : Env) : Room k (A.deeper env) :=
  ⟨r.hd, by have := r.dp; show A.depth + 1 + 3 * k + 5 < _; omega, by have := r.un; show A.units + 3 + 16 * k + 200 < _; omega, r.gd⟩
theorem make_depth {A : Around} {C : Addr} {us : List Value} {kw : List (Str × Value)} : (A.under (.builtin "type.__call__" ⟨.ref C :: us, kw⟩)).depth = A.depth + 1 := by
  first | rfl | simp [Around.under, Code.weight, Code.isCreation, Code.isGuard, Code.isCaller, Code.frames, Code.isFrame, guardIds]
theorem make_units {A : Around} {C : Addr} {us : List Value} {kw : List (Str × Value)} : (A.under (.builtin "type.__call__" ⟨.ref C :: us, kw⟩)).units = A.units + 1 := by
  first | rfl | simp [Around.under, Code.cUnits, Code.frames, Code.isFrame]
theorem Room.make {k : Nat} {A : Around} (r : Room (k + 1) A) (C : Addr) (us : List Value) (kw : List (Str × Value)) : Room k (A.under (.builtin "type.__call__" ⟨.ref C :: us, kw⟩)) :=
  ⟨r.hd, by have := r.dp; rw [make_depth]; omega, by have := r.un; rw [make_units]; omega, r.gd⟩
theorem Room.depth {k : Nat} {A : Around} (r : Room k A) : A.depth < recursionLimit := by have := r.dp; omega
theorem Room.units {k : Nat} {A : Around} (r : Room k A) : A.units + 64 < cLine := by have := r.un; omega
def tNil : TA := fun _ H Q => Q [] H
def tCons (ta : TE) (tr : TA) : TA := fun σ H Q => ta σ H fun x H1 => tr σ H1 fun xs H2 => Q (x :: xs) H2
section
variable {X : Cx} {e : Expr} {es : List Expr} {te : TE} {t : TA} {pos : Pos}
theorem pa_nil : PA X [] tNil := fun _ _ _ _ H Q I h => Calls.spliced_nil ⟨[], H, I, .nil, h⟩
theorem pa_cons (ha : PE X e te) (hr : PA X es t) (hs : starEach (e :: es) X.env = (false, eval e X.env) :: starEach es X.env := by rfl) : PA X (e :: es) (tCons te t) := by
  intro pos pins s σ H Q I h
  rw [hs]
  show wpAny _ _ (spliced ((false, eval e X.env) :: backTo pos (starEach es X.env))) _ _ s
  refine Calls.spliced_cons (thn (ha pins s σ H _ I h) fun u s1 ⟨x, H1, I1, r1, q1⟩ => ?_)
  exact thn (hr pos pins s1 σ H1 _ I1 q1) fun us s2 ⟨xs, H2, I2, r2, q2⟩ => ⟨x :: xs, H2, I2, .cons r1 r2, q2⟩
def tTup (t : TA) : TE := fun σ H Q => t σ H fun xs H1 => xs.length ≤ sizeLine ∧ ∀ p, H1 p = none → Q (.ref p) (upd H1 p (.tup xs))
def tLst (t : TA) : TE := fun σ H Q => t σ H fun xs H1 => xs.length ≤ sizeLine ∧ ∀ p, H1 p = none → Q (.ref p) (upd H1 p (.lst xs))
theorem pe_tup {x1} (h : PA X es t) : PE X (.Tuple es x1 pos) (tTup t) := by
  intro pins s σ H Q I hq
  refine wpAny_Tuple_spliced (thn (h pos pins s σ H _ I hq) fun us s1 ⟨xs, H1, I1, r, z, q⟩ => ⟨by rw [← r.length]; exact z, ?_⟩)
  have hf : H1 s1.heap.objs.size = none := I1.hok.fresh (Nat.le_refl _)
  refine ⟨.ref s1.heap.objs.size, upd H1 s1.heap.objs.size (.tup xs), I1.laid (t' := s1.toks) (fun b u e => Heap.get?_push_of_some _ e) (Nat.le_refl _) ?_, rfl, q _ hf⟩
  exact ⟨z, us, r, ⟨_, Heap.get?_push_size _ rfl, rfl, _, rfl⟩⟩
theorem pe_lst (h : PA X es t) : PE X (.List es pos) (tLst t) := by
  intro pins s σ H Q I hq
  refine wpAny_List_spliced (thn (h pos pins s σ H _ I hq) fun us s1 ⟨xs, H1, I1, r, z, q⟩ => ⟨by rw [← r.length]; exact z, ?_⟩)
  have hf : H1 s1.heap.objs.size = none := I1.hok.fresh (Nat.le_refl _)
  refine ⟨.ref s1.heap.objs.size, upd H1 s1.heap.objs.size (.lst xs), I1.laid (t' := s1.toks) (fun b u e => Heap.get?_push_of_some _ e) (Nat.le_refl _) ?_, rfl, q _ hf⟩
  exact ⟨z, us, 0, r, Heap.get?_push_size _ rfl⟩
end
abbrev Sp := List V → Hp → VK → XK → Prop
abbrev CXT := List Env → Hp → Shared → XK → Value → Shared → Prop
structure Env0 (P : Program) (w : World) (K : PySem.W.Frag) (mg : Str → Option Value) (base : Heap) (A : Around) (outer : List Env) (s : Shared) (H : Hp) : Prop where
  frames : A.frames = some outer
  mod : Mod K mg base
  bs : ∀ b o, base.get? b = some o → s.heap.get? b = some o ∧ H b = none
  bsz : base.objs.size ≤ s.heap.objs.size
  funs : s.heap.FunFrames base outer
  frf : ∀ b ∈ frs outer, H b = none
  hok : HOk P w H s.heap
  bare : AllBare s.gens
def CE (outer : List Env) (P : Program) (w : World) (H : Hp) (s : Shared) (Q : VK) (u : Value) (s' : Shared) : Prop :=
  ∃ v H', s'.os = s.os ∧ AllBare s'.gens ∧ Un (frs outer) [] H H' s.heap s'.heap ∧ HOk P w H' s'.heap ∧ RelV v u ∧ Q v H'
def CR (CX : CXT) (outer : List Env) (P : Program) (w : World) (H : Hp) (s : Shared) (Q : VK) (E : XK) (r : Result) (s' : Shared) : Prop :=
  match r with
  | .ok (.ret u) => CE outer P w H s Q u s'
  | .ok _ => False
  | .error e => CX outer H s E e s'
structure FnOk (P : Program) (w : World) (K : PySem.W.Frag) (mg : Str → Option Value) (base : Heap) (CX : CXT) (k : Nat) (f : Addr) (fd : FuncData) (ps : List Str) (sp : Sp) : Prop where
  len : ∀ vs H Q E, sp vs H Q E → vs.length = ps.length
  run : ∀ (A : Around) (outer : List Env) (s : Shared) (H : Hp) (args : Args) (us : List Value) (vs : List V) (Q : VK) (E : XK), Room k A → Env0 P w K mg base A outer s H → BindsTo s fd args (ps.zip us) → Vals vs us → sp vs H Q E →
    codeAny (model P w) A (.call (.ref f) args) (CR CX outer P w H s Q E) s
theorem Env0.make {P : Program} {w : World} {K : PySem.W.Frag} {mg : Str → Option Value} {base : Heap} {A : Around} {outer : List Env} {s : Shared} {H : Hp} (e : Env0 P w K mg base A outer s H) (C : Addr) (us : List Value) (kw : List (Str × Value)) :
    Env0 P w K mg base (A.under (.builtin "type.__call__" ⟨.ref C :: us, kw⟩)) outer s H := ⟨by first | exact e.frames | (simpa [Around.under, Code.envs, Code.isFrame, pushEnvs] using e.frames), e.mod, e.bs, e.bsz, e.funs, e.frf, e.hok, e.bare⟩
section
variable {X : Cx} {pins : List (Addr × Obj)} {σ : St} {H : Hp} {s s' : Shared}
theorem Inv.env0 (I : Inv X pins σ H s) : Env0 X.prog X.w X.K X.mg X.base X.A X.stack s H :=
  ⟨I.ok.frames, I.ok.mod, I.bs, Nat.le_trans I.ok.bsz I.sz, I.stack, I.stkFree, I.hok, I.bare⟩
theorem Inv.after {Q : VK} {u : Value} (I : Inv X pins σ H s) (h : CE X.stack X.prog X.w H s Q u s') : EP X pins σ Q u s' := by
  obtain ⟨v, H', os, bare, un, hok, r, q⟩ := h
  obtain ⟨hh, g, d, t, os'⟩ := s'
  obtain rfl : os' = s.os := os
  exact ⟨v, H', I.call (h' := hh) (g' := g) (d' := d) (t' := t) (ch := []) un hok bare (fun b z => absurd z (by simp)), r, q⟩
end
def tCall (sp : Sp) (dvs : List V) (E : XK) (t : TA) : TE := fun σ H Q => t σ H fun vs H1 => sp (vs ++ dvs) H1 Q E
def tMeth (C : Addr) (m : Str) (sp : Sp) (dvs : List V) (E : XK) (ta : TE) (t : TA) : TE := fun σ H Q => ta σ H fun x H1 => ∃ a dx fs, x = .ref a ∧ H1 a = some (.ins C dx fs) ∧ fs.lookup m = none ∧
  t σ H1 fun vs H2 => sp (x :: (vs ++ dvs)) H2 Q E
def tMake (C : Addr) (sp : Sp) (dvs : List V) (E : XK) (t : TA) : TE := fun σ H Q => t σ H fun vs H1 => ∀ x dx, H1 x = none → H1 dx = none → dx ≠ x →
  sp (.ref x :: (vs ++ dvs)) (upd (upd H1 dx (.own x)) x (.ins C dx [])) (fun v H2 => v = .non ∧ Q (.ref x) H2) E
def Binds (K : PySem.W.Frag) (fd : FuncData) (ps : List Str) (ds : List Value) : Prop :=
  ∀ (s : Shared) (us : List Value), K.In s.heap → (us ++ ds).length = ps.length → BindsTo s fd ⟨us, []⟩ (ps.zip (us ++ ds))
theorem Binds.all {K : PySem.W.Frag} {fd : FuncData} {ps : List Str} (h : ∀ us : List Value, us.length = ps.length → bindArgs fd ⟨us, []⟩ = pure (ps.zip us)) : Binds K fd ps [] := fun s us _ hl => by
  rw [List.append_nil] at hl ⊢
  exact .of_eq (h us hl)
def Passes (CX : CXT) (X : Cx) (E : XK) : Prop := ∀ (pins : List (Addr × Obj)) (σ : St) (H : Hp) (s : Shared) (e : Value) (s' : Shared), Inv X pins σ H s → CX X.stack H s E e s' → X.xe e s'
section
variable {X : Cx} {CX : CXT} {k : Nat} {f C : Addr} {fd : FuncData} {ps : List Str} {sp : Sp} {dvs : List V} {ds : List Value} {E : XK} {x m : Str} {p pos apos : Pos} {e o : Expr} {es : List Expr} {ta : TE} {t : TA}
theorem run_fn {pins : List (Addr × Obj)} {σ : St} {H : Hp} {s : Shared} {Q : VK} {us : List Value} {vs : List V} (F : FnOk X.prog X.w X.K X.mg X.base CX k f fd ps sp) (hr : Room k X.A) (hb : Binds X.K fd ps ds) (hd : Vals dvs ds) (hx : Passes CX X E)
    (I : Inv X pins σ H s) (r : Vals vs us) (h : sp (vs ++ dvs) H Q E) : wpAny (model X.prog X.w) X.A (call (.ref f) us) (EP X pins σ Q) X.xe s := by
  have r2 : Vals (vs ++ dvs) (us ++ ds) := r.append hd
  have hl : (us ++ ds).length = ps.length := by rw [← r2.length]; exact F.len _ _ _ _ h
  refine wpAny_call (codeAny_mono (F.run X.A X.stack s H ⟨us, []⟩ (us ++ ds) (vs ++ dvs) Q E hr I.env0 (hb s us I.kIn hl) r2 h) fun r s' hq => ?_)
  cases r with
  | error e => exact hx pins σ H s e s' I hq
  | ok fl =>
    cases fl with
    | ret u => exact I.after hq
    | next => exact False.elim hq
    | brk => exact False.elim hq
    | cont => exact False.elim hq
theorem pe_call (F : FnOk X.prog X.w X.K X.mg X.base CX k f fd ps sp) (hr : Room k X.A) (hg : Gl X x) (hm : X.mg x = some (.ref f)) (hk : PySem.W.keepIn X.K (.ref f) = true) (hb : Binds X.K fd ps ds) (hd : Vals dvs ds) (hx : Passes CX X E)
    (ha : PA X (e :: es) t) (hdb : (x == ("__debug__" : Str)) = false := by decide) (he : starEach (e :: es) X.env = (false, eval e X.env) :: starEach es X.env := by rfl) (hpl : (backTo pos (starEach es X.env)).any (·.1) = false := by rfl) :
    PE X (.Call (.Name x p) (e :: es) [] pos) (tCall sp dvs E t) := by
  intro pins s σ H Q I h
  refine wpAny_Call_Name_kw (ld_glob I hg hm ?_ hdb)
  refine PySem.W.callWith_K (h₀ := X.base) I.ok.mod.kin hk (thn (ha pos pins s σ H _ I h) fun us s1 ⟨vs, H1, I1, r, q⟩ => ⟨I1.kIn, ?_⟩) he hpl
  exact run_fn F hr hb hd hx I1 r q
theorem pe_meth {pl : Sem Bool} (he : PE X o ta) (c : Cls X.K C) (hm : Meth X.K C m f) (F : FnOk X.prog X.w X.K X.mg X.base CX k f fd ps sp) (hr : Room k X.A) (hb : Binds X.K fd ps ds) (hd : Vals dvs ds) (hx : Passes CX X E) (ha : PA X (e :: es) t)
    (hst : starEach (e :: es) X.env = (false, eval e X.env) :: starEach es X.env := by rfl) (hpl : (backTo pos (starEach es X.env)).any (·.1) = false := by rfl)
    (ht : eval (.Call (.Attribute o m apos) (e :: es) [] pos) X.env = (do
      let ov ← eval o X.env
      standAt apos.atName
      let (f, first) ← holding [ov] (getMethod ov m pl)
      callWith pos f first (backTo pos (starEach (e :: es) X.env)) (backToKw pos (keywordEach [] X.env))) := by rfl) :
    PE X (.Call (.Attribute o m apos) (e :: es) [] pos) (tMeth C m sp dvs E ta t) := by
  intro pins s σ H Q I h
  refine PySem.W.methodCall_KW (pl := pl) (thn (he pins s σ H _ I h) fun u s1 hz_ => ?_) ht
  obtain ⟨x, H1, I1, rx, a, dx, fs, ex, ea, l, q⟩ := hz_
  subst ex
  obtain rfl : u = Value.ref a := rx
  refine getmeth_ok I1 ea c hm l ?_
  refine PySem.W.callWith_K (first := [.ref a]) (h₀ := X.base) I.ok.mod.kin hm.kp (thn (ha pos pins s1 σ H1 _ I1 q) fun us s2 ⟨vs, H2, I2, r, q2⟩ => ⟨I2.kIn, ?_⟩) hst hpl
  exact run_fn (us := .ref a :: us) (vs := .ref a :: vs) F hr hb hd hx I2 (.cons rfl r) q2
theorem pe_meth0 {pl : Sem Bool} (he : PE X o ta) (c : Cls X.K C) (hm : Meth X.K C m f) (F : FnOk X.prog X.w X.K X.mg X.base CX k f fd ps sp) (hr : Room k X.A) (hb : Binds X.K fd ps ds) (hd : Vals dvs ds) (hx : Passes CX X E)
    (ht : eval (.Call (.Attribute o m apos) [] [] pos) X.env = (do
      let ov ← eval o X.env
      standAt apos.atName
      let (f, first) ← holding [ov] (getMethod ov m pl)
      callWith pos f first (backTo pos (starEach [] X.env)) (backToKw pos (keywordEach [] X.env))) := by rfl) :
    PE X (.Call (.Attribute o m apos) [] [] pos) (tMeth C m sp dvs E ta tNil) := by
  intro pins s σ H Q I h
  refine PySem.W.methodCall_KW (pl := pl) (thn (he pins s σ H _ I h) fun u s1 hz_ => ?_) ht
  obtain ⟨x, H1, I1, rx, a, dx, fs, ex, ea, l, q⟩ := hz_
  subst ex
  obtain rfl : u = Value.ref a := rx
  refine getmeth_ok I1 ea c hm l ?_
  exact PySem.W.callWith_K0 (first := [.ref a]) I1.kIn hm.kp (run_fn (us := [.ref a]) (vs := [.ref a]) F hr hb hd hx I1 (.cons rfl .nil) q)
structure Mk (K : PySem.W.Frag) (C f : Addr) : Prop where
  makes : PySem.W.makesIn K C = true
  init : PySem.W.findIn K (.ref C) "__init__" = some (some (.ref f))
  fn : PySem.W.isFn K (.ref f) = true
  kp : PySem.W.keepIn K (.ref C) = true
theorem run_make {pins : List (Addr × Obj)} {σ : St} {H : Hp} {s : Shared} {Q : VK} {us : List Value} {vs : List V} (M : Mk X.K C f) (F : FnOk X.prog X.w X.K X.mg X.base CX k f fd ps sp) (hr : Room (k + 1) X.A) (hb : Binds X.K fd ps ds) (hd : Vals dvs ds)
    (hx : Passes CX X E) (I : Inv X pins σ H s) (r : Vals vs us)
    (h : ∀ x dx, H x = none → H dx = none → dx ≠ x → sp (.ref x :: (vs ++ dvs)) (upd (upd H dx (.own x)) x (.ins C dx [])) (fun v H2 => v = .non ∧ Q (.ref x) H2) E) :
    wpAny (model X.prog X.w) X.A (call (.ref C) us) (EP X pins σ Q) X.xe s := by
  have hq := h (s.heap.objs.size + 1) s.heap.objs.size (I.hok.fresh (Nat.le_succ _)) (I.hok.fresh (Nat.le_refl _)) (Nat.ne_of_lt (Nat.lt_succ_self _))
  have I2 := Inv.made (C := C) I
  have r2 : Vals (V.ref (s.heap.objs.size + 1) :: (vs ++ dvs)) (Value.ref (s.heap.objs.size + 1) :: (us ++ ds)) := .cons rfl (r.append hd)
  have hl : (Value.ref (s.heap.objs.size + 1) :: us ++ ds).length = ps.length := by
    have e := r2.length
    rw [F.len _ _ _ _ hq] at e
    exact e.symm
  refine wpAny_call (make_map (f := f) I.kIn M.makes M.init (beq_iff_eq.mp M.fn) (codeAny_mono (F.run _ X.stack _ _ ⟨Value.ref (s.heap.objs.size + 1) :: us, []⟩ (Value.ref (s.heap.objs.size + 1) :: (us ++ ds)) _ _ E (hr.make C us [])
    (I2.env0.make C us []) (hb _ (Value.ref (s.heap.objs.size + 1) :: us) I2.kIn hl) r2 hq) fun r s' hq' => ?_))
  cases r with
  | error e => exact hx pins σ _ _ e s' I2 hq'
  | ok fl =>
    cases fl with
    | ret u =>
      obtain ⟨v, H', I3, rv, ev, q3⟩ := I2.after hq'
      subst ev
      exact ⟨rv, ⟨V.ref (s.heap.objs.size + 1), H', I3, rfl, q3⟩⟩
    | next => exact False.elim hq'
    | brk => exact False.elim hq'
    | cont => exact False.elim hq'
theorem pe_make0 (M : Mk X.K C f) (F : FnOk X.prog X.w X.K X.mg X.base CX k f fd ps sp) (hr : Room (k + 1) X.A) (hg : Gl X x) (hm : X.mg x = some (.ref C)) (hb : Binds X.K fd ps ds) (hd : Vals dvs ds) (hx : Passes CX X E)
    (hdb : (x == ("__debug__" : Str)) = false := by decide) : PE X (.Call (.Name x p) [] [] pos) (tMake C sp dvs E tNil) := by
  intro pins s σ H Q I h
  refine wpAny_Call_Name_kw (ld_glob I hg hm ?_ hdb)
  exact PySem.W.callWith_K0 I.kIn M.kp (run_make (us := []) M F hr hb hd hx I .nil h)
end
def PK (X : Cx) (kws : List Keyword) (t : TA) : Prop :=
  ∀ (pos : Pos) (pins : List (Addr × Obj)) (s : Shared) (σ : St) (H : Hp) (Q : List V → Hp → Prop), Inv X pins σ H s → t σ H Q → wpAny (model X.prog X.w) X.A (evalAll ((backToKw pos (keywordEach kws X.env)).map (·.2))) (AP X pins σ Q) X.xe s
section
variable {X : Cx} {CX : CXT} {k : Nat} {f C : Addr} {fd : FuncData} {ps ks : List Str} {sp : Sp} {E : XK} {x m : Str} {p pos apos kpos : Pos} {e o : Expr} {es : List Expr} {kws : List Keyword} {te ta : TE} {t tk : TA} {nm : Option Str}
theorem pk_nil : PK X [] tNil := fun _ _ _ _ H Q I h => wpAny_evalAll_nil ⟨[], H, I, .nil, h⟩
structure KBinds (K : PySem.W.Frag) (fd : FuncData) (ps ks : List Str) (g : List Value → List Value → List Value) (gV : List V → List V → List V) : Prop where
  to : ∀ (s : Shared) (us ws : List Value), K.In s.heap → (g us ws).length = ps.length → BindsTo s fd ⟨us, ks.zip ws⟩ (ps.zip (g us ws))
  rel : ∀ {vs : List V} {us : List Value} {zs : List V} {ws : List Value}, Vals vs us → Vals zs ws → Vals (gV vs zs) (g us ws)
variable {g : List Value → List Value → List Value} {gV : List V → List V → List V}
end
structure FnScope (N P : List Str) (sc : Scope) : Prop where
  kind : sc.kind = .function
  co : sc.isCoroutine = false
  gen : sc.isGenerator = false
  nd : N.Nodup
  pre : N.take P.length = P
  par : ∀ x ∈ P, sc.names.lookup x = some .local ∨ sc.names.lookup x = some .cell
  nofree : ∀ y ∈ sc.names, y.2 ≠ .free
theorem bindL_out {kindOf : Str → Option NameKind} {x : Str} : ∀ {binds : List (Str × Value)} {m : Str → Option Value}, (∀ v, (x, v) ∉ binds) → bindL kindOf binds m x = m x
  | [], _, _ => rfl
  | (n, v) :: r, m, h => by
    unfold bindL
    rw [bindL_out fun w hw => h w (List.mem_cons_of_mem _ hw)]
    split
    · have : x ≠ n := by rintro rfl; exact h v List.mem_cons_self
      simp [this]
    · rfl
theorem bindC_out {kindOf : Str → Option NameKind} {x : Str} : ∀ {binds : List (Str × Value)} {m : Str → Option Value}, (∀ v, (x, v) ∉ binds) → bindC kindOf binds m x = m x
  | [], _, _ => rfl
  | (n, v) :: r, m, h => by
    unfold bindC
    rw [bindC_out fun w hw => h w (List.mem_cons_of_mem _ hw)]
    split
    · rfl
    · have : x ≠ n := by rintro rfl; exact h v List.mem_cons_self
      simp [this]
theorem bindL_get {kindOf : Str → Option NameKind} {x : Str} {v : Value} : ∀ {P : List Str} {vs : List Value} {i : Nat} {m : Str → Option Value}, P.Nodup → P[i]? = some x → vs[i]? = some v → kindOf x = some .local →
    bindL kindOf (P.zip vs) m x = some v
  | [], _, _, _, _, h, _, _ => by simp at h
  | _ :: _, [], _, _, _, _, h, _ => by simp at h
  | p :: P, w :: vs, 0, m, nd, h1, h2, hk => by
    simp at h1 h2; subst h1; subst h2
    show bindL kindOf ((p, w) :: P.zip vs) m p = _
    unfold bindL
    rw [bindL_out fun v hv => (List.nodup_cons.mp nd).1 (List.of_mem_zip hv).1, if_pos hk]
    simp
  | p :: P, w :: vs, i + 1, m, nd, h1, h2, hk => by
    show bindL kindOf ((p, w) :: P.zip vs) m x = _
    unfold bindL
    exact bindL_get (i := i) (List.nodup_cons.mp nd).2 (by simpa using h1) (by simpa using h2) hk
theorem bindC_get {kindOf : Str → Option NameKind} {x : Str} {v : Value} : ∀ {P : List Str} {vs : List Value} {i : Nat} {m : Str → Option Value}, P.Nodup → P[i]? = some x → vs[i]? = some v → kindOf x ≠ some .local →
    bindC kindOf (P.zip vs) m x = some v
  | [], _, _, _, _, h, _, _ => by simp at h
  | _ :: _, [], _, _, _, _, h, _ => by simp at h
  | p :: P, w :: vs, 0, m, nd, h1, h2, hk => by
    simp at h1 h2; subst h1; subst h2
    show bindC kindOf ((p, w) :: P.zip vs) m p = _
    unfold bindC
    rw [bindC_out fun v hv => (List.nodup_cons.mp nd).1 (List.of_mem_zip hv).1, if_neg hk]
    simp
  | p :: P, w :: vs, i + 1, m, nd, h1, h2, hk => by
    show bindC kindOf ((p, w) :: P.zip vs) m x = _
    unfold bindC
    exact bindC_get (i := i) (List.nodup_cons.mp nd).2 (by simpa using h1) (by simpa using h2) hk
def start (N : List Str) (vs : List V) : St := vs.map some ++ List.replicate (N.length - vs.length) none
def cxOf (CX : CXT) (P : Program) (w : World) (K : PySem.W.Frag) (mg : Str → Option Value) (base : Heap) (N : List Str) (qual : Str) (scope : Scope) (f : Addr) (cd : Value) (A : Around) (outer : List Env) (s : Shared) (H : Hp) (E : XK) : Cx where
  prog := P
  w := w
  K := K
  mg := mg
  base := base
  A := A.deeper (envOfC qual scope s.heap.objs.size f cd)
  N := N
  s₀ := s
  H₀ := H
  env := envOfC qual scope s.heap.objs.size f cd
  outer := outer
  stack := envOfC qual scope s.heap.objs.size f cd :: outer
  ex := []
  calm := true
  fn := fun _ => true
  pn := []
  xe := fun e s' => wpAny (model P w) (A.deeper (envOfC qual scope s.heap.objs.size f cd)) (leaving (envOfC qual scope s.heap.objs.size f cd) e) (fun _ s'' => CX outer H s E e s'') (fun e' s'' => CX outer H s E e' s'') s'
theorem cell_has {sc : Scope} {n : Nat} {x : Str} (h : sc.names.lookup x = some .cell) : ∃ c, (cellsFrom n sc.names []).lookup x = some c := by
  have q := PySem.W.cellsFrom_some sc.names n [] (.inl h)
  exact Option.isSome_iff_exists.mp q
theorem inv_start {CX : CXT} {P : Program} {w : World} {K : PySem.W.Frag} {mg : Str → Option Value} {base : Heap} {N ps : List Str} {qual : Str} {scope : Scope} {f : Addr} {cd : Value} {A : Around} {outer : List Env} {s s1 : Shared} {H : Hp} {E : XK} {us : List Value} {vs : List V}
    (S : FnScope N ps scope) (hd : A.handled = none) (e0 : Env0 P w K mg base A outer s H) (hl : vs.length = ps.length) (r : Vals vs us)
    (x : InCallC s s.heap.objs.size (bindL (envOfC qual scope s.heap.objs.size f cd).kindOf (ps.zip us) fun _ => none) (cellsFrom (s.heap.objs.size + 1) scope.names []) (bindC (envOfC qual scope s.heap.objs.size f cd).kindOf (ps.zip us) fun _ => none) s1) :
    Inv (cxOf CX P w K mg base N qual scope f cd A outer s H E) [] (start N vs) H s1 := by
  have hpl : ps.length ≤ N.length := by have := congrArg List.length S.pre; rw [List.length_take] at this; omega
  obtain ⟨h1, tk, rfl, hk⟩ := x.done
  have noA : ∀ b : Addr, b ∉ (cxOf CX P w K mg base N qual scope f cd A outer s H E).ex := fun b z => absurd (show b ∈ ([] : List Addr) from z) (by simp)
  refine ⟨⟨e0.mod, S.kind, rfl, rfl, Nat.le_refl _, fun y z c h1 h2 => ?_, fun y hy => ?_, fun y c _ h => ?_, fun _ => hd, Around.frames_deeper e0.frames, .inr ⟨rfl, rfl⟩, fun b z => absurd z (noA b), e0.bs, e0.bsz, fun b _ _ => noA b, fun b z => absurd z (noA b), e0.funs, e0.frf⟩,
    rfl, e0.bare, Un.kept hk, ⟨_, x.toInCall.ns, fun i y v h1 h2 h3 => ?_⟩, fun y c h => ⟨_, x.cell y c h⟩, e0.hok.fresh (Nat.le_refl _), fun y c h => ?_, fun p hp => absurd (show p ∈ ([] : List (Addr × Obj)) from hp) (by simp), e0.hok.kept hk, ?_⟩
  · exact name_of_addr x.apart (PySem.mem_of_lookup h1) (PySem.mem_of_lookup h2)
  · have hy : scope.names.lookup y = some .cell ∨ scope.names.lookup y = some .free := hy
    rcases hy with hy | hy
    · exact cell_has hy
    · exact absurd rfl (S.nofree _ (PySem.mem_of_lookup hy))
  · exact Nat.le_of_lt (x.above y c (PySem.mem_of_lookup h))
  · have hi : i < vs.length := by
      unfold start at h2
      by_cases hi : i < vs.length
      · exact hi
      · rw [List.getElem?_append_right (by simpa using hi)] at h2
        rw [List.getElem?_replicate] at h2
        split at h2 <;> cases h2
    have ha : vs[i]? = some v := by
      unfold start at h2
      rw [List.getElem?_append_left (by simpa using hi), List.getElem?_map] at h2
      cases e : vs[i]? with
      | none => rw [e] at h2; cases h2
      | some a => rw [e] at h2; cases h2; rfl
    obtain ⟨u, hu, rv⟩ := r.get ha
    have hp : ps[i]? = some y := by
      rw [← S.pre, List.getElem?_take_of_lt (by omega)]; exact h1
    have ndP : ps.Nodup := by rw [← S.pre]; exact S.nd.sublist (List.take_sublist _ _)
    refine ⟨u, rv, ?_⟩
    rcases S.par y (List.mem_of_getElem? hp) with k | k
    · exact .inl ⟨k, bindL_get ndP hp hu k⟩
    · obtain ⟨c, e⟩ := cell_has (n := s.heap.objs.size + 1) k
      refine .inr ⟨.inl k, c, e, ?_⟩
      have q := x.cell y c e
      rw [bindC_get ndP hp hu (by show scope.names.lookup y ≠ _; rw [k]; decide)] at q
      exact q
  · exact e0.hok.fresh (Nat.le_of_lt (x.above y c (PySem.mem_of_lookup h)))
  · unfold start
    show _ = N.length
    rw [List.length_append, List.length_map, List.length_replicate]
    omega
theorem fn_of {CX : CXT} {P : Program} {w : World} {K : PySem.W.Frag} {mg : Str → Option Value} {base : Heap} {k : Nat} {f : Addr} {name qual : Str} {params : Arguments} {body : List Stmt} {scope : Scope} {dV kV doc pm cdv ct oc : Value} {an od : Option Addr}
    {osl : Array (Option Value)} {N ps : List Str} {sp : Sp} (lk : K.lookup f = some ⟨oc, od, .func (PySem.W.fnOf name qual params body scope dV kV doc pm an cdv ct), osl⟩) (hcd : PySem.W.codeIn K cdv qual = true) (S : FnScope N ps scope)
    (len : ∀ vs H Q E, sp vs H Q E → vs.length = ps.length)
    (hbody : ∀ (A : Around) (outer : List Env) (s : Shared) (H : Hp) (vs : List V) (Q : VK) (E : XK), Room k (A.deeper (envOfC qual scope s.heap.objs.size f cdv)) → sp vs H Q E →
      ∃ t, PSs (cxOf CX P w K mg base N qual scope f cdv A outer s H E) body t ∧ t { nx := fun _ H' => Q .non H', rt := Q } (start N vs) H) :
    FnOk P w K mg base CX (k + 1) f (PySem.W.fnOf name qual params body scope dV kV doc pm an cdv ct) ps sp := by
  refine ⟨len, fun A outer s H args us vs Q E hr e0 hb r hsp => ?_⟩
  have hl := len _ _ _ _ hsp
  have KX : K.In s.heap := e0.mod.kin.keeps fun b o e => (e0.bs b o e).1
  have lim : s.heap.NoLimit := e0.mod.nolimit.keeps fun b o e => (e0.bs b o e).1
  have hkind : ∀ y ∈ ps.zip us, scope.names.lookup y.1 = some .local ∨ (scope.names.lookup y.1 = some .cell ∧ ((cellsFrom (s.heap.objs.size + 1) scope.names []).lookup y.1).isSome = true) := fun ⟨n, v⟩ hy => by
    rcases S.par n (List.of_mem_zip hy).1 with q | q
    · exact .inl q
    · exact .inr ⟨q, PySem.W.cellsFrom_some _ _ _ (.inl q)⟩
  refine codeAny_call_function hr.depth (KX _ _ lk) rfl S.co S.gen rfl (PySem.W.codeRec_of KX hcd) (hb _ _ _ _ ?_)
  refine wpAny_newFunctionEnv_cells S.kind hkind fun env he s1 x => ?_
  subst he
  refine ⟨lim.keeps x.toInCall.keep, codeAny_func ?_⟩
  obtain ⟨t, ht, hq⟩ := hbody A outer s H vs Q E (hr.deeper _) hsp
  have I : Inv (cxOf CX P w K mg base N qual scope f cdv A outer s H E) [] (start N vs) H s1 := inv_start S hr.hd e0 hl r x
  refine wpAny_mono (ht [] s1 (start N vs) H _ I hq) (fun fl s' hs => ?_) fun e s' hs => hs
  have fin : ∀ {σ' : St} {H' : Hp} {v : V} {u : Value}, Inv (cxOf CX P w K mg base N qual scope f cdv A outer s H E) [] σ' H' s' → RelV v u → Q v H' → CE outer P w H s Q u s' :=
    fun {σ' H' v u} J rv q => ⟨v, H', J.os, J.bare, J.base, J.hok, rv, q⟩
  cases fl with
  | ret u =>
    obtain ⟨v, σ', H', J, rv, q⟩ := hs
    exact fin J rv q
  | next =>
    obtain ⟨σ', H', J, q⟩ := hs
    exact fin (v := V.non) (u := Value.none) J rfl q
  | brk =>
    obtain ⟨_, _, _, q⟩ := hs
    exact False.elim q
  | cont =>
    obtain ⟨_, _, _, q⟩ := hs
    exact False.elim q
end L2
namespace L2
open PySem PySem.Spec PyProof.Rows
section
variable {X : Cx} {x : Str} {p pos : Pos} {e : Expr} {es : List Expr} {t : TA} {id T : String} {r : List V → Hp → VK → Prop}
def tCB (r : List V → Hp → VK → Prop) (t : TA) : TE := fun σ H Q => t σ H fun vs H1 => r vs H1 Q
theorem pe_callB (hc : CallR X (.builtin id) r) (hg : Gl X x) (hm : X.mg x = none) (hv : bootBuiltins x = some (.builtin id)) (ha : PA X (e :: es) t) (hn : x ≠ "__name__" := by decide) (hdb : (x == ("__debug__" : Str)) = false := by decide)
    (he : starEach (e :: es) X.env = (false, eval e X.env) :: starEach es X.env := by rfl) (hpl : (backTo pos (starEach es X.env)).any (·.1) = false := by rfl) : PE X (.Call (.Name x p) (e :: es) [] pos) (tCB r t) := by
  intro pins s σ H Q I h
  refine wpAny_Call_Name_kw (ld_blt I hg hm hv ?_ hn hdb)
  exact PyProof.Rows.callWith_builtin1 (thn (ha pos pins s σ H _ I h) fun us s1 ⟨vs, H1, I1, r1, q1⟩ => hc pins s1 σ H1 vs us Q I1 r1 q1) he hpl
theorem pe_callTy (hc : CallR X (.type T) r) (hg : Gl X x) (hm : X.mg x = none) (hv : bootBuiltins x = some (.type T)) (ha : PA X (e :: es) t) (hn : x ≠ "__name__" := by decide) (hdb : (x == ("__debug__" : Str)) = false := by decide)
    (he : starEach (e :: es) X.env = (false, eval e X.env) :: starEach es X.env := by rfl) (hpl : (backTo pos (starEach es X.env)).any (·.1) = false := by rfl) : PE X (.Call (.Name x p) (e :: es) [] pos) (tCB r t) := by
  intro pins s σ H Q I h
  refine wpAny_Call_Name_kw (ld_blt I hg hm hv ?_ hn hdb)
  exact PyProof.Rows.callWith_type1 (thn (ha pos pins s σ H _ I h) fun us s1 ⟨vs, H1, I1, r1, q1⟩ => hc pins s1 σ H1 vs us Q I1 r1 q1) he hpl
end
end L2
namespace HT
open PySem PyProof.Rows
section
open PySem.SeqAt
open PySem.AutoSeq1 (wpAny_loadPart')
open PySem.MeetsSeq PySem.MeetsSeq2 PySem.MeetsSeq3
end
section
variable {prog : Program} {w : World} {A : Around} {E : Value → Shared → Prop} {s : Shared}
theorem cat_tup {t b : Addr} {vs ws : List Value} {Q : Value → Shared → Prop} (ht : IsTup s.heap t vs.toArray) (hb : IsTup s.heap b ws.toArray) (hv : vs ≠ [])
    (h1 : ws = [] → Q (.ref t) s) (h2 : ws ≠ [] → Q (.ref s.heap.objs.size) { s with heap := s.heap.push { cls := .type "tuple", data := .seq (vs ++ ws).toArray } })
    (hsz : vs.length + ws.length ≤ sizeLine) : wpAny (model prog w) A (binaryOp .Add (.ref t) (.ref b)) Q E s := by
  obtain ⟨⟨cls, dd, data, sl⟩, ho, hc, n, hd⟩ := id ht
  obtain ⟨⟨cls2, dd2, data2, sl2⟩, ho2, hc2, n2, hd2⟩ := id hb
  simp only at hc hd hc2 hd2
  subst hc hd hc2 hd2
  have e : vs.toArray ++ ws.toArray = (vs ++ ws).toArray := by simp
  by_cases hw : ws = []
  · exact concat_meets ⟨_, ho, rfl⟩ ⟨_, ho2, rfl⟩ noFill_tuple_add seq_tuple_add PySem.F.slot_tuple_add PySem.F.entry_tuple_add (PySem.F.args_tuple_add_2 _ _)
      (tuple_addW1 t b vs.toArray ws.toArray n n2 dd dd2 sl sl2 (by simpa using hv) (by simp [hw])) ⟨ho, ho2, h1 hw⟩
  · refine concat_meets ⟨_, ho, rfl⟩ ⟨_, ho2, rfl⟩ noFill_tuple_add seq_tuple_add PySem.F.slot_tuple_add PySem.F.entry_tuple_add (PySem.F.args_tuple_add_2 _ _)
      (tuple_addW2 t b vs.toArray ws.toArray n n2 dd dd2 sl sl2 (by simpa using hv) (by simpa using hw) (by rw [List.size_toArray, List.size_toArray]; exact hsz)) ⟨ho, ho2, ?_⟩
    rw [e]
    exact h2 hw
def sIx (n d : Nat) : Option Int → Nat
  | none => d
  | some v => if v < 0 then (v + (n : Int)).toNat else min v.toNat n
theorem sIx_none (n d : Nat) : sIx n d none = d := rfl
theorem sIx_nat (n d k : Nat) : sIx n d (some (k : Int)) = min k n := by
  show (if (k : Int) < 0 then ((k : Int) + (n : Int)).toNat else min (k : Int).toNat n) = min k n
  rw [if_neg (by omega), Int.toNat_natCast]
theorem sIx_le (n d : Nat) (hd : d ≤ n) (o : Option Int) : sIx n d o ≤ n := by
  cases o with
  | none => exact hd
  | some v =>
    show (if v < 0 then (v + (n : Int)).toNat else min v.toNat n) ≤ n
    by_cases hv : v < 0
    · rw [if_pos hv]; omega
    · rw [if_neg hv]; exact Nat.min_le_right _ _
theorem clip_eq (v : Int) (n d : Nat) : (if v < 0 then max (v + (n : Int)) 0 else min v (n : Int)) = ((sIx n d (some v) : Nat) : Int) := by
  show (if v < 0 then max (v + (n : Int)) 0 else min v (n : Int)) = (((if v < 0 then (v + (n : Int)).toNat else min v.toNat n) : Nat) : Int)
  by_cases hv : v < 0
  · simp only [if_pos hv]; omega
  · simp only [if_neg hv]; omega
theorem adjust_gen (lo hi : Option Int) (n : Nat) : Builtin.Slice.sliceAdjust lo hi 1 (n : Int) = (((sIx n 0 lo : Nat) : Int), ((sIx n n hi : Nat) : Int)) := by
  have h1 : ¬ ((1 : Int) < 0) := by omega
  unfold Builtin.Slice.sliceAdjust
  simp only [h1, if_false]
  refine Prod.ext ?_ ?_
  · cases lo with
    | none => rfl
    | some v => exact clip_eq v n 0
  · cases hi with
    | none => rfl
    | some v => exact clip_eq v n n
theorem places_gen (i j : Nat) : Builtin.Slice.slicePlaces (i : Int) (j : Int) 1 = j - i := by
  unfold Builtin.Slice.slicePlaces
  have h1 : (1 : Int) > 0 := by omega
  simp only [h1, if_true, Int.ediv_one]
  split <;> omega
theorem slicePart_ {v : Value} {o : Option Int} {Q : Option Int → Shared → Prop} (p : IsPart v o) (h : Q o s) : wpAny (model prog w) A (Builtin.Slice.slicePartIndex v) Q E s := by
  cases p with
  | none => exact slicePart_none h
  | int i t => exact slicePart_int h
theorem sliceApplied_gen {sl : Addr} {vl vu : Value} {lo hi : Option Int} {n : Nat} {Q : Int × Int × Nat → Shared → Prop} (hs : s.heap.IsSliceOf sl vl vu .none) (pl : IsPart vl lo) (pu : IsPart vu hi)
    (h : Q (((sIx n 0 lo : Nat) : Int), 1, sIx n n hi - sIx n 0 lo) s) : wpAny (model prog w) A (Builtin.Slice.sliceApplied (.ref sl) (pure (n : Int))) Q E s := by
  obtain ⟨os, hos, hcs, hds⟩ := id hs
  unfold Builtin.Slice.sliceApplied Builtin.Slice.sliceFields
  refine wpAny_bind (wpAny_bind (wpAny_field hos hds (x := vl) rfl (wpAny_bind (wpAny_field hos hds (x := vu) rfl (wpAny_bind (wpAny_field hos hds (x := .none) rfl (wpAny_pure ?_)))))))
  refine wpAny_bind (slicePart_none ?_)
  show wpAny _ _ (if ((1 : Int) == 0) = true then _ else _) _ _ s
  rw [if_neg (by decide)]
  refine wpAny_bind (slicePart_ pl (wpAny_bind (slicePart_ pu (wpAny_bind (wpAny_pure ?_)))))
  show wpAny _ _ (match Builtin.Slice.sliceAdjust lo hi 1 (n : Int) with | (lo, hi) => pure (lo, (1 : Int), Builtin.Slice.slicePlaces lo hi 1)) _ _ s
  rw [adjust_gen lo hi n]
  show wpAny _ _ (pure (((sIx n 0 lo : Nat) : Int), (1 : Int), Builtin.Slice.slicePlaces ((sIx n 0 lo : Nat) : Int) ((sIx n n hi : Nat) : Int) 1)) _ _ s
  rw [places_gen]
  exact wpAny_pure h
theorem pick_gen (xs : Array Value) (i k : Nat) : ((List.range k).filterMap fun (m : Nat) => xs[((i : Int) + (m : Int) * 1).toNat]?).toArray = ((xs.toList.drop i).take k).toArray := by
  have e : (fun (m : Nat) => xs[((i : Int) + (m : Int) * 1).toNat]?) = fun m => xs[i + m]? := by
    funext m
    have : ((i : Int) + (m : Int) * 1).toNat = i + m := by omega
    rw [this]
  rw [e]
  have := pick_run xs i k
  rw [List.filterMap_map] at this
  have e2 : ((fun x => xs[x]?) ∘ fun x => i + x) = fun m => xs[i + m]? := rfl
  rw [e2] at this
  rw [this]
theorem getItem_tuple_cut {t sl : Addr} {items : Array Value} {vl vu : Value} {lo hi : Option Int} {Q : Value → Shared → Prop} (ht : IsTup s.heap t items) (hs : s.heap.IsSliceOf sl vl vu .none) (pl : IsPart vl lo) (pu : IsPart vu hi)
    (hw : ¬ (sIx items.size 0 lo = 0 ∧ sIx items.size items.size hi = items.size))
    (h : Q (.ref s.heap.objs.size) { s with heap := s.heap.push { cls := .type "tuple", data := .seq ((items.toList.drop (sIx items.size 0 lo)).take (sIx items.size items.size hi - sIx items.size 0 lo)).toArray } })
    (hsz : items.size ≤ sizeLine) : wpAny (model prog w) A (getItem (.ref t) (.ref sl)) Q E s := by
  have htake : sizeOk (.seq ((items.toList.drop (sIx items.size 0 lo)).take (sIx items.size items.size hi - sIx items.size 0 lo)).toArray) := by
    show ((items.toList.drop (sIx items.size 0 lo)).take (sIx items.size items.size hi - sIx items.size 0 lo)).toArray.size ≤ sizeLine
    rw [List.size_toArray, List.length_take, List.length_drop, Array.length_toList]
    omega
  have hj : sIx items.size items.size hi ≤ items.size := sIx_le _ _ (Nat.le_refl _) hi
  obtain ⟨os, hos, hcs, hds⟩ := id hs
  have hTs : s.TypeIs (.ref sl) "slice" := ⟨os, hos, hcs⟩
  unfold getItem
  try with_reducible refine wpAny_holding ?_
  first | refine wpAny_bind (wpAny_pure ?_) | skip
  refine wpAny_bind (wpAny_sequenceKey ht.typeIs (by decide) ?_)
  refine wpAny_bind (wpAny_callSpecial?_slot (name := Str.ofString "__getitem__") ht.typeIs PyProof.Rows.slot_tuple_getitem
    (wpAny_call_entry PyProof.Rows.slot_tuple_getitem ht.typeIs entry_tuple_getitem ?_ (args_tuple_getitem _ _)))
  show wpAny _ _ (Builtin.Tuple.tupleItemsOf (.ref t) >>= _) _ _ s
  refine wpAny_bind (tupleItemsOf_ ht ?_)
  refine wpAny_bind (wpAny_typeOf hTs ?_)
  rw [if_pos (by decide)]
  refine wpAny_bind (sliceApplied_gen hs pl pu ?_)
  have hno : ¬ ((((sIx items.size 0 lo : Nat) : Int) == 0 && (1 : Int) == 1 && (sIx items.size items.size hi - sIx items.size 0 lo) == items.size) = true) := by
    intro q
    rw [Bool.and_eq_true, Bool.and_eq_true] at q
    have q1 : ((sIx items.size 0 lo : Nat) : Int) = 0 := eq_of_beq q.1.1
    have q2 : sIx items.size items.size hi - sIx items.size 0 lo = items.size := eq_of_beq q.2
    exact hw ⟨by omega, by omega⟩
  show wpAny _ _ (if (((sIx items.size 0 lo : Nat) : Int) == 0 && (1 : Int) == 1 && (sIx items.size items.size hi - sIx items.size 0 lo) == items.size) = true then _ else _) _ _ s
  rw [if_neg hno, pick_gen]
  first
    | exact wpAny_bind (m := Builtin.Tuple.tupleExact _) (wpAny_newObj_type (wpAny_pure ⟨_, rfl, wpAny_pure h⟩) htake)
    | exact wpAny_bind (m := Builtin.Tuple.tupleExact _) (wpAny_newObj_type (wpAny_bind (wpAny_pure (wpAny_pure ⟨_, rfl, wpAny_pure h⟩))) htake)
    | exact wpAny_bind (wpAny_bind (m := Builtin.Tuple.tupleExact _) (wpAny_newObj_type (wpAny_pure (wpAny_pure ⟨_, rfl, wpAny_pure h⟩)) htake))
    | exact wpAny_bind (wpAny_bind (m := Builtin.Tuple.tupleExact _) (wpAny_newObj_type (wpAny_pure ⟨_, rfl, wpAny_pure h⟩) htake))
end
end HT
namespace L2
open PySem PySem.Spec PyProof.Rows
abbrev TO := St → Hp → (Option Int → Hp → Prop) → Prop
def PO (X : Cx) (e : Option Expr) (t : TO) : Prop :=
  ∀ (pins : List (Addr × Obj)) (s : Shared) (σ : St) (H : Hp) (Q : Option Int → Hp → Prop), Inv X pins σ H s → t σ H Q →
    wpAny (model X.prog X.w) X.A (evalPart e X.env) (fun u s' => ∃ o H', Inv X pins σ H' s' ∧ IsPart u o ∧ Q o H') X.xe s
def tNoPart : TO := fun _ H Q => Q none H
def tPart (t : TE) : TO := fun σ H Q => t σ H fun x H1 => ∃ i, x = .int i ∧ Q (some i) H1
section
variable {X : Cx} {e : Expr} {te : TE} {lo hi : Option Expr} {tl th : TO} {pos p2 : Pos}
theorem po_none : PO X none tNoPart := by
  intro pins s σ H Q I h
  rw [evalPart_none]
  exact wpAny_pure ⟨none, H, I, .none, h⟩
theorem po_some (h : PE X e te) : PO X (some e) (tPart te) := by
  intro pins s σ H Q I hw
  rw [evalPart_some]
  refine thn (h pins s σ H _ I hw) fun u s1 ⟨x, H1, I1, r1, q1⟩ => ?_
  obtain ⟨i, rfl, q⟩ := q1
  obtain ⟨t, rfl⟩ := r1
  exact ⟨some i, H1, I1, .int i t, q⟩
def SlR (X : Cx) (r : V → Option Int → Option Int → Hp → VK → Prop) : Prop :=
  ∀ (pins : List (Addr × Obj)) (s : Shared) (σ : St) (H : Hp) (x : V) (v vl vu : Value) (lo hi : Option Int) (sl : Addr) (Q : VK), Inv X pins σ H s → RelV x v → s.heap.IsSliceOf sl vl vu .none → IsPart vl lo → IsPart vu hi → r x lo hi H Q →
    ∃ T id, typeLookup (.type T) "__getitem__" = pure (some (.builtin id)) ∧ s.TypeIs v T ∧ wpAny (model X.prog X.w) X.A (getItem v (.ref sl)) (EP X pins σ Q) X.xe s
def tSl (r : V → Option Int → Option Int → Hp → VK → Prop) (te : TE) (tl th : TO) : TE := fun σ H Q => te σ H fun x H1 => tl σ H1 fun l H2 => th σ H2 fun u H3 => r x l u H3 Q
theorem pe_slice {r : V → Option Int → Option Int → Hp → VK → Prop} (hr : SlR X r) (he : PE X e te) (hl : PO X lo tl) (hu : PO X hi th) : PE X (.Subscript e (.Slice lo hi none p2) pos) (tSl r te tl th) := by
  intro pins s σ H Q I h
  refine Subscript_ (thn (he pins s σ H _ I h) fun v s1 ⟨x, H1, I1, r1, q1⟩ => ?_)
  refine wpAny_Slice (thn (hl pins s1 σ H1 _ I1 q1) fun vl s2 ⟨l, H2, I2, pl, q2⟩ => thn (hu pins s2 σ H2 _ I2 q2) fun vu s3 ⟨u, H3, I3, pu, q3⟩ => ?_)
  rw [evalPart_none]
  refine wpAny_pure ?_
  have I4 : Inv X pins σ H3 { s3 with heap := s3.heap.push { cls := .type "slice", data := .fields #[vl, vu, .none] } } := I3.kept (t' := s3.toks) fun b ob q => Heap.get?_push_of_some _ q
  obtain ⟨T, id, hT, ht, hg⟩ := hr pins { s3 with heap := s3.heap.push { cls := .type "slice", data := .fields #[vl, vu, .none] } } σ H3 x v vl vu l u s3.heap.objs.size Q I4 r1 (Heap.IsSliceOf.new ..) pl pu q3
  show wpAny (model X.prog X.w) X.A (subscriptTail e (.Slice lo hi none p2) v (.ref s3.heap.objs.size)) (EP X pins σ Q) X.xe { s3 with heap := s3.heap.push { cls := .type "slice", data := .fields #[vl, vu, .none] } }
  exact tail_any (ops := [.ref s3.heap.objs.size, v]) ht hT hg (by with_unfolding_all rfl)
def cutV (xs : List V) (lo hi : Option Int) : List V := (xs.drop (HT.sIx xs.length 0 lo)).take (HT.sIx xs.length xs.length hi - HT.sIx xs.length 0 lo)
theorem cutV_length (xs : List V) (lo hi : Option Int) : (cutV xs lo hi).length ≤ xs.length := by
  unfold cutV
  rw [List.length_take, List.length_drop]
  omega
def rSlT (K : PySem.W.Frag) : V → Option Int → Option Int → Hp → VK → Prop := fun x lo hi H Q => ∃ a xs, x = .ref a ∧ SqT K H a xs ∧
  ¬ (HT.sIx xs.length 0 lo = 0 ∧ HT.sIx xs.length xs.length hi = xs.length) ∧ ∀ p, H p = none → Q (.ref p) (upd H p (.tup (cutV xs lo hi)))
theorem sl_tup : SlR X (rSlT X.K) := by
  intro pins s σ H x v vl vu lo hi sl Q I rx hs pl pu h
  obtain ⟨a, xs, rfl, hx, hw, q⟩ := h
  cases rx
  obtain ⟨its, r, ht, hz⟩ := I.tuple hx
  have hlen : its.toArray.size = xs.length := by rw [List.size_toArray]; exact r.length.symm
  refine ⟨"tuple", _, PyProof.Rows.slot_tuple_getitem.lookup, ht.typeIs, ?_⟩
  refine HT.getItem_tuple_cut ht hs pl pu (by rw [hlen]; exact hw) ?_ (by rw [hlen]; exact hz)
  rw [hlen]
  refine ⟨.ref s.heap.objs.size, _, I.laid (t' := s.toks) (o := .tup (cutV xs lo hi)) (fun b ob q => Heap.get?_push_of_some _ q) (Nat.le_refl _) ?_, rfl, q _ (I.hok.fresh (Nat.le_refl _))⟩
  exact ⟨Nat.le_trans (cutV_length xs lo hi) hz, _, (r.drop (HT.sIx xs.length 0 lo)).take (HT.sIx xs.length xs.length hi - HT.sIx xs.length 0 lo), IsTup.new _ _⟩
def rCatT (K : PySem.W.Frag) : R2 := fun x y H Q => ∃ a b xs ys, x = .ref a ∧ y = .ref b ∧ SqT K H a xs ∧ SqT K H b ys ∧ xs ≠ [] ∧ xs.length + ys.length ≤ sizeLine ∧
  (ys = [] → Q (.ref a) H) ∧ (ys ≠ [] → ∀ p, H p = none → Q (.ref p) (upd H p (.tup (xs ++ ys))))
theorem Vals.nil_iff {xs : List V} {us : List Value} (r : Vals xs us) : us = [] ↔ xs = [] := by
  cases r with
  | nil => simp
  | cons _ _ => simp
theorem op_catT : OpR X (binaryOp .Add) (rCatT X.K) := by
  intro pins s σ H x y v u Q I rx ry h
  obtain ⟨a, b, xs, ys, rfl, rfl, ha, hb, hx, hz, q1, q2⟩ := h
  cases rx
  cases ry
  obtain ⟨its, r1, p1, _⟩ := I.tuple ha
  obtain ⟨its2, r2, p2, _⟩ := I.tuple hb
  refine HT.cat_tup p1 p2 (fun z => hx (r1.nil_iff.mp z)) (fun z => ⟨.ref a, H, I, rfl, q1 (r2.nil_iff.mp z)⟩) (fun z => ?_) (by rw [← r1.length, ← r2.length]; exact hz)
  refine ⟨.ref s.heap.objs.size, _, I.laid (t' := s.toks) (o := .tup (xs ++ ys)) (fun b ob q => Heap.get?_push_of_some _ q) (Nat.le_refl _) ?_, rfl, q2 (fun w => z (r2.nil_iff.mpr w)) _ (I.hok.fresh (Nat.le_refl _))⟩
  exact ⟨by rw [List.length_append]; exact hz, _, r1.append r2, IsTup.new _ _⟩
end
end L2
namespace L2
open PySem PySem.Spec PyProof.Rows
def ixN (n : Nat) (i : Int) : Option Nat := if 0 ≤ i then (if i < n then some i.toNat else none) else if -(n : Int) ≤ i then some (i + n).toNat else none
def atI {α : Type} (xs : List α) (i : Int) : Option α := (ixN xs.length i).bind fun j => xs[j]?
theorem ixN_seq {n : Nat} {i : Int} {j : Nat} (h : ixN n i = some j) : seqIndex? i n = some j ∧ j < n ∧ -(n : Int) ≤ i ∧ i < n := by
  unfold ixN at h
  by_cases h0 : 0 ≤ i
  · rw [if_pos h0] at h
    by_cases h1 : i < n
    · rw [if_pos h1] at h
      have e : i.toNat = j := Option.some.inj h
      exact ⟨by rw [seqIndex_of h0 h1, e], by omega, by omega, h1⟩
    · rw [if_neg h1] at h; cases h
  · rw [if_neg h0] at h
    by_cases h1 : -(n : Int) ≤ i
    · rw [if_pos h1] at h
      have e : (i + n).toNat = j := Option.some.inj h
      exact ⟨by rw [seqIndex_neg (by omega) h1, e], by omega, h1, by omega⟩
    · rw [if_neg h1] at h; cases h
theorem atI_get {α : Type} {xs : List α} {i : Int} {v : α} (h : atI xs i = some v) : ∃ j, seqIndex? i xs.length = some j ∧ xs[j]? = some v ∧ j < xs.length ∧ -(xs.length : Int) ≤ i ∧ i < xs.length := by
  unfold atI at h
  cases e : ixN xs.length i with
  | none => rw [e] at h; cases h
  | some j =>
    rw [e] at h
    obtain ⟨h1, h2, h3, h4⟩ := ixN_seq e
    exact ⟨j, h1, h, h2, h3, h4⟩
theorem atI_nat {α : Type} {xs : List α} {j : Nat} {v : α} (h : xs[j]? = some v) : atI xs (j : Int) = some v := by
  have hj : j < xs.length := (List.getElem?_eq_some_iff.mp h).1
  have e : ixN xs.length (j : Int) = some j := by
    unfold ixN
    rw [if_pos (by omega), if_pos (by omega)]; simp
  unfold atI; rw [e]; exact h
theorem atI_last {α : Type} (xs : List α) (v : α) : atI (xs ++ [v]) (-1) = some v := by
  have hl : (xs ++ [v]).length = xs.length + 1 := by simp
  have e : ixN (xs ++ [v]).length (-1) = some xs.length := by
    unfold ixN
    rw [hl, if_neg (by decide), if_pos (by omega)]
    congr 1
    omega
  unfold atI
  rw [e]
  show (xs ++ [v])[xs.length]? = some v
  simp
def PlainIx (b : Expr) : Prop := ∀ o i, subscripted b false o i = operate [o, i] (getItem o i)
def IxR (X : Cx) (r : R2) : Prop :=
  ∀ (value slice : Expr) (pins : List (Addr × Obj)) (s : Shared) (σ : St) (H : Hp) (x y : V) (v u : Value) (Q : VK), Inv X pins σ H s → RelV x v → RelV y u → r x y H Q →
    subscripted slice false v u = operate [v, u] (getItem v u) → wpAny (model X.prog X.w) X.A (subscriptTail value slice v u) (EP X pins σ Q) X.xe s
def MtR (X : Cx) (id : String) (r : V → List V → Hp → VK → Prop) : Prop :=
  ∀ (pins : List (Addr × Obj)) (s : Shared) (σ : St) (H : Hp) (x : V) (xs : List V) (v : Value) (us : List Value) (Q : VK), Inv X pins σ H s → RelV x v → Vals xs us → r x xs H Q →
    wpAny (model X.prog X.w) X.A (call (.builtin id) (v :: us)) (EP X pins σ Q) X.xe s
section
variable {X : Cx} {a b : Expr} {ta tb : TE} {pos : Pos}
theorem pe_ix {r : R2} (hr : IxR X r) (ha : PE X a ta) (hb : PE X b tb) (hs : PlainIx b) : PE X (.Subscript a b pos) (tOp r ta tb) := by
  intro pins s σ H Q I h
  exact Subscript_ (binT ha hb I h fun v u s2 x y H2 I2 rx ry q => hr a b pins s2 σ H2 x y v u Q I2 rx ry q (hs _ _))
def rIxL (K : PySem.W.Frag) : R2 := fun x y H Q => ∃ p xs i v, x = .ref p ∧ y = .int i ∧ SqL K H p xs ∧ atI xs i = some v ∧ Q v H
def rIxT (K : PySem.W.Frag) : R2 := fun x y H Q => ∃ p xs i v, x = .ref p ∧ y = .int i ∧ SqT K H p xs ∧ atI xs i = some v ∧ Q v H
theorem ix_list : IxR X (rIxL X.K) := by
  intro value slice pins s σ H x y v u Q I rx ry h hs
  obtain ⟨p, xs, i, z, rfl, rfl, hq, he, q⟩ := h
  cases rx
  obtain ⟨t, rfl⟩ := ry
  obtain ⟨its, r, pl, hz⟩ := I.list hq
  obtain ⟨j, h1, h2, h3, h4, h5⟩ := atI_get he
  obtain ⟨w, ew, rw'⟩ := r.get h2
  have hl := r.length
  have hn := line63
  have fin : EP X pins σ Q w s := ⟨z, H, I, rw', q⟩
  by_cases h0 : 0 ≤ i
  · have hj : i.toNat = j := by
      rw [seqIndex_of h0 h5] at h1
      exact Option.some.inj h1
    exact item_listR pl.isList h0 (by omega) (by rw [hj]; simpa using ew) fin hs
  · have hj : (i + (its.toArray.size : Int)).toNat = j := by
      rw [seqIndex_neg (by omega) h4] at h1
      rw [List.size_toArray, ← hl]
      exact Option.some.inj h1
    exact subscriptTail_builtinR (x := w) pl.isList.typeIs slot_list_getitem.lookup
      (wpAny_getItem_list_neg (Q := fun r s' => r = w ∧ EP X pins σ Q r s') pl.isList (by omega) (by rw [List.size_toArray] <;> omega) (by omega) (by rw [hj]; simpa using ew) ⟨rfl, fin⟩) hs
theorem ix_tup : IxR X (rIxT X.K) := by
  intro value slice pins s σ H x y v u Q I rx ry h hs
  obtain ⟨p, xs, i, z, rfl, rfl, hq, he, q⟩ := h
  cases rx
  obtain ⟨t, rfl⟩ := ry
  obtain ⟨its, r, pl, hz⟩ := I.tuple hq
  obtain ⟨j, h1, h2, h3, h4, h5⟩ := atI_get he
  obtain ⟨w, ew, rw'⟩ := r.get h2
  have hl := r.length
  have hn := line63
  have fin : EP X pins σ Q w s := ⟨z, H, I, rw', q⟩
  exact subscriptTail_builtinR (x := w) pl.typeIs slot_tuple_getitem.lookup
    (getItem_tuple (j := j) (Q := fun r s' => r = w ∧ EP X pins σ Q r s') pl (by omega) (by omega) (by rw [List.size_toArray, ← hl]; exact h1) (by simpa using ew) ⟨rfl, fin⟩) hs
theorem mapSeq_set (its : List Value) (n j : Nat) (u : Value) : Obj.mapSeq (·.setIfInBounds j u) { cls := .type "list", data := .seq its.toArray n } = { cls := .type "list", data := .seq (its.set j u).toArray n } := by
  simp [Obj.mapSeq]
theorem Inv.lst {pins : List (Addr × Obj)} {σ : St} {H : Hp} {s : Shared} {p : Addr} {xs : List V} (I : Inv X pins σ H s) (h : H p = some (.lst xs)) :
    ∃ (its : List Value) (n : Nat), Vals xs its ∧ s.heap.get? p = some { cls := .type "list", data := .seq its.toArray n } ∧ xs.length ≤ sizeLine := by
  obtain ⟨z, its, n, r, e⟩ := I.hok p _ h
  exact ⟨its, n, r, e, z⟩
theorem Inv.lstUpd {pins : List (Addr × Obj)} {σ : St} {H : Hp} {s : Shared} {p : Addr} {xs ys : List V} {its its' : List Value} {n n' : Nat} {f : Obj → Obj} (I : Inv X pins σ H s) (h : H p = some (.lst xs))
    (ho : s.heap.get? p = some { cls := .type "list", data := .seq its.toArray n }) (hf : f { cls := .type "list", data := .seq its.toArray n } = { cls := .type "list", data := .seq its'.toArray n' }) (r : Vals ys its') (hz : ys.length ≤ sizeLine) (t : Nat) :
    Inv X pins σ (upd H p (.lst ys)) { s with heap := s.heap.update p f, toks := t } := by
  have e : (s.heap.update p f).get? p = some { cls := .type "list", data := .seq its'.toArray n' } := by
    rw [Heap.get?_update_self f ho (by rw [hf] <;> rfl), hf]
  refine I.write (x := p) (e := p) (by rw [h]; trivial) (.inl rfl) (fun b u hb q => (Heap.get?_update_other _ _ (Ne.symm hb)).trans q) ⟨_, e⟩ ?_
  exact ⟨hz, its', n', r, e⟩
def rSetL : V → V → V → Hp → (Hp → Prop) → Prop := fun o i v H Q => ∃ p xs k j, o = .ref p ∧ i = .int k ∧ H p = some (.lst xs) ∧ ixN xs.length k = some j ∧ Q (upd H p (.lst (xs.set j v)))
theorem set_list : PSet X rSetL := by
  intro pins s σ H o i v ov iv u Q I ro ri rv h
  obtain ⟨p, xs, k, j, rfl, rfl, hp, hj, q⟩ := h
  cases ro
  obtain ⟨t, rfl⟩ := ri
  obtain ⟨its, n, r, ho, hz⟩ := I.lst hp
  obtain ⟨h1, h2, h3, h4⟩ := ixN_seq hj
  have hl := r.length
  have hn := line63
  have I' : Inv X pins σ (upd H p (.lst (xs.set j v))) { s with heap := s.heap.update p (Obj.mapSeq (·.setIfInBounds j u)) } :=
    I.lstUpd hp ho (mapSeq_set its n j u) (r.set rv j) (by rw [List.length_set]; exact hz) s.toks
  by_cases h0 : 0 ≤ k
  · have hk : k.toNat = j := by
      rw [seqIndex_of h0 h4] at h1
      exact Option.some.inj h1
    exact PySem.W.ki_setAt ho h0 (by omega) (by rw [List.size_toArray, ← hl]; exact h4) (by rw [hk]; exact ⟨_, I', q⟩)
  · have hk : (k + (its.toArray.size : Int)).toNat = j := by
      rw [seqIndex_neg (by omega) h3] at h1
      rw [List.size_toArray, ← hl]
      exact Option.some.inj h1
    exact PySem.W.ki_setBack ho (by omega) (by rw [List.size_toArray, ← hl]; exact h3) (by omega) (by rw [hk]; exact ⟨_, I', q⟩)
theorem slice_bounds (lo hi : Option Int) (n : Nat) : (sliceBounds lo hi none n).1 = ((HT.sIx n 0 lo : Nat) : Int) ∧ (sliceBounds lo hi none n).2.1 = ((HT.sIx n n hi : Nat) : Int) ∧ (sliceBounds lo hi none n).2.2 = 1 := by
  refine ⟨?_, ?_, rfl⟩
  · cases lo with
    | none => simp [sliceBounds, HT.sIx]
    | some i =>
      simp only [sliceBounds, HT.sIx, Option.getD_none, show (1 : Int) > 0 by decide, if_true]
      by_cases h : i < 0
      · simp only [h, if_true] <;> omega
      · simp only [h, if_false] <;> omega
  · cases hi with
    | none => simp [sliceBounds, HT.sIx]
    | some i =>
      simp only [sliceBounds, HT.sIx, Option.getD_none, show (1 : Int) > 0 by decide, if_true]
      by_cases h : i < 0
      · simp only [h, if_true] <;> omega
      · simp only [h, if_false] <;> omega
theorem slicePick_cut (its : List Value) (lo hi : Option Int) : slicePick its.toArray lo hi none = ((its.drop (HT.sIx its.length 0 lo)).take (HT.sIx its.length its.length hi - HT.sIx its.length 0 lo)).toArray := by
  obtain ⟨h1, h2, h3⟩ := slice_bounds lo hi its.toArray.size
  unfold slicePick
  rw [h1, h2, h3]
  simp only [sliceRange_one, pick_run, List.size_toArray] <;> rfl
def rSlL (K : PySem.W.Frag) : V → Option Int → Option Int → Hp → VK → Prop := fun x lo hi H Q => ∃ a xs, x = .ref a ∧ SqL K H a xs ∧ ∀ p, H p = none → Q (.ref p) (upd H p (.lst (cutV xs lo hi)))
theorem sl_list : SlR X (rSlL X.K) := by
  intro pins s σ H x v vl vu lo hi sl Q I rx hs pl pu h
  obtain ⟨a, xs, rfl, hx, q⟩ := h
  cases rx
  obtain ⟨its, r, ht, hz⟩ := I.list hx
  have hlen := r.length
  refine ⟨"list", _, slot_list_getitem.lookup, ht.isList.typeIs, ?_⟩
  refine wpAny_getItem_list_slice ht.isList hs pl pu .none (by simp) ?_ (by rw [List.size_toArray] <;> omega)
  rw [slicePick_cut, ← hlen]
  refine ⟨.ref s.heap.objs.size, _, I.laid (t' := s.toks) (o := .lst (cutV xs lo hi)) (fun b ob q => Heap.get?_push_of_some _ q) (Nat.le_refl _) ?_, rfl, q _ (I.hok.fresh (Nat.le_refl _))⟩
  exact ⟨Nat.le_trans (cutV_length xs lo hi) hz, _, 0, (r.drop (HT.sIx xs.length 0 lo)).take (HT.sIx xs.length xs.length hi - HT.sIx xs.length 0 lo), Heap.get?_push_size _ rfl⟩
def flatV : V → Bool
  | .non => true
  | .bl _ => true
  | .int _ => true
  | .str _ => true
  | _ => false
def eqV : V → V → Bool
  | .non, .non => true
  | .bl a, .bl b => a == b
  | .bl a, .int b => (if a then 1 else 0) == b
  | .int a, .bl b => a == (if b then 1 else 0)
  | .int a, .int b => a == b
  | .str a, .str b => a == b
  | _, _ => false
theorem eqAt_V {A : Around} {s : Shared} {y x : V} {u v : Value} (ry : RelV y u) (rx : RelV x v) (fy : flatV y = true) (fx : flatV x = true) : SeqAt.EqAt A s u v (eqV y x) := by
  cases y with
  | non =>
    cases ry
    cases x with
    | non => cases rx; exact SeqAt.EqAt.same _
    | bl b => cases rx; exact SeqAt.EqAt.none_bool b
    | int b => obtain ⟨t, rfl⟩ := rx; exact SeqAt.EqAt.none_int b t
    | str b => obtain ⟨t, rfl⟩ := rx; exact SeqAt.EqAt.none_str b t
    | _ => exact absurd (show false = true from fx) Bool.false_ne_true
  | bl a =>
    cases ry
    cases x with
    | non => cases rx; exact SeqAt.EqAt.bool_none a
    | bl b => cases rx; exact SeqAt.EqAt.bool_bool a b
    | int b => obtain ⟨t, rfl⟩ := rx; exact SeqAt.EqAt.bool_int a b t
    | str b => obtain ⟨t, rfl⟩ := rx; exact SeqAt.EqAt.bool_str a b t
    | _ => exact absurd (show false = true from fx) Bool.false_ne_true
  | int a =>
    obtain ⟨t', rfl⟩ := ry
    cases x with
    | non => cases rx; exact SeqAt.EqAt.int_none a t'
    | bl b => cases rx; exact SeqAt.EqAt.int_bool a t' b
    | int b => obtain ⟨t, rfl⟩ := rx; exact SeqAt.EqAt.int_int a t' b t
    | str b => obtain ⟨t, rfl⟩ := rx; exact SeqAt.EqAt.int_str a t' b t
    | _ => exact absurd (show false = true from fx) Bool.false_ne_true
  | str a =>
    obtain ⟨t', rfl⟩ := ry
    cases x with
    | non => cases rx; exact SeqAt.EqAt.str_none a t'
    | bl b => cases rx; exact SeqAt.EqAt.str_bool a t' b
    | int b => obtain ⟨t, rfl⟩ := rx; exact SeqAt.EqAt.str_int a t' b t
    | str b => obtain ⟨t, rfl⟩ := rx; exact SeqAt.EqAt.str_str a t' b t
    | _ => exact absurd (show false = true from fx) Bool.false_ne_true
  | _ => exact absurd (show false = true from fy) Bool.false_ne_true
def eqU (x : V) (u : Value) : Bool := match u with
  | .none => eqV .non x
  | .bool b => eqV (.bl b) x
  | .int i _ => eqV (.int i) x
  | .str z _ => eqV (.str z) x
  | _ => false
theorem eqU_of {x y : V} {u : Value} (r : RelV y u) (f : flatV y = true) : eqU x u = eqV y x := by
  cases y with
  | non => cases r; rfl
  | bl b => cases r; rfl
  | int i => obtain ⟨t, rfl⟩ := r; rfl
  | str z => obtain ⟨t, rfl⟩ := r; rfl
  | _ => exact absurd (show false = true from f) Bool.false_ne_true
theorem any_eqU {x : V} : ∀ {xs : List V} {us : List Value}, Vals xs us → xs.all flatV = true → us.any (eqU x) = xs.any fun y => eqV y x
  | _, _, .nil, _ => rfl
  | y :: xs, u :: us, .cons r t, f => by
    rw [List.all_cons, Bool.and_eq_true] at f
    rw [List.any_cons, List.any_cons, eqU_of r f.1, any_eqU t f.2]
theorem mem_eqAt {A : Around} {s : Shared} {x : V} {v : Value} (rx : RelV x v) (fx : flatV x = true) : ∀ {xs : List V} {us : List Value}, Vals xs us → xs.all flatV = true → ∀ u ∈ us, SeqAt.EqAt A s u v (eqU x u)
  | _, _, .nil, _ => fun u hu => by cases hu
  | y :: xs, u :: us, .cons r t, f => fun u' hu => by
    rw [List.all_cons, Bool.and_eq_true] at f
    rcases List.mem_cons.mp hu with rfl | hu
    · rw [eqU_of r f.1]; exact eqAt_V r rx f.1 fx
    · exact mem_eqAt rx fx t f.2 u' hu
def inV (x : V) (xs : List V) : Bool := xs.any fun y => eqV y x
def rIn (K : PySem.W.Frag) (neg : Bool) : R2 := fun x y H Q => ∃ p xs, y = .ref p ∧ (SqL K H p xs ∨ SqT K H p xs) ∧ flatV x = true ∧ xs.all flatV = true ∧ Q (.bl (if neg then !inV x xs else inV x xs)) H
theorem op_in_seq : OpR X (compareOp .In) (rIn X.K false) := by
  intro pins s σ H x y v u Q I rx ry h
  obtain ⟨p, xs, rfl, hq, fx, fs, q⟩ := h
  cases ry
  rcases hq with hq | hq
  · obtain ⟨its, r, pl, hz⟩ := I.list hq
    refine SeqAt.in_listAt (eqU x) pl.isList (fun w hw => mem_eqAt rx fx r fs w (by simpa using hw)) ⟨.bl _, H, I, rfl, ?_⟩
    rw [show its.toArray.any (eqU x) = its.any (eqU x) by simp, any_eqU r fs]
    exact q
  · obtain ⟨its, r, pl, hz⟩ := I.tuple hq
    refine SeqAt.in_tupleAt (eqU x) pl (fun w hw => mem_eqAt rx fx r fs w (by simpa using hw)) ⟨.bl _, H, I, rfl, ?_⟩
    rw [show its.toArray.any (eqU x) = its.any (eqU x) by simp, any_eqU r fs]
    exact q
theorem call_len_seq : CallR X (.builtin "len") (fun xs H Q => ∃ p ys, xs = [.ref p] ∧ (SqL X.K H p ys ∨ SqT X.K H p ys) ∧ Q (.int ys.length) H) := by
  intro pins s σ H xs us Q I r h
  obtain ⟨p, ys, rfl, hq, q⟩ := h
  obtain ⟨u, rfl, rx⟩ := vals1 r
  cases rx
  have hn := line63
  rcases hq with hq | hq
  · obtain ⟨its, r', pl, hz⟩ := I.list hq
    have hlen := r'.length
    exact Calls.call_len_list pl.isList (by simp only [List.size_toArray] <;> omega) ⟨.int ys.length, H, I.tok _, ⟨s.toks + 1, by rw [List.size_toArray, hlen]⟩, q⟩
  · obtain ⟨its, r', pl, hz⟩ := I.tuple hq
    have hlen := r'.length
    exact len_tuple pl (by simp only [List.size_toArray] <;> omega) ⟨.int ys.length, H, I.tok _, ⟨s.toks + 1, by rw [List.size_toArray, hlen]⟩, q⟩
theorem call_list_of : CallR X (.type "list") (fun xs H Q => ∃ p ys, xs = [.ref p] ∧ (SqL X.K H p ys ∨ SqT X.K H p ys) ∧ ∀ l, H l = none → Q (.ref l) (upd H l (.lst ys))) := by
  intro pins s σ H xs us Q I r h
  obtain ⟨p, ys, rfl, hq, q⟩ := h
  obtain ⟨u, rfl, rx⟩ := vals1 r
  cases rx
  have fin : ∀ (its : List Value), Vals ys its → ys.length ≤ sizeLine → ∀ (h' : Heap) (c' : Nat), (∀ b o', s.heap.get? b = some o' → h'.get? b = some o') →
      h'.get? s.heap.objs.size = some { cls := .type "list", dict := none, data := .seq its.toArray c', slots := #[] } → EP X pins σ Q (.ref s.heap.objs.size) { s with heap := h' } := fun its r' hz h' c' kp e =>
    ⟨.ref s.heap.objs.size, _, I.laid (t' := s.toks) kp (Nat.le_refl _) (show ObjOk X.prog X.w _ h' _ (.lst ys) from ⟨hz, its, c', r', e⟩), rfl, q _ (I.hok.fresh (Nat.le_refl _))⟩
  rcases hq with hq | hq
  · obtain ⟨its, r', pl, hz⟩ := I.list hq
    have hlen := r'.length
    obtain ⟨o, ho, hc, n, hd⟩ := pl.isList
    exact call_list_seq p (.inl rfl) ho hc hd (fun h' c' kp e => fin its r' hz h' c' kp e) (by simp only [List.size_toArray] <;> omega)
  · obtain ⟨its, r', pl, hz⟩ := I.tuple hq
    have hlen := r'.length
    obtain ⟨o, ho, hc, n, hd⟩ := pl
    exact call_list_seq p (.inr rfl) ho hc hd (fun h' c' kp e => fin its r' hz h' c' kp e) (by simp only [List.size_toArray] <;> omega)
theorem call_tuple_of : CallR X (.type "tuple") (fun xs H Q => ∃ p ys, xs = [.ref p] ∧ ((SqL X.K H p ys ∧ ∀ l, H l = none → Q (.ref l) (upd H l (.tup ys))) ∨ (SqT X.K H p ys ∧ Q (.ref p) H))) := by
  intro pins s σ H xs us Q I r h
  obtain ⟨p, ys, rfl, h⟩ := h
  obtain ⟨u, rfl, rx⟩ := vals1 r
  cases rx
  rcases h with ⟨hq, q⟩ | ⟨hq, q⟩
  · obtain ⟨its, r', pl, hz⟩ := I.list hq
    have hlen := r'.length
    refine call_tuple_list pl.isList (fun h' kp => ?_) (by simp only [List.size_toArray] <;> omega)
    have I1 : Inv X pins σ H { s with heap := h' } := I.kept (t' := s.toks) kp
    have I2 : Inv X pins σ (upd H h'.objs.size (.tup ys)) { s with heap := h'.push { cls := .type "tuple", data := .seq its.toArray } } :=
      I1.laid (t' := s.toks) (fun b o e => Heap.get?_push_of_some _ e) (Nat.le_refl _) (show ObjOk X.prog X.w _ _ _ (.tup ys) from ⟨hz, its, r', IsTup.new _ _⟩)
    exact ⟨.ref h'.objs.size, _, I2, rfl, q _ (I1.hok.fresh (Nat.le_refl _))⟩
  · obtain ⟨its, r', pl, hz⟩ := I.tuple hq
    exact call_tuple_same pl ⟨.ref p, H, I, rfl, q⟩
def tyV (K : PySem.W.Frag) (T : String) (x : V) (H : Hp) : Prop := match x with
  | .str _ => T = "str"
  | .int _ => T = "int"
  | .ref p => (T = "list" ∧ ∃ xs, SqL K H p xs) ∨ (T = "tuple" ∧ ∃ o, K.lookup p = some o ∧ o.cls = .type "tuple" ∧ o.dict = none) ∨
      (T = "dict" ∧ ((∃ kvs, H p = some (.dK kvs)) ∨ ∃ kvs, H p = some (.dT kvs))) ∨ (T = "set" ∧ ∃ S n, H p = some (.set S n))
  | _ => False
theorem tyV_is {pins : List (Addr × Obj)} {σ : St} {H : Hp} {s : Shared} {T : String} {x : V} {v : Value} (I : Inv X pins σ H s) (r : RelV x v) (ty : tyV X.K T x H) :
    s.TypeIs v T ∧ ∀ a, v = .ref a → ∃ ob, s.heap.get? a = some ob ∧ ob.dict = none := by
  cases x with
  | str z =>
    obtain ⟨t, rfl⟩ := r
    cases (show T = "str" from ty)
    exact ⟨typeIs_str s z t, fun _ e => nomatch e⟩
  | int i =>
    obtain ⟨t, rfl⟩ := r
    cases (show T = "int" from ty)
    exact ⟨typeIs_int s i t, fun _ e => nomatch e⟩
  | ref p =>
    cases r
    rcases ty with ⟨rfl, xs, hq⟩ | ⟨rfl, o, hk, hc, hd⟩ | ⟨rfl, hk⟩ | ⟨rfl, S, n, hk⟩
    · obtain ⟨its, _, pl, _⟩ := I.list hq
      refine ⟨pl.isList.typeIs, fun a e => ?_⟩
      cases e
      obtain ⟨o, n, e, c, hd, _⟩ := pl
      exact ⟨o, e, hd⟩
    · refine ⟨⟨o, I.kIn p o hk, hc⟩, fun a e => ?_⟩
      cases e
      exact ⟨o, I.kIn _ o hk, hd⟩
    · have z : ∃ o, s.heap.get? p = some o ∧ o.ExactDict := by
        rcases hk with ⟨kvs, hk⟩ | ⟨kvs, hk⟩
        · obtain ⟨_, _, _, _, o, _, _, e, ex, _⟩ := I.hok p _ hk
          exact ⟨o, e, ex⟩
        · obtain ⟨_, _, _, _, o, _, _, e, ex, _⟩ := I.hok p _ hk
          exact ⟨o, e, ex⟩
      obtain ⟨o, e, ex⟩ := z
      refine ⟨⟨o, e, ex.1⟩, fun a e2 => ?_⟩
      cases e2
      exact ⟨o, e, ex.2.1⟩
    · obtain ⟨o, _, _, _, e, ex, _⟩ := I.hok p _ hk
      refine ⟨⟨o, e, ex.1⟩, fun a e2 => ?_⟩
      cases e2
      exact ⟨o, e, ex.2.1⟩
  | _ => exact False.elim ty
def tBM0 (K : PySem.W.Frag) (T : String) (r : V → List V → Hp → VK → Prop) (to : TE) : TE := fun σ H Q => to σ H fun x H1 => tyV K T x H1 ∧ r x [] H1 Q
def tBM (K : PySem.W.Frag) (T : String) (r : V → List V → Hp → VK → Prop) (to : TE) (t : TA) : TE := fun σ H Q => to σ H fun x H1 => tyV K T x H1 ∧ t σ H1 fun xs H2 => r x xs H2 Q
variable {o e : Expr} {es : List Expr} {to : TE} {t : TA} {name : Str} {apos cpos : Pos} {T id : String} {r : V → List V → Hp → VK → Prop}
theorem pe_bm0 (pa : PlainAttrs T) (slot : Slot T name id) (hty : typeOf (.builtin id) = pure (.type "method_descriptor")) (hm : MtR X id r) (ho : PE X o to)
    (hbase : attributeBase o name X.env (eval o X.env) = eval o X.env := by rfl) (hline : (apos.endLine == cpos.line) = true := by rfl) : PE X (.Call (.Attribute o name apos) [] [] cpos) (tBM0 X.K T r to) := by
  intro pins s σ H Q I h
  refine wpAny_Call_method0_late hbase hline (thn (ho pins s σ H _ I h) fun v s1 ⟨x, H1, I1, r1, ty, q1⟩ => ?_)
  obtain ⟨h1, h2⟩ := tyV_is I1 r1 ty
  exact ⟨T, id, pa, slot, hty, h1, h2, Calls.callWith_builtin rfl (PySem.evalArgs_none (hm pins s1 σ H1 x [] v [] Q I1 r1 .nil q1))⟩
theorem pe_bm (pa : PlainAttrs T) (slot : Slot T name id) (hty : typeOf (.builtin id) = pure (.type "method_descriptor")) (hm : MtR X id r) (ho : PE X o to) (ha : PA X (e :: es) t)
    (hbase : attributeBase o name X.env (eval o X.env) = eval o X.env := by rfl)
    (hfew : ((backTo cpos (starEach (e :: es) X.env)).all (fun x => !x.1) && (backToKw cpos (keywordEach [] X.env)).all (fun x => x.1.isSome)
      && decide ((e :: es).length + ([] : List Keyword).length + (if ([] : List Keyword).isEmpty then 0 else 1) < 30)) = true := by rfl)
    (hline : (apos.endLine == cpos.line) = true := by rfl) (hs : starEach (e :: es) X.env = (false, eval e X.env) :: starEach es X.env := by rfl) (hplain : (backTo cpos (starEach es X.env)).any (·.1) = false := by rfl) :
    PE X (.Call (.Attribute o name apos) (e :: es) [] cpos) (tBM X.K T r to t) := by
  intro pins s σ H Q I h
  refine wpAny_Call_method_late hbase hfew hline rfl (thn (ho pins s σ H _ I h) fun v s1 ⟨x, H1, I1, r1, ty, q1⟩ => ?_)
  obtain ⟨h1, h2⟩ := tyV_is I1 r1 ty
  refine ⟨T, id, pa, slot, hty, h1, h2, ?_⟩
  have hA := ha cpos pins s1 σ H1 _ I1 q1
  rw [hs] at hA ⊢
  refine Calls.callWith_builtin (by show (false || (backTo cpos (starEach es X.env)).any (·.1)) = false; rw [hplain] <;> rfl) (Calls.evalArgs_plain ?_)
  exact thn hA fun us s2 ⟨vs, H2, I2, r2, q2⟩ => hm pins s2 σ H2 x vs v us Q I2 r1 r2 q2
end
end L2
namespace L2
open PySem PySem.Spec PyProof.Rows
def MtM (X : Cx) (id : String) (r : V → List V → Hp → VK → Prop) : Prop :=
  ∀ (pins : List (Addr × Obj)) (s : Shared) (σ : St) (H : Hp) (x : V) (xs : List V) (v : Value) (us : List Value) (Q : VK), Inv X pins σ H s → RelV x v → Vals xs us → r x xs H Q →
    wpAny (model X.prog X.w) X.A (call (.builtin id) (v :: us)) (EP X pins σ Q) X.xe s
theorem Vals.one : ∀ {x : V} {us : List Value}, Vals [x] us → ∃ u, us = [u] ∧ RelV x u
  | _, _, .cons r .nil => ⟨_, rfl, r⟩
theorem Vals.two : ∀ {x y : V} {us : List Value}, Vals [x, y] us → ∃ u v, us = [u, v] ∧ RelV x u ∧ RelV y v
  | _, _, _, .cons r (.cons q .nil) => ⟨_, _, rfl, r, q⟩
theorem Vals.zero : ∀ {us : List Value}, Vals [] us → us = []
  | _, .nil => rfl
theorem Vals.dropLast {xs : List V} {us : List Value} (h : Vals xs us) : Vals xs.dropLast us.dropLast := by
  induction h with
  | nil => exact .nil
  | cons r t ih =>
    cases t with
    | nil => exact .nil
    | cons q t' => exact .cons r ih
theorem Vals.rep {xs : List V} {us : List Value} (h : Vals xs us) : ∀ k : Nat, Vals (List.replicate k xs).flatten (List.replicate k us).flatten
  | 0 => .nil
  | k + 1 => by
    rw [List.replicate_succ, List.replicate_succ, List.flatten_cons, List.flatten_cons]
    exact Vals.append h (Vals.rep h k)
theorem erase_last {α : Type} (l : List α) : l.eraseIdx (l.length - 1) = l.dropLast := by
  induction l with
  | nil => rfl
  | cons a r ih =>
    cases r with
    | nil => rfl
    | cons b r =>
      have e : (a :: b :: r).length - 1 = ((b :: r).length - 1) + 1 := by
        have h1 : (a :: b :: r).length = r.length + 2 := rfl
        have h2 : (b :: r).length = r.length + 1 := rfl
        omega
      rw [e, List.eraseIdx_cons_succ, ih]
      all_goals rfl
theorem foldl_rep (its : List Value) : ∀ (k : Nat) (acc : List Value),
    List.foldl (fun x1 x2 => x1 ++ x2) acc.toArray (List.replicate k its.toArray) = (acc ++ (List.replicate k its).flatten).toArray
  | 0, acc => by simp
  | k + 1, acc => by
    have e : acc.toArray ++ its.toArray = (acc ++ its).toArray := by simp
    have e2 : (acc ++ its) ++ (List.replicate k its).flatten = acc ++ (List.replicate (k + 1) its).flatten := by
      rw [List.replicate_succ, List.flatten_cons, List.append_assoc]
    rw [← e2, ← foldl_rep its k (acc ++ its), ← e, List.replicate_succ, List.foldl_cons]
section
variable {X : Cx} {pins : List (Addr × Obj)} {σ : St} {H : Hp} {s : Shared} {l b : Addr} {xs ys zs : List V}
theorem Inv.lset {its its' : List Value} {n : Nat} {f : Array Value → Array Value} {t' : Nat} (I : Inv X pins σ H s) (hH : H l = some (.lst xs))
    (e : s.heap.get? l = some { cls := .type "list", data := .seq its.toArray n }) (hf : f its.toArray = its'.toArray) (hv : Vals ys its') (hz : ys.length ≤ sizeLine) :
    Inv X pins σ (upd H l (.lst ys)) { s with heap := s.heap.update l (Obj.mapSeq f), toks := t' } := by
  have q := PySem.IsL.update e f
  rw [hf] at q
  refine I.write (x := l) (e := l) (by rw [hH]; exact trivial) (.inl rfl) (fun b' u hb hu => (Heap.get?_update_other s.heap (Obj.mapSeq f) (Ne.symm hb)).trans hu) ⟨_, q⟩ ?_
  exact ⟨hz, its', _, hv, q⟩
theorem Inv.lnew {its : List Value} {t' : Nat} (I : Inv X pins σ H s) (hv : Vals ys its) (hz : ys.length ≤ sizeLine) :
    Inv X pins σ (upd H s.heap.objs.size (.lst ys)) { s with heap := s.heap.push { cls := .type "list", data := .seq its.toArray }, toks := t' } :=
  I.laid (fun _ _ q => Heap.get?_push_of_some _ q) (Nat.le_refl _) ⟨hz, its, 0, hv, Heap.get?_push_size _ rfl⟩
theorem Inv.fresh (I : Inv X pins σ H s) : H s.heap.objs.size = none := I.hok.fresh (Nat.le_refl _)
theorem Inv.lstM (I : Inv X pins σ H s) (hH : H l = some (.lst xs)) : xs.length ≤ sizeLine ∧ ∃ (its : List Value) (n : Nat), Vals xs its ∧ xs.length = its.length ∧ s.heap.get? l = some { cls := .type "list", data := .seq its.toArray n } := by
  obtain ⟨z, its, n, r, e⟩ := I.hok l _ hH
  exact ⟨z, its, n, r, r.length, e⟩
theorem notLongL {n : Nat} (h : n ≤ sizeLine) : Builtin.List.listTooLong n = false := by
  unfold Builtin.List.listTooLong
  exact decide_eq_false (by omega)
end
section
variable {X : Cx}
def rAppend : V → List V → Hp → VK → Prop := fun x vs H Q => ∃ l xs y, x = .ref l ∧ vs = [y] ∧ H l = some (.lst xs) ∧ xs.length < sizeLine ∧ Q .non (upd H l (.lst (xs ++ [y])))
theorem mt_append : MtM X "list.append" rAppend := by
  intro pins s σ H x vs v us Q I rx rv h
  obtain ⟨l, xs, y, rfl, rfl, hH, hz, q⟩ := h
  cases rx
  obtain ⟨u, rfl, ru⟩ := rv.one
  obtain ⟨z, its, n, r, hl, e⟩ := I.lstM hH
  refine call_meets F.slot_list_append ⟨_, e, rfl⟩ F.entry_list_append (F.args_list_append_2 _ _) (PySem.list_append l its.toArray n u (by rw [List.size_toArray]; omega)) ⟨e, ?_⟩
  refine ⟨.non, _, I.lset (its' := its ++ [u]) hH e (by simp) (r.append (.cons ru .nil)) ?_, rfl, q⟩
  rw [List.length_append, List.length_singleton]
  omega
def rExtend : V → List V → Hp → VK → Prop := fun x vs H Q => ∃ l b xs zs, x = .ref l ∧ vs = [.ref b] ∧ H l = some (.lst xs) ∧ H b = some (.lst zs) ∧ xs.length + zs.length ≤ sizeLine ∧ Q .non (upd H l (.lst (xs ++ zs)))
theorem mt_extend : MtM X "list.extend" rExtend := by
  intro pins s σ H x vs v us Q I rx rv h
  obtain ⟨l, b, xs, zs, rfl, rfl, hH, hB, hz, q⟩ := h
  cases rx
  obtain ⟨u, rfl, ru⟩ := rv.one
  cases ru
  obtain ⟨z, its, n, r, hl, e⟩ := I.lstM hH
  obtain ⟨z2, its2, n2, r2, hl2, e2⟩ := I.lstM hB
  have hsz : its.toArray.size + its2.toArray.size ≤ sizeLine := by rw [List.size_toArray, List.size_toArray]; omega
  have hlong : ¬ (!its.toArray.isEmpty && Builtin.List.listTooLong (its.toArray.size + its2.toArray.size)) = true := by
    rw [notLongL hsz, Bool.and_false]
    exact Bool.false_ne_true
  refine call_meets F.slot_list_extend ⟨_, e, rfl⟩ F.entry_list_extend (F.args_list_extend_2 _ _)
    (AutoSeq1.list_extend_list_list_0 l its.toArray n b its2.toArray n2 hlong (by rw [List.size_toArray]; omega) (by omega)) ⟨e, e2, ?_⟩
  refine ⟨.non, _, I.lset (its' := its ++ its2) hH e (by simp) (r.append r2) ?_, rfl, q⟩
  rw [List.length_append]
  omega
def rPop : V → List V → Hp → VK → Prop := fun x vs H Q => ∃ l xs y, x = .ref l ∧ vs = [] ∧ H l = some (.lst xs) ∧ xs[xs.length - 1]? = some y ∧ Q y (upd H l (.lst xs.dropLast))
theorem mt_pop : MtM X "list.pop" rPop := by
  intro pins s σ H x vs v us Q I rx rv h
  obtain ⟨l, xs, y, rfl, rfl, hH, hy, q⟩ := h
  cases rx
  have hus := rv.zero
  subst hus
  obtain ⟨z, its, n, r, hl, e⟩ := I.lstM hH
  obtain ⟨u, hu, ru⟩ := r.get hy
  have hy' : its.toArray[its.toArray.size - 1]? = some u := by
    show its.toArray[its.length - 1]? = some u
    rw [← Array.getElem?_toList, ← hl]
    exact hu
  refine call_meets F.slot_list_pop ⟨_, e, rfl⟩ F.entry_list_pop (F.args_list_pop_1 _) (MeetsSeq.list_pop_last l its.toArray n u hy' (by rw [List.size_toArray]; omega)) ⟨e, ?_⟩
  refine ⟨y, _, I.lset (its' := its.dropLast) hH e ?_ r.dropLast ?_, ru, q⟩
  · show its.toArray.eraseIdxIfInBounds (its.toArray.size - 1) = its.dropLast.toArray
    rw [List.size_toArray, List.eraseIdxIfInBounds_toArray, erase_last]
  · rw [List.length_dropLast]
    omega
def rCat : R2 := fun x y H Q => ∃ l b xs zs, x = .ref l ∧ y = .ref b ∧ H l = some (.lst xs) ∧ H b = some (.lst zs) ∧ xs.length + zs.length ≤ sizeLine ∧ ∀ p, H p = none → Q (.ref p) (upd H p (.lst (xs ++ zs)))
theorem op_cat : OpR X (binaryOp .Add) rCat := by
  intro pins s σ H x y v u Q I rx ry h
  obtain ⟨l, b, xs, zs, rfl, rfl, hH, hB, hz, q⟩ := h
  cases rx
  cases ry
  obtain ⟨z, its, n, r, hl, e⟩ := I.lstM hH
  obtain ⟨z2, its2, n2, r2, hl2, e2⟩ := I.lstM hB
  refine PySem.P.add_list e e2 ?_ (by rw [List.size_toArray, List.size_toArray]; omega)
  have ea : its.toArray ++ its2.toArray = (its ++ its2).toArray := by simp
  rw [ea]
  exact ⟨.ref _, _, I.lnew (t' := s.toks) (r.append r2) (by rw [List.length_append]; omega), rfl, q _ I.fresh⟩
theorem len_rep {α : Type} (xs : List α) (k : Nat) : (List.replicate k xs).flatten.length = k * xs.length := by
  induction k with
  | zero => simp
  | succ k ih => rw [List.replicate_succ, List.flatten_cons, List.length_append, ih, Nat.succ_mul, Nat.add_comm]
end
section
variable {prog : Program} {w : World} {A : Around} {E : Value → Shared → Prop} {s : Shared}
set_option maxRecDepth 100000 in
end
section
variable {X : Cx}
end
end L2
namespace Att
open PySem PySem.W PySem.Calls PyProof.Rows
theorem ints_of_wellAll {P : Params} {h : Heap} : ∀ (ns : List Int) (vs : List Value), WellAll P h vs (ns.map WData.int) → IntsAre vs ns := by
  intro ns
  induction ns with
  | nil =>
    intro vs w
    rw [List.map_nil] at w
    cases w
    exact .nil
  | cons n ns ih =>
    intro vs w
    rw [List.map_cons] at w
    cases w with
    | cons a b =>
      cases a
      exact .cons _ _ (ih _ b)
theorem script_of {l : OpenLaw} {n : Nat} (hn : l.most = some n) {P : Params} {h : Heap} {args : List WData} {vals : List Value}
    (hpre : l.row.toRowW.claim.pre args = true) (hwl : WellAll P h vals args) :
    ∃ a vs ns, vals = [Value.ref a] ∧ args = [WData.list (ns.map WData.int)] ∧ h.get? a = some { cls := .type "list", data := .seq vs.toArray } ∧ IntsAre vs ns ∧ ns.length ≤ n := by
  have hsh : WShape.hasAll [] args [.list .int] = true := (pre_splitW hpre).1
  have hc : l.pre.holds [] { args := args } = true := (pre_splitW hpre).2
  obtain ⟨d, r, rfl, h1, h2⟩ := hasAllW_cons hsh
  obtain rfl := hasAllW_nil h2
  obtain ⟨xs, rfl, h3⟩ := hasW_list h1
  obtain ⟨ns, rfl⟩ := items_int h3
  have hlen : ns.length ≤ n := by
    unfold OpenLaw.pre at hc
    have h4 : (WTm.not (.lt (.lit (.int (n : Int))) (.len (.arg 0)))).holds [] { args := [.list (ns.map .int)] } = true := by
      have h4 := (holds_andW hc).1
      rw [hn] at h4
      exact h4
    have h5 := condW_of h4 (w_not (w_lt w_lit (w_len_list (w_arg rfl))))
    rw [List.length_map] at h5
    refine Nat.le_of_not_lt fun q => ?_
    have q' : (n : Int) < ((ns.length : Nat) : Int) := by omega
    first
      | (rw [decide_eq_true q'] at h5; exact absurd h5 (by decide))
      | (simp at h5; omega)
  cases hwl with
  | cons w1 w2 =>
    cases w2
    cases w1 with
    | list ho hall => exact ⟨_, _, ns, rfl, rfl, ho, ints_of_wellAll ns _ hall, hlen⟩
theorem post_true (l : OpenLaw) (args : List WData) : l.row.toRowW.claim.post args (.bool true) args = true :=
  postW_of (r := l.row.toRowW) (X := (true == true))
    (show WShape.has [] (.bool true) .bool = true by first | rfl | decide | simp [WShape.has, WShape.arms, WShape.armsAll])
    (show (WTm.eq .res (.lit (.bool true))).value [] { args := args, res := some (.bool true), after := args } = some (.bool (true == true)) from w_eq_bool (w_res rfl) w_lit) rfl
theorem attach_call {l : OpenLaw} {n : Nat} {q : Program} {loose : List Str} {XP : (Str → Option Value) → Heap → Prop} {YP : World → Heap → Prop} {d : DefRec}
    (hn : l.most = some n) (hdf : d.params.defaults = [])
    (call : ∀ (w : World) (s₀ s₁ : Shared) (mg mb : Str → Option Value) (fa : Addr) (o : Obj) (pm cd doc : Value) (a : Addr) (vs : List Value) (ns : List Int),
      Ground q loose [] XP w s₀ mg mb s₁.heap → YP w s₁.heap →
      s₁.heap.get? fa = some o → o.data = .func (docDef d.name d.params d.body d.scope pm cd doc) → s₁.heap.CodeRec cd d.name → mg d.name = some (.ref fa) →
      s₁.heap.get? a = some { cls := .type "list", data := .seq vs.toArray } → IntsAre vs ns → ns.length ≤ n → s₁.gens = #[] →
      codeAny (model l.prog w) callerA (.call (.ref fa) ⟨[.ref a], []⟩) (fun r s' => r = .ok (.ret (.bool true)) ∧ OldK s₁.heap s'.heap ∧ s'.os = s₁.os ∧ AllBare s'.gens) s₁) :
    WalkO q loose XP YP l.row.toRowW d [] (fun f vs => PySem.call f vs) := by
  intro w s₀ s₁ mg mb G Y fa o pm cd doc dV kV ho hd hcd hD hmg hg args vals as hpre hlay hrd hwl hlo
  obtain rfl : dV = .none := Dflts.none hD hdf
  obtain rfl : kV = .none := Dflts.noKw hD
  obtain ⟨a, vs, ns, rfl, rfl, hobj, hints, hlen⟩ := script_of hn hpre hwl
  refine enter_call (codeAny_mono (call w s₀ s₁ mg mb fa o pm cd doc a vs ns G Y ho (fd_plain hd) hcd hmg hobj hints hlen hg) fun r s' hq => ?_)
  obtain ⟨rfl, h2, h3, h4⟩ := hq
  exact ⟨.inl ⟨.bool true, .bool true, [], rfl, fun _ => rfl, .bool true, post_true l _, fun _ => ⟨List.Pairwise.nil, fun _ hm => (nomatch hm)⟩⟩, h2, h3, h4⟩
section
variable {prog : Program} {w : World} {A : Around} {E : Value → Shared → Prop} {s : Shared} {K : Frag}
def noObjs (h : Heap) : Heap := { h with objs := #[] }
theorem noObjs_get (h : Heap) (b : Addr) : (noObjs h).get? b = none := by
  cases e : (noObjs h).get? b with
  | none => rfl
  | some o => exact absurd (Heap.lt_size e) (Nat.not_lt_zero _)
def ledger (h : Heap) (L d : Addr) : List (Addr × Obj) := (List.range h.objs.size).filterMap fun a => if a = L ∨ a = d then none else (h.get? a).map fun o => (a, o)
theorem mem_ledger {h : Heap} {L d a : Addr} {o : Obj} : (a, o) ∈ ledger h L d ↔ a ≠ L ∧ a ≠ d ∧ h.get? a = some o := by
  unfold ledger
  rw [List.mem_filterMap]
  constructor
  · rintro ⟨b, _, e⟩
    split at e
    · cases e
    · rename_i hb
      obtain ⟨o', ho, e'⟩ := Option.map_eq_some_iff.mp e
      cases e'
      exact ⟨fun q => hb (.inl q), fun q => hb (.inr q), ho⟩
  · rintro ⟨n1, n2, ho⟩
    refine ⟨a, List.mem_range.mpr (Heap.lt_size ho), ?_⟩
    rw [if_neg (show ¬ (a = L ∨ a = d) from fun q => q.elim n1 n2), ho] <;> rfl
theorem news_ledger {h : Heap} {L d : Addr} {od : Obj} (hne : d ≠ L) (ho : h.get? d = some od) : News (noObjs h) L h ([] ++ (d, od) :: ledger h L d) := by
  rintro ⟨a, o⟩ hp
  rcases List.mem_cons.mp hp with e | hp
  · cases e
    exact ⟨ho, hne, noObjs_get _ _⟩
  · obtain ⟨n1, n2, e⟩ := mem_ledger.mp hp
    exact ⟨e, n1, noObjs_get _ _⟩
theorem fr_all {h : Heap} {L : Addr} {m : Str → Option Value} (n : h.Ns L m) : Fr (noObjs h) L h m :=
  ⟨n, fun b o e => (by rw [noObjs_get] at e; cases e), Nat.zero_le _⟩
theorem set_field {x C dx L : Addr} {ox : Obj} {m : Str → Option Value} {es es' : List DictEntry} {n n' : Nat} {name : Str} {v : Value} {Q : Unit → Shared → Prop}
    (X : K.In s.heap) (I : PySem.W.InstAt s.heap x ox C (some (dictOf es n))) (hd : ox.dict = some dx) (hL : s.heap.Ns L m) (hne : dx ≠ L)
    (hs : findIn K (.ref C) "__setattr__" = some (some (.builtin "object.__setattr__"))) (hp : plainOver K C = true) (ht : takerIn K C name = some none) (hh : hasDictIn K C = true) (hl : (getL name es).isSome = true)
    (e : (putL name (PyData.keyHash w.params name) (.str name (s.toks + 1)) v es, putN name es n) = (es', n')) (hz : es'.length ≤ 1000)
    (h : ∀ h' : Heap, h'.Ns L m → h'.get? dx = some (dictOf es' n') → (∀ b o, b ≠ dx → b ≠ L → s.heap.get? b = some o → h'.get? b = some o) → Q () { s with heap := h', toks := s.toks + 2 }) :
    wpAny (model prog w) A (setAttr (.ref x) name v) Q E s := by
  obtain ⟨e1, e2⟩ := Prod.mk.inj e
  have hdx : s.heap.get? dx = some (dictOf es n) := by
    have := I.dict
    rw [hd] at this
    exact this
  refine set_plain X I hs (osa_dict (s := { s with toks := s.toks + 1 }) (h₀ := noObjs s.heap) (L := L) (m := m) (od := dictOf es n) (od' := dictOf es' n') (es := es') (n := n') (pre := []) (post := ledger s.heap L dx)
    (fr_all hL) (news_ledger hne hdx) X I hd hp ht hh hl (fun _ q => nomatch q) (fun ⟨_, _⟩ q => (mem_ledger.mp q).2.1) (by rw [putName_dict, e1, e2]) rfl hz fun h' F' N' => ?_)
  exact h h' F'.ns (N'.get (List.Mem.head _)) fun b o n1 n2 ho => N'.get (List.Mem.tail _ (mem_ledger.mpr ⟨n2, n1, ho⟩))
end
end Att
namespace L2
open PySem PySem.Spec PyProof.Rows
theorem vals_ints : ∀ {vs : List Value} {ns : List Int}, IntsAre vs ns → Vals (ns.map V.int) vs
  | _, _, .nil => .nil
  | _, _, .cons n t h => .cons ⟨t, rfl⟩ (vals_ints h)
def Only (H : Hp) : Prop := ∀ b, H b = none ∨ ∃ o xs, H b = some (.frz o (.lst xs))
theorem law_call {P : Program} {w : World} {K : PySem.W.Frag} {mg mb : Str → Option Value} {CX : CXT} {k : Nat} {fa a : Addr} {fd : FuncData} {x : Str} {sp : Sp} {s₁ : Shared} {vs : List Value} {ns : List Int}
    (KX : K.In s₁.heap) (hns : s₁.heap.Ns mainGlobals mg) (hb : s₁.heap.Ns builtinsNs mb) (hbb : ∀ x : Str, x ≠ "__name__" → mb x = bootBuiltins x) (hlim : s₁.heap.NoLimit) (hg : s₁.gens = #[])
    (ha : s₁.heap.get? a = some { cls := .type "list", data := .seq vs.toArray }) (hi : IntsAre vs ns) (hl : ns.length ≤ sizeLine) (hr : Room k callerA)
    (F : ∀ base : Heap, K.In base → base.Ns mainGlobals mg → FnOk P w K mg base CX k fa fd [x] sp) (hbind : ∀ (s : Shared) (u : Value), BindsTo s fd ⟨[u], []⟩ [(x, u)])
    (hsp : ∀ H : Hp, Only H → SqL K H a (ns.map V.int) → sp [.ref a] H (fun v _ => v = .bl true) fun _ _ _ => False)
    (hCX : ∀ H e s', CX [] H s₁ (fun _ _ _ => False) e s' → False) :
    codeAny (model P w) callerA (.call (.ref fa) ⟨[.ref a], []⟩) (fun r s' => r = .ok (.ret (.bool true)) ∧ OldK s₁.heap s'.heap ∧ s'.os = s₁.os ∧ AllBare s'.gens) s₁ := by
  have rv := vals_ints hi
  have lenV := hi.length
  -- from an abstract heap in which nothing but the script may be tracked
  have core : ∀ H : Hp, Only H → SqL K H a (ns.map V.int) → HOk P w H s₁.heap → (∀ b, H b ≠ none → b = a) → (H a ≠ none → K.lookup a = none) →
      codeAny (model P w) callerA (.call (.ref fa) ⟨[.ref a], []⟩) (fun r s' => r = .ok (.ret (.bool true)) ∧ OldK s₁.heap s'.heap ∧ s'.os = s₁.os ∧ AllBare s'.gens) s₁ := by
    intro H hO hS hok hA hK
    have base_of : ∀ {b : Addr} {o : Obj}, s₁.heap.get? b = some o → H b = none → (hidT s₁.heap H).get? b = some o := fun e n => hidT_get e n
    have noA : ∀ {b : Addr} {o : Obj} {es : Array DictEntry} {ep : Nat}, s₁.heap.get? b = some o → o.data = .dict es ep → H b = none := fun {b o es ep} e d => by
      cases q : H b with
      | none => rfl
      | some u =>
        have e' : b = a := hA b (by rw [q]; simp)
        subst e'
        rw [ha] at e; cases e
        have d' : Data.seq vs.toArray _ = Data.dict es ep := d
        cases d'
    have nsK : ∀ {b : Addr} {m : Str → Option Value}, s₁.heap.Ns b m → (hidT s₁.heap H).Ns b m := fun {b m} ⟨o, es, ep, e, d, r⟩ => ⟨o, es, ep, base_of e (noA e d), d, r⟩
    have hKb : K.In (hidT s₁.heap H) := fun b o e => base_of (KX b o e) (by
      cases q : H b with
      | none => rfl
      | some u =>
        have e' : b = a := hA b (by rw [q]; simp)
        subst e'
        rw [hK (by rw [q]; simp)] at e; cases e)
    have hM : Mod K mg (hidT s₁.heap H) := ⟨hKb, nsK hns, ⟨mb, nsK hb, hbb⟩, let ⟨mc, h1, h2⟩ := hlim; ⟨mc, nsK h1, h2⟩⟩
    have e0 : Env0 P w K mg (hidT s₁.heap H) callerA [] s₁ H := ⟨rfl, hM, fun b o e => of_hidT e, Nat.le_of_eq (hidT_size _ _), trivial, fun b hb => absurd (show b ∈ ([] : List Addr) from hb) (by simp), hok, .of_eq hg⟩
    refine codeAny_mono ((F _ hKb (nsK hns)).run callerA [] s₁ H ⟨[.ref a], []⟩ [.ref a] [.ref a] _ _ hr e0 (hbind s₁ (.ref a)) (.cons rfl .nil) (hsp H hO hS)) fun r s' h => ?_
    cases r with
    | error e => exact (hCX H e s' h).elim
    | ok fl =>
      cases fl with
      | next => exact False.elim h
      | brk => exact False.elim h
      | cont => exact False.elim h
      | ret u =>
        obtain ⟨v, H', os, bare, un, hok', r', q⟩ := h
        have q' : v = .bl true := q
        subst q'
        obtain rfl : u = Value.bool true := r'
        refine ⟨rfl, OldK.of_keep fun b o e => ?_, os, bare⟩
        cases q : H b with
        | none => exact un.keep b o e q (by intro z; exact absurd (show b ∈ ([] : List Addr) from z) (by simp)) (by simp)
        | some u =>
          rcases hO b with z | ⟨ob, xs, z⟩
          · rw [q] at z; cases z
          · have z2 := un.frzs b ob _ z
            obtain ⟨e1, _⟩ := hok b _ z
            obtain ⟨e2, _⟩ := hok' b _ z2
            rw [e] at e1; cases e1
            exact e2
  cases hk : K.lookup a with
  | some o =>
    -- the script is one of the module's own objects
    have e := KX a o hk
    rw [ha] at e
    cases e
    refine core (fun _ => none) (fun _ => .inl rfl) (.inr ⟨_, vs.toArray, _, hk, rfl, rfl, rfl, by rw [List.size_toArray, lenV]; exact hl, by simpa using rv⟩) (fun b u z => by have z' : (none : Option HO) = some u := z; cases z') (fun b z => absurd rfl z) fun z => absurd rfl z
  | none =>
    refine core (fun b => if b = a then some (.frz { cls := .type "list", data := .seq vs.toArray } (.lst (ns.map V.int))) else none) (fun b => ?_) (.inl (.inr ⟨{ cls := .type "list", data := .seq vs.toArray }, if_pos rfl⟩)) (fun b u z => ?_) (fun b z => ?_) fun _ => hk
    · by_cases hb : b = a
      · exact .inr ⟨_, _, if_pos hb⟩
      · exact .inl (if_neg hb)
    · by_cases hb : b = a
      · have z' := (if_pos hb).symm.trans z
        cases z'
        subst hb
        exact ⟨ha, by rw [List.length_map]; exact hl, vs, _, rv, ha⟩
      · have z' := (if_neg hb).symm.trans z
        cases z'
    · by_cases hb : b = a
      · exact hb
      · exact absurd (if_neg hb) z
end L2
namespace L2
open PySem PySem.Spec PyProof.Rows
abbrev KOf {K : PySem.W.Frag} {h : Heap} (_ : K.In h) : PySem.W.Frag := K
theorem walk_of {l : PySem.W.OpenLaw} {n k : Nat} {q : Program} {loose : List Str} {XP : (Str → Option Value) → Heap → Prop} {YP : World → Heap → Prop} {d : DefRec} {K : Params → PySem.W.Frag} {CX : World → CXT} {sp : World → Sp} {x : Str}
    (hn : l.most = some n) (hn2 : n ≤ sizeLine) (hdf : d.params.defaults = []) (hr : Room k callerA)
    (hY : ∀ (w : World) (h : Heap), YP w h → (K w.params).In h)
    (F : ∀ (w : World) (mg : Str → Option Value) (fa : Addr) (h : Heap), (K w.params).In h → h.Ns mainGlobals mg → mg d.name = some (.ref fa) →
      ∃ fd : FuncData, (∀ (s : Shared) (u : Value), BindsTo s fd ⟨[u], []⟩ [(x, u)]) ∧
        ∀ base : Heap, (K w.params).In base → base.Ns mainGlobals mg → FnOk l.prog w (K w.params) mg base (CX w) k fa fd [x] (sp w))
    (hsp : ∀ (w : World) (H : Hp) (a : Addr) (ns : List Int), ns.length ≤ n → Only H → SqL (K w.params) H a (ns.map V.int) → sp w [.ref a] H (fun v _ => v = .bl true) fun _ _ _ => False)
    (hCX : ∀ (w : World) (H : Hp) (s : Shared) (e : Value) (s' : Shared), CX w [] H s (fun _ _ _ => False) e s' → False) :
    PySem.W.WalkO q loose XP YP l.row.toRowW d [] (fun f vs => PySem.call f vs) := by
  refine Att.attach_call hn hdf fun w s₀ s₁ mg mb fa o pm cd doc a vs ns G Y ho hd hcd hmg hobj hints hlen hg => ?_
  have KX := hY w _ Y
  obtain ⟨fd, hb, hF⟩ := F w mg fa _ KX G.T.g hmg
  exact law_call KX G.T.g G.T.b G.T.builtins G.T.nolimit hg hobj hints (Nat.le_trans hlen hn2) hr hF hb (fun H hO hS => hsp w H a ns hlen hO hS) fun H e s' => hCX w H s₁ e s'
theorem walk_ofK {l : PySem.W.OpenLaw} {n k : Nat} {q : Program} {loose : List Str} {XP : (Str → Option Value) → Heap → Prop} {YP : World → Heap → Prop} {d : DefRec} {K : Params → PySem.W.Frag} {CX : CXT} {sp : PySem.W.Frag → Sp} {x : Str}
    (hn : l.most = some n) (hn2 : n ≤ sizeLine) (hdf : d.params.defaults = []) (hr : Room k callerA)
    (hY : ∀ (w : World) (h : Heap), YP w h → (K w.params).In h)
    (F : ∀ (w : World) (mg : Str → Option Value) (fa : Addr) (h : Heap), (K w.params).In h → h.Ns mainGlobals mg → mg d.name = some (.ref fa) →
      ∃ fd : FuncData, (∀ (s : Shared) (u : Value), BindsTo s fd ⟨[u], []⟩ [(x, u)]) ∧
        ∀ base : Heap, (K w.params).In base → base.Ns mainGlobals mg → FnOk l.prog w (K w.params) mg base CX k fa fd [x] (sp (K w.params)))
    (hsp : ∀ (K : PySem.W.Frag) (H : Hp) (a : Addr) (ns : List Int), ns.length ≤ n → Only H → SqL K H a (ns.map V.int) → sp K [.ref a] H (fun v _ => v = .bl true) fun _ _ _ => False)
    (hCX : ∀ (H : Hp) (s : Shared) (e : Value) (s' : Shared), CX [] H s (fun _ _ _ => False) e s' → False) :
    PySem.W.WalkO q loose XP YP l.row.toRowW d [] (fun f vs => PySem.call f vs) :=
  walk_of (K := K) (CX := fun _ => CX) (sp := fun w => sp (K w.params)) hn hn2 hdf hr hY F (fun w H a ns h1 h2 h3 => hsp (K w.params) H a ns h1 h2 h3) fun _ H s e s' => hCX H s e s'
end L2
namespace L2
open PySem PySem.Spec PyProof.Rows
def inClass (s : Stmt) (j : Nat) : Stmt := match s with
  | .ClassDef _ _ _ body _ _ _ _ _ _ _ => body.getD j (.Pass ⟨0, 0, 0, 0⟩)
  | _ => .Pass ⟨0, 0, 0, 0⟩
def defArgs (s : Stmt) : Arguments := match s with
  | .FunctionDef _ a _ _ _ _ _ _ _ _ => a
  | _ => { posonlyargs := [], args := [], vararg := none, kwonlyargs := [], kw_defaults := [], kwarg := none, defaults := [] }
def defBody (s : Stmt) : List Stmt := match s with
  | .FunctionDef _ _ b _ _ _ _ _ _ _ => b
  | _ => []
def defScope (s : Stmt) : Scope := match s with
  | .FunctionDef _ _ _ _ _ _ sc _ _ _ => sc
  | _ => { kind := .function, names := [], isGenerator := false, isCoroutine := false }
abbrev CX0 : CXT := fun _ _ _ _ _ _ => False
abbrev E0 : XK := fun _ _ _ => False
theorem pass0 {X : Cx} : Passes CX0 X E0 := fun _ _ _ _ _ _ _ h => h.elim
structure Fun (K : PySem.W.Frag) (x qual : Str) (st : Stmt) (f : Addr) (fd : FuncData) : Prop where
  ex : ∃ (oc : Value) (od : Option Addr) (kV doc pm : Value) (an : Option Addr) (cdv ct : Value) (osl : Array (Option Value)),
    fd = PySem.W.fnOf x qual (defArgs st) (defBody st) (defScope st) .none kV doc pm an cdv ct ∧ K.lookup f = some ⟨oc, od, .func fd, osl⟩ ∧ PySem.W.codeIn K cdv qual = true
  kp : PySem.W.keepIn K (.ref f) = true
section
variable {P : Program} {w : World} {K : PySem.W.Frag} {mg : Str → Option Value} {base : Heap}
theorem Fun.ok {x qual : Str} {st : Stmt} {f : Addr} {fd : FuncData} {N ps : List Str} {k : Nat} {sp : Sp} (F : Fun K x qual st f fd) (S : FnScope N ps (defScope st)) (len : ∀ vs H Q E, sp vs H Q E → vs.length = ps.length)
    (hbody : ∀ (cdv : Value) (A : Around) (outer : List Env) (s : Shared) (H : Hp) (vs : List V) (Q : VK) (E : XK), Room k (A.deeper (envOfC qual (defScope st) s.heap.objs.size f cdv)) → sp vs H Q E →
      ∃ t, PSs (cxOf CX0 P w K mg base N qual (defScope st) f cdv A outer s H E).nox (defBody st) t ∧ t { nx := fun _ H' => Q .non H', rt := Q } (start N vs) H) : FnOk P w K mg base CX0 (k + 1) f fd ps sp := by
  obtain ⟨oc, od, kV, doc, pm, an, cdv, ct, osl, rfl, lk, hcd⟩ := F.ex
  refine fn_of lk hcd S len fun A outer s H vs Q E hr hsp => ?_
  obtain ⟨t, h, q⟩ := hbody cdv A outer s H vs Q E hr hsp
  exact ⟨t, h.nox, q⟩
theorem Fun.binds {x qual : Str} {st : Stmt} {f : Addr} {fd : FuncData} {ps : List Str} (F : Fun K x qual st f fd)
    (h : ∀ (kV doc pm : Value) (an : Option Addr) (cdv ct : Value) (us : List Value), us.length = ps.length → bindArgs (PySem.W.fnOf x qual (defArgs st) (defBody st) (defScope st) .none kV doc pm an cdv ct) ⟨us, []⟩ = pure (ps.zip us)) : Binds K fd ps [] := by
  obtain ⟨oc, od, kV, doc, pm, an, cdv, ct, osl, rfl, lk, hcd⟩ := F.ex
  exact .all (h kV doc pm an cdv ct)
theorem fun_mk {x qual : Str} {st : Stmt} {f : Addr} {oc : Value} {od an : Option Addr} {osl : Array (Option Value)} {kV doc pm cdv ct : Value} (l : K.lookup f = some ⟨oc, od, .func (PySem.W.fnOf x qual (defArgs st) (defBody st) (defScope st) .none kV doc pm an cdv ct), osl⟩)
    (c : PySem.W.codeIn K cdv qual = true) (k : PySem.W.keepIn K (.ref f) = true) : Fun K x qual st f (PySem.W.fnOf x qual (defArgs st) (defBody st) (defScope st) .none kV doc pm an cdv ct) := ⟨⟨oc, od, kV, doc, pm, an, cdv, ct, osl, rfl, l, c⟩, k⟩
end
theorem hu_of {A : Around} {k : Nat} (hr : Room k A) : A.units + 1 < cLine := Nat.lt_of_le_of_lt (Nat.add_le_add_left (by decide : 1 ≤ 64) _) hr.units
section
variable {X : Cx}
theorem pv (i : Nat) {x : Str} {pos : Pos} (hN : X.N[i]? = some x := by rfl) (hv : Vis X.env.scope x := by first | exact Or.inl rfl | exact Or.inr (Or.inl rfl) | exact Or.inr (Or.inr rfl)) (hd : (x == ("__debug__" : Str)) = false := by decide)
    (hcd : (x == ("__classdict__" : Str)) = false := by decide) : PE X (.Name x pos) (tVar i) := pe_var hN hv hd hcd
end
theorem iteF {A B : Prop} (h : B) : if false = true then A else B := by
  rw [if_neg Bool.false_ne_true]
  exact h
theorem iteT {A B : Prop} (h : A) : if true = true then A else B := by
  rw [if_pos rfl]
  exact h
theorem ite2 {c A B : Prop} [Decidable c] (h1 : c → A) (h2 : ¬ c → B) : if c then A else B := by
  by_cases h : c
  · rw [if_pos h]
    exact h1 h
  · rw [if_neg h]
    exact h2 h
def Same (H H' : Hp) : Prop := ∀ b o, H b = some o → H' b = some o
theorem Same.refl (H : Hp) : Same H H := fun _ _ h => h
theorem Same.trans {H H1 H2 : Hp} (a : Same H H1) (b : Same H1 H2) : Same H H2 := fun c o h => b c o (a c o h)
theorem Same.free {H H' : Hp} (e : Same H H') {l : Addr} (h : H' l = Option.none) : H l = Option.none := by
  cases q : H l with
  | none => rfl
  | some o =>
    rw [e l o q] at h
    cases h
theorem Same.seq {K : PySem.W.Frag} {H H' : Hp} {a : Addr} {xs : List V} (e : Same H H') (h : SqL K H a xs) : SqL K H' a xs := by
  rcases h with (h | ⟨o, h⟩) | h
  · exact .inl (.inl (e _ _ h))
  · exact .inl (.inr ⟨o, e _ _ h⟩)
  · exact .inr h
end L2
end

section
set_option Elab.async false
set_option linter.all false
set_option maxRecDepth 100000
namespace L2
open PySem PySem.Spec PyProof.Rows
section
variable {κ : Type} [DecidableEq κ]
def valV (kvs : List (κ × V)) (k : κ) : Option V := (kvs.find? fun kv => decide (kv.1 = k)).map (·.2)
def putK (kvs : List (κ × V)) (k : κ) (v : V) : List (κ × V) :=
  if (kvs.any fun kv => decide (kv.1 = k)) = true then kvs.map (fun kv => if kv.1 = k then (kv.1, v) else kv) else kvs ++ [(k, v)]
theorem valV_pos {p : κ × V} {r : List (κ × V)} {k : κ} (e : p.1 = k) : valV (p :: r) k = some p.2 := by simp [valV, List.find?_cons, e]
theorem valV_neg {p : κ × V} {r : List (κ × V)} {k : κ} (e : ¬ p.1 = k) : valV (p :: r) k = valV r k := by simp [valV, List.find?_cons, e]
theorem valV_any (k : κ) : ∀ kvs : List (κ × V), (kvs.any fun kv => decide (kv.1 = k)) = (valV kvs k).isSome
  | [] => rfl
  | p :: r => by
    rw [List.any_cons]
    by_cases e : p.1 = k
    · simp only [valV_pos e, decide_eq_true e, Bool.true_or, Option.isSome_some]
    · rw [valV_neg e, decide_eq_false e, Bool.false_or]; exact valV_any k r
theorem valV_map (k j : κ) (y : V) : ∀ kvs : List (κ × V), valV (kvs.map fun kv => if kv.1 = k then (kv.1, y) else kv) j = (valV kvs j).map fun x => if j = k then y else x
  | [] => rfl
  | p :: r => by
    have ih := valV_map k j y r
    rw [List.map_cons]
    by_cases h : p.1 = k
    · rw [if_pos h]
      by_cases e : p.1 = j
      · rw [valV_pos (p := (p.1, y)) e, valV_pos e, Option.map_some, if_pos (e.symm.trans h)]
      · rw [valV_neg (p := (p.1, y)) e, valV_neg e, ih]
    · rw [if_neg h]
      by_cases e : p.1 = j
      · rw [valV_pos (p := p) e, valV_pos e, Option.map_some, if_neg (fun z => h (e.trans z))]
      · rw [valV_neg (p := p) e, valV_neg e, ih]
theorem valV_snoc (k j : κ) (y : V) : ∀ kvs : List (κ × V), valV kvs k = none → valV (kvs ++ [(k, y)]) j = if j = k then some y else valV kvs j
  | [], _ => by
    by_cases e : k = j
    · rw [if_pos e.symm]; exact valV_pos (p := (k, y)) e
    · rw [if_neg (fun z => e z.symm)]; exact valV_neg (p := (k, y)) e
  | p :: r, hn => by
    rw [List.cons_append]
    have hk : ¬ p.1 = k := fun z => by rw [valV_pos z] at hn; cases hn
    rw [valV_neg hk] at hn
    have ih := valV_snoc k j y r hn
    by_cases e : p.1 = j
    · rw [valV_pos e, valV_pos e, if_neg (fun z => hk (e.trans z))]
    · rw [valV_neg e, valV_neg e, ih]
theorem valV_put (kvs : List (κ × V)) (k j : κ) (y : V) : valV (putK kvs k y) j = if j = k then some y else valV kvs j := by
  unfold putK
  by_cases a : (kvs.any fun kv => decide (kv.1 = k)) = true
  · rw [if_pos a, valV_map]
    rw [valV_any] at a
    by_cases e : j = k
    · obtain ⟨x, hx⟩ := Option.isSome_iff_exists.mp a
      rw [if_pos e, e, hx, Option.map_some, if_pos rfl]
    · rw [if_neg e]
      cases valV kvs j with
      | none => rfl
      | some x => rw [Option.map_some, if_neg e]
  · rw [if_neg a]
    refine valV_snoc k j y kvs ?_
    rw [valV_any] at a
    cases q : valV kvs k with
    | none => rfl
    | some x => rw [q] at a; exact (a rfl).elim
theorem length_putK (kvs : List (κ × V)) (k : κ) (v : V) : (putK kvs k v).length ≤ kvs.length + 1 := by
  unfold putK
  split
  · rw [List.length_map]; omega
  · rw [List.length_append, List.length_cons, List.length_nil]; omega
theorem RelO.isSome_eq {o : Option V} {u : Option Value} (r : RelO o u) : o.isSome = u.isSome := by
  cases o with
  | none => cases u with
    | none => rfl
    | some _ => exact (show False from r).elim
  | some _ => cases u with
    | none => exact (show False from r).elim
    | some _ => rfl
theorem RelO.getD {o : Option V} {u : Option Value} {d : V} {d' : Value} (r : RelO o u) (rd : RelV d d') : RelV (o.getD d) (u.getD d') := by
  cases o with
  | none => cases u with
    | none => exact rd
    | some _ => exact (show False from r).elim
  | some _ => cases u with
    | none => exact (show False from r).elim
    | some _ => exact r
theorem KV.val {kvs : List (κ × V)} {vs : List (κ × Value)} (r : KV kvs vs) (k : κ) : RelO (valV kvs k) (valueAt vs k) := by
  unfold KV at r
  induction r with
  | nil => exact True.intro
  | @cons p q ps qs h t ih =>
    obtain ⟨h1, h2⟩ := h
    by_cases e : p.1 = k
    · have e' : q.1 = k := h1.symm.trans e
      have b : valueAt (q :: qs) k = some q.2 := by simp [valueAt, List.find?_cons, e']
      rw [valV_pos e, b]; exact h2
    · have e' : ¬ q.1 = k := fun z => e (h1.trans z)
      have b : valueAt (q :: qs) k = valueAt qs k := by simp [valueAt, List.find?_cons, e']
      rw [valV_neg e, b]; exact ih
theorem KV.any {kvs : List (κ × V)} {vs : List (κ × Value)} (r : KV kvs vs) (k : κ) : (kvs.any fun kv => decide (kv.1 = k)) = vs.any fun kv => decide (kv.1 = k) := by
  unfold KV at r
  induction r with
  | nil => rfl
  | cons h t ih => rw [List.any_cons, List.any_cons, ih, h.1]
theorem KV.repl {kvs : List (κ × V)} {vs : List (κ × Value)} (r : KV kvs vs) (k : κ) {y : V} {u : Value} (ry : RelV y u) :
    KV (kvs.map fun kv => if kv.1 = k then (kv.1, y) else kv) (vs.map fun kv => if kv.1 = k then (kv.1, u) else kv) := by
  unfold KV at r ⊢
  induction r with
  | nil => exact .nil
  | @cons p q ps qs h t ih =>
    rw [List.map_cons, List.map_cons]
    refine .cons ?_ ih
    obtain ⟨h1, h2⟩ := h
    by_cases e : p.1 = k
    · rw [if_pos e, if_pos (h1.symm.trans e)]; exact ⟨h1, ry⟩
    · rw [if_neg e, if_neg (fun z => e (h1.trans z))]; exact ⟨h1, h2⟩
theorem KV.put {kvs : List (κ × V)} {vs : List (κ × Value)} (r : KV kvs vs) (k : κ) {y : V} {u : Value} (ry : RelV y u) : KV (putK kvs k y) (stored vs k u) := by
  unfold putK stored
  rw [r.any k]
  by_cases e : (vs.any fun kv => decide (kv.1 = k)) = true
  · rw [if_pos e, if_pos e]; exact r.repl k ry
  · rw [if_neg e, if_neg e]; exact Paired.snoc r ⟨rfl, ry⟩
theorem KV.length {kvs : List (κ × V)} {vs : List (κ × Value)} (r : KV kvs vs) : kvs.length = vs.length := Paired.length r
end
theorem kV_is {P : Program} {w : World} {k : Key} {u : Value} (r : RelV (kV k) u) : (mixKind P w).is k u = true := by
  cases k with
  | inl i => obtain ⟨t, e⟩ := (show ∃ t, u = Value.int i t from r); subst e; exact mixKind_int P w i t
  | inr x => obtain ⟨t, e⟩ := (show ∃ t, u = Value.str x t from r); subst e; exact mixKind_str P w x t
theorem items_are {P : Program} {w : World} : ∀ {ks : List Key} {us : List Value}, Vals (ks.map kV) us → ItemsAre (mixKind P w) ks us
  | [], _, r => by rw [List.map_nil] at r; cases r; exact .nil
  | k :: ks, _, r => by
    rw [List.map_cons] at r
    cases r with
    | cons h t => exact .cons (kV_is h) (items_are t)
abbrev KT (H : Hp) : List (List Key × V) → List (List Key × Addr × Value) → Prop := Paired fun p q => p.1 = q.1 ∧ H q.2.1 = some (.tup (p.1.map kV)) ∧ RelV p.2 q.2.2
theorem KT.val {H : Hp} {kvs : List (List Key × V)} {xs : List (List Key × Addr × Value)} (r : KT H kvs xs) (k : List Key) : RelO (valV kvs k) ((atKey xs k).map (·.2)) := by
  induction r with
  | nil => exact True.intro
  | @cons p q ps qs h t ih =>
    obtain ⟨h1, _, h2⟩ := h
    by_cases e : p.1 = k
    · have e' : q.1 = k := h1.symm.trans e
      have b : atKey (q :: qs) k = some q.2 := by simp [atKey, List.find?_cons, e']
      rw [valV_pos e, b]; exact h2
    · have e' : ¬ q.1 = k := fun z => e (h1.trans z)
      have b : atKey (q :: qs) k = atKey qs k := by simp [atKey, List.find?_cons, e']
      rw [valV_neg e, b]; exact ih
theorem KT.repl {H : Hp} {kvs : List (List Key × V)} {xs : List (List Key × Addr × Value)} (r : KT H kvs xs) (k : List Key) {y : V} {u : Value} (ry : RelV y u) :
    KT H (kvs.map fun kv => if kv.1 = k then (kv.1, y) else kv) (xs.map (putAt k u)) := by
  induction r with
  | nil => exact .nil
  | @cons p q ps qs h t ih =>
    rw [List.map_cons, List.map_cons]
    refine .cons ?_ ih
    obtain ⟨h1, h2, h3⟩ := h
    unfold putAt
    by_cases e : p.1 = k
    · rw [if_pos e, if_pos (h1.symm.trans e)]; exact ⟨h1, h2, ry⟩
    · rw [if_neg e, if_neg (fun z => e (h1.trans z))]; exact ⟨h1, h2, h3⟩
theorem KT.put {H : Hp} {kvs : List (List Key × V)} {xs : List (List Key × Addr × Value)} (r : KT H kvs xs) (k : List Key) {b : Addr} {y : V} {u : Value} (hb : H b = some (.tup (k.map kV))) (ry : RelV y u) :
    KT H (putK kvs k y) (storedH xs k b u) := by
  have e : (kvs.any fun kv => decide (kv.1 = k)) = (atKey xs k).isSome := by
    rw [valV_any, (r.val k).isSome_eq, Option.isSome_map]
  unfold putK storedH
  rw [e]
  by_cases q : (atKey xs k).isSome = true
  · rw [if_pos q, if_pos q]; exact r.repl k ry
  · rw [if_neg q, if_neg q]; exact Paired.snoc r ⟨rfl, hb, ry⟩
theorem KT.keeps {H H' : Hp} {kvs : List (List Key × V)} {xs : List (List Key × Addr × Value)} (r : KT H kvs xs) (ht : ∀ b ys, H b = some (.tup ys) → H' b = some (.tup ys)) : KT H' kvs xs :=
  Paired.mapP r fun _ _ z => ⟨z.1, ht _ _ z.2.1, z.2.2⟩
section
variable {P : Program} {w : World} {H : Hp} {h : Heap} {a : Addr}
theorem rd_of {u : HO} (ok : HOk P w H h) (e : Rd H a u) : ObjOk P w H h a u := e.ok ok
theorem dk_rd {kvs : List (Key × V)} (ok : HOk P w H h) (e : Rd H a (.dK kvs)) : kvs.length ≤ sizeLine ∧ (a == sysModules) = false ∧ ∃ vs, KV kvs vs ∧ h.DictOf (mixKind P w) a vs :=
  show ObjOk P w H h a (.dK kvs) from rd_of ok e
theorem dk_of {kvs : List (Key × V)} (ok : HOk P w H h) (e : H a = some (.dK kvs)) : kvs.length ≤ sizeLine ∧ (a == sysModules) = false ∧ ∃ vs, KV kvs vs ∧ h.DictOf (mixKind P w) a vs := dk_rd ok (.inl e)
theorem key_of {ks : List Key} (ok : HOk P w H h) (e : H a = some (.tup (ks.map kV))) : (tupleKind (mixKind P w)).is h ks a := by
  obtain ⟨_, its, r, o, h1, h2, n, h3⟩ := (show ObjOk P w H h a (.tup (ks.map kV)) from ok a _ e)
  exact ⟨o, its.toArray, n, h1, h2, h3, by simpa using items_are r⟩
theorem dt_rd {kvs : List (List Key × V)} (ok : HOk P w H h) (e : Rd H a (.dT kvs)) : kvs.length ≤ sizeLine ∧ (a == sysModules) = false ∧
    ∃ xs, KT H kvs xs ∧ h.DictOfH (tupleKind (mixKind P w)) a xs := by
  obtain ⟨z, y, xs, r, o, es, ep, h1, h2, h3, h4, h5⟩ := (show ObjOk P w H h a (.dT kvs) from rd_of ok e)
  refine ⟨z, y, xs, r, o, es, ep, h1, h2, h3, h4, fun x hx => ?_, h5⟩
  have all : ∀ {l : List (List Key × V)} {m : List (List Key × Addr × Value)}, KT H l m → ∀ x ∈ m, (tupleKind (mixKind P w)).is h x.1 x.2.1 := by
    intro l m q
    induction q with
    | nil => intro x hx; exact nomatch hx
    | @cons p q ps qs hq t ih =>
      intro x hx
      rcases List.mem_cons.mp hx with e | hx
      · subst e
        exact key_of ok (by rw [← hq.1]; exact hq.2.1)
      · exact ih x hx
  exact all r x hx
theorem dt_of {kvs : List (List Key × V)} (ok : HOk P w H h) (e : H a = some (.dT kvs)) : kvs.length ≤ sizeLine ∧ (a == sysModules) = false ∧
    ∃ xs, KT H kvs xs ∧ h.DictOfH (tupleKind (mixKind P w)) a xs := dt_rd ok (.inl e)
end
def DGet (H : Hp) (a : Addr) (y : V) (r : Option V) : Prop :=
  (∃ kvs k, Rd H a (.dK kvs) ∧ y = kV k ∧ r = valV kvs k) ∨ ∃ kvs k b, Rd H a (.dT kvs) ∧ y = .ref b ∧ H b = some (.tup (k.map kV)) ∧ r = valV kvs k
def DPut (H : Hp) (a : Addr) (y v : V) (H' : Hp) : Prop :=
  (∃ kvs k, H a = some (.dK kvs) ∧ y = kV k ∧ kvs.length < sizeLine ∧ H' = upd H a (.dK (putK kvs k v))) ∨
  ∃ kvs k b, H a = some (.dT kvs) ∧ y = .ref b ∧ H b = some (.tup (k.map kV)) ∧ kvs.length < sizeLine ∧ H' = upd H a (.dT (putK kvs k v))
theorem DGet.k {H : Hp} {a : Addr} {kvs : List (Key × V)} {k : Key} (e : H a = some (.dK kvs)) : DGet H a (kV k) (valV kvs k) := .inl ⟨kvs, k, .inl e, rfl, rfl⟩
theorem DPut.k {H : Hp} {a : Addr} {kvs : List (Key × V)} {k : Key} {v : V} (e : H a = some (.dK kvs)) (hl : kvs.length < sizeLine) : DPut H a (kV k) v (upd H a (.dK (putK kvs k v))) := .inl ⟨kvs, k, e, rfl, hl, rfl⟩
section
variable {X : Cx} {pins : List (Addr × Obj)} {σ : St} {H : Hp} {s : Shared} {a : Addr} {y v : V} {u r : Value} {o : Option V} {A : Around} {E : Value → Shared → Prop}
theorem Inv.big (I : Inv X pins σ H s) : sysModules < s.heap.objs.size := by
  have h : mainGlobals < s.heap.objs.size := (I.mod.glob.keeps I.bk).lt
  exact Nat.lt_trans (by decide) h
theorem d_write {h' : Heap} {t' : Nat} {ob : HO} (I : Inv X pins σ H s) (mu : Mut (H a)) (hs : Heap.SameBut a s.heap h') (he : ∃ q, h'.get? a = some q) (new : ObjOk X.prog X.w (upd H a ob) h' a ob) :
    Inv X pins σ (upd H a ob) { s with heap := h', toks := t' } :=
  I.write (x := a) (e := a) mu (.inl rfl) (fun b q hb z => (hs.2 b hb).trans z) he new
theorem dk_new {P : Program} {w : World} {H' : Hp} {h' : Heap} {kvs : List (Key × V)} {vs : List (Key × Value)} (z : kvs.length ≤ sizeLine) (hd : (a == sysModules) = false) (rel : KV kvs vs) (dd : h'.DictOf (mixKind P w) a vs) :
    ObjOk P w H' h' a (.dK kvs) := ⟨z, hd, vs, rel, dd⟩
theorem d_setItem {H' : Hp} {Q : Unit → Shared → Prop} (hu : A.units + 1 < cLine) (I : Inv X pins σ H s) (g : DPut H a y v H') (ry : RelV y u) (rv : RelV v r) (h : ∀ s', Inv X pins σ H' s' → Q () s') :
    wpAny (model X.prog X.w) A (setItem (.ref a) u r) Q E s := by
  rcases g with ⟨kvs, k, e, ey, l, eH⟩ | ⟨kvs, k, b, e, ey, eb, l, eH⟩
  · subst ey eH
    obtain ⟨z, hd, vs, rel, dd⟩ := dk_of I.hok e
    have hz : vs.length ≤ sizeLine := by rw [← rel.length]; exact z
    have hl : (putK kvs k v).length ≤ sizeLine := by have := length_putK kvs k v; omega
    refine wpAny_setItem_pairs (hsz := hz) (kV_is ry) dd fun h' dd' hs => h _ ?_
    have he : ∃ q, h'.get? a = some q := let ⟨q, _, _, hq, _⟩ := dd'; ⟨q, hq⟩
    exact d_write I (by rw [e]; exact True.intro) hs he (dk_new hl hd (rel.put k rv) dd')
  · subst ey eH
    cases (show u = Value.ref b from ry)
    obtain ⟨z, hd, xs, rel, dd⟩ := dt_of I.hok e
    have hz : xs.length ≤ sizeLine := by rw [← Paired.length rel]; exact z
    have hl : (putK kvs k v).length ≤ sizeLine := by have := length_putK kvs k v; omega
    refine wpAny_setItem_heap (hsz := hz) (tupleKind_room_in1 hu) (key_of I.hok eb) dd fun h' dd' hs => h _ ?_
    obtain ⟨q, es, ep, hq, h2, h3, h4, _, h5⟩ := dd'
    refine d_write I (by rw [e]; exact True.intro) hs ⟨q, hq⟩ ⟨hl, hd, _, (rel.put k eb rv).keeps fun c ys ec => ?_, q, es, ep, hq, h2, h3, h4, h5⟩
    rw [upd_ne (ne_of ec e (fun z => nomatch z))]
    exact ec
end
section
variable {X : Cx} {pins : List (Addr × Obj)} {σ : St} {H : Hp} {s : Shared} {a : Addr} {kvs : List (Key × V)} {k : Key} {u : Value} {A : Around} {E : Value → Shared → Prop}
end
def NoSl (i : Expr) : Prop := ∀ ov iv, subscripted i false ov iv = operate [ov, iv] (getItem ov iv)
theorem subD_of {prog : Program} {w : World} {A : Around} {E : Value → Shared → Prop} {s : Shared} {env : Env} {value slice : Expr} {pos : Pos} {T id : String} {Q : Value → Shared → Prop}
    (hl : typeLookup (.type T) "__getitem__" = pure (some (.builtin id))) (hs : NoSl slice)
    (h : wpAny (model prog w) A (eval value env) (fun o s₁ => wpAny (model prog w) A (eval slice env) (fun i s₂ => s₂.TypeIs o T ∧ wpAny (model prog w) A (getItem o i) Q E s₂) E s₁) E s) :
    wpAny (model prog w) A (eval (.Subscript value slice pos) env) Q E s := by
  refine Subscript_ (wpAny_mono h (fun o s₁ h₁ => wpAny_mono h₁ (fun i s₂ h₂ => ?_) fun _ _ x => x) fun _ _ x => x)
  obtain ⟨hT, h₂⟩ := h₂
  unfold subscriptTail
  refine wpAny_bind ?_
  rw [getitemInPython_of_ne hT.not_modules]
  refine wpAny_bind (wpAny_specialOf hT hl ?_)
  have fin : wpAny (model prog w) A (subscripted slice false o i) (fun r s₃ => wpAny (model prog w) A (letTemporaryGo value o r >>= fun _ => pure r) Q E s₃) E s₂ := by
    rw [hs o i]
    exact wpAny_operating (wpAny_mono h₂ (fun r s₃ h₃ => wpAny_bind (wpAny_letTemporaryGo (wpAny_pure h₃))) fun _ _ x => x)
  first
    | exact wpAny_pure (wpAny_bind fin)
    | exact wpAny_bind (wpAny_pure (wpAny_bind fin))
    | exact wpAny_bind fin
def sDPut (td ty tv : TE) : TS := fun D σ H => tv σ H fun v H1 => td σ H1 fun x H2 => ty σ H2 fun y H3 => ∃ a H4, x = .ref a ∧ DPut H3 a y v H4 ∧ D.nx σ H4
section
variable {X : Cx} {o i e value : Expr} {pos pos' tpos : Pos} {td ty tv : TE}
theorem ps_dput (hu : X.A.units + 1 < cLine) (ho : PE X o td) (hi : PE X i ty) (hv : PE X value tv) (hs : swapsWith value (some (.Subscript o i pos')) pos.line X.env = pure false) :
    PS X (.Assign [.Subscript o i pos'] value pos) (sDPut td ty tv) := by
  intro pins s σ H D I h
  refine wpAny_Assign_Subscript (thn (hv pins s σ H _ I h) fun r s1 ⟨v, H1, I1, rv, q1⟩ => thn (ho pins s1 σ H1 _ I1 q1) fun u s2 ⟨x, H2, I2, rx, q2⟩ => thn (hi pins s2 σ H2 _ I2 q2) fun iv s3 hz_ => ?_) hs
  obtain ⟨y, H3, I3, ry, a, H4, ex, g, q3⟩ := hz_
  subst ex
  obtain rfl : u = Value.ref a := rx
  exact d_setItem hu I3 g ry rv fun s4 I4 => ⟨σ, H4, I4, q3⟩
end
theorem dk_empty {P : Program} {w : World} {H : Hp} (h : Heap) (hb : sysModules < h.objs.size) : ObjOk P w H (h.push { cls := .type "dict", data := .dict #[] }) h.objs.size (.dK []) :=
  ⟨Nat.zero_le _, beq_eq_false_iff_ne.mpr (Ne.symm (Nat.ne_of_lt hb)), [], .nil, Heap.DictOf.new h⟩
def tDNewK : TE := fun _ H Q => ∀ p, H p = none → Q (.ref p) (upd H p (.dK []))
section
variable {X : Cx} {pos : Pos}
theorem pe_dnewK : PE X (.Dict [] [] pos) tDNewK := fun pins s σ H Q I h =>
  wpAny_Dict_empty ⟨.ref s.heap.objs.size, _, I.laid (a := s.heap.objs.size) (o := .dK []) (t' := s.toks) (fun _ _ q => Heap.get?_push_of_some _ q) (Nat.le_refl _) (dk_empty s.heap I.big), rfl, h _ (I.hok.fresh (Nat.le_refl _))⟩
end
structure M1 (X : Cx) (o : Expr) (m : Str) (apos : Pos) (e : Expr) (cpos : Pos) : Prop where
  base : attributeBase o m X.env (eval o X.env) = eval o X.env
  few : ((backTo cpos (starEach [e] X.env)).all (fun x => !x.1) && (backToKw cpos (keywordEach [] X.env)).all (fun x => x.1.isSome)
    && decide (([e] : List Expr).length + ([] : List Keyword).length + (if ([] : List Keyword).isEmpty then 0 else 1) < 30)) = true
  line : (apos.endLine == cpos.line) = true
  trees : backTo cpos (starEach [e] X.env) = [(false, eval e X.env)]
structure M2 (X : Cx) (o : Expr) (m : Str) (apos : Pos) (e f : Expr) (cpos : Pos) : Prop where
  base : attributeBase o m X.env (eval o X.env) = eval o X.env
  few : ((backTo cpos (starEach [e, f] X.env)).all (fun x => !x.1) && (backToKw cpos (keywordEach [] X.env)).all (fun x => x.1.isSome)
    && decide (([e, f] : List Expr).length + ([] : List Keyword).length + (if ([] : List Keyword).isEmpty then 0 else 1) < 30)) = true
  line : (apos.endLine == cpos.line) = true
  trees : backTo cpos (starEach [e, f] X.env) = [(false, eval e X.env), (false, eval f X.env)]
def IsD (H : Hp) (a : Addr) : Prop := (∃ kvs, Rd H a (.dK kvs)) ∨ ∃ kvs, Rd H a (.dT kvs)
theorem isD_at {X : Cx} {pins : List (Addr × Obj)} {σ : St} {H : Hp} {s : Shared} {a : Addr} (I : Inv X pins σ H s) (d : IsD H a) :
    s.TypeIs (.ref a) "dict" ∧ (∀ b, Value.ref a = .ref b → ∃ ob, s.heap.get? b = some ob ∧ ob.dict = none) ∧ (a == sysModules) = false := by
  rcases d with ⟨kvs, e⟩ | ⟨kvs, e⟩
  · obtain ⟨_, hd, vs, _, dd⟩ := dk_rd I.hok e
    refine ⟨dd.typeIs, fun b q => ?_, hd⟩
    cases q
    obtain ⟨ob, _, _, h1, h2, _⟩ := dd
    exact ⟨ob, h1, h2.2.1⟩
  · obtain ⟨_, hd, xs, _, dd⟩ := dt_rd I.hok e
    refine ⟨dd.typeIs, fun b q => ?_, hd⟩
    cases q
    obtain ⟨ob, _, _, h1, h2, _⟩ := dd
    exact ⟨ob, h1, h2.2.1⟩
section
variable {X : Cx} {pins : List (Addr × Obj)} {σ : St} {H : Hp} {s : Shared} {a : Addr} {y d : V} {u r : Value} {o : Option V} {A : Around} {E : Value → Shared → Prop}
theorem d_get2 {Q : Value → Shared → Prop} (hu : A.units + 1 < cLine) (I : Inv X pins σ H s) (g : DGet H a y o) (ry : RelV y u) (rd : RelV d r) (h : ∀ w' s', Inv X pins σ H s' → RelV (o.getD d) w' → Q w' s') :
    wpAny (model X.prog X.w) A (call (.builtin "dict.get") [.ref a, u, r]) Q E s := by
  rcases g with ⟨kvs, k, e, ey, l⟩ | ⟨kvs, k, b, e, ey, eb, l⟩
  · subst ey
    obtain ⟨z, hd, vs, rel, dd⟩ := dk_rd I.hok e
    refine call_meetsIn PySem.F.slot_dict_get dd.typeIs PySem.F.entry_dict_get (PySem.F.args_dict_get_3 _ _ _) (meets_dict_get_default (mixKind X.prog X.w) a (kV_is ry) hd r) ⟨_, dd.mapOf, h _ _ (I.tok _) ?_⟩
    rw [l]
    exact (rel.val k).getD rd
  · subst ey
    cases (show u = Value.ref b from ry)
    obtain ⟨z, hd, xs, rel, dd⟩ := dt_rd I.hok e
    refine call_meetsIn PySem.F.slot_dict_get dd.typeIs PySem.F.entry_dict_get (PySem.F.args_dict_get_3 _ _ _) (meetsH_dict_get_default (tupleKind (mixKind X.prog X.w)) a b hd r) ⟨tupleKind_room_in1 hu, k, xs, key_of I.hok eb, dd, h _ _ (I.tok _) ?_⟩
    rw [l]
    exact (rel.val k).getD rd
end
def tDGet2 (td ty tx : TE) : TE := fun σ H Q => td σ H fun x H1 => ∃ a, x = .ref a ∧ IsD H1 a ∧ ty σ H1 fun y H2 => tx σ H2 fun z H3 => ∃ o, DGet H3 a y o ∧ Q (o.getD z) H3
section
variable {X : Cx} {o e f : Expr} {apos cpos : Pos} {td ty tx : TE}
theorem pe_dget2 (hu : X.A.units + 1 < cLine) (ho : PE X o td) (he : PE X e ty) (hf : PE X f tx) (m : M2 X o "get" apos e f cpos) : PE X (.Call (.Attribute o "get" apos) [e, f] [] cpos) (tDGet2 td ty tx) := by
  intro pins s σ H Q I h
  refine wpAny_Call_method m.base m.few m.line PySem.F.plainAttrs_dict PySem.F.slot_dict_get PySem.F.type_dict_get (thn (ho pins s σ H _ I h) fun u s1 hz_ => ?_)
  obtain ⟨x, H1, I1, rx, a, ex, d, q1⟩ := hz_
  subst ex
  obtain rfl : u = Value.ref a := rx
  obtain ⟨t1, t2, _⟩ := isD_at I1 d
  refine ⟨t1, t2, ?_⟩
  rw [m.trees]
  refine Calls.callWith_builtin rfl (Calls.evalArgs_plain (Calls.spliced_cons (thn (he pins s1 σ H1 _ I1 q1) fun iv s2 ⟨y, H2, I2, ry, q2⟩ =>
    Calls.spliced_cons (thn (hf pins s2 σ H2 _ I2 q2) fun fv s3 ⟨z, H3, I3, rz, ov, g, q3⟩ => Calls.spliced_nil ?_))))
  exact d_get2 hu I3 g ry rz fun w' s4 I4 rw' => ⟨_, H3, I4, rw', q3⟩
end
section
variable {X : Cx} {pins : List (Addr × Obj)} {σ : St} {H : Hp} {s : Shared} {a : Addr} {kvs : List (Key × V)} {A : Around} {E : Value → Shared → Prop}
end
section
variable {X : Cx} {pins : List (Addr × Obj)} {σ : St} {H : Hp} {s : Shared} {a : Addr} {y : V} {u : Value} {A : Around} {E : Value → Shared → Prop}
end
end L2
namespace L2
open PySem PySem.Spec PyProof.Rows
section
variable {X : Cx}
end
section
variable {κ : Type} [DecidableEq κ]
end
end L2
end

section
set_option Elab.async false
set_option linter.all false
set_option maxRecDepth 100000
set_option maxHeartbeats 4000000
namespace L2
open PySem PySem.Spec PyProof.Rows PySem.SeqAt
mutual
inductive RdD (K : PySem.W.Frag) (H : Hp) : V → PyData → Prop
  | non : RdD K H .non .none
  | bl (b : Bool) : RdD K H (.bl b) (.bool b)
  | int (i : Int) : RdD K H (.int i) (.int i)
  | str (x : Str) : RdD K H (.str x) (.str x)
  | lst {a : Addr} {xs : List V} {ds : List PyData} : SqL K H a xs → RdDs K H xs ds → RdD K H (.ref a) (.list ds)
  | tup {a : Addr} {xs : List V} {ds : List PyData} : SqT K H a xs → RdDs K H xs ds → RdD K H (.ref a) (.tuple ds)
inductive RdDs (K : PySem.W.Frag) (H : Hp) : List V → List PyData → Prop
  | nil : RdDs K H [] []
  | cons {x : V} {xs : List V} {d : PyData} {ds : List PyData} : RdD K H x d → RdDs K H xs ds → RdDs K H (x :: xs) (d :: ds)
end
section
variable {X : Cx} {pins : List (Addr × Obj)} {σ : St} {H : Hp} {s : Shared}
mutual
theorem RdD.reads (I : Inv X pins σ H s) : ∀ {x : V} {d : PyData} {v : Value}, RdD X.K H x d → RelV x v → ∃ as, Reads s.heap v d as
  | _, _, _, .non, r => by cases (show _ = Value.none from r); exact ⟨_, .none⟩
  | _, _, _, .bl b, r => by cases (show _ = Value.bool b from r); exact ⟨_, .bool b⟩
  | _, _, _, .int i, r => by obtain ⟨t, e⟩ := (show ∃ t, _ = Value.int i t from r); subst e; exact ⟨_, .int i t⟩
  | _, _, _, .str x, r => by obtain ⟨t, e⟩ := (show ∃ t, _ = Value.str x t from r); subst e; exact ⟨_, .str x t⟩
  | _, _, _, .lst (a := a) hq hs, r => by
    cases (show _ = Value.ref a from r)
    obtain ⟨its, rv, pl, _⟩ := I.list hq
    obtain ⟨as, ra⟩ := RdDs.reads I hs rv
    obtain ⟨o, ho, hc, n, hd⟩ := pl.isList
    exact ⟨_, .list ho hc hd (by simpa using ra)⟩
  | _, _, _, .tup (a := a) hq hs, r => by
    cases (show _ = Value.ref a from r)
    obtain ⟨its, rv, pl, _⟩ := I.tuple hq
    obtain ⟨as, ra⟩ := RdDs.reads I hs rv
    obtain ⟨o, ho, hc, n, hd⟩ := pl
    exact ⟨_, .tuple ho hc hd (by simpa using ra)⟩
theorem RdDs.reads (I : Inv X pins σ H s) : ∀ {xs : List V} {ds : List PyData} {vs : List Value}, RdDs X.K H xs ds → Vals xs vs → ∃ as, ReadsAll s.heap vs ds as
  | _, _, _, .nil, .nil => ⟨_, .nil⟩
  | _, _, _, .cons hd ht, .cons r rr => by
    obtain ⟨as, ra⟩ := RdD.reads I hd r
    obtain ⟨bs, rb⟩ := RdDs.reads I ht rr
    exact ⟨_, .cons ra rb⟩
end
def rEqD (K : PySem.W.Frag) : R2 := fun x y H Q => ∃ d e, RdD K H x d ∧ RdD K H y e ∧ shaped d = true ∧ shaped e = true ∧ Q (.bl (PyData.eqv d e)) H
def rNeD (K : PySem.W.Frag) : R2 := fun x y H Q => ∃ d e, RdD K H x d ∧ RdD K H y e ∧ shaped d = true ∧ shaped e = true ∧ Q (.bl (!PyData.eqv d e)) H
theorem op_eqD (hu : X.A.units + 64 < cLine) : OpR X (compareOp .Eq) (rEqD X.K) := by
  intro pins s σ H x y v u Q I rx ry h
  obtain ⟨d, e, hd, he, sd, se, q⟩ := h
  obtain ⟨as, ra⟩ := RdD.reads I hd rx
  obtain ⟨bs, rb⟩ := RdD.reads I he ry
  exact eq_dataH ra rb sd se hu ⟨.bl _, H, I, rfl, q⟩
end
end L2
end

section
set_option Elab.async false
set_option linter.all false
set_option maxRecDepth 100000
set_option maxHeartbeats 1000000
namespace L2
open PySem PySem.Spec PyProof.Rows
def clsV : V → Option Value
  | .ty n => some (.type n)
  | .ref a => some (.ref a)
  | _ => none
theorem clsV_rel {c : V} {cv u : Value} (h : clsV c = some cv) (r : RelV c u) : u = cv := by
  cases c with
  | ty n => cases h; exact r
  | ref a => cases h; exact r
  | _ => cases h
def rIsi (K : PySem.W.Frag) : List V → Hp → VK → Prop := fun xs H Q => ∃ x c cv t b, xs = [x, c] ∧ clsV c = some cv ∧ TyOf K H x t ∧ PySem.W.kitOne K t cv = some b ∧ Q (.bl b) H
section
variable {X : Cx}
theorem call_isi : CallR X (.builtin "isinstance") (rIsi X.K) := by
  intro pins s σ H xs us Q I rs h
  obtain ⟨x, c, cv, t, b, rfl, hc, ty, e, q⟩ := h
  obtain ⟨u, v, rfl, ru, rv⟩ := rs.two
  rw [clsV_rel hc rv]
  exact isinst_ok I ru ty e fun tk => ⟨.bl b, H, I.tok tk, rfl, q⟩
end
section
variable {K : PySem.W.Frag}
theorem kit_same {t : Value} : PySem.W.kitOne K t t = some true := by
  unfold PySem.W.kitOne
  rw [if_pos (by simp)]
end
end L2
end

section
set_option Elab.async false
set_option linter.all false
set_option maxRecDepth 100000
set_option maxHeartbeats 4000000
namespace L2
open PySem PySem.Spec PyProof.Rows
structure Fn (K : PySem.W.Frag) (mg : Str → Option Value) (x : Str) (st : Stmt) : Prop where
  ex : ∃ f fd, Fun K x x st f fd ∧ mg x = some (.ref f)
structure Has (P : Program) (w : World) (K : PySem.W.Frag) (mg : Str → Option Value) (base : Heap) (k : Nat) (x : Str) (ps : List Str) (sp : Sp) : Prop where
  ex : ∃ f fd, FnOk P w K mg base CX0 k f fd ps sp ∧ Binds K fd ps [] ∧ PySem.W.keepIn K (.ref f) = true ∧ mg x = some (.ref f)
structure Cst (mg : Str → Option Value) (x : Str) (v : V) : Prop where
  ex : ∃ u, mg x = some u ∧ RelV v u
section
variable {P : Program} {w : World} {K : PySem.W.Frag} {mg : Str → Option Value} {base : Heap}
theorem fn_mk {h : Heap} {x : Str} {st : Stmt} {f : Addr} {oc : Value} {od an : Option Addr} {osl : Array (Option Value)} {kV doc pm cdv ct : Value} (X : K.In h) (G : h.Ns mainGlobals mg) (a : PySem.W.nsIn K mainGlobals x = some (some (.ref f)))
    (l : K.lookup f = some ⟨oc, od, .func (PySem.W.fnOf x x (defArgs st) (defBody st) (defScope st) .none kV doc pm an cdv ct), osl⟩) (c : PySem.W.codeIn K cdv x = true) (k : PySem.W.keepIn K (.ref f) = true) : Fn K mg x st :=
  ⟨f, _, fun_mk l c k, PySem.W.mg_of X G a⟩
theorem cst_int {h : Heap} {x : Str} {i : Int} {t : Tok} (X : K.In h) (G : h.Ns mainGlobals mg) (a : PySem.W.nsIn K mainGlobals x = some (some (.int i t))) : Cst mg x (.int i) := ⟨_, PySem.W.mg_of X G a, _, rfl⟩
theorem cst_ref {h : Heap} {x : Str} {a : Addr} (X : K.In h) (G : h.Ns mainGlobals mg) (e : PySem.W.nsIn K mainGlobals x = some (some (.ref a))) : Cst mg x (.ref a) := ⟨_, PySem.W.mg_of X G e, rfl⟩
theorem Has.of {x : Str} {st : Stmt} {N ps : List Str} {k : Nat} {sp : Sp} (F : Fn K mg x st) (S : FnScope N ps (defScope st))
    (hb : ∀ (kV doc pm : Value) (an : Option Addr) (cdv ct : Value) (us : List Value), us.length = ps.length → bindArgs (PySem.W.fnOf x x (defArgs st) (defBody st) (defScope st) .none kV doc pm an cdv ct) ⟨us, []⟩ = pure (ps.zip us))
    (len : ∀ vs H Q E, sp vs H Q E → vs.length = ps.length)
    (hbody : ∀ (f : Addr) (cdv : Value) (A : Around) (outer : List Env) (s : Shared) (H : Hp) (vs : List V) (Q : VK) (E : XK), Room k (A.deeper (envOfC x (defScope st) s.heap.objs.size f cdv)) → sp vs H Q E →
      ∃ t, PSs (cxOf CX0 P w K mg base N x (defScope st) f cdv A outer s H E).nox (defBody st) t ∧ t { nx := fun _ H' => Q .non H', rt := Q } (start N vs) H) : Has P w K mg base (k + 1) x ps sp := by
  obtain ⟨f, fd, F, m⟩ := F.ex
  exact ⟨f, fd, F.ok S len fun cdv => hbody f cdv, F.binds hb, F.kp, m⟩
theorem law_fin {fa : Addr} {k : Nat} {x : Str} {st : Stmt} {sp : Sp} (F : Fn K mg "law" st) (hfa : mg "law" = some (.ref fa))
    (hb : ∀ (kV doc pm : Value) (an : Option Addr) (cdv ct u : Value), bindArgs (PySem.W.fnOf "law" "law" (defArgs st) (defBody st) (defScope st) .none kV doc pm an cdv ct) ⟨[u], []⟩ = pure [(x, u)])
    (ok : ∀ (f : Addr) (fd : FuncData) (base : Heap), Fun K "law" "law" st f fd → FnOk P w K mg base CX0 k f fd [x] sp) :
    ∃ fd : FuncData, (∀ (s : Shared) (u : Value), BindsTo s fd ⟨[u], []⟩ [(x, u)]) ∧ ∀ base : Heap, K.In base → base.Ns mainGlobals mg → FnOk P w K mg base CX0 k fa fd [x] sp := by
  obtain ⟨f, fd, F, m⟩ := F.ex
  cases hfa.symm.trans m
  have F' := F
  obtain ⟨oc, od, kV, doc, pm, an, cdv, ct, osl, rfl, lk, hcd⟩ := F.ex
  exact ⟨_, fun s u => .of_eq (hb kV doc pm an cdv ct u), fun base _ _ => ok _ _ base F'⟩
end
section
variable {X : Cx} {x : Str} {ps : List Str} {sp : Sp} {k j : Nat} {e : Expr} {es : List Expr} {t : TA} {p pos : Pos} {v : V}
theorem pe_has (h : Has X.prog X.w X.K X.mg X.base k x ps sp) (hr : Room j X.A) (hk : k ≤ j) (hg : Gl X x) (ha : PA X (e :: es) t) (hdb : (x == ("__debug__" : Str)) = false := by decide)
    (he : starEach (e :: es) X.env = (false, eval e X.env) :: starEach es X.env := by rfl) (hpl : (backTo pos (starEach es X.env)).any (·.1) = false := by rfl) : PE X (.Call (.Name x p) (e :: es) [] pos) (tCall sp [] E0 t) := by
  obtain ⟨f, fd, F, b, kp, m⟩ := h.ex
  exact pe_call F (hr.mono hk) hg m kp b .nil pass0 ha hdb he hpl
theorem pe_cst (h : Cst X.mg x v) (hg : Gl X x) (hd : (x == ("__debug__" : Str)) = false := by decide) : PE X (.Name x pos) (tC v) := by
  obtain ⟨u, m, r⟩ := h.ex
  exact pe_glob hg m r hd
def CDivL (i j : Int) : Prop := j ≠ 0 ∧ -(2 ^ 64) < j ∧ j < 2 ^ 64
theorem op_fdivL : OpR X (binaryOp .FloorDiv) (rI CDivL fun i j => .int (i.fdiv j)) := opI fun i j _ _ _ _ _ hc q => floordiv_int hc.1 q (.inl (PyProof.noPylong_of_log2 (by
  have h : j.natAbs < 2 ^ 64 := by have := hc.2; omega
  have := (Nat.log2_lt (by have := hc.1; omega)).mpr h
  omega)))
end
theorem same_upd {H : Hp} {p : Addr} (h : H p = none) (o : HO) : Same H (upd H p o) := fun b u q => by rw [upd_ne (ne_of_none q h)]; exact q
end L2
end

section
set_option Elab.async false
set_option linter.all false
set_option maxRecDepth 100000
set_option maxHeartbeats 4000000
namespace L2
open PySem PySem.Spec PyProof.Rows
structure ClsOk (K : PySem.W.Frag) (mg : Str → Option Value) (cn : Str) (C : Addr) : Prop where
  mgC : mg cn = some (.ref C)
  cl : Cls K C
  mks : PySem.W.makesIn K C = true
  kp : PySem.W.keepIn K (.ref C) = true
structure MFn (K : PySem.W.Frag) (C : Addr) (m qual : Str) (st : Stmt) : Prop where
  ex : ∃ f fd, Fun K m qual st f fd ∧ Meth K C m f
structure HasM (P : Program) (w : World) (K : PySem.W.Frag) (mg : Str → Option Value) (base : Heap) (k : Nat) (C : Addr) (m : Str) (ps : List Str) (sp : Sp) : Prop where
  ex : ∃ f fd, FnOk P w K mg base CX0 k f fd ps sp ∧ Binds K fd ps [] ∧ Meth K C m f
section
variable {P : Program} {w : World} {K : PySem.W.Frag} {mg : Str → Option Value} {base : Heap}
theorem cls_mk {h : Heap} {cn : Str} {C : Addr} (X : K.In h) (G : h.Ns mainGlobals mg) (a : PySem.W.nsIn K mainGlobals cn = some (some (.ref C))) (pg : PySem.W.plainGet K C Str.empty = true) (hd : PySem.W.hasDictIn K C = true) (po : PySem.W.plainOver K C = true)
    (sa : PySem.W.findIn K (.ref C) "__setattr__" = some (some (.builtin "object.__setattr__"))) (mk : PySem.W.makesIn K C = true) (kp : PySem.W.keepIn K (.ref C) = true) : ClsOk K mg cn C := ⟨PySem.W.mg_of X G a, ⟨pg, hd, po, sa⟩, mk, kp⟩
theorem noattr_mk {C : Addr} {f : Str} (h : PySem.W.findIn K (.ref C) f = some none) : NoAttr K C f := h
theorem mfn_mk {C : Addr} {m qual : Str} {st : Stmt} {f : Addr} {oc : Value} {od an : Option Addr} {osl : Array (Option Value)} {kV doc pm cdv ct : Value} (a : PySem.W.findIn K (.ref C) m = some (some (.ref f))) (i : PySem.W.isFn K (.ref f) = true)
    (l : K.lookup f = some ⟨oc, od, .func (PySem.W.fnOf m qual (defArgs st) (defBody st) (defScope st) .none kV doc pm an cdv ct), osl⟩) (c : PySem.W.codeIn K cdv qual = true) (k : PySem.W.keepIn K (.ref f) = true) : MFn K C m qual st :=
  ⟨f, _, fun_mk l c k, ⟨a, i, k⟩⟩
theorem HasM.of {C : Addr} {m qual : Str} {st : Stmt} {N ps : List Str} {k : Nat} {sp : Sp} (F : MFn K C m qual st) (S : FnScope N ps (defScope st))
    (hb : ∀ (kV doc pm : Value) (an : Option Addr) (cdv ct : Value) (us : List Value), us.length = ps.length → bindArgs (PySem.W.fnOf m qual (defArgs st) (defBody st) (defScope st) .none kV doc pm an cdv ct) ⟨us, []⟩ = pure (ps.zip us))
    (len : ∀ vs H Q E, sp vs H Q E → vs.length = ps.length)
    (hbody : ∀ (f : Addr) (cdv : Value) (A : Around) (outer : List Env) (s : Shared) (H : Hp) (vs : List V) (Q : VK) (E : XK), Room k (A.deeper (envOfC qual (defScope st) s.heap.objs.size f cdv)) → sp vs H Q E →
      ∃ t, PSs (cxOf CX0 P w K mg base N qual (defScope st) f cdv A outer s H E).nox (defBody st) t ∧ t { nx := fun _ H' => Q .non H', rt := Q } (start N vs) H) : HasM P w K mg base (k + 1) C m ps sp := by
  obtain ⟨f, fd, F, mm⟩ := F.ex
  exact ⟨f, fd, F.ok S len fun cdv => hbody f cdv, F.binds hb, mm⟩
end
section
variable {X : Cx} {x m : Str} {ps : List Str} {sp : Sp} {k j : Nat} {C : Addr} {o e : Expr} {es : List Expr} {ta : TE} {t : TA} {p pos apos : Pos}
theorem pe_hasM {pl : Sem Bool} (he : PE X o ta) (c : Cls X.K C) (h : HasM X.prog X.w X.K X.mg X.base k C m ps sp) (hr : Room j X.A) (hk : k ≤ j) (ha : PA X (e :: es) t)
    (hst : starEach (e :: es) X.env = (false, eval e X.env) :: starEach es X.env := by rfl) (hpl : (backTo pos (starEach es X.env)).any (·.1) = false := by rfl)
    (ht : eval (.Call (.Attribute o m apos) (e :: es) [] pos) X.env = (do
      let ov ← eval o X.env
      standAt apos.atName
      let (f, first) ← holding [ov] (getMethod ov m pl)
      callWith pos f first (backTo pos (starEach (e :: es) X.env)) (backToKw pos (keywordEach [] X.env))) := by rfl) :
    PE X (.Call (.Attribute o m apos) (e :: es) [] pos) (tMeth C m sp [] E0 ta t) := by
  obtain ⟨f, fd, F, b, mm⟩ := h.ex
  exact pe_meth he c mm F (hr.mono hk) b .nil pass0 ha hst hpl ht
theorem pe_hasM0 {pl : Sem Bool} (he : PE X o ta) (c : Cls X.K C) (h : HasM X.prog X.w X.K X.mg X.base k C m ps sp) (hr : Room j X.A) (hk : k ≤ j)
    (ht : eval (.Call (.Attribute o m apos) [] [] pos) X.env = (do
      let ov ← eval o X.env
      standAt apos.atName
      let (f, first) ← holding [ov] (getMethod ov m pl)
      callWith pos f first (backTo pos (starEach [] X.env)) (backToKw pos (keywordEach [] X.env))) := by rfl) :
    PE X (.Call (.Attribute o m apos) [] [] pos) (tMeth C m sp [] E0 ta tNil) := by
  obtain ⟨f, fd, F, b, mm⟩ := h.ex
  exact pe_meth0 he c mm F (hr.mono hk) b .nil pass0 ht
theorem pe_mkM0 (c : ClsOk X.K X.mg x C) (h : HasM X.prog X.w X.K X.mg X.base k C "__init__" ps sp) (hr : Room j X.A) (hk : k + 1 ≤ j) (hg : Gl X x) (hdb : (x == ("__debug__" : Str)) = false := by decide) : PE X (.Call (.Name x p) [] [] pos) (tMake C sp [] E0 tNil) := by
  obtain ⟨f, fd, F, b, mm⟩ := h.ex
  exact pe_make0 ⟨c.mks, mm.at_, mm.fn, c.kp⟩ F (hr.mono hk) hg c.mgC b .nil pass0 hdb
end
end L2
end

section
set_option Elab.async false
set_option linter.all false
set_option maxRecDepth 100000
set_option maxHeartbeats 4000000
namespace L2
open PySem PySem.Spec PyProof.Rows
structure MFnD (K : PySem.W.Frag) (C : Addr) (m qual : Str) (st : Stmt) (d1 d2 : V) : Prop where
  ex : ∃ (f dA : Addr) (oc : Value) (od : Option Addr) (kV doc pm : Value) (an : Option Addr) (cdv ct : Value) (osl : Array (Option Value)) (o : Obj) (u1 u2 : Value) (n : Nat),
    K.lookup f = some ⟨oc, od, .func (PySem.W.fnOf m qual (defArgs st) (defBody st) (defScope st) (.ref dA) kV doc pm an cdv ct), osl⟩ ∧ PySem.W.codeIn K cdv qual = true ∧ Meth K C m f ∧
    K.lookup dA = some o ∧ o.data = .seq #[u1, u2] n ∧ RelV d1 u1 ∧ RelV d2 u2
structure HasD (P : Program) (w : World) (K : PySem.W.Frag) (mg : Str → Option Value) (base : Heap) (k : Nat) (C : Addr) (m : Str) (ps : List Str) (sp : Sp) (ks : List Str) (gV : List V → List V → List V) : Prop where
  ex : ∃ f fd g, FnOk P w K mg base CX0 k f fd ps sp ∧ KBinds K fd ps ks g gV ∧ Meth K C m f
def tMakeK (C : Addr) (sp : Sp) (gV : List V → List V → List V) (E : XK) (t tk : TA) : TE := fun σ H Q => t σ H fun vs H1 => tk σ H1 fun zs H2 => ∀ x dx, H2 x = none → H2 dx = none → dx ≠ x →
  sp (gV (.ref x :: vs) zs) (upd (upd H2 dx (.own x)) x (.ins C dx [])) (fun v H3 => v = .non ∧ Q (.ref x) H3) E
theorem tMakeK_ap {C : Addr} {sp : Sp} {gV : List V → List V → List V} {E : XK} {t tk : TA} {σ : St} {H : Hp} {Q : VK} : tMakeK C sp gV E t tk σ H Q = (t σ H fun vs H1 => tk σ H1 fun zs H2 => ∀ x dx, H2 x = none → H2 dx = none → dx ≠ x →
  sp (gV (.ref x :: vs) zs) (upd (upd H2 dx (.own x)) x (.ins C dx [])) (fun v H3 => v = .non ∧ Q (.ref x) H3) E) := rfl
section
variable {X : Cx} {CX : CXT} {k : Nat} {f C : Addr} {fd : FuncData} {ps ks : List Str} {sp : Sp} {E : XK} {x m : Str} {p pos apos kpos : Pos} {e o : Expr} {es : List Expr} {kws : List Keyword} {te ta : TE} {t tk : TA} {nm : Option Str}
variable {g : List Value → List Value → List Value} {gV : List V → List V → List V}
theorem run_makeK {pins : List (Addr × Obj)} {σ : St} {H : Hp} {s : Shared} {Q : VK} {us ws : List Value} {vs zs : List V} (M : Mk X.K C f) (F : FnOk X.prog X.w X.K X.mg X.base CX k f fd ps sp) (hr : Room (k + 1) X.A) (hb : KBinds X.K fd ps ks g gV)
    (hx : Passes CX X E) (I : Inv X pins σ H s) (r : Vals vs us) (rz : Vals zs ws)
    (h : ∀ x dx, H x = none → H dx = none → dx ≠ x → sp (gV (.ref x :: vs) zs) (upd (upd H dx (.own x)) x (.ins C dx [])) (fun v H2 => v = .non ∧ Q (.ref x) H2) E) :
    wpAny (model X.prog X.w) X.A (call (.ref C) us (ks.zip ws)) (EP X pins σ Q) X.xe s := by
  have hq := h (s.heap.objs.size + 1) s.heap.objs.size (I.hok.fresh (Nat.le_succ _)) (I.hok.fresh (Nat.le_refl _)) (Nat.ne_of_lt (Nat.lt_succ_self _))
  have I2 := Inv.made (C := C) I
  have r2 := hb.rel (.cons (show RelV (V.ref (s.heap.objs.size + 1)) (Value.ref (s.heap.objs.size + 1)) from rfl) r) rz
  have hl : (g (Value.ref (s.heap.objs.size + 1) :: us) ws).length = ps.length := by
    rw [← r2.length]; exact F.len _ _ _ _ hq
  refine wpAny_call (make_map (f := f) I.kIn M.makes M.init (beq_iff_eq.mp M.fn) (codeAny_mono (F.run _ X.stack _ _ ⟨Value.ref (s.heap.objs.size + 1) :: us, ks.zip ws⟩ (g (Value.ref (s.heap.objs.size + 1) :: us) ws) _ _ E (hr.make C us (ks.zip ws))
    (I2.env0.make C us (ks.zip ws)) (hb.to _ (Value.ref (s.heap.objs.size + 1) :: us) ws I2.kIn hl) r2 hq) fun r s' hq' => ?_))
  cases r with
  | error e => exact hx pins σ _ _ e s' I2 hq'
  | ok fl =>
    cases fl with
    | ret u =>
      obtain ⟨v, H', I3, rv, ev, q3⟩ := I2.after hq'
      subst ev
      exact ⟨rv, ⟨V.ref (s.heap.objs.size + 1), H', I3, rfl, q3⟩⟩
    | next => exact False.elim hq'
    | brk => exact False.elim hq'
    | cont => exact False.elim hq'
theorem pe_makeK (M : Mk X.K C f) (F : FnOk X.prog X.w X.K X.mg X.base CX k f fd ps sp) (hr : Room (k + 1) X.A) (hg : Gl X x) (hm : X.mg x = some (.ref C)) (hb : KBinds X.K fd ps ks g gV) (hx : Passes CX X E)
    (ha : PA X (e :: es) t) (hkw : PK X kws tk) (hall : (backToKw pos (keywordEach kws X.env)).all (·.1.isSome) = true := by rfl) (hks : (backToKw pos (keywordEach kws X.env)).filterMap (·.1) = ks := by rfl)
    (hdb : (x == ("__debug__" : Str)) = false := by decide) (he : starEach (e :: es) X.env = (false, eval e X.env) :: starEach es X.env := by rfl)
    (hpl : ((backTo pos (starEach (e :: es) X.env)).any (·.1) || (backToKw pos (keywordEach kws X.env)).any (·.1.isNone)) = false := by rfl) :
    PE X (.Call (.Name x p) (e :: es) kws pos) (tMakeK C sp gV E t tk) := by
  intro pins s σ H Q I h
  refine wpAny_Call_Name_kw (ld_glob I hg hm ?_ hdb)
  refine PySem.W.callWith_KW (h₀ := X.base) I.ok.mod.kin M.kp hall (thn (ha pos pins s σ H _ I h) fun us s1 ⟨vs, H1, I1, r, q⟩ => ?_) hpl he
  refine thn (hkw pos pins s1 σ H1 _ I1 q) fun ws s2 ⟨zs, H2, I2, rz, q2⟩ => ⟨I2.kIn, ?_⟩
  rw [hks]
  exact run_makeK M F hr hb hx I2 r rz q2
theorem pe_mkD {j : Nat} (c : ClsOk X.K X.mg x C) (h : HasD X.prog X.w X.K X.mg X.base k C "__init__" ps sp ks gV) (hr : Room j X.A) (hk : k + 1 ≤ j) (hg : Gl X x) (ha : PA X (e :: es) t) (hkw : PK X kws tk) (hall : (backToKw pos (keywordEach kws X.env)).all (·.1.isSome) = true := by rfl) (hks : (backToKw pos (keywordEach kws X.env)).filterMap (·.1) = ks := by rfl)
    (hdb : (x == ("__debug__" : Str)) = false := by decide) (he : starEach (e :: es) X.env = (false, eval e X.env) :: starEach es X.env := by rfl)
    (hpl : ((backTo pos (starEach (e :: es) X.env)).any (·.1) || (backToKw pos (keywordEach kws X.env)).any (·.1.isNone)) = false := by rfl) :
    PE X (.Call (.Name x p) (e :: es) kws pos) (tMakeK C sp gV E0 t tk) := by
  obtain ⟨f, fd, g, F, b, mm⟩ := h.ex
  exact pe_makeK ⟨c.mks, mm.at_, mm.fn, c.kp⟩ F (hr.mono hk) hg c.mgC b pass0 ha hkw hall hks hdb he hpl
end
def gShape {α : Type} (np nk : Nat) (tl : List α) (us ws : List α) : List α := if us.length = np ∧ ws.length = nk then us ++ ws ++ tl else []
theorem gShape_ap {α : Type} {np nk : Nat} {tl us ws : List α} (h : us.length = np) (h' : ws.length = nk) : gShape np nk tl us ws = us ++ ws ++ tl := if_pos ⟨h, h'⟩
theorem gShape_rel {np nk : Nat} {tlV : List V} {tl : List Value} (ht : Vals tlV tl) {vs zs : List V} {us ws : List Value} (h : Vals vs us) (h' : Vals zs ws) : Vals (gShape np nk tlV vs zs) (gShape np nk tl us ws) := by
  unfold gShape
  rw [h.length, h'.length]
  split
  · exact (h.append h').append ht
  · exact .nil
section
variable {P : Program} {w : World} {K : PySem.W.Frag} {mg : Str → Option Value} {base : Heap}
theorem HasD.of {C : Addr} {m qual : Str} {st : Stmt} {N ps ks : List Str} {k : Nat} {sp : Sp} {d1 d2 : V} (np nk nd : Nat) (F : MFnD K C m qual st d1 d2) (S : FnScope N ps (defScope st)) (hp : 0 < ps.length)
    (hb : ∀ (kV doc pm : Value) (an : Option Addr) (cdv ct : Value) (dA : Addr) (u1 u2 : Value) (us ws : List Value), us.length = np → ws.length = nk →
      ∃ k, bindArgs (PySem.W.fnOf m qual (defArgs st) (defBody st) (defScope st) (.ref dA) kV doc pm an cdv ct) ⟨us, ks.zip ws⟩ = seqItems? (.ref dA) >>= k ∧ k (some #[u1, u2]) = pure (ps.zip (us ++ ws ++ [u1, u2].drop (2 - nd))))
    (len : ∀ vs H Q E, sp vs H Q E → vs.length = ps.length)
    (hbody : ∀ (f : Addr) (cdv : Value) (A : Around) (outer : List Env) (s : Shared) (H : Hp) (vs : List V) (Q : VK) (E : XK), Room k (A.deeper (envOfC qual (defScope st) s.heap.objs.size f cdv)) → sp vs H Q E →
      ∃ t, PSs (cxOf CX0 P w K mg base N qual (defScope st) f cdv A outer s H E).nox (defBody st) t ∧ t { nx := fun _ H' => Q .non H', rt := Q } (start N vs) H) : HasD P w K mg base (k + 1) C m ps sp ks (gShape np nk ([d1, d2].drop (2 - nd))) := by
  obtain ⟨f, dA, oc, od, kV, doc, pm, an, cdv, ct, osl, o, u1, u2, n, lk, hcd, mm, lo, ho, r1, r2⟩ := F.ex
  refine ⟨f, _, gShape np nk ([u1, u2].drop (2 - nd)), fn_of lk hcd S len fun A outer s H vs Q E hr hsp => ?_, ⟨fun s us ws hK hl => ?_, fun a b => gShape_rel (Vals.drop _ (.cons r1 (.cons r2 .nil))) a b⟩, mm⟩
  · obtain ⟨t, h, q⟩ := hbody f cdv A outer s H vs Q E hr hsp
    exact ⟨t, h.nox, q⟩
  · unfold gShape at hl ⊢
    by_cases e : us.length = np ∧ ws.length = nk
    · rw [if_pos e]
      obtain ⟨kk, h1, h2⟩ := hb kV doc pm an cdv ct dA u1 u2 us ws e.1 e.2
      exact BindsTo.of_defaults rfl (hK _ _ lo) ho h1 h2
    · rw [if_neg e] at hl
      simp at hl
      omega
theorem mfnd_mk {C : Addr} {m qual : Str} {st : Stmt} {f dA : Addr} {oc : Value} {od an : Option Addr} {osl : Array (Option Value)} {kV doc pm cdv ct : Value} {o : Obj} {u1 u2 : Value} {n : Nat} {d1 d2 : V} (a : PySem.W.findIn K (.ref C) m = some (some (.ref f))) (i : PySem.W.isFn K (.ref f) = true)
    (l : K.lookup f = some ⟨oc, od, .func (PySem.W.fnOf m qual (defArgs st) (defBody st) (defScope st) (.ref dA) kV doc pm an cdv ct), osl⟩) (c : PySem.W.codeIn K cdv qual = true) (k : PySem.W.keepIn K (.ref f) = true)
    (lo : K.lookup dA = some o) (ho : o.data = .seq #[u1, u2] n) (r1 : RelV d1 u1) (r2 : RelV d2 u2) : MFnD K C m qual st d1 d2 :=
  ⟨f, dA, oc, od, kV, doc, pm, an, cdv, ct, osl, o, u1, u2, n, l, c, ⟨a, i, k⟩, lo, ho, r1, r2⟩
end
end L2
end

section
set_option Elab.async false
set_option linter.all false
set_option maxRecDepth 100000
set_option maxHeartbeats 1000000
namespace L2
open PySem PySem.Spec PyProof.Rows PySem.SeqAt
theorem tC_ap {v : V} {z0 : St} {H : Hp} {Q : VK} : tC v z0 H Q = (Q v H) := rfl
theorem tB_ap {t : TE} {σ : St} {H : Hp} {Q : Bool → Hp → Prop} : tB t σ H Q = (t σ H fun x H1 => ∃ c, x = .bl c ∧ Q c H1) := rfl
theorem tAnd_ap {t u : TT} {σ : St} {H : Hp} {Q : Bool → Hp → Prop} : tAnd t u σ H Q = (t σ H fun c H1 => if c = true then u σ H1 Q else Q false H1) := rfl
theorem tOr_ap {t u : TT} {σ : St} {H : Hp} {Q : Bool → Hp → Prop} : tOr t u σ H Q = (t σ H fun c H1 => if c = true then Q true H1 else u σ H1 Q) := rfl
theorem tNot_ap {t : TT} {σ : St} {H : Hp} {Q : Bool → Hp → Prop} : tNot t σ H Q = (t σ H fun c H1 => Q (!c) H1) := rfl
theorem tAndV_ap {ta tb : TE} {σ : St} {H : Hp} {Q : VK} : tAndV ta tb σ H Q = (ta σ H fun x H1 => ∃ c, x = .bl c ∧ if c = true then tb σ H1 Q else Q (.bl false) H1) := rfl
theorem tOrV_ap {ta tb : TE} {σ : St} {H : Hp} {Q : VK} : tOrV ta tb σ H Q = (ta σ H fun x H1 => ∃ c, x = .bl c ∧ if c = true then Q (.bl true) H1 else tb σ H1 Q) := rfl
theorem tNotV_ap {ta : TE} {σ : St} {H : Hp} {Q : VK} : tNotV ta σ H Q = (ta σ H fun x H1 => ∃ c, x = .bl c ∧ Q (.bl (!c)) H1) := rfl
theorem tIf_ap {t : TT} {ta tb : TE} {σ : St} {H : Hp} {Q : VK} : tIf t ta tb σ H Q = (t σ H fun c H1 => if c = true then ta σ H1 Q else tb σ H1 Q) := rfl
theorem tNext_ap {D : Ends} {σ : St} {H : Hp} : tNext  D σ H = (D.nx σ H) := rfl
theorem tSeq_ap {t u : TS} {D : Ends} {σ : St} {H : Hp} : tSeq t u D σ H = (t { D with nx := u D } σ H) := rfl
theorem tDrop_ap {te : TE} {D : Ends} {σ : St} {H : Hp} : tDrop te D σ H = (te σ H fun _ H1 => D.nx σ H1) := rfl
theorem tRet_ap {te : TE} {D : Ends} {σ : St} {H : Hp} : tRet te D σ H = (te σ H D.rt) := rfl
theorem tRetN_ap {D : Ends} {z1 : St} {H : Hp} : tRetN  D z1 H = (D.rt .non H) := rfl
theorem tIfS_ap {c : TT} {t u : TS} {D : Ends} {σ : St} {H : Hp} : tIfS c t u D σ H = (c σ H fun b H1 => if b = true then t D σ H1 else u D σ H1) := rfl
theorem gName_ap {i : Nat} {v : V} {σ : St} {H : Hp} {Q : St → Hp → Prop} : gName i v σ H Q = (Q (σ.set i (some v)) H) := rfl
theorem gNil_ap {vs : List V} {σ : St} {H : Hp} {Q : St → Hp → Prop} : gNil  vs σ H Q = (vs = [] ∧ Q σ H) := rfl
theorem gSub_ap {to ti : TE} {t : TSet} {v : V} {σ : St} {H : Hp} {Q : St → Hp → Prop} : gSub to ti t v σ H Q = (to σ H fun o H1 => ti σ H1 fun i H2 => t o i v H2 fun H3 => Q σ H3) := rfl
theorem tAsg_ap {te : TE} {g : TG} {D : Ends} {σ : St} {H : Hp} : tAsg te g D σ H = (te σ H fun x H1 => g x σ H1 D.nx) := rfl
theorem iList_ap {K : PySem.W.Frag} {tl : TE} {σ : St} {H : Hp} {R : It → Hp → Prop} : iList K tl σ H R = (tl σ H fun x H1 => ∃ a, x = .ref a ∧ (∃ xs, SqL K H1 a xs) ∧ R (Itl K a) H1) := rfl
theorem iTup_ap {K : PySem.W.Frag} {tl : TE} {σ : St} {H : Hp} {R : It → Hp → Prop} : iTup K tl σ H R = (tl σ H fun x H1 => ∃ a, x = .ref a ∧ (∃ xs, SqT K H1 a xs) ∧ R (Itt K a) H1) := rfl
theorem iRng1_ap {ta : TA} {σ : St} {H : Hp} {R : It → Hp → Prop} : iRng1 ta σ H R = (ta σ H fun vs H1 => ∃ j : Int, vs = [.int j] ∧ -(2 ^ 62) ≤ j ∧ j < 2 ^ 62 ∧ R (Itr 0 j.toNat) H1) := rfl
theorem iRng2_ap {ta : TA} {σ : St} {H : Hp} {R : It → Hp → Prop} : iRng2 ta σ H R = (ta σ H fun vs H1 => ∃ i j : Int, vs = [.int i, .int j] ∧ (-(2 ^ 62) ≤ i ∧ i < 2 ^ 62 ∧ -(2 ^ 62) ≤ j ∧ j < 2 ^ 62) ∧ R (Itr i (j - i).toNat) H1) := rfl
theorem tOp_ap {r : R2} {ta tb : TE} {σ : St} {H : Hp} {Q : VK} : tOp r ta tb σ H Q = (ta σ H fun x H1 => tb σ H1 fun y H2 => r x y H2 Q) := rfl
theorem tUn_ap {r : V → Hp → VK → Prop} {ta : TE} {σ : St} {H : Hp} {Q : VK} : tUn r ta σ H Q = (ta σ H fun x H1 => r x H1 Q) := rfl
theorem rI_ap {C : Int → Int → Prop} {g : Int → Int → V} {x : V} {y : V} {H : Hp} {Q : VK} : rI C g x y H Q = (∃ i j, x = .int i ∧ y = .int j ∧ C i j ∧ Q (g i j) H) := rfl
theorem rI0_ap {g : Int → Int → V} {x : V} {y : V} {H : Hp} {Q : VK} : rI0 g x y H Q = (∃ i j, x = .int i ∧ y = .int j ∧ Q (g i j) H) := rfl
theorem rU_ap {g : Int → V} {x : V} {H : Hp} {Q : VK} : rU g x H Q = (∃ i, x = .int i ∧ Q (g i) H) := rfl
theorem rEq_ap {x : V} {y : V} {H : Hp} {Q : VK} : rEq  x y H Q = (scal x y = true ∧ Q (.bl (decide (x = y))) H) := rfl
theorem rNe_ap {x : V} {y : V} {H : Hp} {Q : VK} : rNe  x y H Q = (scal x y = true ∧ Q (.bl (!decide (x = y))) H) := rfl
theorem tTest_ap {t : TE} {σ : St} {H : Hp} {Q : Bool → Hp → Prop} : tTest t σ H Q = (t σ H fun x H' => ∃ k, x = .bl k ∧ Q k H') := rfl
theorem tNil_ap {z0 : St} {H : Hp} {Q : List V → Hp → Prop} : tNil  z0 H Q = (Q [] H) := rfl
theorem tCons_ap {ta : TE} {tr : TA} {σ : St} {H : Hp} {Q : List V → Hp → Prop} : tCons ta tr σ H Q = (ta σ H fun x H1 => tr σ H1 fun xs H2 => Q (x :: xs) H2) := rfl
theorem tCall_ap {sp : Sp} {dvs : List V} {E : XK} {t : TA} {σ : St} {H : Hp} {Q : VK} : tCall sp dvs E t σ H Q = (t σ H fun vs H1 => sp (vs ++ dvs) H1 Q E) := rfl
theorem tMake_ap {C : Addr} {sp : Sp} {dvs : List V} {E : XK} {t : TA} {σ : St} {H : Hp} {Q : VK} : tMake C sp dvs E t σ H Q = (t σ H fun vs H1 => ∀ x dx, H1 x = none → H1 dx = none → dx ≠ x →
  sp (.ref x :: (vs ++ dvs)) (upd (upd H1 dx (.own x)) x (.ins C dx [])) (fun v H2 => v = .non ∧ Q (.ref x) H2) E) := rfl
theorem tCB_ap {r : List V → Hp → VK → Prop} {t : TA} {σ : St} {H : Hp} {Q : VK} : tCB r t σ H Q = (t σ H fun vs H1 => r vs H1 Q) := rfl
theorem tNoPart_ap {z0 : St} {H : Hp} {Q : Option Int → Hp → Prop} : tNoPart  z0 H Q = (Q none H) := rfl
theorem tPart_ap {t : TE} {σ : St} {H : Hp} {Q : Option Int → Hp → Prop} : tPart t σ H Q = (t σ H fun x H1 => ∃ i, x = .int i ∧ Q (some i) H1) := rfl
theorem tSl_ap {r : V → Option Int → Option Int → Hp → VK → Prop} {te : TE} {tl th : TO} {σ : St} {H : Hp} {Q : VK} : tSl r te tl th σ H Q = (te σ H fun x H1 => tl σ H1 fun l H2 => th σ H2 fun u H3 => r x l u H3 Q) := rfl
theorem rIn_ap {K : PySem.W.Frag} {neg : Bool} {x : V} {y : V} {H : Hp} {Q : VK} : rIn K neg x y H Q = (∃ p xs, y = .ref p ∧ (SqL K H p xs ∨ SqT K H p xs) ∧ flatV x = true ∧ xs.all flatV = true ∧ Q (.bl (if neg then !inV x xs else inV x xs)) H) := rfl
theorem tBM0_ap {K : PySem.W.Frag} {T : String} {r : V → List V → Hp → VK → Prop} {to : TE} {σ : St} {H : Hp} {Q : VK} : tBM0 K T r to σ H Q = (to σ H fun x H1 => tyV K T x H1 ∧ r x [] H1 Q) := rfl
theorem tBM_ap {K : PySem.W.Frag} {T : String} {r : V → List V → Hp → VK → Prop} {to : TE} {t : TA} {σ : St} {H : Hp} {Q : VK} : tBM K T r to t σ H Q = (to σ H fun x H1 => tyV K T x H1 ∧ t σ H1 fun xs H2 => r x xs H2 Q) := rfl
theorem rAppend_ap {x : V} {vs : List V} {H : Hp} {Q : VK} : rAppend  x vs H Q = (∃ l xs y, x = .ref l ∧ vs = [y] ∧ H l = some (.lst xs) ∧ xs.length < sizeLine ∧ Q .non (upd H l (.lst (xs ++ [y])))) := rfl
theorem rExtend_ap {x : V} {vs : List V} {H : Hp} {Q : VK} : rExtend  x vs H Q = (∃ l b xs zs, x = .ref l ∧ vs = [.ref b] ∧ H l = some (.lst xs) ∧ H b = some (.lst zs) ∧ xs.length + zs.length ≤ sizeLine ∧ Q .non (upd H l (.lst (xs ++ zs)))) := rfl
theorem rPop_ap {x : V} {vs : List V} {H : Hp} {Q : VK} : rPop  x vs H Q = (∃ l xs y, x = .ref l ∧ vs = [] ∧ H l = some (.lst xs) ∧ xs[xs.length - 1]? = some y ∧ Q y (upd H l (.lst xs.dropLast))) := rfl
def LoopW (J : It) (g : TG) (tb : TS) (D : Ends) (σ : St) (H : Hp) : Prop := ∃ W : Nat → Nat → St → Hp → Prop, (∃ m, W 0 m σ H) ∧ ∀ i m σ H, W i m σ H →
  (J.stop i H ∧ D.nx σ H) ∨ (J.go i H ∧ ∃ N : St → Hp → Prop, (∀ σ' H', N σ' H' → ∃ m', m' < m ∧ W (i + 1) m' σ' H') ∧ ∀ x H', J.yld i H x H' → g x σ H' fun σ2 H2 => tb { D with nx := N, ct := N, bk := D.nx } σ2 H2)
theorem tFor_ap {wi : TI} {g : TG} {tb : TS} {D : Ends} {σ : St} {H : Hp} : tFor wi g tb D σ H = wi σ H fun J H1 => LoopW J g tb D σ H1 := rfl
end L2
end

section
set_option Elab.async false
set_option linter.all false
set_option maxRecDepth 100000
set_option maxHeartbeats 1000000
namespace L2
open PySem PySem.Spec PyProof.Rows PySem.SeqAt
theorem sDPut_ap {td ty tv : TE} {D : Ends} {σ : St} {H : Hp} : sDPut td ty tv D σ H = (tv σ H fun v H1 => td σ H1 fun x H2 => ty σ H2 fun y H3 => ∃ a H4, x = .ref a ∧ DPut H3 a y v H4 ∧ D.nx σ H4) := rfl
theorem tDNewK_ap {z0 : St} {H : Hp} {Q : VK} : tDNewK  z0 H Q = (∀ p, H p = none → Q (.ref p) (upd H p (.dK []))) := rfl
theorem tDGet2_ap {td ty tx : TE} {σ : St} {H : Hp} {Q : VK} : tDGet2 td ty tx σ H Q = (td σ H fun x H1 => ∃ a, x = .ref a ∧ IsD H1 a ∧ ty σ H1 fun y H2 => tx σ H2 fun z H3 => ∃ o, DGet H3 a y o ∧ Q (o.getD z) H3) := rfl
end L2
end

section
set_option Elab.async false
set_option linter.all false
set_option maxRecDepth 100000
set_option maxHeartbeats 4000000
namespace L2
open PySem PySem.Spec PyProof.Rows
def Cx.block (X : Cx) (N : List Str) (scope : Scope) (cl : List (Str × Addr)) (C : Addr) (fp : List Addr) (s : Shared) (H : Hp) : Cx :=
  { X with N := N, s₀ := s, H₀ := H, env := compEnvC scope cl C X.env, outer := X.stack, stack := X.stack, ex := fp, fn := fun _ => false, pn := [], xe := fun _ _ => False }
structure BlockOk (X : Cx) (N : List Str) (nl : List (Option Nat)) (scope : Scope) (cl : List (Str × Addr)) : Prop where
  kind : scope.kind = .function
  nocell : ∀ y ∈ scope.names, y.2 ≠ .cell
  names : ∀ y ∈ scope.names, y.2 = .local → scope.names.lookup y.1 = some .local
  clos : closureFor scope X.env = pure cl
  sub : ∀ y c, cl.lookup y = some c → X.env.cells.lookup y = some c
  has : ∀ y, scope.names.lookup y = some .free → ∃ c, cl.lookup y = some c
  len : nl.length = N.length
  seen : ∀ (i j : Nat) (y : Str), N[i]? = some y → nl[i]? = some (some j) → X.N[j]? = some y ∧ scope.names.lookup y = some .free ∧ (X.env.scope.names.lookup y = some .cell ∨ X.env.scope.names.lookup y = some .free)
def stOf (nl : List (Option Nat)) (σ : St) : St := nl.map fun o => match o with
  | none => none
  | some j => (σ[j]?).join
theorem lookup_mem_kind {x : Str} {k : NameKind} : ∀ {l : List (Str × NameKind)}, l.lookup x = some k → (x, k) ∈ l
  | [], h => by simp at h
  | (n, q) :: r, h => by
    rw [List.lookup_cons] at h
    cases e : x == n with
    | true =>
      rw [e] at h
      have : q = k := by simpa using h
      have e' : x = n := by simpa using e
      rw [this, e']
      exact List.mem_cons_self
    | false =>
      rw [e] at h
      exact List.mem_cons_of_mem _ (lookup_mem_kind h)
theorem relabel_kind {env : Env} {x : Str} {k : NameKind} : ∀ {l : List (Str × NameKind)},
    (l.map fun (n, k) => if (k == NameKind.free && env.scope.kind == .function && env.kindOf n == some .cell) then (n, NameKind.cell) else (n, k)).lookup x = some k →
      (l.lookup x = some k ∨ (k = .cell ∧ l.lookup x = some .free))
  | [], h => by simp at h
  | (n, q) :: r, h => by
    rw [List.map_cons] at h
    cases e : x == n with
    | true =>
      by_cases hc : (q == NameKind.free && env.scope.kind == .function && env.kindOf n == some .cell) = true
      · simp only [hc, if_true, List.lookup_cons, e] at h
        have hq : q = .free := by
          rw [Bool.and_eq_true, Bool.and_eq_true] at hc
          simpa using hc.1.1
        refine .inr ⟨(by simpa using h.symm), ?_⟩
        rw [List.lookup_cons, e, hq]
      · change List.lookup x ((if (q == NameKind.free && env.scope.kind == .function && env.kindOf n == some .cell) = true then (n, NameKind.cell) else (n, q)) :: _) = some k at h
        rw [if_neg hc, List.lookup_cons, e] at h
        refine .inl ?_
        rw [List.lookup_cons, e]
        exact h
    | false =>
      have h' : (r.map fun (n, k) => if (k == NameKind.free && env.scope.kind == .function && env.kindOf n == some .cell) then (n, NameKind.cell) else (n, k)).lookup x = some k := by
        by_cases hc : (q == NameKind.free && env.scope.kind == .function && env.kindOf n == some .cell) = true
        · simpa only [hc, if_true, List.lookup_cons, e] using h
        · simpa only [hc, List.lookup_cons, e, if_false, Bool.false_eq_true] using h
      have ih := relabel_kind (env := env) h'
      rw [List.lookup_cons, e]
      exact ih
theorem relabel_free {env : Env} {x : Str} : ∀ {l : List (Str × NameKind)}, l.lookup x = some .free →
    (l.map fun (n, k) => if (k == NameKind.free && env.scope.kind == .function && env.kindOf n == some .cell) then (n, NameKind.cell) else (n, k)).lookup x = some .cell ∨
    (l.map fun (n, k) => if (k == NameKind.free && env.scope.kind == .function && env.kindOf n == some .cell) then (n, NameKind.cell) else (n, k)).lookup x = some .free
  | [], h => by simp at h
  | (n, q) :: r, h => by
    rw [List.map_cons]
    cases e : x == n with
    | true =>
      rw [List.lookup_cons, e] at h
      have hq : q = .free := by simpa using h
      by_cases hc : (q == NameKind.free && env.scope.kind == .function && env.kindOf n == some .cell) = true
      · left; simp only [hc, if_true, List.lookup_cons, e]
      · right
        change List.lookup x ((if (q == NameKind.free && env.scope.kind == .function && env.kindOf n == some .cell) = true then (n, NameKind.cell) else (n, q)) :: _) = some .free
        rw [if_neg hc, List.lookup_cons, e, hq]
    | false =>
      rw [List.lookup_cons, e] at h
      have ih := relabel_free (env := env) (l := r) h
      by_cases hc : (q == NameKind.free && env.scope.kind == .function && env.kindOf n == some .cell) = true
      · simpa only [hc, if_true, List.lookup_cons, e] using ih
      · simpa only [hc, List.lookup_cons, e, if_false, Bool.false_eq_true] using ih
section
variable {X : Cx} {pins : List (Addr × Obj)} {σ : St} {H : Hp} {s : Shared} {N : List Str} {nl : List (Option Nat)} {scope : Scope} {cl : List (Str × Addr)} {fp : List Addr}
theorem block_ctx (I : Inv X pins σ H s) (B : BlockOk X N nl scope cl) (hf : ∀ b ∈ fp, FpOk X pins H b) (hob : ∀ b ∈ fp, b < s.heap.objs.size) {C : Addr} (hC : s.heap.objs.size ≤ C) : (X.block N scope cl C fp s H).Ok := by
  have stk : ∀ b ∈ frs X.stack, b = X.env.locals ∨ b ∈ X.fs := fun b hb => List.mem_cons.mp (I.stkSub b hb)
  refine ⟨I.ok.mod, B.kind, I.ok.glob, I.ok.blt, hC, fun x y c h1 h2 => I.ok.inj x y c (B.sub x c h1) (B.sub y c h2), fun x hx => ?_, fun x c h => (nomatch h), I.ok.hd, I.ok.frames, .inl rfl, fun b hb => ⟨?_, fun x c e => ?_⟩,
    I.bs, Nat.le_trans I.ok.bsz I.sz, fun b o e hb => ?_, fun b hb hm => ?_, I.stack, I.stkFree⟩
  · have hx' : (scope.names.map fun (n, k) => if (k == NameKind.free && X.env.scope.kind == .function && X.env.kindOf n == some .cell) then (n, NameKind.cell) else (n, k)).lookup x = some .cell ∨
        (scope.names.map fun (n, k) => if (k == NameKind.free && X.env.scope.kind == .function && X.env.kindOf n == some .cell) then (n, NameKind.cell) else (n, k)).lookup x = some .free := hx
    rcases hx' with q | q
    · rcases relabel_kind q with z | ⟨_, z⟩
      · exact absurd rfl (B.nocell _ (lookup_mem_kind z))
      · exact B.has x z
    · rcases relabel_kind q with z | ⟨z, _⟩
      · exact B.has x z
      · cases z
  · exact Nat.ne_of_lt (Nat.lt_of_lt_of_le (hob b hb) hC)
  · exact (hf b hb).2.2.2.2.1 x c (B.sub x c e)
  · rcases (hf b hb).2.2.2.1 with z | z
    · exact I.ok.noex b o e z
    · exact absurd (Nat.lt_of_lt_of_le (Heap.lt_size (I.ok.bs b o e).1) z) (Nat.lt_irrefl _)
  · rcases stk b hm with z | z
    · exact (hf b hb).2.1 z
    · exact (hf b hb).2.2.1 z
theorem stOf_get {i : Nat} {v : V} (h : (stOf nl σ)[i]? = some (some v)) : ∃ j, nl[i]? = some (some j) ∧ σ[j]? = some (some v) := by
  unfold stOf at h
  rw [List.getElem?_map] at h
  cases e : nl[i]? with
  | none => rw [e] at h; cases h
  | some o =>
    rw [e] at h
    cases o with
    | none => cases h
    | some j =>
      refine ⟨j, rfl, ?_⟩
      have h' : (σ[j]?).join = some v := by simpa using h
      cases q : σ[j]? with
      | none => rw [q] at h'; cases h'
      | some o' =>
        rw [q] at h'
        have : o' = some v := by simpa using h'
        rw [this]
theorem block_start (I : Inv X pins σ H s) (B : BlockOk X N nl scope cl) (hf : ∀ b ∈ fp, FpOk X pins H b) (hob : ∀ b ∈ fp, b < s.heap.objs.size) {C D : Addr} (hD : D = s.heap.objs.size) (hC : C = s.heap.objs.size + 1) {h1 : Heap} {tk : Nat} {m : Str → Option Value} {n : Nat}
    (hk : ∀ b o, s.heap.get? b = some o → h1.get? b = some o) (hl : h1.get? D = some { cls := .type "list", data := .seq ([] : List Value).toArray n }) (hn : h1.Ns C m) :
    Inv (X.block N scope cl C fp s H) [] (stOf nl σ) (upd H D (.lst [])) { s with heap := h1, toks := tk } := by
  have hDn : H D = none := I.hok.fresh (by rw [hD]; exact Nat.le_refl _)
  have hCD : C ≠ D := by rw [hC, hD]; exact Nat.succ_ne_self _
  have hCn : H C = none := I.hok.fresh (by rw [hC]; exact Nat.le_succ _)
  have cellD : ∀ y c, cl.lookup y = some c → c ≠ D := fun y c e z => by
    obtain ⟨v, q⟩ := I.cell y c (B.sub y c e)
    exact absurd q.lt (by rw [z, hD]; exact Nat.lt_irrefl _)
  refine ⟨block_ctx I B hf hob (by rw [hC]; exact Nat.le_succ _), rfl, I.bare, Un.laid hk (by rw [hD]; exact Nat.le_refl _) hDn, ⟨m, hn, fun i y v e1 e2 _ => ?_⟩, fun y c e => ?_, ?_, fun y c e => ?_, fun p hp => absurd hp (by simp [Cx.block]), ?_, ?_⟩
  · obtain ⟨j, hj, hv⟩ := stOf_get e2
    obtain ⟨x1, x2, x3⟩ := B.seen i j y e1 hj
    obtain ⟨m0, hm0, hl0⟩ := I.loc
    obtain ⟨u, r, l⟩ := hl0 j y v x1 hv (.inr x3)
    refine ⟨u, r, ?_⟩
    rcases l with ⟨hk1, _⟩ | ⟨_, c, hc, z⟩
    · have hk1' : X.env.scope.names.lookup y = some .local := hk1
      rcases x3 with q | q <;> (rw [hk1'] at q; cases q)
    · refine .inr ⟨relabel_free x2, c, ?_, z.keeps hk⟩
      obtain ⟨c', hc'⟩ := B.has y x2
      have q := B.sub y c' hc'
      rw [hc] at q
      cases q
      exact hc'
  · obtain ⟨v, q⟩ := I.cell y c (B.sub y c e)
    exact ⟨v, q.keeps hk⟩
  · show (upd H D (.lst [])) C = none
    rw [upd_ne hCD]
    exact hCn
  · rw [upd_ne (cellD y c e)]
    exact I.freeC y c (B.sub y c e)
  · exact I.hok.laid hk (by rw [hD]; exact Nat.le_refl _) ⟨Nat.zero_le _, [], n, .nil, hl⟩
  · show (stOf nl σ).length = N.length
    unfold stOf
    rw [List.length_map, B.len]
theorem block_end {C : Addr} {σ' : St} {H' : Hp} {s' : Shared} {h2 : Heap} (I : Inv X pins σ H s) (hf : ∀ b ∈ fp, FpOk X pins H b) (hC : s.heap.objs.size ≤ C) (J : Inv (X.block N scope cl C fp s H) [] σ' H' s') (hk : ∀ b o, b ≠ C → s'.heap.get? b = some o → h2.get? b = some o) :
    Inv X pins σ H' { s' with heap := h2 } := by
  obtain ⟨hp, g, d, t, os⟩ := s'
  have ho : os = s.os := J.os
  subst ho
  have hCn : H' C = none := J.free
  have u := J.base
  have ne : ∀ b o, s.heap.get? b = some o → b ≠ C := fun b o e => Nat.ne_of_lt (Nat.lt_of_lt_of_le (Heap.lt_size e) hC)
  have u2 : Un (frs X.stack) fp H H' s.heap h2 :=
    ⟨fun b o e n hb hx => hk b o (ne b o e) (u.keep b o e n hb hx), fun b o e n hb hx => (let ⟨sl, q⟩ := u.slot b o e n hb hx; ⟨sl, hk b _ (ne b o e) q⟩), u.free, fun b o e hx => (let ⟨o', q⟩ := u.there b o e hx; ⟨o', hk b o' (ne b o e) q⟩), u.tups, u.frzs, u.tbls⟩
  have hok2 : HOk X.prog X.w H' h2 := fun b o e => (J.hok b o e).stay (fun c v hc q => hk c v (fun z => by
    subst z
    rcases hc with z | z
    · rw [← z, hCn] at e; cases e
    · rw [hCn] at z; cases z) q) (fun _ q => q) fun _ _ q => q
  have z := I.call (h' := h2) (g' := g) (d' := d) (t' := t) (ch := fp) u2 hok2 J.bare fun b hb => (let ⟨_, f1, _, f3, f4, f5⟩ := hf b hb; ⟨f3, f1, f4, f5⟩)
  exact z
end
def PQ (X : Cx) (tst : Env → Sem Bool) (t : TT) : Prop :=
  ∀ (pins : List (Addr × Obj)) (s : Shared) (σ : St) (H : Hp) (Q : Bool → Hp → Prop), Inv X pins σ H s → t σ H Q → wpAny (model X.prog X.w) X.A (tst X.env) (TP X pins σ Q) X.xe s
def tTrue : TT := fun _ H Q => Q true H
theorem pq_none {X : Cx} : PQ X (fun _ => pure true) tTrue := fun _ _ _ H _ I h => wpAny_pure ⟨H, I, h⟩
theorem pq_one {X : Cx} {c : Expr} {t : TT} (h : PT X c t) : PQ X (fun env => isTrue c env (eval c env)) t := h
def CompW (J : It) (g : TG) (tc : TT) (te : TE) (D : Addr) (Q : VK) (σ0 : St) (H0 : Hp) : Prop := ∃ W : Nat → Nat → St → Hp → Prop, (∃ m, W 0 m σ0 H0) ∧ ∀ i m σ' H', W i m σ' H' →
  (J.stop i H' ∧ Q (.ref D) H') ∨ (J.go i H' ∧ ∃ N : St → Hp → Prop, (∀ σ2 H2, N σ2 H2 → ∃ m', m' < m ∧ W (i + 1) m' σ2 H2) ∧ ∀ x H2, J.yld i H' x H2 → g x σ' H2 fun σ3 H3 => tc σ3 H3 fun b H4 =>
    if b = true then te σ3 H4 fun v H5 => ∃ xs, H5 D = some (.lst xs) ∧ xs.length < sizeLine ∧ N σ3 (upd H5 D (.lst (xs ++ [v]))) else N σ3 H4)
def tComp (wi : TI) (nl : List (Option Nat)) (g : TG) (tc : TT) (te : TE) : TE := fun σ H Q => wi σ H fun J H1 => ∀ D, H1 D = none → CompW J g tc te D Q (stOf nl σ) (upd H1 D (.lst []))
theorem comp_core {X : Cx} {N : List Str} {nl : List (Option Nat)} {scope : Scope} {cl : List (Str × Addr)} {elt tg iter : Expr} {ifs : List Expr} {pos : Pos} {wi : TI} {g : TG} {tst : Env → Sem Bool} {tc : TT} {te : TE} (hcalm : X.calm = true)
    (B : BlockOk X N nl scope cl) (hi : PI X tg iter wi) (hg : ∀ C fp s H, PG (X.block N scope cl C fp s H) tg g) (ht : ∀ C fp s H, PQ (X.block N scope cl C fp s H) tst tc) (he : ∀ C fp s H, PE (X.block N scope cl C fp s H) elt te)
    (hturn : ∀ (it acc : Value) (env : Env), compTurn (.ListComp elt [⟨tg, iter, ifs, 0⟩] scope pos) 0 it acc env = (do
      standAt iter.pos
      match ← pyNext it with
      | none => pure (.done .next)
      | some v =>
        letOwnedTupleGo tg it v
        assign tg env v
        let ok ← tst env
        if ok then (do
          (do let x ← eval elt env; let _ ← call (.builtin "list.append") [acc, x]; pure ())
          again (.compLoop (.ListComp elt [⟨tg, iter, ifs, 0⟩] scope pos) 0 it acc env))
        else again (.compLoop (.ListComp elt [⟨tg, iter, ifs, 0⟩] scope pos) 0 it acc env)))
    (hs : ∀ x, foldedSetIterable iter X.env x = pure x) {pins : List (Addr × Obj)} {s : Shared} {σ : St} {H : Hp} {Q : VK} (I : Inv X pins σ H s) (h : tComp wi nl g tc te σ H Q) {use : Option (Value → Sem Unit)} {Q' : Value → Shared → Prop}
    (hpost : ∀ (D C : Addr) (s' s2 : Shared) (fp : List Addr) (σ' : St) (H' H2 : Hp), Inv X pins σ H2 s2 → (∀ b ∈ fp, FpOk X pins H2 b) → s2.heap.objs.size ≤ C → Inv (X.block N scope cl C fp s2 H2) [] σ' H' s' → Q (.ref D) H' →
      compPost (model X.prog X.w) X.A X.xe use Q' (.ref D) C (.ok .next) s')
    (hpos : Pos) :
    wpAny (model X.prog X.w) X.A (comprehension (.ListComp elt [⟨tg, iter, ifs, 0⟩] scope pos) scope X.env hpos (newList []) false (eval iter X.env) use) Q' X.xe s := by
  refine wpAny_comprehension_free (use := use) rfl hs B.clos B.kind B.names ?_
  refine thn (hi pins s σ H _ I h) fun v s1 h1 => thn h1 fun itv s2 h2 => ?_
  obtain ⟨it, fp, tn, J, H2, e, I2, T, st2, f2, q⟩ := h2
  subst e
  have hob : ∀ b ∈ fp, b < s2.heap.objs.size := fun b hb => (let ⟨o, e, _⟩ := T.obj 0 _ st2 b hb; Heap.lt_size e)
  refine wpAny_newObj_type (wpAny_newFunctionEnv B.nocell (by intro y hy; simp at hy) (fun h1 hns hsb => ?_) B.kind)
  dsimp only at hns hsb ⊢
  generalize hD : s2.heap.objs.size = D at hns hsb ⊢
  have hC : (s2.heap.push { cls := .type "list", dict := none, data := .seq ([] : List Value).toArray }).objs.size = s2.heap.objs.size + 1 := by rw [Heap.size_push]
  generalize hC' : (s2.heap.push { cls := .type "list", dict := none, data := .seq ([] : List Value).toArray }).objs.size = C at hns hsb hC ⊢
  have hDC : D ≠ C := by rw [hC, ← hD]; exact (Nat.succ_ne_self _).symm
  have lt_ne : ∀ b, b < s2.heap.objs.size → b ≠ C := fun b hb => by rw [hC]; exact Nat.ne_of_lt (Nat.lt_succ_of_lt hb)
  have old : ∀ b o, s2.heap.get? b = some o → h1.get? b = some o := fun b o e =>
    hsb.extBut b o (lt_ne b (Heap.lt_size e)) (Heap.get?_push_of_some _ (Heap.get?_push_of_some _ e))
  have hl : h1.get? D = some { cls := .type "list", data := .seq ([] : List Value).toArray 0 } := by
    refine hsb.extBut D _ hDC (Heap.get?_push_of_some _ ?_)
    rw [← hD]
    exact Heap.get?_push_size _ rfl
  have fresh : H2 D = none := I2.hok.fresh (by rw [hD]; exact Nat.le_refl _)
  obtain ⟨W, ⟨m0, w0⟩, turn⟩ := q D fresh
  have hCle : s2.heap.objs.size ≤ C := by rw [hC]; exact Nat.le_succ _
  have stat : ∀ {H' : Hp}, (∀ b ∈ fp, H' b = none) → ∀ b ∈ fp, FpOk (X.block N scope cl C fp s2 H2) [] H' b := fun hn b hb => by
    obtain ⟨_, f1, f2', f3, f4, f5⟩ := f2 b hb
    refine ⟨hn b hb, lt_ne b (hob b hb), fun z => ?_, .inl hb, fun x c e => f4 x c (B.sub x c e), fun p hp => absurd hp (by simp [Cx.block])⟩
    rcases List.mem_cons.mp (I2.stkSub b z) with z | z
    · exact f1 z
    · exact f2' z
  have main : ∀ s4 : Shared, (∃ tk, s4 = { s2 with heap := h1, toks := tk }) →
      codeAny (model X.prog X.w) X.A (.compLoop (.ListComp elt [⟨tg, iter, ifs, 0⟩] scope pos) 0 (.ref it) (.ref D) (X.block N scope cl C fp s2 H2).env) (compPost (model X.prog X.w) X.A X.xe use Q' (.ref D) C) s4 := by
    rintro s4 ⟨tk, rfl⟩
    have I3 : Inv (X.block N scope cl C fp s2 H2) [] (stOf nl σ) (upd H2 D (.lst [])) { s2 with heap := h1, toks := tk } := block_start I2 B f2 hob hD.symm hC old hl hns
    refine codeAny_loop rfl (fun n s' => ∃ i σ' H', Inv (X.block N scope cl C fp s2 H2) [] σ' H' s' ∧ tn i s'.heap ∧ (∀ b ∈ fp, H' b = none) ∧ W i n σ' H') (fun n s5 hI => ?_) m0
      ⟨0, stOf nl σ, _, I3, T.keep 0 _ _ st2 fun b hb o e => old b o e, fun b hb => by rw [upd_ne (fun z => absurd (hob b hb) (by rw [z, ← hD]; exact Nat.lt_irrefl _))]; exact (f2 b hb).1, w0⟩
    show wpAny _ X.A ((compTurn (.ListComp elt [⟨tg, iter, ifs, 0⟩] scope pos) 0 (.ref it) (.ref D) (X.block N scope cl C fp s2 H2).env).onRaise (fun x => do noteFrame x (X.block N scope cl C fp s2 H2).env; theTreesLotGoes x)) _ _ s5
    refine wpAny_noted ?_
    rw [hturn]
    obtain ⟨i, σ5, H5, I5, st5, fr5, w5⟩ := hI
    have quiet : ∀ {α : Type} {t : Sem α} {R : α → Shared → Prop} {E' : Value → Shared → Prop} {s' : Shared}, wpAny (model X.prog X.w) X.A t R (fun _ _ => False) s' → wpAny (model X.prog X.w) X.A t R E' s' := fun hw => wpAny_mono hw (fun _ _ z => z) fun _ _ z => z.elim
    refine wpAny_bind (wpAny_standAt ?_)
    rcases turn i n σ5 H5 w5 with ⟨stop, qn⟩ | ⟨go, Nx, hN, step⟩
    · refine wpAny_bind (quiet (thn (T.done (X.block N scope cl C fp s2 H2) rfl rfl rfl hcalm i [] s5 σ5 H5 (fun _ _ => False) I5 (stat fr5) st5 stop) fun r s6 ⟨hr, I6⟩ => ?_))
      subst hr
      exact quiet (wpAny_pure (hpost D C s6 s2 fp σ5 H5 H2 I2 f2 hCle I6 qn))
    · refine wpAny_bind (quiet (thn (T.item (X.block N scope cl C fp s2 H2) rfl rfl rfl hcalm i [] s5 σ5 H5 (fun _ _ => False) I5 (stat fr5) st5 go) fun r s6 ⟨u, hr, h6⟩ => ?_))
      subst hr
      refine wpAny_bind (quiet (thn h6 fun _ s7 ⟨x, H7, I7, r7, y7, st7, fr7⟩ => ?_))
      have I7' := I7.pinned (stat fr7) (T.obj _ _ st7)
      have again' : ∀ {σ8 : St} {H8 : Hp} {s8 : Shared}, Inv (X.block N scope cl C fp s2 H2) ([] ++ pinsAt fp s7.heap) σ8 H8 s8 → Nx σ8 H8 → ∃ m, m < n ∧ ∃ i σ' H', Inv (X.block N scope cl C fp s2 H2) [] σ' H' s8 ∧ tn i s8.heap ∧ (∀ b ∈ fp, H' b = none) ∧ W i m σ' H' := fun {σ8 H8 s8} I8 n8 => by
        obtain ⟨m', hm, w8⟩ := hN σ8 H8 n8
        refine ⟨m', hm, i + 1, σ8, H8, I8.unpinned, T.keep _ _ _ st7 fun b hb o e => (I8.pin (b, o) (List.mem_append_right _ (List.mem_append_right _ (mem_pinsAt hb e)))).1, fun b hb => ?_, w8⟩
        obtain ⟨o, e, _⟩ := T.obj _ _ st7 b hb
        exact (I8.pin (b, o) (List.mem_append_right _ (List.mem_append_right _ (mem_pinsAt hb e)))).2.1
      refine wpAny_bind (quiet (thn (hg C fp s2 H2 _ s7 σ5 H7 x u _ I7' r7 (step x H7 y7)) fun _ s8 ⟨σ8, H8, I8, q8⟩ => ?_))
      refine wpAny_bind (quiet (thn (ht C fp s2 H2 _ s8 σ8 H8 _ I8 q8) fun b s9 ⟨H9, I9, q9⟩ => ?_))
      cases b with
      | false => exact quiet (wpAny_pure ⟨rfl, again' I9 q9⟩)
      | true =>
        refine wpAny_bind (wpAny_bind (quiet (thn (he C fp s2 H2 _ s9 σ8 H9 _ I9 q9) fun vy s10 hz_ => ?_)))
        obtain ⟨y, H10, I10, r10, xs, e10, z10, n10⟩ := hz_
        refine wpAny_bind (quiet (thn (mt_append _ s10 σ8 H10 (.ref D) [y] (.ref D) [vy] (fun _ H' => Nx σ8 H') I10 rfl (.cons r10 .nil) ⟨D, xs, y, rfl, rfl, e10, z10, n10⟩) fun _ s11 ⟨_, H11, I11, _, q11⟩ => ?_))
        exact wpAny_pure (wpAny_pure ⟨rfl, again' I11 q11⟩)
  exact codeAny_compStart_list (main _ ⟨_, rfl⟩) (T.self _ 0 _ _ _ (T.keep 0 _ _ st2 fun b hb o e => old b o e) (main _ ⟨_, rfl⟩))
section
variable {X : Cx} {N : List Str} {nl : List (Option Nat)} {scope : Scope} {cl : List (Str × Addr)} {elt tg iter : Expr} {pos : Pos} {wi : TI} {g : TG} {tc : TT} {te : TE}
theorem comp_if0 (it acc : Value) (env : Env) : compTurn (.ListComp elt [⟨tg, iter, [], 0⟩] scope pos) 0 it acc env = (do
      standAt iter.pos
      match ← pyNext it with
      | none => pure (.done .next)
      | some v =>
        letOwnedTupleGo tg it v
        assign tg env v
        let ok ← (fun _ => pure true : Env → Sem Bool) env
        if ok then (do
          (do let x ← eval elt env; let _ ← call (.builtin "list.append") [acc, x]; pure ())
          again (.compLoop (.ListComp elt [⟨tg, iter, [], 0⟩] scope pos) 0 it acc env))
        else again (.compLoop (.ListComp elt [⟨tg, iter, [], 0⟩] scope pos) 0 it acc env)) := by rfl
theorem comp_if1 {c : Expr} (it acc : Value) (env : Env) : compTurn (.ListComp elt [⟨tg, iter, [c], 0⟩] scope pos) 0 it acc env = (do
      standAt iter.pos
      match ← pyNext it with
      | none => pure (.done .next)
      | some v =>
        letOwnedTupleGo tg it v
        assign tg env v
        let ok ← (fun env => isTrue c env (eval c env) : Env → Sem Bool) env
        if ok then (do
          (do let x ← eval elt env; let _ ← call (.builtin "list.append") [acc, x]; pure ())
          again (.compLoop (.ListComp elt [⟨tg, iter, [c], 0⟩] scope pos) 0 it acc env))
        else again (.compLoop (.ListComp elt [⟨tg, iter, [c], 0⟩] scope pos) 0 it acc env)) := by
  unfold compTurn
  simp
  rfl
theorem comp_done {pins : List (Addr × Obj)} {σ : St} {Q : VK} (D C : Addr) (s' s2 : Shared) (fp : List Addr) (σ' : St) (H' H2 : Hp) (I2 : Inv X pins σ H2 s2) (f2 : ∀ b ∈ fp, FpOk X pins H2 b) (hC : s2.heap.objs.size ≤ C) (J : Inv (X.block N scope cl C fp s2 H2) [] σ' H' s') (q : Q (.ref D) H') :
    compPost (model X.prog X.w) X.A X.xe none (EP X pins σ Q) (.ref D) C (.ok .next) s' := by
  obtain ⟨m, hn, _⟩ := J.loc
  exact ⟨m, hn, fun h' sb => ⟨.ref D, H', block_end I2 f2 hC J fun b o hb e => sb.extBut b o hb e, rfl, q⟩⟩
theorem pe_comp0 (hcalm : X.calm = true) (B : BlockOk X N nl scope cl) (hi : PI X tg iter wi) (hg : ∀ C fp s H, PG (X.block N scope cl C fp s H) tg g) (he : ∀ C fp s H, PE (X.block N scope cl C fp s H) elt te) (hs : ∀ x, foldedSetIterable iter X.env x = pure x := by intro _; rfl) :
    PE X (.ListComp elt [⟨tg, iter, [], 0⟩] scope pos) (tComp wi nl g tTrue te) := by
  intro pins s σ H Q I h
  rw [eval_ListComp]
  exact comp_core (tst := fun _ => pure true) hcalm B hi hg (fun _ _ _ _ => pq_none) he comp_if0 hs I h comp_done _
theorem pe_comp1 {c : Expr} (hcalm : X.calm = true) (B : BlockOk X N nl scope cl) (hi : PI X tg iter wi) (hg : ∀ C fp s H, PG (X.block N scope cl C fp s H) tg g) (hc : ∀ C fp s H, PT (X.block N scope cl C fp s H) c tc) (he : ∀ C fp s H, PE (X.block N scope cl C fp s H) elt te)
    (hs : ∀ x, foldedSetIterable iter X.env x = pure x := by intro _; rfl) : PE X (.ListComp elt [⟨tg, iter, [c], 0⟩] scope pos) (tComp wi nl g tc te) := by
  intro pins s σ H Q I h
  rw [eval_ListComp]
  exact comp_core (tst := fun env => isTrue c env (eval c env)) hcalm B hi hg (fun C fp s H => pq_one (hc C fp s H)) he comp_if1 hs I h comp_done _
end
end L2
end

section
set_option Elab.async false
set_option linter.all false
set_option maxRecDepth 100000
set_option maxHeartbeats 4000000
namespace L2
open PySem PySem.Spec PyProof.Rows
def Its (x : Str) : It := ⟨fun i _ => i < x.cps.size, fun i H v H' => H' = H ∧ ∃ c, x.cps[i]? = some c ∧ v = .str ⟨#[c]⟩, fun i _ => i = x.cps.size⟩
section
variable {X : Cx} {tg : Expr}
end
section
variable {X : Cx}
end
end L2
namespace L2
open PySem PySem.Spec PyProof.Rows
end L2
end

section
set_option Elab.async false
set_option linter.all false
set_option maxRecDepth 100000
set_option maxHeartbeats 4000000
namespace L2
open PySem PySem.Spec PyProof.Rows
theorem BlockOk.plain {X : Cx} {N : List Str} {scope : Scope} (kind : scope.kind = .function) (nocell : ∀ y ∈ scope.names, y.2 ≠ .cell) (names : ∀ y ∈ scope.names, y.2 = .local → scope.names.lookup y.1 = some .local) (nofree : ∀ y ∈ scope.names, y.2 ≠ .free) :
    BlockOk X N (N.map fun _ => none) scope [] where
  kind := kind
  nocell := nocell
  names := names
  clos := closureFor_none nofree
  sub := fun y c h => by simp at h
  has := fun y h => absurd rfl (nofree _ (lookup_mem_kind h))
  len := by simp
  seen := fun i j y _ h => by
    rw [List.getElem?_map] at h
    cases q : N[i]? with
    | none => rw [q] at h; cases h
    | some z => rw [q] at h; cases h
theorem comp_pure {J : It} {g : TG} {tc : TT} {te : TE} {Q : VK} {H : Hp} {D : Addr} {σ0 : St} (ys : List V) (p : V → Bool) (f : V → V) (Pσ : St → Prop) (Rσ : V → St → Prop) (h0 : Pσ σ0)
    (hgo : ∀ i l, i < ys.length → J.go i (upd H D (.lst l))) (hstop : ∀ l, J.stop ys.length (upd H D (.lst l)))
    (hy : ∀ i l x H', i < ys.length → J.yld i (upd H D (.lst l)) x H' → H' = upd H D (.lst l) ∧ ys[i]? = some x)
    (hg : ∀ x ∈ ys, ∀ σ' H' K, Pσ σ' → (∀ σ3, Pσ σ3 → Rσ x σ3 → K σ3 H') → g x σ' H' K)
    (hc : ∀ x ∈ ys, ∀ σ' l K, Rσ x σ' → K (p x) (upd H D (.lst l)) → tc σ' (upd H D (.lst l)) K)
    (he : ∀ x ∈ ys, p x = true → ∀ σ' l K, Rσ x σ' → K (f x) (upd H D (.lst l)) → te σ' (upd H D (.lst l)) K)
    (hz : ys.length ≤ sizeLine) (hQ : Q (.ref D) (upd H D (.lst ((ys.filter p).map f)))) :
    CompW J g tc te D Q σ0 (upd H D (.lst [])) := by
  refine ⟨fun i m σ' H' => m = ys.length - i ∧ i ≤ ys.length ∧ Pσ σ' ∧ H' = upd H D (.lst (((ys.take i).filter p).map f)), ⟨ys.length, by simp, Nat.zero_le _, h0, by simp⟩, ?_⟩
  rintro i m σ' H' ⟨rfl, hi, hP, rfl⟩
  by_cases hlt : i < ys.length
  · refine .inr ⟨hgo i _ hlt, fun σ2 H2 => Pσ σ2 ∧ H2 = upd H D (.lst (((ys.take (i + 1)).filter p).map f)), fun σ2 H2 ⟨a, b⟩ => ⟨ys.length - (i + 1), by omega, rfl, hlt, a, b⟩, fun x H2 hx => ?_⟩
    obtain ⟨eH, hgx⟩ := hy i _ x H2 hlt hx
    subst eH
    have hm : x ∈ ys := List.mem_of_getElem? hgx
    have e1 : ys.take (i + 1) = ys.take i ++ [x] := by rw [List.take_add_one, hgx]; rfl
    refine hg x hm σ' _ _ hP fun σ3 hP3 hR => hc x hm σ3 _ _ hR ?_
    cases hp : p x with
    | true =>
      refine iteT (he x hm hp σ3 _ _ hR ⟨_, upd_same, ?_, hP3, ?_⟩)
      · rw [List.length_map]
        have a1 := List.length_filter_le p (ys.take i)
        have a2 : (ys.take i).length = i := by rw [List.length_take]; omega
        omega
      · rw [upd_upd, e1, List.filter_append, List.map_append]
        simp [hp]
    | false =>
      refine iteF ⟨hP3, ?_⟩
      rw [e1, List.filter_append, List.map_append]
      simp [hp]
  · have e : i = ys.length := by omega
    subst e
    refine .inl ⟨hstop _, ?_⟩
    rw [List.take_length]
    exact hQ
end L2
end

section
set_option Elab.async false
set_option linter.all false
set_option maxRecDepth 100000
set_option maxHeartbeats 1000000
namespace L2
open PySem PySem.Spec PyProof.Rows
section
variable {X : Cx} {N : List Str} {nl : List (Option Nat)} {scope : Scope} {cl : List (Str × Addr)} {elt tg iter : Expr} {pos pos' spos : Pos} {wi : TI} {g : TG} {tc : TT} {te : TE} {i : Nat} {x : Str}
theorem comp_used {pins : List (Addr × Obj)} {σ : St} {Dd : Ends} (hN : X.N.Nodup) (hi : X.N[i]? = some x) (hk : X.env.scope.names.lookup x = some .local) (D C : Addr) (s' s2 : Shared) (fp : List Addr) (σ' : St) (H' H2 : Hp)
    (I2 : Inv X pins σ H2 s2) (f2 : ∀ b ∈ fp, FpOk X pins H2 b) (hC : s2.heap.objs.size ≤ C) (J : Inv (X.block N scope cl C fp s2 H2) [] σ' H' s') (q : Dd.nx (σ.set i (some (.ref D))) H') :
    compPost (model X.prog X.w) X.A X.xe (some (assign (.Name x pos') X.env)) (fun _ s3 => SP X pins Dd .next s3) (.ref D) C (.ok .next) s' := by
  have I3 : Inv X pins σ H' s' := block_end (h2 := s'.heap) I2 f2 hC J fun b o _ e => e
  have ne : ∀ b o, s2.heap.get? b = some o → b ≠ C := fun b o e => Nat.ne_of_lt (Nat.lt_of_lt_of_le (Heap.lt_size e) hC)
  have neL : C ≠ X.env.locals := fun z => by
    obtain ⟨m, ⟨o, _, _, ho, _⟩, _⟩ := I2.loc
    exact ne _ o ho z.symm
  obtain ⟨m, hn, _⟩ := J.loc
  show wpAny _ _ (assign (.Name x pos') X.env (.ref D)) _ _ _
  have e : assign (.Name x pos') X.env (.ref D) = (do standAt pos'; bindName X.env x (.ref D)) := by rfl
  rw [e]
  refine wpAny_bind (wpAny_standAt (wpAny_bindName ?_))
  refine store_ok2 (v := .ref D) I3 hN hi (.inl hk) rfl (fun s4 I4 ⟨a, sb, ha⟩ => ?_) (.inr hk)
  have hCa : C ≠ a := by
    rcases ha with z | z
    · rw [z]; exact neL
    · obtain ⟨v, o, ho, _⟩ := I2.cell x a z
      exact fun z2 => ne a o ho z2.symm
  refine ⟨m, hn.sameBut sb hCa, fun h' sb' => ⟨_, H', ?_, q⟩⟩
  refine I4.turned (t' := s4.toks) (it := C) (fun b o hb e => sb'.extBut b o hb e) J.free neL (.inr (Nat.le_trans I2.sz hC)) (fun y c e z => ?_) fun p hp z => ?_
  · obtain ⟨v, o, ho, _⟩ := I2.cell y c e
    exact ne c o ho z
  · exact ne p.1 _ (I2.pin p hp).1 z
def tSetC (i : Nat) (t : TE) : TS := fun D σ H => t σ H fun v H' => D.nx (σ.set i (some v)) H'
theorem ps_setcomp0 (hcalm : X.calm = true) (hN : X.N.Nodup) (hi : X.N[i]? = some x) (hk : X.env.scope.names.lookup x = some .local) (B : BlockOk X N nl scope cl) (hit : PI X tg iter wi) (hg : ∀ C fp s H, PG (X.block N scope cl C fp s H) tg g) (he : ∀ C fp s H, PE (X.block N scope cl C fp s H) elt te)
    (hs : ∀ x, foldedSetIterable iter X.env x = pure x := by intro _; rfl) (hsw : swapsWith (.ListComp elt [⟨tg, iter, [], 0⟩] scope pos) (some (.Name x pos')) spos.line X.env = pure true := by rfl) :
    PS X (.Assign [.Name x pos'] (.ListComp elt [⟨tg, iter, [], 0⟩] scope pos) spos) (tSetC i (tComp wi nl g tTrue te)) := by
  intro pins s σ H D I h
  rw [exec_Assign_Name_used _ _ _ _ hsw]
  refine wpAny_bind (wpAny_standAt (wpAny_bind ?_))
  show wpAny _ _ (evalThenUse (.ListComp elt [⟨tg, iter, [], 0⟩] scope pos) X.env _) _ _ _
  unfold evalThenUse
  refine wpAny_bind ?_
  exact thn (comp_core (Q := fun v H' => D.nx (σ.set i (some v)) H') (tst := fun _ => pure true) (Q' := fun _ s3 => SP X pins D .next s3) hcalm B hit hg (fun _ _ _ _ => pq_none) he comp_if0 hs I h (fun D' C s' s2 fp σ' H' H2 I2 f2 hC J q => comp_used hN hi hk D' C s' s2 fp σ' H' H2 I2 f2 hC J q) _) fun _ s3 z => wpAny_pure (wpAny_pure z)
theorem ps_setcomp1 {c : Expr} (hcalm : X.calm = true) (hN : X.N.Nodup) (hi : X.N[i]? = some x) (hk : X.env.scope.names.lookup x = some .local) (B : BlockOk X N nl scope cl) (hit : PI X tg iter wi) (hg : ∀ C fp s H, PG (X.block N scope cl C fp s H) tg g) (hc : ∀ C fp s H, PT (X.block N scope cl C fp s H) c tc) (he : ∀ C fp s H, PE (X.block N scope cl C fp s H) elt te)
    (hs : ∀ x, foldedSetIterable iter X.env x = pure x := by intro _; rfl) (hsw : swapsWith (.ListComp elt [⟨tg, iter, [c], 0⟩] scope pos) (some (.Name x pos')) spos.line X.env = pure true := by rfl) :
    PS X (.Assign [.Name x pos'] (.ListComp elt [⟨tg, iter, [c], 0⟩] scope pos) spos) (tSetC i (tComp wi nl g tc te)) := by
  intro pins s σ H D I h
  rw [exec_Assign_Name_used _ _ _ _ hsw]
  refine wpAny_bind (wpAny_standAt (wpAny_bind ?_))
  show wpAny _ _ (evalThenUse (.ListComp elt [⟨tg, iter, [c], 0⟩] scope pos) X.env _) _ _ _
  unfold evalThenUse
  refine wpAny_bind ?_
  exact thn (comp_core (Q := fun v H' => D.nx (σ.set i (some v)) H') (tst := fun env => isTrue c env (eval c env)) (Q' := fun _ s3 => SP X pins D .next s3) hcalm B hit hg (fun C fp s H => pq_one (hc C fp s H)) he comp_if1 hs I h (fun D' C s' s2 fp σ' H' H2 I2 f2 hC J q => comp_used hN hi hk D' C s' s2 fp σ' H' H2 I2 f2 hC J q) _) fun _ s3 z => wpAny_pure (wpAny_pure z)
end
end L2
end

section
set_option Elab.async false
set_option linter.all false
set_option maxRecDepth 100000
set_option maxHeartbeats 4000000
namespace L2
open PySem PySem.Spec PyProof.Rows
theorem BlockOk.of {X : Cx} {N : List Str} {nl : List (Option Nat)} {scope : Scope} {cl : List (Str × Addr)} (kind : scope.kind = .function) (nocell : ∀ y ∈ scope.names, y.2 ≠ .cell) (names : ∀ y ∈ scope.names, y.2 = .local → scope.names.lookup y.1 = some .local)
    (clos : closureFor scope X.env = pure cl) (sub : ∀ p ∈ cl, X.env.cells.lookup p.1 = some p.2) {nm : List Str} (hnm : cl.map (·.1) = nm) (has : ∀ y ∈ scope.names, y.2 = .free → y.1 ∈ nm) (len : nl.length = N.length)
    (seen : ∀ i < nl.length, ∀ j, nl[i]? = some (some j) → ∃ y, N[i]? = some y ∧ X.N[j]? = some y ∧ scope.names.lookup y = some .free ∧ (X.env.scope.names.lookup y = some .cell ∨ X.env.scope.names.lookup y = some .free)) : BlockOk X N nl scope cl where
  kind := kind
  nocell := nocell
  names := names
  clos := clos
  sub := fun y c h => sub (y, c) (PySem.mem_of_lookup h)
  has := fun y h => by
    have hm := has _ (lookup_mem_kind h) rfl
    rw [← hnm] at hm
    cases q : cl.lookup y with
    | some c => exact ⟨c, rfl⟩
    | none =>
      obtain ⟨p, hp, e⟩ := List.mem_map.mp hm
      have := List.lookup_eq_none_iff.mp q p hp
      simp [e] at this
  len := len
  seen := fun i j y h1 h2 => by
    obtain ⟨z, a, b, c, d⟩ := seen i (List.getElem?_eq_some_iff.mp h2).1 j h2
    rw [h1] at a
    cases a
    exact ⟨b, c, d⟩
theorem sub1 {env : Env} {x : Str} {a : Addr} (h : env.cells.lookup x = some a) : ∀ p ∈ [(x, a)], env.cells.lookup p.1 = some p.2 := fun p hp => by
  rcases List.mem_cons.mp hp with e | hp
  · subst e; exact h
  · cases hp
theorem sub2 {env : Env} {x y : Str} {a b : Addr} (h : env.cells.lookup x = some a) (h' : env.cells.lookup y = some b) : ∀ p ∈ [(x, a), (y, b)], env.cells.lookup p.1 = some p.2 := fun p hp => by
  rcases List.mem_cons.mp hp with e | hp
  · subst e; exact h
  · exact sub1 h' p hp
end L2
end

section
set_option Elab.async false
set_option linter.all false
set_option maxRecDepth 100000
set_option maxHeartbeats 1000000
namespace L2
open PySem PySem.Spec PyProof.Rows PySem.SeqAt
def rReprD (K : PySem.W.Frag) : List V → Hp → VK → Prop := fun xs H Q => ∃ a d, xs = [.ref a] ∧ RdD K H (.ref a) d ∧ d.showable = true ∧ d.hasDict = false ∧ d.depth ≤ 60 ∧ d.shown.length ≤ sizeLine ∧ Q (.str d.shown) H
theorem call_reprD {X : Cx} (hg : X.A.guards = some []) (hu : X.A.units + 64 < cLine) : CallR X (.builtin "repr") (rReprD X.K) := by
  intro pins s σ H xs us Q I rs h
  obtain ⟨a, d, rfl, hr, hs, hd, hz, hl, q⟩ := h
  obtain ⟨u, rfl, ru⟩ := rs.one
  obtain rfl : u = Value.ref a := ru
  obtain ⟨as, ra⟩ := RdD.reads I hr rfl
  exact repr_of_reads' ra hs (fun z => by rw [hd] at z; cases z) hg (by omega) (fun _ _ e => e) (fun h' u tk k => ⟨.str d.shown, H, I.kept k, ⟨_, rfl⟩, q⟩) hl
end L2
end

section
set_option Elab.async false
set_option linter.all false
set_option maxRecDepth 100000
set_option maxHeartbeats 1000000
namespace L2
open PySem PySem.Spec PyProof.Rows PySem.SeqAt
def noStr : V → Prop
  | .str _ => False
  | _ => True
def rReprA (K : PySem.W.Frag) : List V → Hp → VK → Prop := fun xs H Q => ∃ x d, xs = [x] ∧ noStr x ∧ RdD K H x d ∧ d.showable = true ∧ d.hasDict = false ∧ d.depth ≤ 60 ∧ d.shown.length ≤ sizeLine ∧ Q (.str d.shown) H
theorem call_reprA {X : Cx} (hg : X.A.guards = some []) (hu : X.A.units + 64 < cLine) : CallR X (.builtin "repr") (rReprA X.K) := by
  intro pins s σ H xs us Q I rs h
  obtain ⟨x, d, rfl, hn, hr, hs, hd, hz, hl, q⟩ := h
  obtain ⟨u, rfl, ru⟩ := rs.one
  cases hr with
  | non =>
    obtain rfl : u = Value.none := ru
    exact PySem.P.repr_of_none ⟨.str (PyData.shown .none), H, I.tok _, ⟨_, rfl⟩, q⟩
  | bl b =>
    obtain rfl : u = Value.bool b := ru
    exact PySem.P.repr_of_bool ⟨.str (PyData.shown (.bool b)), H, I.tok _, ⟨_, by cases b <;> rfl⟩, q⟩
  | int i =>
    obtain ⟨t, rfl⟩ := (show ∃ t, u = Value.int i t from ru)
    rw [PyData.showable] at hs
    exact PySem.P.repr_of_int (of_decide_eq_true hs) ⟨.str (PyData.shown (.int i)), H, I.tok _, ⟨_, rfl⟩, q⟩
  | str z => exact hn.elim
  | lst a b =>
    obtain ⟨as, ra⟩ := RdD.reads I (.lst a b) ru
    obtain rfl := (show u = Value.ref _ from ru)
    exact repr_of_reads' ra hs (fun z => by rw [hd] at z; cases z) hg (by omega) (fun _ _ e => e) (fun h' u tk k => ⟨.str _, H, I.kept k, ⟨_, rfl⟩, q⟩) hl
  | tup a b =>
    obtain ⟨as, ra⟩ := RdD.reads I (.tup a b) ru
    obtain rfl := (show u = Value.ref _ from ru)
    exact repr_of_reads' ra hs (fun z => by rw [hd] at z; cases z) hg (by omega) (fun _ _ e => e) (fun h' u tk k => ⟨.str _, H, I.kept k, ⟨_, rfl⟩, q⟩) hl
end L2
end

section
set_option Elab.async false
set_option linter.all false
set_option maxRecDepth 100000
set_option maxHeartbeats 1000000
namespace L2
open PySem PySem.Spec PyProof.Rows PySem.SeqAt
theorem tComp_ap {wi : TI} {nl : List (Option Nat)} {g : TG} {tc : TT} {te : TE} {σ : St} {H : Hp} {Q : VK} : tComp wi nl g tc te σ H Q = (wi σ H fun J H1 => ∀ D, H1 D = none → CompW J g tc te D Q (stOf nl σ) (upd H1 D (.lst []))) := rfl
theorem tSetC_ap {i : Nat} {t : TE} {D : Ends} {σ : St} {H : Hp} : tSetC i t D σ H = (t σ H fun v H' => D.nx (σ.set i (some v)) H') := rfl
theorem rEqD_ap {K : PySem.W.Frag} {x : V} {y : V} {H : Hp} {Q : VK} : rEqD K x y H Q = (∃ d e, RdD K H x d ∧ RdD K H y e ∧ shaped d = true ∧ shaped e = true ∧ Q (.bl (PyData.eqv d e)) H) := rfl
theorem rNeD_ap {K : PySem.W.Frag} {x : V} {y : V} {H : Hp} {Q : VK} : rNeD K x y H Q = (∃ d e, RdD K H x d ∧ RdD K H y e ∧ shaped d = true ∧ shaped e = true ∧ Q (.bl (!PyData.eqv d e)) H) := rfl
end L2
end

section
set_option Elab.async false
set_option linter.all false
set_option maxRecDepth 100000
set_option maxHeartbeats 1000000
namespace L2
open PySem PySem.Spec PyProof.Rows
theorem loop_list {K : PySem.W.Frag} {a : Addr} {g : TG} {tb : TS} {D : Ends} {σ : St} {H : Hp} (xs : List V) (Pv : Nat → St → Hp → Prop) (h0 : Pv 0 σ H) (hl : ∀ i σ H, i ≤ xs.length → Pv i σ H → SqL K H a xs)
    (hs : ∀ i x σ H, xs[i]? = some x → Pv i σ H → g x σ H fun σ2 H2 => tb { D with nx := Pv (i + 1), ct := Pv (i + 1), bk := D.nx } σ2 H2) (hd : ∀ σ H, Pv xs.length σ H → D.nx σ H) : LoopW (Itl K a) g tb D σ H :=
  for_list Pv h0 hl hs hd
theorem loop_range {lo : Int} {n : Nat} {g : TG} {tb : TS} {D : Ends} {σ : St} {H : Hp} (Pv : Nat → St → Hp → Prop) (h0 : Pv 0 σ H)
    (hs : ∀ i σ H, i < n → Pv i σ H → g (.int (lo + i)) σ H fun σ2 H2 => tb { D with nx := Pv (i + 1), ct := Pv (i + 1), bk := D.nx } σ2 H2) (hd : ∀ σ H, Pv n σ H → D.nx σ H) : LoopW (Itr lo n) g tb D σ H :=
  for_range Pv h0 hs hd
theorem SqL.same {K : PySem.W.Frag} {H H' : Hp} {a : Addr} {xs : List V} (h : SqL K H a xs) (s : Same H H') : SqL K H' a xs := s.seq h
theorem SqT.same {K : PySem.W.Frag} {H H' : Hp} {a : Addr} {xs : List V} (h : SqT K H a xs) (e : Same H H') : SqT K H' a xs := by
  rcases h with (h | ⟨o, h⟩) | h
  · exact .inl (.inl (e _ _ h))
  · exact .inl (.inr ⟨o, e _ _ h⟩)
  · exact .inr h
section
variable {K : PySem.W.Frag} {H : Hp} {Q : VK} {i : Int} {b : Bool} {x : Str}
theorem isi_tup {a : Addr} {xs : List V} (h : H a = some (.tup xs)) (q : Q (.bl true) H) : rIsi K [.ref a, .ty "tuple"] H Q := ⟨_, _, _, _, _, rfl, rfl, .tup h, kit_same, q⟩
end
section
theorem ix0 {α : Type} {x : α} {xs : List α} : atI (x :: xs) 0 = some x := by simp [atI, ixN]
theorem ix1 {α : Type} {x y : α} {xs : List α} : atI (x :: y :: xs) 1 = some y := by
  have : ((1 : Int) < (xs.length : Int) + 1 + 1) := by omega
  simp [atI, ixN, this]
end
theorem cxOf_K {CX : CXT} {P : Program} {w : World} {K : PySem.W.Frag} {mg : Str → Option Value} {base : Heap} {N : List Str} {qual : Str} {scope : Scope} {f : Addr} {cd : Value} {A : Around} {outer : List Env} {s : Shared} {H : Hp} {E : XK} : (cxOf CX P w K mg base N qual scope f cd A outer s H E).K = K := rfl
theorem bt_len : bootBuiltins "len" = some (.builtin "len") := by decide +kernel
theorem bt_abs : bootBuiltins "abs" = some (.builtin "abs") := by decide +kernel
theorem bt_max : bootBuiltins "max" = some (.builtin "max") := by decide +kernel
theorem bt_repr : bootBuiltins "repr" = some (.builtin "repr") := by decide +kernel
theorem bt_isinstance : bootBuiltins "isinstance" = some (.builtin "isinstance") := by decide +kernel
theorem bt_int : bootBuiltins "int" = some (.type "int") := by decide +kernel
theorem bt_list : bootBuiltins "list" = some (.type "list") := by decide +kernel
theorem bt_tuple : bootBuiltins "tuple" = some (.type "tuple") := by decide +kernel
section
variable {a c : Int} {b e : Bool} {x y : Str}
theorem sc_nn : scal (.non) (.non) = true := rfl
theorem sc_ni : scal (.non) (.int a) = true := rfl
theorem sc_in : scal (.int a) (.non) = true := rfl
theorem sc_nb : scal (.non) (.bl b) = true := rfl
theorem sc_bn : scal (.bl b) (.non) = true := rfl
theorem sc_ns : scal (.non) (.str x) = true := rfl
theorem sc_sn : scal (.str x) (.non) = true := rfl
theorem sc_ii : scal (.int a) (.int c) = true := rfl
theorem sc_bb : scal (.bl b) (.bl e) = true := rfl
theorem sc_ss : scal (.str x) (.str y) = true := rfl
theorem sc_is : scal (.int a) (.str x) = true := rfl
theorem sc_si : scal (.str x) (.int a) = true := rfl
theorem sc_bs : scal (.bl b) (.str x) = true := rfl
theorem sc_sb : scal (.str x) (.bl b) = true := rfl
end
end L2
end

section
set_option Elab.async false
set_option linter.all false
set_option maxRecDepth 100000
set_option maxHeartbeats 1000000
namespace L2
open PySem PySem.Spec PyProof.Rows PySem.SeqAt
theorem sqT_same {K : PySem.W.Frag} {H H' : Hp} {a : Addr} {xs : List V} (h : SqT K H a xs) (e : Same H H') : SqT K H' a xs := by
  rcases h with (h | ⟨o, h⟩) | h
  · exact .inl (.inl (e _ _ h))
  · exact .inl (.inr ⟨o, e _ _ h⟩)
  · exact .inr h
mutual
theorem RdD.same {K : PySem.W.Frag} {H H' : Hp} (e : Same H H') : ∀ {v : V} {d : PyData}, RdD K H v d → RdD K H' v d
  | _, _, .non => .non
  | _, _, .bl b => .bl b
  | _, _, .int i => .int i
  | _, _, .str x => .str x
  | _, _, .lst hq hs => .lst (e.seq hq) (RdDs.same e hs)
  | _, _, .tup hq hs => .tup (sqT_same hq e) (RdDs.same e hs)
theorem RdDs.same {K : PySem.W.Frag} {H H' : Hp} (e : Same H H') : ∀ {v : List V} {d : List PyData}, RdDs K H v d → RdDs K H' v d
  | _, _, .nil => .nil
  | _, _, .cons h hs => .cons (RdD.same e h) (RdDs.same e hs)
end
end L2
end

section
set_option Elab.async false
set_option linter.all false
set_option maxRecDepth 100000
set_option maxHeartbeats 1000000
namespace L2
open PySem PySem.Spec PyProof.Rows PySem.SeqAt
structure Nice (k n : Nat) (d : PyData) : Prop where
  lay : d.canLay0 = true
  sho : d.showable = true
  leaf : d.leavesShort 30 = true
  dep : d.depth ≤ k
  wt : d.weight ≤ n
structure NiceL (k n : Nat) (ds : List PyData) : Prop where
  lay : PyData.canLayAll0 ds = true
  sho : PyData.showableAll ds = true
  leaf : PyData.leavesShortAll 30 ds = true
  dep : PyData.depthAll ds ≤ k
  wt : PyData.weightAll ds ≤ n
theorem Nice.mono {k n k' n' : Nat} {d : PyData} (h : Nice k n d) (hk : k ≤ k') (hn : n ≤ n') : Nice k' n' d := ⟨h.lay, h.sho, h.leaf, Nat.le_trans h.dep hk, Nat.le_trans h.wt hn⟩
theorem NiceL.mono {k n k' n' : Nat} {d : List PyData} (h : NiceL k n d) (hk : k ≤ k') (hn : n ≤ n') : NiceL k' n' d := ⟨h.lay, h.sho, h.leaf, Nat.le_trans h.dep hk, Nat.le_trans h.wt hn⟩
theorem NiceL.nil {k n : Nat} : NiceL k n [] := ⟨rfl, rfl, rfl, Nat.zero_le _, Nat.zero_le _⟩
theorem NiceL.cons {k a b n : Nat} {d : PyData} {ds : List PyData} (h : Nice k a d) (hs : NiceL k b ds) (hn : a + 1 + b ≤ n) : NiceL k n (d :: ds) where
  lay := by rw [PyData.canLayAll0, h.lay, hs.lay]; rfl
  sho := by rw [PyData.showableAll, h.sho, hs.sho]; rfl
  leaf := by rw [PyData.leavesShortAll, h.leaf, hs.leaf]; rfl
  dep := by rw [PyData.depthAll]; exact Nat.max_le.mpr ⟨h.dep, hs.dep⟩
  wt := by rw [PyData.weightAll]; have := h.wt; have := hs.wt; omega
theorem Nice.tup {k n : Nat} {ds : List PyData} (h : NiceL k n ds) : Nice (k + 1) n (.tuple ds) where
  lay := by rw [PyData.canLay0]; exact h.lay
  sho := by rw [PyData.showable]; exact h.sho
  leaf := by rw [PyData.leavesShort]; exact h.leaf
  dep := by rw [PyData.depth]; exact Nat.succ_le_succ h.dep
  wt := by rw [PyData.weight]; exact h.wt
theorem Nice.lst {k n : Nat} {ds : List PyData} (h : NiceL k n ds) : Nice (k + 1) n (.list ds) where
  lay := by rw [PyData.canLay0]; exact h.lay
  sho := by rw [PyData.showable]; exact h.sho
  leaf := by rw [PyData.leavesShort]; exact h.leaf
  dep := by rw [PyData.depth]; exact Nat.succ_le_succ h.dep
  wt := by rw [PyData.weight]; exact h.wt
theorem Nice.none {k n : Nat} : Nice k n .none := ⟨rfl, rfl, rfl, Nat.zero_le _, Nat.zero_le _⟩
theorem Nice.bool {k n : Nat} {b : Bool} : Nice k n (.bool b) := ⟨rfl, rfl, rfl, Nat.zero_le _, Nat.zero_le _⟩
theorem Nice.int {k : Nat} {i : Int} (h : i.natAbs < 10 ^ 18) : Nice k 60 (.int i) := by
  have hl : i.natAbs.log2 < 60 := by
    by_cases z : i.natAbs = 0
    · rw [z]; decide
    · exact (Nat.log2_lt z).mpr (by omega)
  refine ⟨rfl, ?_, ?_, Nat.zero_le _, ?_⟩
  · rw [PyData.showable]; exact decide_eq_true (by omega)
  · have e := int_text_length_le10 (k := 18) (by decide) h
    have : (PyData.shown (.int i)).length ≤ 30 := by
      show (Str.ofString (toString i)).length ≤ 30
      rw [PySem.ofString_length]; omega
    rw [PyData.leavesShort]; exact decide_eq_true this
  · rw [PyData.weight]; split <;> omega
theorem Nice.str {k n : Nat} {x : Str} (h : PyData.strOk x = true) (hn : x.cps.size ≤ n) : Nice k n (.str x) := by
  refine ⟨by rw [PyData.canLay0]; exact h, rfl, ?_, Nat.zero_le _, by rw [PyData.weight]; exact hn⟩
  have h1 : ∀ c ∈ x.cps.toList, c < 0x110000 := by
    intro c hcm
    have := (Array.all_eq_true_iff_forall_mem.mp h) c (Array.mem_toList_iff.mp hcm)
    simpa using this
  rw [PyData.leavesShort]
  refine List.all_eq_true.mpr fun c hc => decide_eq_true ?_
  have h2 := h1 c hc
  have e : (16 : Nat) ^ 8 = 4294967296 := by decide
  omega
theorem Nice.fits {k n : Nat} {d : PyData} (h : Nice k n d) (hn : n ≤ 100000) : d.shown.length ≤ sizeLine := by
  have := PyData.shown_le 30 (by decide) d h.leaf
  have := h.wt
  rw [sizeLine_eq]
  omega
theorem repr_nice {K : PySem.W.Frag} {H : Hp} {Q : VK} {k n : Nat} {a : Addr} {d : PyData} (hr : RdD K H (.ref a) d) (h : Nice k n d) (hk : k ≤ 60) (hn : n ≤ 100000) (q : Q (.str d.shown) H) : rReprD K [.ref a] H Q :=
  ⟨a, d, rfl, hr, h.sho, PyData.hasDict_of_canLay d h.lay, Nat.le_trans h.dep hk, h.fits hn, q⟩
def Rdb (K : PySem.W.Frag) (H : Hp) (k n : Nat) (v : V) : Prop := ∃ d, RdD K H v d ∧ Nice k n d
section
variable {K : PySem.W.Frag} {H H' : Hp} {k n : Nat}
end
end L2
end

section
set_option Elab.async false
set_option linter.all false
set_option maxRecDepth 100000
set_option maxHeartbeats 4000000
namespace PySem
open Sem (wp)
open Builtin
theorem noFill_tuple_mul : fillsNumberSlot (.type "tuple") "mul" = pure false :=
  fillsNumberSlot_seq (id := "tuple.__mul__") (r := some (.builtin "tuple.__rmul__")) F.slot_tuple_mul.lookup (by decide +kernel) F.slot_tuple_rmul.lookup (by decide +kernel)
theorem repeat_tuple : seqRepeat? (.type "tuple") = pure (some (.builtin "tuple.__mul__")) := by
  unfold seqRepeat?
  rw [seqSlot_of (T := "tuple") (name := "__mul__") (id := "tuple.__mul__") F.slot_tuple_mul.lookup (by decide +kernel), seqSlot_of (T := "tuple") (name := "__rmul__") (id := "tuple.__rmul__") F.slot_tuple_rmul.lookup (by decide +kernel)]
  rfl
theorem int_rmul_tuple (a : Int) (t : Tok) (l : Addr) (items : Array Value) (n : Nat) (dd : Option Addr) (sl : Array (Option Value)) :
    Meets (Builtin.«int.__rmul__» ⟨[.int a t, .ref l], []⟩) (fun _ R s => s.heap.get? l = some { cls := .type "tuple", dict := dd, data := .seq items n, slots := sl } ∧ R (.ok (.ret Value.notImplemented)) s) :=
  .of_wp fun prog w A R s h => by obtain ⟨hp, g, d, tk, os⟩ := s; obtain ⟨hl, h⟩ := h; wp_walk; exact ⟨_, rfl, h⟩
end PySem
namespace L2
open PySem PySem.Spec PyProof.Rows PySem.SeqAt
open AutoSeq1 (wpAny_loadPart')
theorem tuple_mul1 (l : Addr) (items : Array Value) (n : Nat) (dd : Option Addr) (sl : Array (Option Value)) (u : Tok) :
    Meets (Builtin.«tuple.__mul__» ⟨[.ref l, .int 1 u], []⟩) (fun _ R s => s.heap.get? l = some { cls := .type "tuple", dict := dd, data := .seq items n, slots := sl } ∧ R (.ok (.ret (Value.ref l))) s) :=
  .of_wp fun prog w A R s h => by obtain ⟨hp, g, d, tk, os⟩ := s; obtain ⟨hl, h⟩ := h; have f1 := AutoSeq1.idx_int; have f2 := AutoSeq1.sub_tuple_tuple; wp_walk using wpAny_loadPart' hl; exact ⟨_, rfl, h⟩
theorem tuple_mulN (l : Addr) (items : Array Value) (n : Nat) (dd : Option Addr) (sl : Array (Option Value)) (x : Int) (u : Tok) (hc0 : ¬(decide (x < -(2 ^ 63)) || decide (x ≥ 2 ^ 63)) = true) (hc1 : ¬(items.isEmpty || x == 1) = true) (hc2 : ¬ (decide (x ≤ 0) || items.isEmpty) = true) (hc3 : ¬ ((items.size : Nat) : Int) * x > (2 ^ 63 - 1) / 8) (hc4 : ¬ Builtin.Tuple.tupleTooMany (((items.size : Nat) : Int) * x) = true) :
    Meets (Builtin.«tuple.__mul__» ⟨[.ref l, .int x u], []⟩) (fun _ R s => s.heap.get? l = some { cls := .type "tuple", dict := dd, data := .seq items n, slots := sl } ∧ R (.ok (.ret (Value.ref s.heap.objs.size))) { s with heap := s.heap.push { cls := Value.type "tuple", data := Data.seq (List.foldl (fun x1 x2 => x1 ++ x2) #[] (List.replicate x.toNat items)) }, toks := s.toks }) :=
  .of_wp fun prog w A R s h => by
    obtain ⟨hp, g, d, tk, os⟩ := s; obtain ⟨hl, h⟩ := h
    have f1 := AutoSeq1.idx_int
    have f2 := AutoSeq1.sub_tuple_tuple
    have hz : (List.foldl (fun x1 x2 => x1 ++ x2) #[] (List.replicate x.toNat items)).size ≤ sizeLine := by
      rw [AutoListH.size_joined]
      have h4 : ¬ ((items.size : Int) * x > (sizeLine : Int)) := fun z => hc4 (decide_eq_true z)
      have hx : 0 ≤ x := by
        by_cases z : 0 ≤ x
        · exact z
        · exact absurd (by rw [decide_eq_true (show x ≤ 0 by omega)]; rfl) hc2
      have e : ((x.toNat * items.size : Nat) : Int) = (items.size : Int) * x := by
        rw [Int.natCast_mul, Int.toNat_of_nonneg hx, Int.mul_comm]
      have : (#[] : Array Value).size = 0 := rfl
      omega
    wp_walk using wpAny_loadPart' hl
    rw [if_neg hc0]
    wp_walk using wpAny_loadPart' hl
    rw [if_neg hc3]
    wp_walk using wpAny_loadPart' hl
    exact ⟨_, rfl, h⟩
theorem tuple_mul0 (l : Addr) (items : Array Value) (n : Nat) (dd : Option Addr) (sl : Array (Option Value)) (x : Int) (u : Tok) (hc0 : ¬(decide (x < -(2 ^ 63)) || decide (x ≥ 2 ^ 63)) = true) (hc1 : ¬(items.isEmpty || x == 1) = true) (hc2 : (decide (x ≤ 0) || items.isEmpty) = true) :
    Meets (Builtin.«tuple.__mul__» ⟨[.ref l, .int x u], []⟩) (fun _ R s => s.heap.get? l = some { cls := .type "tuple", dict := dd, data := .seq items n, slots := sl } ∧ R (.ok (.ret (Value.ref s.heap.objs.size))) { s with heap := s.heap.push { cls := Value.type "tuple", data := Data.seq #[] }, toks := s.toks }) :=
  .of_wp fun prog w A R s h => by
    obtain ⟨hp, g, d, tk, os⟩ := s; obtain ⟨hl, h⟩ := h
    have f1 := AutoSeq1.idx_int
    have f2 := AutoSeq1.sub_tuple_tuple
    wp_walk using wpAny_loadPart' hl
    rw [if_neg hc0]
    wp_walk using wpAny_loadPart' hl
    exact ⟨_, rfl, h⟩
section
variable {X : Cx}
def rCatA (K : PySem.W.Frag) : R2 := fun x y H Q => ∃ a b xs ys, x = .ref a ∧ y = .ref b ∧ SqT K H a xs ∧ SqT K H b ys ∧ xs.length + ys.length ≤ sizeLine ∧ ∀ p H', Same H H' → SqT K H' p (xs ++ ys) → Q (.ref p) H'
theorem cat_tup0 {prog : Program} {w : World} {A : Around} {E : Value → Shared → Prop} {s : Shared} {t b : Addr} {ws : List Value} {Q : Value → Shared → Prop} (ht : IsTup s.heap t #[]) (hb : IsTup s.heap b ws.toArray) (h : Q (.ref b) s) : wpAny (model prog w) A (binaryOp .Add (.ref t) (.ref b)) Q E s := by
  obtain ⟨⟨cls, dd, data, sl⟩, ho, hc, n, hd⟩ := id ht
  obtain ⟨⟨cls2, dd2, data2, sl2⟩, ho2, hc2, n2, hd2⟩ := id hb
  simp only at hc hd hc2 hd2
  subst hc hd hc2 hd2
  exact concat_meets ⟨_, ho, rfl⟩ ⟨_, ho2, rfl⟩ noFill_tuple_add seq_tuple_add PySem.F.slot_tuple_add PySem.F.entry_tuple_add (PySem.F.args_tuple_add_2 _ _)
    (tuple_addW0 t b #[] ws.toArray n n2 dd dd2 sl sl2 (by simp)) ⟨ho, ho2, h⟩
theorem op_catA : OpR X (binaryOp .Add) (rCatA X.K) := by
  intro pins s σ H x y v u Q I rx ry h
  obtain ⟨a, b, xs, ys, rfl, rfl, hx, hy, hz, q⟩ := h
  by_cases he : xs = []
  · subst he
    obtain rfl : v = Value.ref a := rx
    obtain rfl : u = Value.ref b := ry
    obtain ⟨its, r, ht, _⟩ := I.tuple hx
    obtain ⟨its2, r2, ht2, _⟩ := I.tuple hy
    cases r
    exact cat_tup0 ht ht2 ⟨.ref b, H, I, rfl, q b H (Same.refl H) (by simpa using hy)⟩
  · refine op_catT pins s σ H _ _ v u Q I rx ry ⟨a, b, xs, ys, rfl, rfl, hx, hy, he, hz, fun e => ?_, fun e p hp => ?_⟩
    · subst e
      exact q a H (Same.refl H) (by simpa using hx)
    · exact q p _ (fun c o hc => by rw [upd_ne (ne_of_none hc hp)]; exact hc) (SqT.of upd_same)
def rMulT (K : PySem.W.Frag) : R2 := fun x y H Q => ∃ a k xs, x = .ref a ∧ y = .int k ∧ SqT K H a xs ∧ xs ≠ [] ∧ -(2 ^ 63) ≤ k ∧ k < 2 ^ 63 ∧ xs.length * k.toNat ≤ sizeLine ∧ ∀ p H', Same H H' → SqT K H' p (List.replicate k.toNat xs).flatten → Q (.ref p) H'
theorem op_mulT : OpR X (binaryOp .Mult) (rMulT X.K) := by
  intro pins s σ H x y v u Q I rx ry h
  obtain ⟨a, k, xs, rfl, rfl, hx, hne, h1, h2, hz, q⟩ := h
  obtain rfl : v = Value.ref a := rx
  obtain ⟨t, rfl⟩ := ry
  obtain ⟨its, r, ht, _⟩ := I.tuple hx
  have hl : xs.length = its.length := r.length
  have hi : its ≠ [] := fun z => hne (by cases xs with | nil => rfl | cons _ _ => rw [z] at hl; cases hl)
  have hie : its.toArray.isEmpty = false := by cases its with | nil => exact absurd rfl hi | cons _ _ => rfl
  obtain ⟨⟨cls, dd, data, sl⟩, ho, hc, n, hd⟩ := id ht
  simp only at hc hd
  subst hc hd
  have hc0 : ¬(decide (k < -(2 ^ 63)) || decide (k ≥ 2 ^ 63)) = true := by
    rw [Bool.or_eq_true, decide_eq_true_eq, decide_eq_true_eq]; omega
  refine wpAny_binaryOp_repeat_ref (T := "tuple") (U := "int") (by decide) ⟨_, ho, rfl⟩ (fun s' => typeIs_int s' k t) noFill_tuple_mul F.fills_int_mul F.slot_int_rmul repeat_tuple F.slot_int_index.lookup
    (call_meets F.slot_int_rmul (typeIs_int s k t) F.entry_int_rmul (F.args_int_rmul_2 _ _) (int_rmul_tuple k t a its.toArray n dd sl) ⟨ho, rfl, ⟨_, ho, rfl⟩, ?_⟩)
  by_cases e1 : k = 1
  · subst e1
    refine call_meets F.slot_tuple_mul ⟨_, ho, rfl⟩ F.entry_tuple_mul (F.args_tuple_mul_2 _ _) (tuple_mul1 a its.toArray n dd sl t) ⟨ho, ?_⟩
    exact ⟨.ref a, H, I, rfl, q a H (Same.refl H) (by simpa using hx)⟩
  have hc1 : ¬(its.toArray.isEmpty || k == 1) = true := by
    rw [hie, Bool.false_or, beq_iff_eq]; exact e1
  by_cases e0 : k ≤ 0
  · refine call_meets F.slot_tuple_mul ⟨_, ho, rfl⟩ F.entry_tuple_mul (F.args_tuple_mul_2 _ _) (tuple_mul0 a its.toArray n dd sl k t hc0 hc1 (by rw [decide_eq_true e0]; rfl)) ⟨ho, ?_⟩
    have ez : k.toNat = 0 := by omega
    refine ⟨.ref s.heap.objs.size, _, I.laid (t' := s.toks) (o := .tup []) (fun b ob q => Heap.get?_push_of_some _ q) (Nat.le_refl _) ⟨Nat.zero_le _, [], .nil, IsTup.new _ _⟩, rfl, q _ _ (fun c o hc => by rw [upd_ne (ne_of_none hc (I.hok.fresh (Nat.le_refl _)))]; exact hc) ?_⟩
    rw [ez]
    exact SqT.of upd_same
  · have hkn : (k.toNat : Int) = k := Int.toNat_of_nonneg (by omega)
    have em : ((its.toArray.size : Nat) : Int) * k = ((xs.length * k.toNat : Nat) : Int) := by rw [List.size_toArray, ← hl, Int.natCast_mul, hkn]
    have hsl := sizeLine_eq
    refine call_meets F.slot_tuple_mul ⟨_, ho, rfl⟩ F.entry_tuple_mul (F.args_tuple_mul_2 _ _) (tuple_mulN a its.toArray n dd sl k t hc0 hc1 (by rw [decide_eq_false e0, hie]; decide) (by rw [em]; rw [hsl] at hz; omega) (fun z => by have z' := of_decide_eq_true z; rw [em] at z'; omega)) ⟨ho, ?_⟩
    have f0 : List.foldl (fun x1 x2 => x1 ++ x2) #[] (List.replicate k.toNat its.toArray) = (List.replicate k.toNat its).flatten.toArray := by
      have := foldl_rep its k.toNat []
      rw [List.nil_append] at this
      exact this
    rw [f0]
    refine ⟨.ref s.heap.objs.size, _, I.laid (t' := s.toks) (o := .tup (List.replicate k.toNat xs).flatten) (fun b ob q => Heap.get?_push_of_some _ q) (Nat.le_refl _) ⟨by rw [len_rep, Nat.mul_comm]; exact hz, _, r.rep k.toNat, IsTup.new _ _⟩, rfl, q _ _ (fun c o hc => by rw [upd_ne (ne_of_none hc (I.hok.fresh (Nat.le_refl _)))]; exact hc) (SqT.of upd_same)⟩
end
open HT
section
variable {prog : Program} {w : World} {A : Around} {E : Value → Shared → Prop} {s : Shared}
theorem getItem_tuple_whole {t sl : Addr} {items : Array Value} {vl vu : Value} {lo hi : Option Int} {Q : Value → Shared → Prop} (ht : IsTup s.heap t items) (hs : s.heap.IsSliceOf sl vl vu .none) (pl : IsPart vl lo) (pu : IsPart vu hi)
    (hw : sIx items.size 0 lo = 0 ∧ sIx items.size items.size hi = items.size) (h : Q (.ref t) s) : wpAny (model prog w) A (getItem (.ref t) (.ref sl)) Q E s := by
  obtain ⟨os, hos, hcs, hds⟩ := id hs
  have hTs : s.TypeIs (.ref sl) "slice" := ⟨os, hos, hcs⟩
  unfold getItem
  try with_reducible refine wpAny_holding ?_
  first | refine wpAny_bind (wpAny_pure ?_) | skip
  refine wpAny_bind (wpAny_sequenceKey ht.typeIs (by decide) ?_)
  refine wpAny_bind (wpAny_callSpecial?_slot (name := Str.ofString "__getitem__") ht.typeIs PyProof.Rows.slot_tuple_getitem
    (wpAny_call_entry PyProof.Rows.slot_tuple_getitem ht.typeIs entry_tuple_getitem ?_ (args_tuple_getitem _ _)))
  show wpAny _ _ (Builtin.Tuple.tupleItemsOf (.ref t) >>= _) _ _ s
  refine wpAny_bind (tupleItemsOf_ ht ?_)
  refine wpAny_bind (wpAny_typeOf hTs ?_)
  rw [if_pos (by decide)]
  refine wpAny_bind (sliceApplied_gen hs pl pu ?_)
  have hyes : (((sIx items.size 0 lo : Nat) : Int) == 0 && (1 : Int) == 1 && (sIx items.size items.size hi - sIx items.size 0 lo) == items.size) = true := by
    rw [hw.1, hw.2]; simp
  show wpAny _ _ (if (((sIx items.size 0 lo : Nat) : Int) == 0 && (1 : Int) == 1 && (sIx items.size items.size hi - sIx items.size 0 lo) == items.size) = true then _ else _) _ _ s
  rw [if_pos hyes]
  refine wpAny_bind ?_
  show wpAny _ _ ((typeOf (.ref t)) >>= _) _ _ s
  refine wpAny_bind (wpAny_typeOf ht.typeIs (wpAny_pure ?_))
  rw [if_pos (by decide)]
  first
    | exact wpAny_bind (wpAny_rule (wpAny_pure ⟨_, rfl, wpAny_pure h⟩))
    | exact wpAny_bind (wpAny_pure (wpAny_pure ⟨_, rfl, wpAny_pure h⟩))
    | exact wpAny_pure ⟨_, rfl, wpAny_pure h⟩
end
section
variable {X : Cx}
def rSlA (K : PySem.W.Frag) : V → Option Int → Option Int → Hp → VK → Prop := fun x lo hi H Q => ∃ a xs, x = .ref a ∧ SqT K H a xs ∧ ∀ p H', Same H H' → SqT K H' p (cutV xs lo hi) → Q (.ref p) H'
theorem sl_tupA : SlR X (rSlA X.K) := by
  intro pins s σ H x v vl vu lo hi sl Q I rx hs pl pu h
  obtain ⟨a, xs, rfl, hx, q⟩ := h
  by_cases hw : HT.sIx xs.length 0 lo = 0 ∧ HT.sIx xs.length xs.length hi = xs.length
  · obtain rfl : v = Value.ref a := rx
    obtain ⟨its, r, ht, hz⟩ := I.tuple hx
    have hlen : its.toArray.size = xs.length := by rw [List.size_toArray]; exact r.length.symm
    refine ⟨"tuple", _, PyProof.Rows.slot_tuple_getitem.lookup, ht.typeIs, ?_⟩
    refine getItem_tuple_whole ht hs pl pu (by rw [hlen]; exact hw) ⟨.ref a, H, I, rfl, q a H (Same.refl H) ?_⟩
    have e : cutV xs lo hi = xs := by
      unfold cutV
      rw [hw.1, hw.2, List.drop_zero, Nat.sub_zero, List.take_length]
    rw [e]
    exact hx
  · exact sl_tup pins s σ H _ v vl vu lo hi sl Q I rx hs pl pu ⟨a, xs, rfl, hx, hw, fun p hp => q p _ (fun c o hc => by rw [upd_ne (ne_of_none hc hp)]; exact hc) (SqT.of upd_same)⟩
end
end L2
end

section
set_option Elab.async false
set_option linter.all false
set_option maxRecDepth 100000
set_option maxHeartbeats 1000000
namespace L2
open PySem PySem.Spec PyProof.Rows
structure MDict (P : Program) (w : World) (K : PySem.W.Frag) (a : Addr) (kvs : List (Key × V)) : Prop where
  of : ∀ h : Heap, K.In h → ∃ vs, KV kvs vs ∧ h.DictOf (mixKind P w) a vs
  ns : (a == sysModules) = false
section
variable {X : Cx} {o i : Expr} {ty : TE} {pos : Pos} {a : Addr} {kvs : List (Key × V)}
def tMIn (kvs : List (Key × V)) (ty : TE) : TE := fun σ H Q => ty σ H fun y H1 => ∃ k, y = kV k ∧ Q (.bl (valV kvs k).isSome) H1
def tMGet (kvs : List (Key × V)) (ty : TE) : TE := fun σ H Q => ty σ H fun y H1 => ∃ k v, y = kV k ∧ valV kvs k = some v ∧ Q v H1
theorem tMIn_ap {kvs : List (Key × V)} {ty : TE} {σ : St} {H : Hp} {Q : VK} : tMIn kvs ty σ H Q = (ty σ H fun y H1 => ∃ k, y = kV k ∧ Q (.bl (valV kvs k).isSome) H1) := rfl
theorem tMGet_ap {kvs : List (Key × V)} {ty : TE} {σ : St} {H : Hp} {Q : VK} : tMGet kvs ty σ H Q = (ty σ H fun y H1 => ∃ k v, y = kV k ∧ valV kvs k = some v ∧ Q v H1) := rfl
theorem pc_min (M : MDict X.prog X.w X.K a kvs) (hi : PE X i ty) (ho : PE X o (tC (.ref a))) : PC X .In i o (tMIn kvs ty) := by
  intro pins s σ H Q I h
  refine thn (hi pins s σ H _ I h) fun iv s1 ⟨y, H1, I1, ry, k, ey, q1⟩ => thn (ho pins s1 σ H1 (fun v H' => v = .ref a ∧ Q (.bl (valV kvs k).isSome) H') I1 ⟨rfl, q1⟩) fun u s2 ⟨x, H2, I2, rx, ex, q2⟩ => ?_
  subst ex ey
  obtain rfl : u = Value.ref a := rx
  obtain ⟨vs, rel, dd⟩ := M.of _ I2.kIn
  refine wpAny_in_of (kV_is ry) M.ns dd.mapOf ?_
  rw [← (rel.val k).isSome_eq]
  exact ⟨.bl _, H2, I2.tok _, rfl, q2⟩
theorem pe_mget (M : MDict X.prog X.w X.K a kvs) (ho : PE X o (tC (.ref a))) (hi : PE X i ty) (hs : NoSl i) : PE X (.Subscript o i pos) (tMGet kvs ty) := by
  intro pins s σ H Q I h
  refine subD_of PySem.F.slot_dict_getitem.lookup hs (thn (ho pins s σ H (fun v H' => v = .ref a ∧ tMGet kvs ty σ H' Q) I ⟨rfl, h⟩) fun u s1 ⟨x, H1, I1, rx, ex, q1⟩ => thn (hi pins s1 σ H1 _ I1 q1) fun iv s2 hz_ => ?_)
  obtain ⟨y, H2, I2, ry, k, v, ey, l, q2⟩ := hz_
  subst ex ey
  obtain rfl : u = Value.ref a := rx
  obtain ⟨vs, rel, dd⟩ := M.of _ I2.kIn
  obtain ⟨w', hw, rw'⟩ := RelO.some_of (v := v) (o := valueAt vs k) (by rw [← l]; exact rel.val k)
  exact ⟨dd.typeIs, wpAny_getItem_of (kV_is ry) dd.mapOf hw ⟨v, H2, I2.tok _, rw', q2⟩⟩
end
inductive Ent (w : World) : List DictEntry → List (Key × V) → Prop
  | nil : Ent w [] []
  | cons {e : DictEntry} {k : Key} {v : V} {es : List DictEntry} {kvs : List (Key × V)} : keyIs k e.key = true → e.hash = keyH w k → RelV v e.val → Ent w es kvs → Ent w (e :: es) ((k, v) :: kvs)
theorem Ent.of {P : Program} {w : World} : ∀ {es : List DictEntry} {kvs : List (Key × V)}, Ent w es kvs → ∃ vs, KV kvs vs ∧ Pairs (mixKind P w) es vs ∧ vs.map (·.1) = kvs.map (·.1) ∧ ∀ e ∈ es, ∃ k, (mixKind P w).is k e.key = true ∧ e.hash = (mixKind P w).hash k
  | _, _, .nil => ⟨[], .nil, .nil, rfl, fun _ h => by cases h⟩
  | _, _, .cons (e := e) (k := k) (v := v) h1 h2 h3 t => by
    obtain ⟨vs, a, b, c, d⟩ := Ent.of (P := P) t
    refine ⟨(k, e.val) :: vs, .cons ⟨rfl, h3⟩ a, .cons h1 rfl b, by rw [List.map_cons, List.map_cons, c], fun e' he' => ?_⟩
    rcases List.mem_cons.mp he' with z | z
    · subst z; exact ⟨k, h1, h2⟩
    · exact d e' z
theorem mdict_mk {P : Program} {w : World} {K : PySem.W.Frag} {a : Addr} {o : Obj} {es : Array DictEntry} {ep : Nat} {kvs : List (Key × V)} (l : K.lookup a = some o) (e : o.ExactDict) (d : o.data = .dict es ep) (p : Ent w es.toList kvs) (nd : (kvs.map (·.1)).Nodup) (ns : (a == sysModules) = false) : MDict P w K a kvs := by
  obtain ⟨vs, h1, h2, h3, h4⟩ := Ent.of (P := P) p
  exact ⟨fun h hk => ⟨vs, h1, o, es, ep, hk a o l, e, d, fun x hx => h4 x (by simpa using hx), h2, by rw [h3]; exact nd⟩, ns⟩
end L2
end

section
set_option Elab.async false
set_option linter.all false
set_option maxRecDepth 100000
set_option maxHeartbeats 1000000
namespace L2
open PySem PySem.Spec PyProof.Rows
def SameN (H H' : Hp) : Prop := ∀ b o, (∀ xs, o ≠ .lst xs) → H b = some o → H' b = some o
theorem comp_grow {te : TE} {Q : VK} {H : Hp} {D : Addr} {n : Nat} {σ0 : St} (v0 : Option V) (rest : St) (R : Nat → V → Hp → Prop) (mono : ∀ j v H1 H2, R j v H1 → SameN H1 H2 → R j v H2) (e0 : σ0 = v0 :: rest) (hD : H D = none) (hz : n ≤ sizeLine)
    (he : ∀ i, i < n → ∀ H1 (K' : VK), Same H H1 → (∀ v H2, Same H1 H2 → R i v H2 → K' v H2) → te (some (.int i) :: rest) H1 K')
    (hQ : ∀ vs H', Same H H' → H' D = some (.lst vs) → vs.length = n → (∀ j v, vs[j]? = some v → R j v H') → Q (.ref D) H') : CompW (Itr 0 n) (gName 0) tTrue te D Q σ0 (upd H D (.lst [])) := by
  refine ⟨fun i m σ' H' => m = n - i ∧ i ≤ n ∧ (∃ v, σ' = v :: rest) ∧ Same H H' ∧ ∃ vs, H' D = some (.lst vs) ∧ vs.length = i ∧ ∀ j v, vs[j]? = some v → R j v H', ⟨n, by simp, Nat.zero_le _, ⟨v0, e0⟩, same_upd hD _, [], upd_same, rfl, fun j v h => by simp at h⟩, ?_⟩
  rintro i m σ' H' ⟨rfl, hi, ⟨v, rfl⟩, s1, vs, hv, hl, hr⟩
  by_cases hlt : i < n
  · refine .inr ⟨hlt, fun σ2 H2 => (∃ v, σ2 = v :: rest) ∧ Same H H2 ∧ ∃ vs, H2 D = some (.lst vs) ∧ vs.length = i + 1 ∧ ∀ j v, vs[j]? = some v → R j v H2, fun σ2 H2 ⟨a, b, c⟩ => ⟨n - (i + 1), by omega, rfl, hlt, a, b, c⟩, fun x H2 hx => ?_⟩
    obtain ⟨e1, e2⟩ := hx
    subst e1 e2
    unfold gName tTrue
    rw [List.set_cons_zero, Int.zero_add]
    refine iteT (he i hlt H2 _ s1 fun v H3 s3 hR => ?_)
    have h3 := s3 _ _ hv
    have sn : SameN H3 (upd H3 D (.lst (vs ++ [v]))) := fun b o ho hb => by
      rw [upd_ne (fun z => by rw [z, h3] at hb; cases hb; exact ho _ rfl)]
      exact hb
    refine ⟨vs, h3, by omega, ⟨_, rfl⟩, fun b o hb => ?_, _, upd_same, by rw [List.length_append, hl]; rfl, fun j u hj => ?_⟩
    · rw [upd_ne (ne_of_none hb hD)]
      exact s3 _ _ (s1 _ _ hb)
    · by_cases hj' : j < vs.length
      · rw [List.getElem?_append_left hj'] at hj
        exact mono j u _ _ (mono j u _ _ (hr j u hj) fun b o _ hb => s3 b o hb) sn
      · rw [List.getElem?_append_right (by omega)] at hj
        have ej : j - vs.length = 0 := by
          have := (List.getElem?_eq_some_iff.mp hj).1
          simp at this
          omega
        rw [ej] at hj
        cases hj
        have : j = i := by omega
        subst this
        exact mono _ _ _ _ hR sn
  · have e : i = n := by omega
    subst e
    exact .inl ⟨Nat.le_refl _, hQ vs H' s1 hv hl hr⟩
end L2
end

section
set_option Elab.async false
set_option linter.all false
set_option maxRecDepth 100000
set_option maxHeartbeats 1000000
namespace L2
open PySem PySem.Spec PyProof.Rows
theorem comp_growI {J : It} {te : TE} {Q : VK} {H : Hp} {D : Addr} {ys : List V} {σ0 : St} (v0 : Option V) (rest : St) (R : Nat → V → Hp → Prop) (mono : ∀ j v H1 H2, R j v H1 → SameN H1 H2 → R j v H2) (e0 : σ0 = v0 :: rest) (hD : H D = none) (hz : ys.length ≤ sizeLine)
    (j1 : ∀ i H1, Same H H1 → i < ys.length → J.go i H1) (j2 : ∀ i H1 x H2, Same H H1 → J.yld i H1 x H2 → H2 = H1 ∧ ys[i]? = some x) (j3 : ∀ H1, Same H H1 → J.stop ys.length H1)
    (he : ∀ i y, ys[i]? = some y → ∀ H1 (K' : VK), Same H H1 → (∀ v H2, Same H1 H2 → R i v H2 → K' v H2) → te (some y :: rest) H1 K')
    (hQ : ∀ vs H', Same H H' → H' D = some (.lst vs) → vs.length = ys.length → (∀ j v, vs[j]? = some v → R j v H') → Q (.ref D) H') : CompW J (gName 0) tTrue te D Q σ0 (upd H D (.lst [])) := by
  refine ⟨fun i m σ' H' => m = ys.length - i ∧ i ≤ ys.length ∧ (∃ v, σ' = v :: rest) ∧ Same H H' ∧ ∃ vs, H' D = some (.lst vs) ∧ vs.length = i ∧ ∀ j v, vs[j]? = some v → R j v H', ⟨ys.length, by simp, Nat.zero_le _, ⟨v0, e0⟩, same_upd hD _, [], upd_same, rfl, fun j v h => by simp at h⟩, ?_⟩
  rintro i m σ' H' ⟨rfl, hi, ⟨v, rfl⟩, s1, vs, hv, hl, hr⟩
  by_cases hlt : i < ys.length
  · refine .inr ⟨j1 i H' s1 hlt, fun σ2 H2 => (∃ v, σ2 = v :: rest) ∧ Same H H2 ∧ ∃ vs, H2 D = some (.lst vs) ∧ vs.length = i + 1 ∧ ∀ j v, vs[j]? = some v → R j v H2, fun σ2 H2 ⟨a, b, c⟩ => ⟨ys.length - (i + 1), by omega, rfl, hlt, a, b, c⟩, fun x H2 hx => ?_⟩
    obtain ⟨e1, e2⟩ := j2 i H' x H2 s1 hx
    subst e1
    unfold gName tTrue
    rw [List.set_cons_zero]
    refine iteT (he i x e2 H2 _ s1 fun v H3 s3 hR => ?_)
    have h3 := s3 _ _ hv
    have sn : SameN H3 (upd H3 D (.lst (vs ++ [v]))) := fun b o ho hb => by
      rw [upd_ne (fun z => by rw [z, h3] at hb; cases hb; exact ho _ rfl)]
      exact hb
    refine ⟨vs, h3, by omega, ⟨_, rfl⟩, fun b o hb => ?_, _, upd_same, by rw [List.length_append, hl]; rfl, fun j u hj => ?_⟩
    · rw [upd_ne (ne_of_none hb hD)]
      exact s3 _ _ (s1 _ _ hb)
    · by_cases hj' : j < vs.length
      · rw [List.getElem?_append_left hj'] at hj
        exact mono j u _ _ (mono j u _ _ (hr j u hj) fun b o _ hb => s3 b o hb) sn
      · rw [List.getElem?_append_right (by omega)] at hj
        have ej : j - vs.length = 0 := by
          have := (List.getElem?_eq_some_iff.mp hj).1
          simp at this
          omega
        rw [ej] at hj
        cases hj
        have : j = i := by omega
        subst this
        exact mono _ _ _ _ hR sn
  · have e : i = ys.length := by omega
    subst e
    exact .inl ⟨j3 _ s1, hQ vs H' s1 hv hl hr⟩
theorem comp_growL {K : PySem.W.Frag} {a : Addr} {te : TE} {Q : VK} {H : Hp} {D : Addr} {ys : List V} {σ0 : St} (v0 : Option V) (rest : St) (R : Nat → V → Hp → Prop) (mono : ∀ j v H1 H2, R j v H1 → SameN H1 H2 → R j v H2) (e0 : σ0 = v0 :: rest) (hD : H D = none) (hz : ys.length ≤ sizeLine) (ha : ∀ H1, Same H H1 → SqL K H1 a ys)
    (he : ∀ i y, ys[i]? = some y → ∀ H1 (K' : VK), Same H H1 → (∀ v H2, Same H1 H2 → R i v H2 → K' v H2) → te (some y :: rest) H1 K')
    (hQ : ∀ vs H', Same H H' → H' D = some (.lst vs) → vs.length = ys.length → (∀ j v, vs[j]? = some v → R j v H') → Q (.ref D) H') : CompW (Itl K a) (gName 0) tTrue te D Q σ0 (upd H D (.lst [])) :=
  comp_growI v0 rest R mono e0 hD hz (fun i H1 s h => ⟨ys, ys[i], ha H1 s, List.getElem?_eq_getElem h⟩) (fun i H1 x H2 s h => ⟨h.1, h.2 ys (ha H1 s)⟩) (fun H1 s => ⟨ys, ha H1 s, Nat.le_refl _⟩) he hQ
end L2
end

section
set_option Elab.async false
set_option linter.all false
set_option maxRecDepth 100000
set_option maxHeartbeats 1000000
namespace L2
open PySem PySem.Spec PyProof.Rows PySem.SeqAt
theorem comp_growX {J : It} {te : TE} {Q : VK} {H : Hp} {D : Addr} {ys : List V} {σ0 : St} (v0 : Option V) (rest : St) (R : Nat → V → Hp → Prop) (mono : ∀ j v H1 H2, R j v H1 → (∀ b o, b ≠ D → H1 b = some o → H2 b = some o) → R j v H2) (e0 : σ0 = v0 :: rest) (hD : H D = none) (hz : ys.length ≤ sizeLine)
    (j1 : ∀ i H1, Same H H1 → i < ys.length → J.go i H1) (j2 : ∀ i H1 x H2, Same H H1 → J.yld i H1 x H2 → H2 = H1 ∧ ys[i]? = some x) (j3 : ∀ H1, Same H H1 → J.stop ys.length H1)
    (he : ∀ i y, ys[i]? = some y → ∀ H1 (K' : VK), Same H H1 → H1 D ≠ none → (∀ v H2, Same H1 H2 → R i v H2 → K' v H2) → te (some y :: rest) H1 K')
    (hQ : ∀ vs H', Same H H' → H' D = some (.lst vs) → vs.length = ys.length → (∀ j v, vs[j]? = some v → R j v H') → Q (.ref D) H') : CompW J (gName 0) tTrue te D Q σ0 (upd H D (.lst [])) := by
  refine ⟨fun i m σ' H' => m = ys.length - i ∧ i ≤ ys.length ∧ (∃ v, σ' = v :: rest) ∧ Same H H' ∧ ∃ vs, H' D = some (.lst vs) ∧ vs.length = i ∧ ∀ j v, vs[j]? = some v → R j v H', ⟨ys.length, by simp, Nat.zero_le _, ⟨v0, e0⟩, same_upd hD _, [], upd_same, rfl, fun j v h => by simp at h⟩, ?_⟩
  rintro i m σ' H' ⟨rfl, hi, ⟨v, rfl⟩, s1, vs, hv, hl, hr⟩
  by_cases hlt : i < ys.length
  · refine .inr ⟨j1 i H' s1 hlt, fun σ2 H2 => (∃ v, σ2 = v :: rest) ∧ Same H H2 ∧ ∃ vs, H2 D = some (.lst vs) ∧ vs.length = i + 1 ∧ ∀ j v, vs[j]? = some v → R j v H2, fun σ2 H2 ⟨a, b, c⟩ => ⟨ys.length - (i + 1), by omega, rfl, hlt, a, b, c⟩, fun x H2 hx => ?_⟩
    obtain ⟨e1, e2⟩ := j2 i H' x H2 s1 hx
    subst e1
    unfold gName tTrue
    rw [List.set_cons_zero]
    refine iteT (he i x e2 H2 _ s1 (by rw [hv]; exact fun z => (by cases z)) fun v H3 s3 hR => ?_)
    have h3 := s3 _ _ hv
    have sn : ∀ b o, b ≠ D → H3 b = some o → upd H3 D (.lst (vs ++ [v])) b = some o := fun b o nb hb => by
      rw [upd_ne nb]
      exact hb
    refine ⟨vs, h3, by omega, ⟨_, rfl⟩, fun b o hb => ?_, _, upd_same, by rw [List.length_append, hl]; rfl, fun j u hj => ?_⟩
    · rw [upd_ne (ne_of_none hb hD)]
      exact s3 _ _ (s1 _ _ hb)
    · by_cases hj' : j < vs.length
      · rw [List.getElem?_append_left hj'] at hj
        exact mono j u _ _ (mono j u _ _ (hr j u hj) fun b o _ hb => s3 b o hb) sn
      · rw [List.getElem?_append_right (by omega)] at hj
        have ej : j - vs.length = 0 := by
          have := (List.getElem?_eq_some_iff.mp hj).1
          simp at this
          omega
        rw [ej] at hj
        cases hj
        have : j = i := by omega
        subst this
        exact mono _ _ _ _ hR sn
  · have e : i = ys.length := by omega
    subst e
    exact .inl ⟨j3 _ s1, hQ vs H' s1 hv hl hr⟩
theorem comp_growXL {K : PySem.W.Frag} {a : Addr} {te : TE} {Q : VK} {H : Hp} {D : Addr} {ys : List V} {σ0 : St} (v0 : Option V) (rest : St) (R : Nat → V → Hp → Prop) (mono : ∀ j v H1 H2, R j v H1 → (∀ b o, b ≠ D → H1 b = some o → H2 b = some o) → R j v H2) (e0 : σ0 = v0 :: rest) (hD : H D = none) (hz : ys.length ≤ sizeLine) (ha : ∀ H1, Same H H1 → SqL K H1 a ys)
    (he : ∀ i y, ys[i]? = some y → ∀ H1 (K' : VK), Same H H1 → H1 D ≠ none → (∀ v H2, Same H1 H2 → R i v H2 → K' v H2) → te (some y :: rest) H1 K')
    (hQ : ∀ vs H', Same H H' → H' D = some (.lst vs) → vs.length = ys.length → (∀ j v, vs[j]? = some v → R j v H') → Q (.ref D) H') : CompW (Itl K a) (gName 0) tTrue te D Q σ0 (upd H D (.lst [])) :=
  comp_growX v0 rest R mono e0 hD hz (fun i H1 s h => ⟨ys, ys[i], ha H1 s, List.getElem?_eq_getElem h⟩) (fun i H1 x H2 s h => ⟨h.1, h.2 ys (ha H1 s)⟩) (fun H1 s => ⟨ys, ha H1 s, Nat.le_refl _⟩) he hQ
end L2
end

section
set_option Elab.async false
set_option linter.all false
set_option maxRecDepth 100000
set_option maxHeartbeats 1000000
namespace L2
open PySem PySem.Spec PyProof.Rows
end L2
end

section
set_option Elab.async false
set_option linter.all false
namespace L2
open PySem PySem.Spec PyProof.Rows
def rTupOf (K : PySem.W.Frag) : List V → Hp → VK → Prop := fun xs H Q => ∃ p ys, xs = [V.ref p] ∧ ((SqL K H p ys ∧ ∀ (l : Addr), H l = none → Q (V.ref l) (upd H l (HO.tup ys))) ∨ (SqT K H p ys ∧ Q (V.ref p) H))
theorem rTupOf_ap {K : PySem.W.Frag} {xs : List V} {H : Hp} {Q : VK} : rTupOf K xs H Q = (∃ p ys, xs = [V.ref p] ∧ ((SqL K H p ys ∧ ∀ (l : Addr), H l = none → Q (V.ref l) (upd H l (HO.tup ys))) ∨ (SqT K H p ys ∧ Q (V.ref p) H))) := rfl
def rLstOf (K : PySem.W.Frag) : List V → Hp → VK → Prop := fun xs H Q => ∃ p ys, xs = [V.ref p] ∧ (SqL K H p ys ∨ SqT K H p ys) ∧ ∀ (l : Addr), H l = none → Q (V.ref l) (upd H l (HO.lst ys))
theorem op_isnotB {X : Cx} : OpR X (compareOp .IsNot) (fun x y H Q => ∃ a b, x = .bl a ∧ y = .bl b ∧ Q (.bl (!(a == b))) H) := by
  intro pins s σ H x y v u Q I rx ry h
  obtain ⟨a, b, rfl, rfl, q⟩ := h
  obtain rfl : v = .bool a := rx
  obtain rfl : u = .bool b := ry
  show wpAny _ _ (do return Value.bool (!(← isSame (.bool a) (.bool b)))) _ _ _
  have e : isSame (.bool a) (.bool b) = pure (a == b) := by
    cases a <;> cases b <;> rfl
  rw [e]
  exact wpAny_bind (wpAny_pure (wpAny_pure ⟨.bl _, H, I, rfl, q⟩))
end L2
end

section
set_option Elab.async false
set_option linter.all false
set_option maxRecDepth 100000
set_option maxHeartbeats 1000000
namespace L2
open PySem PySem.Spec PyProof.Rows
def IsK (K : PySem.W.Frag) : Prop := True
def Ob (H : Hp) (a : Addr) (o : HO) : Prop := H a = some o
section
variable {K : PySem.W.Frag} {H H' H1 H2 : Hp} {a b p : Addr} {o u : HO} {xs ys : List V}
theorem Ob_eq : Ob H a o = (H a = some o) := rfl
grind_pattern Ob_eq => Ob H a o
theorem Ob.new : Ob (upd H p o) p o := upd_same
grind_pattern Ob.new => upd H p o
theorem Ob.same (h : Ob H a o) (s : Same H H') : Ob H' a o := s _ _ h
grind_pattern Ob.same => Ob H a o, Same H H'
theorem g_su (h : H p = none) : Same H (upd H p o) := same_upd h o
grind_pattern g_su => upd H p o
theorem g_st (h : Same H H1) (h' : Same H1 H2) : Same H H2 := h.trans h'
grind_pattern g_st => Same H H1, Same H1 H2
theorem g_sT (h : SqT K H a xs) (s : Same H H') : SqT K H' a xs := h.same s
grind_pattern g_sT => SqT K H a xs, Same H H'
theorem g_sL (h : SqL K H a xs) (s : Same H H') : SqL K H' a xs := h.same s
grind_pattern g_sL => SqL K H a xs, Same H H'
theorem g_nT (k : IsK K) (h : Ob H a (.tup xs)) : SqT K H a xs := SqT.of h
grind_pattern g_nT => IsK K, Ob H a (.tup xs)
theorem g_nL (k : IsK K) (h : Ob H a (.lst xs)) : SqL K H a xs := SqL.of h
grind_pattern g_nL => IsK K, Ob H a (.lst xs)
end
section
variable {α : Type} {x y z u v : α} {xs : List α}
theorem ix2 : atI (x :: y :: z :: xs) 2 = some z := by
  have : ((2 : Int) < (xs.length : Int) + 1 + 1 + 1) := by omega
  simp [atI, ixN, this]
theorem ix3 : atI (x :: y :: z :: u :: xs) 3 = some u := by
  have : ((3 : Int) < (xs.length : Int) + 1 + 1 + 1 + 1) := by omega
  simp [atI, ixN, this]
end
end L2
end

section
set_option Elab.async false
set_option linter.all false
set_option maxRecDepth 100000
set_option maxHeartbeats 1000000
namespace L2
open PySem PySem.Spec PyProof.Rows PySem.SeqAt
def mono (t : TE) : TE := fun σ H Q => ∃ Q0 : VK, t σ H Q0 ∧ ∀ v H', Q0 v H' → Q v H'
section
variable {X : Cx} {o e value : Expr} {f : Str} {pos pos' tpos : Pos} {ta tv : TE}
theorem PE.mono {t : TE} (h : PE X e t) : PE X e (mono t) := fun pins s σ H Q I ⟨Q0, h0, i⟩ => thn (h pins s σ H Q0 I h0) fun u s1 ⟨x, H1, I1, r, q⟩ => ⟨x, H1, I1, r, i _ _ q⟩
def opt2 (o : Option (Option V)) (R : V → Prop) : Prop := match o with
  | some (some v) => R v
  | _ => False
theorem opt2_some {v : V} {R : V → Prop} : opt2 (some (some v)) R = R v := rfl
def tVarF (i : Nat) : TE := fun σ H Q => opt2 σ[i]? fun v => Q v H
theorem tVarF_ap {i : Nat} {σ : St} {H : Hp} {Q : VK} : tVarF i σ H Q = opt2 σ[i]? fun v => Q v H := rfl
theorem opt2_ex {o : Option (Option V)} {R : V → Prop} (h : opt2 o R) : ∃ v, o = some (some v) ∧ R v := by
  unfold opt2 at h
  split at h
  · exact ⟨_, rfl, h⟩
  · cases h
theorem pe_varF {i : Nat} {x : Str} (hN : X.N[i]? = some x) (hv : Vis X.env.scope x) (hd : (x == ("__debug__" : Str)) = false := by decide) (hcd : (x == ("__classdict__" : Str)) = false := by decide) : PE X (.Name x pos) (tVarF i) :=
  fun pins s σ H Q I h => pe_var hN hv hd hcd pins s σ H Q I (opt2_ex h)
theorem pvF (i : Nat) {x : Str} (hN : X.N[i]? = some x := by rfl) (hv : Vis X.env.scope x := by first | exact Or.inl rfl | exact Or.inr (Or.inl rfl) | exact Or.inr (Or.inr rfl)) (hd : (x == ("__debug__" : Str)) = false := by decide)
    (hcd : (x == ("__classdict__" : Str)) = false := by decide) : PE X (.Name x pos) (tVarF i) := pe_varF hN hv hd hcd
inductive Fld (K : PySem.W.Frag) (f : Str) (a : Addr) (H : Hp) (Q : VK) : Prop
  | mk (C dx : Addr) (fs : List (Str × V)) (h : H a = some (.ins C dx fs)) (cl : Cls K C) (n : NoAttr K C f) (v : V) (l : fs.lookup f = some v) (q : Q v H) : Fld K f a H Q
def tFldF (K : PySem.W.Frag) (ta : TE) (f : Str) : TE := fun σ H Q => ta σ H fun x H1 => ∃ a, x = .ref a ∧ Fld K f a H1 Q
theorem tFldF_ap {K : PySem.W.Frag} {σ : St} {H : Hp} {Q : VK} : tFldF K ta f σ H Q = ta σ H fun x H1 => ∃ a, x = .ref a ∧ Fld K f a H1 Q := rfl
theorem pe_fldF (he : PE X e ta) (hb : attributeBase e f X.env (eval e X.env) = eval e X.env) : PE X (.Attribute e f pos) (tFldF X.K ta f) := by
  intro pins s σ H Q I h
  refine attr_of hb (thn (he pins s σ H _ I h) fun u s1 hz => ?_)
  obtain ⟨x, H1, I1, rx, a, ex, hz⟩ := hz
  obtain ⟨C, dx, fs, ea, c, n, v, l, q⟩ := hz
  subst ex
  cases (show u = Value.ref a from rx)
  exact getattr_ok I1 ea c n l fun u' s2 I2 ru => ⟨v, H1, I2, ru, q⟩
inductive SFld (K : PySem.W.Frag) (f : Str) (a : Addr) (H : Hp) (R : Addr → Addr → List (Str × V) → Prop) : Prop
  | mk (C dx : Addr) (fs : List (Str × V)) (h : H a = some (.ins C dx fs)) (cl : Cls K C) (n : NoAttr K C f) (l : fs.length < 1000) (r : R C dx fs) : SFld K f a H R
def sFldF (K : PySem.W.Frag) (ta tv : TE) (f : Str) : TS := fun D σ H => tv σ H fun y H1 => ta σ H1 fun x H2 => ∃ a, x = .ref a ∧ SFld K f a H2 fun C dx fs => D.nx σ (upd H2 a (.ins C dx (putF f y fs)))
theorem sFldF_ap {K : PySem.W.Frag} {D : Ends} {σ : St} {H : Hp} : sFldF K ta tv f D σ H = tv σ H fun y H1 => ta σ H1 fun x H2 => ∃ a, x = .ref a ∧ SFld K f a H2 fun C dx fs => D.nx σ (upd H2 a (.ins C dx (putF f y fs))) := rfl
theorem ps_fldF (ha : PE X o ta) (hv : PE X value tv) (hs : swapsWith value (some (.Attribute o f pos')) pos.line X.env = pure false) : PS X (.Assign [.Attribute o f pos'] value pos) (sFldF X.K ta tv f) := by
  intro pins s σ H D I h
  refine plainObj_wpAny_Assign_Attribute (thn (hv pins s σ H _ I h) fun u s1 ⟨y, H1, I1, ry, q⟩ => thn (ha pins s1 σ H1 _ I1 q) fun ov s2 hz => ?_) hs
  obtain ⟨x, H2, I2, rx, a, ex, hz⟩ := hz
  obtain ⟨C, dx, fs, ea, c, n, l, q2⟩ := hz
  subst ex
  cases (show ov = Value.ref a from rx)
  exact setattr_ok I2 ea c n l ry fun s3 I3 => ⟨σ, _, I3, q2⟩
inductive FldC (K : PySem.W.Frag) (f : Str) (a : Addr) (H : Hp) (R : Addr → V → Prop) : Prop
  | mk (C dx : Addr) (fs : List (Str × V)) (h : H a = some (.ins C dx fs)) (cl : Cls K C) (n : NoAttr K C f) (v : V) (l : fs.lookup f = some v) (q : R C v) : FldC K f a H R
inductive InsC (C a : Addr) (H : Hp) (R : Addr → List (Str × V) → Prop) : Prop
  | mk (dx : Addr) (fs : List (Str × V)) (h : H a = some (.ins C dx fs)) (l : fs.length < 1000) (r : R dx fs) : InsC C a H R
def sFldAugF (K : PySem.W.Frag) (ta tv : TE) (rd : V → V → Hp → VK → Prop) (f : Str) : TS := fun D σ H => ta σ H fun x H1 => ∃ a, x = .ref a ∧ FldC K f a H1 fun C v =>
  tv σ H1 fun y H2 => rd v y H2 fun z H3 => InsC C a H3 fun dx' fs' => D.nx σ (upd H3 a (.ins C dx' (putF f z fs')))
theorem sFldAugF_ap {K : PySem.W.Frag} {rd : V → V → Hp → VK → Prop} {D : Ends} {σ : St} {H : Hp} : sFldAugF K ta tv rd f D σ H = ta σ H fun x H1 => ∃ a, x = .ref a ∧ FldC K f a H1 fun C v =>
  tv σ H1 fun y H2 => rd v y H2 fun z H3 => InsC C a H3 fun dx' fs' => D.nx σ (upd H3 a (.ins C dx' (putF f z fs'))) := rfl
theorem ps_fldaugF {op : Operator} {rd : V → V → Hp → VK → Prop} (ha : PE X o ta) (hv : PE X value tv) (hop : InOp X op rd) : PS X (.AugAssign (.Attribute o f tpos) op value pos) (sFldAugF X.K ta tv rd f) := by
  intro pins s σ H D I h
  refine wpAny_AugAssign_AttributeAny (thn (ha pins s σ H _ I h) fun ov s1 hz => ?_)
  obtain ⟨x, H1, I1, rx, a, ex, hz⟩ := hz
  obtain ⟨C, dx, fs, ea, c, n, v, l, q⟩ := hz
  subst ex
  cases (show ov = Value.ref a from rx)
  refine getattr_ok I1 ea c n l fun u s2 I2 ru => thn (hv pins s2 σ H1 _ I2 q) fun w3 s3 ⟨y, H2, I3, ry, q3⟩ => thn (hop pins s3 σ H2 v y u w3 _ I3 ru ry q3) fun w4 s4 ⟨z, H3, I4, rz, hz⟩ => ?_
  obtain ⟨dx', fs', ea', l', q4⟩ := hz
  exact setattr_ok I4 ea' c n l' rz fun s5 I5 => ⟨σ, _, I5, q4⟩
inductive MethAt (C : Addr) (m : Str) (a : Addr) (H : Hp) (R : Prop) : Prop
  | mk (dx : Addr) (fs : List (Str × V)) (h : H a = some (.ins C dx fs)) (l : fs.lookup m = none) (r : R) : MethAt C m a H R
def tMethF (C : Addr) (m : Str) (sp : Sp) (dvs : List V) (E : XK) (ta : TE) (t : TA) : TE := fun σ H Q => ta σ H fun x H1 => ∃ a, x = .ref a ∧ MethAt C m a H1 (t σ H1 fun vs H2 => sp (x :: (vs ++ dvs)) H2 Q E)
theorem tMethF_ap {C : Addr} {m : Str} {sp : Sp} {dvs : List V} {E : XK} {t : TA} {σ : St} {H : Hp} {Q : VK} : tMethF C m sp dvs E ta t σ H Q = ta σ H fun x H1 => ∃ a, x = .ref a ∧ MethAt C m a H1 (t σ H1 fun vs H2 => sp (x :: (vs ++ dvs)) H2 Q E) := rfl
variable {C : Addr} {m : Str} {ps : List Str} {sp : Sp} {k j : Nat} {es : List Expr} {t : TA} {apos : Pos}
theorem pe_hasMF {pl : Sem Bool} (he : PE X o ta) (c : Cls X.K C) (h : HasM X.prog X.w X.K X.mg X.base k C m ps sp) (hr : Room j X.A) (hk : k ≤ j) (ha : PA X (e :: es) t)
    (hst : starEach (e :: es) X.env = (false, eval e X.env) :: starEach es X.env := by rfl) (hpl : (backTo pos (starEach es X.env)).any (·.1) = false := by rfl)
    (ht : eval (.Call (.Attribute o m apos) (e :: es) [] pos) X.env = (do
      let ov ← eval o X.env
      standAt apos.atName
      let (f, first) ← holding [ov] (getMethod ov m pl)
      callWith pos f first (backTo pos (starEach (e :: es) X.env)) (backToKw pos (keywordEach [] X.env))) := by rfl) :
    PE X (.Call (.Attribute o m apos) (e :: es) [] pos) (tMethF C m sp [] E0 ta t) :=
  fun pins s σ H Q I h' => pe_hasM he.mono c h hr hk ha hst hpl ht pins s σ H Q I ⟨_, h', fun _ _ ⟨a, e, dx, fs, h, l, r⟩ => ⟨a, dx, fs, e, h, l, r⟩⟩
theorem pe_hasM0F {pl : Sem Bool} (he : PE X o ta) (c : Cls X.K C) (h : HasM X.prog X.w X.K X.mg X.base k C m ps sp) (hr : Room j X.A) (hk : k ≤ j)
    (ht : eval (.Call (.Attribute o m apos) [] [] pos) X.env = (do
      let ov ← eval o X.env
      standAt apos.atName
      let (f, first) ← holding [ov] (getMethod ov m pl)
      callWith pos f first (backTo pos (starEach [] X.env)) (backToKw pos (keywordEach [] X.env))) := by rfl) :
    PE X (.Call (.Attribute o m apos) [] [] pos) (tMethF C m sp [] E0 ta tNil) :=
  fun pins s σ H Q I h' => pe_hasM0 he.mono c h hr hk ht pins s σ H Q I ⟨_, h', fun _ _ ⟨a, e, dx, fs, h, l, r⟩ => ⟨a, dx, fs, e, h, l, r⟩⟩
inductive IxT (K : PySem.W.Frag) (p : Addr) (i : Int) (H : Hp) (Q : VK) : Prop
  | mk (xs : List V) (h : SqT K H p xs) (v : V) (l : atI xs i = some v) (q : Q v H) : IxT K p i H Q
inductive IxL (K : PySem.W.Frag) (p : Addr) (i : Int) (H : Hp) (Q : VK) : Prop
  | mk (xs : List V) (h : SqL K H p xs) (v : V) (l : atI xs i = some v) (q : Q v H) : IxL K p i H Q
def rIxTF (K : PySem.W.Frag) : R2 := fun x y H Q => ∃ p, x = .ref p ∧ ∃ i, y = .int i ∧ IxT K p i H Q
def rIxLF (K : PySem.W.Frag) : R2 := fun x y H Q => ∃ p, x = .ref p ∧ ∃ i, y = .int i ∧ IxL K p i H Q
theorem rIxTF_ap {K : PySem.W.Frag} {x y : V} {H : Hp} {Q : VK} : rIxTF K x y H Q = ∃ p, x = .ref p ∧ ∃ i, y = .int i ∧ IxT K p i H Q := rfl
theorem rIxLF_ap {K : PySem.W.Frag} {x y : V} {H : Hp} {Q : VK} : rIxLF K x y H Q = ∃ p, x = .ref p ∧ ∃ i, y = .int i ∧ IxL K p i H Q := rfl
theorem ix_tupF : IxR X (rIxTF X.K) := fun value slice pins s σ H x y v u Q I rx ry ⟨p, e1, i, e2, xs, h, z, l, q⟩ hs => ix_tup value slice pins s σ H x y v u Q I rx ry ⟨p, xs, i, z, e1, e2, h, l, q⟩ hs
theorem ix_listF : IxR X (rIxLF X.K) := fun value slice pins s σ H x y v u Q I rx ry ⟨p, e1, i, e2, xs, h, z, l, q⟩ hs => ix_list value slice pins s σ H x y v u Q I rx ry ⟨p, xs, i, z, e1, e2, h, l, q⟩ hs
inductive SetL (p : Addr) (k : Int) (H : Hp) (R : List V → Nat → Prop) : Prop
  | mk (xs : List V) (h : H p = some (.lst xs)) (j : Nat) (l : ixN xs.length k = some j) (r : R xs j) : SetL p k H R
def rSetLF : TSet := fun o i v H Q => ∃ p, o = .ref p ∧ ∃ k, i = .int k ∧ SetL p k H fun xs j => Q (upd H p (.lst (xs.set j v)))
theorem rSetLF_ap {o i v : V} {H : Hp} {Q : Hp → Prop} : rSetLF o i v H Q = ∃ p, o = .ref p ∧ ∃ k, i = .int k ∧ SetL p k H fun xs j => Q (upd H p (.lst (xs.set j v))) := rfl
theorem set_listF : PSet X rSetLF := fun pins s σ H o i v ov iv u Q I ro ri rv ⟨p, e1, k, e2, xs, h, j, l, q⟩ => set_list pins s σ H o i v ov iv u Q I ro ri rv ⟨p, xs, k, j, e1, e2, h, l, q⟩
inductive HdOf (vs : List V) (R : V → List V → Prop) : Prop
  | mk (v : V) (r : List V) (e : vs = v :: r) (q : R v r) : HdOf vs R
inductive TupOf (K : PySem.W.Frag) (a : Addr) (n : Nat) (H : Hp) (R : List V → Prop) : Prop
  | mk (xs : List V) (h : SqT K H a xs) (l : xs.length = n) (q : R xs) : TupOf K a n H R
def gTupF (K : PySem.W.Frag) (n : Nat) (t : TGs) : TG := fun v σ H Q => ∃ a, v = .ref a ∧ TupOf K a n H fun xs => t xs σ H Q
theorem gTupF_ap {K : PySem.W.Frag} {n : Nat} {t : TGs} {v : V} {σ : St} {H : Hp} {Q : St → Hp → Prop} : gTupF K n t v σ H Q = ∃ a, v = .ref a ∧ TupOf K a n H fun xs => t xs σ H Q := rfl
def gConsF (t : TG) (u : TGs) : TGs := fun vs σ H Q => HdOf vs fun v r => t v σ H fun σ' H' => u r σ' H' Q
theorem gConsF_ap {t : TG} {u : TGs} {vs : List V} {σ : St} {H : Hp} {Q : St → Hp → Prop} : gConsF t u vs σ H Q = HdOf vs fun v r => t v σ H fun σ' H' => u r σ' H' Q := rfl
theorem pgs_consF {e : Expr} {es : List Expr} {t : TG} {u : TGs} (h1 : PG X e t) (h2 : PGs X es u)
    (hs : (assignEach (e :: es) X.env).map (·.2) = assign e X.env :: (assignEach es X.env).map (·.2) := by rfl) : PGs X (e :: es) (gConsF t u) :=
  fun pins s σ H vs us Q I r ⟨v, w, e, q⟩ => pgs_cons h1 h2 hs pins s σ H vs us Q I r ⟨v, w, e, q⟩
theorem pg_tupF {es : List Expr} {k : Nat} {t : TGs} {n : Nat} (hc : X.calm = true) (h : PGs X es t)
    (hn : (assignEach es X.env).length = n := by rfl) (hst : (assignEach es X.env).findIdx? (·.1) = none := by rfl) : PG X (.Tuple es k pos) (gTupF X.K n t) :=
  fun pins s σ H v u Q I r ⟨a, e, xs, h', l, q⟩ => pg_tup hc h hn hst pins s σ H v u Q I r ⟨a, xs, e, h', l, q⟩
end
@[elab_as_elim] theorem el0 {α : Type} {motive : List α → Prop} (us : List α) (h : us.length = 0) (k : motive []) : motive us := match us, h with | [], _ => k 
@[elab_as_elim] theorem el1 {α : Type} {motive : List α → Prop} (us : List α) (h : us.length = 1) (k : ∀ a : α, motive [a]) : motive us := match us, h with | [a], _ => k a
@[elab_as_elim] theorem el2 {α : Type} {motive : List α → Prop} (us : List α) (h : us.length = 2) (k : ∀ a b : α, motive [a, b]) : motive us := match us, h with | [a, b], _ => k a b
@[elab_as_elim] theorem el3 {α : Type} {motive : List α → Prop} (us : List α) (h : us.length = 3) (k : ∀ a b c : α, motive [a, b, c]) : motive us := match us, h with | [a, b, c], _ => k a b c
@[elab_as_elim] theorem el4 {α : Type} {motive : List α → Prop} (us : List α) (h : us.length = 4) (k : ∀ a b c d : α, motive [a, b, c, d]) : motive us := match us, h with | [a, b, c, d], _ => k a b c d
@[elab_as_elim] theorem el5 {α : Type} {motive : List α → Prop} (us : List α) (h : us.length = 5) (k : ∀ a b c d e : α, motive [a, b, c, d, e]) : motive us := match us, h with | [a, b, c, d, e], _ => k a b c d e
@[elab_as_elim] theorem el6 {α : Type} {motive : List α → Prop} (us : List α) (h : us.length = 6) (k : ∀ a b c d e f : α, motive [a, b, c, d, e, f]) : motive us := match us, h with | [a, b, c, d, e, f], _ => k a b c d e f
@[elab_as_elim] theorem el7 {α : Type} {motive : List α → Prop} (us : List α) (h : us.length = 7) (k : ∀ a b c d e f g : α, motive [a, b, c, d, e, f, g]) : motive us := match us, h with | [a, b, c, d, e, f, g], _ => k a b c d e f g
theorem seq2 {t1 t2 : TS} {D : Ends} {σ : St} {H : Hp} (h : ∀ u1, u1 = t2 → t1 { D with nx := u1 D } σ H) : (tSeq t1 t2) D σ H := h _ rfl
theorem seq3 {t1 t2 t3 : TS} {D : Ends} {σ : St} {H : Hp} (h : ∀ u2, u2 = t3 → ∀ u1, u1 = tSeq t2 u2 → t1 { D with nx := u1 D } σ H) : (tSeq t1 (tSeq t2 t3)) D σ H := h _ rfl _ rfl
theorem seq4 {t1 t2 t3 t4 : TS} {D : Ends} {σ : St} {H : Hp} (h : ∀ u3, u3 = t4 → ∀ u2, u2 = tSeq t3 u3 → ∀ u1, u1 = tSeq t2 u2 → t1 { D with nx := u1 D } σ H) : (tSeq t1 (tSeq t2 (tSeq t3 t4))) D σ H := h _ rfl _ rfl _ rfl
theorem seq5 {t1 t2 t3 t4 t5 : TS} {D : Ends} {σ : St} {H : Hp} (h : ∀ u4, u4 = t5 → ∀ u3, u3 = tSeq t4 u4 → ∀ u2, u2 = tSeq t3 u3 → ∀ u1, u1 = tSeq t2 u2 → t1 { D with nx := u1 D } σ H) : (tSeq t1 (tSeq t2 (tSeq t3 (tSeq t4 t5)))) D σ H := h _ rfl _ rfl _ rfl _ rfl
theorem seq6 {t1 t2 t3 t4 t5 t6 : TS} {D : Ends} {σ : St} {H : Hp} (h : ∀ u5, u5 = t6 → ∀ u4, u4 = tSeq t5 u5 → ∀ u3, u3 = tSeq t4 u4 → ∀ u2, u2 = tSeq t3 u3 → ∀ u1, u1 = tSeq t2 u2 → t1 { D with nx := u1 D } σ H) : (tSeq t1 (tSeq t2 (tSeq t3 (tSeq t4 (tSeq t5 t6))))) D σ H := h _ rfl _ rfl _ rfl _ rfl _ rfl
theorem seq9 {t1 t2 t3 t4 t5 t6 t7 t8 t9 : TS} {D : Ends} {σ : St} {H : Hp} (h : ∀ u8, u8 = t9 → ∀ u7, u7 = tSeq t8 u8 → ∀ u6, u6 = tSeq t7 u7 → ∀ u5, u5 = tSeq t6 u6 → ∀ u4, u4 = tSeq t5 u5 → ∀ u3, u3 = tSeq t4 u4 → ∀ u2, u2 = tSeq t3 u3 → ∀ u1, u1 = tSeq t2 u2 → t1 { D with nx := u1 D } σ H) : (tSeq t1 (tSeq t2 (tSeq t3 (tSeq t4 (tSeq t5 (tSeq t6 (tSeq t7 (tSeq t8 t9)))))))) D σ H := h _ rfl _ rfl _ rfl _ rfl _ rfl _ rfl _ rfl _ rfl
theorem seq11 {t1 t2 t3 t4 t5 t6 t7 t8 t9 t10 t11 : TS} {D : Ends} {σ : St} {H : Hp} (h : ∀ u10, u10 = t11 → ∀ u9, u9 = tSeq t10 u10 → ∀ u8, u8 = tSeq t9 u9 → ∀ u7, u7 = tSeq t8 u8 → ∀ u6, u6 = tSeq t7 u7 → ∀ u5, u5 = tSeq t6 u6 → ∀ u4, u4 = tSeq t5 u5 → ∀ u3, u3 = tSeq t4 u4 → ∀ u2, u2 = tSeq t3 u3 → ∀ u1, u1 = tSeq t2 u2 → t1 { D with nx := u1 D } σ H) : (tSeq t1 (tSeq t2 (tSeq t3 (tSeq t4 (tSeq t5 (tSeq t6 (tSeq t7 (tSeq t8 (tSeq t9 (tSeq t10 t11)))))))))) D σ H := h _ rfl _ rfl _ rfl _ rfl _ rfl _ rfl _ rfl _ rfl _ rfl _ rfl
theorem seq12 {t1 t2 t3 t4 t5 t6 t7 t8 t9 t10 t11 t12 : TS} {D : Ends} {σ : St} {H : Hp} (h : ∀ u11, u11 = t12 → ∀ u10, u10 = tSeq t11 u11 → ∀ u9, u9 = tSeq t10 u10 → ∀ u8, u8 = tSeq t9 u9 → ∀ u7, u7 = tSeq t8 u8 → ∀ u6, u6 = tSeq t7 u7 → ∀ u5, u5 = tSeq t6 u6 → ∀ u4, u4 = tSeq t5 u5 → ∀ u3, u3 = tSeq t4 u4 → ∀ u2, u2 = tSeq t3 u3 → ∀ u1, u1 = tSeq t2 u2 → t1 { D with nx := u1 D } σ H) : (tSeq t1 (tSeq t2 (tSeq t3 (tSeq t4 (tSeq t5 (tSeq t6 (tSeq t7 (tSeq t8 (tSeq t9 (tSeq t10 (tSeq t11 t12))))))))))) D σ H := h _ rfl _ rfl _ rfl _ rfl _ rfl _ rfl _ rfl _ rfl _ rfl _ rfl _ rfl
theorem seq16 {t1 t2 t3 t4 t5 t6 t7 t8 t9 t10 t11 t12 t13 t14 t15 t16 : TS} {D : Ends} {σ : St} {H : Hp} (h : ∀ u15, u15 = t16 → ∀ u14, u14 = tSeq t15 u15 → ∀ u13, u13 = tSeq t14 u14 → ∀ u12, u12 = tSeq t13 u13 → ∀ u11, u11 = tSeq t12 u12 → ∀ u10, u10 = tSeq t11 u11 → ∀ u9, u9 = tSeq t10 u10 → ∀ u8, u8 = tSeq t9 u9 → ∀ u7, u7 = tSeq t8 u8 → ∀ u6, u6 = tSeq t7 u7 → ∀ u5, u5 = tSeq t6 u6 → ∀ u4, u4 = tSeq t5 u5 → ∀ u3, u3 = tSeq t4 u4 → ∀ u2, u2 = tSeq t3 u3 → ∀ u1, u1 = tSeq t2 u2 → t1 { D with nx := u1 D } σ H) : (tSeq t1 (tSeq t2 (tSeq t3 (tSeq t4 (tSeq t5 (tSeq t6 (tSeq t7 (tSeq t8 (tSeq t9 (tSeq t10 (tSeq t11 (tSeq t12 (tSeq t13 (tSeq t14 (tSeq t15 t16))))))))))))))) D σ H := h _ rfl _ rfl _ rfl _ rfl _ rfl _ rfl _ rfl _ rfl _ rfl _ rfl _ rfl _ rfl _ rfl _ rfl _ rfl
def New (H : Hp) (o : HO) (R : Addr → Hp → Prop) : Prop := ∀ p, H p = none → R p (upd H p o)
theorem New.of {H : Hp} {o : HO} {R : Addr → Hp → Prop} (h : ∀ p H', H p = none → Same H H' → H' p = some o → R p H') : New H o R := fun p hp => h p _ hp (same_upd hp o) upd_same
theorem tTup_nw {t : TA} {σ : St} {H : Hp} {Q : VK} : tTup t σ H Q = (t σ H fun xs H1 => xs.length ≤ sizeLine ∧ New H1 (.tup xs) fun p H2 => Q (.ref p) H2) := rfl
theorem tLst_nw {t : TA} {σ : St} {H : Hp} {Q : VK} : tLst t σ H Q = (t σ H fun xs H1 => xs.length ≤ sizeLine ∧ New H1 (.lst xs) fun p H2 => Q (.ref p) H2) := rfl
theorem rSlL_nw {K : PySem.W.Frag} {x : V} {lo : Option Int} {hi : Option Int} {H : Hp} {Q : VK} : rSlL K x lo hi H Q = (∃ a xs, x = .ref a ∧ SqL K H a xs ∧ New H (.lst (cutV xs lo hi)) fun p H2 => Q (.ref p) H2) := rfl
theorem rCat_nw {x : V} {y : V} {H : Hp} {Q : VK} : rCat  x y H Q = (∃ l b xs zs, x = .ref l ∧ y = .ref b ∧ H l = some (.lst xs) ∧ H b = some (.lst zs) ∧ xs.length + zs.length ≤ sizeLine ∧ New H (.lst (xs ++ zs)) fun p H2 => Q (.ref p) H2) := rfl
end L2
end

section
namespace Mach
inductive AV | non | bl (b : Bool) | int (i : Int) | th (k : Nat)
  deriving DecidableEq
inductive Sg | add | sub | mul | div | less | same
  deriving DecidableEq
inductive Row
  | push (v : AV) | load (i : Nat) | nt | get (pl : Nat) | keep (i : Nat) | drop | skip (n : Nat) | unl (n : Nat) | two (g : Sg)
  | make (house many : Nat) | put (pl : Nat) | call (site word many : Nat) | straight (block many : Nat) | back
structure Blk where
  params : Nat
  size : Nat
  rows : List Row
structure AFr where
  n : Nat
  pc : Nat
  sl : List AV
  st : List AV
inductive End | val (v : AV) | thing (h : Nat) | dry | deep | great | nought
structure Prog where
  blocks : List Blk
  tables : List (List (Option Nat))
  most : Nat
  rem : Bool
noncomputable abbrev PL := List (Int × Int)
noncomputable abbrev Mem := Int → Option PL
noncomputable def getP (m : Mem) (k : Int) : PL := (m k).getD []
noncomputable def updM (m : Mem) (k : Int) (ps : PL) : Mem := fun j => if j = k then some ps else m j
noncomputable def seen (ps : PL) (h : Int) : PL := ps.filter fun p => decide (p.1 = h)
noncomputable def others (ps : PL) (h : Int) : PL := ps.filter fun p => !decide (p.1 = h)
structure MS where
  frames : List AFr
  made : List (Nat × List AV)
  ended : Option End
  calls : Nat
  looks : Nat
  hits : Nat
  rows : Nat
  mem : Mem
noncomputable def Bd (n : Int) : Prop := -1000000000000000 ≤ n ∧ n ≤ 1000000000000000
instance (n : Int) : Decidable (Bd n) := by unfold Bd; infer_instance
noncomputable def told (n : Int) : AV ⊕ End := if Bd n then .inl (.int n) else .inr .great
noncomputable def two : Sg → AV → AV → Option (AV ⊕ End)
  | .add, .int a, .int b => some (told (a + b))
  | .sub, .int a, .int b => some (told (a - b))
  | .mul, .int a, .int b => some (told (a * b))
  | .div, .int a, .int b => some (if b = 0 then .inr .nought else told (a.fdiv b))
  | .less, .int a, .int b => some (.inl (.bl (decide (a < b))))
  | .same, .int a, .int b => some (.inl (.bl (decide (a = b))))
  | .same, .bl a, .bl b => some (.inl (.bl (decide (a = b))))
  | .same, .th a, .th b => some (.inl (.bl (decide (a = b))))
  | _, _, _ => none
theorem two_add {a b : Int} : two .add (.int a) (.int b) = some (told (a + b)) := rfl
theorem two_sub {a b : Int} : two .sub (.int a) (.int b) = some (told (a - b)) := rfl
noncomputable def ends (s : MS) (e : End) : MS := { s with frames := [], ended := some e }
noncomputable def own (f : AFr) (made : List (Nat × List AV)) : Row → Option (AFr ⊕ End)
  | .push v => some (.inl { f with pc := f.pc + 1, st := v :: f.st })
  | .load i => (f.sl[i]?).map fun v => .inl { f with pc := f.pc + 1, st := v :: f.st }
  | .nt => match f.st with
    | .bl b :: st => some (.inl { f with pc := f.pc + 1, st := .bl (!b) :: st })
    | _ => none
  | .get pl => match f.st with
    | .th k :: st => (made[k]?).bind fun t => (t.2[pl]?).map fun v => .inl { f with pc := f.pc + 1, st := v :: st }
    | _ => none
  | .keep i => match f.st with
    | v :: st => if i < f.sl.length then some (.inl { f with pc := f.pc + 1, sl := f.sl.set i v, st := st }) else none
    | _ => none
  | .drop => match f.st with
    | _ :: st => some (.inl { f with pc := f.pc + 1, st := st })
    | _ => none
  | .skip n => some (.inl { f with pc := f.pc + 1 + n })
  | .unl n => match f.st with
    | .bl b :: st => some (.inl { f with pc := f.pc + 1 + (if b then 0 else n), st := st })
    | _ => none
  | .two g => match f.st with
    | y :: x :: st => (two g x y).map fun r => match r with
      | .inl v => .inl { f with pc := f.pc + 1, st := v :: st }
      | .inr e => .inr e
    | _ => none
  | _ => none
noncomputable def enter (P : Prog) (s : MS) (f : AFr) (fs : List AFr) (block many : Nat) : Option MS :=
  if P.most ≤ s.calls then some (ends s .dry)
  else if 40 < fs.length + 1 then some (ends { s with calls := s.calls + 1 } .deep)
  else if many ≤ f.st.length then (P.blocks[block]?).bind fun b => if many ≤ b.size then
    some { s with calls := s.calls + 1, frames := ⟨block, 0, (f.st.take many).reverse ++ List.replicate (b.size - many) .non, []⟩ :: { f with pc := f.pc + 1, st := f.st.drop many } :: fs } else none
  else none
noncomputable def found (P : Prog) (s : MS) (house site word : Nat) : Option (Nat × MS) :=
  let looked := ((P.tables[house]?).bind fun t => (t[word]?).join).map fun b => (b, { s with looks := s.looks + 1, mem := if P.rem then updM s.mem site (((house : Int), (b : Int)) :: getP s.mem site |>.take 2) else s.mem })
  if P.rem then
    match seen (getP s.mem site) house with
    | (_, b) :: _ => some (b.toNat, { s with hits := s.hits + 1, mem := updM s.mem site (seen (getP s.mem site) house ++ others (getP s.mem site) house) })
    | [] => looked
  else looked
noncomputable def rowM (P : Prog) (s : MS) (f : AFr) (fs : List AFr) : Row → Option MS
  | .make h m => if m ≤ f.st.length then some { s with made := s.made ++ [(h, (f.st.take m).reverse)], frames := { f with pc := f.pc + 1, st := .th s.made.length :: f.st.drop m } :: fs } else none
  | .put pl => match f.st with
    | v :: .th k :: st => (s.made[k]?).bind fun t => if pl < t.2.length then some { s with made := s.made.set k (t.1, t.2.set pl v), frames := { f with pc := f.pc + 1, st := v :: st } :: fs } else none
    | _ => none
  | .call site word many => match (f.st.take many).reverse with
    | .th k :: _ => if many ≤ f.st.length then (s.made[k]?).bind fun t => (found P s t.1 site word).bind fun r => enter P r.2 f fs r.1 many else none
    | _ => none
  | .straight b many => enter P s f fs b many
  | .back => match f.st with
    | v :: _ => match fs with
      | [] => match v with
        | .th k => (s.made[k]?).map fun t => ends s (.thing t.1)
        | v => some (ends s (.val v))
      | g :: gs => some { s with frames := { g with st := v :: g.st } :: gs }
    | _ => none
  | r => (own f s.made r).map fun o => match o with
    | .inl f' => { s with frames := f' :: fs }
    | .inr e => ends s e
noncomputable def row? (P : Prog) (f : AFr) : Option Row := (P.blocks[f.n]?).bind fun b => b.rows[f.pc]?
noncomputable def step (P : Prog) (s : MS) : Option MS := match s.ended, s.frames with
  | none, f :: fs => (row? P f).bind fun r => rowM P { s with rows := s.rows + 1 } f fs r
  | _, _ => none
theorem step_rows {P : Prog} {s : MS} {f : AFr} {fs : List AFr} {r : Row} (h1 : s.ended = none) (h2 : s.frames = f :: fs) (h3 : row? P f = some r) : step P s = rowM P { s with rows := s.rows + 1 } f fs r := by
  unfold step
  rw [h1, h2]
  show (row? P f).bind _ = _
  rw [h3]
  rfl
end Mach
end

section
namespace Mach
set_option linter.all false
theorem len_filter {α : Type} (p : α → Bool) : ∀ l : List α, (l.filter p).length + (l.filter fun x => !p x).length = l.length
  | [] => rfl
  | x :: l => by
    have ih := len_filter p l
    cases e : p x with
    | true => rw [List.filter_cons_of_pos e, List.filter_cons_of_neg (by rw [e]; decide), List.length_cons, List.length_cons, Nat.add_right_comm, ih]
    | false => rw [List.filter_cons_of_neg (by rw [e]; decide), List.filter_cons_of_pos (by rw [e]; rfl), List.length_cons, List.length_cons, ← Nat.add_assoc, ih]
structure OwnS (f : AFr) (r : Row) (g : AFr) : Prop where
  n : g.n = f.n
  sl : g.sl.length = f.sl.length
  st : g.st.length ≤ f.st.length + 1
  pc : ∃ k, g.pc = f.pc + 1 + k ∧ (k = 0 ∨ r = .unl k ∨ r = .skip k)
theorem own_shape {f g : AFr} {made : List (Nat × List AV)} {r : Row} (e : own f made r = some (.inl g)) : OwnS f r g := by
  obtain ⟨n, pc, sl, st⟩ := f
  have z : ∀ {sl' st' : List AV} {st : List AV} {r : Row}, sl'.length = sl.length → st'.length ≤ st.length + 1 → OwnS ⟨n, pc, sl, st⟩ r ⟨n, pc + 1, sl', st'⟩ := fun a b => ⟨rfl, a, b, 0, rfl, .inl rfl⟩
  cases r with
  | push v => cases e; exact z rfl (Nat.le_refl _)
  | load i =>
    obtain ⟨v, _, e⟩ := Option.map_eq_some_iff.mp e
    cases e; exact z rfl (Nat.le_refl _)
  | nt =>
    cases st with
    | nil => cases e
    | cons v st =>
      cases v with
      | bl b => cases e; exact z rfl (Nat.le_succ _)
      | _ => cases e
  | get pl =>
    cases st with
    | nil => cases e
    | cons v st =>
      cases v with
      | th k =>
        obtain ⟨t, _, e⟩ := Option.bind_eq_some_iff.mp e
        obtain ⟨v, _, e⟩ := Option.map_eq_some_iff.mp e
        cases e; exact z rfl (Nat.le_succ _)
      | _ => cases e
  | keep i =>
    cases st with
    | nil => cases e
    | cons v st =>
      change (if i < sl.length then _ else _) = _ at e
      split at e
      · cases e; exact z (List.length_set ..) (Nat.le_add_right _ 2)
      · cases e
  | drop =>
    cases st with
    | nil => cases e
    | cons v st => cases e; exact z rfl (Nat.le_add_right _ 2)
  | skip k => cases e; exact ⟨rfl, rfl, Nat.le_succ _, k, rfl, .inr (.inr rfl)⟩
  | unl k =>
    cases st with
    | nil => cases e
    | cons v st =>
      cases v with
      | bl b =>
        cases b with
        | true => cases e; exact z rfl (Nat.le_add_right _ 2)
        | false => cases e; exact ⟨rfl, rfl, Nat.le_add_right _ 2, k, rfl, .inr (.inl rfl)⟩
      | _ => cases e
  | two g' =>
    cases st with
    | nil => cases e
    | cons y st =>
      cases st with
      | nil => cases e
      | cons x st =>
        obtain ⟨r, _, e⟩ := Option.map_eq_some_iff.mp e
        cases r with
        | inl v => cases e; exact z rfl (Nat.le_add_right _ 2)
        | inr q => cases e
  | _ => cases e
inductive EnS (P : Prog) (s : MS) (f : AFr) (fs : List AFr) (b m : Nat) : MS → Prop
  | dry : EnS P s f fs b m (ends s .dry)
  | deep : EnS P s f fs b m (ends { s with calls := s.calls + 1 } .deep)
  | go (k : Blk) : P.blocks[b]? = some k → m ≤ f.st.length → m ≤ k.size → fs.length + 1 ≤ 40 →
    EnS P s f fs b m { s with calls := s.calls + 1, frames := ⟨b, 0, (f.st.take m).reverse ++ List.replicate (k.size - m) .non, []⟩ :: { f with pc := f.pc + 1, st := f.st.drop m } :: fs }
theorem enter_shape {P : Prog} {s s' : MS} {f : AFr} {fs : List AFr} {b m : Nat} (e : enter P s f fs b m = some s') : EnS P s f fs b m s' := by
  unfold enter at e
  split at e
  · cases e; exact .dry
  split at e
  · cases e; exact .deep
  rename_i h40
  split at e
  · rename_i hl
    obtain ⟨k, hk, e⟩ := Option.bind_eq_some_iff.mp e
    split at e
    · rename_i hm
      cases e; exact .go k hk hl hm (Nat.le_of_not_lt h40)
    · cases e
  · cases e
theorem found_shape {P : Prog} {s s' : MS} {h si w b : Nat} (e : found P s h si w = some (b, s')) : ∃ l g m, s' = { s with looks := l, hits := g, mem := m } ∧ l + g = s.looks + s.hits + 1 ∧ (P.rem = false → m = s.mem) ∧
    (m = s.mem ∨ m = updM s.mem si ((((h : Int), (b : Int)) :: getP s.mem si).take 2) ∨ m = updM s.mem si (seen (getP s.mem si) h ++ others (getP s.mem si) h)) := by
  unfold found at e
  split at e
  · rename_i hr
    split at e
    · cases e; exact ⟨_, _, _, rfl, rfl, fun z => (by rw [z] at hr; cases hr), .inr (.inr rfl)⟩
    · obtain ⟨_, _, e⟩ := Option.map_eq_some_iff.mp e
      cases e; exact ⟨_, _, _, rfl, Nat.add_right_comm _ _ _, fun z => (by rw [z] at hr; cases hr), .inr (.inl rfl)⟩
  · rename_i hr
    obtain ⟨_, _, e⟩ := Option.map_eq_some_iff.mp e
    cases e; exact ⟨_, _, _, rfl, Nat.add_right_comm _ _ _, fun _ => rfl, .inl rfl⟩
inductive RS (P : Prog) (s : MS) (f : AFr) (fs : List AFr) (r : Row) : MS → Prop
  | own (g : AFr) : OwnS f r g → RS P s f fs r { s with frames := g :: fs }
  | ends (e : End) : RS P s f fs r (ends s e)
  | make (h m : Nat) : r = .make h m → m ≤ f.st.length → RS P s f fs r { s with made := s.made ++ [(h, (f.st.take m).reverse)], frames := { f with pc := f.pc + 1, st := .th s.made.length :: f.st.drop m } :: fs }
  | put (v x : AV) (st : List AV) (k pl : Nat) (t : Nat × List AV) : f.st = v :: x :: st → s.made[k]? = some t → RS P s f fs r { s with made := s.made.set k (t.1, t.2.set pl v), frames := { f with pc := f.pc + 1, st := v :: st } :: fs }
  | call (h si w b m : Nat) (s1 : MS) {s' : MS} : r = .call si w m → found P s h si w = some (b, s1) → EnS P s1 f fs b m s' → RS P s f fs r s'
  | strt (b m : Nat) {s' : MS} : r = .straight b m → EnS P s f fs b m s' → RS P s f fs r s'
  | back (v : AV) (g : AFr) (gs : List AFr) : fs = g :: gs → RS P s f fs r { s with frames := { g with st := v :: g.st } :: gs }
theorem row_shape {P : Prog} {s s' : MS} {f : AFr} {fs : List AFr} {r : Row} (e : rowM P s f fs r = some s') : RS P s f fs r s' := by
  have own_ : ∀ {r'}, Option.map (fun o => match o with | .inl f' => ({ s with frames := f' :: fs } : MS) | .inr e => Mach.ends s e) (own f s.made r') = some s' → RS P s f fs r' s' := by
    intro r' e2
    obtain ⟨o, h, e2⟩ := Option.map_eq_some_iff.mp e2
    cases o with
    | inl g => cases e2; exact .own g (own_shape h)
    | inr x => cases e2; exact .ends x
  obtain ⟨n, pc, sl, st⟩ := f
  cases r with
  | make h m =>
    change (if m ≤ st.length then _ else _) = _ at e
    split at e
    · rename_i hm
      cases e; exact .make h m rfl hm
    · cases e
  | put pl =>
    cases st with
    | nil => cases e
    | cons v st =>
      cases st with
      | nil => cases e
      | cons x st =>
        cases x with
        | th k =>
          obtain ⟨t, ht, e⟩ := Option.bind_eq_some_iff.mp e
          split at e
          · cases e; exact .put v _ st k pl t rfl ht
          · cases e
        | _ => cases e
  | call si w m =>
    change (match (st.take m).reverse with | .th k :: _ => if m ≤ st.length then (s.made[k]?).bind fun t => (found P s t.1 si w).bind fun r => enter P r.2 ⟨n, pc, sl, st⟩ fs r.1 m else none | _ => none) = _ at e
    generalize (st.take m).reverse = q at e
    cases q with
    | nil => cases e
    | cons x q =>
      cases x with
      | th k =>
        change (if m ≤ st.length then _ else _) = _ at e
        split at e
        · obtain ⟨t, _, e⟩ := Option.bind_eq_some_iff.mp e
          obtain ⟨⟨b, s1⟩, h, e⟩ := Option.bind_eq_some_iff.mp e
          exact .call t.1 si w b m s1 rfl h (enter_shape e)
        · cases e
      | _ => cases e
  | straight b m => exact .strt b m rfl (enter_shape e)
  | back =>
    cases st with
    | nil => cases e
    | cons v st =>
      cases fs with
      | nil =>
        cases v with
        | th k =>
          obtain ⟨t, _, e⟩ := Option.map_eq_some_iff.mp e
          cases e; exact .ends _
        | _ => cases e; exact .ends _
      | cons g gs => cases e; exact .back v g gs rfl
  | push v => exact own_ (r' := .push v) e
  | skip n => exact own_ (r' := .skip n) e
  | _ => exact own_ e
theorem step_shape {P : Prog} {s s' : MS} (e : step P s = some s') : ∃ f fs r, s.ended = none ∧ s.frames = f :: fs ∧ row? P f = some r ∧ RS P { s with rows := s.rows + 1 } f fs r s' := by
  obtain ⟨fr, made, en, c, l, hh, rows, mem⟩ := s
  cases en with
  | some _ => cases e
  | none =>
    cases fr with
    | nil => cases e
    | cons f fs =>
      obtain ⟨r, hr, e⟩ := Option.bind_eq_some_iff.mp e
      exact ⟨f, fs, r, rfl, rfl, hr, row_shape e⟩
end Mach
end

section
namespace Mach
set_option linter.all false
structure Sz (n : Nat) (s : MS) : Prop where
  fr : ∀ f ∈ s.frames, f.st.length ≤ n ∧ f.sl.length < 900
  fl : s.frames.length ≤ n + 1
  md : s.made.length ≤ n
  mi : ∀ t ∈ s.made, t.2.length ≤ n ∧ t.1 < 1000
  lh : s.looks + s.hits ≤ n
  mm : ∀ k, (getP s.mem k).length ≤ 2 ∧ ∀ p ∈ getP s.mem k, 0 ≤ p.2
structure PSz (P : Prog) : Prop where
  bk : ∀ b ∈ P.blocks, b.size < 900
  mkh : ∀ b ∈ P.blocks, ∀ r ∈ b.rows, ∀ h m, r = .make h m → h < 1000
theorem Sz.fr' {n : Nat} {s : MS} {f : AFr} {fs : List AFr} (h : Sz n s) (e : s.frames = f :: fs) : f.st.length ≤ n ∧ f.sl.length < 900 := h.fr f (by rw [e]; exact List.mem_cons_self)
theorem Sz.rest {n : Nat} {s : MS} {f : AFr} {fs : List AFr} (h : Sz n s) (e : s.frames = f :: fs) : (∀ g ∈ fs, g.st.length ≤ n ∧ g.sl.length < 900) ∧ fs.length ≤ n := by
  refine ⟨fun g hg => h.fr g (by rw [e]; exact List.mem_cons_of_mem _ hg), ?_⟩
  have := h.fl
  rw [e, List.length_cons] at this
  omega
theorem Sz.fram {n : Nat} {s : MS} {g : AFr} {fs : List AFr} {k : Nat} (h : Sz n s) (hg : g.st.length ≤ n + 1 ∧ g.sl.length < 900) (hr : (∀ g ∈ fs, g.st.length ≤ n ∧ g.sl.length < 900) ∧ fs.length ≤ n) : Sz (n + 1) { s with rows := k, frames := g :: fs } where
  fr := fun f hf => (List.mem_cons.mp hf).elim (fun e => e ▸ hg) fun hf => ⟨Nat.le_succ_of_le (hr.1 f hf).1, (hr.1 f hf).2⟩
  fl := Nat.succ_le_succ (Nat.le_succ_of_le hr.2)
  md := Nat.le_succ_of_le h.md
  mi := fun t ht => ⟨Nat.le_succ_of_le (h.mi t ht).1, (h.mi t ht).2⟩
  lh := Nat.le_succ_of_le h.lh
  mm := h.mm
theorem Sz.up {n : Nat} {s : MS} {k : Nat} (h : Sz n s) : Sz (n + 1) { s with rows := k } where
  fr := fun f hf => ⟨Nat.le_succ_of_le (h.fr f hf).1, (h.fr f hf).2⟩
  fl := Nat.le_succ_of_le h.fl
  md := Nat.le_succ_of_le h.md
  mi := fun t ht => ⟨Nat.le_succ_of_le (h.mi t ht).1, (h.mi t ht).2⟩
  lh := Nat.le_succ_of_le h.lh
  mm := h.mm
theorem Sz.ends {n : Nat} {s : MS} {e : End} (h : Sz n s) : Sz n (ends s e) where
  fr := fun f hf => by cases hf
  fl := Nat.zero_le _
  md := h.md
  mi := h.mi
  lh := h.lh
  mm := h.mm
theorem getP_upd {m : Mem} {k j : Int} {ps : PL} (h : ∀ k, (getP m k).length ≤ 2 ∧ ∀ p ∈ getP m k, 0 ≤ p.2) (hp : ps.length ≤ 2 ∧ ∀ p ∈ ps, 0 ≤ p.2) : (getP (updM m k ps) j).length ≤ 2 ∧ ∀ p ∈ getP (updM m k ps) j, 0 ≤ p.2 := by
  unfold getP updM
  by_cases e : j = k
  · rw [if_pos e]; exact hp
  · rw [if_neg e]; exact h j
theorem found_sz {P : Prog} {n : Nat} {s s' : MS} {house site word b : Nat} (h : Sz n s) (e : found P s house site word = some (b, s')) : s'.frames = s.frames ∧ s'.made = s.made ∧ s'.calls = s.calls ∧ s'.ended = s.ended ∧ s'.rows = s.rows ∧ s'.looks + s'.hits = s.looks + s.hits + 1 ∧ ∀ k, (getP s'.mem k).length ≤ 2 ∧ ∀ p ∈ getP s'.mem k, 0 ≤ p.2 := by
  obtain ⟨l, g, m, rfl, hl, _, hm⟩ := found_shape e
  refine ⟨rfl, rfl, rfl, rfl, rfl, hl, fun k => ?_⟩
  have h1 := h.mm
  rcases hm with rfl | rfl | rfl
  · exact h1 k
  · refine getP_upd h1 ⟨List.length_take_le _ _, fun p hp => ?_⟩
    rcases List.mem_cons.mp (List.mem_of_mem_take hp) with rfl | hp
    · exact Int.natCast_nonneg _
    · exact (h1 _).2 p hp
  · refine getP_upd h1 ⟨?_, fun p hp => (h1 site).2 p ?_⟩
    · rw [List.length_append]
      unfold seen others
      rw [len_filter]
      exact (h1 site).1
    · exact (List.mem_append.mp hp).elim (fun hp => (List.mem_filter.mp hp).1) fun hp => (List.mem_filter.mp hp).1
theorem EnS.sz {P : Prog} {n : Nat} {s s' : MS} {f : AFr} {fs : List AFr} {b m : Nat} (p : PSz P) (h : Sz n s) (hf : f.st.length ≤ n ∧ f.sl.length < 900) (hr : (∀ g ∈ fs, g.st.length ≤ n ∧ g.sl.length < 900) ∧ fs.length < n) (e : EnS P s f fs b m s') : Sz n s' := by
  cases e with
  | dry => exact h.ends
  | deep => exact ⟨fun f hf => (by cases hf), Nat.zero_le _, h.md, h.mi, h.lh, h.mm⟩
  | go k hk hl hm _ =>
    refine ⟨fun g hg => ?_, Nat.succ_le_succ hr.2, h.md, h.mi, h.lh, h.mm⟩
    rcases List.mem_cons.mp hg with rfl | hg
    · refine ⟨Nat.zero_le _, ?_⟩
      show ((f.st.take m).reverse ++ List.replicate (k.size - m) AV.non).length < 900
      rw [List.length_append, List.length_reverse, List.length_take, List.length_replicate, Nat.min_eq_left hl, Nat.add_sub_cancel' hm]
      exact p.bk k (List.mem_of_getElem? hk)
    · rcases List.mem_cons.mp hg with rfl | hg
      · refine ⟨?_, hf.2⟩
        show (f.st.drop m).length ≤ n
        rw [List.length_drop]; exact Nat.le_trans (Nat.sub_le _ _) hf.1
      · exact hr.1 g hg
theorem step_sz {P : Prog} {n : Nat} {s s' : MS} (p : PSz P) (h : Sz n s) (e : step P s = some s') : Sz (n + 1) s' := by
  obtain ⟨f, fs, r, he, hfr, hrow, q⟩ := step_shape e
  clear e
  have hf := h.fr' hfr
  have hre := h.rest hfr
  have hu : Sz (n + 1) { s with rows := s.rows + 1 } := h.up
  have hf1 : f.st.length ≤ n + 1 ∧ f.sl.length < 900 := ⟨Nat.le_succ_of_le hf.1, hf.2⟩
  have hr1 : (∀ g ∈ fs, g.st.length ≤ n + 1 ∧ g.sl.length < 900) ∧ fs.length < n + 1 := ⟨fun g hg => ⟨Nat.le_succ_of_le (hre.1 g hg).1, (hre.1 g hg).2⟩, Nat.lt_succ_of_le hre.2⟩
  cases q with
  | own g o => exact h.fram ⟨Nat.le_trans o.st (Nat.succ_le_succ hf.1), o.sl ▸ hf.2⟩ hre
  | ends e => exact hu.ends
  | make hh m er hm =>
    subst er
    obtain ⟨b, hb, hr⟩ := Option.bind_eq_some_iff.mp hrow
    refine ⟨fun g hg => ?_, Nat.succ_le_succ (Nat.le_succ_of_le hre.2), ?_, fun t ht => ?_, hu.lh, h.mm⟩
    · rcases List.mem_cons.mp hg with rfl | hg
      · refine ⟨?_, hf.2⟩
        show (f.st.drop m).length + 1 ≤ n + 1
        rw [List.length_drop]; exact Nat.succ_le_succ (Nat.le_trans (Nat.sub_le _ _) hf.1)
      · exact hr1.1 g hg
    · show (s.made ++ [_]).length ≤ n + 1
      rw [List.length_append]; exact Nat.succ_le_succ h.md
    · rcases List.mem_append.mp ht with ht | ht
      · exact hu.mi t ht
      · rcases List.mem_singleton.mp ht with rfl
        refine ⟨?_, p.mkh b (List.mem_of_getElem? hb) _ (List.mem_of_getElem? hr) hh m rfl⟩
        show (f.st.take m).reverse.length ≤ n + 1
        rw [List.length_reverse, List.length_take]; exact Nat.le_trans (Nat.min_le_right _ _) hf1.1
  | put v x st k pl t hst ht =>
    have hl := hf.1
    rw [hst] at hl
    refine ⟨fun g hg => ?_, Nat.succ_le_succ (Nat.le_succ_of_le hre.2), ?_, fun u hu' => ?_, hu.lh, h.mm⟩
    · rcases List.mem_cons.mp hg with rfl | hg
      · exact ⟨Nat.le_trans (Nat.le_succ _) (Nat.le_succ_of_le hl), hf.2⟩
      · exact hr1.1 g hg
    · show (s.made.set _ _).length ≤ _
      rw [List.length_set]; exact hu.md
    · rcases List.mem_or_eq_of_mem_set hu' with hu' | rfl
      · exact hu.mi u hu'
      · have q := hu.mi t (List.mem_of_getElem? ht)
        refine ⟨?_, q.2⟩
        show (t.2.set pl v).length ≤ _
        rw [List.length_set]; exact q.1
  | call hh si w b m s1 er hb en =>
    obtain ⟨a1, a2, a3, a4, a5, a6, a7⟩ := found_sz hu hb
    exact EnS.sz p ⟨by rw [a1]; exact hu.fr, by rw [a1]; exact hu.fl, by rw [a2]; exact hu.md, by rw [a2]; exact hu.mi, by rw [a6]; exact Nat.succ_le_succ h.lh, a7⟩ hf1 hr1 en
  | strt b m er en => exact EnS.sz p hu hf1 hr1 en
  | back v g gs eg =>
    subst eg
    have hg := hre.1 g List.mem_cons_self
    refine ⟨fun x hx => ?_, Nat.le_succ_of_le (Nat.le_succ_of_le hre.2), hu.md, hu.mi, hu.lh, h.mm⟩
    rcases List.mem_cons.mp hx with rfl | hx
    · exact ⟨Nat.succ_le_succ hg.1, hg.2⟩
    · exact hr1.1 x (List.mem_cons_of_mem _ hx)
end Mach
end

section
namespace Mach
set_option linter.all false
noncomputable def known : List (Nat × Nat) → Nat → List Nat
  | [], _ => []
  | (s, h) :: tr, k => if k = s then (h :: (known tr k).filter fun x => !decide (x = h)).take 2 else known tr k
noncomputable def hitsOf : List (Nat × Nat) → Nat
  | [] => 0
  | (s, h) :: tr => hitsOf tr + if h ∈ known tr s then 1 else 0
theorem known_len : ∀ (tr : List (Nat × Nat)) (k : Nat), (known tr k).length ≤ 2
  | [], _ => Nat.zero_le _
  | (s, h) :: tr, k => by
    unfold known
    split
    · rw [List.length_take]; omega
    · exact known_len tr k
theorem known_nd : ∀ (tr : List (Nat × Nat)) (k : Nat), (known tr k).Nodup
  | [], _ => List.nodup_nil
  | (s, h) :: tr, k => by
    unfold known
    split
    · refine List.Sublist.nodup (List.take_sublist _ _) (List.nodup_cons.mpr ⟨fun z => ?_, List.Sublist.nodup (List.filter_sublist ..) (known_nd tr k)⟩)
      have := (List.mem_filter.mp z).2
      simp at this
    · exact known_nd tr k
noncomputable def tab (P : Prog) (h word : Nat) : Option Nat := (P.tables[h]?).bind fun t => (t[word]?).join
noncomputable def prB (P : Prog) (w h : Nat) : Option (Int × Int) := (tab P h w).map fun (b : Nat) => ((h : Int), (b : Int))
theorem prB_some {P : Prog} {w h b : Nat} (e : tab P h w = some b) : prB P w h = some ((h : Int), (b : Int)) := by unfold prB; rw [e]; rfl
structure MInv (P : Prog) (wd : Nat → Nat) (tr : List (Nat × Nat)) (s : MS) : Prop where
  pl : ∀ k : Nat, getP s.mem k = (known tr k).filterMap (prB P (wd k))
  ok : ∀ k : Nat, ∀ h ∈ known tr k, ∃ b, tab P h (wd k) = some b
  hi : s.hits = hitsOf tr
  lo : s.looks + s.hits = tr.length
theorem filterMap_mem {P : Prog} {w h : Nat} : ∀ {l : List Nat}, (∀ x ∈ l, ∃ b, tab P x w = some b) → seen (l.filterMap (prB P w)) h = (l.filter fun x => decide (x = h)).filterMap (prB P w) ∧
    others (l.filterMap (prB P w)) h = (l.filter fun x => !decide (x = h)).filterMap (prB P w)
  | [], _ => ⟨rfl, rfl⟩
  | x :: l, hx => by
    obtain ⟨b, hb⟩ := hx x List.mem_cons_self
    obtain ⟨i1, i2⟩ := filterMap_mem (P := P) (w := w) (h := h) fun y hy => hx y (List.mem_cons_of_mem _ hy)
    have hp := prB_some hb
    unfold seen at i1 ⊢
    unfold others at i2 ⊢
    rw [List.filterMap_cons, hp]
    show List.filter _ (((x : Int), (b : Int)) :: _) = _ ∧ List.filter _ (((x : Int), (b : Int)) :: _) = _
    rw [List.filter_cons, List.filter_cons, List.filter_cons, List.filter_cons]
    by_cases e : x = h
    · subst e
      simp only [decide_true, if_true, Bool.not_true, Bool.false_eq_true, if_false, i1, i2, List.filterMap_cons, hp]
      exact ⟨trivial, trivial⟩
    · have e' : ¬ ((x : Int) = (h : Int)) := by omega
      simp only [e, e', decide_false, if_false, Bool.not_false, if_true, i1, i2, List.filterMap_cons, hp, Bool.false_eq_true]
      exact ⟨trivial, trivial⟩
theorem filter_eq_one {h : Nat} : ∀ {l : List Nat}, l.Nodup → h ∈ l → (l.filter fun x => decide (x = h)) = [h]
  | x :: l, nd, hm => by
    obtain ⟨a, b⟩ := List.nodup_cons.mp nd
    rw [List.filter_cons]
    by_cases e : x = h
    · subst e
      simp only [decide_true, if_true]
      rw [List.filter_eq_nil_iff.mpr fun y hy => by
        have : y ≠ x := fun z => a (z ▸ hy)
        simp [this]]
    · simp only [e, decide_false, Bool.false_eq_true, if_false]
      exact filter_eq_one b ((List.mem_cons.mp hm).resolve_left fun z => e z.symm)
theorem filter_eq_none {h : Nat} {l : List Nat} (hm : h ∉ l) : (l.filter fun x => decide (x = h)) = [] ∧ (l.filter fun x => !decide (x = h)) = l := by
  constructor
  · refine List.filter_eq_nil_iff.mpr fun y hy => ?_
    have : y ≠ h := fun z => hm (z ▸ hy)
    simp [this]
  · refine List.filter_eq_self.mpr fun y hy => ?_
    have : y ≠ h := fun z => hm (z ▸ hy)
    simp [this]
theorem getP_updM {m : Mem} {k j : Int} {ps : PL} : getP (updM m k ps) j = if j = k then ps else getP m j := by
  unfold getP updM
  split <;> rfl
theorem found_mem {P : Prog} {wd : Nat → Nat} {tr : List (Nat × Nat)} {s : MS} {h site b : Nat} (hr : P.rem = true) (M : MInv P wd tr s) (hb : tab P h (wd site) = some b) :
    ∃ l g m, found P s h site (wd site) = some (b, { s with looks := l, hits := g, mem := m }) ∧ MInv P wd ((site, h) :: tr) { s with looks := l, hits := g, mem := m } := by
  obtain ⟨f1, f2⟩ := filterMap_mem (P := P) (w := wd site) (h := h) (M.ok site)
  rw [← M.pl site] at f1 f2
  have hb' : ((P.tables[h]?).bind fun t => (t[wd site]?).join) = some b := hb
  have okn : ∀ k : Nat, ∀ x ∈ known ((site, h) :: tr) k, ∃ b, tab P x (wd k) = some b := by
    intro k x hx
    unfold known at hx
    split at hx
    · rename_i e
      subst e
      rcases List.mem_cons.mp (List.mem_of_mem_take hx) with e | hx
      · subst e; exact ⟨b, hb⟩
      · exact M.ok _ x (List.mem_filter.mp hx).1
    · exact M.ok k x hx
  by_cases hm : h ∈ known tr site
  · rw [filter_eq_one (known_nd tr site) hm, List.filterMap_cons, prB_some hb] at f1
    refine ⟨s.looks, s.hits + 1, updM s.mem site (((h : Int), (b : Int)) :: others (getP s.mem site) h), ?_, ⟨fun k => ?_, okn, ?_, ?_⟩⟩
    · unfold found
      rw [hr, if_pos rfl, f1]
      show some ((b : Int).toNat, _) = _
      rw [Int.toNat_natCast]
      rfl
    · show getP (updM s.mem site _) k = _
      rw [getP_updM]
      unfold known
      by_cases e : k = site
      · subst e
        rw [if_pos rfl, if_pos rfl]
        have l1 : ((h :: (known tr k).filter fun x => !decide (x = h))).length ≤ 2 := by
          have := known_len tr k
          have h2 := len_filter (fun x => decide (x = h)) (known tr k)
          rw [filter_eq_one (known_nd tr k) hm] at h2
          simp only [List.length_cons, List.length_nil] at h2 ⊢
          omega
        rw [List.take_of_length_le l1, List.filterMap_cons, prB_some hb, f2]
      · rw [if_neg (by omega), if_neg e]
        exact M.pl k
    · show s.hits + 1 = _
      unfold hitsOf
      rw [if_pos hm, M.hi]
    · show s.looks + (s.hits + 1) = _
      have := M.lo
      rw [List.length_cons]
      omega
  · obtain ⟨n1, n2⟩ := filter_eq_none hm
    rw [n1] at f1
    refine ⟨s.looks + 1, s.hits, updM s.mem site ((((h : Int), (b : Int)) :: getP s.mem site).take 2), ?_, ⟨fun k => ?_, okn, ?_, ?_⟩⟩
    · unfold found
      rw [hr, if_pos rfl, f1, hb']
      rfl
    · show getP (updM s.mem site _) k = _
      rw [getP_updM]
      unfold known
      by_cases e : k = site
      · subst e
        rw [if_pos rfl, if_pos rfl, n2, M.pl k]
        have ok := M.ok k
        generalize known tr k = l at ok
        match l, ok with
        | [], _ =>
          show List.take 2 [((h : Int), (b : Int))] = List.filterMap _ [h]
          rw [List.filterMap_cons, prB_some hb]; rfl
        | x :: l, ok =>
          obtain ⟨c, hc⟩ := ok x List.mem_cons_self
          rw [List.filterMap_cons, prB_some hc]
          show [((h : Int), (b : Int)), ((x : Int), (c : Int))] = List.filterMap _ [h, x]
          rw [List.filterMap_cons, prB_some hb, List.filterMap_cons, prB_some hc]; rfl
      · rw [if_neg (by omega), if_neg e]
        exact M.pl k
    · show s.hits = _
      unfold hitsOf
      rw [if_neg hm, M.hi]; rfl
    · show s.looks + 1 + s.hits = _
      have := M.lo
      rw [List.length_cons]
      omega
theorem found_plain {P : Prog} {s : MS} {h site word b : Nat} (hr : P.rem = false) (hb : tab P h word = some b) : found P s h site word = some (b, { s with looks := s.looks + 1 }) := by
  have hb' : ((P.tables[h]?).bind fun t => (t[word]?).join) = some b := hb
  unfold found
  rw [hr, hb']
  rfl
noncomputable def plain (P : Prog) : Prog := { P with rem := false }
noncomputable def lift (s t : MS) : MS := { t with looks := s.looks, hits := s.hits, mem := s.mem }
theorem enter_lift {P : Prog} {s t : MS} {f : AFr} {fs : List AFr} {b m : Nat} : enter P (lift s t) f fs b m = (enter (plain P) t f fs b m).map (lift s) := by
  unfold enter plain
  show (if P.most ≤ t.calls then _ else _) = Option.map _ (if P.most ≤ t.calls then _ else _)
  split
  · rfl
  split
  · rfl
  split
  · show (P.blocks[b]?).bind _ = Option.map _ ((P.blocks[b]?).bind _)
    cases P.blocks[b]? with
    | none => rfl
    | some k =>
      show (if m ≤ k.size then _ else _) = Option.map _ (if m ≤ k.size then _ else _)
      split <;> rfl
  · rfl
theorem rowM_lift {P : Prog} {s t : MS} {f : AFr} {fs : List AFr} {r : Row} (hr : ∀ a b c, r ≠ .call a b c) : rowM P (lift s t) f fs r = (rowM (plain P) t f fs r).map (lift s) := by
  have own_ : ∀ r, Option.map (fun o => match o with | .inl f' => { lift s t with frames := f' :: fs } | .inr e => ends (lift s t) e) (own f t.made r) = Option.map (lift s) (Option.map (fun o => match o with | .inl f' => { t with frames := f' :: fs } | .inr e => ends t e) (own f t.made r)) := by
    intro r
    cases own f t.made r with
    | none => rfl
    | some o => cases o <;> rfl
  cases r with
  | call a b c => exact absurd rfl (hr a b c)
  | make h m =>
    show (if m ≤ f.st.length then _ else _) = Option.map _ (if m ≤ f.st.length then _ else _)
    split <;> rfl
  | put pl =>
    show (match f.st with | v :: .th k :: st => _ | _ => _) = Option.map _ (match f.st with | v :: .th k :: st => _ | _ => _)
    split
    · rename_i v k st e
      show (t.made[k]?).bind _ = Option.map _ ((t.made[k]?).bind _)
      cases t.made[k]? with
      | none => rfl
      | some th =>
        show (if pl < th.2.length then _ else _) = Option.map _ (if pl < th.2.length then _ else _)
        split <;> rfl
    · rfl
  | straight b m => exact enter_lift
  | back =>
    show (match f.st with | v :: _ => _ | _ => _) = Option.map _ (match f.st with | v :: _ => _ | _ => _)
    split
    · cases fs with
      | cons g gs => rfl
      | nil =>
        rename_i v st e
        cases v with
        | th k =>
          show Option.map _ (t.made[k]?) = Option.map _ (Option.map _ (t.made[k]?))
          cases t.made[k]? <;> rfl
        | _ => rfl
    · rfl
  | push v => exact own_ (.push v)
  | skip n => exact own_ (.skip n)
  | _ => exact own_ _
noncomputable def next (P : Prog) (t : MS) : List (Nat × Nat) := match t.frames with
  | f :: _ => match row? P f with
    | some (.call site _ many) => match (f.st.take many).reverse with
      | .th k :: _ => match t.made[k]? with
        | some th => [(site, th.1)]
        | none => []
      | _ => []
    | _ => []
  | [] => []
structure Sim (P : Prog) (wd : Nat → Nat) (tr : List (Nat × Nat)) (s t : MS) : Prop where
  eq : s = lift s t
  hi : t.hits = 0
  lo : t.looks = tr.length
  mi : MInv P wd tr s
theorem MInv.mv {P : Prog} {wd : Nat → Nat} {tr : List (Nat × Nat)} {s s' : MS} (h : MInv P wd tr s) (a : s'.looks = s.looks) (b : s'.hits = s.hits) (c : s'.mem = s.mem) : MInv P wd tr s' :=
  ⟨fun k => by rw [c]; exact h.pl k, h.ok, by rw [b]; exact h.hi, by rw [a, b]; exact h.lo⟩
theorem EnS.lh {P : Prog} {s s' : MS} {f : AFr} {fs : List AFr} {b m : Nat} (e : EnS P s f fs b m s') : s'.looks = s.looks ∧ s'.hits = s.hits ∧ s'.mem = s.mem ∧ s'.calls ≤ s.calls + 1 ∧ s'.rows = s.rows := by
  cases e with
  | dry => exact ⟨rfl, rfl, rfl, Nat.le_succ _, rfl⟩
  | _ => exact ⟨rfl, rfl, rfl, Nat.le_refl _, rfl⟩
theorem rowM_lh {P : Prog} {t u : MS} {f : AFr} {fs : List AFr} {r : Row} (hr : ∀ a b c, r ≠ .call a b c) (h : rowM P t f fs r = some u) : u.looks = t.looks ∧ u.hits = t.hits := by
  have q := row_shape h
  clear h
  cases q with
  | call _ a b _ c _ e => exact absurd e (hr _ _ _)
  | strt _ _ _ en => exact ⟨en.lh.1, en.lh.2.1⟩
  | _ => exact ⟨rfl, rfl⟩
theorem sim_step {P : Prog} {wd : Nat → Nat} {tr : List (Nat × Nat)} {s t t' : MS} (hr : P.rem = true) (hw : ∀ f site word many, row? P f = some (.call site word many) → word = wd site) (S : Sim P wd tr s t) (h : step (plain P) t = some t') :
    ∃ s', step P s = some s' ∧ Sim P wd (next P t ++ tr) s' t' := by
  unfold step at h
  split at h
  case h_2 => cases h
  rename_i f fs he hf
  obtain ⟨r, hrow, h⟩ := Option.bind_eq_some_iff.mp h
  have hrow : row? P f = some r := hrow
  have es : s.ended = none := by rw [S.eq]; exact he
  have fr : s.frames = f :: fs := by rw [S.eq]; exact hf
  rw [step_rows es fr hrow]
  have e1 : ({ s with rows := s.rows + 1 } : MS) = lift s { t with rows := t.rows + 1 } := by
    rw [S.eq]; rfl
  by_cases hc : ∃ a b c, r = .call a b c
  · obtain ⟨site, word, many, rfl⟩ := hc
    have hwd := hw f site word many hrow
    subst hwd
    simp only [rowM] at h
    split at h
    case h_2 => cases h
    rename_i k rest ek
    split at h
    case isFalse => cases h
    rename_i hm
    obtain ⟨th, hth, h⟩ := Option.bind_eq_some_iff.mp h
    obtain ⟨⟨b, t1⟩, hb, h⟩ := Option.bind_eq_some_iff.mp h
    have htab : tab P th.1 (wd site) = some b := by
      unfold found at hb
      simp only [plain, Bool.false_eq_true, if_false] at hb
      obtain ⟨b', hb1, hb2⟩ := Option.map_eq_some_iff.mp hb
      cases hb2
      exact hb1
    rw [found_plain (P := plain P) rfl htab] at hb
    cases hb
    obtain ⟨l, g, m, h1, h2⟩ := found_mem (s := { s with rows := s.rows + 1 }) hr (S.mi.mv rfl rfl rfl) htab
    have hn : next P t = [(site, th.1)] := by
      unfold next
      rw [hf]
      show (match row? P f with | some (.call site _ many) => _ | _ => _) = _
      rw [hrow]
      show (match (f.st.take many).reverse with | .th k :: _ => _ | _ => _) = _
      rw [ek]
      show (match t.made[k]? with | some th => _ | none => _) = _
      rw [show t.made[k]? = some th from hth]
    have hth' : s.made[k]? = some th := by rw [S.eq]; exact hth
    refine ⟨lift ⟨[], [], none, 0, l, g, 0, m⟩ t', ?_, ?_⟩
    · show (match (f.st.take many).reverse with | .th k :: _ => if many ≤ f.st.length then (s.made[k]?).bind fun t => (found P { s with rows := s.rows + 1 } t.1 site (wd site)).bind fun r => enter P r.2 f fs r.1 many else none | _ => none) = _
      rw [ek]
      show (if many ≤ f.st.length then _ else _) = _
      rw [if_pos hm, hth']
      show (found P { s with rows := s.rows + 1 } th.1 site (wd site)).bind _ = _
      rw [h1]
      show enter P { s with rows := s.rows + 1, looks := l, hits := g, mem := m } f fs b many = _
      have e2 : ({ s with rows := s.rows + 1, looks := l, hits := g, mem := m } : MS) = lift ⟨[], [], none, 0, l, g, 0, m⟩ { t with rows := t.rows + 1, looks := t.looks + 1 } := by
        rw [S.eq]; rfl
      rw [e2, enter_lift]
      have h : enter (plain P) { t with rows := t.rows + 1, looks := t.looks + 1 } f fs b many = some t' := h
      rw [h]
      rfl
    · obtain ⟨q1, q2, _⟩ := (enter_shape h).lh
      refine ⟨rfl, q2.trans S.hi, ?_, ?_⟩
      · rw [hn, q1]
        show t.looks + 1 = tr.length + 1
        rw [S.lo]
      · rw [hn]
        exact h2.mv rfl rfl rfl
  · have hc' : ∀ a b c, r ≠ .call a b c := fun a b c z => hc ⟨a, b, c, z⟩
    obtain ⟨q1, q2⟩ := rowM_lh hc' h
    have hn : next P t = [] := by
      unfold next
      rw [hf]
      show (match row? P f with | some (.call site _ many) => _ | _ => _) = _
      rw [hrow]
      cases r with
      | call a b c => exact absurd rfl (hc' a b c)
      | _ => rfl
    refine ⟨lift s t', ?_, ⟨rfl, q2.trans S.hi, ?_, ?_⟩⟩
    · rw [e1, rowM_lift hc', h]
      rfl
    · rw [hn, q1]
      exact S.lo
    · rw [hn]
      exact S.mi.mv rfl rfl rfl
end Mach
end

section
namespace Mach
set_option linter.all false
inductive RunT (P : Prog) : Nat → MS → MS → List (Nat × Nat) → Prop
  | nil {s : MS} : RunT P 0 s s []
  | cons {n : Nat} {s t u : MS} {tr : List (Nat × Nat)} : step (plain P) s = some t → RunT P n t u tr → RunT P (n + 1) s u (tr ++ next P s)
theorem RunT.trans {P : Prog} {n m : Nat} {s t u : MS} {a b : List (Nat × Nat)} (h : RunT P n s t a) (h' : RunT P m t u b) : RunT P (n + m) s u (b ++ a) := by
  induction h with
  | nil => rw [Nat.zero_add, List.append_nil]; exact h'
  | cons e _ ih => rw [Nat.add_right_comm, ← List.append_assoc]; exact .cons e (ih h')
theorem RunT.one {P : Prog} {s t : MS} {a : List (Nat × Nat)} (h : step (plain P) s = some t) (hn : next P s = a) : RunT P 1 s t a := by
  rw [← hn, ← List.nil_append (next P s)]
  exact .cons h .nil
theorem next_own {P : Prog} {s : MS} {f : AFr} {fs : List AFr} {r : Row} (hf : s.frames = f :: fs) (hr : row? P f = some r) (hc : ∀ a b c, r ≠ .call a b c) : next P s = [] := by
  unfold next
  rw [hf]
  show (match row? P f with | some (.call site _ many) => _ | _ => _) = _
  rw [hr]
  cases r with
  | call a b c => exact absurd rfl (hc a b c)
  | _ => rfl
theorem next_call {P : Prog} {s : MS} {f : AFr} {fs : List AFr} {site word many k : Nat} {vs : List AV} {th : Nat × List AV} (hf : s.frames = f :: fs) (hr : row? P f = some (.call site word many)) (hv : (f.st.take many).reverse = .th k :: vs) (hk : s.made[k]? = some th) : next P s = [(site, th.1)] := by
  unfold next
  rw [hf]
  show (match row? P f with | some (.call site _ many) => _ | _ => _) = _
  rw [hr]
  show (match (f.st.take many).reverse with | .th k :: _ => _ | _ => _) = _
  rw [hv]
  show (match s.made[k]? with | some th => _ | none => _) = _
  rw [hk]
noncomputable def line : Row → Bool
  | .push _ | .load _ | .nt | .get _ | .keep _ | .drop | .two _ => true
  | _ => false
noncomputable def seg (made : List (Nat × List AV)) : AFr → List Row → Option AFr
  | f, [] => some f
  | f, r :: rs => match own f made r with
    | some (.inl f') => seg made f' rs
    | _ => none
theorem own_line {f f' : AFr} {made : List (Nat × List AV)} {r : Row} (hl : line r = true) (h : own f made r = some (.inl f')) : f'.n = f.n ∧ f'.pc = f.pc + 1 := by
  have o := own_shape h
  obtain ⟨k, ek, hk⟩ := o.pc
  rcases hk with rfl | rfl | rfl
  · exact ⟨o.n, ek⟩
  · cases hl
  · cases hl
noncomputable def AtRows (P : Prog) (n pc : Nat) (rows : List Row) : Prop := ∀ i r, rows[i]? = some r → ((P.blocks[n]?).bind fun b => b.rows[pc + i]?) = some r
theorem AtRows.row {P : Prog} {f : AFr} {rows : List Row} {r : Row} (h : AtRows P f.n f.pc (r :: rows)) : row? P f = some r := h 0 r rfl
theorem AtRows.tail {P : Prog} {n pc : Nat} {rows : List Row} {r : Row} (h : AtRows P n pc (r :: rows)) : AtRows P n (pc + 1) rows := fun i x hx => by
  have := h (i + 1) x hx
  rw [Nat.add_right_comm]
  exact this
theorem rowM_own {P : Prog} {s : MS} {f f' : AFr} {fs : List AFr} {r : Row} (hl : line r = true) (h : own f s.made r = some (.inl f')) : rowM P s f fs r = some { s with frames := f' :: fs } := by
  cases r with
  | push v => cases h; rfl
  | load i => show Option.map _ (own f s.made (.load i)) = _; rw [h]; rfl
  | nt => show Option.map _ (own f s.made .nt) = _; rw [h]; rfl
  | get pl => show Option.map _ (own f s.made (.get pl)) = _; rw [h]; rfl
  | keep i => show Option.map _ (own f s.made (.keep i)) = _; rw [h]; rfl
  | drop => show Option.map _ (own f s.made .drop) = _; rw [h]; rfl
  | two g => show Option.map _ (own f s.made (.two g)) = _; rw [h]; rfl
  | _ => cases hl
theorem line_nc {r : Row} (h : line r = true) : ∀ a b c, r ≠ .call a b c := fun a b c e => by subst e; cases h
theorem seg_run {P : Prog} : ∀ {rows : List Row} {s : MS} {f f' : AFr} {fs : List AFr}, s.ended = none → s.frames = f :: fs → AtRows P f.n f.pc rows → rows.all line = true → seg s.made f rows = some f' →
    RunT P rows.length s { s with rows := s.rows + rows.length, frames := f' :: fs } [] := by
  intro rows
  induction rows with
  | nil =>
    intro s f f' fs he hf _ _ h
    cases h
    obtain ⟨a, b, c, d, e, g, i, j⟩ := s
    cases hf
    exact .nil
  | cons r rs ih =>
    intro s f f' fs he hf ha hl h
    rw [List.all_cons, Bool.and_eq_true] at hl
    unfold seg at h
    split at h
    · rename_i f1 ho
      obtain ⟨a1, a2⟩ := own_line hl.1 ho
      have hrow := ha.row
      have e1 : step (plain P) s = some { s with rows := s.rows + 1, frames := f1 :: fs } := by
        rw [step_rows (P := plain P) he hf hrow]
        exact rowM_own (s := { s with rows := s.rows + 1 }) hl.1 ho
      have h2 := ih (s := { s with rows := s.rows + 1, frames := f1 :: fs }) (f := f1) (fs := fs) he rfl (by rw [a1, a2]; exact ha.tail) hl.2 h
      have h3 := RunT.trans (RunT.one e1 (next_own hf hrow (line_nc hl.1))) h2
      rw [List.append_nil] at h3
      rw [List.length_cons, Nat.add_comm rs.length 1]
      have e2 : ({ ({ s with rows := s.rows + 1, frames := f1 :: fs } : MS) with rows := s.rows + 1 + rs.length, frames := f' :: fs } : MS) = { s with rows := s.rows + (1 + rs.length), frames := f' :: fs } := by
        rw [Nat.add_assoc]
      rw [← e2]
      exact h3
    · cases h
end Mach
end

section
namespace Mach
set_option linter.all false
structure PH (P : Prog) : Prop where
  bl : P.blocks.length ≤ 1000
  sz : ∀ b ∈ P.blocks, b.size ≤ 6 ∧ b.rows.length ≤ 21
  rw : ∀ b ∈ P.blocks, ∀ r ∈ b.rows, (∀ n, r = .unl n → n ≤ 2) ∧ (∀ n, r = .skip n → n ≤ 2) ∧ (∀ a c m, r = .call a c m → 1 ≤ m) ∧ (∀ a m, r = .straight a m → 1 ≤ m) ∧ ∀ h m, r = .make h m → m ≤ 1
noncomputable def Top (f : AFr) : Prop := f.st.length ≤ f.pc ∧ f.sl.length ≤ 6 ∧ f.pc ≤ 24 ∧ f.n ≤ 1000
noncomputable def Susp (f : AFr) : Prop := f.st.length + 1 ≤ f.pc ∧ f.sl.length ≤ 6 ∧ f.pc ≤ 24 ∧ f.n ≤ 1000
noncomputable def Tops : List AFr → Prop
  | [] => True
  | f :: fs => Top f ∧ ∀ g ∈ fs, Susp g
structure Hts (s : MS) : Prop where
  fl : s.frames.length ≤ 41
  tp : Tops s.frames
  md : ∀ t ∈ s.made, t.2.length ≤ 1
theorem Susp.top {f : AFr} (h : Susp f) : Top f := ⟨Nat.le_of_succ_le h.1, h.2.1, h.2.2⟩
theorem Hts.ends {s : MS} (h : Hts s) (e : End) : Hts (ends s e) := ⟨Nat.zero_le _, trivial, h.md⟩
theorem OwnS.ht {f g : AFr} {r : Row} (o : OwnS f r g) (h : Top f) (hp : f.pc < 21) (hu : ∀ n, r = .unl n → n ≤ 2) (hs : ∀ n, r = .skip n → n ≤ 2) : Top g := by
  obtain ⟨h1, h2, _, h4⟩ := h
  obtain ⟨k, ek, hk⟩ := o.pc
  have k2 : k ≤ 2 := by
    rcases hk with rfl | e | e
    · exact Nat.zero_le _
    · exact hu k e
    · exact hs k e
  exact ⟨ek ▸ Nat.le_trans o.st (Nat.le_trans (Nat.succ_le_succ h1) (Nat.le_add_right _ _)), o.sl ▸ h2, ek ▸ Nat.add_le_add (Nat.succ_le_of_lt (Nat.lt_succ_of_lt hp)) k2, o.n ▸ h4⟩
theorem EnS.ht {P : Prog} {s s' : MS} {f : AFr} {fs : List AFr} {b m : Nat} (p : PH P) (h : Hts s) (hf : Top f) (hp : f.pc < 21) (hs : ∀ g ∈ fs, Susp g) (hm : 1 ≤ m) (e : EnS P s f fs b m s') : Hts s' := by
  cases e with
  | dry => exact h.ends _
  | deep => exact ⟨Nat.zero_le _, trivial, h.md⟩
  | go k hk hl hms h40 =>
    refine ⟨Nat.succ_le_succ h40, ⟨⟨Nat.zero_le _, ?_, Nat.zero_le _, Nat.le_trans (Nat.le_of_lt (List.getElem?_eq_some_iff.mp hk).1) p.bl⟩, fun g hg => ?_⟩, h.md⟩
    · show ((f.st.take m).reverse ++ List.replicate (k.size - m) AV.non).length ≤ 6
      rw [List.length_append, List.length_reverse, List.length_take, List.length_replicate, Nat.min_eq_left hl, Nat.add_sub_cancel' hms]
      exact (p.sz k (List.mem_of_getElem? hk)).1
    · rcases List.mem_cons.mp hg with rfl | hg
      · refine ⟨?_, hf.2.1, Nat.le_of_lt (Nat.lt_of_le_of_lt hp (by decide)), hf.2.2.2⟩
        show (f.st.drop m).length + 1 ≤ f.pc + 1
        rw [List.length_drop]; exact Nat.succ_le_succ (Nat.le_trans (Nat.sub_le _ _) hf.1)
      · exact hs g hg
theorem step_ht {P : Prog} {s s' : MS} (p : PH P) (h : Hts s) (e : step P s = some s') : Hts s' := by
  obtain ⟨f, fs, r, _, hf, hr, q⟩ := step_shape e
  clear e
  obtain ⟨b, hb, hbr⟩ := Option.bind_eq_some_iff.mp hr
  have hbm := List.mem_of_getElem? hb
  obtain ⟨u1, u2, u3, u4, u5⟩ := p.rw b hbm r (List.mem_of_getElem? hbr)
  have hpc : f.pc < 21 := Nat.lt_of_lt_of_le (List.getElem?_eq_some_iff.mp hbr).1 (p.sz b hbm).2
  have tp := h.tp
  rw [hf] at tp
  obtain ⟨ht, hs⟩ := tp
  have fl := h.fl
  rw [hf] at fl
  have pc1 : f.pc + 1 ≤ 24 := Nat.le_of_lt (Nat.lt_of_le_of_lt hpc (by decide))
  have dr : ∀ m, (f.st.drop m).length + 1 ≤ f.pc + 1 := fun m => by rw [List.length_drop]; exact Nat.succ_le_succ (Nat.le_trans (Nat.sub_le _ _) ht.1)
  have hu : Hts { s with rows := s.rows + 1 } := ⟨h.fl, h.tp, h.md⟩
  cases q with
  | own g o => exact ⟨fl, ⟨o.ht ht hpc u1 u2, hs⟩, h.md⟩
  | ends e => exact hu.ends _
  | make hh m er hl =>
    refine ⟨fl, ⟨⟨dr m, ht.2.1, pc1, ht.2.2.2⟩, hs⟩, fun t htm => ?_⟩
    rcases List.mem_append.mp htm with htm | htm
    · exact h.md t htm
    · rw [List.mem_singleton.mp htm]
      show ((f.st.take m).reverse).length ≤ 1
      rw [List.length_reverse, List.length_take]; exact Nat.le_trans (Nat.min_le_left _ _) (u5 hh m er)
  | put v x st k pl t hst htk =>
    have a1 := ht.1
    rw [hst] at a1
    refine ⟨fl, ⟨⟨Nat.le_succ_of_le (Nat.le_of_succ_le a1), ht.2.1, pc1, ht.2.2.2⟩, hs⟩, fun x hx => ?_⟩
    rcases List.mem_or_eq_of_mem_set hx with hx | rfl
    · exact h.md x hx
    · show (t.2.set pl v).length ≤ 1
      rw [List.length_set]; exact h.md t (List.mem_of_getElem? htk)
  | call hh si w b m s1 er hfd en =>
    obtain ⟨l, g, mm, rfl, _⟩ := found_shape hfd
    exact EnS.ht (s := { s with rows := s.rows + 1, looks := l, hits := g, mem := mm }) p ⟨h.fl, h.tp, h.md⟩ ht hpc hs (u3 _ _ _ er) en
  | strt b m er en => exact EnS.ht p hu ht hpc hs (u4 _ _ er) en
  | back v g gs eg =>
    subst eg
    have hg := hs g List.mem_cons_self
    exact ⟨Nat.le_of_succ_le fl, ⟨⟨hg.1, hg.2.1, hg.2.2⟩, fun x hx => hs x (List.mem_cons_of_mem _ hx)⟩, h.md⟩
end Mach
end

section
namespace P63
open Mach
set_option linter.all false
noncomputable def tell (k : Nat) : Blk := ⟨2, 2, if k = 2 then [.load 0, .load 1, .put 0, .load 0, .get 0, .two .add, .back] else [.load 1, .load 0, .get 0, .two (if k = 0 then .add else .sub), .back]⟩
noncomputable def goRows (last : Int) : List Row := [.load 1, .push (.int 0), .two .same, .unl 2, .push (.int last), .back, .load 2, .load 1, .call 0 0 2, .keep 5, .load 0, .load 1, .push (.int 1), .two .sub, .load 3, .load 4, .load 2, .call 1 1 5, .load 5, .two .add, .back]
noncomputable def go (last : Int) : Blk := ⟨5, 6, goRows last⟩
structure Dr where
  kinds : List Nat
  wy : List Nat
  homes : Nat → Nat
  vals : Nat → Int
  count : Nat
  last : Int
  most : Nat
structure Dr.Ok (d : Dr) : Prop where
  k : ∀ x ∈ d.kinds, x < 3
  w : ∀ x ∈ d.wy, x < d.kinds.length
  h : ∀ i, i < 4 → d.homes i < d.wy.length
  v : ∀ i, i < 4 → -1000 ≤ d.vals i ∧ d.vals i ≤ 1000
  c : d.count ≤ 50
  l : 0 ≤ d.last ∧ d.last ≤ 100
  n : d.wy.length ≤ 4 ∧ d.kinds.length ≤ 3
noncomputable def mainRows (d : Dr) : List Row := [.push (.int (d.vals 0)), .make (d.homes 0) 1, .push (.int d.count), .push (.int (d.vals 1)), .make (d.homes 1) 1, .push (.int (d.vals 2)), .make (d.homes 2) 1, .push (.int (d.vals 3)), .make (d.homes 3) 1, .call 2 1 5, .back]
noncomputable def prog (d : Dr) (rem : Bool) : Prog := ⟨d.kinds.map tell ++ [go d.last, ⟨0, 0, mainRows d⟩], d.wy.map fun w => [some w, some d.kinds.length, none], d.most, rem⟩
noncomputable def wd (site : Nat) : Nat := if site = 0 then 0 else 1
section
variable {d : Dr} {rem : Bool}
theorem blk_go : (prog d rem).blocks[d.kinds.length]? = some (go d.last) := by
  show (d.kinds.map tell ++ [go d.last, ⟨0, 0, mainRows d⟩])[d.kinds.length]? = _
  rw [List.getElem?_append_right (by rw [List.length_map]; exact Nat.le_refl _), List.length_map, Nat.sub_self]; rfl
theorem blk_main : (prog d rem).blocks[d.kinds.length + 1]? = some ⟨0, 0, mainRows d⟩ := by
  show (d.kinds.map tell ++ [go d.last, ⟨0, 0, mainRows d⟩])[d.kinds.length + 1]? = _
  rw [List.getElem?_append_right (by rw [List.length_map]; omega), List.length_map, Nat.add_sub_cancel_left]; rfl
theorem blk_tell {i k : Nat} (h : d.kinds[i]? = some k) : (prog d rem).blocks[i]? = some (tell k) := by
  show (d.kinds.map tell ++ [go d.last, ⟨0, 0, mainRows d⟩])[i]? = _
  rw [List.getElem?_append_left (by rw [List.length_map]; exact (List.getElem?_eq_some_iff.mp h).1), List.getElem?_map, h]; rfl
theorem tab0 {h w : Nat} (e : d.wy[h]? = some w) : tab (prog d rem) h 0 = some w := by
  unfold tab
  show ((d.wy.map fun w => [some w, some d.kinds.length, none])[h]?).bind _ = _
  rw [List.getElem?_map, e]; rfl
theorem tab1 {h w : Nat} (e : d.wy[h]? = some w) : tab (prog d rem) h 1 = some d.kinds.length := by
  unfold tab
  show ((d.wy.map fun w => [some w, some d.kinds.length, none])[h]?).bind _ = _
  rw [List.getElem?_map, e]; rfl
theorem words (f : AFr) (site word many : Nat) (h : row? (prog d rem) f = some (.call site word many)) : word = wd site := by
  obtain ⟨b, hb, hr⟩ := Option.bind_eq_some_iff.mp h
  have hm := List.mem_of_getElem? hb
  have hr := List.mem_of_getElem? hr
  rcases List.mem_append.mp (show b ∈ d.kinds.map tell ++ [go d.last, ⟨0, 0, mainRows d⟩] from hm) with hm | hm
  · obtain ⟨k, _, rfl⟩ := List.mem_map.mp hm
    unfold tell at hr
    by_cases e : k = 2
    · simp [e] at hr
    · simp [e] at hr
  · rcases List.mem_cons.mp hm with e | hm
    · subst e
      simp [go, goRows] at hr
      rcases hr with ⟨rfl, rfl, rfl⟩ | ⟨rfl, rfl, rfl⟩ <;> rfl
    · rcases List.mem_singleton.mp hm with rfl
      simp [mainRows] at hr
      obtain ⟨rfl, rfl, rfl⟩ := hr
      rfl
theorem at_go {pc : Nat} {rows : List Row} (h : ∀ i r, rows[i]? = some r → (goRows d.last)[pc + i]? = some r) : AtRows (prog d rem) d.kinds.length pc rows := fun i r hr => by
  rw [blk_go]; exact h i r hr
end
noncomputable def thA (L : Nat) : Nat := 1 + L % 3
noncomputable def kd (d : Dr) (i : Nat) : Nat := ((d.wy[d.homes i]?).bind fun w => d.kinds[w]?).getD 0
noncomputable def fields (d : Dr) : Nat → Nat → Int
  | 0, i => d.vals i
  | L + 1, i => if i = thA L ∧ kd d (thA L) = 2 then (d.count : Int) - L else fields d L i
noncomputable def told (d : Dr) (L : Nat) : Int := if kd d (thA L) = 0 then (d.count : Int) - L + fields d L (thA L) else if kd d (thA L) = 1 then (d.count : Int) - L - fields d L (thA L) else (d.count : Int) - L + ((d.count : Int) - L)
noncomputable def slots (d : Dr) (L : Nat) (x : AV) : List AV := [.th 0, .int ((d.count : Int) - L), .th (thA L), .th (thA (L + 1)), .th (thA (L + 2)), x]
noncomputable def susp (d : Dr) : Nat → List AFr
  | 0 => [⟨d.kinds.length + 1, 10, [], []⟩]
  | L + 1 => ⟨d.kinds.length, 18, slots d L (.int (told d L)), []⟩ :: susp d L
noncomputable def made (d : Dr) (L : Nat) : List (Nat × List AV) := [(d.homes 0, [.int (d.vals 0)]), (d.homes 1, [.int (fields d L 1)]), (d.homes 2, [.int (fields d L 2)]), (d.homes 3, [.int (fields d L 3)])]
noncomputable def trace (d : Dr) : Nat → List (Nat × Nat)
  | 0 => [(2, d.homes 0)]
  | L + 1 => (1, d.homes 0) :: (0, d.homes (thA L)) :: trace d L
theorem susp_len (d : Dr) : ∀ L, (susp d L).length = L + 1
  | 0 => rfl
  | L + 1 => by show (susp d L).length + 1 = _; rw [susp_len d L]
theorem thA_lt (L : Nat) : thA L < 4 ∧ 0 < thA L := by unfold thA; omega
theorem thA3 (L : Nat) : thA (L + 3) = thA L := by unfold thA; omega
theorem made_at (d : Dr) (L : Nat) {i : Nat} (h : i < 4) (h0 : 0 < i) : (made d L)[i]? = some (d.homes i, [.int (fields d L i)]) := by
  have : i = 1 ∨ i = 2 ∨ i = 3 := by omega
  rcases this with rfl | rfl | rfl <;> rfl
theorem fields_bd {d : Dr} (ok : d.Ok) : ∀ L, L ≤ d.count → ∀ i, i < 4 → -1000 ≤ fields d L i ∧ fields d L i ≤ 1000
  | 0, _, i, hi => ok.v i hi
  | L + 1, hL, i, hi => by
    unfold fields
    have hc := ok.c
    split
    · omega
    · exact fields_bd ok L (by omega) i hi
theorem told_bd {d : Dr} (ok : d.Ok) {L : Nat} (hL : L ≤ d.count) : -2000 ≤ told d L ∧ told d L ≤ 2000 := by
  have := fields_bd ok L hL (thA L) (thA_lt L).1
  have hc := ok.c
  unfold told
  split
  · omega
  · split <;> omega
theorem kd_at {d : Dr} (ok : d.Ok) {i : Nat} (hi : i < 4) : ∃ w, d.wy[d.homes i]? = some w ∧ d.kinds[w]? = some (kd d i) ∧ kd d i < 3 := by
  have h1 := ok.h i hi
  obtain ⟨w, hw⟩ : ∃ w, d.wy[d.homes i]? = some w := ⟨_, List.getElem?_eq_getElem h1⟩
  have h2 := ok.w w (List.mem_of_getElem? hw)
  obtain ⟨k, hk⟩ : ∃ k, d.kinds[w]? = some k := ⟨_, List.getElem?_eq_getElem h2⟩
  refine ⟨w, hw, ?_, ?_⟩
  · unfold kd; rw [hw]; show d.kinds[w]? = some (d.kinds[w]?.getD 0); rw [hk]; rfl
  · unfold kd; rw [hw]; show d.kinds[w]?.getD 0 < 3; rw [hk]; exact ok.k k (List.mem_of_getElem? hk)
end P63
end

section
namespace Mach
set_option linter.all false
theorem rt_row {P : Prog} {s t : MS} {f : AFr} {fs : List AFr} {r : Row} (he : s.ended = none) (hf : s.frames = f :: fs) (hr : row? P f = some r) (hc : ∀ a b c, r ≠ .call a b c) (h : rowM (plain P) { s with rows := s.rows + 1 } f fs r = some t) : RunT P 1 s t [] :=
  RunT.one (by rw [step_rows (P := plain P) he hf hr]; exact h) (next_own hf hr hc)
theorem rt_call {P : Prog} {s t : MS} {f : AFr} {fs : List AFr} {site word many k b : Nat} {vs : List AV} {th : Nat × List AV} (he : s.ended = none) (hf : s.frames = f :: fs) (hr : row? P f = some (.call site word many)) (hv : (f.st.take many).reverse = .th k :: vs)
    (hm : many ≤ f.st.length) (hk : s.made[k]? = some th) (hb : tab P th.1 word = some b) (h : enter (plain P) { s with rows := s.rows + 1, looks := s.looks + 1 } f fs b many = some t) : RunT P 1 s t [(site, th.1)] := by
  refine RunT.one ?_ (next_call hf hr hv hk)
  rw [step_rows (P := plain P) he hf hr]
  show (match (f.st.take many).reverse with | .th k :: _ => if many ≤ f.st.length then (s.made[k]?).bind fun t => (found (plain P) { s with rows := s.rows + 1 } t.1 site word).bind fun r => enter (plain P) r.2 f fs r.1 many else none | _ => none) = _
  rw [hv]
  show (if many ≤ f.st.length then _ else _) = _
  rw [if_pos hm, hk]
  show (found (plain P) { s with rows := s.rows + 1 } th.1 site word).bind _ = _
  rw [found_plain (P := plain P) rfl hb]
  exact h
end Mach
namespace P63
open Mach
set_option linter.all false
noncomputable def goF (d : Dr) (L pc : Nat) (x : AV) (st : List AV) : AFr := ⟨d.kinds.length, pc, slots d L x, st⟩
structure At (d : Dr) (L : Nat) (s : MS) : Prop where
  fr : s.frames = goF d L 0 .non [] :: susp d L
  md : s.made = made d L
  en : s.ended = none
  ca : s.calls = 1 + 2 * L
structure Fin (e : End) (c : Nat) (s : MS) : Prop where
  fr : s.frames = []
  en : s.ended = some e
  ca : s.calls = c
theorem made_same {d : Dr} {L : Nat} (h : kd d (thA L) ≠ 2) : made d (L + 1) = made d L := by
  unfold made
  have : ∀ i, fields d (L + 1) i = fields d L i := fun i => by
    show (if _ then _ else _) = _
    rw [if_neg fun z => h z.2]
  rw [this, this, this]
theorem made_set {d : Dr} {L : Nat} (h : kd d (thA L) = 2) : (made d L).set (thA L) (d.homes (thA L), [.int ((d.count : Int) - L)]) = made d (L + 1) := by
  have f : ∀ i, fields d (L + 1) i = if i = thA L then (d.count : Int) - L else fields d L i := fun i => by
    show (if _ then _ else _) = _
    by_cases e : i = thA L
    · rw [if_pos ⟨e, h⟩, if_pos e]
    · rw [if_neg fun z => e z.1, if_neg e]
  unfold made
  rw [f, f, f]
  have : thA L = 1 ∨ thA L = 2 ∨ thA L = 3 := by unfold thA; omega
  rcases this with e | e | e <;> rw [e] <;> rfl
theorem told_ok {n : Int} (h : -1000000 ≤ n ∧ n ≤ 1000000) : Mach.told n = .inl (.int n) := if_pos ⟨by omega, by omega⟩
section
variable {d : Dr} {rem : Bool}
theorem lead (ok : d.Ok) {L : Nat} {s : MS} (h : At d L s) (hL : L < d.count) :
    RunT (prog d rem) 6 s { s with rows := s.rows + 6, frames := goF d L 8 .non [.int ((d.count : Int) - L), .th (thA L)] :: susp d L } [] := by
  have s1 := seg_run (P := prog d rem) (rows := [.load 1, .push (.int 0), .two .same]) h.en h.fr (at_go fun i r hr => by
    match i, hr with
    | 0, hr => exact hr
    | 1, hr => exact hr
    | 2, hr => exact hr) rfl (f' := goF d L 3 .non [.bl (decide ((d.count : Int) - L = 0))]) rfl
  have s2 : RunT (prog d rem) 1 { s with rows := s.rows + 3, frames := goF d L 3 .non [.bl (decide ((d.count : Int) - L = 0))] :: susp d L } { s with rows := s.rows + 4, frames := goF d L 6 .non [] :: susp d L } [] := by
    refine rt_row (f := goF d L 3 .non [.bl (decide ((d.count : Int) - L = 0))]) (fs := susp d L) h.en rfl (r := .unl 2) ?_ (fun _ _ _ z => by cases z) ?_
    · unfold row?; show ((prog d rem).blocks[d.kinds.length]?).bind _ = _; rw [blk_go]; rfl
    · have e : decide ((d.count : Int) - L = 0) = false := decide_eq_false (by omega)
      rw [e]; rfl
  have s3 := seg_run (P := prog d rem) (rows := [.load 2, .load 1]) (s := { s with rows := s.rows + 4, frames := goF d L 6 .non [] :: susp d L }) (f := goF d L 6 .non []) (fs := susp d L) h.en rfl (at_go fun i r hr => by
    match i, hr with
    | 0, hr => exact hr
    | 1, hr => exact hr) rfl (f' := goF d L 8 .non [.int ((d.count : Int) - L), .th (thA L)]) rfl
  exact (s1.trans s2).trans s3
theorem tell_run (ok : d.Ok) {L w : Nat} {fs : List AFr} {g : AFr} {s : MS} (hw : d.kinds[w]? = some (kd d (thA L))) (hL : L ≤ d.count) (he : s.ended = none) (hm : s.made = made d L) (hf : s.frames = ⟨w, 0, [.th (thA L), .int ((d.count : Int) - L)], []⟩ :: g :: fs) :
    ∃ n, n ≤ 7 ∧ RunT (prog d rem) n s { s with rows := s.rows + n, made := made d (L + 1), frames := { g with st := .int (told d L) :: g.st } :: fs } [] := by
  have hk3 := (kd_at ok (thA_lt L).1)
  obtain ⟨_, _, _, hk3⟩ := hk3
  have hc := ok.c
  have hfb := fields_bd ok L hL (thA L) (thA_lt L).1
  have hb := blk_tell (rem := rem) hw
  have hat := made_at d L (thA_lt L).1 (thA_lt L).2
  by_cases h2 : kd d (thA L) = 2
  · have ht : told d L = (d.count : Int) - L + ((d.count : Int) - L) := by unfold told; rw [h2]; rfl
    rw [h2] at hb
    have s1 := seg_run (P := prog d rem) (rows := [.load 0, .load 1]) he hf (fun i r hr => by
      rw [hb]
      match i, hr with
      | 0, hr => exact hr
      | 1, hr => exact hr) rfl (f' := ⟨w, 2, [.th (thA L), .int ((d.count : Int) - L)], [.int ((d.count : Int) - L), .th (thA L)]⟩) rfl
    have s2 : RunT (prog d rem) 1 { s with rows := s.rows + 2, frames := ⟨w, 2, [.th (thA L), .int ((d.count : Int) - L)], [.int ((d.count : Int) - L), .th (thA L)]⟩ :: g :: fs } { s with rows := s.rows + 3, made := made d (L + 1), frames := ⟨w, 3, [.th (thA L), .int ((d.count : Int) - L)], [.int ((d.count : Int) - L)]⟩ :: g :: fs } [] := by
      refine rt_row (f := ⟨w, 2, [.th (thA L), .int ((d.count : Int) - L)], [.int ((d.count : Int) - L), .th (thA L)]⟩) (fs := g :: fs) he rfl (r := .put 0) ?_ (fun _ _ _ z => by cases z) ?_
      · unfold row?; show ((prog d rem).blocks[w]?).bind _ = _; rw [hb]; rfl
      · show (s.made[thA L]?).bind _ = _
        rw [hm, hat]
        show some _ = some _
        rw [← made_set h2]
        rfl
    have hat' : (made d (L + 1))[thA L]? = some (d.homes (thA L), [.int ((d.count : Int) - L)]) := by
      rw [made_at d (L + 1) (thA_lt L).1 (thA_lt L).2]
      show some (_, [AV.int (if _ then _ else _)]) = _
      rw [if_pos ⟨rfl, h2⟩]
    have s3 := seg_run (P := prog d rem) (rows := [.load 0, .get 0, .two .add]) (s := { s with rows := s.rows + 3, made := made d (L + 1), frames := ⟨w, 3, [.th (thA L), .int ((d.count : Int) - L)], [.int ((d.count : Int) - L)]⟩ :: g :: fs }) (f := ⟨w, 3, [.th (thA L), .int ((d.count : Int) - L)], [.int ((d.count : Int) - L)]⟩) (fs := g :: fs) he rfl (fun i r hr => by
      show ((prog d rem).blocks[w]?).bind _ = _
      rw [hb]
      match i, hr with
      | 0, hr => exact hr
      | 1, hr => exact hr
      | 2, hr => exact hr) rfl (f' := ⟨w, 6, [.th (thA L), .int ((d.count : Int) - L)], [.int (told d L)]⟩) (by
        simp only [seg, own, List.getElem?_cons_zero, Option.map_some, hat', Option.bind_some, two_add]
        rw [told_ok (by omega), ht])
    have s4 : RunT (prog d rem) 1 { s with rows := s.rows + 6, made := made d (L + 1), frames := ⟨w, 6, [.th (thA L), .int ((d.count : Int) - L)], [.int (told d L)]⟩ :: g :: fs } { s with rows := s.rows + 7, made := made d (L + 1), frames := { g with st := .int (told d L) :: g.st } :: fs } [] := by
      refine rt_row (f := ⟨w, 6, [.th (thA L), .int ((d.count : Int) - L)], [.int (told d L)]⟩) (fs := g :: fs) he rfl (r := .back) ?_ (fun _ _ _ z => by cases z) rfl
      unfold row?; show ((prog d rem).blocks[w]?).bind _ = _; rw [hb]; rfl
    exact ⟨7, Nat.le_refl _, ((s1.trans s2).trans s3).trans s4⟩
  · have hb' : (tell (kd d (thA L))).rows = [.load 1, .load 0, .get 0, .two (if kd d (thA L) = 0 then .add else .sub), .back] := if_neg h2
    have s3 := seg_run (P := prog d rem) (rows := [.load 1, .load 0, .get 0, .two (if kd d (thA L) = 0 then .add else .sub)]) he hf (fun i r hr => by
      rw [hb]
      show (tell (kd d (thA L))).rows[0 + i]? = _
      rw [hb']
      match i, hr with
      | 0, hr => exact hr
      | 1, hr => exact hr
      | 2, hr => exact hr
      | 3, hr => exact hr) rfl (f' := ⟨w, 4, [.th (thA L), .int ((d.count : Int) - L)], [.int (told d L)]⟩) (by
        rw [hm]
        simp only [seg, own, List.getElem?_cons_zero, List.getElem?_cons_succ, Option.map_some, hat, Option.bind_some]
        have : kd d (thA L) = 0 ∨ kd d (thA L) = 1 := by omega
        rcases this with e | e
        · have ht : told d L = (d.count : Int) - L + fields d L (thA L) := by unfold told; rw [if_pos e]
          rw [e, ht]
          simp only [if_true, two_add, Option.map_some]
          rw [told_ok (by omega)]
        · have ht : told d L = (d.count : Int) - L - fields d L (thA L) := by unfold told; rw [e]; rfl
          rw [e, ht]
          simp only [two_sub, Option.map_some, Nat.one_ne_zero, if_false]
          rw [told_ok (by omega)])
    have s4 : RunT (prog d rem) 1 { s with rows := s.rows + 4, frames := ⟨w, 4, [.th (thA L), .int ((d.count : Int) - L)], [.int (told d L)]⟩ :: g :: fs } { s with rows := s.rows + 5, frames := { g with st := .int (told d L) :: g.st } :: fs } [] := by
      refine rt_row (f := ⟨w, 4, [.th (thA L), .int ((d.count : Int) - L)], [.int (told d L)]⟩) (fs := g :: fs) he rfl (r := .back) ?_ (fun _ _ _ z => by cases z) rfl
      unfold row?; show ((prog d rem).blocks[w]?).bind _ = _; rw [hb]
      show (tell (kd d (thA L))).rows[4]? = _
      rw [hb']; rfl
    refine ⟨5, by omega, ?_⟩
    rw [made_same h2, ← hm]
    exact s3.trans s4
end
end P63
end

section
namespace P63
open Mach
set_option linter.all false
theorem enter_dry {P : Prog} {s : MS} {f : AFr} {fs : List AFr} {b m : Nat} (h : P.most ≤ s.calls) : enter P s f fs b m = some (ends s .dry) := if_pos h
theorem enter_deep {P : Prog} {s : MS} {f : AFr} {fs : List AFr} {b m : Nat} (h : ¬ P.most ≤ s.calls) (h2 : 40 < fs.length + 1) : enter P s f fs b m = some (ends { s with calls := s.calls + 1 } .deep) := by
  unfold enter; rw [if_neg h, if_pos h2]
theorem enter_in {P : Prog} {s : MS} {f : AFr} {fs : List AFr} {b m : Nat} {k : Blk} (h : ¬ P.most ≤ s.calls) (h2 : ¬ 40 < fs.length + 1) (h3 : m ≤ f.st.length) (hb : P.blocks[b]? = some k) (hk : m ≤ k.size) :
    enter P s f fs b m = some { s with calls := s.calls + 1, frames := ⟨b, 0, (f.st.take m).reverse ++ List.replicate (k.size - m) .non, []⟩ :: { f with pc := f.pc + 1, st := f.st.drop m } :: fs } := by
  unfold enter; rw [if_neg h, if_neg h2, if_pos h3, hb]; show (if m ≤ k.size then _ else _) = _; rw [if_pos hk]
section
variable {d : Dr} {rem : Bool}
theorem row8 {L : Nat} {x : AV} {st : List AV} : row? (prog d rem) (goF d L 8 x st) = some (.call 0 0 2) := by
  unfold row?; show ((prog d rem).blocks[d.kinds.length]?).bind _ = _; rw [blk_go]; rfl
theorem row17 {L : Nat} {x : AV} {st : List AV} : row? (prog d rem) (goF d L 17 x st) = some (.call 1 1 5) := by
  unfold row?; show ((prog d rem).blocks[d.kinds.length]?).bind _ = _; rw [blk_go]; rfl
theorem lvl_dry (ok : d.Ok) {L : Nat} {s : MS} (h : At d L s) (hL : L < d.count) (hd : d.most ≤ 1 + 2 * L) : ∃ s', RunT (prog d rem) 7 s s' [(0, d.homes (thA L))] ∧ Fin .dry (1 + 2 * L) s' := by
  obtain ⟨w, hw, hk, _⟩ := kd_at ok (thA_lt L).1
  have s1 := lead (rem := rem) ok h hL
  have s2 := rt_call (P := prog d rem) (s := { s with rows := s.rows + 6, frames := goF d L 8 .non [.int ((d.count : Int) - L), .th (thA L)] :: susp d L }) (f := goF d L 8 .non [.int ((d.count : Int) - L), .th (thA L)]) (fs := susp d L) (k := thA L) (th := (d.homes (thA L), [.int (fields d L (thA L))])) (b := w) h.en rfl row8 rfl (Nat.le_refl _)
    (by show s.made[thA L]? = _; rw [h.md]; exact made_at d L (thA_lt L).1 (thA_lt L).2) (tab0 hw) (enter_dry (by show d.most ≤ s.calls; rw [h.ca]; exact hd))
  exact ⟨_, s1.trans s2, rfl, rfl, h.ca⟩
theorem lvl_deep (ok : d.Ok) {L : Nat} {s : MS} (h : At d L s) (hL : L < d.count) (hd : ¬ d.most ≤ 1 + 2 * L) (h39 : 39 ≤ L) : ∃ s', RunT (prog d rem) 7 s s' [(0, d.homes (thA L))] ∧ Fin .deep (2 + 2 * L) s' := by
  obtain ⟨w, hw, hk, _⟩ := kd_at ok (thA_lt L).1
  have s1 := lead (rem := rem) ok h hL
  have s2 := rt_call (P := prog d rem) (s := { s with rows := s.rows + 6, frames := goF d L 8 .non [.int ((d.count : Int) - L), .th (thA L)] :: susp d L }) (f := goF d L 8 .non [.int ((d.count : Int) - L), .th (thA L)]) (fs := susp d L) (k := thA L) (th := (d.homes (thA L), [.int (fields d L (thA L))])) (b := w) h.en rfl row8 rfl (Nat.le_refl _)
    (by show s.made[thA L]? = _; rw [h.md]; exact made_at d L (thA_lt L).1 (thA_lt L).2) (tab0 hw) (enter_deep (by show ¬ d.most ≤ s.calls; rw [h.ca]; exact hd) (by rw [susp_len]; omega))
  exact ⟨_, s1.trans s2, rfl, rfl, by show s.calls + 1 = _; rw [h.ca]; omega⟩
theorem lvl_call (ok : d.Ok) {L : Nat} {s : MS} (h : At d L s) (hL : L < d.count) (hd : ¬ d.most ≤ 1 + 2 * L) (h39 : L < 39) :
    ∃ n s', n ≤ 22 ∧ RunT (prog d rem) n s s' [(0, d.homes (thA L))] ∧ s'.ended = none ∧ s'.made = made d (L + 1) ∧ s'.calls = 2 + 2 * L ∧ s'.frames = goF d L 17 (.int (told d L)) [.th (thA L), .th (thA (L + 2)), .th (thA (L + 1)), .int ((d.count : Int) - L - 1), .th 0] :: susp d L := by
  obtain ⟨w, hw, hk, _⟩ := kd_at ok (thA_lt L).1
  have hc := ok.c
  have s1 := lead (rem := rem) ok h hL
  have s2 := rt_call (P := prog d rem) (s := { s with rows := s.rows + 6, frames := goF d L 8 .non [.int ((d.count : Int) - L), .th (thA L)] :: susp d L }) (f := goF d L 8 .non [.int ((d.count : Int) - L), .th (thA L)]) (fs := susp d L) (k := thA L) (th := (d.homes (thA L), [.int (fields d L (thA L))])) (b := w) h.en rfl row8 rfl (Nat.le_refl _)
    (by show s.made[thA L]? = _; rw [h.md]; exact made_at d L (thA_lt L).1 (thA_lt L).2) (tab0 hw) (enter_in (by show ¬ d.most ≤ s.calls; rw [h.ca]; exact hd) (by rw [susp_len]; omega) (Nat.le_refl _) (blk_tell (rem := false) hk) (Nat.le_refl _))
  obtain ⟨n, hn, s3⟩ := tell_run (rem := rem) ok (L := L) (w := w) (g := goF d L 9 .non []) (fs := susp d L) (s := { s with rows := s.rows + 6 + 1, looks := s.looks + 1, calls := s.calls + 1, frames := ⟨w, 0, [.th (thA L), .int ((d.count : Int) - L)], []⟩ :: goF d L 9 .non [] :: susp d L }) hk (by omega) h.en h.md rfl
  have s4 := seg_run (P := prog d rem) (rows := [.keep 5, .load 0, .load 1, .push (.int 1), .two .sub, .load 3, .load 4, .load 2]) (s := { s with rows := s.rows + 6 + 1 + n, looks := s.looks + 1, calls := s.calls + 1, made := made d (L + 1), frames := goF d L 9 .non [.int (told d L)] :: susp d L }) (f := goF d L 9 .non [.int (told d L)]) (fs := susp d L) h.en rfl (at_go fun i r hr => by
    match i, hr with
    | 0, hr => exact hr
    | 1, hr => exact hr
    | 2, hr => exact hr
    | 3, hr => exact hr
    | 4, hr => exact hr
    | 5, hr => exact hr
    | 6, hr => exact hr
    | 7, hr => exact hr) rfl (f' := goF d L 17 (.int (told d L)) [.th (thA L), .th (thA (L + 2)), .th (thA (L + 1)), .int ((d.count : Int) - L - 1), .th 0]) (by
      have e : two .sub (.int ((d.count : Int) - L)) (.int 1) = some (.inl (.int ((d.count : Int) - L - 1))) := by
        show some (Mach.told _) = _
        rw [told_ok (by omega)]
      have e2 : own (⟨d.kinds.length, 13, slots d L (.int (told d L)), [.int 1, .int ((d.count : Int) - L), .th 0]⟩ : AFr) (made d (L + 1)) (.two .sub) = some (.inl ⟨d.kinds.length, 14, slots d L (.int (told d L)), [.int ((d.count : Int) - L - 1), .th 0]⟩) := by
        simp only [own, e, Option.map_some]
      show (match own (⟨d.kinds.length, 13, slots d L (.int (told d L)), [.int 1, .int ((d.count : Int) - L), .th 0]⟩ : AFr) (made d (L + 1)) (.two .sub) with | some (.inl f') => seg (made d (L + 1)) f' [.load 3, .load 4, .load 2] | _ => none) = _
      rw [e2]; rfl)
  refine ⟨6 + 1 + n + 8, _, by omega, ((s1.trans s2).trans s3).trans s4, h.en, rfl, by show s.calls + 1 = _; rw [h.ca]; omega, rfl⟩
theorem lvl_dry2 (ok : d.Ok) {L : Nat} {s : MS} (h : At d L s) (hL : L < d.count) (hd : ¬ d.most ≤ 1 + 2 * L) (h39 : L < 39) (hd2 : d.most ≤ 2 + 2 * L) : ∃ n s', n ≤ 23 ∧ RunT (prog d rem) n s s' [(1, d.homes 0), (0, d.homes (thA L))] ∧ Fin .dry (2 + 2 * L) s' := by
  obtain ⟨n, s1, hn, r1, a1, a2, a3, a4⟩ := lvl_call (rem := rem) ok h hL hd h39
  obtain ⟨w, hw, _⟩ := kd_at ok (show 0 < 4 by decide)
  have s2 := rt_call (P := prog d rem) (s := s1) (k := 0) (th := (d.homes 0, [.int (d.vals 0)])) (b := d.kinds.length) a1 a4 row17 rfl (Nat.le_refl _) (by rw [a2]; rfl) (tab1 hw) (enter_dry (by show d.most ≤ s1.calls; rw [a3]; exact hd2))
  exact ⟨n + 1, _, by omega, r1.trans s2, rfl, rfl, a3⟩
theorem lvl_next (ok : d.Ok) {L : Nat} {s : MS} (h : At d L s) (hL : L < d.count) (hd : ¬ d.most ≤ 1 + 2 * L) (h39 : L < 39) (hd2 : ¬ d.most ≤ 2 + 2 * L) : ∃ n s', n ≤ 23 ∧ RunT (prog d rem) n s s' [(1, d.homes 0), (0, d.homes (thA L))] ∧ At d (L + 1) s' := by
  obtain ⟨n, s1, hn, r1, a1, a2, a3, a4⟩ := lvl_call (rem := rem) ok h hL hd h39
  obtain ⟨w, hw, _⟩ := kd_at ok (show 0 < 4 by decide)
  have s2 := rt_call (P := prog d rem) (s := s1) (k := 0) (th := (d.homes 0, [.int (d.vals 0)])) (b := d.kinds.length) a1 a4 row17 rfl (Nat.le_refl _) (by rw [a2]; rfl) (tab1 hw) (enter_in (by show ¬ d.most ≤ s1.calls; rw [a3]; exact hd2) (by rw [susp_len]; omega) (Nat.le_refl _) (blk_go (rem := false)) (show 5 ≤ 6 by decide))
  refine ⟨n + 1, _, by omega, r1.trans s2, ?_, a2, a1, by show s1.calls + 1 = _; rw [a3]; omega⟩
  show (⟨d.kinds.length, 0, [.th 0, .int ((d.count : Int) - L - 1), .th (thA (L + 1)), .th (thA (L + 2)), .th (thA L), .non], []⟩ : AFr) :: ⟨d.kinds.length, 18, slots d L (.int (told d L)), []⟩ :: susp d L = _
  show _ = goF d (L + 1) 0 .non [] :: susp d (L + 1)
  unfold goF slots
  rw [show thA (L + 1 + 2) = thA L from thA3 L, show (d.count : Int) - ((L + 1 : Nat) : Int) = (d.count : Int) - L - 1 by omega]
  rfl
noncomputable def total (d : Dr) : Nat → Int
  | 0 => d.last
  | L + 1 => total d L + told d L
noncomputable def back (d : Dr) : Nat → Nat → Int
  | 0, _ => d.last
  | j + 1, L => back d j (L + 1) + told d L
theorem back_bd (ok : d.Ok) : ∀ j L, L + j ≤ d.count → -2000 * (j : Int) ≤ back d j L ∧ back d j L ≤ 100 + 2000 * (j : Int)
  | 0, L, _ => by have := ok.l; unfold back; omega
  | j + 1, L, h => by
    have := back_bd ok j (L + 1) (by omega)
    have := told_bd ok (show L ≤ d.count by omega)
    unfold back
    omega
theorem unwind (ok : d.Ok) : ∀ (L j : Nat) (s : MS) (g : AFr) (gs : List AFr), L + j = d.count → susp d L = g :: gs → s.ended = none → s.frames = { g with st := .int (back d j L) :: g.st } :: gs →
    ∃ n s', n ≤ 3 * L + 1 ∧ RunT (prog d rem) n s s' [] ∧ Fin (.val (.int (back d d.count 0))) s.calls s' ∧ s'.made = s.made := by
  intro L
  induction L with
  | zero =>
    intro j s g gs hj hg he hf
    cases hg
    have hj : j = d.count := by omega
    subst hj
    refine ⟨1, _, Nat.le_refl _, rt_row he hf (r := .back) ?_ (fun _ _ _ z => by cases z) rfl, ⟨rfl, rfl, rfl⟩, rfl⟩
    unfold row?; show ((prog d rem).blocks[d.kinds.length + 1]?).bind _ = _; rw [blk_main]; rfl
  | succ L ih =>
    intro j s g gs hj hg he hf
    cases hg
    have b1 := back_bd ok j (L + 1) (by omega)
    have b2 := told_bd ok (show L ≤ d.count by omega)
    have hc := ok.c
    have s1 := seg_run (P := prog d rem) (rows := [.load 5, .two .add]) he hf (at_go fun i r hr => by
      match i, hr with
      | 0, hr => exact hr
      | 1, hr => exact hr) rfl (f' := ⟨d.kinds.length, 20, slots d L (.int (told d L)), [.int (back d (j + 1) L)]⟩) (by
        have e : own (⟨d.kinds.length, 19, slots d L (.int (told d L)), [.int (told d L), .int (back d j (L + 1))]⟩ : AFr) s.made (.two .add) = some (.inl ⟨d.kinds.length, 20, slots d L (.int (told d L)), [.int (back d (j + 1) L)]⟩) := by
          simp only [own, two_add, Option.map_some]
          rw [told_ok (by omega)]; rfl
        show (match own (⟨d.kinds.length, 19, slots d L (.int (told d L)), [.int (told d L), .int (back d j (L + 1))]⟩ : AFr) s.made (.two .add) with | some (.inl f') => seg s.made f' [] | _ => none) = _
        rw [e]; rfl)
    obtain ⟨g2, gs2, hg2⟩ : ∃ g2 gs2, susp d L = g2 :: gs2 := by cases L <;> exact ⟨_, _, rfl⟩
    have s2 : RunT (prog d rem) 1 { s with rows := s.rows + 2, frames := ⟨d.kinds.length, 20, slots d L (.int (told d L)), [.int (back d (j + 1) L)]⟩ :: susp d L } { s with rows := s.rows + 3, frames := { g2 with st := .int (back d (j + 1) L) :: g2.st } :: gs2 } [] := by
      refine rt_row (f := ⟨d.kinds.length, 20, slots d L (.int (told d L)), [.int (back d (j + 1) L)]⟩) (fs := susp d L) he rfl (r := .back) ?_ (fun _ _ _ z => by cases z) ?_
      · unfold row?; show ((prog d rem).blocks[d.kinds.length]?).bind _ = _; rw [blk_go]; rfl
      · rw [hg2]; rfl
    obtain ⟨n, s', hn, r, hfin, hmd⟩ := ih (j + 1) { s with rows := s.rows + 3, frames := { g2 with st := .int (back d (j + 1) L) :: g2.st } :: gs2 } g2 gs2 (by omega) hg2 he rfl
    exact ⟨2 + 1 + n, s', by omega, (s1.trans s2).trans r, hfin, hmd⟩
theorem lvl_last (ok : d.Ok) {s : MS} (h : At d d.count s) : ∃ n s', n ≤ 3 * d.count + 7 ∧ RunT (prog d rem) n s s' [] ∧ Fin (.val (.int (back d d.count 0))) (1 + 2 * d.count) s' ∧ s'.made = made d d.count := by
  obtain ⟨g, gs, hg⟩ : ∃ g gs, susp d d.count = g :: gs := by cases d.count <;> exact ⟨_, _, rfl⟩
  have hfr := h.fr
  rw [hg] at hfr
  have s1 := seg_run (P := prog d rem) (rows := [.load 1, .push (.int 0), .two .same]) h.en hfr (at_go fun i r hr => by
    match i, hr with
    | 0, hr => exact hr
    | 1, hr => exact hr
    | 2, hr => exact hr) rfl (f' := goF d d.count 3 .non [.bl (decide ((d.count : Int) - d.count = 0))]) rfl
  have s2 : RunT (prog d rem) 1 { s with rows := s.rows + 3, frames := goF d d.count 3 .non [.bl (decide ((d.count : Int) - d.count = 0))] :: g :: gs } { s with rows := s.rows + 4, frames := goF d d.count 4 .non [] :: g :: gs } [] := by
    refine rt_row (f := goF d d.count 3 .non [.bl (decide ((d.count : Int) - d.count = 0))]) (fs := g :: gs) h.en rfl (r := .unl 2) ?_ (fun _ _ _ z => by cases z) ?_
    · unfold row?; show ((prog d rem).blocks[d.kinds.length]?).bind _ = _; rw [blk_go]; rfl
    · have e : decide ((d.count : Int) - d.count = 0) = true := decide_eq_true (by omega)
      rw [e]; rfl
  have s3 := seg_run (P := prog d rem) (rows := [.push (.int d.last)]) (s := { s with rows := s.rows + 4, frames := goF d d.count 4 .non [] :: g :: gs }) (f := goF d d.count 4 .non []) (fs := g :: gs) h.en rfl (at_go fun i r hr => by
    match i, hr with
    | 0, hr => exact hr) rfl (f' := goF d d.count 5 .non [.int d.last]) rfl
  have s4 : RunT (prog d rem) 1 { s with rows := s.rows + 5, frames := goF d d.count 5 .non [.int d.last] :: g :: gs } { s with rows := s.rows + 6, frames := { g with st := .int d.last :: g.st } :: gs } [] := by
    refine rt_row (f := goF d d.count 5 .non [.int d.last]) (fs := g :: gs) h.en rfl (r := .back) ?_ (fun _ _ _ z => by cases z) rfl
    unfold row?; show ((prog d rem).blocks[d.kinds.length]?).bind _ = _; rw [blk_go]; rfl
  obtain ⟨n, s', hn, r, hfin, hmd⟩ := unwind (rem := rem) ok d.count 0 { s with rows := s.rows + 6, frames := { g with st := .int d.last :: g.st } :: gs } g gs (by omega) hg h.en rfl
  refine ⟨3 + 1 + 1 + 1 + n, s', by omega, (((s1.trans s2).trans s3).trans s4).trans r, ?_, hmd.trans h.md⟩
  rw [← h.ca]; exact hfin
end
end P63
end

section
namespace P63
open Mach
set_option linter.all false
noncomputable def init (d : Dr) : MS := ⟨[⟨d.kinds.length + 1, 0, [], []⟩], [], none, 0, 0, 0, 0, fun _ => none⟩
noncomputable def ansFrom (d : Dr) : Nat → Nat → End × Nat × List (Nat × Nat)
  | 0, L => (.val (.int (back d d.count 0)), 1 + 2 * L, trace d L)
  | j + 1, L => if d.most ≤ 1 + 2 * L then (.dry, 1 + 2 * L, (0, d.homes (thA L)) :: trace d L) else if 39 ≤ L then (.deep, 2 + 2 * L, (0, d.homes (thA L)) :: trace d L)
    else if d.most ≤ 2 + 2 * L then (.dry, 2 + 2 * L, (1, d.homes 0) :: (0, d.homes (thA L)) :: trace d L) else ansFrom d j (L + 1)
noncomputable def ans (d : Dr) : End × Nat × List (Nat × Nat) := if d.most = 0 then (.dry, 0, [(2, d.homes 0)]) else ansFrom d d.count 0
section
variable {d : Dr} {rem : Bool}
theorem rowm {pc : Nat} {st : List AV} {r : Row} (h : (mainRows d)[pc]? = some r) : row? (prog d rem) ⟨d.kinds.length + 1, pc, [], st⟩ = some r := by
  unfold row?; show ((prog d rem).blocks[d.kinds.length + 1]?).bind _ = _; rw [blk_main]; exact h
theorem main_run : RunT (prog d rem) 9 (init d) { init d with rows := 9, made := made d 0, frames := [⟨d.kinds.length + 1, 9, [], [.th 3, .th 2, .th 1, .int d.count, .th 0]⟩] } [] := by
  have s1 : RunT (prog d rem) 1 (init d) { init d with rows := 1, frames := [⟨d.kinds.length + 1, 1, [], [.int (d.vals 0)]⟩] } [] :=
    rt_row (f := ⟨d.kinds.length + 1, 0, [], []⟩) (fs := []) rfl rfl (rowm rfl) (fun _ _ _ z => by cases z) rfl
  have s2 : RunT (prog d rem) 1 { init d with rows := 1, frames := [⟨d.kinds.length + 1, 1, [], [.int (d.vals 0)]⟩] } { init d with rows := 2, made := [(d.homes 0, [.int (d.vals 0)])], frames := [⟨d.kinds.length + 1, 2, [], [.th 0]⟩] } [] :=
    rt_row (f := ⟨d.kinds.length + 1, 1, [], [.int (d.vals 0)]⟩) (fs := []) rfl rfl (rowm rfl) (fun _ _ _ z => by cases z) rfl
  have s3 : RunT (prog d rem) 1 { init d with rows := 2, made := [(d.homes 0, [.int (d.vals 0)])], frames := [⟨d.kinds.length + 1, 2, [], [.th 0]⟩] } { init d with rows := 3, made := [(d.homes 0, [.int (d.vals 0)])], frames := [⟨d.kinds.length + 1, 3, [], [.int d.count, .th 0]⟩] } [] :=
    rt_row (f := ⟨d.kinds.length + 1, 2, [], [.th 0]⟩) (fs := []) rfl rfl (rowm rfl) (fun _ _ _ z => by cases z) rfl
  have s4 : RunT (prog d rem) 1 { init d with rows := 3, made := [(d.homes 0, [.int (d.vals 0)])], frames := [⟨d.kinds.length + 1, 3, [], [.int d.count, .th 0]⟩] } { init d with rows := 4, made := [(d.homes 0, [.int (d.vals 0)])], frames := [⟨d.kinds.length + 1, 4, [], [.int (d.vals 1), .int d.count, .th 0]⟩] } [] :=
    rt_row (f := ⟨d.kinds.length + 1, 3, [], [.int d.count, .th 0]⟩) (fs := []) rfl rfl (rowm rfl) (fun _ _ _ z => by cases z) rfl
  have s5 : RunT (prog d rem) 1 { init d with rows := 4, made := [(d.homes 0, [.int (d.vals 0)])], frames := [⟨d.kinds.length + 1, 4, [], [.int (d.vals 1), .int d.count, .th 0]⟩] } { init d with rows := 5, made := [(d.homes 0, [.int (d.vals 0)]), (d.homes 1, [.int (d.vals 1)])], frames := [⟨d.kinds.length + 1, 5, [], [.th 1, .int d.count, .th 0]⟩] } [] :=
    rt_row (f := ⟨d.kinds.length + 1, 4, [], [.int (d.vals 1), .int d.count, .th 0]⟩) (fs := []) rfl rfl (rowm rfl) (fun _ _ _ z => by cases z) rfl
  have s6 : RunT (prog d rem) 1 { init d with rows := 5, made := [(d.homes 0, [.int (d.vals 0)]), (d.homes 1, [.int (d.vals 1)])], frames := [⟨d.kinds.length + 1, 5, [], [.th 1, .int d.count, .th 0]⟩] } { init d with rows := 6, made := [(d.homes 0, [.int (d.vals 0)]), (d.homes 1, [.int (d.vals 1)])], frames := [⟨d.kinds.length + 1, 6, [], [.int (d.vals 2), .th 1, .int d.count, .th 0]⟩] } [] :=
    rt_row (f := ⟨d.kinds.length + 1, 5, [], [.th 1, .int d.count, .th 0]⟩) (fs := []) rfl rfl (rowm rfl) (fun _ _ _ z => by cases z) rfl
  have s7 : RunT (prog d rem) 1 { init d with rows := 6, made := [(d.homes 0, [.int (d.vals 0)]), (d.homes 1, [.int (d.vals 1)])], frames := [⟨d.kinds.length + 1, 6, [], [.int (d.vals 2), .th 1, .int d.count, .th 0]⟩] } { init d with rows := 7, made := [(d.homes 0, [.int (d.vals 0)]), (d.homes 1, [.int (d.vals 1)]), (d.homes 2, [.int (d.vals 2)])], frames := [⟨d.kinds.length + 1, 7, [], [.th 2, .th 1, .int d.count, .th 0]⟩] } [] :=
    rt_row (f := ⟨d.kinds.length + 1, 6, [], [.int (d.vals 2), .th 1, .int d.count, .th 0]⟩) (fs := []) rfl rfl (rowm rfl) (fun _ _ _ z => by cases z) rfl
  have s8 : RunT (prog d rem) 1 { init d with rows := 7, made := [(d.homes 0, [.int (d.vals 0)]), (d.homes 1, [.int (d.vals 1)]), (d.homes 2, [.int (d.vals 2)])], frames := [⟨d.kinds.length + 1, 7, [], [.th 2, .th 1, .int d.count, .th 0]⟩] } { init d with rows := 8, made := [(d.homes 0, [.int (d.vals 0)]), (d.homes 1, [.int (d.vals 1)]), (d.homes 2, [.int (d.vals 2)])], frames := [⟨d.kinds.length + 1, 8, [], [.int (d.vals 3), .th 2, .th 1, .int d.count, .th 0]⟩] } [] :=
    rt_row (f := ⟨d.kinds.length + 1, 7, [], [.th 2, .th 1, .int d.count, .th 0]⟩) (fs := []) rfl rfl (rowm rfl) (fun _ _ _ z => by cases z) rfl
  have s9 : RunT (prog d rem) 1 { init d with rows := 8, made := [(d.homes 0, [.int (d.vals 0)]), (d.homes 1, [.int (d.vals 1)]), (d.homes 2, [.int (d.vals 2)])], frames := [⟨d.kinds.length + 1, 8, [], [.int (d.vals 3), .th 2, .th 1, .int d.count, .th 0]⟩] } { init d with rows := 9, made := made d 0, frames := [⟨d.kinds.length + 1, 9, [], [.th 3, .th 2, .th 1, .int d.count, .th 0]⟩] } [] :=
    rt_row (f := ⟨d.kinds.length + 1, 8, [], [.int (d.vals 3), .th 2, .th 1, .int d.count, .th 0]⟩) (fs := []) rfl rfl (rowm rfl) (fun _ _ _ z => by cases z) rfl
  exact s1.trans (s2.trans (s3.trans (s4.trans (s5.trans (s6.trans (s7.trans (s8.trans s9)))))))
theorem from_level (ok : d.Ok) : ∀ (j L : Nat) (s : MS), L + j = d.count → At d L s → ∃ n s' tr, n ≤ 23 * j + 3 * d.count + 7 ∧ RunT (prog d rem) n s s' tr ∧ tr ++ trace d L = (ansFrom d j L).2.2 ∧ Fin (ansFrom d j L).1 (ansFrom d j L).2.1 s' := by
  intro j
  induction j with
  | zero =>
    intro L s hj h
    obtain rfl : L = d.count := by omega
    obtain ⟨n, s', hn, r, hf, _⟩ := lvl_last (rem := rem) ok h
    exact ⟨n, s', [], by omega, r, rfl, hf⟩
  | succ j ih =>
    intro L s hj h
    have hL : L < d.count := by omega
    unfold ansFrom
    by_cases h1 : d.most ≤ 1 + 2 * L
    · rw [if_pos h1]
      obtain ⟨s', r, hf⟩ := lvl_dry (rem := rem) ok h hL h1
      exact ⟨7, s', _, by omega, r, rfl, hf⟩
    rw [if_neg h1]
    by_cases h2 : 39 ≤ L
    · rw [if_pos h2]
      obtain ⟨s', r, hf⟩ := lvl_deep (rem := rem) ok h hL h1 h2
      exact ⟨7, s', _, by omega, r, rfl, hf⟩
    rw [if_neg h2]
    by_cases h3 : d.most ≤ 2 + 2 * L
    · rw [if_pos h3]
      obtain ⟨n, s', hn, r, hf⟩ := lvl_dry2 (rem := rem) ok h hL h1 (by omega) h3
      exact ⟨n, s', _, by omega, r, rfl, hf⟩
    rw [if_neg h3]
    obtain ⟨n, s1, hn, r1, h'⟩ := lvl_next (rem := rem) ok h hL h1 (by omega) h3
    obtain ⟨m, s', tr, hm, r2, e, hf⟩ := ih (L + 1) s1 (by omega) h'
    refine ⟨n + m, s', _, by omega, r1.trans r2, ?_, hf⟩
    rw [← e, List.append_assoc]
    rfl
theorem whole (ok : d.Ok) : ∃ n s', n ≤ 1500 ∧ RunT (prog d rem) n (init d) s' (ans d).2.2 ∧ Fin (ans d).1 (ans d).2.1 s' := by
  have hc := ok.c
  obtain ⟨w, hw, _⟩ := kd_at ok (show 0 < 4 by decide)
  have s1 := main_run (d := d) (rem := rem)
  unfold ans
  by_cases h0 : d.most = 0
  · rw [if_pos h0]
    have s2 := rt_call (P := prog d rem) (s := { init d with rows := 9, made := made d 0, frames := [⟨d.kinds.length + 1, 9, [], [.th 3, .th 2, .th 1, .int d.count, .th 0]⟩] }) (f := ⟨d.kinds.length + 1, 9, [], [.th 3, .th 2, .th 1, .int d.count, .th 0]⟩) (fs := []) (site := 2) (word := 1) (many := 5) (k := 0) (th := (d.homes 0, [.int (d.vals 0)])) (b := d.kinds.length) rfl rfl (rowm rfl) rfl (Nat.le_refl _) rfl (tab1 hw) (enter_dry (by show d.most ≤ 0; omega))
    exact ⟨10, _, by omega, s1.trans s2, rfl, rfl, rfl⟩
  · rw [if_neg h0]
    have s2 := rt_call (P := prog d rem) (s := { init d with rows := 9, made := made d 0, frames := [⟨d.kinds.length + 1, 9, [], [.th 3, .th 2, .th 1, .int d.count, .th 0]⟩] }) (f := ⟨d.kinds.length + 1, 9, [], [.th 3, .th 2, .th 1, .int d.count, .th 0]⟩) (fs := []) (site := 2) (word := 1) (many := 5) (k := 0) (th := (d.homes 0, [.int (d.vals 0)])) (b := d.kinds.length) rfl rfl (rowm rfl) rfl (Nat.le_refl _) rfl (tab1 hw) (enter_in (by show ¬ d.most ≤ 0; omega) (by decide) (Nat.le_refl _) (blk_go (rem := false)) (show 5 ≤ 6 by decide))
    have hA : At d 0 ({ init d with rows := 10, looks := 1, calls := 1, made := made d 0, frames := [⟨d.kinds.length, 0, [.th 0, .int d.count, .th 1, .th 2, .th 3, .non], []⟩, ⟨d.kinds.length + 1, 10, [], []⟩] } : MS) := ⟨(show ((⟨d.kinds.length, 0, [.th 0, .int d.count, .th 1, .th 2, .th 3, .non], []⟩ : AFr) :: [⟨d.kinds.length + 1, 10, [], []⟩]) = goF d 0 0 .non [] :: susp d 0 by
      unfold goF slots
      rw [show (d.count : Int) - ((0 : Nat) : Int) = d.count by omega]
      rfl), rfl, rfl, rfl⟩
    obtain ⟨m, s', tr, hm, r2, e, hf⟩ := from_level (rem := rem) ok d.count 0 _ (by omega) hA
    refine ⟨9 + 1 + m, s', by omega, ?_, hf⟩
    have := (s1.trans s2).trans r2
    rw [← e]
    exact this
end
end P63
end

section
namespace Mach
set_option linter.all false
theorem step_cr {P : Prog} {s s' : MS} (e : step P s = some s') : s'.calls ≤ s.calls + 1 ∧ s'.rows = s.rows + 1 := by
  obtain ⟨f, fs, r, _, _, _, q⟩ := step_shape e
  clear e
  cases q with
  | call _ _ _ _ _ _ _ hb en =>
    obtain ⟨_, _, _, rfl, _⟩ := found_shape hb
    exact en.lh.2.2.2
  | strt _ _ _ en => exact en.lh.2.2.2
  | _ => exact ⟨Nat.le_succ _, rfl⟩
end Mach
namespace P63
open Mach
set_option linter.all false
variable {d : Dr} {rem : Bool}
theorem rows_ok {b : Blk} (hb : b ∈ (prog d rem).blocks) : b = go d.last ∨ b = ⟨0, 0, mainRows d⟩ ∨ ∃ k, b = tell k := by
  rcases List.mem_append.mp (show b ∈ d.kinds.map tell ++ [go d.last, ⟨0, 0, mainRows d⟩] from hb) with h | h
  · obtain ⟨k, _, rfl⟩ := List.mem_map.mp h
    exact .inr (.inr ⟨k, rfl⟩)
  · rcases List.mem_cons.mp h with rfl | h
    · exact .inl rfl
    · exact .inr (.inl (List.mem_singleton.mp h))
theorem psz (ok : d.Ok) (hw : d.wy.length ≤ 900) : PSz (prog d rem) where
  bk := fun b hb => by
    rcases rows_ok hb with rfl | rfl | ⟨k, rfl⟩
    · show 6 < 900; decide
    · show 0 < 900; decide
    · show 2 < 900; decide
  mkh := fun b hb r hr h m e => by
    subst e
    have hh : ∀ i, i < 4 → d.homes i < 1000 := fun i hi => by have := ok.h i hi; omega
    rcases rows_ok hb with rfl | rfl | ⟨k, rfl⟩
    · simp [go, goRows] at hr
    · simp [mainRows] at hr
      rcases hr with ⟨rfl, _⟩ | ⟨rfl, _⟩ | ⟨rfl, _⟩ | ⟨rfl, _⟩
      · exact hh 0 (by decide)
      · exact hh 1 (by decide)
      · exact hh 2 (by decide)
      · exact hh 3 (by decide)
    · unfold tell at hr
      by_cases e : k = 2 <;> simp [e] at hr
noncomputable def okR : Row → Bool
  | .unl n | .skip n => decide (n ≤ 2)
  | .call _ _ m | .straight _ m => decide (1 ≤ m)
  | .make _ m => decide (m ≤ 1)
  | _ => true
theorem okR_of {r : Row} (h : okR r = true) : (∀ n, r = .unl n → n ≤ 2) ∧ (∀ n, r = .skip n → n ≤ 2) ∧ (∀ a c m, r = .call a c m → 1 ≤ m) ∧ (∀ a m, r = .straight a m → 1 ≤ m) ∧ ∀ h m, r = .make h m → m ≤ 1 :=
  ⟨fun n e => by subst e; exact of_decide_eq_true h, fun n e => by subst e; exact of_decide_eq_true h, fun a c m e => by subst e; exact of_decide_eq_true h, fun a m e => by subst e; exact of_decide_eq_true h, fun a m e => by subst e; exact of_decide_eq_true h⟩
theorem ph (hk : d.kinds.length ≤ 900) : PH (prog d rem) where
  bl := by show (d.kinds.map tell ++ [go d.last, ⟨0, 0, mainRows d⟩]).length ≤ 1000; rw [List.length_append, List.length_map]; show d.kinds.length + 2 ≤ 1000; omega
  sz := fun b hb => by
    rcases rows_ok hb with rfl | rfl | ⟨k, rfl⟩
    · exact ⟨Nat.le_refl _, Nat.le_refl _⟩
    · exact ⟨by show 0 ≤ 6; decide, by show 11 ≤ 21; decide⟩
    · refine ⟨by show 2 ≤ 6; decide, ?_⟩
      unfold tell
      by_cases e : k = 2 <;> simp [e]
  rw := fun b hb r hr => by
    have all : b.rows.all okR = true := by
      rcases rows_ok hb with rfl | rfl | ⟨k, rfl⟩
      · rfl
      · rfl
      · show (if k = 2 then _ else _ : List Row).all okR = true
        split <;> rfl
    exact okR_of (List.all_eq_true.mp all r hr)
theorem sz0 : Sz 0 (init d) where
  fr := fun f hf => by
    simp only [init, List.mem_cons, List.not_mem_nil, or_false] at hf
    subst hf
    exact ⟨Nat.le_refl _, by show 0 < 900; decide⟩
  fl := Nat.le_refl _
  md := Nat.le_refl _
  mi := fun t ht => by cases ht
  lh := Nat.le_refl _
  mm := fun k => ⟨Nat.zero_le _, fun p hp => by cases hp⟩
theorem hts0 (hk : d.kinds.length ≤ 900) : Hts (init d) := ⟨by show 1 ≤ 41; decide, ⟨⟨Nat.le_refl _, by show 0 ≤ 6; decide, by show 0 ≤ 24; decide, by show d.kinds.length + 1 ≤ 1000; omega⟩, fun g hg => by cases hg⟩, fun t ht => by cases ht⟩
theorem sim0 : Sim (prog d true) wd [] (init d) (init d) := ⟨rfl, rfl, rfl, ⟨fun k => rfl, fun k h hh => (by cases hh), rfl, rfl⟩⟩
end P63
end

section
namespace Mach
set_option linter.all false
theorem step_mem {P : Prog} {s s' : MS} (hr : P.rem = false) (e : step P s = some s') : s'.mem = s.mem := by
  obtain ⟨f, fs, r, _, _, _, q⟩ := step_shape e
  clear e
  cases q with
  | call _ _ _ _ _ _ _ hb en =>
    obtain ⟨_, _, _, rfl, _, hm, _⟩ := found_shape hb
    exact en.lh.2.2.1.trans (hm hr)
  | strt _ _ _ en => exact en.lh.2.2.1
  | _ => rfl
theorem runT_cons {P : Prog} {n : Nat} {s u : MS} {tr : List (Nat × Nat)} (h : RunT P (n + 1) s u tr) : ∃ t tr2, step (plain P) s = some t ∧ RunT P n t u tr2 ∧ tr = tr2 ++ next P s := by
  cases h with
  | cons a b => exact ⟨_, _, a, b, rfl⟩
theorem runT_nil {P : Prog} {s u : MS} {tr : List (Nat × Nat)} (h : RunT P 0 s u tr) : s = u ∧ tr = [] := by
  cases h
  exact ⟨rfl, rfl⟩
end Mach
end

section
set_option Elab.async false
set_option linter.all false
set_option maxRecDepth 100000
set_option maxHeartbeats 1000000
namespace MM
open PySem L2
open Mach (AV AFr Row Sg Blk MS PL Mem getP updM seen others)
noncomputable def SameT (H H' : Hp) : Prop := ∀ b xs, (H b = some (.tup xs) → H' b = some (.tup xs)) ∧ ∀ o, H b = some (.frz o (.tup xs)) → H' b = some (.frz o (.tup xs))
theorem SqT.t {K : PySem.W.Frag} {H H' : Hp} {a : Addr} {xs : List V} (h : SqT K H a xs) (e : SameT H H') : SqT K H' a xs := by
  rcases h with (h | ⟨o, h⟩) | h
  · exact .inl (.inl ((e a xs).1 h))
  · exact .inl (.inr ⟨o, (e a xs).2 o h⟩)
  · exact .inr h
theorem Same.t {H H' : Hp} (s : Same H H') : SameT H H' := fun b xs => ⟨s b _, fun o => s b _⟩
theorem SameT.trans {H H' H'' : Hp} (a : SameT H H') (b : SameT H' H'') : SameT H H'' := fun c xs => ⟨fun h => (b c xs).1 ((a c xs).1 h), fun o h => (b c xs).2 o ((a c xs).2 o h)⟩
theorem SameT.refl (H : Hp) : SameT H H := fun _ _ => ⟨fun h => h, fun _ h => h⟩
theorem t_upd {H : Hp} {a : Addr} {u : HO} (o : HO) (h : H a = some u) (n : (∀ xs, u ≠ .tup xs) ∧ ∀ o xs, u ≠ .frz o (.tup xs)) : SameT H (upd H a o) := fun b xs =>
  ⟨fun e => by rw [upd_ne (fun z => by rw [z, h] at e; cases e; exact n.1 _ rfl)]; exact e, fun o' e => by rw [upd_ne (fun z => by rw [z, h] at e; cases e; exact n.2 _ _ rfl)]; exact e⟩
theorem no_lst {xs : List V} : (∀ ys, HO.lst xs ≠ .tup ys) ∧ ∀ o ys, HO.lst xs ≠ .frz o (.tup ys) := ⟨fun _ z => (by cases z), fun _ _ z => by cases z⟩
theorem no_ins {C dx : Addr} {fs : List (Str × V)} : (∀ ys, HO.ins C dx fs ≠ .tup ys) ∧ ∀ o ys, HO.ins C dx fs ≠ .frz o (.tup ys) := ⟨fun _ z => (by cases z), fun _ _ z => by cases z⟩
noncomputable def AtV (K : PySem.W.Frag) (H : Hp) (v : V) : AV → Prop
  | .non => v = .non
  | .bl b => v = .bl b
  | .int i => v = .int i ∧ Mach.Bd i
  | .th k => ∃ t, v = .ref t ∧ H t = some (.tup [.str "thing", .int k]) ∧ k < 1000000
noncomputable abbrev AtVs (K : PySem.W.Frag) (H : Hp) : List V → List AV → Prop := Paired (AtV K H)
theorem AtV.t {K : PySem.W.Frag} {H H' : Hp} {v : V} {a : AV} (h : AtV K H v a) (s : SameT H H') : AtV K H' v a := by
  cases a with
  | th k => obtain ⟨t, e, x, l⟩ := h; exact ⟨t, e, (s _ _).1 x, l⟩
  | _ => exact h
theorem Pd.imp {α β : Type} {R S : α → β → Prop} (f : ∀ a b, R a b → S a b) : ∀ {xs : List α} {ys : List β}, Paired R xs ys → Paired S xs ys
  | _, _, .nil => .nil
  | _, _, .cons a b => .cons (f _ _ a) (Pd.imp f b)
theorem AtVs.t {K : PySem.W.Frag} {H H' : Hp} {vs : List V} {as : List AV} (h : AtVs K H vs as) (s : SameT H H') : AtVs K H' vs as := Pd.imp (fun _ _ x => AtV.t x s) h
theorem Pd.at {α β : Type} {R : α → β → Prop} : ∀ {xs : List α} {ys : List β} {i : Nat} {y : β}, Paired R xs ys → ys[i]? = some y → ∃ x, xs[i]? = some x ∧ R x y
  | _, _, _, _, .nil, e => by simp at e
  | _, _, 0, _, .cons r _, e => by simp at e; subst e; exact ⟨_, rfl, r⟩
  | _, _, i + 1, y, .cons _ t, e => by
    obtain ⟨u, h1, h2⟩ := Pd.at (i := i) (y := y) t (by simpa using e)
    exact ⟨u, by simpa using h1, h2⟩
theorem Pd.app {α β : Type} {R : α → β → Prop} : ∀ {xs xs' : List α} {ys ys' : List β}, Paired R xs ys → Paired R xs' ys' → Paired R (xs ++ xs') (ys ++ ys')
  | _, _, _, _, .nil, s => s
  | _, _, _, _, .cons r t, s => .cons r (Pd.app t s)
theorem Pd.take {α β : Type} {R : α → β → Prop} : ∀ {xs : List α} {ys : List β} (n : Nat), Paired R xs ys → Paired R (xs.take n) (ys.take n)
  | _, _, 0, _ => .nil
  | _, _, _ + 1, .nil => .nil
  | _, _, n + 1, .cons r t => .cons r (Pd.take n t)
theorem Pd.drop {α β : Type} {R : α → β → Prop} : ∀ {xs : List α} {ys : List β} (n : Nat), Paired R xs ys → Paired R (xs.drop n) (ys.drop n)
  | _, _, 0, h => h
  | _, _, _ + 1, .nil => .nil
  | _, _, n + 1, .cons _ t => Pd.drop n t
theorem Pd.set {α β : Type} {R : α → β → Prop} {x : α} {y : β} (h : R x y) : ∀ {xs : List α} {ys : List β} (n : Nat), Paired R xs ys → Paired R (xs.set n x) (ys.set n y)
  | _, _, _, .nil => .nil
  | _, _, 0, .cons _ t => .cons h t
  | _, _, n + 1, .cons r t => .cons r (Pd.set h n t)
theorem Pd.snoc_inv {α β : Type} {R : α → β → Prop} {xs : List α} {ys : List β} {y : β} (h : Paired R xs (ys ++ [y])) : ∃ xs' x, xs = xs' ++ [x] ∧ Paired R xs' ys ∧ R x y := by
  induction ys generalizing xs with
  | nil => cases h with | cons a b => cases b; exact ⟨[], _, rfl, .nil, a⟩
  | cons z zs ih =>
    cases h with
    | cons a b =>
      obtain ⟨xs', x, rfl, p, q⟩ := ih b
      exact ⟨_ :: xs', x, rfl, .cons a p, q⟩
theorem AtV.rd {K : PySem.W.Frag} {H : Hp} {v : V} {a : AV} (h : AtV K H v a) : Rdb K H 1 100 v := by
  cases a with
  | non => cases h; exact ⟨_, .non, .none⟩
  | bl b => cases h; exact ⟨_, .bl b, .bool⟩
  | int i => obtain ⟨rfl, hb⟩ := h; exact ⟨_, .int i, (Nice.int (by unfold Mach.Bd at hb; omega)).mono (Nat.le_refl _) (by decide)⟩
  | th k =>
    obtain ⟨t, rfl, b, l⟩ := h
    exact ⟨_, .tup (SqT.of b) (.cons (.str _) (.cons (.int k) .nil)), (Nice.tup (k := 0) (n := 100) (.cons (a := 5) (b := 61) (.str (by decide +kernel) (by decide +kernel)) (.cons (a := 60) (b := 0) (.int (by omega)) .nil (by decide)) (by decide)))⟩
theorem AtVs.rd {K : PySem.W.Frag} {H : Hp} : ∀ {vs : List V} {as : List AV}, AtVs K H vs as → ∀ v ∈ vs, Rdb K H 1 100 v
  | _, _, .nil, v, hv => by cases hv
  | _, _, .cons a b, v, hv => by
    rcases List.mem_cons.mp hv with rfl | hv
    · exact a.rd
    · exact AtVs.rd b v hv
end MM
end

section
set_option Elab.async false
set_option linter.all false
set_option maxRecDepth 100000
set_option maxHeartbeats 4000000
namespace MM
open PySem L2
open Mach (AV AFr Row Sg Blk MS PL Mem getP updM seen others)
noncomputable def Pr (H : Hp) (v : V) (p : Int × Int) : Prop := ∃ t, v = .ref t ∧ H t = some (.tup [.int p.1, .int p.2])
noncomputable def SqP (H : Hp) (l : Addr) (ps : PL) : Prop := ∃ rs, H l = some (.lst rs) ∧ Paired (Pr H) rs ps
noncomputable def At (hd : Addr → Prop) (H : Hp) (kvs : List (Key × V)) (k : Int) : Option PL → Prop
  | none => valV kvs (.inl k) = none
  | some ps => ∃ l, valV kvs (.inl k) = some (.ref l) ∧ ¬ hd l ∧ SqP H l ps
noncomputable def Rep (hd : Addr → Prop) (H : Hp) (d : Addr) (n : Nat) (m : Mem) : Prop := ∃ kvs, H d = some (.dK kvs) ∧ kvs.length ≤ n ∧ ∀ k, At hd H kvs k (m k)
noncomputable def SameX (d : Addr) (H H' : Hp) : Prop := ∀ b o, b ≠ d → H b = some o → H' b = some o
theorem Same.x {H H' : Hp} (s : Same H H') (d : Addr) : SameX d H H' := fun b o _ h => s b o h
theorem SameX.trans {d : Addr} {H H1 H2 : Hp} (a : SameX d H H1) (b : SameX d H1 H2) : SameX d H H2 := fun c o n h => b c o n (a c o n h)
theorem sameX_upd {d : Addr} {H : Hp} (o : HO) : SameX d H (upd H d o) := fun b u n h => by rw [upd_ne n]; exact h
theorem Prs.mono {H H' : Hp} {rs : List V} {ps : PL} (e : ∀ t xs, H t = some (.tup xs) → H' t = some (.tup xs)) : Paired (Pr H) rs ps → Paired (Pr H') rs ps := fun h => Paired.imp' (fun v p ⟨t, a, b⟩ => ⟨t, a, e _ _ b⟩) h
theorem SqP.same {H H' : Hp} {l : Addr} {ps : PL} (h : SqP H l ps) (s : Same H H') : SqP H' l ps := let ⟨rs, a, b⟩ := h; ⟨rs, s _ _ a, Prs.mono (fun t xs e => s _ _ e) b⟩
theorem SqP.x {H H' : Hp} {d l : Addr} {ps : PL} (h : SqP H l ps) (s : SameX d H H') (nl : l ≠ d) (nt : ∀ xs, H d ≠ some (.tup xs)) : SqP H' l ps := by
  obtain ⟨rs, a, b⟩ := h
  refine ⟨rs, s _ _ nl a, Prs.mono (fun t xs e => s _ _ (fun z => nt xs (z ▸ e)) e) b⟩
theorem At.imp {hd : Addr → Prop} {H H' : Hp} {kvs : List (Key × V)} {k : Int} {o : Option PL} (h : At hd H kvs k o) (f : ∀ l ps, ¬ hd l → SqP H l ps → SqP H' l ps) : At hd H' kvs k o := by
  cases o with
  | none => exact h
  | some ps =>
    obtain ⟨l, a, b, c⟩ := h
    exact ⟨l, a, b, f l ps b c⟩
theorem Rep.same {hd : Addr → Prop} {H H' : Hp} {d : Addr} {n : Nat} {m : Mem} (h : Rep hd H d n m) (s : Same H H') : Rep hd H' d n m :=
  let ⟨kvs, a, b, c⟩ := h; ⟨kvs, s _ _ a, b, fun k => (c k).imp fun l ps _ q => q.same s⟩
theorem Rep.hd {hd : Addr → Prop} {H H' : Hp} {d y : Addr} {n : Nat} {m : Mem} (h : Rep hd H d n m) (s : SameX y H H') (hy : hd y) (nd : d ≠ y) (nt : ∀ xs, H y ≠ some (.tup xs)) : Rep hd H' d n m := by
  obtain ⟨kv, a, b, c⟩ := h
  exact ⟨kv, s _ _ nd a, b, fun k => (c k).imp fun l ps nl q => q.x s (fun z => nl (z ▸ hy)) nt⟩
theorem Rep.put {hd : Addr → Prop} {H : Hp} {d l : Addr} {n : Nat} {m : Mem} {k : Int} {ps : PL} {kvs : List (Key × V)} (hd1 : H d = some (.dK kvs)) (hn : kvs.length ≤ n) (hm : ∀ k, At hd H kvs k (m k)) (hl : ¬ hd l) (q : SqP H l ps) :
    Rep hd (upd H d (.dK (putK kvs (.inl k) (.ref l)))) d (n + 1) (updM m k ps) := by
  have fr : ∀ l' ps', SqP H l' ps' → SqP (upd H d (.dK (putK kvs (.inl k) (.ref l)))) l' ps' := fun l' ps' q => q.x (sameX_upd _) (fun z => by obtain ⟨rs, a, _⟩ := q; rw [z, hd1] at a; cases a) (fun xs z => by rw [hd1] at z; cases z)
  refine ⟨_, upd_same, Nat.le_trans (length_putK _ _ _) (by omega), fun j => ?_⟩
  unfold updM
  by_cases hj : j = k
  · subst hj
    rw [if_pos rfl]
    exact ⟨l, by rw [valV_put, if_pos rfl], hl, fr l ps q⟩
  · rw [if_neg hj]
    have := hm j
    have nj : ¬ (Sum.inl j : Key) = Sum.inl k := fun z => hj (Sum.inl.inj z)
    cases e : m j with
    | none =>
      rw [e] at this
      show valV _ _ = none
      rw [valV_put, if_neg nj]
      exact this
    | some qs =>
      rw [e] at this
      obtain ⟨l', a, b, c⟩ := this
      exact ⟨l', by rw [valV_put, if_neg nj]; exact a, b, fr l' qs c⟩
theorem Paired.takeP {α β : Type} {R : α → β → Prop} : ∀ {xs : List α} {ys : List β} (n : Nat), Paired R xs ys → Paired R (xs.take n) (ys.take n)
  | _, _, 0, _ => .nil
  | _, _, _ + 1, .nil => .nil
  | _, _, n + 1, .cons r t => .cons r (Paired.takeP n t)
theorem cut2 (xs : List V) : cutV xs none (some 2) = xs.take 2 := by
  unfold cutV
  rw [HT.sIx_none, show (some (2 : Int)) = some ((2 : Nat) : Int) from rfl, HT.sIx_nat, List.drop_zero, Nat.sub_zero]
  by_cases h : 2 ≤ xs.length
  · rw [Nat.min_eq_left h]
  · rw [Nat.min_eq_right (by omega), List.take_of_length_le (Nat.le_refl _), List.take_of_length_le (by omega)]
theorem Paired.appendP {α β : Type} {R : α → β → Prop} : ∀ {xs xs' : List α} {ys ys' : List β}, Paired R xs ys → Paired R xs' ys' → Paired R (xs ++ xs') (ys ++ ys')
  | _, _, _, _, .nil, s => s
  | _, _, _, _, .cons r t, s => .cons r (Paired.appendP t s)
noncomputable def dP (p : Int × Int) : PyData := .tuple [.int p.1, .int p.2]
theorem Prs.rd {K : PySem.W.Frag} {H : Hp} : ∀ {rs : List V} {ps : PL}, Paired (Pr H) rs ps → RdDs K H rs (ps.map dP)
  | _, _, .nil => .nil
  | _, _, .cons ⟨t, e, h⟩ r => by subst e; exact .cons (.tup (SqT.of h) (.cons (.int _) (.cons (.int _) .nil))) (Prs.rd r)
theorem SqP.rd {K : PySem.W.Frag} {H : Hp} {l : Addr} {ps : PL} (h : SqP H l ps) : RdD K H (.ref l) (.list (ps.map dP)) := let ⟨_, a, b⟩ := h; .lst (SqL.of a) (Prs.rd b)
theorem lay_dP : ∀ ps : PL, PyData.canLayAll0 (ps.map dP) = true
  | [] => rfl
  | p :: r => by
    show (PyData.canLay0 (dP p) && PyData.canLayAll0 (r.map dP)) = true
    rw [lay_dP r]; rfl
theorem depth_dP : ∀ ps : PL, PyData.depthAll (ps.map dP) ≤ 5
  | [] => by decide
  | p :: r => by
    have := depth_dP r
    show max (PyData.depth (dP p)) (PyData.depthAll (r.map dP)) ≤ 5
    have : PyData.depth (dP p) ≤ 5 := by show PyData.depth (.tuple [.int p.1, .int p.2]) ≤ 5; simp [PyData.depth, PyData.depthAll]
    omega
theorem shaped_dP (ps : PL) : PySem.SeqAt.shaped (.list (ps.map dP)) = true := by
  unfold PySem.SeqAt.shaped
  have h1 : PyData.canLay0 (.list (ps.map dP)) = true := by rw [PyData.canLay0]; exact lay_dP ps
  have h2 : PyData.depth (.list (ps.map dP)) ≤ 64 := by rw [PyData.depth]; have := depth_dP ps; omega
  rw [h1, decide_eq_true h2]; rfl
theorem eqv_dP_nil (ps : PL) : PyData.eqv (.list (ps.map dP)) (.list []) = ps.isEmpty := by
  cases ps with
  | nil => rw [PyData.eqv]; rfl
  | cons p r => rw [PyData.eqv]; rfl
theorem comp_pairs {K : PySem.W.Frag} {H : Hp} {D a : Addr} {rs : List V} {ps : PL} {tc : TT} {Q : VK} {σ0 : St} (rest : St) (pf : Int × Int → Bool) (v0 : Option V) (e0 : σ0 = v0 :: rest) (ha : SqL K H a rs) (hD : H D = none) (hp : Paired (Pr H) rs ps) (hz : rs.length ≤ sizeLine)
    (hc : ∀ t (p : Int × Int) l K', upd H D (.lst l) t = some (.tup [.int p.1, .int p.2]) → K' (pf p) (upd H D (.lst l)) → tc (some (.ref t) :: rest) (upd H D (.lst l)) K')
    (hQ : ∀ rs', Paired (Pr (upd H D (.lst rs'))) rs' (ps.filter pf) → Q (.ref D) (upd H D (.lst rs'))) : CompW (Itl K a) (gName 0) tc (tVarF 0) D Q σ0 (upd H D (.lst [])) := by
  have sm : ∀ l, Same H (upd H D (.lst l)) := fun l => same_upd hD _
  let pv : V → Bool := fun v => match v with
    | .ref t => (match H t with | some (.tup [.int i, .int j]) => pf (i, j) | _ => false)
    | _ => false
  have pv_eq : ∀ t (p : Int × Int), H t = some (.tup [.int p.1, .int p.2]) → pv (.ref t) = pf p := fun t p h => by show (match H t with | some (.tup [.int i, .int j]) => pf (i, j) | _ => false) = _; rw [h]
  have mem : ∀ {rs : List V} {ps : PL}, Paired (Pr H) rs ps → ∀ x ∈ rs, ∃ t, ∃ p : Int × Int, x = .ref t ∧ H t = some (.tup [.int p.1, .int p.2]) := by
    intro rs ps h
    induction h with
    | nil => intro x hx; cases hx
    | cons r _ ih =>
      intro x hx
      rcases List.mem_cons.mp hx with e | hx
      · subst e; obtain ⟨t, e, h⟩ := r; exact ⟨t, _, e, h⟩
      · exact ih x hx
  have fil : ∀ {rs : List V} {ps : PL}, Paired (Pr H) rs ps → Paired (Pr H) (rs.filter pv) (ps.filter pf) := by
    intro rs ps h
    induction h with
    | nil => exact .nil
    | cons r _ ih =>
      obtain ⟨t, e, h⟩ := r
      subst e
      rw [List.filter_cons, List.filter_cons, pv_eq t _ h]
      cases pf _ with
      | true => exact .cons ⟨t, rfl, h⟩ ih
      | false => exact ih
  refine comp_pure rs pv (fun v => v) (fun σ' => ∃ v, σ' = v :: rest) (fun x σ' => σ' = some x :: rest) ⟨v0, e0⟩ (fun i l h => ⟨rs, rs[i], (sm l).seq ha, by simp [h]⟩) (fun l => ⟨rs, (sm l).seq ha, Nat.le_refl _⟩) (fun i l x H' hi h => ⟨h.1, h.2 rs ((sm l).seq ha)⟩)
    (fun x hx σ' H' K' h1 h2 => ?_) (fun x hx σ' l K' h1 h2 => ?_) (fun x hx _ σ' l K' h1 h2 => ?_) hz ?_
  · obtain ⟨v, rfl⟩ := h1
    exact h2 _ ⟨_, rfl⟩ rfl
  · subst h1
    obtain ⟨t, p, rfl, h⟩ := mem hp x hx
    rw [pv_eq t p h] at h2
    exact hc t p l K' (sm l _ _ h) h2
  · subst h1
    exact h2
  · rw [List.map_id']
    exact hQ _ (Prs.mono (fun t xs z => sm _ _ _ z) (fil hp))
end MM
end

section
set_option Elab.async false
set_option linter.all false
set_option maxRecDepth 100000
set_option maxHeartbeats 4000000
namespace MM
open PySem L2
open Mach (AV AFr Row Sg Blk MS PL Mem getP updM seen others Bd)
noncomputable def told2 (n : Int) : List V := if Bd n then [.str "value", .int n] else [.str "refused", .str "great"]
noncomputable def num (sg : Str) (a b : Int) : Int := if sg = "+" then a + b else if sg = "-" then a - b else if sg = "*" then a * b else a.fdiv b
structure Fr where
  n : V
  at_ : Int
  sl : List V
  st : List V
noncomputable def FrAt (K : PySem.W.Frag) (H : Hp) (a : Addr) (F : Fr) : Prop := ∃ sa ta, SqT K H a [F.n, .int F.at_, .ref sa, .ref ta] ∧ SqT K H sa F.sl ∧ SqT K H ta F.st
theorem FrAt.same {K : PySem.W.Frag} {H H' : Hp} {a : Addr} {F : Fr} (h : FrAt K H a F) (s : Same H H') : FrAt K H' a F := let ⟨sa, ta, x, y, z⟩ := h; ⟨sa, ta, x.same s, y.same s, z.same s⟩
inductive Sp_behind (K : PySem.W.Frag) (vs : List V) (H : Hp) (Q : VK) : Prop
  | mk (a : Addr) (m : Nat) (v : V) (F : Fr) (a1 : vs = [.ref a, .int m, v]) (a2 : FrAt K H a F) (a3 : m ≤ F.st.length) (a4 : F.st.length < 100000) (a5 : ∀ p H', Same H H' → FrAt K H' p ⟨F.n, F.at_ + 1, F.sl, F.st.take (F.st.length - m) ++ [v]⟩ → Q (.ref p) H') : Sp_behind K vs H Q
noncomputable def sp_behind (K : PySem.W.Frag) : Sp := fun vs H Q _ => Sp_behind K vs H Q
theorem cut_to (xs : List V) (k : Nat) : cutV xs none (some (k : Int)) = xs.take k := by
  unfold cutV
  rw [HT.sIx_none, HT.sIx_nat, List.drop_zero, Nat.sub_zero]
  by_cases h : k ≤ xs.length
  · rw [Nat.min_eq_left h]
  · rw [Nat.min_eq_right (by omega), List.take_of_length_le (Nat.le_refl _), List.take_of_length_le (by omega)]
inductive Sp_bounded (vs : List V) (H : Hp) (Q : VK) : Prop
  | mk (n : _) (a1 : vs = [.int n]) (a2 : ∀ p, H p = none → Q (.ref p) (upd H p (.tup (told2 n)))) : Sp_bounded vs H Q
noncomputable def sp_bounded : Sp := fun vs H Q _ => Sp_bounded  vs H Q
inductive Sp_number_told (vs : List V) (H : Hp) (Q : VK) : Prop
  | mk (sg : _) (a : _) (b : _) (a1 : vs = [.str sg, .int a, .int b]) (a2 : Bd a) (a3 : Bd b) (a4 : (sg = "+" ∨ sg = "-" ∨ sg = "*" ∨ b ≠ 0)) (a5 : Q (.int (num sg a b)) H) : Sp_number_told vs H Q
noncomputable def sp_number_told : Sp := fun vs H Q _ => Sp_number_told  vs H Q
noncomputable def arith (sg : Str) (a b : Int) : List V := if sg = "/" ∧ b = 0 then [.str "refused", .str "nought"] else told2 (num sg a b)
inductive TwoR (K : PySem.W.Frag) (H : Hp) : Str → V → V → List V → Prop
  | lt (a b : Int) : TwoR K H "<" (.int a) (.int b) [.str "value", .bl (decide (a < b))]
  | eq {va vb : V} {da db : PyData} : RdD K H va da → RdD K H vb db → PySem.SeqAt.shaped da = true → PySem.SeqAt.shaped db = true → TwoR K H "=" va vb [.str "value", .bl (PyData.eqv da db)]
  | ar {sg : Str} {a b : Int} : (sg = "+" ∨ sg = "-" ∨ sg = "*" ∨ sg = "/") → Bd a → Bd b → TwoR K H sg (.int a) (.int b) (arith sg a b)
theorem TwoR.shape {K : PySem.W.Frag} {H : Hp} {sg : Str} {x y : V} {r : List V} (h : TwoR K H sg x y r) : (∃ why, r = [.str "refused", .str why]) ∨ ∃ v, r = [.str "value", v] := by
  cases h with
  | lt a b => exact .inr ⟨_, rfl⟩
  | eq => exact .inr ⟨_, rfl⟩
  | ar =>
    unfold arith
    split
    · exact .inl ⟨_, rfl⟩
    · unfold told2
      split
      · exact .inr ⟨_, rfl⟩
      · exact .inl ⟨_, rfl⟩
theorem at_m1 (st : List V) (x y : V) : atI (st ++ [x, y]) (-1) = some y := by
  have := atI_last (st ++ [x]) y
  rw [List.append_assoc] at this
  exact this
theorem at_m2 (st : List V) (x y : V) : atI (st ++ [x, y]) (-2) = some x := by
  unfold atI ixN
  rw [if_neg (by decide), if_pos (by rw [List.length_append]; show -((st.length + 2 : Nat) : Int) ≤ -2; omega)]
  have e : ((-2 : Int) + ((st ++ [x, y]).length : Int)).toNat = st.length := by rw [List.length_append]; show ((-2 : Int) + ((st.length + 2 : Nat) : Int)).toNat = _; omega
  rw [e]
  show (st ++ [x, y])[st.length]? = some x
  rw [List.getElem?_append_right (Nat.le_refl _), Nat.sub_self]
  rfl
inductive Sp_two_told (K : PySem.W.Frag) (vs : List V) (H : Hp) (Q : VK) : Prop
  | mk (sg : _) (va : _) (vb : _) (r : _) (a1 : vs = [.str sg, va, vb]) (a2 : TwoR K H sg va vb r) (a3 : ∀ p H', Same H H' → SqT K H' p r → Q (.ref p) H') : Sp_two_told K vs H Q
noncomputable def sp_two_told (K : PySem.W.Frag) : Sp := fun vs H Q _ => Sp_two_told K vs H Q
inductive Sp_field (K : PySem.W.Frag) (vs : List V) (H : Hp) (Q : VK) : Prop
  | mk (tl th : Addr) (pl k : Int) (ts : List V) (e ia : Addr) (hv : V) (inner : List V) (v : V) (a1 : vs = [.ref tl, .ref th, .int pl]) (a2 : SqL K H tl ts) (a3 : SqT K H th [.str "thing", .int k]) (a4 : atI ts k = some (.ref e)) (a5 : SqT K H e [hv, .ref ia]) (a6 : SqT K H ia inner) (a7 : atI inner pl = some v) (a8 : Q v H) : Sp_field K vs H Q
noncomputable def sp_field (K : PySem.W.Frag) : Sp := fun vs H Q _ => Sp_field K vs H Q
inductive Sp_two_done (K : PySem.W.Frag) (vs : List V) (H : Hp) (Q : VK) : Prop
  | mk (sg : Str) (a : Addr) (F : Fr) (st : List V) (x y : V) (r : List V) (a1 : vs = [.str sg, .ref a]) (a2 : FrAt K H a F) (a3 : F.st = st ++ [x, y]) (a4 : F.st.length < 100000) (a5 : TwoR K H sg x y r) (a6 : (∀ why p q' H', r = [.str "refused", .str why] → Same H H' → SqT K H' q' r → SqT K H' p [.ref a, .ref q'] → Q (.ref p) H')) (a7 : ∀ v p f' H', r = [.str "value", v] → Same H H' → FrAt K H' f' ⟨F.n, F.at_ + 1, F.sl, st ++ [v]⟩ → SqT K H' p [.ref f', .non] → Q (.ref p) H') : Sp_two_done K vs H Q
noncomputable def sp_two_done (K : PySem.W.Frag) : Sp := fun vs H Q _ => Sp_two_done K vs H Q
inductive OwnR (K : PySem.W.Frag) (H : Hp) (tl : Addr) (F : Fr) : Str → List V → Fr → Prop
  | push (v : V) : OwnR K H tl F "push" [v] ⟨F.n, F.at_ + 1, F.sl, F.st ++ [v]⟩
  | load (i : Int) (v : V) : atI F.sl i = some v → OwnR K H tl F "load" [.int i] ⟨F.n, F.at_ + 1, F.sl, F.st ++ [v]⟩
  | nt (b : Bool) (st : List V) : F.st = st ++ [.bl b] → OwnR K H tl F "not" [] ⟨F.n, F.at_ + 1, F.sl, st ++ [.bl (!b)]⟩
  | get (st : List V) (th : Addr) (k pl : Int) (ts : List V) (e ia : Addr) (hv : V) (inner : List V) (v : V) : F.st = st ++ [.ref th] → SqL K H tl ts → SqT K H th [.str "thing", .int k] → atI ts k = some (.ref e) → SqT K H e [hv, .ref ia] → SqT K H ia inner → atI inner pl = some v → OwnR K H tl F "get" [.int pl] ⟨F.n, F.at_ + 1, F.sl, st ++ [v]⟩
  | keep (i : Nat) (v : V) (st : List V) : F.st = st ++ [v] → i < F.sl.length → F.sl.length < 100000 → OwnR K H tl F "keep" [.int i] ⟨F.n, F.at_ + 1, F.sl.take i ++ [v] ++ F.sl.drop (i + 1), st⟩
  | drop (v : V) (st : List V) : F.st = st ++ [v] → OwnR K H tl F "drop" [] ⟨F.n, F.at_ + 1, F.sl, st⟩
  | skip (n : Int) : OwnR K H tl F "skip" [.int n] ⟨F.n, F.at_ + 1 + n, F.sl, F.st⟩
  | unl (n : Int) (b : Bool) (st : List V) : F.st = st ++ [.bl b] → OwnR K H tl F "unless" [.int n] ⟨F.n, F.at_ + 1 + (if b = true then 0 else n), F.sl, st⟩
theorem take_m1 (st : List V) (x : V) : List.take ((st ++ [x]).length - 1) (st ++ [x]) = st := by
  rw [List.length_append]
  show List.take (st.length + 1 - 1) _ = _
  rw [Nat.add_sub_cancel, List.take_left']
  rfl
theorem cut_m1 (st : List V) (x : V) : cutV (st ++ [x]) none (some (-1)) = st := by
  unfold cutV
  have e : HT.sIx (st ++ [x]).length (st ++ [x]).length (some (-1)) = st.length := by
    show (if (-1 : Int) < 0 then ((-1 : Int) + ((st ++ [x]).length : Int)).toNat else min (-1 : Int).toNat (st ++ [x]).length) = _
    rw [if_pos (by decide), List.length_append]
    show ((-1 : Int) + ((st.length + 1 : Nat) : Int)).toNat = _
    omega
  rw [HT.sIx_none, e, List.drop_zero, Nat.sub_zero, List.take_left']
  rfl
theorem cut_from (xs : List V) (k : Nat) : cutV xs (some (k : Int)) none = xs.drop k := by
  unfold cutV
  rw [HT.sIx_none, HT.sIx_nat]
  by_cases h : k ≤ xs.length
  · rw [Nat.min_eq_left h, List.take_of_length_le (by rw [List.length_drop]; omega)]
  · rw [Nat.min_eq_right (by omega), List.drop_eq_nil_of_le (Nat.le_refl _), List.drop_eq_nil_of_le (by omega), List.take_nil]
theorem rep_flat (v : V) : ∀ n : Nat, (List.replicate n [v]).flatten = List.replicate n v
  | 0 => rfl
  | n + 1 => by rw [List.replicate_succ, List.flatten_cons, rep_flat v n, List.replicate_succ]; rfl
inductive Sp_entered (K : PySem.W.Frag) (vs : List V) (H : Hp) (Q : VK) : Prop
  | mk (b va : Addr) (nv m rows : V) (size : Nat) (xs : List V) (a1 : vs = [.ref b, nv, .ref va]) (a2 : SqT K H b [m, .int size, rows]) (a3 : (SqL K H va xs ∨ SqT K H va xs)) (a4 : xs.length ≤ size) (a5 : size < 100000) (a6 : ∀ p H', Same H H' → FrAt K H' p ⟨nv, 0, xs ++ List.replicate (size - xs.length) .non, []⟩ → Q (.ref p) H') : Sp_entered K vs H Q
noncomputable def sp_entered (K : PySem.W.Frag) : Sp := fun vs H Q _ => Sp_entered K vs H Q
noncomputable def signOf : List (Str × Str) := [("add", "+"), ("sub", "-"), ("mul", "*"), ("div", "/"), ("less", "<"), ("same", "=")]
end MM
end

section
set_option Elab.async false
set_option linter.all false
set_option maxRecDepth 100000
set_option maxHeartbeats 4000000
namespace MM
open PySem L2
open Mach (AV AFr Row Sg Blk MS PL Mem getP updM seen others Bd)
noncomputable def sgN : Sg → Str
  | .add => "add"
  | .sub => "sub"
  | .mul => "mul"
  | .div => "div"
  | .less => "less"
  | .same => "same"
noncomputable def RowAt (K : PySem.W.Frag) (H : Hp) (r : Addr) : Row → Prop
  | .push v => ∃ x, SqT K H r [.str "push", x] ∧ AtV K H x v
  | .load i => SqT K H r [.str "load", .int i]
  | .nt => SqT K H r [.str "not"]
  | .get pl => SqT K H r [.str "get", .int pl]
  | .keep i => SqT K H r [.str "keep", .int i]
  | .drop => SqT K H r [.str "drop"]
  | .skip n => SqT K H r [.str "skip", .int n]
  | .unl n => SqT K H r [.str "unless", .int n]
  | .two g => SqT K H r [.str (sgN g)]
  | .make h m => SqT K H r [.str "make", .int h, .int m]
  | .put pl => SqT K H r [.str "put", .int pl]
  | .call s w m => SqT K H r [.str "call", .int s, .int w, .int m]
  | .straight b m => SqT K H r [.str "straight", .int b, .int m]
  | .back => SqT K H r [.str "back"]
theorem RowAt.t {K : PySem.W.Frag} {H H' : Hp} {r : Addr} {row : Row} (h : RowAt K H r row) (s : SameT H H') : RowAt K H' r row := by
  cases row with
  | push v => obtain ⟨x, a, b⟩ := h; exact ⟨x, SqT.t a s, AtV.t b s⟩
  | _ => exact SqT.t h s
noncomputable def RowV (K : PySem.W.Frag) (H : Hp) (v : V) (row : Row) : Prop := ∃ r, v = .ref r ∧ RowAt K H r row
noncomputable def BlkAt (K : PySem.W.Frag) (H : Hp) (v : V) (b : Blk) : Prop := ∃ a ra rs, v = .ref a ∧ SqT K H a [.int b.params, .int b.size, .ref ra] ∧ SqT K H ra rs ∧ Paired (RowV K H) rs b.rows
theorem BlkAt.t {K : PySem.W.Frag} {H H' : Hp} {v : V} {b : Blk} (h : BlkAt K H v b) (s : SameT H H') : BlkAt K H' v b :=
  let ⟨a, ra, rs, e, x, y, z⟩ := h; ⟨a, ra, rs, e, SqT.t x s, SqT.t y s, Pd.imp (fun _ _ ⟨r, e, q⟩ => ⟨r, e, q.t s⟩) z⟩
noncomputable def tabV : Option Nat → V
  | none => .non
  | some n => .int n
noncomputable def TabAt (K : PySem.W.Frag) (H : Hp) (v : V) (t : List (Option Nat)) : Prop := ∃ a, v = .ref a ∧ SqT K H a (t.map tabV)
structure PrAt (K : PySem.W.Frag) (H : Hp) (B TT : Addr) (P : Mach.Prog) : Prop where
  bl : ∃ bs, SqT K H B bs ∧ Paired (BlkAt K H) bs P.blocks
  tb : ∃ ts, SqT K H TT ts ∧ Paired (TabAt K H) ts P.tables
theorem PrAt.t {K : PySem.W.Frag} {H H' : Hp} {B TT : Addr} {P : Mach.Prog} (h : PrAt K H B TT P) (s : SameT H H') : PrAt K H' B TT P :=
  ⟨let ⟨bs, a, b⟩ := h.bl; ⟨bs, SqT.t a s, Pd.imp (fun _ _ q => q.t s) b⟩, let ⟨ts, a, b⟩ := h.tb; ⟨ts, SqT.t a s, Pd.imp (fun _ _ ⟨x, e, q⟩ => ⟨x, e, SqT.t q s⟩) b⟩⟩
theorem FrAt.t {K : PySem.W.Frag} {H H' : Hp} {a : Addr} {F : Fr} (h : FrAt K H a F) (s : SameT H H') : FrAt K H' a F := let ⟨sa, ta, x, y, z⟩ := h; ⟨sa, ta, SqT.t x s, SqT.t y s, SqT.t z s⟩
noncomputable def FrIs (K : PySem.W.Frag) (H : Hp) (a : Addr) (f : AFr) : Prop := ∃ F, FrAt K H a F ∧ F.n = .int f.n ∧ F.at_ = f.pc ∧ AtVs K H F.sl f.sl ∧ AtVs K H F.st f.st.reverse
theorem FrIs.t {K : PySem.W.Frag} {H H' : Hp} {a : Addr} {f : AFr} (h : FrIs K H a f) (s : SameT H H') : FrIs K H' a f :=
  let ⟨F, x, b, c, d, e⟩ := h; ⟨F, x.t s, b, c, AtVs.t d s, AtVs.t e s⟩
noncomputable def FrV (K : PySem.W.Frag) (H : Hp) (v : V) (f : AFr) : Prop := ∃ a, v = .ref a ∧ FrIs K H a f
noncomputable def ThV (K : PySem.W.Frag) (H : Hp) (v : V) (t : Nat × List AV) : Prop := ∃ e ia inner, v = .ref e ∧ SqT K H e [.int t.1, .ref ia] ∧ SqT K H ia inner ∧ AtVs K H inner t.2
theorem FrV.t {K : PySem.W.Frag} {H H' : Hp} {v : V} {f : AFr} (h : FrV K H v f) (s : SameT H H') : FrV K H' v f := let ⟨a, e, q⟩ := h; ⟨a, e, q.t s⟩
theorem ThV.t {K : PySem.W.Frag} {H H' : Hp} {v : V} {t : Nat × List AV} (h : ThV K H v t) (s : SameT H H') : ThV K H' v t := let ⟨e, ia, inner, a, b, c, d⟩ := h; ⟨e, ia, inner, a, SqT.t b s, SqT.t c s, AtVs.t d s⟩
noncomputable def EndIs (K : PySem.W.Frag) (H : Hp) (a : Addr) : Mach.End → Prop
  | .val x => ∃ y, SqT K H a [.str "value", y] ∧ AtV K H y x
  | .thing h => SqT K H a [.str "thing", .int h] ∧ h < 1000000
  | .dry => SqT K H a [.str "dry"]
  | .deep => SqT K H a [.str "deep"]
  | .great => SqT K H a [.str "refused", .str "great"]
  | .nought => SqT K H a [.str "refused", .str "nought"]
noncomputable def EndAt (K : PySem.W.Frag) (H : Hp) (v : V) : Option Mach.End → Prop
  | none => v = .non
  | some e => ∃ a, v = .ref a ∧ EndIs K H a e
theorem EndIs.t {K : PySem.W.Frag} {H H' : Hp} {a : Addr} {e : Mach.End} (h : EndIs K H a e) (s : SameT H H') : EndIs K H' a e := by
  cases e with
  | val x => obtain ⟨y, p, q⟩ := h; exact ⟨y, SqT.t p s, AtV.t q s⟩
  | thing x => exact ⟨SqT.t h.1 s, h.2⟩
  | _ => exact SqT.t h s
theorem EndAt.t {K : PySem.W.Frag} {H H' : Hp} {v : V} {e : Option Mach.End} (h : EndAt K H v e) (s : SameT H H') : EndAt K H' v e := by
  cases e with
  | none => exact h
  | some e => obtain ⟨a, p, q⟩ := h; exact ⟨a, p, q.t s⟩
structure MO where
  x : Addr
  dx : Addr
  B : Addr
  TT : Addr
  pl : Addr
  dp : Addr
  pd : Addr
  sk : Addr
  md : Addr
noncomputable def fsM (o : MO) (P : Mach.Prog) (e : V) (c l h r : Nat) : List (Str × V) := [("blocks", .ref o.B), ("house_tables", .ref o.TT), ("most", .int P.most), ("remembers", .bl P.rem), ("places", .ref o.pl), ("stacked", .ref o.sk), ("made", .ref o.md), ("ended", e), ("call_count", .int c), ("look_count", .int l), ("hit_count", .int h), ("row_count", .int r)]
structure MAt (CM CP : Addr) (K : PySem.W.Frag) (ex : Addr → Prop) (o : MO) (P : Mach.Prog) (s : MS) (H : Hp) : Prop where
  ins : ∃ e, H o.x = some (.ins CM o.dx (fsM o P e s.calls s.looks s.hits s.rows)) ∧ EndAt K H e s.ended
  pr : PrAt K H o.B o.TT P
  plc : H o.pl = some (.ins CP o.dp [("by_site", .ref o.pd)])
  rep : Rep (fun a => a = o.sk ∨ a = o.md ∨ ex a) H o.pd (s.looks + s.hits) s.mem
  stk : ∃ ss, H o.sk = some (.lst ss) ∧ Paired (FrV K H) ss s.frames.reverse
  mad : ∃ ms, H o.md = some (.lst ms) ∧ Paired (ThV K H) ms s.made
  nxp : o.x ≠ o.pl
  nsm : o.sk ≠ o.md
  nex : ¬ ex o.x ∧ ¬ ex o.pl ∧ ¬ ex o.pd ∧ ¬ ex o.sk ∧ ¬ ex o.md
  exs : ∀ a, ex a → H a ≠ none
structure Keep (ex : Addr → Prop) (H H' : Hp) : Prop where
  t : SameT H H'
  k : ∀ b, ex b → H' b = H b
theorem Keep.trans {ex : Addr → Prop} {H H1 H2 : Hp} (a : Keep ex H H1) (b : Keep ex H1 H2) : Keep ex H H2 := ⟨a.t.trans b.t, fun x h => (b.k x h).trans (a.k x h)⟩
theorem Keep.refl {ex : Addr → Prop} (H : Hp) : Keep ex H H := ⟨SameT.refl H, fun _ _ => rfl⟩
theorem Same.keep {ex : Addr → Prop} {H H' : Hp} (s : Same H H') (h : ∀ a, ex a → H a ≠ none) : Keep ex H H' := ⟨Same.t s, fun b hb => by
  obtain ⟨u, hu⟩ := Option.ne_none_iff_exists'.mp (h b hb)
  rw [hu]; exact s _ _ hu⟩
section
variable {CM CP : Addr} {K : PySem.W.Frag} {ex : Addr → Prop} {o : MO} {P : Mach.Prog} {s : MS} {H H' : Hp}
theorem MAt.same (M : MAt CM CP K ex o P s H) (e : Same H H') : MAt CM CP K ex o P s H' where
  ins := let ⟨v, a, b⟩ := M.ins; ⟨v, e _ _ a, b.t (Same.t e)⟩
  pr := M.pr.t (Same.t e)
  plc := e _ _ M.plc
  rep := M.rep.same e
  stk := let ⟨ss, a, b⟩ := M.stk; ⟨ss, e _ _ a, Pd.imp (fun _ _ q => q.t (Same.t e)) b⟩
  mad := let ⟨ms, a, b⟩ := M.mad; ⟨ms, e _ _ a, Pd.imp (fun _ _ q => q.t (Same.t e)) b⟩
  nxp := M.nxp
  nsm := M.nsm
  nex := M.nex
  exs := fun a h => by
    obtain ⟨u, hu⟩ := Option.ne_none_iff_exists'.mp (M.exs a h)
    rw [e _ _ hu]; simp
theorem MAt.keepS (M : MAt CM CP K ex o P s H) (e : Same H H') : Keep ex H H' := Same.keep e M.exs
theorem MAt.t_ins (M : MAt CM CP K ex o P s H) (u : HO) : SameT H (upd H o.x u) := let ⟨_, a, _⟩ := M.ins; t_upd u a no_ins
theorem MAt.t_sk (M : MAt CM CP K ex o P s H) (u : HO) : SameT H (upd H o.sk u) := let ⟨_, a, _⟩ := M.stk; t_upd u a no_lst
theorem MAt.t_md (M : MAt CM CP K ex o P s H) (u : HO) : SameT H (upd H o.md u) := let ⟨_, a, _⟩ := M.mad; t_upd u a no_lst
theorem SqP.lst {H : Hp} {l : Addr} {ps : PL} (h : SqP H l ps) : ∃ rs, H l = some (.lst rs) := let ⟨rs, a, _⟩ := h; ⟨rs, a⟩
theorem Rep.u {hd : Addr → Prop} {H : Hp} {d y : Addr} {n : Nat} {m : Mem} {u : HO} (h : Rep hd H d n m) (v : HO) (hy : H y = some u) (nd : d ≠ y) (nt : (∀ xs, u ≠ .tup xs) ∧ ∀ xs, u ≠ .lst xs) : Rep hd (upd H y v) d n m := by
  obtain ⟨kv, a, b, c⟩ := h
  refine ⟨kv, by rw [upd_ne nd]; exact a, b, fun k => (c k).imp fun l ps nl q => ?_⟩
  refine q.x (sameX_upd v) (fun z => ?_) (fun xs z => by rw [hy] at z; cases z; exact nt.1 _ rfl)
  obtain ⟨rs, e⟩ := SqP.lst q
  rw [z, hy] at e; cases e; exact nt.2 _ rfl
theorem Rep.hd' {hd hd' : Addr → Prop} {H : Hp} {d : Addr} {n : Nat} {m : Mem} (h : Rep hd H d n m) (f : ∀ l rs, H l = some (.lst rs) → ¬ hd l → ¬ hd' l) : Rep hd' H d n m := by
  obtain ⟨kv, a, b, c⟩ := h
  refine ⟨kv, a, b, fun k => ?_⟩
  have := c k
  cases e : m k with
  | none => rw [e] at this; exact this
  | some ps =>
    rw [e] at this
    obtain ⟨l, x, y, z⟩ := this
    obtain ⟨rs, hr⟩ := SqP.lst z
    exact ⟨l, x, f l rs hr y, z⟩
theorem Rep.up {hd : Addr → Prop} {H : Hp} {d : Addr} {n n' : Nat} {m : Mem} (h : Rep hd H d n m) (l : n ≤ n') : Rep hd H d n' m := let ⟨kvs, a, b, c⟩ := h; ⟨kvs, a, Nat.le_trans b l, c⟩
theorem MAt.pdk (M : MAt CM CP K ex o P s H) : ∃ kvs, H o.pd = some (.dK kvs) := let ⟨kvs, a, _⟩ := M.rep; ⟨kvs, a⟩
theorem MAt.set {s' : MS} {e : V} (M : MAt CM CP K ex o P s H) (hf : s'.frames = s.frames) (hm : s'.made = s.made) (hr : s.looks + s.hits ≤ s'.looks + s'.hits) (hmm : s'.mem = s.mem) (he : EndAt K H e s'.ended) :
    MAt CM CP K ex o P s' (upd H o.x (.ins CM o.dx (fsM o P e s'.calls s'.looks s'.hits s'.rows))) ∧ Keep ex H (upd H o.x (.ins CM o.dx (fsM o P e s'.calls s'.looks s'.hits s'.rows))) := by
  have t := M.t_ins (.ins CM o.dx (fsM o P e s'.calls s'.looks s'.hits s'.rows))
  obtain ⟨v, a, b⟩ := M.ins
  obtain ⟨kvs, hk⟩ := M.pdk
  obtain ⟨ss, s1, s2⟩ := M.stk
  obtain ⟨ms, m1, m2⟩ := M.mad
  have nk : o.pd ≠ o.x := ne_of hk a (fun z => by cases z)
  have ns : o.sk ≠ o.x := ne_of s1 a (fun z => by cases z)
  have nm : o.md ≠ o.x := ne_of m1 a (fun z => by cases z)
  refine ⟨⟨⟨e, upd_same, he.t t⟩, M.pr.t t, by rw [upd_ne (fun z => M.nxp z.symm)]; exact M.plc, ?_, ⟨ss, by rw [upd_ne ns]; exact s1, by rw [hf]; exact Pd.imp (fun _ _ q => q.t t) s2⟩, ⟨ms, by rw [upd_ne nm]; exact m1, by rw [hm]; exact Pd.imp (fun _ _ q => q.t t) m2⟩, M.nxp, M.nsm, M.nex, fun y hy => ?_⟩, t, fun y hy => ?_⟩
  · rw [hmm]
    exact (M.rep.u _ a nk ⟨fun _ z => (by cases z), fun _ z => by cases z⟩).up hr
  · rw [upd_ne (show y ≠ o.x from fun z => M.nex.1 (z ▸ hy))]; exact M.exs y hy
  · rw [upd_ne (show y ≠ o.x from fun z => M.nex.1 (z ▸ hy))]
theorem MAt.frames {ss' : List V} {fr : List AFr} (M : MAt CM CP K ex o P s H) (hs : Paired (FrV K H) ss' fr.reverse) :
    MAt CM CP K ex o P { s with frames := fr } (upd H o.sk (.lst ss')) ∧ Keep ex H (upd H o.sk (.lst ss')) := by
  have t := M.t_sk (.lst ss')
  obtain ⟨v, a, b⟩ := M.ins
  obtain ⟨kvs, hk⟩ := M.pdk
  obtain ⟨ss, s1, s2⟩ := M.stk
  obtain ⟨ms, m1, m2⟩ := M.mad
  have nk : o.pd ≠ o.sk := ne_of hk s1 (fun z => by cases z)
  have nx : o.x ≠ o.sk := ne_of a s1 (fun z => by cases z)
  have np : o.pl ≠ o.sk := ne_of M.plc s1 (fun z => by cases z)
  refine ⟨⟨⟨v, by rw [upd_ne nx]; exact a, b.t t⟩, M.pr.t t, by rw [upd_ne np]; exact M.plc, ?_, ⟨ss', upd_same, Pd.imp (fun _ _ q => q.t t) hs⟩, ⟨ms, by rw [upd_ne (fun z => M.nsm z.symm)]; exact m1, Pd.imp (fun _ _ q => q.t t) m2⟩, M.nxp, M.nsm, M.nex, fun y hy => ?_⟩, t, fun y hy => ?_⟩
  · exact M.rep.hd (sameX_upd _) (.inl rfl) nk (fun xs z => by rw [s1] at z; cases z)
  · rw [upd_ne (show y ≠ o.sk from fun z => M.nex.2.2.2.1 (z ▸ hy))]; exact M.exs y hy
  · rw [upd_ne (show y ≠ o.sk from fun z => M.nex.2.2.2.1 (z ▸ hy))]
theorem MAt.things {ms' : List V} {mm : List (Nat × List AV)} (M : MAt CM CP K ex o P s H) (hs : Paired (ThV K H) ms' mm) :
    MAt CM CP K ex o P { s with made := mm } (upd H o.md (.lst ms')) ∧ Keep ex H (upd H o.md (.lst ms')) := by
  have t := M.t_md (.lst ms')
  obtain ⟨v, a, b⟩ := M.ins
  obtain ⟨kvs, hk⟩ := M.pdk
  obtain ⟨ss, s1, s2⟩ := M.stk
  obtain ⟨ms, m1, m2⟩ := M.mad
  have nk : o.pd ≠ o.md := ne_of hk m1 (fun z => by cases z)
  have nx : o.x ≠ o.md := ne_of a m1 (fun z => by cases z)
  have np : o.pl ≠ o.md := ne_of M.plc m1 (fun z => by cases z)
  refine ⟨⟨⟨v, by rw [upd_ne nx]; exact a, b.t t⟩, M.pr.t t, by rw [upd_ne np]; exact M.plc, ?_, ⟨ss, by rw [upd_ne M.nsm]; exact s1, Pd.imp (fun _ _ q => q.t t) s2⟩, ⟨ms', upd_same, Pd.imp (fun _ _ q => q.t t) hs⟩, M.nxp, M.nsm, M.nex, fun y hy => ?_⟩, t, fun y hy => ?_⟩
  · exact M.rep.hd (sameX_upd _) (.inr (.inl rfl)) nk (fun xs z => by rw [m1] at z; cases z)
  · rw [upd_ne (show y ≠ o.md from fun z => M.nex.2.2.2.2 (z ▸ hy))]; exact M.exs y hy
  · rw [upd_ne (show y ≠ o.md from fun z => M.nex.2.2.2.2 (z ▸ hy))]
theorem MAt.mem {m' : Mem} {n' : Nat} (M : MAt CM CP K ex o P s H) (e : SameX o.pd H H') (r : Rep (fun a => a = o.sk ∨ a = o.md ∨ ex a) H' o.pd n' m') (hn : n' ≤ s.looks + s.hits) :
    MAt CM CP K ex o P { s with mem := m' } H' ∧ Keep ex H H' := by
  obtain ⟨v, a, b⟩ := M.ins
  obtain ⟨kvs, hk⟩ := M.pdk
  obtain ⟨ss, s1, s2⟩ := M.stk
  obtain ⟨ms, m1, m2⟩ := M.mad
  have t : SameT H H' := fun c xs => ⟨fun h => e _ _ (ne_of h hk (fun z => by cases z)) h, fun o h => e _ _ (ne_of h hk (fun z => by cases z)) h⟩
  refine ⟨⟨⟨v, e _ _ (ne_of a hk (fun z => by cases z)) a, b.t t⟩, M.pr.t t, e _ _ (ne_of M.plc hk (fun z => by cases z)) M.plc, r.up hn, ⟨ss, e _ _ (ne_of s1 hk (fun z => by cases z)) s1, Pd.imp (fun _ _ q => q.t t) s2⟩, ⟨ms, e _ _ (ne_of m1 hk (fun z => by cases z)) m1, Pd.imp (fun _ _ q => q.t t) m2⟩, M.nxp, M.nsm, M.nex, fun y hy => ?_⟩, t, fun y hy => ?_⟩
  · obtain ⟨u, hu⟩ := Option.ne_none_iff_exists'.mp (M.exs y hy)
    rw [e _ _ (fun z => M.nex.2.2.1 (z ▸ hy)) hu]; simp
  · obtain ⟨u, hu⟩ := Option.ne_none_iff_exists'.mp (M.exs y hy)
    rw [hu]; exact e _ _ (fun z => M.nex.2.2.1 (z ▸ hy)) hu
theorem MAt.ends {e : Mach.End} {a q : Addr} (M : MAt CM CP K ex o P s H) (he : EndIs K H a e) (hq : upd H o.x (.ins CM o.dx (fsM o P (.ref a) s.calls s.looks s.hits s.rows)) q = none) :
    MAt CM CP K ex { o with sk := q } P (Mach.ends s e) (upd (upd (upd H o.x (.ins CM o.dx (fsM o P (.ref a) s.calls s.looks s.hits s.rows))) q (.lst [])) o.x (.ins CM o.dx (fsM { o with sk := q } P (.ref a) s.calls s.looks s.hits s.rows))) ∧
      Keep ex H (upd (upd (upd H o.x (.ins CM o.dx (fsM o P (.ref a) s.calls s.looks s.hits s.rows))) q (.lst [])) o.x (.ins CM o.dx (fsM { o with sk := q } P (.ref a) s.calls s.looks s.hits s.rows))) := by
  obtain ⟨M1, k1⟩ := M.set (s' := { s with ended := some e }) (e := .ref a) rfl rfl (Nat.le_refl _) rfl ⟨a, rfl, he⟩
  have s1 := same_upd hq (.lst [])
  have M2 := M1.same s1
  have k2 := M1.keepS s1
  have hql : upd (upd H o.x (.ins CM o.dx (fsM o P (.ref a) s.calls s.looks s.hits s.rows))) q (.lst []) q = some (.lst []) := upd_same
  have fr : ∀ b u, upd H o.x (.ins CM o.dx (fsM o P (.ref a) s.calls s.looks s.hits s.rows)) b = some u → b ≠ q := fun b u h => ne_of_none h hq
  obtain ⟨v, x1, x2⟩ := M1.ins
  obtain ⟨ms, m1, m2⟩ := M1.mad
  obtain ⟨kvs, hk⟩ := M1.pdk
  have nmq : o.md ≠ q := fr _ _ m1
  have nxq : o.x ≠ q := fr _ _ x1
  have nex : ∀ b, ex b → b ≠ q := fun b hb => by
    obtain ⟨u, hu⟩ := Option.ne_none_iff_exists'.mp (M1.exs b hb)
    exact fr _ _ hu
  have M3 : MAt CM CP K ex { o with sk := q } P { Mach.ends s e with ended := some e } (upd (upd (upd H o.x (.ins CM o.dx (fsM o P (.ref a) s.calls s.looks s.hits s.rows))) q (.lst [])) o.x (.ins CM o.dx (fsM { o with sk := q } P (.ref a) s.calls s.looks s.hits s.rows))) := by
    have t := M2.t_ins (.ins CM o.dx (fsM { o with sk := q } P (.ref a) s.calls s.looks s.hits s.rows))
    obtain ⟨w, y1, y2⟩ := M2.ins
    obtain ⟨ms', m1', m2'⟩ := M2.mad
    obtain ⟨kvs', hk'⟩ := M2.pdk
    have nk : o.pd ≠ o.x := ne_of hk' y1 (fun z => by cases z)
    have nm : o.md ≠ o.x := ne_of m1' y1 (fun z => by cases z)
    refine ⟨⟨.ref a, upd_same, ⟨a, rfl, ((he.t k1.t).t (Same.t s1)).t t⟩⟩, M2.pr.t t, by show upd _ _ _ o.pl = _; rw [upd_ne (fun z => M.nxp z.symm)]; exact M2.plc, ?_, ⟨[], by show upd _ _ _ q = _; rw [upd_ne (fun z => nxq z.symm)]; exact hql, .nil⟩, ⟨ms', by show upd _ _ _ o.md = _; rw [upd_ne nm]; exact m1', Pd.imp (fun _ _ q => q.t t) m2'⟩, M.nxp, fun z => nmq z.symm, ⟨M.nex.1, M.nex.2.1, M.nex.2.2.1, fun z => nex _ z rfl, M.nex.2.2.2.2⟩, fun y hy => ?_⟩
    · refine Rep.u ?_ _ y1 nk ⟨fun _ z => (by cases z), fun _ z => by cases z⟩
      have r1 : Rep (fun a => a = q ∨ a = o.md ∨ ex a) (upd H o.x (.ins CM o.dx (fsM o P (.ref a) s.calls s.looks s.hits s.rows))) o.pd (s.looks + s.hits) s.mem :=
        M1.rep.hd' fun l rs hl n z => by
          rcases z with z | z | z
          · exact fr _ _ hl z
          · exact n (.inr (.inl z))
          · exact n (.inr (.inr z))
      exact r1.same s1
    · rw [upd_ne (show y ≠ o.x from fun z => M.nex.1 (z ▸ hy))]; exact M2.exs y hy
  refine ⟨M3, (k1.trans k2).trans ⟨M2.t_ins _, fun y hy => by rw [upd_ne (show y ≠ o.x from fun z => M.nex.1 (z ▸ hy))]⟩⟩
end
end MM
end

section
set_option Elab.async false
set_option linter.all false
set_option maxRecDepth 100000
set_option maxHeartbeats 1000000
namespace MM
open PySem L2
open Mach (AV AFr Row Sg Blk MS PL Mem getP updM seen others Bd)
section
variable {o : MO} {P : Mach.Prog} {e v : V} {c l h r : Nat}
theorem pf_ended : putF "ended" v (fsM o P e c l h r) = fsM o P v c l h r := rfl
theorem pf_stacked {q : Addr} : putF "stacked" (.ref q) (fsM o P e c l h r) = fsM { o with sk := q } P e c l h r := rfl
theorem pf_calls {c' : Nat} : putF "call_count" (.int c') (fsM o P e c l h r) = fsM o P e c' l h r := rfl
theorem pf_looks {c' : Nat} : putF "look_count" (.int c') (fsM o P e c l h r) = fsM o P e c c' h r := rfl
theorem pf_hits {c' : Nat} : putF "hit_count" (.int c') (fsM o P e c l h r) = fsM o P e c l c' r := rfl
theorem pf_rows {c' : Nat} : putF "row_count" (.int c') (fsM o P e c l h r) = fsM o P e c l h c' := rfl
theorem lk_blocks : (fsM o P e c l h r).lookup ("blocks" : Str) = some (.ref o.B) := rfl
theorem lk_tables : (fsM o P e c l h r).lookup ("house_tables" : Str) = some (.ref o.TT) := rfl
theorem lk_most : (fsM o P e c l h r).lookup ("most" : Str) = some (.int P.most) := rfl
theorem lk_rem : (fsM o P e c l h r).lookup ("remembers" : Str) = some (.bl P.rem) := rfl
theorem lk_places : (fsM o P e c l h r).lookup ("places" : Str) = some (.ref o.pl) := rfl
theorem lk_stacked : (fsM o P e c l h r).lookup ("stacked" : Str) = some (.ref o.sk) := rfl
theorem lk_made : (fsM o P e c l h r).lookup ("made" : Str) = some (.ref o.md) := rfl
theorem lk_ended : (fsM o P e c l h r).lookup ("ended" : Str) = some e := rfl
theorem lk_calls : (fsM o P e c l h r).lookup ("call_count" : Str) = some (.int c) := rfl
theorem lk_looks : (fsM o P e c l h r).lookup ("look_count" : Str) = some (.int l) := rfl
theorem lk_hits : (fsM o P e c l h r).lookup ("hit_count" : Str) = some (.int h) := rfl
theorem lk_rows : (fsM o P e c l h r).lookup ("row_count" : Str) = some (.int r) := rfl
theorem fs_len : (fsM o P e c l h r).length < 1000 := by show 12 < 1000; decide
end
structure Lay (k : Nat) (d : PyData) : Prop where
  lay : d.canLay0 = true
  dep : d.depth ≤ k
structure LayL (k : Nat) (ds : List PyData) : Prop where
  lay : PyData.canLayAll0 ds = true
  dep : PyData.depthAll ds ≤ k
theorem Lay.of {k n : Nat} {d : PyData} (h : Nice k n d) : Lay k d := ⟨h.lay, h.dep⟩
theorem Lay.int {k : Nat} {i : Int} : Lay k (.int i) := ⟨rfl, Nat.zero_le _⟩
theorem LayL.nil {k : Nat} : LayL k [] := ⟨rfl, Nat.zero_le _⟩
theorem LayL.cons {k : Nat} {d : PyData} {ds : List PyData} (h : Lay k d) (hs : LayL k ds) : LayL k (d :: ds) := ⟨by rw [PyData.canLayAll0, h.lay, hs.lay]; rfl, by rw [PyData.depthAll]; exact Nat.max_le.mpr ⟨h.dep, hs.dep⟩⟩
theorem Lay.tup {k : Nat} {ds : List PyData} (h : LayL k ds) : Lay (k + 1) (.tuple ds) := ⟨by rw [PyData.canLay0]; exact h.lay, by rw [PyData.depth]; exact Nat.succ_le_succ h.dep⟩
theorem Lay.lst {k : Nat} {ds : List PyData} (h : LayL k ds) : Lay (k + 1) (.list ds) := ⟨by rw [PyData.canLay0]; exact h.lay, by rw [PyData.depth]; exact Nat.succ_le_succ h.dep⟩
theorem Lay.shaped {k : Nat} {d : PyData} (h : Lay k d) (hk : k ≤ 64) : PySem.SeqAt.shaped d = true := Bool.and_eq_true_iff.mpr ⟨h.lay, decide_eq_true (Nat.le_trans h.dep hk)⟩
theorem lays {K : PySem.W.Frag} {H : Hp} {k : Nat} {vs : List V} (h : ∀ v ∈ vs, ∃ d, RdD K H v d ∧ Lay k d) : ∃ ds, RdDs K H vs ds ∧ LayL k ds := by
  induction vs with
  | nil => exact ⟨[], .nil, .nil⟩
  | cons v vs ih =>
    obtain ⟨d, a, b⟩ := h v List.mem_cons_self
    obtain ⟨ds, c, e⟩ := ih fun u hu => h u (List.mem_cons_of_mem _ hu)
    exact ⟨d :: ds, .cons a c, .cons b e⟩
theorem AtVs.lay {K : PySem.W.Frag} {H : Hp} {vs : List V} {as : List AV} (h : AtVs K H vs as) : ∃ ds, RdDs K H vs ds ∧ LayL 1 ds := lays fun v hv => let ⟨d, a, b⟩ := AtVs.rd h v hv; ⟨d, a, .of b⟩
theorem FrV.lay {K : PySem.W.Frag} {H : Hp} {v : V} {f : AFr} (h : FrV K H v f) : ∃ d, RdD K H v d ∧ Lay 3 d := by
  obtain ⟨a, rfl, F, ⟨sa, ta, x, y, z⟩, e1, e2, hs, ht⟩ := h
  obtain ⟨ds, a1, a2⟩ := AtVs.lay hs
  obtain ⟨es, b1, b2⟩ := AtVs.lay ht
  rw [e1] at x
  exact ⟨_, .tup x (.cons (.int _) (.cons (.int _) (.cons (.tup y a1) (.cons (.tup z b1) .nil)))), Lay.tup (k := 2) (.cons .int (.cons .int (.cons (.tup a2) (.cons (.tup b2) .nil))))⟩
theorem Pd.mem {α β : Type} {R : α → β → Prop} : ∀ {xs : List α} {ys : List β}, Paired R xs ys → ∀ x ∈ xs, ∃ y ∈ ys, R x y
  | _, _, .nil, x, hx => by cases hx
  | _, _, .cons r t, x, hx => by
    rcases List.mem_cons.mp hx with rfl | hx
    · exact ⟨_, List.mem_cons_self, r⟩
    · obtain ⟨y, a, b⟩ := Pd.mem t x hx
      exact ⟨y, List.mem_cons_of_mem _ a, b⟩
theorem rds_len {K : PySem.W.Frag} {H : Hp} : ∀ {vs : List V} {ds : List PyData}, RdDs K H vs ds → vs.length = ds.length
  | _, _, .nil => rfl
  | _, _, .cons _ b => congrArg (· + 1) (rds_len b)
theorem frs_lay {K : PySem.W.Frag} {H : Hp} {l : Addr} {ss : List V} {fs : List AFr} (hl : SqL K H l ss) (h : Paired (FrV K H) ss fs) : ∃ d, RdD K H (.ref l) d ∧ PySem.SeqAt.shaped d = true ∧ PyData.eqv d (.list []) = fs.isEmpty := by
  obtain ⟨ds, a, b⟩ := lays (k := 3) (K := K) (H := H) (vs := ss) fun v hv => let ⟨f, _, q⟩ := Pd.mem h v hv; FrV.lay q
  refine ⟨_, .lst hl a, (Lay.lst b).shaped (by decide), ?_⟩
  have e1 := rds_len a
  have e2 := Paired.length h
  cases ds with
  | nil =>
    have : fs = [] := List.length_eq_zero_iff.mp (by rw [← e2, e1]; rfl)
    subst this
    rw [PyData.eqv]; rfl
  | cons d ds =>
    cases fs with
    | nil => rw [e1] at e2; cases e2
    | cons f fs => rw [PyData.eqv]; rfl
theorem ixN_m1 {n : Nat} (h : 0 < n) : ixN n (-1) = some (n - 1) := by
  unfold ixN
  rw [if_neg (by decide), if_pos (by omega)]
  congr 1
  omega
theorem set_last {α : Type} (xs : List α) (x y : α) : (xs ++ [x]).set ((xs ++ [x]).length - 1) y = xs ++ [y] := by
  rw [List.length_append, List.set_append_right _ _ (by simp)]
  simp
theorem nil_rd {K : PySem.W.Frag} {H : Hp} {p : Addr} (h : H p = some (.lst [])) : RdD K H (.ref p) (.list []) := .lst (SqL.of h) .nil
theorem nil_shaped : PySem.SeqAt.shaped (.list []) = true := by decide +kernel
theorem MAt.top {CM CP : Addr} {K : PySem.W.Frag} {ex : Addr → Prop} {o : MO} {P : Mach.Prog} {s : MS} {H : Hp} {f : AFr} {fs : List AFr} (M : MAt CM CP K ex o P s H) (e : s.frames = f :: fs) : ∃ ss a, H o.sk = some (.lst (ss ++ [.ref a])) ∧ Paired (FrV K H) ss fs.reverse ∧ FrIs K H a f := by
  obtain ⟨ss, h1, h2⟩ := M.stk
  rw [e, List.reverse_cons] at h2
  obtain ⟨ss', v, rfl, h3, a, rfl, h4⟩ := Pd.snoc_inv h2
  exact ⟨ss', a, h1, h3, h4⟩
theorem MAt.mem2 {CM CP : Addr} {K : PySem.W.Frag} {ex : Addr → Prop} {o : MO} {P : Mach.Prog} {s s' : MS} {H H' : Hp} {e : V} (M : MAt CM CP K ex o P s H) (x : SameX o.pd H H') (r : Rep (fun a => a = o.sk ∨ a = o.md ∨ ex a) H' o.pd (s.looks + s.hits + 1) s'.mem)
    (hf : s'.frames = s.frames) (hm : s'.made = s.made) (hr : s'.looks + s'.hits = s.looks + s.hits + 1) (he : EndAt K H e s'.ended) :
    MAt CM CP K ex o P s' (upd H' o.x (.ins CM o.dx (fsM o P e s'.calls s'.looks s'.hits s'.rows))) ∧ Keep ex H (upd H' o.x (.ins CM o.dx (fsM o P e s'.calls s'.looks s'.hits s'.rows))) := by
  obtain ⟨v, a, b⟩ := M.ins
  obtain ⟨kvs, hk⟩ := M.pdk
  obtain ⟨ss, s1, s2⟩ := M.stk
  obtain ⟨ms, m1, m2⟩ := M.mad
  have t : SameT H H' := fun c xs => ⟨fun h => x _ _ (ne_of h hk (fun z => by cases z)) h, fun o h => x _ _ (ne_of h hk (fun z => by cases z)) h⟩
  have a' := x _ _ (ne_of a hk (fun z => by cases z)) a
  have s1' := x _ _ (ne_of s1 hk (fun z => by cases z)) s1
  have m1' := x _ _ (ne_of m1 hk (fun z => by cases z)) m1
  have p' := x _ _ (ne_of M.plc hk (fun z => by cases z)) M.plc
  have ex' : ∀ y, ex y → H' y = H y := fun y hy => by
    obtain ⟨u, hu⟩ := Option.ne_none_iff_exists'.mp (M.exs y hy)
    rw [hu]; exact x _ _ (fun z => M.nex.2.2.1 (z ▸ hy)) hu
  obtain ⟨kv', hk', _⟩ := id r
  have nk : o.pd ≠ o.x := ne_of hk' a' (fun z => by cases z)
  have ns : o.sk ≠ o.x := ne_of s1' a' (fun z => by cases z)
  have nm : o.md ≠ o.x := ne_of m1' a' (fun z => by cases z)
  have t2 : SameT H' (upd H' o.x (.ins CM o.dx (fsM o P e s'.calls s'.looks s'.hits s'.rows))) := t_upd _ a' no_ins
  have T := t.trans t2
  refine ⟨⟨⟨e, upd_same, he.t T⟩, M.pr.t T, by rw [upd_ne (fun z => M.nxp z.symm)]; exact p', ?_, ⟨ss, by rw [upd_ne ns]; exact s1', by rw [hf]; exact Pd.imp (fun _ _ q => q.t T) s2⟩, ⟨ms, by rw [upd_ne nm]; exact m1', by rw [hm]; exact Pd.imp (fun _ _ q => q.t T) m2⟩, M.nxp, M.nsm, M.nex, fun y hy => ?_⟩, T, fun y hy => ?_⟩
  · rw [hr]
    exact r.u _ a' nk ⟨fun _ z => (by cases z), fun _ z => by cases z⟩
  · rw [upd_ne (show y ≠ o.x from fun z => M.nex.1 (z ▸ hy)), ex' y hy]; exact M.exs y hy
  · rw [upd_ne (show y ≠ o.x from fun z => M.nex.1 (z ▸ hy)), ex' y hy]
theorem MAt.hid {CM CP : Addr} {K : PySem.W.Frag} {ex : Addr → Prop} {o : MO} {P : Mach.Prog} {s : MS} {H : Hp} (M : MAt CM CP K ex o P s H) : ∀ a, (a = o.sk ∨ a = o.md ∨ ex a) → H a ≠ none := fun a h => by
  rcases h with rfl | rfl | h
  · obtain ⟨_, e, _⟩ := M.stk; rw [e]; simp
  · obtain ⟨_, e, _⟩ := M.mad; rw [e]; simp
  · exact M.exs a h
theorem MAt.rep' {CM CP : Addr} {K : PySem.W.Frag} {ex : Addr → Prop} {o : MO} {P : Mach.Prog} {s : MS} {H : Hp} (M : MAt CM CP K ex o P s H) (u : HO) : Rep (fun a => a = o.sk ∨ a = o.md ∨ ex a) (upd H o.x u) o.pd (s.looks + s.hits) s.mem := by
  obtain ⟨v, a, b⟩ := M.ins
  obtain ⟨kvs, hk⟩ := M.pdk
  exact M.rep.u _ a (ne_of hk a (fun z => by cases z)) ⟨fun _ z => (by cases z), fun _ z => by cases z⟩
theorem MAt.put {CM CP : Addr} {K : PySem.W.Frag} {ex : Addr → Prop} {o : MO} {P : Mach.Prog} {s : MS} {H : Hp} {f f' : AFr} {fs : List AFr} {p : Addr} (M : MAt CM CP K ex o P s H) (e : s.frames = f :: fs) (hf : FrV K H (.ref p) f') :
    ∃ xs j, H o.sk = some (.lst xs) ∧ ixN xs.length (-1) = some j ∧ MAt CM CP K ex o P { s with frames := f' :: fs } (upd H o.sk (.lst (xs.set j (.ref p)))) ∧ Keep ex H (upd H o.sk (.lst (xs.set j (.ref p)))) := by
  obtain ⟨ss, a, c1, c2, c3⟩ := M.top e
  obtain ⟨M1, k1⟩ := M.frames (fr := f' :: fs) (ss' := ss ++ [.ref p]) (by rw [List.reverse_cons]; exact Pd.app c2 (.cons hf .nil))
  rw [← set_last ss (.ref a) (.ref p)] at M1 k1
  exact ⟨_, _, c1, ixN_m1 (by simp), M1, k1⟩
theorem mkFr {K : PySem.W.Frag} {H : Hp} {p : Addr} {F : Fr} {f : AFr} (h : FrAt K H p F) (h1 : F.n = .int f.n) (h2 : F.at_ = f.pc) (h3 : AtVs K H F.sl f.sl) (h4 : AtVs K H F.st f.st.reverse) : FrV K H (.ref p) f := ⟨p, rfl, F, h, h1, h2, h3, h4⟩
theorem ixN_nat {n k : Nat} (h : k < n) : ixN n (k : Int) = some k := by
  unfold ixN
  rw [if_pos (by omega), if_pos (by omega)]
  simp
noncomputable def avD : AV → PyData
  | .non => .none
  | .bl b => .bool b
  | .int i => .int i
  | .th k => .tuple [.str "thing", .int k]
noncomputable def endD : Mach.End → PyData
  | .val v => .tuple [.str "value", avD v]
  | .thing h => .tuple [.str "thing", .int h]
  | .dry => .tuple [.str "dry"]
  | .deep => .tuple [.str "deep"]
  | .great => .tuple [.str "refused", .str "great"]
  | .nought => .tuple [.str "refused", .str "nought"]
theorem str_nice {k : Nat} {x : Str} (h : PyData.strOk x = true := by decide +kernel) (hn : x.cps.size ≤ 8 := by decide +kernel) : Nice k 8 (.str x) := .str h hn
theorem AtV.nice {K : PySem.W.Frag} {H : Hp} {v : V} {a : AV} (h : AtV K H v a) : RdD K H v (avD a) ∧ Nice 1 100 (avD a) := by
  cases a with
  | non => cases h; exact ⟨.non, .none⟩
  | bl b => cases h; exact ⟨.bl b, .bool⟩
  | int i => obtain ⟨rfl, hb⟩ := h; exact ⟨.int i, (Nice.int (by unfold Mach.Bd at hb; omega)).mono (Nat.le_refl _) (by decide)⟩
  | th k =>
    obtain ⟨t, rfl, b, l⟩ := h
    exact ⟨.tup (SqT.of b) (.cons (.str _) (.cons (.int k) .nil)), Nice.tup (k := 0) (n := 100) (.cons (a := 8) (b := 61) str_nice (.cons (a := 60) (b := 0) (.int (by omega)) .nil (by decide)) (by decide))⟩
theorem EndIs.nice {K : PySem.W.Frag} {H : Hp} {a : Addr} {e : Mach.End} (h : EndIs K H a e) : RdD K H (.ref a) (endD e) ∧ Nice 2 200 (endD e) := by
  cases e with
  | val v =>
    obtain ⟨y, p, q⟩ := h
    obtain ⟨r, n⟩ := AtV.nice q
    exact ⟨.tup p (.cons (.str _) (.cons r .nil)), Nice.tup (k := 1) (n := 200) (.cons (a := 8) (b := 150) str_nice (.cons (a := 100) (b := 0) n .nil (by decide)) (by decide))⟩
  | thing x => exact ⟨.tup h.1 (.cons (.str _) (.cons (.int _) .nil)), (Nice.tup (k := 0) (n := 200) (.cons (a := 8) (b := 150) str_nice (.cons (a := 60) (b := 0) (.int (by have := h.2; omega)) .nil (by decide)) (by decide))).mono (by decide) (by decide)⟩
  | dry => exact ⟨.tup h (.cons (.str _) .nil), (Nice.tup (k := 0) (n := 200) (.cons (a := 8) (b := 0) str_nice .nil (by decide))).mono (by decide) (by decide)⟩
  | deep => exact ⟨.tup h (.cons (.str _) .nil), (Nice.tup (k := 0) (n := 200) (.cons (a := 8) (b := 0) str_nice .nil (by decide))).mono (by decide) (by decide)⟩
  | great => exact ⟨.tup h (.cons (.str _) (.cons (.str _) .nil)), (Nice.tup (k := 0) (n := 200) (.cons (a := 8) (b := 150) str_nice (.cons (a := 8) (b := 0) str_nice .nil (by decide)) (by decide))).mono (by decide) (by decide)⟩
  | nought => exact ⟨.tup h (.cons (.str _) (.cons (.str _) .nil)), (Nice.tup (k := 0) (n := 200) (.cons (a := 8) (b := 150) str_nice (.cons (a := 8) (b := 0) str_nice .nil (by decide)) (by decide))).mono (by decide) (by decide)⟩
theorem FrIs.st {K : PySem.W.Frag} {H : Hp} {a : Addr} {f : AFr} (h : FrIs K H a f) : ∃ (F : Fr) (sa ta : Addr), SqT K H a [.int f.n, .int f.pc, .ref sa, .ref ta] ∧ SqT K H sa F.sl ∧ SqT K H ta F.st ∧ F.n = .int f.n ∧ F.at_ = f.pc ∧ AtVs K H F.sl f.sl ∧ AtVs K H F.st f.st.reverse ∧ F.st.length = f.st.length ∧ F.sl.length = f.sl.length := by
  obtain ⟨F, ⟨sa, ta, x, y, z⟩, e1, e2, hs, ht⟩ := h
  rw [e1, e2] at x
  exact ⟨F, sa, ta, x, y, z, e1, e2, hs, ht, by rw [Paired.length ht, List.length_reverse], Paired.length hs⟩
end MM
end

section
set_option Elab.async false
set_option linter.all false
set_option maxRecDepth 100000
namespace MM
open PySem L2
open Mach (AV AFr Row Sg Blk MS PL Mem getP updM seen others Bd)
section
variable {CM CP : Addr} {K : PySem.W.Frag} {ex X : Addr → Prop} {o : MO} {P : Mach.Prog} {s : MS} {H H' : Hp}
theorem MAt.reex {ex' : Addr → Prop} (M : MAt CM CP K ex o P s H) (n : ¬ ex' o.x ∧ ¬ ex' o.pl ∧ ¬ ex' o.pd ∧ ¬ ex' o.sk ∧ ¬ ex' o.md) (he : ∀ a, ex' a → H a ≠ none)
    (f : ∀ l rs, H l = some (.lst rs) → ¬ (l = o.sk ∨ l = o.md ∨ ex l) → ¬ ex' l) : MAt CM CP K ex' o P s H where
  ins := M.ins
  pr := M.pr
  plc := M.plc
  rep := Rep.hd' M.rep fun l rs h hh z => by
    rcases z with z | z | z
    · exact hh (.inl z)
    · exact hh (.inr (.inl z))
    · exact f l rs h hh z
  stk := M.stk
  mad := M.mad
  nxp := M.nxp
  nsm := M.nsm
  nex := n
  exs := he
theorem MAt.reex0 {ex' : Addr → Prop} (M : MAt CM CP K ex o P s H) (hm : ∀ k, s.mem k = none) (n : ¬ ex' o.x ∧ ¬ ex' o.pl ∧ ¬ ex' o.pd ∧ ¬ ex' o.sk ∧ ¬ ex' o.md) (he : ∀ a, ex' a → H a ≠ none) : MAt CM CP K ex' o P s H where
  ins := M.ins
  pr := M.pr
  plc := M.plc
  rep := by
    obtain ⟨kvs, a, b, c⟩ := M.rep
    refine ⟨kvs, a, b, fun k => ?_⟩
    have := c k
    rw [hm k] at this ⊢
    exact this
  stk := M.stk
  mad := M.mad
  nxp := M.nxp
  nsm := M.nsm
  nex := n
  exs := he
noncomputable def Cell (o : MO) (a : Addr) : Prop := a = o.x ∨ a = o.pl ∨ a = o.pd ∨ a = o.sk ∨ a = o.md
noncomputable def Rest (o : MO) (H : Hp) (a : Addr) : Prop := H a ≠ none ∧ ¬ Cell o a
structure Two (CM CP : Addr) (K : PySem.W.Frag) (B : Addr → Prop) (o1 o2 : MO) (P1 P2 : Mach.Prog) (s1 s2 : MS) (H : Hp) : Prop where
  m1 : MAt CM CP K (fun a => Cell o2 a ∨ B a) o1 P1 s1 H
  m2 : MAt CM CP K (Rest o2 H) o2 P2 s2 H
  b2 : ∀ a, B a → ¬ Cell o2 a
theorem MAt.cell (M : MAt CM CP K ex o P s H) {a : Addr} (h : Cell o a) : H a ≠ none := by
  rcases h with rfl | rfl | rfl | rfl | rfl
  · obtain ⟨e, h, _⟩ := M.ins; rw [h]; exact fun z => by cases z
  · rw [M.plc]; exact fun z => by cases z
  · obtain ⟨kvs, h⟩ := M.pdk; rw [h]; exact fun z => by cases z
  · obtain ⟨ss, h, _⟩ := M.stk; rw [h]; exact fun z => by cases z
  · obtain ⟨ms, h, _⟩ := M.mad; rw [h]; exact fun z => by cases z
theorem rest_nex (o : MO) (H : Hp) : ¬ Rest o H o.x ∧ ¬ Rest o H o.pl ∧ ¬ Rest o H o.pd ∧ ¬ Rest o H o.sk ∧ ¬ Rest o H o.md :=
  ⟨fun z => z.2 (.inl rfl), fun z => z.2 (.inr (.inl rfl)), fun z => z.2 (.inr (.inr (.inl rfl))), fun z => z.2 (.inr (.inr (.inr (.inl rfl)))), fun z => z.2 (.inr (.inr (.inr (.inr rfl))))⟩
variable {B : Addr → Prop} {o1 o2 o1' o2' : MO} {P1 P2 : Mach.Prog} {s1 s2 s1' s2' : MS}
theorem Two.dis (T : Two CM CP K B o1 o2 P1 P2 s1 s2 H) {a : Addr} (h : Cell o1 a) : ¬ (Cell o2 a ∨ B a) := by
  have := T.m1.nex
  rcases h with rfl | rfl | rfl | rfl | rfl
  · exact this.1
  · exact this.2.1
  · exact this.2.2.1
  · exact this.2.2.2.1
  · exact this.2.2.2.2
theorem Two.one (T : Two CM CP K B o1 o2 P1 P2 s1 s2 H) (hm : ∀ k, s2.mem k = none) (k : Keep (fun a => Cell o2 a ∨ B a) H H') (M : MAt CM CP K (fun a => Cell o2 a ∨ B a) o1' P1 s1' H') : Two CM CP K B o1' o2 P1 P2 s1' s2 H' where
  m1 := M
  m2 := by
    have k2 : ∀ {a}, Cell o2 a → H' a = H a := fun h => k.k _ (.inl h)
    have M2 : MAt CM CP K (fun _ => False) o2 P2 s2 H := T.m2.reex0 hm ⟨id, id, id, id, id⟩ fun _ h => h.elim
    have : MAt CM CP K (fun _ => False) o2 P2 s2 H' := {
      ins := let ⟨v, a, b⟩ := M2.ins; ⟨v, by rw [k2 (.inl rfl)]; exact a, b.t k.t⟩
      pr := M2.pr.t k.t
      plc := by rw [k2 (.inr (.inl rfl))]; exact M2.plc
      rep := by
        obtain ⟨kvs, a, b, c⟩ := M2.rep
        refine ⟨kvs, by rw [k2 (.inr (.inr (.inl rfl)))]; exact a, b, fun j => ?_⟩
        have := c j
        rw [hm j] at this ⊢
        exact this
      stk := let ⟨ss, a, b⟩ := M2.stk; ⟨ss, by rw [k2 (.inr (.inr (.inr (.inl rfl))))]; exact a, Pd.imp (fun _ _ q => FrV.t q k.t) b⟩
      mad := let ⟨ms, a, b⟩ := M2.mad; ⟨ms, by rw [k2 (.inr (.inr (.inr (.inr rfl))))]; exact a, Pd.imp (fun _ _ q => ThV.t q k.t) b⟩
      nxp := M2.nxp
      nsm := M2.nsm
      nex := M2.nex
      exs := fun _ h => h.elim }
    exact this.reex0 hm (rest_nex o2 H') fun a h => h.1
  b2 := T.b2
theorem Two.two (T : Two CM CP K B o1 o2 P1 P2 s1 s2 H) (hm : ∀ k, s2'.mem k = none) (k : Keep (Rest o2 H) H H') (M : MAt CM CP K (Rest o2 H) o2' P2 s2' H') : Two CM CP K B o1 o2' P1 P2 s1 s2' H' := by
  have c1 : ∀ {a}, Cell o1 a → Rest o2 H a := fun h => ⟨T.m1.cell h, fun z => T.dis h (.inl z)⟩
  have cb : ∀ {a}, B a → Rest o2 H a := fun h => ⟨T.m1.exs _ (.inr h), T.b2 _ h⟩
  have nc : ∀ {a}, Rest o2 H a → ¬ Cell o2' a := fun h z => by
    have := M.nex
    rcases z with rfl | rfl | rfl | rfl | rfl
    · exact this.1 h
    · exact this.2.1 h
    · exact this.2.2.1 h
    · exact this.2.2.2.1 h
    · exact this.2.2.2.2 h
  have M1 : MAt CM CP K (fun a => Cell o2 a ∨ B a) o1 P1 s1 H := T.m1
  have hl : ∀ l rs, H l = some (.lst rs) → ¬ (l = o1.sk ∨ l = o1.md ∨ (Cell o2 l ∨ B l)) → Rest o2 H l := fun l rs h z => ⟨(by rw [h]; exact fun z => (by cases z)), fun y => z (.inr (.inr (.inl y)))⟩
  have N1 : MAt CM CP K B o1 P1 s1 H := M1.reex ⟨fun z => M1.nex.1 (.inr z), fun z => M1.nex.2.1 (.inr z), fun z => M1.nex.2.2.1 (.inr z), fun z => M1.nex.2.2.2.1 (.inr z), fun z => M1.nex.2.2.2.2 (.inr z)⟩ (fun a h => M1.exs a (.inr h)) fun l rs _ z y => z (.inr (.inr (.inr y)))
  have L1 : MAt CM CP K (fun a => Cell o2' a ∨ B a) o1 P1 s1 H' := {
    ins := let ⟨v, a, b⟩ := M1.ins; ⟨v, by rw [k.k _ (c1 (.inl rfl))]; exact a, b.t k.t⟩
    pr := M1.pr.t k.t
    plc := by rw [k.k _ (c1 (.inr (.inl rfl)))]; exact M1.plc
    rep := by
      obtain ⟨kvs, a, b, c⟩ := M1.rep
      refine ⟨kvs, by rw [k.k _ (c1 (.inr (.inr (.inl rfl))))]; exact a, b, fun j => ?_⟩
      have := c j
      revert this
      cases s1.mem j with
      | none => exact id
      | some ps =>
        rintro ⟨l, h1, h2, rs, h3, h4⟩
        have r := hl l rs h3 h2
        refine ⟨l, h1, fun z => ?_, rs, by rw [k.k _ r]; exact h3, Prs.mono (fun t xs e => (k.t t xs).1 e) h4⟩
        rcases z with z | z | z | z
        · exact h2 (.inl z)
        · exact h2 (.inr (.inl z))
        · exact nc r z
        · exact h2 (.inr (.inr (.inr z)))
    stk := let ⟨ss, a, b⟩ := M1.stk; ⟨ss, by rw [k.k _ (c1 (.inr (.inr (.inr (.inl rfl)))))]; exact a, Pd.imp (fun _ _ q => FrV.t q k.t) b⟩
    mad := let ⟨ms, a, b⟩ := M1.mad; ⟨ms, by rw [k.k _ (c1 (.inr (.inr (.inr (.inr rfl)))))]; exact a, Pd.imp (fun _ _ q => ThV.t q k.t) b⟩
    nxp := M1.nxp
    nsm := M1.nsm
    nex := ⟨fun z => z.elim (nc (c1 (.inl rfl))) N1.nex.1, fun z => z.elim (nc (c1 (.inr (.inl rfl)))) N1.nex.2.1, fun z => z.elim (nc (c1 (.inr (.inr (.inl rfl))))) N1.nex.2.2.1, fun z => z.elim (nc (c1 (.inr (.inr (.inr (.inl rfl)))))) N1.nex.2.2.2.1, fun z => z.elim (nc (c1 (.inr (.inr (.inr (.inr rfl)))))) N1.nex.2.2.2.2⟩
    exs := fun a h => h.elim (fun h => M.cell h) fun h => by rw [k.k _ (cb h)]; exact N1.exs a h }
  exact ⟨L1, M.reex0 hm (rest_nex o2' H') (fun a h => h.1), fun a h => nc (cb h)⟩
theorem Two.same (T : Two CM CP K B o1 o2 P1 P2 s1 s2 H) (hm : ∀ k, s2.mem k = none) (e : Same H H') : Two CM CP K B o1 o2 P1 P2 s1 s2 H' := ⟨T.m1.same e, (T.m2.same e).reex0 hm (rest_nex o2 H') (fun a h => h.1), T.b2⟩
end
end MM
end

section
set_option Elab.async false
set_option linter.all false
set_option maxRecDepth 100000
namespace MM
open PySem L2
open Mach (AV AFr MS Hts Top Susp Tops)
noncomputable def frD (f : AFr) : PyData := .tuple [.int f.n, .int f.pc, .tuple (f.sl.map avD), .tuple (f.st.reverse.map avD)]
noncomputable def thD (t : Nat × List AV) : PyData := .tuple [.int t.1, .tuple (t.2.map avD)]
section
variable {K : PySem.W.Frag} {H : Hp}
theorem rds_of {α : Type} {R : V → α → Prop} {g : α → PyData} {k n : Nat} : ∀ {vs : List V} {as : List α}, Paired R vs as → (∀ v a, R v a → a ∈ as → RdD K H v (g a) ∧ Nice k n (g a)) → RdDs K H vs (as.map g) ∧ NiceL k ((n + 1) * as.length) (as.map g)
  | _, _, .nil, _ => ⟨.nil, .nil⟩
  | _, _, .cons r rs, h => by
    obtain ⟨a, b⟩ := h _ _ r List.mem_cons_self
    obtain ⟨c, e⟩ := rds_of rs fun v x hx hm => h v x hx (List.mem_cons_of_mem _ hm)
    exact ⟨.cons a c, NiceL.cons b e (by rw [List.length_cons, Nat.mul_succ]; omega)⟩
theorem avs_nice {vs : List V} {as : List AV} (h : AtVs K H vs as) : RdDs K H vs (as.map avD) ∧ NiceL 1 (101 * as.length) (as.map avD) := rds_of h fun _ _ h _ => AtV.nice h
theorem FrV.nice {v : V} {f : AFr} (h : FrV K H v f) (ht : Top f) : RdD K H v (frD f) ∧ Nice 3 3500 (frD f) := by
  obtain ⟨a, rfl, h⟩ := h
  obtain ⟨F, sa, ta, h1, h2, h3, e1, e2, hs, hst, l1, l2⟩ := h.st
  obtain ⟨a1, a2, a3, a4⟩ := ht
  obtain ⟨r1, n1⟩ := avs_nice hs
  obtain ⟨r2, n2⟩ := avs_nice hst
  rw [List.length_reverse] at n2
  refine ⟨.tup h1 (.cons (.int _) (.cons (.int _) (.cons (.tup h2 r1) (.cons (.tup h3 r2) .nil)))), Nice.tup (k := 2) (.cons (a := 60) (b := 3400) (.int (by omega)) (.cons (a := 60) (b := 3300) (.int (by omega)) (.cons (a := 606) (b := 2500) (Nice.tup (k := 1) (n1.mono (Nat.le_refl _) (by omega))) (.cons (a := 2424) (b := 0) (Nice.tup (k := 1) (n2.mono (Nat.le_refl _) (by omega))) .nil (by decide)) (by decide)) (by decide)) (by decide))⟩
theorem ThV.nice {v : V} {t : Nat × List AV} (h : ThV K H v t) (hl : t.2.length ≤ 1) (ht : t.1 < 1000) : RdD K H v (thD t) ∧ Nice 3 200 (thD t) := by
  obtain ⟨e, ia, inner, rfl, h1, h2, h3⟩ := h
  obtain ⟨r1, n1⟩ := avs_nice h3
  exact ⟨.tup h1 (.cons (.int _) (.cons (.tup h2 r1) .nil)), Nice.tup (k := 2) (.cons (a := 60) (b := 120) (.int (by omega)) (.cons (a := 101) (b := 0) (Nice.tup (k := 1) (n1.mono (Nat.le_refl _) (by omega))) .nil (by decide)) (by decide))⟩
theorem Tops.all {fs : List AFr} (h : Tops fs) : ∀ f ∈ fs, Top f := by
  cases fs with
  | nil => intro f hf; cases hf
  | cons g gs =>
    intro f hf
    rcases List.mem_cons.mp hf with rfl | hf
    · exact h.1
    · exact (h.2 f hf).top
theorem frs_nice {l : Addr} {ss : List V} {s : MS} (hl : SqL K H l ss) (h : Paired (FrV K H) ss s.frames.reverse) (ht : Hts s) : RdD K H (.ref l) (.list (s.frames.reverse.map frD)) ∧ Nice 4 150000 (.list (s.frames.reverse.map frD)) := by
  obtain ⟨a, b⟩ := rds_of (K := K) (H := H) (g := frD) (k := 3) (n := 3500) h fun v f hv hf => FrV.nice hv (Tops.all ht.tp f (List.mem_reverse.mp hf))
  rw [List.length_reverse] at b
  exact ⟨.lst hl a, Nice.lst (k := 3) (b.mono (Nat.le_refl _) (by have := ht.fl; omega))⟩
theorem ths_nice {l : Addr} {ms : List V} {s : MS} {n : Nat} (hl : SqL K H l ms) (h : Paired (ThV K H) ms s.made) (ht : Hts s) (sz : Mach.Sz n s) (hn : n ≤ 1600) : RdD K H (.ref l) (.list (s.made.map thD)) ∧ Nice 4 330000 (.list (s.made.map thD)) := by
  obtain ⟨a, b⟩ := rds_of (K := K) (H := H) (g := thD) (k := 3) (n := 200) h fun v t hv hm => ThV.nice hv (ht.md t hm) (sz.mi t hm).2
  have := sz.md
  exact ⟨.lst hl a, Nice.lst (k := 3) (b.mono (Nat.le_refl _) (by omega))⟩
theorem Nice.fits2 {k n : Nat} {d : PyData} (h : Nice k n d) (hn : n ≤ 400000) : d.shown.length ≤ sizeLine := by
  have := PyData.shown_le 30 (by decide) d h.leaf
  have := h.wt
  rw [sizeLine_eq]
  omega
end
end MM
end

section
open PySem L2 MM
local macro_rules | `(tactic| walk_at "nx") => `(tactic| (refine ⟨rfl, ?_⟩; rw [if_neg (by decide)]))
local macro_rules | `(tactic| walk_at "rd") => do let f := fun (s : String) => (s.splitOn " ").toArray.mapM fun n => `(Lean.Parser.Tactic.simpLemma| $(Lean.mkIdent n.toName):term); let a ← f "rTupOf_ap tMIn_ap tMGet_ap tDGet2_ap tDNewK_ap sDPut_ap tComp_ap tSetC_ap rEqD_ap rNeD_ap tMakeK_ap tC_ap tB_ap tAnd_ap tOr_ap tNot_ap tAndV_ap tOrV_ap tNotV_ap tIf_ap tNext_ap tSeq_ap tDrop_ap tRet_ap tRetN_ap tIfS_ap gName_ap gNil_ap gSub_ap tAsg_ap iList_ap iTup_ap iRng1_ap iRng2_ap tOp_ap tUn_ap rI_ap rI0_ap rU_ap rEq_ap rNe_ap tTest_ap tNil_ap tCons_ap tCall_ap tMake_ap tCB_ap tNoPart_ap tPart_ap tSl_ap rIn_ap tBM0_ap tBM_ap rAppend_ap rExtend_ap rPop_ap tFor_ap tVarF_ap opt2_some tFldF_ap sFldF_ap sFldAugF_ap tMethF_ap rIxTF_ap rIxLF_ap rSetLF_ap gTupF_ap gConsF_ap tTup_nw tLst_nw rSlL_nw rCat_nw List.getElem?_cons_zero List.getElem?_cons_succ List.set_cons_zero List.set_cons_succ Nat.reduceAdd Nat.reduceSub List.cons_append List.nil_append L2.start List.map_cons List.map_nil List.length_cons List.length_nil List.replicate cxOf_K"; let b ← f "rTupOf_ap tMIn_ap tMGet_ap tDGet2_ap tDNewK_ap sDPut_ap tComp_ap tSetC_ap rEqD_ap rNeD_ap tMakeK_ap tVarF_ap opt2_some tFldF_ap sFldF_ap sFldAugF_ap tMethF_ap rIxTF_ap rIxLF_ap rSetLF_ap gTupF_ap gConsF_ap tTup_nw tLst_nw rSlL_nw rCat_nw tC_ap tB_ap tAnd_ap tOr_ap tNot_ap tAndV_ap tOrV_ap tNotV_ap tIf_ap tNext_ap tSeq_ap tDrop_ap tRet_ap tRetN_ap tIfS_ap gName_ap gNil_ap gSub_ap tAsg_ap iList_ap iTup_ap iRng1_ap iRng2_ap tOp_ap tUn_ap rI_ap rI0_ap rU_ap rEq_ap rNe_ap tTest_ap tNil_ap tCons_ap tCall_ap tMake_ap tCB_ap tNoPart_ap tPart_ap tSl_ap rIn_ap tBM0_ap tBM_ap rAppend_ap rExtend_ap rPop_ap tFor_ap exists_eq_left' exists_eq_left exists_and_left exists_eq_right exists_eq_right' V.int.injEq V.str.injEq V.bl.injEq V.ref.injEq Option.some.injEq List.cons.injEq and_true true_and List.getElem?_cons_zero List.getElem?_cons_succ List.set_cons_zero List.set_cons_succ decide_eq_true_eq Bool.not_eq_true' decide_eq_false_iff_not reduceCtorEq sc_nn sc_ni sc_in sc_nb sc_bn sc_ns sc_sn sc_ii sc_bb sc_ss sc_is sc_si sc_bs sc_sb L2.start List.map_cons List.map_nil List.length_cons List.length_nil List.replicate List.cons_append List.nil_append List.append_nil Nat.reduceAdd Nat.reduceSub Nat.zero_add ix0 ix1 exists_const if_true if_false ite_true ite_false Bool.false_eq_true decide_true decide_false Bool.not_true Bool.not_false Bool.true_eq_false CPow CDiv CMul CDivL or_true true_or and_self and_assoc sizeLine_eq Nat.reduceLeDiff Nat.reduceLT Nat.reducePow Nat.reduceMul Int.reducePow Int.reduceLE Int.reduceLT Int.reduceToNat Int.reduceAbs Int.reduceNeg Int.reduceAdd Int.reduceSub Int.reduceMul ne_eq not_false_eq_true not_true_eq_false cxOf_K Int.zero_add"; `(tactic| ((try dsimp only [$a,*]); (try simp (config := { maxSteps := 10000000 }) only [$b,*])))
section
set_option Elab.async false
set_option linter.all false
set_option maxRecDepth 100000
set_option maxHeartbeats 4000000
set_option pp.deepTerms true
set_option format.width 200
namespace K63
open PySem L2 MM
open Mach (AV AFr Row Sg Blk MS PL Mem getP updM seen others Bd)
seal L2.PE L2.PA L2.PT L2.PS L2.PSs L2.PG L2.PGs L2.PI L2.PW
def top (i : Nat) : Stmt := PySem.Challenge.pw_elderhouse_k63_whole_remembered_or_not.main.body.getD i (.Pass ⟨0, 0, 0, 0⟩)
abbrev s_two_told : Stmt := top 3
theorem sc_two_told : FnScope ["sign", "a", "b"] ["sign", "a", "b"] (defScope s_two_told) := ⟨rfl, rfl, rfl, by decide +kernel, rfl, by decide +kernel, by decide +kernel⟩
abbrev s_number_told : Stmt := top 4
theorem sc_number_told : FnScope ["sign", "a", "b"] ["sign", "a", "b"] (defScope s_number_told) := ⟨rfl, rfl, rfl, by decide +kernel, rfl, by decide +kernel, by decide +kernel⟩
abbrev s_bounded : Stmt := top 5
theorem sc_bounded : FnScope ["number"] ["number"] (defScope s_bounded) := ⟨rfl, rfl, rfl, by decide +kernel, rfl, by decide +kernel, by decide +kernel⟩
abbrev s_entered : Stmt := top 8
theorem sc_entered : FnScope ["block", "number", "values", "bound"] ["block", "number", "values"] (defScope s_entered) := ⟨rfl, rfl, rfl, by decide +kernel, rfl, by decide +kernel, by decide +kernel⟩
abbrev s_own_done : Stmt := top 9
theorem sc_own_done : FnScope ["row", "frame", "things", "number", "at", "slots", "stack", "name", "kept", "over"] ["row", "frame", "things"] (defScope s_own_done) := ⟨rfl, rfl, rfl, by decide +kernel, rfl, by decide +kernel, by decide +kernel⟩
abbrev s_two_done : Stmt := top 10
theorem sc_two_done : FnScope ["sign", "frame", "stack", "told"] ["sign", "frame"] (defScope s_two_done) := ⟨rfl, rfl, rfl, by decide +kernel, rfl, by decide +kernel, by decide +kernel⟩
abbrev s_behind : Stmt := top 11
theorem sc_behind : FnScope ["frame", "many", "value", "number", "at", "slots", "stack"] ["frame", "many", "value"] (defScope s_behind) := ⟨rfl, rfl, rfl, by decide +kernel, rfl, by decide +kernel, by decide +kernel⟩
abbrev s_field_value : Stmt := top 12
theorem sc_field_value : FnScope ["things", "thing", "place", "house", "inner"] ["things", "thing", "place"] (defScope s_field_value) := ⟨rfl, rfl, rfl, by decide +kernel, rfl, by decide +kernel, by decide +kernel⟩
abbrev s_uppermost : Stmt := top 18
theorem sc_uppermost : FnScope ["frame", "many", "stack"] ["frame", "many"] (defScope s_uppermost) := ⟨rfl, rfl, rfl, by decide +kernel, rfl, by decide +kernel, by decide +kernel⟩
abbrev s__law_cell_at : Stmt := top 20
theorem sc__law_cell_at : FnScope ["_law_script", "_law_k"] ["_law_script", "_law_k"] (defScope s__law_cell_at) := ⟨rfl, rfl, rfl, by decide +kernel, rfl, by decide +kernel, by decide +kernel⟩
abbrev s__law_mixed : Stmt := top 21
theorem sc__law_mixed : FnScope ["_law_cell", "_law_k", "_law_number"] ["_law_cell", "_law_k"] (defScope s__law_mixed) := ⟨rfl, rfl, rfl, by decide +kernel, rfl, by decide +kernel, by decide +kernel⟩
abbrev s__law_tell_rows : Stmt := top 22
theorem sc__law_tell_rows : FnScope ["_law_way"] ["_law_way"] (defScope s__law_tell_rows) := ⟨rfl, rfl, rfl, by decide +kernel, rfl, by decide +kernel, by decide +kernel⟩
abbrev s__law_program : Stmt := top 23
theorem sc__law_program : FnScope ["_law_script", "_law_one", "_law_many", "_law_ways", "_law_go", "_law_blocks", "_law_laid", "_law_house", "_law_homes", "_law_values", "_law_count", "_law_main", "_law_k"] ["_law_script"] (defScope s__law_program) := ⟨rfl, rfl, rfl, by decide +kernel, rfl, by decide +kernel, by decide +kernel⟩
abbrev s__law_answer : Stmt := top 24
theorem sc__law_answer : FnScope ["_law_program_here", "_law_most", "_law_ways", "_law_homes", "_law_values", "_law_count", "_law_last", "_law_sites", "_law_fields", "_law_total", "_law_calls", "_law_turn", "_law_level", "_law_number", "_law_site", "_law_house", "_law_way", "_law_told"] ["_law_program_here", "_law_most"] (defScope s__law_answer) := ⟨rfl, rfl, rfl, by decide +kernel, rfl, by decide +kernel, by decide +kernel⟩
abbrev s__law_remembered : Stmt := top 25
theorem sc__law_remembered : FnScope ["_law_sites", "_law_known", "_law_hits", "_law_site", "_law_house", "_law_row"] ["_law_sites"] (defScope s__law_remembered) := ⟨rfl, rfl, rfl, by decide +kernel, rfl, by decide +kernel, by decide +kernel⟩
abbrev s__law_alike : Stmt := top 26
theorem sc__law_alike : FnScope ["_law_one", "_law_other", "_law_bits", "_law_pairs"] ["_law_one", "_law_other", "_law_bits"] (defScope s__law_alike) := ⟨rfl, rfl, rfl, by decide +kernel, rfl, by decide +kernel, by decide +kernel⟩
abbrev s_law : Stmt := top 27
theorem sc_law : FnScope ["_law_script", "_law_program_here", "_law_most", "_law_one", "_law_other", "_law_is_long", "_law_turn", "_law_ended", "_law_calls", "_law_sites"] ["_law_script"] (defScope s_law) := ⟨rfl, rfl, rfl, by decide +kernel, rfl, by decide +kernel, by decide +kernel⟩
abbrev s_Places___init__ : Stmt := inClass (top 15) 0
theorem sc_Places___init__ : FnScope ["self"] ["self"] (defScope s_Places___init__) := ⟨rfl, rfl, rfl, by decide +kernel, rfl, by decide +kernel, by decide +kernel⟩
abbrev s_Places_asked : Stmt := inClass (top 15) 1
theorem sc_Places_asked : FnScope ["self", "site", "house", "pairs", "found"] ["self", "site", "house"] (defScope s_Places_asked) := ⟨rfl, rfl, rfl, by decide +kernel, rfl, by decide +kernel, by decide +kernel⟩
abbrev s_Places_put : Stmt := inClass (top 15) 2
theorem sc_Places_put : FnScope ["self", "site", "house", "block"] ["self", "site", "house", "block"] (defScope s_Places_put) := ⟨rfl, rfl, rfl, by decide +kernel, rfl, by decide +kernel, by decide +kernel⟩
abbrev s_Places_told : Stmt := inClass (top 15) 3
theorem sc_Places_told : FnScope ["self", "site"] ["self", "site"] (defScope s_Places_told) := ⟨rfl, rfl, rfl, by decide +kernel, rfl, by decide +kernel, by decide +kernel⟩
abbrev s_Machine___init__ : Stmt := inClass (top 17) 0
theorem sc_Machine___init__ : FnScope ["self", "blocks", "tables", "numbers", "most", "remembers"] ["self", "blocks", "tables", "numbers", "most", "remembers"] (defScope s_Machine___init__) := ⟨rfl, rfl, rfl, by decide +kernel, rfl, by decide +kernel, by decide +kernel⟩
abbrev s_Machine_frames : Stmt := inClass (top 17) 1
theorem sc_Machine_frames : FnScope ["self"] ["self"] (defScope s_Machine_frames) := ⟨rfl, rfl, rfl, by decide +kernel, rfl, by decide +kernel, by decide +kernel⟩
abbrev s_Machine_things : Stmt := inClass (top 17) 2
theorem sc_Machine_things : FnScope ["self"] ["self"] (defScope s_Machine_things) := ⟨rfl, rfl, rfl, by decide +kernel, rfl, by decide +kernel, by decide +kernel⟩
abbrev s_Machine_answer : Stmt := inClass (top 17) 3
theorem sc_Machine_answer : FnScope ["self"] ["self"] (defScope s_Machine_answer) := ⟨rfl, rfl, rfl, by decide +kernel, rfl, by decide +kernel, by decide +kernel⟩
abbrev s_Machine_calls : Stmt := inClass (top 17) 4
theorem sc_Machine_calls : FnScope ["self"] ["self"] (defScope s_Machine_calls) := ⟨rfl, rfl, rfl, by decide +kernel, rfl, by decide +kernel, by decide +kernel⟩
abbrev s_Machine_looks : Stmt := inClass (top 17) 5
theorem sc_Machine_looks : FnScope ["self"] ["self"] (defScope s_Machine_looks) := ⟨rfl, rfl, rfl, by decide +kernel, rfl, by decide +kernel, by decide +kernel⟩
abbrev s_Machine_hits : Stmt := inClass (top 17) 6
theorem sc_Machine_hits : FnScope ["self"] ["self"] (defScope s_Machine_hits) := ⟨rfl, rfl, rfl, by decide +kernel, rfl, by decide +kernel, by decide +kernel⟩
abbrev s_Machine_rows_done : Stmt := inClass (top 17) 7
theorem sc_Machine_rows_done : FnScope ["self"] ["self"] (defScope s_Machine_rows_done) := ⟨rfl, rfl, rfl, by decide +kernel, rfl, by decide +kernel, by decide +kernel⟩
abbrev s_Machine_step : Stmt := inClass (top 17) 8
theorem sc_Machine_step : FnScope ["self", "frame", "row"] ["self"] (defScope s_Machine_step) := ⟨rfl, rfl, rfl, by decide +kernel, rfl, by decide +kernel, by decide +kernel⟩
abbrev s_Machine_do_own : Stmt := inClass (top 17) 9
theorem sc_Machine_do_own : FnScope ["self", "row", "frame", "done", "refusal"] ["self", "row", "frame"] (defScope s_Machine_do_own) := ⟨rfl, rfl, rfl, by decide +kernel, rfl, by decide +kernel, by decide +kernel⟩
abbrev s_Machine_make : Stmt := inClass (top 17) 10
theorem sc_Machine_make : FnScope ["self", "house", "many", "frame"] ["self", "house", "many", "frame"] (defScope s_Machine_make) := ⟨rfl, rfl, rfl, by decide +kernel, rfl, by decide +kernel, by decide +kernel⟩
abbrev s_Machine_set_field : Stmt := inClass (top 17) 11
theorem sc_Machine_set_field : FnScope ["self", "place", "frame", "thing", "value", "house", "inner"] ["self", "place", "frame"] (defScope s_Machine_set_field) := ⟨rfl, rfl, rfl, by decide +kernel, rfl, by decide +kernel, by decide +kernel⟩
abbrev s_Machine_found_block : Stmt := inClass (top 17) 12
theorem sc_Machine_found_block : FnScope ["self", "site", "word", "many", "frame", "house", "known", "block"] ["self", "site", "word", "many", "frame"] (defScope s_Machine_found_block) := ⟨rfl, rfl, rfl, by decide +kernel, rfl, by decide +kernel, by decide +kernel⟩
abbrev s_Machine_enter : Stmt := inClass (top 17) 13
theorem sc_Machine_enter : FnScope ["self", "block", "many", "frame", "number", "at", "slots", "stack"] ["self", "block", "many", "frame"] (defScope s_Machine_enter) := ⟨rfl, rfl, rfl, by decide +kernel, rfl, by decide +kernel, by decide +kernel⟩
abbrev s_Machine_go_back : Stmt := inClass (top 17) 14
theorem sc_Machine_go_back : FnScope ["self", "frame", "value", "number", "at", "slots", "stack"] ["self", "frame"] (defScope s_Machine_go_back) := ⟨rfl, rfl, rfl, by decide +kernel, rfl, by decide +kernel, by decide +kernel⟩
abbrev s_Machine_told_answer : Stmt := inClass (top 17) 15
theorem sc_Machine_told_answer : FnScope ["self", "value"] ["self", "value"] (defScope s_Machine_told_answer) := ⟨rfl, rfl, rfl, by decide +kernel, rfl, by decide +kernel, by decide +kernel⟩
abbrev s_Machine_end : Stmt := inClass (top 17) 16
theorem sc_Machine_end : FnScope ["self", "told"] ["self", "told"] (defScope s_Machine_end) := ⟨rfl, rfl, rfl, by decide +kernel, rfl, by decide +kernel, by decide +kernel⟩
noncomputable def kv_ROW_SIGNS : List (Key × V) := [(.inr "add", .str "+"), (.inr "sub", .str "-"), (.inr "mul", .str "*"), (.inr "div", .str "/"), (.inr "less", .str "<"), (.inr "same", .str "=")]
structure Txt (P : Program) (w : World) (K : PySem.W.Frag) (mg : Str → Option Value) (C_Places : Addr) (C_Machine : Addr) (D_ROW_SIGNS : Addr) : Prop where
  z_abs : mg "abs" = none
  z_int : mg "int" = none
  z_isinstance : mg "isinstance" = none
  z_len : mg "len" = none
  z_list : mg "list" = none
  z_max : mg "max" = none
  z_range : mg "range" = none
  z_repr : mg "repr" = none
  z_tuple : mg "tuple" = none
  c_GREATEST : Cst mg "GREATEST" (.int 1000000000000000)
  c_MOST_PAIRS : Cst mg "MOST_PAIRS" (.int 2)
  c_MOST_WITHIN : Cst mg "MOST_WITHIN" (.int 40)
  c_ROW_SIGNS : Cst mg "ROW_SIGNS" (.ref D_ROW_SIGNS)
  d_ROW_SIGNS : MDict P w K D_ROW_SIGNS kv_ROW_SIGNS
  f_two_told : Fn K mg "two_told" s_two_told
  f_number_told : Fn K mg "number_told" s_number_told
  f_bounded : Fn K mg "bounded" s_bounded
  f_entered : Fn K mg "entered" s_entered
  f_own_done : Fn K mg "own_done" s_own_done
  f_two_done : Fn K mg "two_done" s_two_done
  f_behind : Fn K mg "behind" s_behind
  f_field_value : Fn K mg "field_value" s_field_value
  f_uppermost : Fn K mg "uppermost" s_uppermost
  f__law_cell_at : Fn K mg "_law_cell_at" s__law_cell_at
  f__law_mixed : Fn K mg "_law_mixed" s__law_mixed
  f__law_tell_rows : Fn K mg "_law_tell_rows" s__law_tell_rows
  f__law_program : Fn K mg "_law_program" s__law_program
  f__law_answer : Fn K mg "_law_answer" s__law_answer
  f__law_remembered : Fn K mg "_law_remembered" s__law_remembered
  f__law_alike : Fn K mg "_law_alike" s__law_alike
  f_law : Fn K mg "law" s_law
  Places : ClsOk K mg "Places" C_Places
  n_Places_by_site : NoAttr K C_Places "by_site"
  Machine : ClsOk K mg "Machine" C_Machine
  n_Machine_blocks : NoAttr K C_Machine "blocks"
  n_Machine_call_count : NoAttr K C_Machine "call_count"
  n_Machine_ended : NoAttr K C_Machine "ended"
  n_Machine_hit_count : NoAttr K C_Machine "hit_count"
  n_Machine_house_tables : NoAttr K C_Machine "house_tables"
  n_Machine_look_count : NoAttr K C_Machine "look_count"
  n_Machine_made : NoAttr K C_Machine "made"
  n_Machine_most : NoAttr K C_Machine "most"
  n_Machine_places : NoAttr K C_Machine "places"
  n_Machine_remembers : NoAttr K C_Machine "remembers"
  n_Machine_row_count : NoAttr K C_Machine "row_count"
  n_Machine_stacked : NoAttr K C_Machine "stacked"
  m_Places___init__ : MFn K C_Places "__init__" "Places.__init__" s_Places___init__
  m_Places_asked : MFn K C_Places "asked" "Places.asked" s_Places_asked
  m_Places_put : MFn K C_Places "put" "Places.put" s_Places_put
  m_Places_told : MFn K C_Places "told" "Places.told" s_Places_told
  m_Machine___init__ : MFnD K C_Machine "__init__" "Machine.__init__" s_Machine___init__ (.int 100) (.bl true)
  m_Machine_frames : MFn K C_Machine "frames" "Machine.frames" s_Machine_frames
  m_Machine_things : MFn K C_Machine "things" "Machine.things" s_Machine_things
  m_Machine_answer : MFn K C_Machine "answer" "Machine.answer" s_Machine_answer
  m_Machine_calls : MFn K C_Machine "calls" "Machine.calls" s_Machine_calls
  m_Machine_looks : MFn K C_Machine "looks" "Machine.looks" s_Machine_looks
  m_Machine_hits : MFn K C_Machine "hits" "Machine.hits" s_Machine_hits
  m_Machine_rows_done : MFn K C_Machine "rows_done" "Machine.rows_done" s_Machine_rows_done
  m_Machine_step : MFn K C_Machine "step" "Machine.step" s_Machine_step
  m_Machine_do_own : MFn K C_Machine "do_own" "Machine.do_own" s_Machine_do_own
  m_Machine_make : MFn K C_Machine "make" "Machine.make" s_Machine_make
  m_Machine_set_field : MFn K C_Machine "set_field" "Machine.set_field" s_Machine_set_field
  m_Machine_found_block : MFn K C_Machine "found_block" "Machine.found_block" s_Machine_found_block
  m_Machine_enter : MFn K C_Machine "enter" "Machine.enter" s_Machine_enter
  m_Machine_go_back : MFn K C_Machine "go_back" "Machine.go_back" s_Machine_go_back
  m_Machine_told_answer : MFn K C_Machine "told_answer" "Machine.told_answer" s_Machine_told_answer
  m_Machine_end : MFn K C_Machine "end" "Machine.end" s_Machine_end
inductive Sp_own (K : PySem.W.Frag) (vs : List V) (H : Hp) (Q : VK) : Prop
  | mk (r a tl : Addr) (nm : Str) (args : List V) (F : Fr) (a1 : vs = [.ref r, .ref a, .ref tl]) (a2 : SqT K H r (.str nm :: args)) (a3 : FrAt K H a F) (a4 : F.st.length < 100000) (a5 : F.sl.length < 100000) (a6 : ((∃ sg st x y rr, valV kv_ROW_SIGNS (.inr nm) = some (.str sg) ∧ F.st = st ++ [x, y] ∧ TwoR K H sg x y rr ∧ (∀ why p q' H', rr = [.str "refused", .str why] → Same H H' → SqT K H' q' rr → SqT K H' p [.ref a, .ref q'] → Q (.ref p) H') ∧ ∀ v p f' H', rr = [.str "value", v] → Same H H' → FrAt K H' f' ⟨F.n, F.at_ + 1, F.sl, st ++ [v]⟩ → SqT K H' p [.ref f', .non] → Q (.ref p) H') ∨ ∃ F', OwnR K H tl F nm args F' ∧ ∀ p f' H', Same H H' → FrAt K H' f' F' → SqT K H' p [.ref f', .non] → Q (.ref p) H')) : Sp_own K vs H Q
def sp_own (K : PySem.W.Frag) : Sp := fun vs H Q _ => Sp_own K vs H Q
inductive Sp_pinit (C : Addr) (vs : List V) (H : Hp) (Q : VK) : Prop
  | mk (x : _) (dx : _) (a1 : vs = [.ref x]) (a2 : H x = some (.ins C dx [])) (a3 : ∀ d, H d = none → Q .non (upd (upd H d (.dK [])) x (.ins C dx [("by_site", .ref d)]))) : Sp_pinit C vs H Q
def sp_pinit (C : Addr) : Sp := fun vs H Q _ => Sp_pinit C vs H Q
inductive Sp_told (C : Addr) (vs : List V) (H : Hp) (Q : VK) : Prop
  | mk (x dx d : Addr) (site : Int) (hd : Addr → Prop) (n : Nat) (m : Mem) (a1 : vs = [.ref x, .int site]) (a2 : H x = some (.ins C dx [("by_site", .ref d)])) (a3 : Rep hd H d n m) (a4 : ∀ l H', H l = none → Same H H' → SqP H' l (getP m site) → Q (.ref l) H') : Sp_told C vs H Q
def sp_told (C : Addr) : Sp := fun vs H Q _ => Sp_told C vs H Q
inductive Sp_asked (C : Addr) (vs : List V) (H : Hp) (Q : VK) : Prop
  | mk (x dx d : Addr) (site house : Int) (hd : Addr → Prop) (n : Nat) (m : Mem) (a1 : vs = [.ref x, .int site, .int house]) (a2 : H x = some (.ins C dx [("by_site", .ref d)])) (a3 : Rep hd H d n m) (a4 : (∀ a, hd a → H a ≠ none)) (a5 : n < 100000) (a6 : (getP m site).length ≤ 2) (a7 : (seen (getP m site) house = [] → ∀ H', Same H H' → Q .non H')) (a8 : ∀ p r, seen (getP m site) house = p :: r → ∀ H', SameX d H H' → Rep hd H' d (n + 1) (updM m site (seen (getP m site) house ++ others (getP m site) house)) → Q (.int p.2) H') : Sp_asked C vs H Q
def sp_asked (C : Addr) : Sp := fun vs H Q _ => Sp_asked C vs H Q
inductive Sp_put (C : Addr) (vs : List V) (H : Hp) (Q : VK) : Prop
  | mk (x dx d : Addr) (site house block : Int) (hd : Addr → Prop) (n : Nat) (m : Mem) (a1 : vs = [.ref x, .int site, .int house, .int block]) (a2 : H x = some (.ins C dx [("by_site", .ref d)])) (a3 : Rep hd H d n m) (a4 : (∀ a, hd a → H a ≠ none)) (a5 : n < 100000) (a6 : (getP m site).length ≤ 2) (a7 : ∀ H', SameX d H H' → Rep hd H' d (n + 1) (updM m site (((house, block) :: getP m site).take 2)) → Q .non H') : Sp_put C vs H Q
def sp_put (C : Addr) : Sp := fun vs H Q _ => Sp_put C vs H Q
section
variable {C_Places C_Machine D_ROW_SIGNS : Addr} {P : Program} {w : World} {K : PySem.W.Frag} {mg : Str → Option Value} {base : Heap}
theorem ok_behind (T : Txt P w K mg C_Places C_Machine D_ROW_SIGNS) : Has P w K mg base 1 "behind" ["frame", "many", "value"] (sp_behind K) := by
  refine Has.of T.f_behind sc_behind (fun _ _ _ _ _ _ us hl => el3 us hl fun _ _ _ => rfl) (fun vs H Q E h => ?_) (fun f cdv A outer s H vs Q E hr h => ?_)
  · obtain ⟨a, m, v, F, rfl, _⟩ := h
    rfl
  obtain ⟨a, m, v, F, rfl, hF, hm, hl, q⟩ := h
  refine ⟨_, (pss_cons (ps_asg (pvF 0) (pg_tupF (n := 4) rfl (pgs_consF (pg_name (i := 3) sc_behind.nd rfl (Or.inl rfl)) (pgs_consF (pg_name (i := 4) sc_behind.nd rfl (Or.inl rfl)) (pgs_consF (pg_name (i := 5) sc_behind.nd rfl (Or.inl rfl)) (pgs_consF (pg_name (i := 6) sc_behind.nd rfl (Or.inl rfl)) pgs_nil))))))
    (pss_one (ps_ret (pe_tup (pa_cons (pvF 3) (pa_cons (pe_op op_add (pvF 4) pe_int) (pa_cons (pvF 5) (pa_cons (pe_op (r := rCatA K) op_catA (pe_slice (r := rSlA K) sl_tupA (pvF 6) po_none (po_some (pe_op op_sub (pe_callB call_len_seq rfl T.z_len bt_len (pa_cons (pvF 6) pa_nil)) (pvF 1)))) (pe_tup (pa_cons (pvF 2) pa_nil))) pa_nil)))))))), ?_⟩
  walk_at "rd"
  obtain ⟨sa, ta, h1, h2, h3⟩ := hF
  refine ⟨_, h1, rfl, _, _, rfl, _, _, rfl, _, _, rfl, _, _, rfl, rfl, _, rfl, ta, rfl, _, .inr h3, ta, _, rfl, h3, fun p1 H1 s1 hp1 => ?_⟩
  intro u hu
  have s2 := same_upd hu (.tup [v])
  rw [show ((F.st.length : Int) - (m : Int)) = ((F.st.length - m : Nat) : Int) by omega, cut_to] at hp1
  refine ⟨p1, u, _, _, rfl, rfl, hp1.same s2, SqT.of upd_same, by rw [List.length_take, sizeLine_eq]; show _ + 1 ≤ _; omega, fun p2 H2 s3 hp2 => ?_⟩
  intro y hy
  have s4 := same_upd hy (.tup [F.n, .int (F.at_ + 1), .ref sa, .ref p2])
  have S := (s1.trans s2).trans (s3.trans s4)
  exact q y _ S ⟨sa, p2, SqT.of upd_same, h2.same S, hp2.same s4⟩
theorem ok_bounded (T : Txt P w K mg C_Places C_Machine D_ROW_SIGNS) : Has P w K mg base 1 "bounded" ["number"] sp_bounded := by
  refine Has.of T.f_bounded sc_bounded (fun _ _ _ _ _ _ us hl => el1 us hl fun _ => rfl) (fun vs H Q E h => ?_) (fun f cdv A outer s H vs Q E hr h => ?_)
  · obtain ⟨n, rfl, _⟩ := h
    rfl
  obtain ⟨n, rfl, q⟩ := h
  refine ⟨_, (pss_cons (ps_if (pt_cmpR op_gt (pe_callB call_abs rfl T.z_abs bt_abs (pa_cons (pvF 0) pa_nil)) (pe_cst T.c_GREATEST rfl) (nomark _)) (pss_one (ps_ret (pe_tup (pa_cons pe_str (pa_cons pe_str pa_nil))))) pss_nil)
    (pss_one (ps_ret (pe_tup (pa_cons pe_str (pa_cons (pvF 0) pa_nil)))))), ?_⟩
  walk_at "rd"
  have hb : (1000000000000000 < if n < 0 then -n else n) ↔ ¬ Bd n := by unfold Bd; split <;> omega
  simp only [hb]
  unfold told2 at q
  by_cases hc : Bd n
  · rw [if_pos hc] at q
    rw [if_neg (fun z => z hc)]
    exact q
  · rw [if_neg hc] at q
    rw [if_pos hc]
    exact q
theorem ok_number_told (T : Txt P w K mg C_Places C_Machine D_ROW_SIGNS) : Has P w K mg base 1 "number_told" ["sign", "a", "b"] sp_number_told := by
  refine Has.of T.f_number_told sc_number_told (fun _ _ _ _ _ _ us hl => el3 us hl fun _ _ _ => rfl) (fun vs H Q E h => ?_) (fun f cdv A outer s H vs Q E hr h => ?_)
  · obtain ⟨sg, a, b, rfl, _⟩ := h
    rfl
  obtain ⟨sg, a, b, rfl, ha, hb, hs, q⟩ := h
  refine ⟨_, (pss_cons (ps_if (pt_cmpR op_eq (pvF 0) pe_str (nomark _)) (pss_one (ps_ret (pe_op op_add (pvF 1) (pvF 2)))) pss_nil)
    (pss_cons (ps_if (pt_cmpR op_eq (pvF 0) pe_str (nomark _)) (pss_one (ps_ret (pe_op op_sub (pvF 1) (pvF 2)))) pss_nil)
    (pss_cons (ps_if (pt_cmpR op_eq (pvF 0) pe_str (nomark _)) (pss_one (ps_ret (pe_op op_mul (pvF 1) (pvF 2)))) pss_nil)
    (pss_one (ps_ret (pe_op op_fdivL (pvF 1) (pvF 2))))))), ?_⟩
  walk_at "rd"
  unfold num at q
  split
  · rename_i h1; rw [if_pos h1] at q; exact q
  · rename_i h1; rw [if_neg h1] at q
    split
    · rename_i h2; rw [if_pos h2] at q; exact q
    · rename_i h2; rw [if_neg h2] at q
      split
      · rename_i h3; rw [if_pos h3] at q; unfold Bd at ha; exact ⟨.inl (by omega), q⟩
      · rename_i h3; rw [if_neg h3] at q
        have : b ≠ 0 := by
          rcases hs with z | z | z | z
          · exact absurd z h1
          · exact absurd z h2
          · exact absurd z h3
          · exact z
        unfold Bd at hb
        exact ⟨this, by omega, by omega, q⟩
theorem ok_two_told (T : Txt P w K mg C_Places C_Machine D_ROW_SIGNS) (h_bounded : Has P w K mg base 1 "bounded" ["number"] sp_bounded) (h_number_told : Has P w K mg base 1 "number_told" ["sign", "a", "b"] sp_number_told) : Has P w K mg base 2 "two_told" ["sign", "a", "b"] (sp_two_told K) := by
  refine Has.of T.f_two_told sc_two_told (fun _ _ _ _ _ _ us hl => el3 us hl fun _ _ _ => rfl) (fun vs H Q E h => ?_) (fun f cdv A outer s H vs Q E hr h => ?_)
  · obtain ⟨sg, va, vb, r, rfl, _⟩ := h
    rfl
  obtain ⟨sg, va, vb, r, rfl, ht, q⟩ := h
  refine ⟨_, (pss_cons (ps_if (pt_cmpR op_eq (pvF 0) pe_str (nomark _)) (pss_one (ps_ret (pe_tup (pa_cons pe_str (pa_cons (pe_cmpR op_lt (pvF 1) (pvF 2) (nomark _)) pa_nil))))) pss_nil)
    (pss_cons (ps_if (pt_cmpR op_eq (pvF 0) pe_str (nomark _)) (pss_one (ps_ret (pe_tup (pa_cons pe_str (pa_cons (pe_cmpR (r := rEqD K) (op_eqD hr.units) (pvF 1) (pvF 2) (nomark _)) pa_nil))))) pss_nil)
    (pss_cons (ps_if (PW.pt (pw_and (pt_cmpR op_eq (pvF 0) pe_str (nomark _)) (pw_and1 (pt_cmpR (r := rEqD K) (op_eqD hr.units) (pvF 2) pe_int (nomark _))))) (pss_one (ps_ret (pe_tup (pa_cons pe_str (pa_cons pe_str pa_nil))))) pss_nil)
    (pss_one (ps_ret (pe_has h_bounded hr (by decide) rfl (pa_cons (pe_has h_number_told hr (by decide) rfl (pa_cons (pvF 0) (pa_cons (pvF 1) (pa_cons (pvF 2) pa_nil)))) pa_nil))))))), ?_⟩
  walk_at "rd"
  cases ht with
  | lt a b =>
    rw [if_pos rfl]
    exact ⟨a, rfl, b, rfl, fun p hp => q p _ (same_upd hp _) (SqT.of upd_same)⟩
  | eq ha hb sa sb =>
    rw [if_neg (by decide), if_pos rfl]
    exact ⟨_, ha, _, hb, sa, sb, fun p hp => q p _ (same_upd hp _) (SqT.of upd_same)⟩
  | ar hs ha hb =>
    rename_i a b
    have fin : ∀ sg : Str, ¬ (sg = "/" ∧ b = 0) → (∀ p H', Same H H' → SqT K H' p (arith sg a b) → Q (.ref p) H') → ∀ p, H p = none → Q (.ref p) (upd H p (.tup (told2 (num sg a b)))) := fun sg hn q p hp => q p _ (same_upd hp _) (by unfold arith; rw [if_neg hn]; exact SqT.of upd_same)
    rcases hs with e | e | e | e <;> subst e
    · rw [if_neg (by decide), if_neg (by decide), if_neg (by decide)]
      exact ⟨_, a, b, rfl, ha, hb, .inl rfl, _, rfl, fin _ (fun z => absurd z.1 (by decide)) q⟩
    · rw [if_neg (by decide), if_neg (by decide), if_neg (by decide)]
      exact ⟨_, a, b, rfl, ha, hb, .inr (.inl rfl), _, rfl, fin _ (fun z => absurd z.1 (by decide)) q⟩
    · rw [if_neg (by decide), if_neg (by decide), if_neg (by decide)]
      exact ⟨_, a, b, rfl, ha, hb, .inr (.inr (.inl rfl)), _, rfl, fin _ (fun z => absurd z.1 (by decide)) q⟩
    · rw [if_neg (by decide), if_neg (by decide), if_pos rfl]
      refine ⟨.int b, .int b, .int 0, .int 0, by with_unfolding_all rfl, by with_unfolding_all rfl, ?_⟩
      rw [show PyData.eqv (.int b) (.int 0) = (b == 0) by rw [PyData.eqv]]
      by_cases hz : b = 0
      · rw [beq_iff_eq.mpr hz, if_pos rfl]
        exact fun p hp => q p _ (same_upd hp _) (by unfold arith; rw [if_pos ⟨rfl, hz⟩]; exact SqT.of upd_same)
      · rw [beq_eq_false_iff_ne.mpr hz, if_neg (by decide)]
        exact ⟨_, a, b, rfl, ha, hb, .inr (.inr (.inr hz)), _, rfl, fin _ (fun z => hz z.2) q⟩
theorem ok_field (T : Txt P w K mg C_Places C_Machine D_ROW_SIGNS) : Has P w K mg base 1 "field_value" ["things", "thing", "place"] (sp_field K) := by
  refine Has.of T.f_field_value sc_field_value (fun _ _ _ _ _ _ us hl => el3 us hl fun _ _ _ => rfl) (fun vs H Q E h => ?_) (fun f cdv A outer s H vs Q E hr h => ?_)
  · obtain ⟨tl, th, pl, k, ts, e, ia, hv, inner, v, rfl, _⟩ := h
    rfl
  obtain ⟨tl, th, pl, k, ts, e, ia, hv, inner, v, rfl, h1, h2, h3, h4, h5, h6, q⟩ := h
  refine ⟨_, (pss_cons (ps_asg (pe_ix (r := rIxLF K) ix_listF (pvF 0) (pe_ix (r := rIxTF K) ix_tupF (pvF 1) pe_int (fun _ _ => rfl)) (fun _ _ => rfl)) (pg_tupF (n := 2) rfl (pgs_consF (pg_name (i := 3) sc_field_value.nd rfl (Or.inl rfl)) (pgs_consF (pg_name (i := 4) sc_field_value.nd rfl (Or.inl rfl)) pgs_nil))))
    (pss_one (ps_ret (pe_ix (r := rIxTF K) ix_tupF (pvF 4) (pvF 2) (fun _ _ => rfl))))), ?_⟩
  walk_at "rd"
  exact ⟨_, h2, _, ix1, _, rfl, _, h1, _, h3, _, rfl, _, h4, rfl, _, _, rfl, _, _, rfl, rfl, _, rfl, _, h5, _, h6, q⟩
theorem ok_two_done (T : Txt P w K mg C_Places C_Machine D_ROW_SIGNS) (h_two_told : Has P w K mg base 2 "two_told" ["sign", "a", "b"] (sp_two_told K)) (h_behind : Has P w K mg base 1 "behind" ["frame", "many", "value"] (sp_behind K)) : Has P w K mg base 3 "two_done" ["sign", "frame"] (sp_two_done K) := by
  refine Has.of T.f_two_done sc_two_done (fun _ _ _ _ _ _ us hl => el2 us hl fun _ _ => rfl) (fun vs H Q E h => ?_) (fun f cdv A outer s H vs Q E hr h => ?_)
  · obtain ⟨sg, a, F, st, x, y, r, rfl, _⟩ := h
    rfl
  obtain ⟨sg, a, F, st, x, y, r, rfl, hF, hst, hl, ht, q1, q2⟩ := h
  refine ⟨_, (pss_cons (ps_set (i := 2) sc_two_done.nd rfl (Or.inl rfl) (pe_ix (r := rIxTF K) ix_tupF (pvF 1) pe_int (fun _ _ => rfl)))
    (pss_cons (ps_set (i := 3) sc_two_done.nd rfl (Or.inl rfl) (pe_has h_two_told hr (by decide) rfl (pa_cons (pvF 0) (pa_cons (pe_ix (r := rIxTF K) ix_tupF (pvF 2) (pe_un un_neg pe_int) (fun _ _ => rfl)) (pa_cons (pe_ix (r := rIxTF K) ix_tupF (pvF 2) (pe_un un_neg pe_int) (fun _ _ => rfl)) pa_nil)))))
    (pss_cons (ps_if (pt_cmpR op_eq (pe_ix (r := rIxTF K) ix_tupF (pvF 3) pe_int (fun _ _ => rfl)) pe_str (nomark _)) (pss_one (ps_ret (pe_tup (pa_cons (pvF 1) (pa_cons (pvF 3) pa_nil))))) pss_nil)
    (pss_one (ps_ret (pe_tup (pa_cons (pe_has h_behind hr (by decide) rfl (pa_cons (pvF 1) (pa_cons pe_int (pa_cons (pe_ix (r := rIxTF K) ix_tupF (pvF 3) pe_int (fun _ _ => rfl)) pa_nil)))) (pa_cons pe_non pa_nil)))))))), ?_⟩
  walk_at "rd"
  obtain ⟨sa, ta, h1, h2, h3⟩ := hF
  rw [hst] at h3
  refine ⟨_, h1, _, rfl, ta, rfl, _, h3, _, at_m2 st x y, ta, rfl, _, h3, _, at_m1 st x y, sg, x, y, r, rfl, ht, fun p H1 s1 hp => ?_⟩
  rcases ht.shape with ⟨why, e⟩ | ⟨v, e⟩
  · subst e
    refine ⟨p, rfl, _, hp, _, ix0, rfl, ?_⟩
    rw [if_pos rfl]
    exact fun u hu => q1 why u p _ rfl (s1.trans (same_upd hu _)) (hp.same (same_upd hu _)) (SqT.of upd_same)
  · subst e
    refine ⟨p, rfl, _, hp, _, ix0, rfl, ?_⟩
    rw [if_neg (by decide)]
    refine ⟨p, rfl, _, hp, _, ix1, a, 2, v, F, rfl, FrAt.same ⟨sa, ta, h1, h2, by rw [hst]; exact h3⟩ s1, by rw [hst, List.length_append]; show 2 ≤ _ + 2; omega, hl, fun f' H2 s2 hf => ?_⟩
    intro u hu
    refine q2 v u f' _ rfl (s1.trans (s2.trans (same_upd hu _))) (FrAt.same ?_ (same_upd hu _)) (SqT.of upd_same)
    rw [hst, List.length_append] at hf
    have e : List.take (st.length + [x, y].length - 2) (st ++ [x, y]) = st := by
      show List.take (st.length + 2 - 2) _ = _
      rw [Nat.add_sub_cancel, List.take_left']
      rfl
    rw [e] at hf
    exact hf
theorem ok_own (T : Txt P w K mg C_Places C_Machine D_ROW_SIGNS) (h_two_done : Has P w K mg base 3 "two_done" ["sign", "frame"] (sp_two_done K)) (h_behind : Has P w K mg base 1 "behind" ["frame", "many", "value"] (sp_behind K)) (h_field_value : Has P w K mg base 1 "field_value" ["things", "thing", "place"] (sp_field K)) : Has P w K mg base 4 "own_done" ["row", "frame", "things"] (sp_own K) := by
  refine Has.of T.f_own_done sc_own_done (fun _ _ _ _ _ _ us hl => el3 us hl fun _ _ _ => rfl) (fun vs H Q E h => ?_) (fun f cdv A outer s H vs Q E hr h => ?_)
  · obtain ⟨r, a, tl, nm, args, F, rfl, _⟩ := h
    rfl
  obtain ⟨r, a, tl, nm, args, F, rfl, hR, hF, hl, hl2, hc⟩ := h
  refine ⟨_, (pss_cons (ps_asg (pvF 1) (pg_tupF (n := 4) rfl (pgs_consF (pg_name (i := 3) sc_own_done.nd rfl (Or.inl rfl)) (pgs_consF (pg_name (i := 4) sc_own_done.nd rfl (Or.inl rfl)) (pgs_consF (pg_name (i := 5) sc_own_done.nd rfl (Or.inl rfl)) (pgs_consF (pg_name (i := 6) sc_own_done.nd rfl (Or.inl rfl)) pgs_nil))))))
    (pss_cons (ps_set (i := 7) sc_own_done.nd rfl (Or.inl rfl) (pe_ix (r := rIxTF K) ix_tupF (pvF 0) pe_int (fun _ _ => rfl)))
    (pss_cons (ps_if (pt_cmp (pc_min T.d_ROW_SIGNS (pvF 7) (pe_cst T.c_ROW_SIGNS rfl)) (by with_unfolding_all rfl)) (pss_one (ps_ret (pe_has h_two_done hr (by decide) rfl (pa_cons (pe_mget T.d_ROW_SIGNS (pe_cst T.c_ROW_SIGNS rfl) (pvF 7) (fun _ _ => rfl)) (pa_cons (pvF 1) pa_nil))))) pss_nil)
    (pss_cons (ps_if (pt_cmpR op_eq (pvF 7) pe_str (nomark _)) (pss_one (ps_ret (pe_tup (pa_cons (pe_has h_behind hr (by decide) rfl (pa_cons (pvF 1) (pa_cons pe_int (pa_cons (pe_ix (r := rIxTF K) ix_tupF (pvF 0) pe_int (fun _ _ => rfl)) pa_nil)))) (pa_cons pe_non pa_nil))))) pss_nil)
    (pss_cons (ps_if (pt_cmpR op_eq (pvF 7) pe_str (nomark _)) (pss_one (ps_ret (pe_tup (pa_cons (pe_has h_behind hr (by decide) rfl (pa_cons (pvF 1) (pa_cons pe_int (pa_cons (pe_ix (r := rIxTF K) ix_tupF (pvF 5) (pe_ix (r := rIxTF K) ix_tupF (pvF 0) pe_int (fun _ _ => rfl)) (fun _ _ => rfl)) pa_nil)))) (pa_cons pe_non pa_nil))))) pss_nil)
    (pss_cons (ps_if (pt_cmpR op_eq (pvF 7) pe_str (nomark _)) (pss_one (ps_ret (pe_tup (pa_cons (pe_has h_behind hr (by decide) rfl (pa_cons (pvF 1) (pa_cons pe_int (pa_cons (pe_not (pe_ix (r := rIxTF K) ix_tupF (pvF 6) (pe_un un_neg pe_int) (fun _ _ => rfl))) pa_nil)))) (pa_cons pe_non pa_nil))))) pss_nil)
    (pss_cons (ps_if (pt_cmpR op_eq (pvF 7) pe_str (nomark _)) (pss_one (ps_ret (pe_tup (pa_cons (pe_has h_behind hr (by decide) rfl (pa_cons (pvF 1) (pa_cons pe_int (pa_cons (pe_has h_field_value hr (by decide) rfl (pa_cons (pvF 2) (pa_cons (pe_ix (r := rIxTF K) ix_tupF (pvF 6) (pe_un un_neg pe_int) (fun _ _ => rfl)) (pa_cons (pe_ix (r := rIxTF K) ix_tupF (pvF 0) pe_int (fun _ _ => rfl)) pa_nil)))) pa_nil)))) (pa_cons pe_non pa_nil))))) pss_nil)
    (pss_cons (ps_if (pt_cmpR op_eq (pvF 7) pe_str (nomark _)) (pss_cons (ps_set (i := 8) sc_own_done.nd rfl (Or.inl rfl) (pe_op (r := rCatA K) op_catA (pe_op (r := rCatA K) op_catA (pe_slice (r := rSlA K) sl_tupA (pvF 5) po_none (po_some (pe_ix (r := rIxTF K) ix_tupF (pvF 0) pe_int (fun _ _ => rfl)))) (pe_tup (pa_cons (pe_ix (r := rIxTF K) ix_tupF (pvF 6) (pe_un un_neg pe_int) (fun _ _ => rfl)) pa_nil))) (pe_slice (r := rSlA K) sl_tupA (pvF 5) (po_some (pe_op op_add (pe_ix (r := rIxTF K) ix_tupF (pvF 0) pe_int (fun _ _ => rfl)) pe_int)) po_none)))
    (pss_one (ps_ret (pe_tup (pa_cons (pe_tup (pa_cons (pvF 3) (pa_cons (pe_op op_add (pvF 4) pe_int) (pa_cons (pvF 8) (pa_cons (pe_slice (r := rSlA K) sl_tupA (pvF 6) po_none (po_some (pe_un un_neg pe_int))) pa_nil))))) (pa_cons pe_non pa_nil)))))) pss_nil)
    (pss_cons (ps_if (pt_cmpR op_eq (pvF 7) pe_str (nomark _)) (pss_one (ps_ret (pe_tup (pa_cons (pe_tup (pa_cons (pvF 3) (pa_cons (pe_op op_add (pvF 4) pe_int) (pa_cons (pvF 5) (pa_cons (pe_slice (r := rSlA K) sl_tupA (pvF 6) po_none (po_some (pe_un un_neg pe_int))) pa_nil))))) (pa_cons pe_non pa_nil))))) pss_nil)
    (pss_cons (ps_if (pt_cmpR op_eq (pvF 7) pe_str (nomark _)) (pss_one (ps_ret (pe_tup (pa_cons (pe_tup (pa_cons (pvF 3) (pa_cons (pe_op op_add (pe_op op_add (pvF 4) pe_int) (pe_ix (r := rIxTF K) ix_tupF (pvF 0) pe_int (fun _ _ => rfl))) (pa_cons (pvF 5) (pa_cons (pvF 6) pa_nil))))) (pa_cons pe_non pa_nil))))) pss_nil)
    (pss_cons (ps_set (i := 9) sc_own_done.nd rfl (Or.inl rfl) (pe_ifExp (pt_val (pe_ix (r := rIxTF K) ix_tupF (pvF 6) (pe_un un_neg pe_int) (fun _ _ => rfl))) pe_int (pe_ix (r := rIxTF K) ix_tupF (pvF 0) pe_int (fun _ _ => rfl))))
    (pss_one (ps_ret (pe_tup (pa_cons (pe_tup (pa_cons (pvF 3) (pa_cons (pe_op op_add (pe_op op_add (pvF 4) pe_int) (pvF 9)) (pa_cons (pvF 5) (pa_cons (pe_slice (r := rSlA K) sl_tupA (pvF 6) po_none (po_some (pe_un un_neg pe_int))) pa_nil))))) (pa_cons pe_non pa_nil)))))))))))))))), ?_⟩
  refine seq12 fun uz11 huz11 uz10 huz10 uz9 huz9 uz8 huz8 uz7 huz7 uz6 huz6 uz5 huz5 uz4 huz4 uz3 huz3 uz2 huz2 uz1 huz1 => ?_
  walk_at "rd"
  have hF' := hF
  obtain ⟨sa, ta, h1, h2, h3⟩ := hF'
  refine ⟨_, h1, rfl, _, _, rfl, _, _, rfl, _, _, rfl, _, _, rfl, rfl, ?_⟩
  subst huz1
  walk_at "rd"
  refine ⟨_, hR, _, ix0, ?_⟩
  subst huz2
  walk_at "rd"
  refine ⟨.inr nm, rfl, ?_⟩
  rcases hc with ⟨sg, st, x, y, rr, e1, e2, ht, q1, q2⟩ | ⟨F', ho, q⟩
  · have e3 : (valV kv_ROW_SIGNS (.inr nm)).isSome = true := by rw [e1]; rfl
    rw [if_pos e3]
    exact ⟨.inr nm, rfl, _, e1, sg, a, F, st, x, y, rr, rfl, hF, e2, hl, ht, q1, q2⟩
  have go : ∀ {H1 : Hp} {f' : Addr}, Same H H1 → FrAt K H1 f' F' → ∀ p, H1 p = none → Q (.ref p) (upd H1 p (.tup [.ref f', .non])) := fun s1 hf p hp => q _ _ _ (s1.trans (same_upd hp _)) (hf.same (same_upd hp _)) (SqT.of upd_same)
  have fin : ∀ {H1 : Hp} {x y : Addr} {at' : Int}, Same H H1 → at' = F'.at_ → F'.n = F.n → SqT K H1 x F'.sl → SqT K H1 y F'.st → ∀ p, H1 p = none → ∀ p1, upd H1 p (.tup [F.n, .int at', .ref x, .ref y]) p1 = none → Q (.ref p1) (upd (upd H1 p (.tup [F.n, .int at', .ref x, .ref y])) p1 (.tup [.ref p, .non])) := by
    intro H1 x y at' s1 ea en hx hy p hp p1 hp1
    have s2 := same_upd hp (.tup [F.n, .int at', .ref x, .ref y])
    have s3 := same_upd hp1 (.tup [.ref p, .non])
    refine q p1 p _ (s1.trans (s2.trans s3)) ⟨x, y, ?_, hx.same (s2.trans s3), hy.same (s2.trans s3)⟩ (SqT.of upd_same)
    rw [en, ← ea]
    exact SqT.same (SqT.of upd_same) s3
  cases ho with
  | push v =>
    rw [if_neg (by decide)]
    subst huz3
    walk_at "rd"
    refine ⟨_, hR, _, ix1, a, 0, v, F, rfl, hF, Nat.zero_le _, hl, fun p H1 s1 hf => go s1 ?_⟩
    rw [Nat.sub_zero, List.take_length] at hf
    exact hf
  | load i v e =>
    rw [if_neg (by decide)]
    subst huz3
    walk_at "rd"
    subst huz4
    walk_at "rd"
    refine ⟨_, hR, _, ix1, _, rfl, _, h2, _, e, a, 0, v, F, rfl, hF, Nat.zero_le _, hl, fun p H1 s1 hf => go s1 ?_⟩
    rw [Nat.sub_zero, List.take_length] at hf
    exact hf
  | nt b st e =>
    rw [if_neg (by decide)]
    subst huz3
    walk_at "rd"
    subst huz4
    walk_at "rd"
    subst huz5
    walk_at "rd"
    rw [e] at h3
    refine ⟨_, h3, _, atI_last st (.bl b), b, rfl, a, 1, _, F, rfl, hF, by rw [e, List.length_append]; show 1 ≤ _ + 1; omega, hl, fun p H1 s1 hf => go s1 ?_⟩
    rw [e, take_m1] at hf
    exact hf
  | get st th k pl ts ee ia hv inner v e g1 g2 g3 g4 g5 g6 =>
    rw [if_neg (by decide)]
    subst huz3
    walk_at "rd"
    subst huz4
    walk_at "rd"
    subst huz5
    walk_at "rd"
    subst huz6
    walk_at "rd"
    rw [e] at h3
    refine ⟨_, h3, _, atI_last st (.ref th), _, hR, _, ix1, tl, th, pl, k, ts, ee, ia, hv, inner, v, rfl, g1, g2, g3, g4, g5, g6, a, 1, v, F, rfl, hF, by rw [e, List.length_append]; show 1 ≤ _ + 1; omega, hl, fun p H1 s1 hf => go s1 ?_⟩
    rw [e, take_m1] at hf
    exact hf
  | keep i v st e k0 k1 =>
    rw [if_neg (by decide)]
    subst huz3
    walk_at "rd"
    subst huz4
    walk_at "rd"
    subst huz5
    walk_at "rd"
    subst huz6
    walk_at "rd"
    subst huz7
    walk_at "rd"
    rw [e] at h3
    refine ⟨_, hR, _, ix1, _, rfl, sa, _, rfl, h2, fun p1 H1 s1 hp1 => ⟨_, h3.same s1, _, atI_last st v, fun p2 hp2 => ?_⟩⟩
    have s2 := same_upd hp2 (.tup [v])
    rw [cut_to] at hp1
    refine ⟨p1, p2, _, _, rfl, rfl, hp1.same s2, SqT.of upd_same, by rw [List.length_take, sizeLine_eq]; show _ + 1 ≤ _; omega, fun p3 H3 s3 hp3 => ?_⟩
    have s13 := s1.trans (s2.trans s3)
    refine ⟨_, hR.same s13, _, ix1, _, rfl, sa, _, rfl, h2.same s13, fun p4 H4 s4 hp4 => ?_⟩
    rw [show ((i : Int) + 1) = ((i + 1 : Nat) : Int) from rfl, cut_from] at hp4
    refine ⟨p3, p4, _, _, rfl, rfl, hp3.same s4, hp4, by rw [List.length_append, List.length_take, List.length_drop, sizeLine_eq]; show _ + 1 + _ ≤ _; omega, fun p5 H5 s5 hp5 => ⟨ta, _, rfl, h3.same (s13.trans (s4.trans s5)), fun p6 H6 s6 hp6 => ?_⟩⟩
    rw [cut_m1] at hp6
    exact fin (s13.trans (s4.trans (s5.trans s6))) rfl rfl (hp5.same s6) hp6
  | drop v st e =>
    rw [if_neg (by decide)]
    subst huz3
    walk_at "rd"
    subst huz4
    walk_at "rd"
    subst huz5
    walk_at "rd"
    subst huz6
    walk_at "rd"
    subst huz7
    walk_at "rd"
    subst huz8
    walk_at "rd"
    rw [e] at h3
    refine ⟨ta, _, rfl, h3, fun p1 H1 s1 hp1 => ?_⟩
    rw [cut_m1] at hp1
    exact fin s1 rfl rfl (h2.same s1) hp1
  | skip n =>
    rw [if_neg (by decide)]
    subst huz3
    walk_at "rd"
    subst huz4
    walk_at "rd"
    subst huz5
    walk_at "rd"
    subst huz6
    walk_at "rd"
    subst huz7
    walk_at "rd"
    subst huz8
    walk_at "rd"
    subst huz9
    walk_at "rd"
    exact ⟨_, hR, _, ix1, _, rfl, fin (Same.refl H) rfl rfl h2 h3⟩
  | unl n b st e =>
    rw [if_neg (by decide)]
    subst huz3
    walk_at "rd"
    subst huz4
    walk_at "rd"
    subst huz5
    walk_at "rd"
    subst huz6
    walk_at "rd"
    subst huz7
    walk_at "rd"
    subst huz8
    walk_at "rd"
    subst huz9
    walk_at "rd"
    subst huz10
    walk_at "rd"
    rw [e] at h3
    refine ⟨_, h3, _, atI_last st (.bl b), b, rfl, ?_⟩
    cases b with
    | true =>
      rw [if_pos rfl]
      subst huz11
      walk_at "rd"
      refine ⟨ta, _, rfl, h3, fun p1 H1 s1 hp1 => ?_⟩
      rw [cut_m1] at hp1
      exact fin s1 rfl rfl (h2.same s1) hp1
    | false =>
      rw [if_neg (by decide)]
      refine ⟨_, hR, _, ix1, ?_⟩
      subst huz11
      walk_at "rd"
      refine ⟨ta, _, rfl, h3, fun p1 H1 s1 hp1 => ?_⟩
      rw [cut_m1] at hp1
      exact fin s1 rfl rfl (h2.same s1) hp1
theorem ok_entered (T : Txt P w K mg C_Places C_Machine D_ROW_SIGNS) : Has P w K mg base 1 "entered" ["block", "number", "values"] (sp_entered K) := by
  refine Has.of T.f_entered sc_entered (fun _ _ _ _ _ _ us hl => el3 us hl fun _ _ _ => rfl) (fun vs H Q E h => ?_) (fun f cdv A outer s H vs Q E hr h => ?_)
  · obtain ⟨b, va, nv, m, rows, size, xs, rfl, _⟩ := h
    rfl
  obtain ⟨b, va, nv, m, rows, size, xs, rfl, hb, hv, hz, hs, q⟩ := h
  refine ⟨_, (pss_cons (ps_set (i := 3) sc_entered.nd rfl (Or.inl rfl) (pe_callTy call_tuple_of rfl T.z_tuple bt_tuple (pa_cons (pvF 2) pa_nil)))
    (pss_one (ps_ret (pe_tup (pa_cons (pvF 1) (pa_cons pe_int (pa_cons (pe_op (r := rCatA K) op_catA (pvF 3) (pe_op (r := rMulT K) op_mulT (pe_tup (pa_cons pe_non pa_nil)) (pe_op op_sub (pe_ix (r := rIxTF K) ix_tupF (pvF 0) pe_int (fun _ _ => rfl)) (pe_callB call_len_seq rfl T.z_len bt_len (pa_cons (pvF 3) pa_nil))))) (pa_cons (pe_tup pa_nil) pa_nil)))))))), ?_⟩
  walk_at "rd"
  rcases hv with hv | hv
  · refine ⟨xs, .inl ⟨hv, fun l hl p hp => ?_⟩⟩
    have s2 := same_upd hp (.tup [.non])
    have S := (same_upd hl (.tup xs)).trans s2
    have hL : SqT K (upd (upd H l (.tup xs)) p (.tup [.non])) l xs := SqT.of (s2 _ _ upd_same)
    refine ⟨_, hb.same S, _, ix1, _, .inr hL, _, rfl, p, _, [.non], rfl, rfl, SqT.of upd_same, by simp, by omega, by omega, by rw [sizeLine_eq]; show 1 * _ ≤ _; omega, fun p3 H3 s3 hp3 => ?_⟩
    have ek : ((size : Int) - (xs.length : Int)).toNat = size - xs.length := by omega
    rw [ek, rep_flat] at hp3
    refine ⟨l, p3, _, _, rfl, rfl, hL.same s3, hp3, by rw [List.length_replicate, sizeLine_eq]; omega, fun p4 H4 s4 hp4 => ?_⟩
    intro e he p5 hp5
    have s5 := same_upd he (.tup [])
    have s6 := same_upd hp5 (.tup [nv, .int 0, .ref p4, .ref e])
    exact q p5 _ (S.trans (s3.trans (s4.trans (s5.trans s6)))) ⟨p4, e, SqT.of upd_same, hp4.same (s5.trans s6), SqT.same (SqT.of upd_same) s6⟩
  · refine ⟨xs, .inr ⟨hv, fun p hp => ?_⟩⟩
    have S := same_upd hp (.tup [.non])
    have hL := hv.same S
    refine ⟨_, hb.same S, _, ix1, _, .inr hL, _, rfl, p, _, [.non], rfl, rfl, SqT.of upd_same, by simp, by omega, by omega, by rw [sizeLine_eq]; show 1 * _ ≤ _; omega, fun p3 H3 s3 hp3 => ?_⟩
    have ek : ((size : Int) - (xs.length : Int)).toNat = size - xs.length := by omega
    rw [ek, rep_flat] at hp3
    refine ⟨va, p3, _, _, rfl, rfl, hL.same s3, hp3, by rw [List.length_replicate, sizeLine_eq]; omega, fun p4 H4 s4 hp4 => ?_⟩
    intro e he p5 hp5
    have s5 := same_upd he (.tup [])
    have s6 := same_upd hp5 (.tup [nv, .int 0, .ref p4, .ref e])
    exact q p5 _ (S.trans (s3.trans (s4.trans (s5.trans s6)))) ⟨p4, e, SqT.of upd_same, hp4.same (s5.trans s6), SqT.same (SqT.of upd_same) s6⟩
theorem ok_pinit (T : Txt P w K mg C_Places C_Machine D_ROW_SIGNS) : HasM P w K mg base 1 C_Places "__init__" ["self"] (sp_pinit C_Places) := by
  refine HasM.of T.m_Places___init__ sc_Places___init__ (fun _ _ _ _ _ _ us hl => el1 us hl fun _ => rfl) (fun vs H Q E h => ?_) (fun f cdv A outer s H vs Q E hr h => ?_)
  · obtain ⟨x, dx, rfl, _⟩ := h
    rfl
  obtain ⟨x, dx, rfl, hx, q⟩ := h
  refine ⟨_, (pss_one (ps_fldF (pvF 0) pe_dnewK rfl)), ?_⟩
  walk_at "rd"
  exact fun p hp => ⟨C_Places, dx, [], by rw [upd_ne (ne_of_none hx hp)]; exact hx, T.Places.cl, T.n_Places_by_site, by decide, q p hp⟩
theorem ok_told (T : Txt P w K mg C_Places C_Machine D_ROW_SIGNS) : HasM P w K mg base 1 C_Places "told" ["self", "site"] (sp_told C_Places) := by
  refine HasM.of T.m_Places_told sc_Places_told (fun _ _ _ _ _ _ us hl => el2 us hl fun _ _ => rfl) (fun vs H Q E h => ?_) (fun f cdv A outer s H vs Q E hr h => ?_)
  · obtain ⟨x, dx, d, site, hd, n, m, rfl, _⟩ := h
    rfl
  obtain ⟨x, dx, d, site, hd, n, m, rfl, hx, hm, q⟩ := h
  refine ⟨_, (pss_one (ps_ret (pe_callTy call_list_of rfl T.z_list bt_list (pa_cons (pe_dget2 (hu_of hr) (pe_fldF (pvF 0) rfl) (pvF 1) (pe_lst pa_nil) ⟨rfl, rfl, rfl, rfl⟩) pa_nil)))), ?_⟩
  walk_at "rd"
  obtain ⟨kvs, hk, hn, hat⟩ := hm
  refine ⟨C_Places, dx, _, hx, T.Places.cl, T.n_Places_by_site, _, rfl, d, rfl, .inl ⟨kvs, Rd.of hk⟩, fun p hp => ?_⟩
  have s1 := same_upd hp (.lst [])
  refine ⟨_, DGet.k (k := .inl site) (s1 _ _ hk), ?_⟩
  have := hat site
  unfold getP at q
  cases e : m site with
  | none =>
    rw [e] at this q
    rw [show valV kvs (.inl site) = none from this]
    exact ⟨p, rfl, [], .inl (SqL.of upd_same), fun l hl => q l _ (s1.free hl) (s1.trans (same_upd hl _)) ⟨[], upd_same, .nil⟩⟩
  | some ps =>
    rw [e] at this q
    obtain ⟨l0, a, b, rs, c1, c2⟩ := this
    rw [a]
    exact ⟨l0, rfl, rs, .inl (SqL.of (s1 _ _ c1)), fun l hl => q l _ (s1.free hl) (s1.trans (same_upd hl _)) ⟨rs, upd_same, Prs.mono (fun t xs z => (s1.trans (same_upd hl _)) _ _ z) c2⟩⟩
theorem ok_asked (T : Txt P w K mg C_Places C_Machine D_ROW_SIGNS) (h_Places_told : HasM P w K mg base 1 C_Places "told" ["self", "site"] (sp_told C_Places)) : HasM P w K mg base 2 C_Places "asked" ["self", "site", "house"] (sp_asked C_Places) := by
  refine HasM.of T.m_Places_asked sc_Places_asked (fun _ _ _ _ _ _ us hl => el3 us hl fun _ _ _ => rfl) (fun vs H Q E h => ?_) (fun f cdv A outer s H vs Q E hr h => ?_)
  · obtain ⟨x, dx, d, site, house, hd, n, m, rfl, _⟩ := h
    rfl
  obtain ⟨x, dx, d, site, house, hd, n, m, rfl, hx, hm, hh, hn, hl, q0, q1⟩ := h
  refine ⟨_, (pss_cons (ps_set (i := 3) sc_Places_asked.nd rfl (Or.inl rfl) (pe_hasMF (pvF 0) T.Places.cl h_Places_told hr (by decide) (pa_cons (pvF 1) pa_nil)))
    (pss_cons (ps_setcomp1 rfl sc_Places_asked.nd (i := 4) rfl rfl (BlockOk.of (N := ["pair", "house"]) (nl := [none, some 2]) (cl := [("house", s.heap.objs.size + 1)]) rfl (by decide +kernel) (by decide +kernel) rfl (sub1 rfl) (nm := ["house"]) rfl (by decide +kernel) rfl (fun i hi j hj => by
            match i, hi with
            | 0, _ => cases hj
             | 1, _ => cases hj; exact ⟨_, rfl, rfl, rfl, .inl rfl⟩
            )) (pi_list (pvF 3))
          (fun C fp s H => (pg_name (i := 0) (show (["pair", "house"] : List Str).Nodup by decide +kernel) rfl (Or.inl rfl)))
          (fun C fp s H => (pt_cmpR op_eq (pe_ix (r := rIxTF K) ix_tupF (pvF 0) pe_int (fun _ _ => rfl)) (pvF 1) (nomark _))) (fun C fp s H => (pvF 0)))
    (pss_cons (ps_if (pt_cmpR (r := rEqD K) (op_eqD hr.units) (pvF 4) (pe_lst pa_nil) (nomark _)) (pss_one (ps_ret pe_non)) pss_nil)
    (pss_cons (ps_dput (hu_of hr) (pe_fldF (pvF 0) rfl) (pvF 1) (pe_op op_cat (pvF 4) (pe_comp1 rfl (BlockOk.of (N := ["pair", "house"]) (nl := [none, some 2]) (cl := [("house", s.heap.objs.size + 1)]) rfl (by decide +kernel) (by decide +kernel) rfl (sub1 rfl) (nm := ["house"]) rfl (by decide +kernel) rfl (fun i hi j hj => by
            match i, hi with
            | 0, _ => cases hj
             | 1, _ => cases hj; exact ⟨_, rfl, rfl, rfl, .inl rfl⟩
            )) (pi_list (pvF 3))
          (fun C fp s H => (pg_name (i := 0) (show (["pair", "house"] : List Str).Nodup by decide +kernel) rfl (Or.inl rfl)))
          (fun C fp s H => (pt_cmpR op_ne (pe_ix (r := rIxTF K) ix_tupF (pvF 0) pe_int (fun _ _ => rfl)) (pvF 1) (nomark _))) (fun C fp s H => (pvF 0)))) rfl)
    (pss_one (ps_ret (pe_ix (r := rIxTF K) ix_tupF (pe_ix (r := rIxLF K) ix_listF (pvF 4) pe_int (fun _ _ => rfl)) pe_int (fun _ _ => rfl)))))))), ?_⟩
  walk_at "rd"
  refine ⟨dx, _, hx, rfl, x, dx, d, site, hd, n, m, rfl, hx, hm, fun l H1 hl1 s1 hq => ?_⟩
  obtain ⟨rs, hr1, hr2⟩ := hq
  have lr : rs.length = (getP m site).length := Paired.length hr2
  have lz : rs.length ≤ sizeLine := by rw [lr, sizeLine_eq]; omega
  refine ⟨l, rfl, ⟨_, SqL.of hr1⟩, fun D hD => ?_⟩
  refine comp_pairs [some (.int house)] (fun p => decide (p.1 = house)) none rfl (SqL.of hr1) hD hr2 lz (fun t p l' K' ht k => ?_) fun fs hf => ?_
  · walk_at "rd"
    exact ⟨_, SqT.of ht, _, ix0, rfl, by simpa using k⟩
  have s2 := s1.trans (same_upd hD (.lst fs))
  have hfD : SqP (upd H1 D (.lst fs)) D (seen (getP m site) house) := ⟨_, upd_same, hf⟩
  have hr1' := (same_upd hD (.lst fs)) _ _ hr1
  have hr2' := Prs.mono (fun t xs z => (same_upd hD (.lst fs)) _ _ z) hr2
  generalize upd H1 D (.lst fs) = H2 at *
  intro p hp
  have s3 := same_upd hp (.lst [])
  refine ⟨_, (hfD.same s3).rd, _, .lst (SqL.of upd_same) .nil, shaped_dP _, by decide +kernel, ?_⟩
  rw [eqv_dP_nil]
  cases e : seen (getP m site) house with
  | nil => exact iteT (q0 e _ (s2.trans s3))
  | cons p0 r0 =>
    refine iteF ?_
    obtain ⟨fs', hfl, hfp⟩ := hfD
    refine ⟨l, rfl, ⟨_, SqL.of (s3 _ _ hr1')⟩, fun D2 hD2 => ?_⟩
    refine comp_pairs [some (.int house)] (fun p => !decide (p.1 = house)) none rfl (SqL.of (s3 _ _ hr1')) hD2 (Prs.mono (fun t xs z => s3 _ _ z) hr2') lz (fun t p l' K' ht k => ?_) fun gs hg => ?_
    · walk_at "rd"
      exact ⟨_, SqT.of ht, _, ix0, rfl, by simpa using k⟩
    have s4 := same_upd hD2 (.lst gs)
    have lf : fs'.length ≤ 2 := by
      rw [Paired.length hfp]
      exact Nat.le_trans (List.length_filter_le _ _) hl
    have lg : gs.length ≤ 2 := by
      rw [Paired.length hg]
      exact Nat.le_trans (List.length_filter_le _ _) hl
    refine ⟨D, rfl, D2, rfl, _, s4 _ _ (s3 _ _ hfl), _, upd_same, by omega, fun p2 hp2 => ?_⟩
    have s5 := same_upd hp2 (.lst (fs' ++ gs))
    have S4 := (s2.trans s3).trans s4
    have S := S4.trans s5
    obtain ⟨kvs, k1, k2, k3⟩ := hm.same S
    have hD5 := ((s3.trans s4).trans s5) _ _ hfl
    have hfp5 := Prs.mono (fun t xs z => ((s3.trans s4).trans s5) _ _ z) hfp
    have hg5 := Prs.mono (fun t xs z => s5 _ _ z) hg
    have np : ¬ hd p2 := fun z => by
      obtain ⟨oh, eh⟩ := Option.ne_none_iff_exists'.mp (hh _ z)
      exact ne_of_none (S4 _ _ eh) hp2 rfl
    have h5 : upd (upd (upd H2 p (.lst [])) D2 (.lst gs)) p2 (.lst (fs' ++ gs)) p2 = some (.lst (fs' ++ gs)) := upd_same
    generalize upd (upd (upd H2 p (.lst [])) D2 (.lst gs)) p2 (.lst (fs' ++ gs)) = H5 at *
    have rp := Rep.put (k := site) k1 k2 k3 np ⟨_, h5, Paired.appendP hfp5 hg5⟩
    have nD : D ≠ d := ne_of hD5 k1 (fun z => by cases z)
    rw [e] at hfp5
    cases hfp5 with
    | cons hv0 hrest =>
      obtain ⟨t0, rfl, ht0⟩ := hv0
      have nt : t0 ≠ d := ne_of ht0 k1 (fun z => by cases z)
      refine ⟨C_Places, dx, _, S _ _ hx, T.Places.cl, T.n_Places_by_site, _, rfl, d, rfl, _, DPut.k (k := .inl site) k1 (Nat.lt_of_le_of_lt k2 (Nat.lt_trans hn (by rw [sizeLine_eq]; decide))), D, rfl, _, SqL.of (by rw [upd_ne nD]; exact hD5), _, ix0, t0, rfl, _, SqT.of (by rw [upd_ne nt]; exact ht0), _, ix1, ?_⟩
      exact q1 p0 r0 e _ ((Same.x S d).trans (sameX_upd _)) rp
theorem ok_put (T : Txt P w K mg C_Places C_Machine D_ROW_SIGNS) (h_Places_told : HasM P w K mg base 1 C_Places "told" ["self", "site"] (sp_told C_Places)) : HasM P w K mg base 2 C_Places "put" ["self", "site", "house", "block"] (sp_put C_Places) := by
  refine HasM.of T.m_Places_put sc_Places_put (fun _ _ _ _ _ _ us hl => el4 us hl fun _ _ _ _ => rfl) (fun vs H Q E h => ?_) (fun f cdv A outer s H vs Q E hr h => ?_)
  · obtain ⟨x, dx, d, site, house, block, hd, n, m, rfl, _⟩ := h
    rfl
  obtain ⟨x, dx, d, site, house, block, hd, n, m, rfl, hx, hm, hh, hn, hl, q⟩ := h
  refine ⟨_, (pss_one (ps_dput (hu_of hr) (pe_fldF (pvF 0) rfl) (pvF 1) (pe_slice (r := rSlL K) sl_list (pe_op op_cat (pe_lst (pa_cons (pe_tup (pa_cons (pvF 2) (pa_cons (pvF 3) pa_nil))) pa_nil)) (pe_hasMF (pvF 0) T.Places.cl h_Places_told hr (by decide) (pa_cons (pvF 1) pa_nil))) po_none (po_some (pe_cst T.c_MOST_PAIRS rfl))) rfl)), ?_⟩
  walk_at "rd"
  intro p hp t ht
  have S1 := same_upd hp (.tup [.int house, .int block])
  have S2 := same_upd ht (.lst [.ref p])
  have S12 := S1.trans S2
  refine ⟨dx, _, S12 _ _ hx, rfl, x, dx, d, site, hd, n, m, rfl, S12 _ _ hx, hm.same S12, fun l H2 hl2 s2 hq => ?_⟩
  obtain ⟨rs, hr1, hr2⟩ := hq
  have lr : rs.length = (getP m site).length := Paired.length hr2
  refine ⟨l, rfl, _, s2 _ _ upd_same, _, hr1, by rw [lr]; show 1 + _ ≤ _; omega, fun u hu => ⟨_, SqL.of upd_same, fun v hv => ?_⟩⟩
  have S3 := same_upd hu (.lst ([.ref p] ++ rs))
  have S4 := same_upd hv (.lst (cutV ([.ref p] ++ rs) none (some 2)))
  have S23 := (S12.trans s2).trans S3
  have S := S23.trans S4
  obtain ⟨kvs, k1, k2, k3⟩ := hm.same S
  refine ⟨C_Places, dx, _, S _ _ hx, T.Places.cl, T.n_Places_by_site, _, rfl, d, rfl, _, DPut.k (k := .inl site) k1 (Nat.lt_of_le_of_lt k2 (Nat.lt_trans hn (by rw [sizeLine_eq]; decide))), q _ ((Same.x S d).trans (sameX_upd _)) ?_⟩
  have hp4 := (((S2.trans s2).trans S3).trans S4) _ _ (upd_same (H := H) (a := p) (o := .tup [.int house, .int block]))
  have hr4 := Prs.mono (fun t xs z => (S3.trans S4) _ _ z) hr2
  refine Rep.put k1 k2 k3 (fun z => by obtain ⟨oh, eh⟩ := Option.ne_none_iff_exists'.mp (hh _ z); exact ne_of_none (S23 _ _ eh) hv rfl) ⟨_, upd_same, ?_⟩
  generalize upd (upd H2 u (.lst ([.ref p] ++ rs))) v (.lst (cutV ([.ref p] ++ rs) none (some 2))) = H4 at hp4 hr4 ⊢
  rw [cut2]
  exact Paired.takeP 2 (.cons ⟨p, rfl, hp4⟩ hr4)end
end K63
end

section
set_option Elab.async false
set_option linter.all false
set_option maxRecDepth 100000
set_option maxHeartbeats 4000000
set_option pp.deepTerms true
set_option format.width 200
namespace K63
open PySem L2 MM
open Mach (AV AFr Row Sg Blk MS PL Mem getP updM seen others Bd)
seal L2.PE L2.PA L2.PT L2.PS L2.PSs L2.PG L2.PGs L2.PI L2.PW
section
variable (CM CP : Addr) (K : PySem.W.Frag)
inductive Sp_up (vs : List V) (H : Hp) (Q : VK) : Prop
  | mk (a : Addr) (m : Nat) (F : Fr) (a1 : vs = [.ref a, .int m]) (a2 : FrAt K H a F) (a3 : m ≤ F.st.length) (a4 : F.st.length < 100000) (a5 : ∀ p H', Same H H' → SqT K H' p (F.st.drop (F.st.length - m)) → Q (.ref p) H') : Sp_up vs H Q
def sp_up : Sp := fun vs H Q _ => Sp_up K vs H Q
inductive Sp_end (vs : List V) (H : Hp) (Q : VK) : Prop
  | mk (ex : Addr → Prop) (o : MO) (P : Mach.Prog) (s : MS) (a : Addr) (e : Mach.End) (a1 : vs = [.ref o.x, .ref a]) (a2 : MAt CM CP K ex o P s H) (a3 : EndIs K H a e) (a4 : ∀ q H', Keep ex H H' → MAt CM CP K ex { o with sk := q } P (Mach.ends s e) H' → Q .non H') : Sp_end vs H Q
def sp_end : Sp := fun vs H Q _ => Sp_end CM CP K vs H Q
def endV (s : MS) : AV → Option Mach.End
  | .th k => (s.made[k]?).map fun t => .thing t.1
  | v => some (.val v)
inductive Sp_tolda (vs : List V) (H : Hp) (Q : VK) : Prop
  | mk (ex : Addr → Prop) (o : MO) (P : Mach.Prog) (s : MS) (v : V) (x : AV) (e : Mach.End) (a1 : vs = [.ref o.x, v]) (a2 : MAt CM CP K ex o P s H) (a3 : AtV K H v x) (a4 : (∀ t ∈ s.made, t.1 < 1000000)) (a5 : endV s x = some e) (a6 : ∀ a H', Same H H' → EndIs K H' a e → Q (.ref a) H') : Sp_tolda vs H Q
def sp_tolda : Sp := fun vs H Q _ => Sp_tolda CM CP K vs H Q
def Does (ex : Addr → Prop) (o : MO) (P : Mach.Prog) (H : Hp) (s' : MS) (v : V) (Q : VK) : Prop := ∀ o' H', o'.x = o.x → Keep ex H H' → MAt CM CP K ex o' P s' H' → Q v H'
structure Top (H : Hp) (o : MO) (P : Mach.Prog) (n : Nat) (s : MS) (a : Addr) (f : AFr) (fs : List AFr) : Prop where
  fr : s.frames = f :: fs
  at_ : FrIs K H a f
  sz : Mach.Sz n s
  psz : Mach.PSz P
  nn : n < 90000
inductive Sp_goback (vs : List V) (H : Hp) (Q : VK) : Prop
  | mk (ex : Addr → Prop) (o : MO) (P : Mach.Prog) (s : MS) (a : Addr) (n : Nat) (f : AFr) (fs : List AFr) (s' : MS) (a1 : vs = [.ref o.x, .ref a]) (a2 : MAt CM CP K ex o P s H) (a3 : Top K H o P n s a f fs) (a4 : Mach.rowM P s f fs .back = some s') (a5 : Does CM CP K ex o P H s' .non Q) : Sp_goback vs H Q
def sp_goback : Sp := fun vs H Q _ => Sp_goback CM CP K vs H Q
inductive Sp_menter (vs : List V) (H : Hp) (Q : VK) : Prop
  | mk (ex : Addr → Prop) (o : MO) (P : Mach.Prog) (s : MS) (a : Addr) (block many n : Nat) (f : AFr) (fs : List AFr) (s' : MS) (a1 : vs = [.ref o.x, .int block, .int many, .ref a]) (a2 : MAt CM CP K ex o P s H) (a3 : Top K H o P n s a f fs) (a4 : Mach.enter P s f fs block many = some s') (a5 : Does CM CP K ex o P H s' .non Q) : Sp_menter vs H Q
def sp_menter : Sp := fun vs H Q _ => Sp_menter CM CP K vs H Q
inductive Sp_foundb (vs : List V) (H : Hp) (Q : VK) : Prop
  | mk (ex : Addr → Prop) (o : MO) (P : Mach.Prog) (s : MS) (a : Addr) (site word many n k : Nat) (f : AFr) (fs : List AFr) (rest : List AV) (t : Nat × List AV) (b : Nat) (s' : MS) (a1 : vs = [.ref o.x, .int site, .int word, .int many, .ref a]) (a2 : MAt CM CP K ex o P s H) (a3 : Top K H o P n s a f fs) (a4 : (f.st.take many).reverse = .th k :: rest) (a5 : many ≤ f.st.length) (a6 : s.made[k]? = some t) (a7 : Mach.found P s t.1 site word = some (b, s')) (a8 : ∀ H', Keep ex H H' → MAt CM CP K ex o P s' H' → Q (.int b) H') : Sp_foundb vs H Q
def sp_foundb : Sp := fun vs H Q _ => Sp_foundb CM CP K vs H Q
inductive Sp_setf (vs : List V) (H : Hp) (Q : VK) : Prop
  | mk (ex : Addr → Prop) (o : MO) (P : Mach.Prog) (s : MS) (a : Addr) (pl n : Nat) (f : AFr) (fs : List AFr) (s' : MS) (a1 : vs = [.ref o.x, .int pl, .ref a]) (a2 : MAt CM CP K ex o P s H) (a3 : Top K H o P n s a f fs) (a4 : Mach.rowM P s f fs (.put pl) = some s') (a5 : Does CM CP K ex o P H s' .non Q) : Sp_setf vs H Q
def sp_setf : Sp := fun vs H Q _ => Sp_setf CM CP K vs H Q
inductive Sp_mmake (vs : List V) (H : Hp) (Q : VK) : Prop
  | mk (ex : Addr → Prop) (o : MO) (P : Mach.Prog) (s : MS) (a : Addr) (h m n : Nat) (f : AFr) (fs : List AFr) (s' : MS) (a1 : vs = [.ref o.x, .int h, .int m, .ref a]) (a2 : MAt CM CP K ex o P s H) (a3 : Top K H o P n s a f fs) (a4 : Mach.rowM P s f fs (.make h m) = some s') (a5 : Does CM CP K ex o P H s' .non Q) : Sp_mmake vs H Q
def sp_mmake : Sp := fun vs H Q _ => Sp_mmake CM CP K vs H Q
def isOwn : Row → Bool
  | .make _ _ => false
  | .put _ => false
  | .call _ _ _ => false
  | .straight _ _ => false
  | .back => false
  | _ => true
inductive Sp_doown (vs : List V) (H : Hp) (Q : VK) : Prop
  | mk (ex : Addr → Prop) (o : MO) (P : Mach.Prog) (s : MS) (r a : Addr) (row : Row) (n : Nat) (f : AFr) (fs : List AFr) (s' : MS) (a1 : vs = [.ref o.x, .ref r, .ref a]) (a2 : MAt CM CP K ex o P s H) (a3 : Top K H o P n s a f fs) (a4 : RowAt K H r row) (a5 : isOwn row = true) (a6 : Mach.rowM P s f fs row = some s') (a7 : Does CM CP K ex o P H s' .non Q) : Sp_doown vs H Q
def sp_doown : Sp := fun vs H Q _ => Sp_doown CM CP K vs H Q
inductive Sp_mstep (vs : List V) (H : Hp) (Q : VK) : Prop
  | mk (ex : Addr → Prop) (o : MO) (P : Mach.Prog) (s : MS) (a1 : vs = [.ref o.x]) (a2 : MAt CM CP K ex o P s H) (a3 : ((s.ended ≠ none ∧ Q (.bl false) H) ∨ ∃ n s', Mach.step P s = some s' ∧ Mach.Sz n s ∧ Mach.PSz P ∧ n < 80000 ∧ Does CM CP K ex o P H s' (.bl true) Q)) : Sp_mstep vs H Q
def sp_mstep : Sp := fun vs H Q _ => Sp_mstep CM CP K vs H Q
inductive Sp_num (g : MS → Nat) (vs : List V) (H : Hp) (Q : VK) : Prop
  | mk (ex : Addr → Prop) (o : MO) (P : Mach.Prog) (s : MS) (a1 : vs = [.ref o.x]) (a2 : MAt CM CP K ex o P s H) (a3 : Q (.int (g s)) H) : Sp_num g vs H Q
def sp_num (g : MS → Nat) : Sp := fun vs H Q _ => Sp_num CM CP K g vs H Q
inductive Sp_answer (vs : List V) (H : Hp) (Q : VK) : Prop
  | mk (ex : Addr → Prop) (o : MO) (P : Mach.Prog) (s : MS) (a1 : vs = [.ref o.x]) (a2 : MAt CM CP K ex o P s H) (a3 : ∀ e, EndAt K H e s.ended → Q e H) : Sp_answer vs H Q
def sp_answer : Sp := fun vs H Q _ => Sp_answer CM CP K vs H Q
inductive Sp_frames (vs : List V) (H : Hp) (Q : VK) : Prop
  | mk (ex : Addr → Prop) (o : MO) (P : Mach.Prog) (s : MS) (a1 : vs = [.ref o.x]) (a2 : MAt CM CP K ex o P s H) (a3 : ∀ l ss, H l = none → Paired (FrV K H) ss s.frames.reverse → Q (.ref l) (upd H l (.lst ss))) : Sp_frames vs H Q
def sp_frames : Sp := fun vs H Q _ => Sp_frames CM CP K vs H Q
end
theorem kit_bool_tuple {K : PySem.W.Frag} : PySem.W.kitOne K (.type "bool") (.type "tuple") = some false := by with_unfolding_all rfl
theorem kit_int_tuple {K : PySem.W.Frag} : PySem.W.kitOne K (.type "int") (.type "tuple") = some false := by with_unfolding_all rfl
theorem kit_non_tuple {K : PySem.W.Frag} : PySem.W.kitOne K (.type "NoneType") (.type "tuple") = some false := by with_unfolding_all rfl
theorem back_nil {P : Mach.Prog} {s s2 : MS} {f : AFr} {v : AV} {st : List AV} (h : Mach.rowM P s f [] .back = some s2) (e : f.st = v :: st) : ∃ x, endV s v = some x ∧ s2 = Mach.ends s x := by
  simp only [Mach.rowM, e] at h
  cases v with
  | th k =>
    simp only at h
    obtain ⟨t, ht, rfl⟩ := Option.map_eq_some_iff.mp h
    exact ⟨.thing t.1, by show (s.made[k]?).map _ = _; rw [ht]; rfl, rfl⟩
  | non => cases h; exact ⟨_, rfl, rfl⟩
  | bl b => cases h; exact ⟨_, rfl, rfl⟩
  | int i => cases h; exact ⟨_, rfl, rfl⟩
theorem back_cons {P : Mach.Prog} {s s2 : MS} {f g : AFr} {fs : List AFr} {v : AV} {st : List AV} (h : Mach.rowM P s f (g :: fs) .back = some s2) (e : f.st = v :: st) : s2 = { s with frames := { g with st := v :: g.st } :: fs } := by
  simp only [Mach.rowM, e] at h
  cases h; rfl
theorem back_st {P : Mach.Prog} {s s2 : MS} {f : AFr} {fs : List AFr} (h : Mach.rowM P s f fs .back = some s2) : ∃ v st, f.st = v :: st := by
  cases e : f.st with
  | nil => simp only [Mach.rowM, e] at h; cases h
  | cons v st => exact ⟨v, st, rfl⟩
section
variable {C_Places C_Machine D_ROW_SIGNS : Addr} {P : Program} {w : World} {K : PySem.W.Frag} {mg : Str → Option Value} {base : Heap}
theorem ok_up (T : Txt P w K mg C_Places C_Machine D_ROW_SIGNS) : Has P w K mg base 1 "uppermost" ["frame", "many"] (sp_up K) := by
  refine Has.of T.f_uppermost sc_uppermost (fun _ _ _ _ _ _ us hl => el2 us hl fun _ _ => rfl) (fun vs H Q E h => ?_) (fun f cdv A outer s H vs Q E hr h => ?_)
  · obtain ⟨a, m, F, rfl, _⟩ := h
    rfl
  obtain ⟨a, m, F, rfl, hF, hm, hl, q⟩ := h
  refine ⟨_, (pss_cons (ps_set (i := 2) sc_uppermost.nd rfl (Or.inl rfl) (pe_ix (r := rIxTF K) ix_tupF (pvF 0) pe_int (fun _ _ => rfl)))
    (pss_one (ps_ret (pe_slice (r := rSlA K) sl_tupA (pvF 2) (po_some (pe_op op_sub (pe_callB call_len_seq rfl T.z_len bt_len (pa_cons (pvF 2) pa_nil)) (pvF 1))) po_none)))), ?_⟩
  walk_at "rd"
  obtain ⟨sa, ta, h1, h2, h3⟩ := hF
  refine ⟨_, h1, _, ix3, ta, rfl, _, .inr h3, ta, _, rfl, h3, fun p H' s' hp => q p H' s' ?_⟩
  rw [show ((F.st.length : Int) - (m : Int)) = ((F.st.length - m : Nat) : Int) by omega, cut_from] at hp
  exact hp
theorem ok_end (T : Txt P w K mg C_Places C_Machine D_ROW_SIGNS) : HasM P w K mg base 1 C_Machine "end" ["self", "told"] (sp_end C_Machine C_Places K) := by
  refine HasM.of T.m_Machine_end sc_Machine_end (fun _ _ _ _ _ _ us hl => el2 us hl fun _ _ => rfl) (fun vs H Q E h => ?_) (fun f cdv A outer s H vs Q E hr h => ?_)
  · obtain ⟨ex, o, P, s, a, e, rfl, _⟩ := h
    rfl
  obtain ⟨ex, o, P', s', a, e, rfl, M, he, q⟩ := h
  refine ⟨_, (pss_cons (ps_fldF (pvF 0) (pvF 1) rfl)
    (pss_one (ps_fldF (pvF 0) (pe_lst pa_nil) rfl))), ?_⟩
  walk_at "rd"
  obtain ⟨e0, hx, he0⟩ := M.ins
  refine ⟨C_Machine, o.dx, _, hx, T.Machine.cl, T.n_Machine_ended, fs_len, fun p hp => ?_⟩
  rw [pf_ended] at hp ⊢
  obtain ⟨M1, k1⟩ := M.ends he hp
  have nx : o.x ≠ p := ne_of_none upd_same hp
  refine ⟨C_Machine, o.dx, _, (by rw [upd_ne nx]; exact upd_same), T.Machine.cl, T.n_Machine_stacked, fs_len, ?_⟩
  rw [pf_stacked]
  exact q p _ k1 M1
theorem ok_tolda (T : Txt P w K mg C_Places C_Machine D_ROW_SIGNS) : HasM P w K mg base 1 C_Machine "told_answer" ["self", "value"] (sp_tolda C_Machine C_Places K) := by
  refine HasM.of T.m_Machine_told_answer sc_Machine_told_answer (fun _ _ _ _ _ _ us hl => el2 us hl fun _ _ => rfl) (fun vs H Q E h => ?_) (fun f cdv A outer s H vs Q E hr h => ?_)
  · obtain ⟨ex, o, P, s, v, x, e, rfl, _⟩ := h
    rfl
  obtain ⟨ex, o, P', s', v, x, e, rfl, M, hv, hm, he, q⟩ := h
  refine ⟨_, (pss_cons (ps_if (pt_val (pe_callB (r := rIsi K) call_isi rfl T.z_isinstance bt_isinstance (pa_cons (pvF 1) (pa_cons (pe_bltn (v := .ty "tuple") rfl T.z_tuple bt_tuple rfl) pa_nil)))) (pss_one (ps_ret (pe_tup (pa_cons pe_str (pa_cons (pe_ix (r := rIxTF K) ix_tupF (pe_ix (r := rIxLF K) ix_listF (pe_fldF (pvF 0) rfl) (pe_ix (r := rIxTF K) ix_tupF (pvF 1) pe_int (fun _ _ => rfl)) (fun _ _ => rfl)) pe_int (fun _ _ => rfl)) pa_nil))))) pss_nil)
    (pss_one (ps_ret (pe_tup (pa_cons pe_str (pa_cons (pvF 1) pa_nil)))))), ?_⟩
  walk_at "rd"
  have val : ∀ {A : Prop} {v : V} {x : AV}, AtV K H v x → e = .val x → (if false = true then A else ∀ (p : Addr), H p = none → Q (V.ref p) (upd H p (HO.tup [V.str "value", v]))) := fun hv e1 => by
    subst e1
    rw [if_neg (by decide)]
    exact fun p hp => q p _ (same_upd hp _) ⟨_, SqT.of upd_same, AtV.t hv (Same.t (same_upd hp _))⟩
  cases x with
  | non => cases he; have hv' := hv; obtain rfl : v = .non := hv; exact ⟨_, _, _, _, _, rfl, rfl, .non, kit_non_tuple, false, rfl, val hv' rfl⟩
  | bl b => cases he; have hv' := hv; obtain rfl : v = .bl b := hv; exact ⟨_, _, _, _, _, rfl, rfl, .bl b, kit_bool_tuple, false, rfl, val hv' rfl⟩
  | int i => cases he; have hv' := hv; obtain ⟨rfl, _⟩ := hv; exact ⟨_, _, _, _, _, rfl, rfl, .int i, kit_int_tuple, false, rfl, val hv' rfl⟩
  | th k =>
    obtain ⟨t, rfl, ht, hk⟩ := hv
    obtain ⟨tt, htt, rfl⟩ := Option.map_eq_some_iff.mp he
    obtain ⟨e0, hx, he0⟩ := M.ins
    obtain ⟨ms, m1, m2⟩ := M.mad
    obtain ⟨y, hy, e1, ia, inner, rfl, q1, q2, q3⟩ := Pd.at m2 htt
    refine isi_tup ht ⟨true, rfl, ?_⟩
    rw [if_pos rfl]
    exact ⟨C_Machine, o.dx, _, hx, T.Machine.cl, T.n_Machine_made, _, lk_made, t, rfl, _, SqT.of ht, _, ix1, o.md, rfl, k, rfl, ms, SqL.of m1, _, atI_nat hy, e1, rfl, _, q1, _, ix0, fun p hp => q p _ (same_upd hp _) ⟨SqT.of upd_same, hm tt (List.mem_of_getElem? htt)⟩⟩
theorem ok_goback (T : Txt P w K mg C_Places C_Machine D_ROW_SIGNS) (h_Machine_told_answer : HasM P w K mg base 1 C_Machine "told_answer" ["self", "value"] (sp_tolda C_Machine C_Places K)) (h_Machine_end : HasM P w K mg base 1 C_Machine "end" ["self", "told"] (sp_end C_Machine C_Places K)) : HasM P w K mg base 2 C_Machine "go_back" ["self", "frame"] (sp_goback C_Machine C_Places K) := by
  refine HasM.of T.m_Machine_go_back sc_Machine_go_back (fun _ _ _ _ _ _ us hl => el2 us hl fun _ _ => rfl) (fun vs H Q E h => ?_) (fun f cdv A outer s H vs Q E hr h => ?_)
  · obtain ⟨ex, o, P, s, a, n, f, fs, s', rfl, _⟩ := h
    rfl
  obtain ⟨ex, o, P', s', a, n, fr, fs, s2, rfl, M, top, hrow, q⟩ := h
  refine ⟨_, (pss_cons (ps_set (i := 2) sc_Machine_go_back.nd rfl (Or.inl rfl) (pe_ix (r := rIxTF K) ix_tupF (pe_ix (r := rIxTF K) ix_tupF (pvF 1) pe_int (fun _ _ => rfl)) (pe_un un_neg pe_int) (fun _ _ => rfl)))
    (pss_cons (ps_expr (pe_bm0 PySem.F.plainAttrs_list PySem.F.slot_list_pop PySem.F.type_list_pop mt_pop (pe_fldF (pvF 0) rfl)))
    (pss_one (ps_if (pt_cmpR (r := rEqD K) (op_eqD hr.units) (pe_fldF (pvF 0) rfl) (pe_lst pa_nil) (nomark _)) (pss_one (ps_expr (pe_hasMF (pvF 0) T.Machine.cl h_Machine_end hr (by decide) (pa_cons (pe_hasMF (pvF 0) T.Machine.cl h_Machine_told_answer hr (by decide) (pa_cons (pvF 2) pa_nil)) pa_nil)))) (pss_cons (ps_asg (pe_ix (r := rIxLF K) ix_listF (pe_fldF (pvF 0) rfl) (pe_un un_neg pe_int) (fun _ _ => rfl)) (pg_tupF (n := 4) rfl (pgs_consF (pg_name (i := 3) sc_Machine_go_back.nd rfl (Or.inl rfl)) (pgs_consF (pg_name (i := 4) sc_Machine_go_back.nd rfl (Or.inl rfl)) (pgs_consF (pg_name (i := 5) sc_Machine_go_back.nd rfl (Or.inl rfl)) (pgs_consF (pg_name (i := 6) sc_Machine_go_back.nd rfl (Or.inl rfl)) pgs_nil))))))
    (pss_one (ps_asg (pe_tup (pa_cons (pvF 3) (pa_cons (pvF 4) (pa_cons (pvF 5) (pa_cons (pe_op (r := rCatA K) op_catA (pvF 6) (pe_tup (pa_cons (pvF 2) pa_nil))) pa_nil))))) (pg_sub (pe_fldF (pvF 0) rfl) (pe_un un_neg pe_int) set_listF)))))))), ?_⟩
  refine seq3 fun u2 hu2 u1 hu1 => ?_
  walk_at "rd"
  obtain ⟨ss, a', hsk, hss, hfa⟩ := M.top top.fr
  obtain ⟨e0, hx, he0⟩ := M.ins
  obtain ⟨v, st, hst⟩ := back_st hrow
  obtain ⟨F, sa, ta, h1, h2, h3, e1, e2, hsl, hstk, l1, l2⟩ := top.at_.st
  rw [hst, List.reverse_cons] at hstk
  obtain ⟨sv, vv, esv, hst', hv⟩ := Pd.snoc_inv hstk
  rw [esv] at h3
  refine ⟨_, h1, _, ix3, ta, rfl, _, h3, _, atI_last sv vv, ?_⟩
  subst hu1
  walk_at "rd"
  refine ⟨C_Machine, o.dx, _, hx, T.Machine.cl, T.n_Machine_stacked, _, lk_stacked, .inl ⟨rfl, _, SqL.of hsk⟩, o.sk, rfl, _, hsk, _, by simp; rfl, ?_⟩
  rw [List.dropLast_concat]
  obtain ⟨M1, k1⟩ := M.frames (fr := fs) (ss' := ss) hss
  obtain ⟨e3, hx1, _⟩ := M1.ins
  subst hu2
  walk_at "rd"
  refine ⟨C_Machine, o.dx, _, hx1, T.Machine.cl, T.n_Machine_stacked, _, lk_stacked, fun p hp => ?_⟩
  have sp := same_upd hp (.lst [])
  have M2 := M1.same sp
  obtain ⟨ss2, b1, b2⟩ := M2.stk
  obtain ⟨d, rd, sd, ev⟩ := frs_lay (SqL.of b1) b2
  refine ⟨d, rd, _, nil_rd upd_same, sd, nil_shaped, ?_⟩
  rw [ev]
  have K2 := k1.trans (M1.keepS sp)
  obtain ⟨e4, hx3, _⟩ := M2.ins
  clear sp hp M1 hx1 k1 rd sd ev
  generalize upd (upd H o.sk (.lst ss)) p (.lst []) = H2 at *
  cases fs with
  | nil =>
    refine iteT ?_
    obtain ⟨e, he, rfl⟩ := back_nil hrow hst
    exact ⟨o.dx, _, hx3, rfl, o.dx, _, hx3, rfl, ex, o, P', _, vv, v, e, rfl, M2, AtV.t hv K2.t, fun t ht => by have := top.sz.mi t ht; omega, he, fun a4 H4 s4 he4 => ⟨ex, o, P', _, a4, e, rfl, M2.same s4, he4, fun q' H5 k5 M5 => q { o with sk := q' } _ rfl (K2.trans ((M2.keepS s4).trans k5)) M5⟩⟩
  | cons g gs =>
    have : (g :: gs).reverse.isEmpty = false := by simp
    rw [show ({ s' with frames := g :: gs } : MS).frames.reverse.isEmpty = false from this, if_neg (by decide)]
    obtain ⟨ss3, ag, c1, c2, c3⟩ := M2.top rfl
    obtain ⟨G, sg, tg, g1, g2, g3, g4, g5, g6, g7, g8, g9⟩ := c3.st
    have lg := top.sz.fr g (by rw [top.fr]; exact List.mem_cons_of_mem _ List.mem_cons_self)
    have nn := top.nn
    refine ⟨C_Machine, o.dx, _, hx3, T.Machine.cl, T.n_Machine_stacked, _, lk_stacked, o.sk, rfl, _, SqL.of c1, _, atI_last ss3 _, ag, rfl, _, g1, rfl, _, _, rfl, _, _, rfl, _, _, rfl, _, _, rfl, rfl, fun p hp => ?_⟩
    have s1 := same_upd hp (.tup [vv])
    refine ⟨tg, p, _, _, rfl, rfl, g3.same s1, SqT.of upd_same, by rw [g8, sizeLine_eq]; show _ + 1 ≤ _; omega, fun p3 H3 s3 hp3 p4 hp4 => ?_⟩
    have s4 := same_upd hp4 (.tup [.int g.n, .int g.pc, .ref sg, .ref p3])
    have S := s1.trans (s3.trans s4)
    have M4 := M2.same S
    obtain ⟨e5, hx5, _⟩ := M4.ins
    have c1' := S _ _ c1
    refine ⟨C_Machine, o.dx, _, hx5, T.Machine.cl, T.n_Machine_stacked, _, lk_stacked, o.sk, rfl, _, c1', _, ixN_m1 (by simp), ?_⟩
    rw [set_last]
    have hf : FrV K (upd H3 p4 (.tup [.int g.n, .int g.pc, .ref sg, .ref p3])) (.ref p4) { g with st := v :: g.st } :=
      ⟨p4, rfl, ⟨.int g.n, g.pc, G.sl, G.st ++ [vv]⟩, ⟨sg, p3, SqT.of upd_same, g2.same S, hp3.same s4⟩, rfl, rfl, AtVs.t g6 (Same.t S), by
        show AtVs K _ (G.st ++ [vv]) (v :: g.st).reverse
        rw [List.reverse_cons]
        exact Pd.app (AtVs.t g7 (Same.t S)) (.cons (AtV.t (AtV.t hv K2.t) (Same.t S)) .nil)⟩
    obtain ⟨M5, k5⟩ := M4.frames (fr := { g with st := v :: g.st } :: gs) (ss' := ss3 ++ [.ref p4]) (by
      rw [List.reverse_cons]
      exact Pd.app (Pd.imp (fun _ _ q => FrV.t q (Same.t S)) c2) (.cons hf .nil))
    rw [back_cons hrow hst] at q
    exact q o _ rfl (K2.trans ((M2.keepS S).trans k5)) M5
end
end K63
end

section
set_option Elab.async false
set_option linter.all false
set_option maxRecDepth 100000
set_option maxHeartbeats 4000000
set_option pp.deepTerms true
set_option format.width 200
namespace K63
open PySem L2 MM
open Mach (AV AFr Row Sg Blk MS PL Mem getP updM seen others Bd)
seal L2.PE L2.PA L2.PT L2.PS L2.PSs L2.PG L2.PGs L2.PI L2.PW
section
variable {C_Places C_Machine D_ROW_SIGNS : Addr} {P : Program} {w : World} {K : PySem.W.Frag} {mg : Str → Option Value} {base : Heap}
theorem ok_menter (T : Txt P w K mg C_Places C_Machine D_ROW_SIGNS) (h_Machine_end : HasM P w K mg base 1 C_Machine "end" ["self", "told"] (sp_end C_Machine C_Places K)) (h_uppermost : Has P w K mg base 1 "uppermost" ["frame", "many"] (sp_up K)) (h_entered : Has P w K mg base 1 "entered" ["block", "number", "values"] (sp_entered K)) : HasM P w K mg base 2 C_Machine "enter" ["self", "block", "many", "frame"] (sp_menter C_Machine C_Places K) := by
  refine HasM.of T.m_Machine_enter sc_Machine_enter (fun _ _ _ _ _ _ us hl => el4 us hl fun _ _ _ _ => rfl) (fun vs H Q E h => ?_) (fun f cdv A outer s H vs Q E hr h => ?_)
  · obtain ⟨ex, o, P, s, a, block, many, n, f, fs, s', rfl, _⟩ := h
    rfl
  obtain ⟨ex, o, P', s', a, block, many, n, fr, fs, s2, rfl, M, top, hrow, q⟩ := h
  refine ⟨_, (pss_cons (ps_if (pt_cmpR op_ge (pe_fldF (pvF 0) rfl) (pe_fldF (pvF 0) rfl) (nomark _)) (pss_cons (ps_expr (pe_hasMF (pvF 0) T.Machine.cl h_Machine_end hr (by decide) (pa_cons (pe_tup (pa_cons pe_str pa_nil)) pa_nil)))
    (pss_one ps_retN)) pss_nil)
    (pss_cons (ps_fldaugF (pvF 0) pe_int iop_add)
    (pss_cons (ps_if (pt_cmpR op_gt (pe_callB call_len_seq rfl T.z_len bt_len (pa_cons (pe_fldF (pvF 0) rfl) pa_nil)) (pe_cst T.c_MOST_WITHIN rfl) (nomark _)) (pss_cons (ps_expr (pe_hasMF (pvF 0) T.Machine.cl h_Machine_end hr (by decide) (pa_cons (pe_tup (pa_cons pe_str pa_nil)) pa_nil)))
    (pss_one ps_retN)) pss_nil)
    (pss_cons (ps_asg (pvF 3) (pg_tupF (n := 4) rfl (pgs_consF (pg_name (i := 4) sc_Machine_enter.nd rfl (Or.inl rfl)) (pgs_consF (pg_name (i := 5) sc_Machine_enter.nd rfl (Or.inl rfl)) (pgs_consF (pg_name (i := 6) sc_Machine_enter.nd rfl (Or.inl rfl)) (pgs_consF (pg_name (i := 7) sc_Machine_enter.nd rfl (Or.inl rfl)) pgs_nil))))))
    (pss_cons (ps_asg (pe_tup (pa_cons (pvF 4) (pa_cons (pe_op op_add (pvF 5) pe_int) (pa_cons (pvF 6) (pa_cons (pe_slice (r := rSlA K) sl_tupA (pvF 7) po_none (po_some (pe_op op_sub (pe_callB call_len_seq rfl T.z_len bt_len (pa_cons (pvF 7) pa_nil)) (pvF 2)))) pa_nil))))) (pg_sub (pe_fldF (pvF 0) rfl) (pe_un un_neg pe_int) set_listF))
    (pss_one (ps_expr (pe_bm PySem.F.plainAttrs_list PySem.F.slot_list_append PySem.F.type_list_append mt_append (pe_fldF (pvF 0) rfl) (pa_cons (pe_has h_entered hr (by decide) rfl (pa_cons (pe_ix (r := rIxTF K) ix_tupF (pe_fldF (pvF 0) rfl) (pvF 1) (fun _ _ => rfl)) (pa_cons (pvF 1) (pa_cons (pe_has h_uppermost hr (by decide) rfl (pa_cons (pvF 3) (pa_cons (pvF 2) pa_nil))) pa_nil)))) pa_nil))))))))), ?_⟩
  refine seq6 fun u5 hu5 u4 hu4 u3 hu3 u2 hu2 u1 hu1 => ?_
  walk_at "rd"
  obtain ⟨e0, hx, he0⟩ := M.ins
  refine ⟨C_Machine, o.dx, _, hx, T.Machine.cl, T.n_Machine_call_count, _, lk_calls, C_Machine, o.dx, _, hx, T.Machine.cl, T.n_Machine_most, _, lk_most, _, rfl, _, rfl, ?_⟩
  unfold Mach.enter at hrow
  by_cases hd : P'.most ≤ s'.calls
  · rw [if_pos (show (P'.most : Int) ≤ s'.calls by omega)]
    rw [if_pos hd] at hrow
    cases hrow
    exact ⟨o.dx, _, hx, rfl, fun p hp => ⟨ex, o, P', s', p, .dry, rfl, M.same (same_upd hp _), SqT.of upd_same, fun q' H5 k5 M5 => q { o with sk := q' } _ rfl ((M.keepS (same_upd hp _)).trans k5) M5⟩⟩
  rw [if_neg (show ¬ (P'.most : Int) ≤ s'.calls by omega)]
  rw [if_neg hd] at hrow
  subst hu1
  walk_at "rd"
  refine ⟨C_Machine, o.dx, _, hx, T.Machine.cl, T.n_Machine_call_count, _, lk_calls, _, rfl, o.dx, _, hx, fs_len, ?_⟩
  rw [show ((s'.calls : Int) + 1) = ((s'.calls + 1 : Nat) : Int) from rfl, pf_calls]
  obtain ⟨M1, k1⟩ := M.set (s' := { s' with calls := s'.calls + 1 }) (e := e0) rfl rfl (Nat.le_refl _) rfl he0
  change MAt C_Machine C_Places K ex o P' { s' with calls := s'.calls + 1 } (upd H o.x (.ins C_Machine o.dx (fsM o P' e0 (s'.calls + 1) s'.looks s'.hits s'.rows))) at M1
  change Keep ex H (upd H o.x (.ins C_Machine o.dx (fsM o P' e0 (s'.calls + 1) s'.looks s'.hits s'.rows))) at k1
  generalize upd H o.x (.ins C_Machine o.dx (fsM o P' e0 (s'.calls + 1) s'.looks s'.hits s'.rows)) = H1 at *
  obtain ⟨ss, m1, m2⟩ := M1.stk
  obtain ⟨e1, hx1, he1⟩ := M1.ins
  have ln : ss.length = fs.length + 1 := by rw [Paired.length m2, List.length_reverse]; show s'.frames.length = _; rw [top.fr]; rfl
  subst hu2
  walk_at "rd"
  refine ⟨C_Machine, o.dx, _, hx1, T.Machine.cl, T.n_Machine_stacked, _, lk_stacked, o.sk, rfl, ss, .inl (SqL.of m1), ?_⟩
  by_cases hdp : 40 < fs.length + 1
  · rw [if_pos (show (40 : Int) < ss.length by omega)]
    rw [if_pos hdp] at hrow
    cases hrow
    exact ⟨o.dx, _, hx1, rfl, fun p hp => ⟨ex, o, P', _, p, .deep, rfl, M1.same (same_upd hp _), SqT.of upd_same, fun q' H5 k5 M5 => q { o with sk := q' } _ rfl (k1.trans ((M1.keepS (same_upd hp _)).trans k5)) M5⟩⟩
  rw [if_neg (show ¬ (40 : Int) < ss.length by omega)]
  rw [if_neg hdp] at hrow
  obtain ⟨F, sa, ta, h1, h2, h3, f1, f2, hsl, hstk, l1, l2⟩ := FrIs.st (top.at_.t k1.t)
  have nn := top.nn
  have lf := top.sz.fr' top.fr
  have hm : many ≤ fr.st.length := by
    by_cases hm : many ≤ fr.st.length
    · exact hm
    · rw [if_neg hm] at hrow; cases hrow
  rw [if_pos hm] at hrow
  obtain ⟨b, hb, hrow⟩ := Option.bind_eq_some_iff.mp hrow
  have hbs : many ≤ b.size := by
    by_cases hbs : many ≤ b.size
    · exact hbs
    · rw [if_neg hbs] at hrow; cases hrow
  rw [if_pos hbs] at hrow
  have hrow := Option.some.inj hrow
  subst hrow
  subst hu3
  walk_at "rd"
  refine ⟨_, h1, rfl, _, _, rfl, _, _, rfl, _, _, rfl, _, _, rfl, rfl, ?_⟩
  subst hu4
  walk_at "rd"
  refine ⟨_, .inr h3, ta, _, rfl, h3, fun p1 H2 s2 hp1 p2 hp2 => ?_⟩
  rw [show ((F.st.length : Int) - (many : Int)) = ((F.st.length - many : Nat) : Int) by omega, cut_to] at hp1
  have s3 := same_upd hp2 (.tup [.int fr.n, .int ((fr.pc : Int) + 1), .ref sa, .ref p1])
  have S3 := s2.trans s3
  have M3 := M1.same S3
  obtain ⟨ss3, a3, c1, c2, c3⟩ := M3.top top.fr
  obtain ⟨e3, hx3, _⟩ := M3.ins
  refine ⟨C_Machine, o.dx, _, hx3, T.Machine.cl, T.n_Machine_stacked, _, lk_stacked, o.sk, rfl, _, c1, _, ixN_m1 (by simp), ?_⟩
  rw [set_last]
  have hf3 : FrV K (upd H2 p2 (.tup [.int fr.n, .int ((fr.pc : Int) + 1), .ref sa, .ref p1])) (.ref p2) { fr with pc := fr.pc + 1, st := fr.st.drop many } :=
    ⟨p2, rfl, ⟨.int fr.n, (fr.pc : Int) + 1, F.sl, F.st.take (F.st.length - many)⟩, ⟨sa, p1, SqT.of upd_same, h2.same S3, hp1.same s3⟩, rfl, rfl, AtVs.t hsl (Same.t S3), by
      show AtVs K _ (F.st.take (F.st.length - many)) (fr.st.drop many).reverse
      rw [List.reverse_drop, l1]
      exact Pd.take _ (AtVs.t hstk (Same.t S3))⟩
  obtain ⟨M4, k4⟩ := M3.frames (fr := { fr with pc := fr.pc + 1, st := fr.st.drop many } :: fs) (ss' := ss3 ++ [.ref p2]) (by
    rw [List.reverse_cons]
    exact Pd.app c2 (.cons hf3 .nil))
  have fr4 : FrIs K _ a fr := ((top.at_.t k1.t).t (Same.t S3)).t k4.t
  have K4 := k1.trans ((M1.keepS S3).trans k4)
  have sk4 : upd (upd H2 p2 (.tup [.int fr.n, .int ((fr.pc : Int) + 1), .ref sa, .ref p1])) o.sk (.lst (ss3 ++ [.ref p2])) o.sk = some (.lst (ss3 ++ [.ref p2])) := upd_same
  have pr4 : Paired (FrV K (upd (upd H2 p2 (.tup [.int fr.n, .int ((fr.pc : Int) + 1), .ref sa, .ref p1])) o.sk (.lst (ss3 ++ [.ref p2])))) (ss3 ++ [.ref p2]) (fs.reverse ++ [{ fr with pc := fr.pc + 1, st := fr.st.drop many }]) := Pd.app (Pd.imp (fun _ _ q => FrV.t q k4.t) c2) (.cons (FrV.t hf3 k4.t) .nil)
  clear k4 M3 c1 c2 c3 hx3 hf3 hp1 hp2 s2 s3 S3
  generalize upd (upd H2 p2 (.tup [.int fr.n, .int ((fr.pc : Int) + 1), .ref sa, .ref p1])) o.sk (.lst (ss3 ++ [.ref p2])) = H4 at *
  obtain ⟨e4, hx4, _⟩ := M4.ins
  obtain ⟨bs, B1, B2⟩ := M4.pr.bl
  obtain ⟨bv, hbv, ba, ra, rs, rfl, B3, B4, B5⟩ := Pd.at B2 hb
  have bsz := top.psz.bk b (List.mem_of_getElem? hb)
  obtain ⟨F4, g1, g2, g3, g4, g5⟩ := fr4
  have lF4 : F4.st.length = fr.st.length := by rw [Paired.length g5, List.length_reverse]
  subst hu5
  walk_at "rd"
  refine ⟨C_Machine, o.dx, _, hx4, T.Machine.cl, T.n_Machine_stacked, _, lk_stacked, .inl ⟨rfl, _, SqL.of sk4⟩, C_Machine, o.dx, _, hx4, T.Machine.cl, T.n_Machine_blocks, _, lk_blocks, o.B, rfl, bs, B1, _, atI_nat hbv, ?_⟩
  refine ⟨a, many, F4, rfl, g1, by omega, by omega, fun pu H5 s5 hpu => ?_⟩
  have lxs : (F4.st.drop (F4.st.length - many)).length = many := by rw [List.length_drop]; omega
  refine ⟨ba, pu, _, _, _, b.size, _, rfl, B3.same s5, .inr hpu, by omega, by omega, fun p6 H6 s6 hf6 => ?_⟩
  have S6 := s5.trans s6
  have M6 := M4.same S6
  refine ⟨o.sk, rfl, _, S6 _ _ sk4, ?_, ?_⟩
  · have := Paired.length pr4
    rw [this, List.length_append, List.length_reverse]
    show fs.length + 1 < _
    omega
  have hf6' : FrV K H6 (.ref p6) ⟨block, 0, (fr.st.take many).reverse ++ List.replicate (b.size - many) .non, []⟩ := by
    refine ⟨p6, rfl, _, hf6, rfl, rfl, ?_, .nil⟩
    show AtVs K H6 (F4.st.drop (F4.st.length - many) ++ List.replicate (b.size - (F4.st.drop (F4.st.length - many)).length) V.non) _
    rw [lxs, List.reverse_take, ← lF4]
    refine Pd.app (Pd.drop _ (AtVs.t g5 (Same.t S6))) ?_
    have : ∀ k, AtVs K H6 (List.replicate k V.non) (List.replicate k AV.non) := fun k => by
      induction k with
      | zero => exact .nil
      | succ k ih => exact .cons rfl ih
    exact this _
  obtain ⟨M7, k7⟩ := M6.frames (fr := ⟨block, 0, (fr.st.take many).reverse ++ List.replicate (b.size - many) .non, []⟩ :: { fr with pc := fr.pc + 1, st := fr.st.drop many } :: fs) (ss' := ss3 ++ [.ref p2] ++ [.ref p6]) (by
    rw [List.reverse_cons, List.reverse_cons]
    exact Pd.app (Pd.imp (fun _ _ q => FrV.t q (Same.t S6)) pr4) (.cons hf6' .nil))
  exact q o _ rfl (K4.trans ((M4.keepS S6).trans k7)) M7
end
end K63
end

section
set_option Elab.async false
set_option linter.all false
set_option maxRecDepth 100000
set_option maxHeartbeats 4000000
set_option pp.deepTerms true
set_option format.width 200
namespace K63
open PySem L2 MM
open Mach (AV AFr Row Sg Blk MS PL Mem getP updM seen others Bd)
seal L2.PE L2.PA L2.PT L2.PS L2.PSs L2.PG L2.PGs L2.PI L2.PW
section
variable {C_Places C_Machine D_ROW_SIGNS : Addr} {P : Program} {w : World} {K : PySem.W.Frag} {mg : Str → Option Value} {base : Heap}
theorem ok_foundb (T : Txt P w K mg C_Places C_Machine D_ROW_SIGNS) (h_uppermost : Has P w K mg base 1 "uppermost" ["frame", "many"] (sp_up K)) (h_Places_asked : HasM P w K mg base 2 C_Places "asked" ["self", "site", "house"] (sp_asked C_Places)) (h_Places_put : HasM P w K mg base 2 C_Places "put" ["self", "site", "house", "block"] (sp_put C_Places)) : HasM P w K mg base 3 C_Machine "found_block" ["self", "site", "word", "many", "frame"] (sp_foundb C_Machine C_Places K) := by
  refine HasM.of T.m_Machine_found_block sc_Machine_found_block (fun _ _ _ _ _ _ us hl => el5 us hl fun _ _ _ _ _ => rfl) (fun vs H Q E h => ?_) (fun f cdv A outer s H vs Q E hr h => ?_)
  · obtain ⟨ex, o, P, s, a, site, word, many, n, k, f, fs, rest, t, b, s', rfl, _⟩ := h
    rfl
  obtain ⟨ex, o, P', s', a, site, word, many, n, k, fr, fs, rest, t, b, s2, rfl, M, top, hst, lm, hmk, hrow, q⟩ := h
  refine ⟨_, (pss_cons (ps_set (i := 5) sc_Machine_found_block.nd rfl (Or.inl rfl) (pe_ix (r := rIxTF K) ix_tupF (pe_ix (r := rIxLF K) ix_listF (pe_fldF (pvF 0) rfl) (pe_ix (r := rIxTF K) ix_tupF (pe_ix (r := rIxTF K) ix_tupF (pe_has h_uppermost hr (by decide) rfl (pa_cons (pvF 4) (pa_cons (pvF 3) pa_nil))) pe_int (fun _ _ => rfl)) pe_int (fun _ _ => rfl)) (fun _ _ => rfl)) pe_int (fun _ _ => rfl)))
    (pss_cons (ps_if (pt_val (pe_fldF (pvF 0) rfl)) (pss_cons (ps_set (i := 6) sc_Machine_found_block.nd rfl (Or.inl rfl) (pe_hasMF (pe_fldF (pvF 0) rfl) T.Places.cl h_Places_asked hr (by decide) (pa_cons (pvF 1) (pa_cons (pvF 5) pa_nil))))
    (pss_one (ps_if (pt_cmpR op_notN (pvF 6) pe_non (nomark _)) (pss_cons (ps_fldaugF (pvF 0) pe_int iop_add)
    (pss_one (ps_ret (pvF 6)))) pss_nil))) pss_nil)
    (pss_cons (ps_fldaugF (pvF 0) pe_int iop_add)
    (pss_cons (ps_set (i := 7) sc_Machine_found_block.nd rfl (Or.inl rfl) (pe_ix (r := rIxTF K) ix_tupF (pe_ix (r := rIxTF K) ix_tupF (pe_fldF (pvF 0) rfl) (pvF 5) (fun _ _ => rfl)) (pvF 2) (fun _ _ => rfl)))
    (pss_cons (ps_if (pt_val (pe_fldF (pvF 0) rfl)) (pss_one (ps_expr (pe_hasMF (pe_fldF (pvF 0) rfl) T.Places.cl h_Places_put hr (by decide) (pa_cons (pvF 1) (pa_cons (pvF 5) (pa_cons (pvF 7) pa_nil)))))) pss_nil)
    (pss_one (ps_ret (pvF 7)))))))), ?_⟩
  refine seq6 fun u5 hu5 u4 hu4 u3 hu3 u2 hu2 u1 hu1 => ?_
  walk_at "rd"
  obtain ⟨e0, hx, he0⟩ := M.ins
  obtain ⟨F, g1, g2, g3, g4, g5⟩ := top.at_
  have lF : F.st.length = fr.st.length := by rw [Paired.length g5, List.length_reverse]
  have nn := top.nn
  have lf := top.sz.fr' top.fr
  refine ⟨C_Machine, o.dx, _, hx, T.Machine.cl, T.n_Machine_made, _, lk_made, a, many, F, rfl, g1, by omega, by omega, fun pu H1 s1 hpu => ?_⟩
  have hxs : AtVs K H1 (F.st.drop (F.st.length - many)) (.th k :: rest) := by
    rw [← hst, List.reverse_take, ← lF]
    exact Pd.drop _ (AtVs.t g5 (Same.t s1))
  have M1 := M.same s1
  have k1 := M.keepS s1
  generalize F.st.drop (F.st.length - many) = xs at *
  cases hxs with
  | cons hth hrest =>
  obtain ⟨th, rfl, hth, _⟩ := hth
  obtain ⟨ms, m1, m2⟩ := M1.mad
  obtain ⟨y, hy, ye, ia, inner, rfl, q1, q2, q3⟩ := Pd.at m2 hmk
  obtain ⟨e1, hx1, he1⟩ := M1.ins
  refine ⟨pu, rfl, _, hpu, _, ix0, th, rfl, _, SqT.of hth, _, ix1, o.md, rfl, k, rfl, ms, SqL.of m1, _, atI_nat hy, ye, rfl, _, q1, _, ix0, ?_⟩
  subst hu1
  walk_at "rd"
  refine ⟨C_Machine, o.dx, _, hx1, T.Machine.cl, T.n_Machine_remembers, _, lk_rem, _, rfl, ?_⟩
  cases hrem : P'.rem with
  | false =>
    rw [if_neg (by decide)]
    subst hu2
    walk_at "rd"
    unfold Mach.found at hrow
    simp only [hrem, Bool.false_eq_true, if_false] at hrow
    obtain ⟨b', hb', e2⟩ := Option.map_eq_some_iff.mp hrow
    obtain ⟨rfl, rfl⟩ := Prod.mk.inj e2
    obtain ⟨tl, htl, hb2⟩ := Option.bind_eq_some_iff.mp hb'
    obtain ⟨M2, k2⟩ := M1.set (s' := { s' with looks := s'.looks + 1 }) (e := e1) rfl rfl (by show _ ≤ s'.looks + 1 + s'.hits; omega) rfl he1
    refine ⟨C_Machine, o.dx, _, hx1, T.Machine.cl, T.n_Machine_look_count, _, lk_looks, _, rfl, o.dx, _, hx1, fs_len, ?_⟩
    rw [show ((s'.looks : Int) + 1) = ((s'.looks + 1 : Nat) : Int) from rfl, pf_looks]
    change MAt C_Machine C_Places K ex o P' { s' with looks := s'.looks + 1 } (upd H1 o.x (.ins C_Machine o.dx (fsM o P' e1 s'.calls (s'.looks + 1) s'.hits s'.rows))) at M2
    change Keep ex H1 (upd H1 o.x (.ins C_Machine o.dx (fsM o P' e1 s'.calls (s'.looks + 1) s'.hits s'.rows))) at k2
    generalize upd H1 o.x (.ins C_Machine o.dx (fsM o P' e1 s'.calls (s'.looks + 1) s'.hits s'.rows)) = H2 at *
    obtain ⟨ts, T1, T2⟩ := M2.pr.tb
    obtain ⟨tv, htv, ta, rfl, T3⟩ := Pd.at T2 htl
    obtain ⟨e2, hx2, he2⟩ := M2.ins
    have hw : (tl.map tabV)[word]? = some (.int b') := by
      rw [List.getElem?_map]
      obtain ⟨z, hz⟩ : ∃ z, tl[word]? = some z := by cases h : tl[word]? with
        | none => rw [h] at hb2; cases hb2
        | some z => exact ⟨z, rfl⟩
      rw [hz] at hb2 ⊢
      cases hb2; rfl
    subst hu3
    walk_at "rd"
    refine ⟨C_Machine, o.dx, _, hx2, T.Machine.cl, T.n_Machine_house_tables, _, lk_tables, o.TT, rfl, ts, T1, _, atI_nat htv, ta, rfl, _, T3, _, atI_nat hw, ?_⟩
    subst hu4
    walk_at "rd"
    refine ⟨C_Machine, o.dx, _, hx2, T.Machine.cl, T.n_Machine_remembers, _, lk_rem, _, rfl, ?_⟩
    rw [hrem, if_neg (by decide)]
    subst hu5
    walk_at "rd"
    exact q H2 (k1.trans k2) M2
  | true =>
    rw [if_pos rfl]
    have rep1 := M1.rep
    have plc1 := M1.plc
    refine ⟨C_Machine, o.dx, _, hx1, T.Machine.cl, T.n_Machine_places, _, lk_places, o.pl, rfl, o.dp, _, M1.plc, rfl, ?_⟩
    have lh := top.sz.lh
    refine ⟨o.pl, o.dp, o.pd, site, t.1, _, _, s'.mem, rfl, M1.plc, M1.rep, M1.hid, by omega, (top.sz.mm site).1, fun e H3 s3 => ?_, fun p r e H3 s3 r3 => ?_⟩
    · try dsimp only
      rw [if_neg (by simp)]
      subst hu2
      walk_at "rd"
      have M3 := M1.same s3
      have k3 := k1.trans (M1.keepS s3)
      obtain ⟨e3, hx3, he3⟩ := M3.ins
      unfold Mach.found at hrow
      simp only [hrem, if_true] at hrow
      rw [e] at hrow
      simp only at hrow
      obtain ⟨b', hb', e2⟩ := Option.map_eq_some_iff.mp hrow
      obtain ⟨rfl, rfl⟩ := Prod.mk.inj e2
      obtain ⟨tl, htl, hb2⟩ := Option.bind_eq_some_iff.mp hb'
      obtain ⟨M4, k4⟩ := M3.set (s' := { s' with looks := s'.looks + 1 }) (e := e3) rfl rfl (by show _ ≤ s'.looks + 1 + s'.hits; omega) rfl he3
      have rep4 := M3.rep' (.ins C_Machine o.dx (fsM o P' e3 s'.calls (s'.looks + 1) s'.hits s'.rows))
      refine ⟨C_Machine, o.dx, _, hx3, T.Machine.cl, T.n_Machine_look_count, _, lk_looks, _, rfl, o.dx, _, hx3, fs_len, ?_⟩
      rw [show ((s'.looks : Int) + 1) = ((s'.looks + 1 : Nat) : Int) from rfl, pf_looks]
      change MAt C_Machine C_Places K ex o P' { s' with looks := s'.looks + 1 } (upd H3 o.x (.ins C_Machine o.dx (fsM o P' e3 s'.calls (s'.looks + 1) s'.hits s'.rows))) at M4
      change Keep ex H3 (upd H3 o.x (.ins C_Machine o.dx (fsM o P' e3 s'.calls (s'.looks + 1) s'.hits s'.rows))) at k4
      generalize upd H3 o.x (.ins C_Machine o.dx (fsM o P' e3 s'.calls (s'.looks + 1) s'.hits s'.rows)) = H4 at *
      obtain ⟨ts, T1, T2⟩ := M4.pr.tb
      obtain ⟨tv, htv, ta, rfl, T3⟩ := Pd.at T2 htl
      obtain ⟨e4, hx4, he4⟩ := M4.ins
      have hw : (tl.map tabV)[word]? = some (.int b') := by
        rw [List.getElem?_map]
        obtain ⟨z, hz⟩ : ∃ z, tl[word]? = some z := by cases h : tl[word]? with
          | none => rw [h] at hb2; cases hb2
          | some z => exact ⟨z, rfl⟩
        rw [hz] at hb2 ⊢
        cases hb2; rfl
      subst hu3
      walk_at "rd"
      refine ⟨C_Machine, o.dx, _, hx4, T.Machine.cl, T.n_Machine_house_tables, _, lk_tables, o.TT, rfl, ts, T1, _, atI_nat htv, ta, rfl, _, T3, _, atI_nat hw, ?_⟩
      subst hu4
      walk_at "rd"
      refine ⟨C_Machine, o.dx, _, hx4, T.Machine.cl, T.n_Machine_remembers, _, lk_rem, _, rfl, ?_⟩
      rw [hrem, if_pos rfl]
      refine ⟨C_Machine, o.dx, _, hx4, T.Machine.cl, T.n_Machine_places, _, lk_places, o.pl, rfl, o.dp, _, M4.plc, rfl, ?_⟩
      refine ⟨o.pl, o.dp, o.pd, site, t.1, b', _, _, s'.mem, rfl, M4.plc, rep4, M4.hid, by omega, (top.sz.mm site).1, fun H5 s5 r5 => ?_⟩
      subst hu5
      walk_at "rd"
      obtain ⟨M5, k5⟩ := M4.mem s5 r5 (by show _ ≤ s'.looks + 1 + s'.hits; omega)
      exact q H5 (k3.trans (k4.trans k5)) M5
    · try dsimp only
      rw [if_pos (by simp)]
      obtain ⟨kvs, hk⟩ := M1.pdk
      have hx3 := s3 _ _ (ne_of hx1 hk (fun z => by cases z)) hx1
      unfold Mach.found at hrow
      simp only [hrem, if_true] at hrow
      rw [e] at hrow
      simp only at hrow
      obtain ⟨rfl, rfl⟩ := Prod.mk.inj (Option.some.inj hrow)
      have p0 : 0 ≤ p.2 := (top.sz.mm site).2 p (List.mem_filter.mp (show p ∈ seen (getP s'.mem site) t.1 by rw [e]; exact List.mem_cons_self)).1
      refine ⟨C_Machine, o.dx, _, hx3, T.Machine.cl, T.n_Machine_hit_count, _, lk_hits, _, rfl, o.dx, _, hx3, fs_len, ?_⟩
      rw [show ((s'.hits : Int) + 1) = ((s'.hits + 1 : Nat) : Int) from rfl, pf_hits]
      rw [e] at r3
      obtain ⟨M4, k4⟩ := M1.mem2 (s' := { s' with hits := s'.hits + 1, mem := updM s'.mem site (p :: r ++ others (getP s'.mem site) t.1) }) (e := e1) s3 r3 rfl rfl (by show s'.looks + (s'.hits + 1) = _; omega) he1
      rw [show p.2 = ((p.2.toNat : Nat) : Int) by omega]
      exact q _ (k1.trans k4) M4
end
end K63
end

section
set_option Elab.async false
set_option linter.all false
set_option maxRecDepth 100000
set_option maxHeartbeats 4000000
set_option pp.deepTerms true
set_option format.width 200
namespace K63
open PySem L2 MM
open Mach (AV AFr Row Sg Blk MS PL Mem getP updM seen others Bd)
seal L2.PE L2.PA L2.PT L2.PS L2.PSs L2.PG L2.PGs L2.PI L2.PW
theorem set_cut (sl : List V) (i : Nat) (v : V) (h : i < sl.length) : sl.set i v = sl.take i ++ [v] ++ sl.drop (i + 1) := by
  rw [List.set_eq_take_append_cons_drop, if_pos h, List.append_assoc]
  rfl
theorem put_inv {P : Mach.Prog} {s s2 : MS} {f : AFr} {fs : List AFr} {pl : Nat} (h : Mach.rowM P s f fs (.put pl) = some s2) : ∃ v k st t, f.st = v :: .th k :: st ∧ s.made[k]? = some t ∧ pl < t.2.length ∧ s2 = { s with made := s.made.set k (t.1, t.2.set pl v), frames := { f with pc := f.pc + 1, st := v :: st } :: fs } := by
  simp only [Mach.rowM] at h
  split at h
  · rename_i v k st e
    obtain ⟨t, ht, h⟩ := Option.bind_eq_some_iff.mp h
    split at h
    · rename_i hl
      exact ⟨v, k, st, t, e, ht, hl, (Option.some.inj h).symm⟩
    · cases h
  · cases h
theorem make_inv {P : Mach.Prog} {s s2 : MS} {f : AFr} {fs : List AFr} {hh m : Nat} (h : Mach.rowM P s f fs (.make hh m) = some s2) : m ≤ f.st.length ∧ s2 = { s with made := s.made ++ [(hh, (f.st.take m).reverse)], frames := { f with pc := f.pc + 1, st := .th s.made.length :: f.st.drop m } :: fs } := by
  simp only [Mach.rowM] at h
  split at h
  · rename_i hm
    exact ⟨hm, (Option.some.inj h).symm⟩
  · cases h
theorem own_inv {P : Mach.Prog} {s s2 : MS} {f : AFr} {fs : List AFr} {row : Row} (hi : isOwn row = true) (h : Mach.rowM P s f fs row = some s2) : ∃ o, Mach.own f s.made row = some o ∧ ((∃ f', o = .inl f' ∧ s2 = { s with frames := f' :: fs }) ∨ ∃ e, o = .inr e ∧ s2 = Mach.ends s e) := by
  have key : ∀ {o : Option (AFr ⊕ Mach.End)}, (o.map fun o => match o with | .inl f' => ({ s with frames := f' :: fs } : MS) | .inr e => Mach.ends s e) = some s2 → ∃ x, o = some x ∧ ((∃ f', x = .inl f' ∧ s2 = { s with frames := f' :: fs }) ∨ ∃ e, x = .inr e ∧ s2 = Mach.ends s e) := fun h => by
    obtain ⟨x, hx, e⟩ := Option.map_eq_some_iff.mp h
    cases x with
    | inl g => exact ⟨_, hx, .inl ⟨g, rfl, e.symm⟩⟩
    | inr g => exact ⟨_, hx, .inr ⟨g, rfl, e.symm⟩⟩
  cases row <;> first | (cases hi; done) | exact key h
theorem sp_own_imp {K : PySem.W.Frag} {vs : List V} {H : Hp} {Q Q' : VK} {E : XK} (h : sp_own K vs H Q' E) (i : ∀ v H', Q' v H' → Q v H') : sp_own K vs H Q E := by
  obtain ⟨r, a, tl, nm, args, F, e, h1, h2, h3, h4, h5⟩ := h
  refine ⟨r, a, tl, nm, args, F, e, h1, h2, h3, h4, ?_⟩
  rcases h5 with ⟨sg, st, x, y, rr, b1, b2, b3, b4, b5⟩ | ⟨F', b1, b2⟩
  · exact .inl ⟨sg, st, x, y, rr, b1, b2, b3, fun why p q' H' c1 c2 c3 c4 => i _ _ (b4 why p q' H' c1 c2 c3 c4), fun v p f' H' c1 c2 c3 c4 => i _ _ (b5 v p f' H' c1 c2 c3 c4)⟩
  · exact .inr ⟨F', b1, fun p f' H' c1 c2 c3 => i _ _ (b2 p f' H' c1 c2 c3)⟩
section
variable {C_Places C_Machine D_ROW_SIGNS : Addr} {P : Program} {w : World} {K : PySem.W.Frag} {mg : Str → Option Value} {base : Heap}
theorem ok_setf (T : Txt P w K mg C_Places C_Machine D_ROW_SIGNS) (h_uppermost : Has P w K mg base 1 "uppermost" ["frame", "many"] (sp_up K)) (h_behind : Has P w K mg base 1 "behind" ["frame", "many", "value"] (sp_behind K)) : HasM P w K mg base 2 C_Machine "set_field" ["self", "place", "frame"] (sp_setf C_Machine C_Places K) := by
  refine HasM.of T.m_Machine_set_field sc_Machine_set_field (fun _ _ _ _ _ _ us hl => el3 us hl fun _ _ _ => rfl) (fun vs H Q E h => ?_) (fun f cdv A outer s H vs Q E hr h => ?_)
  · obtain ⟨ex, o, P, s, a, pl, n, f, fs, s', rfl, _⟩ := h
    rfl
  obtain ⟨ex, o, P', s', a, pl, n, fr, fs, s2, rfl, M, top, hrow, q⟩ := h
  refine ⟨_, (pss_cons (ps_asg (pe_has h_uppermost hr (by decide) rfl (pa_cons (pvF 2) (pa_cons pe_int pa_nil))) (pg_tupF (n := 2) rfl (pgs_consF (pg_name (i := 3) sc_Machine_set_field.nd rfl (Or.inl rfl)) (pgs_consF (pg_name (i := 4) sc_Machine_set_field.nd rfl (Or.inl rfl)) pgs_nil))))
    (pss_cons (ps_asg (pe_ix (r := rIxLF K) ix_listF (pe_fldF (pvF 0) rfl) (pe_ix (r := rIxTF K) ix_tupF (pvF 3) pe_int (fun _ _ => rfl)) (fun _ _ => rfl)) (pg_tupF (n := 2) rfl (pgs_consF (pg_name (i := 5) sc_Machine_set_field.nd rfl (Or.inl rfl)) (pgs_consF (pg_name (i := 6) sc_Machine_set_field.nd rfl (Or.inl rfl)) pgs_nil))))
    (pss_cons (ps_asg (pe_tup (pa_cons (pvF 5) (pa_cons (pe_op (r := rCatA K) op_catA (pe_op (r := rCatA K) op_catA (pe_slice (r := rSlA K) sl_tupA (pvF 6) po_none (po_some (pvF 1))) (pe_tup (pa_cons (pvF 4) pa_nil))) (pe_slice (r := rSlA K) sl_tupA (pvF 6) (po_some (pe_op op_add (pvF 1) pe_int)) po_none)) pa_nil))) (pg_sub (pe_fldF (pvF 0) rfl) (pe_ix (r := rIxTF K) ix_tupF (pvF 3) pe_int (fun _ _ => rfl)) set_listF))
    (pss_one (ps_asg (pe_has h_behind hr (by decide) rfl (pa_cons (pvF 2) (pa_cons pe_int (pa_cons (pvF 4) pa_nil)))) (pg_sub (pe_fldF (pvF 0) rfl) (pe_un un_neg pe_int) set_listF)))))), ?_⟩
  refine seq4 fun u3 hu3 u2 hu2 u1 hu1 => ?_
  walk_at "rd"
  obtain ⟨v, k, st, t, hst, hmk, hpl, rfl⟩ := put_inv hrow
  obtain ⟨F, g1, g2, g3, g4, g5⟩ := top.at_
  have lF : F.st.length = fr.st.length := by rw [Paired.length g5, List.length_reverse]
  have nn := top.nn
  have lf := top.sz.fr' top.fr
  have l2 : fr.st.length = st.length + 2 := by rw [hst]; rfl
  refine ⟨a, 2, F, rfl, g1, by omega, by omega, fun pu H1 s1 hpu => ?_⟩
  have M1 := M.same s1
  have g5' := AtVs.t g5 (Same.t s1)
  rw [hst, List.reverse_cons, List.reverse_cons] at g5'
  obtain ⟨sv, vv, e1, g6, hv⟩ := Pd.snoc_inv g5'
  obtain ⟨su, tv, e2, g7, hth⟩ := Pd.snoc_inv g6
  subst e2
  have ed : F.st.drop (F.st.length - 2) = [tv, vv] := by
    rw [e1, List.length_append, List.length_append]
    show List.drop (su.length + 1 + 1 - 2) _ = _
    rw [show su.length + 1 + 1 - 2 = su.length by omega, List.append_assoc, List.drop_left' rfl]
    rfl
  rw [ed] at hpu
  obtain ⟨th, rfl, hth, _⟩ := hth
  obtain ⟨ms, m1, m2⟩ := M1.mad
  obtain ⟨y, hy, ye, ia, inner, rfl, q1, q2, q3⟩ := Pd.at m2 hmk
  obtain ⟨e3, hx1, he1⟩ := M1.ins
  have lin : inner.length = t.2.length := Paired.length q3
  have lms : ms.length = s'.made.length := Paired.length m2
  have hti := top.sz.mi t (List.mem_of_getElem? hmk)
  have hk : k < s'.made.length := (List.getElem?_eq_some_iff.mp hmk).1
  refine ⟨pu, rfl, _, hpu, rfl, _, _, rfl, _, _, rfl, rfl, ?_⟩
  subst hu1
  walk_at "rd"
  refine ⟨C_Machine, o.dx, _, hx1, T.Machine.cl, T.n_Machine_made, _, lk_made, _, SqT.of hth, _, ix1, o.md, rfl, k, rfl, ms, SqL.of m1, _, atI_nat hy, ye, rfl, _, q1, rfl, _, _, rfl, _, _, rfl, rfl, ?_⟩
  subst hu2
  walk_at "rd"
  refine ⟨ia, _, rfl, q2, fun p1 H2 s2 hp1 p2 hp2 => ?_⟩
  have s3 := same_upd hp2 (.tup [vv])
  rw [cut_to] at hp1
  refine ⟨p1, p2, _, _, rfl, rfl, hp1.same s3, SqT.of upd_same, by rw [List.length_take, sizeLine_eq]; show _ + 1 ≤ _; omega, fun p3 H3 s4 hp3 => ?_⟩
  have S3 := s2.trans (s3.trans s4)
  refine ⟨ia, _, rfl, q2.same S3, fun p4 H4 s5 hp4 => ?_⟩
  rw [show ((pl : Int) + 1) = ((pl + 1 : Nat) : Int) from rfl, cut_from] at hp4
  refine ⟨p3, p4, _, _, rfl, rfl, hp3.same s5, hp4, by rw [List.length_append, List.length_take, List.length_drop, sizeLine_eq]; show _ + 1 + _ ≤ _; omega, fun p5 H5 s6 hp5 p6 hp6 => ?_⟩
  have s7 := same_upd hp6 (.tup [.int t.1, .ref p5])
  have S7 := S3.trans (s5.trans (s6.trans s7))
  have M7 := M1.same S7
  obtain ⟨e7, hx7, he7⟩ := M7.ins
  have m17 := S7 _ _ m1
  refine ⟨C_Machine, o.dx, _, hx7, T.Machine.cl, T.n_Machine_made, _, lk_made, _, SqT.of (S7 _ _ hth), _, ix1, o.md, rfl, k, rfl, ms, m17, k, ixN_nat (by omega), ?_⟩
  have thv : ThV K (upd H5 p6 (.tup [.int t.1, .ref p5])) (.ref p6) (t.1, t.2.set pl v) := ⟨p6, p5, _, rfl, SqT.of upd_same, hp5.same s7, by
    rw [← set_cut inner pl vv (by omega)]
    exact Pd.set (AtV.t hv (Same.t S7)) pl (AtVs.t q3 (Same.t S7))⟩
  obtain ⟨M8, k8⟩ := M7.things (ms' := ms.set k (.ref p6)) (mm := s'.made.set k (t.1, t.2.set pl v)) (Pd.set thv k (Pd.imp (fun _ _ q => ThV.t q (Same.t S7)) m2))
  have K8 := (M.keepS s1).trans ((M1.keepS S7).trans k8)
  have fr8 : FrIs K _ a fr := top.at_.t K8.t
  have hv8 := AtV.t hv ((Same.t S7).trans k8.t)
  generalize upd (upd H5 p6 (.tup [.int t.1, .ref p5])) o.md (.lst (ms.set k (.ref p6))) = H8 at *
  obtain ⟨F8, d1, d2, d3, d4, d5⟩ := fr8
  have lF8 : F8.st.length = fr.st.length := by rw [Paired.length d5, List.length_reverse]
  subst hu3
  walk_at "rd"
  refine ⟨a, 2, vv, F8, rfl, d1, by omega, by omega, fun p9 H9 s9 hf9 => ?_⟩
  have M9 := M8.same s9
  have hf : FrV K H9 (.ref p9) { fr with pc := fr.pc + 1, st := v :: st } := mkFr hf9 d2 (by show F8.at_ + 1 = _; rw [d3]; rfl) (AtVs.t d4 (Same.t s9)) (by
    show AtVs K H9 (F8.st.take (F8.st.length - 2) ++ [vv]) (v :: st).reverse
    rw [List.reverse_cons]
    refine Pd.app ?_ (.cons (AtV.t hv8 (Same.t s9)) .nil)
    have := Pd.take (F8.st.length - 2) (AtVs.t d5 (Same.t s9))
    rw [hst, List.reverse_cons, List.reverse_cons, List.append_assoc, lF8, l2, Nat.add_sub_cancel, List.take_left' (by rw [List.length_reverse])] at this
    rw [lF8, l2, Nat.add_sub_cancel]
    exact this)
  obtain ⟨xs, j, c1, c2, M10, k10⟩ := M9.put top.fr hf
  obtain ⟨e9, hx9, _⟩ := M9.ins
  exact ⟨C_Machine, o.dx, _, hx9, T.Machine.cl, T.n_Machine_stacked, _, lk_stacked, o.sk, rfl, xs, c1, j, c2, q o _ rfl (K8.trans ((M8.keepS s9).trans k10)) M10⟩
theorem ok_mmake (T : Txt P w K mg C_Places C_Machine D_ROW_SIGNS) (h_uppermost : Has P w K mg base 1 "uppermost" ["frame", "many"] (sp_up K)) (h_behind : Has P w K mg base 1 "behind" ["frame", "many", "value"] (sp_behind K)) : HasM P w K mg base 2 C_Machine "make" ["self", "house", "many", "frame"] (sp_mmake C_Machine C_Places K) := by
  refine HasM.of T.m_Machine_make sc_Machine_make (fun _ _ _ _ _ _ us hl => el4 us hl fun _ _ _ _ => rfl) (fun vs H Q E h => ?_) (fun f cdv A outer s H vs Q E hr h => ?_)
  · obtain ⟨ex, o, P, s, a, h, m, n, f, fs, s', rfl, _⟩ := h
    rfl
  obtain ⟨ex, o, P', s', a, hh, m, n, fr, fs, s2, rfl, M, top, hrow, q⟩ := h
  refine ⟨_, (pss_cons (ps_expr (pe_bm PySem.F.plainAttrs_list PySem.F.slot_list_append PySem.F.type_list_append mt_append (pe_fldF (pvF 0) rfl) (pa_cons (pe_tup (pa_cons (pvF 1) (pa_cons (pe_has h_uppermost hr (by decide) rfl (pa_cons (pvF 3) (pa_cons (pvF 2) pa_nil))) pa_nil))) pa_nil)))
    (pss_one (ps_asg (pe_has h_behind hr (by decide) rfl (pa_cons (pvF 3) (pa_cons (pvF 2) (pa_cons (pe_tup (pa_cons pe_str (pa_cons (pe_op op_sub (pe_callB call_len_seq rfl T.z_len bt_len (pa_cons (pe_fldF (pvF 0) rfl) pa_nil)) pe_int) pa_nil))) pa_nil)))) (pg_sub (pe_fldF (pvF 0) rfl) (pe_un un_neg pe_int) set_listF)))), ?_⟩
  walk_at "rd"
  obtain ⟨hm, rfl⟩ := make_inv hrow
  obtain ⟨e0, hx, he0⟩ := M.ins
  obtain ⟨F, g1, g2, g3, g4, g5⟩ := top.at_
  have lF : F.st.length = fr.st.length := by rw [Paired.length g5, List.length_reverse]
  have nn := top.nn
  have lf := top.sz.fr' top.fr
  have lmd := top.sz.md
  obtain ⟨ms, m1, m2⟩ := M.mad
  have lms : ms.length = s'.made.length := Paired.length m2
  refine ⟨C_Machine, o.dx, _, hx, T.Machine.cl, T.n_Machine_made, _, lk_made, .inl ⟨rfl, _, SqL.of m1⟩, a, m, F, rfl, g1, by omega, by omega, fun pu H1 s1 hpu p hp => ?_⟩
  have s2 := same_upd hp (.tup [.int hh, .ref pu])
  have S := s1.trans s2
  have M2 := M.same S
  refine ⟨o.md, rfl, ms, S _ _ m1, by omega, ?_⟩
  have thv : ThV K (upd H1 p (.tup [.int hh, .ref pu])) (.ref p) (hh, (fr.st.take m).reverse) := ⟨p, pu, _, rfl, SqT.of upd_same, hpu.same s2, by
    show AtVs K _ (F.st.drop (F.st.length - m)) (fr.st.take m).reverse
    rw [List.reverse_take, ← lF]
    exact Pd.drop _ (AtVs.t g5 (Same.t S))⟩
  obtain ⟨M3, k3⟩ := M2.things (ms' := ms ++ [.ref p]) (mm := s'.made ++ [(hh, (fr.st.take m).reverse)]) (Pd.app (Pd.imp (fun _ _ q => ThV.t q (Same.t S)) m2) (.cons thv .nil))
  have md3 : upd (upd H1 p (.tup [.int hh, .ref pu])) o.md (.lst (ms ++ [.ref p])) o.md = some (.lst (ms ++ [.ref p])) := upd_same
  have K3 := (M.keepS S).trans k3
  have fr3 : FrIs K _ a fr := top.at_.t K3.t
  generalize upd (upd H1 p (.tup [.int hh, .ref pu])) o.md (.lst (ms ++ [.ref p])) = H3 at *
  obtain ⟨e3, hx3, _⟩ := M3.ins
  refine ⟨C_Machine, o.dx, _, hx3, T.Machine.cl, T.n_Machine_made, _, lk_made, o.md, rfl, _, .inl (SqL.of md3), fun p2 hp2 => ?_⟩
  have lp : (((ms ++ [V.ref p]).length : Int) - 1) = (s'.made.length : Int) := by rw [List.length_append]; show ((ms.length + 1 : Nat) : Int) - 1 = _; omega
  rw [lp]
  have s4 := same_upd hp2 (.tup [.str "thing", .int s'.made.length])
  have e4 : upd H3 p2 (.tup [.str "thing", .int s'.made.length]) p2 = some (.tup [.str "thing", .int s'.made.length]) := upd_same
  obtain ⟨F4, d1, d2, d3, d4, d5⟩ := fr3.t (Same.t s4)
  have lF4 : F4.st.length = fr.st.length := by rw [Paired.length d5, List.length_reverse]
  refine ⟨a, m, _, F4, rfl, d1, by omega, by omega, fun p3 H5 s5 hf5 => ?_⟩
  have S5 := s4.trans s5
  have M5 := M3.same S5
  have hf : FrV K H5 (.ref p3) { fr with pc := fr.pc + 1, st := .th s'.made.length :: fr.st.drop m } := mkFr hf5 d2 (by show F4.at_ + 1 = _; rw [d3]; rfl) (AtVs.t d4 (Same.t s5)) (by
    show AtVs K H5 (F4.st.take (F4.st.length - m) ++ [.ref p2]) (AV.th s'.made.length :: fr.st.drop m).reverse
    rw [List.reverse_cons, List.reverse_drop, ← lF4]
    exact Pd.app (Pd.take _ (AtVs.t d5 (Same.t s5))) (.cons ⟨p2, rfl, s5 _ _ e4, by omega⟩ .nil))
  obtain ⟨xs, j, c1, c2, M6, k6⟩ := M5.put top.fr hf
  obtain ⟨e5, hx5, _⟩ := M5.ins
  exact ⟨C_Machine, o.dx, _, hx5, T.Machine.cl, T.n_Machine_stacked, _, lk_stacked, o.sk, rfl, xs, c1, j, c2, q o _ rfl (K3.trans ((M3.keepS S5).trans k6)) M6⟩
end
end K63
end

section
set_option Elab.async false
set_option linter.all false
set_option maxRecDepth 100000
set_option maxHeartbeats 4000000
set_option pp.deepTerms true
set_option format.width 200
namespace K63
open PySem L2 MM
open Mach (AV AFr Row Sg Blk MS PL Mem getP updM seen others Bd)
seal L2.PE L2.PA L2.PT L2.PS L2.PSs L2.PG L2.PGs L2.PI L2.PW
def OwnQ (K : PySem.W.Frag) (H : Hp) (s' s2 : MS) (fs : List AFr) (a : Addr) : VK := fun v H' => ∃ p, v = .ref p ∧ Same H H' ∧ ((∃ pf f', s2 = { s' with frames := f' :: fs } ∧ FrV K H' (.ref pf) f' ∧ SqT K H' p [.ref pf, .non]) ∨ (∃ q' e, s2 = Mach.ends s' e ∧ SqT K H' p [.ref a, .ref q'] ∧ EndIs K H' q' e))
def sgOk : Sg → Str → Prop
  | .add, sg => sg = "+"
  | .sub, sg => sg = "-"
  | .mul, sg => sg = "*"
  | .div, sg => sg = "/"
  | .less, sg => sg = "<"
  | .same, sg => sg = "="
theorem sgn_val (g : Sg) : ∃ sg, valV kv_ROW_SIGNS (.inr (sgN g)) = some (.str sg) ∧ sgOk g sg := by
  cases g <;> exact ⟨_, rfl, rfl⟩
theorem two_rel {K : PySem.W.Frag} {H : Hp} {g : Sg} {x y : V} {a b : AV} {res : AV ⊕ Mach.End} {sg : Str} (hx : AtV K H x a) (hy : AtV K H y b) (h : Mach.two g a b = some res) (hs : sgOk g sg) :
    ∃ rr, TwoR K H sg x y rr ∧ ((∃ v av, res = .inl av ∧ rr = [.str "value", v] ∧ ∀ H', AtV K H' v av) ∨ (res = .inr .great ∧ rr = [.str "refused", .str "great"]) ∨ (res = .inr .nought ∧ rr = [.str "refused", .str "nought"])) := by
  have tol : ∀ n : Int, (∃ v av, Mach.told n = .inl av ∧ told2 n = [.str "value", v] ∧ ∀ H', AtV K H' v av) ∨ (Mach.told n = .inr .great ∧ told2 n = [.str "refused", .str "great"]) ∨ (Mach.told n = .inr .nought ∧ told2 n = [.str "refused", .str "nought"]) := fun n => by
    unfold Mach.told told2
    by_cases hb : Bd n
    · rw [if_pos hb, if_pos hb]; exact .inl ⟨_, _, rfl, rfl, fun _ => ⟨rfl, hb⟩⟩
    · rw [if_neg hb, if_neg hb]; exact .inr (.inl ⟨rfl, rfl⟩)
  cases g with
  | add =>
    cases a <;> cases b <;> first | (cases h; done) | skip
    cases h; obtain rfl : sg = _ := hs
    obtain ⟨rfl, b1⟩ := hx; obtain ⟨rfl, b2⟩ := hy
    exact ⟨_, .ar (.inl rfl) b1 b2, tol _⟩
  | sub =>
    cases a <;> cases b <;> first | (cases h; done) | skip
    cases h; obtain rfl : sg = _ := hs
    obtain ⟨rfl, b1⟩ := hx; obtain ⟨rfl, b2⟩ := hy
    exact ⟨_, .ar (.inr (.inl rfl)) b1 b2, tol _⟩
  | mul =>
    cases a <;> cases b <;> first | (cases h; done) | skip
    cases h; obtain rfl : sg = _ := hs
    obtain ⟨rfl, b1⟩ := hx; obtain ⟨rfl, b2⟩ := hy
    exact ⟨_, .ar (.inr (.inr (.inl rfl))) b1 b2, tol _⟩
  | div =>
    cases a <;> cases b <;> first | (cases h; done) | skip
    cases h; obtain rfl : sg = _ := hs
    obtain ⟨rfl, b1⟩ := hx; obtain ⟨rfl, b2⟩ := hy
    rename_i ia ib
    refine ⟨_, .ar (.inr (.inr (.inr rfl))) b1 b2, ?_⟩
    unfold arith
    by_cases hz : ib = 0
    · rw [if_pos hz, if_pos ⟨rfl, hz⟩]; exact .inr (.inr ⟨rfl, rfl⟩)
    · rw [if_neg hz, if_neg (fun z => hz z.2)]; exact tol _
  | less =>
    cases a <;> cases b <;> first | (cases h; done) | skip
    cases h; obtain rfl : sg = _ := hs
    obtain ⟨rfl, b1⟩ := hx; obtain ⟨rfl, b2⟩ := hy
    exact ⟨_, .lt _ _, .inl ⟨_, _, rfl, rfl, fun _ => rfl⟩⟩
  | same =>
    cases a <;> cases b <;> first | (cases h; done) | skip
    · cases h; obtain rfl : sg = _ := hs
      obtain rfl : x = _ := hx; obtain rfl : y = _ := hy
      rename_i ia ib
      refine ⟨_, .eq (.bl _) (.bl _) rfl rfl, .inl ⟨_, _, rfl, rfl, fun _ => ?_⟩⟩
      show V.bl _ = V.bl _
      cases ia <;> cases ib <;> (rw [PyData.eqv]; rfl)
    · cases h; obtain rfl : sg = _ := hs
      obtain ⟨rfl, b1⟩ := hx; obtain ⟨rfl, b2⟩ := hy
      refine ⟨_, .eq (.int _) (.int _) rfl rfl, .inl ⟨_, _, rfl, rfl, fun _ => ?_⟩⟩
      show V.bl _ = V.bl _
      rw [PyData.eqv]; rfl
    · cases h; obtain rfl : sg = _ := hs
      obtain ⟨t1, rfl, h1, _⟩ := hx; obtain ⟨t2, rfl, h2, _⟩ := hy
      rename_i ia ib
      have sh : ∀ k : Nat, PySem.SeqAt.shaped (.tuple [.str "thing", .int k]) = true := fun k => (Lay.tup (k := 0) (.cons (.of (Nice.str (n := 5) (by decide +kernel) (by decide +kernel))) (.cons .int .nil))).shaped (by decide)
      refine ⟨_, .eq (.tup (SqT.of h1) (.cons (.str _) (.cons (.int _) .nil))) (.tup (SqT.of h2) (.cons (.str _) (.cons (.int _) .nil))) (sh _) (sh _), .inl ⟨_, _, rfl, rfl, fun _ => ?_⟩⟩
      show V.bl _ = V.bl _
      simp [PyData.eqv, PyData.eqvAll]
      apply Bool.eq_iff_iff.mpr
      simp only [beq_iff_eq, decide_eq_true_eq]
      exact Int.ofNat_inj
theorem own_lem {K : PySem.W.Frag} {H : Hp} {r a tl : Addr} {row : Row} {fr : AFr} {s' s2 : MS} {fs : List AFr} {ms : List V} {ow : AFr ⊕ Mach.End} {E : XK} (hro : RowAt K H r row) (hio : isOwn row = true) (hfr : FrIs K H a fr) (hsl : SqL K H tl ms) (hms : Paired (ThV K H) ms s'.made) (how : Mach.own fr s'.made row = some ow)
    (hres : (∃ f', ow = .inl f' ∧ s2 = { s' with frames := f' :: fs }) ∨ ∃ e, ow = .inr e ∧ s2 = Mach.ends s' e) (lst : fr.st.length < 90000) (lsl : fr.sl.length < 900) : sp_own K [.ref r, .ref a, .ref tl] H (OwnQ K H s' s2 fs a) E := by
  obtain ⟨F, g1, g2, g3, g4, g5⟩ := hfr
  have lF : F.st.length = fr.st.length := by rw [Paired.length g5, List.length_reverse]
  have lS : F.sl.length = fr.sl.length := Paired.length g4
  have fin : ∀ {nm : Str} {args : List V} {F' : Fr} {f' : AFr}, SqT K H r (.str nm :: args) → OwnR K H tl F nm args F' → ow = .inl f' → F'.n = .int f'.n → F'.at_ = (f'.pc : Int) → AtVs K H F'.sl f'.sl → AtVs K H F'.st f'.st.reverse → sp_own K [.ref r, .ref a, .ref tl] H (OwnQ K H s' s2 fs a) E := by
    intro nm args F' f' h1 h2 e a1 a2 a3 a4
    have es : s2 = { s' with frames := f' :: fs } := by
      rcases hres with ⟨f'', e', h⟩ | ⟨e'', e', _⟩
      · rw [e] at e'; cases e'; exact h
      · rw [e] at e'; cases e'
    exact ⟨r, a, tl, _, _, F, rfl, h1, g1, by omega, by omega, .inr ⟨_, h2, fun p pf H' s1 hf hp => ⟨p, rfl, s1, .inl ⟨pf, f', es, mkFr hf a1 a2 (AtVs.t a3 (Same.t s1)) (AtVs.t a4 (Same.t s1)), hp⟩⟩⟩⟩
  have up : ∀ {v : AV} {st : List AV}, fr.st = v :: st → ∃ sv x, F.st = sv ++ [x] ∧ AtVs K H sv st.reverse ∧ AtV K H x v := fun e => by
    rw [e, List.reverse_cons] at g5
    exact Pd.snoc_inv g5
  cases row with
  | make _ _ => cases hio
  | put _ => cases hio
  | call _ _ _ => cases hio
  | straight _ _ => cases hio
  | back => cases hio
  | push v =>
    obtain ⟨x, h1, h2⟩ := hro
    cases how
    exact fin h1 (.push x) rfl g2 (by show F.at_ + 1 = _; rw [g3]; rfl) g4 (by
      show AtVs K H (F.st ++ [x]) (v :: fr.st).reverse
      rw [List.reverse_cons]; exact Pd.app g5 (.cons h2 .nil))
  | load i =>
    simp only [Mach.own] at how
    obtain ⟨v, hv, e⟩ := Option.map_eq_some_iff.mp how
    obtain ⟨x, hx, hxv⟩ := Pd.at g4 hv
    exact fin hro (.load i x (atI_nat hx)) e.symm g2 (by show F.at_ + 1 = _; rw [g3]; rfl) g4 (by
      show AtVs K H (F.st ++ [x]) (v :: fr.st).reverse
      rw [List.reverse_cons]; exact Pd.app g5 (.cons hxv .nil))
  | nt =>
    simp only [Mach.own] at how
    split at how
    · rename_i b st e
      cases how
      obtain ⟨sv, x, e1, h1, h2⟩ := up e
      obtain rfl : x = .bl b := h2
      exact fin hro (.nt b sv e1) rfl g2 (by show F.at_ + 1 = _; rw [g3]; rfl) g4 (by
        show AtVs K H (sv ++ [.bl (!b)]) (AV.bl (!b) :: st).reverse
        rw [List.reverse_cons]; exact Pd.app h1 (.cons rfl .nil))
    · cases how
  | get pl =>
    simp only [Mach.own] at how
    split at how
    · rename_i k st e
      obtain ⟨t, ht, how⟩ := Option.bind_eq_some_iff.mp how
      obtain ⟨v, hv, how⟩ := Option.map_eq_some_iff.mp how
      obtain ⟨sv, x, e1, h1, h2⟩ := up e
      obtain ⟨th, rfl, hth, _⟩ := h2
      obtain ⟨y, hy, ye, ia, inner, rfl, q1, q2, q3⟩ := Pd.at hms ht
      obtain ⟨z, hz, hzv⟩ := Pd.at q3 hv
      exact fin hro (.get sv th k pl ms ye ia _ inner z e1 hsl (SqT.of hth) (atI_nat hy) q1 q2 (atI_nat hz)) how.symm g2 (by show F.at_ + 1 = _; rw [g3]; rfl) g4 (by
        show AtVs K H (sv ++ [z]) (v :: st).reverse
        rw [List.reverse_cons]; exact Pd.app h1 (.cons hzv .nil))
    · cases how
  | keep i =>
    simp only [Mach.own] at how
    split at how
    · rename_i v st e
      split at how
      · rename_i hi
        cases how
        obtain ⟨sv, x, e1, h1, h2⟩ := up e
        exact fin hro (.keep i x sv e1 (by omega) (by omega)) rfl g2 (by show F.at_ + 1 = _; rw [g3]; rfl) (by
          show AtVs K H (F.sl.take i ++ [x] ++ F.sl.drop (i + 1)) (fr.sl.set i v)
          rw [← set_cut _ _ _ (by omega)]
          exact Pd.set h2 i g4) h1
      · cases how
    · cases how
  | drop =>
    simp only [Mach.own] at how
    split at how
    · rename_i v st e
      cases how
      obtain ⟨sv, x, e1, h1, h2⟩ := up e
      exact fin hro (.drop x sv e1) rfl g2 (by show F.at_ + 1 = _; rw [g3]; rfl) g4 h1
    · cases how
  | skip k =>
    cases how
    exact fin hro (.skip k) rfl g2 (by show F.at_ + 1 + (k : Int) = ((fr.pc + 1 + k : Nat) : Int); rw [g3]; omega) g4 g5
  | unl k =>
    simp only [Mach.own] at how
    split at how
    · rename_i b st e
      cases how
      obtain ⟨sv, x, e1, h1, h2⟩ := up e
      obtain rfl : x = .bl b := h2
      exact fin hro (.unl k b sv e1) rfl g2 (by
        show F.at_ + 1 + (if b = true then 0 else (k : Int)) = ((fr.pc + 1 + (if b then 0 else k) : Nat) : Int)
        rw [g3]; cases b <;> simp) g4 h1
    · cases how
  | two g =>
    simp only [Mach.own] at how
    split at how
    · rename_i y x st e
      obtain ⟨res, hres2, how⟩ := Option.map_eq_some_iff.mp how
      rw [e, List.reverse_cons, List.reverse_cons] at g5
      obtain ⟨sv, yv, e1, h1, hy⟩ := Pd.snoc_inv g5
      obtain ⟨su, xv, e2, h2, hx⟩ := Pd.snoc_inv h1
      subst e2
      obtain ⟨sg, hs1, hs2⟩ := sgn_val g
      obtain ⟨rr, htw, hc⟩ := two_rel hx hy hres2 hs2
      refine ⟨r, a, tl, sgN g, [], F, rfl, hro, g1, by omega, by omega, .inl ⟨sg, su, xv, yv, rr, hs1, by rw [e1, List.append_assoc]; rfl, htw, fun why p q' H' er s1 hq hp => ?_, fun v p pf H' er s1 hf hp => ?_⟩⟩
      · rcases hc with ⟨v, av, _, e3, _⟩ | ⟨e3, e4⟩ | ⟨e3, e4⟩
        · rw [e3] at er; exact absurd (V.str.inj (List.cons.inj er).1) (by decide)
        · rw [e4] at er
          obtain rfl : why = "great" := (V.str.inj (List.cons.inj (List.cons.inj er).2).1).symm
          subst e3
          refine ⟨p, rfl, s1, .inr ⟨q', .great, ?_, hp, by rw [e4] at hq; exact hq⟩⟩
          rcases hres with ⟨f'', e', _⟩ | ⟨e'', e', h⟩
          · rw [← how] at e'; cases e'
          · rw [← how] at e'; cases e'; exact h
        · rw [e4] at er
          obtain rfl : why = "nought" := (V.str.inj (List.cons.inj (List.cons.inj er).2).1).symm
          subst e3
          refine ⟨p, rfl, s1, .inr ⟨q', .nought, ?_, hp, by rw [e4] at hq; exact hq⟩⟩
          rcases hres with ⟨f'', e', _⟩ | ⟨e'', e', h⟩
          · rw [← how] at e'; cases e'
          · rw [← how] at e'; cases e'; exact h
      · rcases hc with ⟨v', av, e3, e4, hv⟩ | ⟨e3, e4⟩ | ⟨e3, e4⟩
        · rw [e4] at er
          obtain rfl : v' = v := (List.cons.inj (List.cons.inj er).2).1
          subst e3
          refine ⟨p, rfl, s1, .inl ⟨pf, { fr with pc := fr.pc + 1, st := av :: st }, ?_, mkFr hf g2 (by show F.at_ + 1 = _; rw [g3]; rfl) (AtVs.t g4 (Same.t s1)) ?_, hp⟩⟩
          · rcases hres with ⟨f'', e', h⟩ | ⟨e'', e', _⟩
            · rw [← how] at e'; cases e'; exact h
            · rw [← how] at e'; cases e'
          · show AtVs K H' (su ++ [v']) (av :: st).reverse
            rw [List.reverse_cons]
            exact Pd.app (AtVs.t h2 (Same.t s1)) (.cons (hv H') .nil)
        · rw [e4] at er; exact absurd (V.str.inj (List.cons.inj er).1) (by decide)
        · rw [e4] at er; exact absurd (V.str.inj (List.cons.inj er).1) (by decide)
    · cases how
section
variable {C_Places C_Machine D_ROW_SIGNS : Addr} {P : Program} {w : World} {K : PySem.W.Frag} {mg : Str → Option Value} {base : Heap}
theorem ok_doown (T : Txt P w K mg C_Places C_Machine D_ROW_SIGNS) (h_own_done : Has P w K mg base 4 "own_done" ["row", "frame", "things"] (sp_own K)) (h_Machine_end : HasM P w K mg base 1 C_Machine "end" ["self", "told"] (sp_end C_Machine C_Places K)) : HasM P w K mg base 5 C_Machine "do_own" ["self", "row", "frame"] (sp_doown C_Machine C_Places K) := by
  refine HasM.of T.m_Machine_do_own sc_Machine_do_own (fun _ _ _ _ _ _ us hl => el3 us hl fun _ _ _ => rfl) (fun vs H Q E h => ?_) (fun f cdv A outer s H vs Q E hr h => ?_)
  · obtain ⟨ex, o, P, s, r, a, row, n, f, fs, s', rfl, _⟩ := h
    rfl
  obtain ⟨ex, o, P', s', r, a, row, n, fr, fs, s2, rfl, M, top, hro, hio, hrow, q⟩ := h
  refine ⟨_, (pss_cons (ps_asg (pe_has h_own_done hr (by decide) rfl (pa_cons (pvF 1) (pa_cons (pvF 2) (pa_cons (pe_fldF (pvF 0) rfl) pa_nil)))) (pg_tupF (n := 2) rfl (pgs_consF (pg_name (i := 3) sc_Machine_do_own.nd rfl (Or.inl rfl)) (pgs_consF (pg_name (i := 4) sc_Machine_do_own.nd rfl (Or.inl rfl)) pgs_nil))))
    (pss_cons (ps_asg (pvF 3) (pg_sub (pe_fldF (pvF 0) rfl) (pe_un un_neg pe_int) set_listF))
    (pss_one (ps_if (pt_cmpR op_notN (pvF 4) pe_non (nomark _)) (pss_one (ps_expr (pe_hasMF (pvF 0) T.Machine.cl h_Machine_end hr (by decide) (pa_cons (pvF 4) pa_nil)))) pss_nil)))), ?_⟩
  walk_at "rd"
  obtain ⟨ow, how, hres⟩ := own_inv hio hrow
  obtain ⟨e0, hx, he0⟩ := M.ins
  obtain ⟨ms, m1, m2⟩ := M.mad
  have nn := top.nn
  have lf := top.sz.fr' top.fr
  refine ⟨C_Machine, o.dx, _, hx, T.Machine.cl, T.n_Machine_made, _, lk_made, ?_⟩
  refine sp_own_imp (own_lem hro hio top.at_ (SqL.of m1) m2 how hres (by omega) (by omega)) ?_
  rintro v H1 ⟨p, rfl, s1, hcase⟩
  have M1 := M.same s1
  obtain ⟨e1, hx1, _⟩ := M1.ins
  rcases hcase with ⟨pf, f', rfl, hf, hp⟩ | ⟨q', e, rfl, hp, he⟩
  · obtain ⟨xs, j, c1, c2, M2, k2⟩ := M1.put top.fr hf
    refine ⟨p, rfl, _, hp, rfl, _, _, rfl, _, _, rfl, rfl, C_Machine, o.dx, _, hx1, T.Machine.cl, T.n_Machine_stacked, _, lk_stacked, o.sk, rfl, xs, c1, j, c2, ?_⟩
    rw [if_neg (by simp)]
    exact q o _ rfl ((M.keepS s1).trans k2) M2
  · obtain ⟨xs, j, c1, c2, M2, k2⟩ := M1.put top.fr (show FrV K H1 (.ref a) fr from ⟨a, rfl, top.at_.t (Same.t s1)⟩)
    refine ⟨p, rfl, _, hp, rfl, _, _, rfl, _, _, rfl, rfl, C_Machine, o.dx, _, hx1, T.Machine.cl, T.n_Machine_stacked, _, lk_stacked, o.sk, rfl, xs, c1, j, c2, ?_⟩
    rw [if_pos (by simp)]
    obtain ⟨e2, hx2, _⟩ := M2.ins
    exact ⟨o.dx, _, hx2, rfl, ex, o, P', _, q', e, rfl, M2, he.t k2.t, fun qq H3 k3 M3 => q { o with sk := qq } _ rfl (((M.keepS s1).trans k2).trans k3) M3⟩
end
end K63
end

section
set_option Elab.async false
set_option linter.all false
set_option maxRecDepth 100000
set_option maxHeartbeats 4000000
set_option pp.deepTerms true
set_option format.width 200
namespace K63
open PySem L2 MM
open Mach (AV AFr Row Sg Blk MS PL Mem getP updM seen others Bd)
seal L2.PE L2.PA L2.PT L2.PS L2.PSs L2.PG L2.PGs L2.PI L2.PW
theorem call_inv {P : Mach.Prog} {s s2 : MS} {f : AFr} {fs : List AFr} {site word many : Nat} (h : Mach.rowM P s f fs (.call site word many) = some s2) : ∃ k rest t b s1, (f.st.take many).reverse = .th k :: rest ∧ many ≤ f.st.length ∧ s.made[k]? = some t ∧ Mach.found P s t.1 site word = some (b, s1) ∧ Mach.enter P s1 f fs b many = some s2 := by
  simp only [Mach.rowM] at h
  split at h
  · rename_i k rest e
    split at h
    · rename_i hm
      obtain ⟨t, ht, h⟩ := Option.bind_eq_some_iff.mp h
      obtain ⟨⟨b, s1⟩, hb, h⟩ := Option.bind_eq_some_iff.mp h
      exact ⟨k, rest, t, b, s1, e, hm, ht, hb, h⟩
    · cases h
  · cases h
theorem own_name {K : PySem.W.Frag} {H : Hp} {r : Addr} {row : Row} (hi : isOwn row = true) (h : RowAt K H r row) : ∃ nm args, SqT K H r (.str nm :: args) ∧ V.str nm ≠ .str "make" ∧ V.str nm ≠ .str "put" ∧ V.str nm ≠ .str "call" ∧ V.str nm ≠ .str "straight" ∧ V.str nm ≠ .str "back" := by
  cases row with
  | make _ _ => cases hi
  | put _ => cases hi
  | call _ _ _ => cases hi
  | straight _ _ => cases hi
  | back => cases hi
  | push v => obtain ⟨x, a, _⟩ := h; exact ⟨_, _, a, by decide⟩
  | load i => exact ⟨_, _, h, by decide⟩
  | nt => exact ⟨_, _, h, by decide⟩
  | get pl => exact ⟨_, _, h, by decide⟩
  | keep i => exact ⟨_, _, h, by decide⟩
  | drop => exact ⟨_, _, h, by decide⟩
  | skip k => exact ⟨_, _, h, by decide⟩
  | unl k => exact ⟨_, _, h, by decide⟩
  | two g => cases g <;> exact ⟨_, _, h, by decide⟩
section
variable {C_Places C_Machine D_ROW_SIGNS : Addr} {P : Program} {w : World} {K : PySem.W.Frag} {mg : Str → Option Value} {base : Heap}
theorem ok_calls (T : Txt P w K mg C_Places C_Machine D_ROW_SIGNS) : HasM P w K mg base 1 C_Machine "calls" ["self"] (sp_num C_Machine C_Places K (fun s => s.calls)) := by
  refine HasM.of T.m_Machine_calls sc_Machine_calls (fun _ _ _ _ _ _ us hl => el1 us hl fun _ => rfl) (fun vs H Q E h => ?_) (fun f cdv A outer s H vs Q E hr h => ?_)
  · obtain ⟨ex, o, P, s, rfl, _⟩ := h
    rfl
  obtain ⟨ex, o, P', s', rfl, M, q⟩ := h
  refine ⟨_, (pss_one (ps_ret (pe_fldF (pvF 0) rfl))), ?_⟩
  walk_at "rd"
  obtain ⟨e0, hx, he0⟩ := M.ins
  exact ⟨C_Machine, o.dx, _, hx, T.Machine.cl, T.n_Machine_call_count, _, lk_calls, q⟩
theorem ok_looks (T : Txt P w K mg C_Places C_Machine D_ROW_SIGNS) : HasM P w K mg base 1 C_Machine "looks" ["self"] (sp_num C_Machine C_Places K (fun s => s.looks)) := by
  refine HasM.of T.m_Machine_looks sc_Machine_looks (fun _ _ _ _ _ _ us hl => el1 us hl fun _ => rfl) (fun vs H Q E h => ?_) (fun f cdv A outer s H vs Q E hr h => ?_)
  · obtain ⟨ex, o, P, s, rfl, _⟩ := h
    rfl
  obtain ⟨ex, o, P', s', rfl, M, q⟩ := h
  refine ⟨_, (pss_one (ps_ret (pe_fldF (pvF 0) rfl))), ?_⟩
  walk_at "rd"
  obtain ⟨e0, hx, he0⟩ := M.ins
  exact ⟨C_Machine, o.dx, _, hx, T.Machine.cl, T.n_Machine_look_count, _, lk_looks, q⟩
theorem ok_hits (T : Txt P w K mg C_Places C_Machine D_ROW_SIGNS) : HasM P w K mg base 1 C_Machine "hits" ["self"] (sp_num C_Machine C_Places K (fun s => s.hits)) := by
  refine HasM.of T.m_Machine_hits sc_Machine_hits (fun _ _ _ _ _ _ us hl => el1 us hl fun _ => rfl) (fun vs H Q E h => ?_) (fun f cdv A outer s H vs Q E hr h => ?_)
  · obtain ⟨ex, o, P, s, rfl, _⟩ := h
    rfl
  obtain ⟨ex, o, P', s', rfl, M, q⟩ := h
  refine ⟨_, (pss_one (ps_ret (pe_fldF (pvF 0) rfl))), ?_⟩
  walk_at "rd"
  obtain ⟨e0, hx, he0⟩ := M.ins
  exact ⟨C_Machine, o.dx, _, hx, T.Machine.cl, T.n_Machine_hit_count, _, lk_hits, q⟩
theorem ok_rows_done (T : Txt P w K mg C_Places C_Machine D_ROW_SIGNS) : HasM P w K mg base 1 C_Machine "rows_done" ["self"] (sp_num C_Machine C_Places K (fun s => s.rows)) := by
  refine HasM.of T.m_Machine_rows_done sc_Machine_rows_done (fun _ _ _ _ _ _ us hl => el1 us hl fun _ => rfl) (fun vs H Q E h => ?_) (fun f cdv A outer s H vs Q E hr h => ?_)
  · obtain ⟨ex, o, P, s, rfl, _⟩ := h
    rfl
  obtain ⟨ex, o, P', s', rfl, M, q⟩ := h
  refine ⟨_, (pss_one (ps_ret (pe_fldF (pvF 0) rfl))), ?_⟩
  walk_at "rd"
  obtain ⟨e0, hx, he0⟩ := M.ins
  exact ⟨C_Machine, o.dx, _, hx, T.Machine.cl, T.n_Machine_row_count, _, lk_rows, q⟩
theorem ok_answer (T : Txt P w K mg C_Places C_Machine D_ROW_SIGNS) : HasM P w K mg base 1 C_Machine "answer" ["self"] (sp_answer C_Machine C_Places K) := by
  refine HasM.of T.m_Machine_answer sc_Machine_answer (fun _ _ _ _ _ _ us hl => el1 us hl fun _ => rfl) (fun vs H Q E h => ?_) (fun f cdv A outer s H vs Q E hr h => ?_)
  · obtain ⟨ex, o, P, s, rfl, _⟩ := h
    rfl
  obtain ⟨ex, o, P', s', rfl, M, q⟩ := h
  refine ⟨_, (pss_one (ps_ret (pe_fldF (pvF 0) rfl))), ?_⟩
  walk_at "rd"
  obtain ⟨e0, hx, he0⟩ := M.ins
  exact ⟨C_Machine, o.dx, _, hx, T.Machine.cl, T.n_Machine_ended, _, lk_ended, q _ he0⟩
theorem ok_frames (T : Txt P w K mg C_Places C_Machine D_ROW_SIGNS) : HasM P w K mg base 1 C_Machine "frames" ["self"] (sp_frames C_Machine C_Places K) := by
  refine HasM.of T.m_Machine_frames sc_Machine_frames (fun _ _ _ _ _ _ us hl => el1 us hl fun _ => rfl) (fun vs H Q E h => ?_) (fun f cdv A outer s H vs Q E hr h => ?_)
  · obtain ⟨ex, o, P, s, rfl, _⟩ := h
    rfl
  obtain ⟨ex, o, P', s', rfl, M, q⟩ := h
  refine ⟨_, (pss_one (ps_ret (pe_callTy call_list_of rfl T.z_list bt_list (pa_cons (pe_fldF (pvF 0) rfl) pa_nil)))), ?_⟩
  walk_at "rd"
  obtain ⟨e0, hx, he0⟩ := M.ins
  obtain ⟨ss, m1, m2⟩ := M.stk
  exact ⟨C_Machine, o.dx, _, hx, T.Machine.cl, T.n_Machine_stacked, _, lk_stacked, o.sk, rfl, ss, .inl (SqL.of m1), fun l hl => q l ss hl m2⟩
theorem ok_mstep (T : Txt P w K mg C_Places C_Machine D_ROW_SIGNS) (h_Machine_make : HasM P w K mg base 2 C_Machine "make" ["self", "house", "many", "frame"] (sp_mmake C_Machine C_Places K)) (h_Machine_set_field : HasM P w K mg base 2 C_Machine "set_field" ["self", "place", "frame"] (sp_setf C_Machine C_Places K)) (h_Machine_found_block : HasM P w K mg base 3 C_Machine "found_block" ["self", "site", "word", "many", "frame"] (sp_foundb C_Machine C_Places K)) (h_Machine_enter : HasM P w K mg base 2 C_Machine "enter" ["self", "block", "many", "frame"] (sp_menter C_Machine C_Places K)) (h_Machine_go_back : HasM P w K mg base 2 C_Machine "go_back" ["self", "frame"] (sp_goback C_Machine C_Places K)) (h_Machine_do_own : HasM P w K mg base 5 C_Machine "do_own" ["self", "row", "frame"] (sp_doown C_Machine C_Places K)) : HasM P w K mg base 6 C_Machine "step" ["self"] (sp_mstep C_Machine C_Places K) := by
  refine HasM.of T.m_Machine_step sc_Machine_step (fun _ _ _ _ _ _ us hl => el1 us hl fun _ => rfl) (fun vs H Q E h => ?_) (fun f cdv A outer s H vs Q E hr h => ?_)
  · obtain ⟨ex, o, P, s, rfl, _⟩ := h
    rfl
  obtain ⟨ex, o, P', s', rfl, M, hq⟩ := h
  refine ⟨_, (pss_cons (ps_if (pt_cmpR op_notN (pe_fldF (pvF 0) rfl) pe_non (nomark _)) (pss_one (ps_ret pe_bl)) pss_nil)
    (pss_cons (ps_fldaugF (pvF 0) pe_int iop_add)
    (pss_cons (ps_set (i := 1) sc_Machine_step.nd rfl (Or.inl rfl) (pe_ix (r := rIxLF K) ix_listF (pe_fldF (pvF 0) rfl) (pe_un un_neg pe_int) (fun _ _ => rfl)))
    (pss_cons (ps_set (i := 2) sc_Machine_step.nd rfl (Or.inl rfl) (pe_ix (r := rIxTF K) ix_tupF (pe_ix (r := rIxTF K) ix_tupF (pe_ix (r := rIxTF K) ix_tupF (pe_fldF (pvF 0) rfl) (pe_ix (r := rIxTF K) ix_tupF (pvF 1) pe_int (fun _ _ => rfl)) (fun _ _ => rfl)) pe_int (fun _ _ => rfl)) (pe_ix (r := rIxTF K) ix_tupF (pvF 1) pe_int (fun _ _ => rfl)) (fun _ _ => rfl)))
    (pss_cons (ps_if (pt_cmpR op_eq (pe_ix (r := rIxTF K) ix_tupF (pvF 2) pe_int (fun _ _ => rfl)) pe_str (nomark _)) (pss_one (ps_expr (pe_hasMF (pvF 0) T.Machine.cl h_Machine_make hr (by decide) (pa_cons (pe_ix (r := rIxTF K) ix_tupF (pvF 2) pe_int (fun _ _ => rfl)) (pa_cons (pe_ix (r := rIxTF K) ix_tupF (pvF 2) pe_int (fun _ _ => rfl)) (pa_cons (pvF 1) pa_nil)))))) (pss_one (ps_if (pt_cmpR op_eq (pe_ix (r := rIxTF K) ix_tupF (pvF 2) pe_int (fun _ _ => rfl)) pe_str (nomark _)) (pss_one (ps_expr (pe_hasMF (pvF 0) T.Machine.cl h_Machine_set_field hr (by decide) (pa_cons (pe_ix (r := rIxTF K) ix_tupF (pvF 2) pe_int (fun _ _ => rfl)) (pa_cons (pvF 1) pa_nil))))) (pss_one (ps_if (pt_cmpR op_eq (pe_ix (r := rIxTF K) ix_tupF (pvF 2) pe_int (fun _ _ => rfl)) pe_str (nomark _)) (pss_one (ps_expr (pe_hasMF (pvF 0) T.Machine.cl h_Machine_enter hr (by decide) (pa_cons (pe_hasMF (pvF 0) T.Machine.cl h_Machine_found_block hr (by decide) (pa_cons (pe_ix (r := rIxTF K) ix_tupF (pvF 2) pe_int (fun _ _ => rfl)) (pa_cons (pe_ix (r := rIxTF K) ix_tupF (pvF 2) pe_int (fun _ _ => rfl)) (pa_cons (pe_ix (r := rIxTF K) ix_tupF (pvF 2) pe_int (fun _ _ => rfl)) (pa_cons (pvF 1) pa_nil))))) (pa_cons (pe_ix (r := rIxTF K) ix_tupF (pvF 2) pe_int (fun _ _ => rfl)) (pa_cons (pvF 1) pa_nil)))))) (pss_one (ps_if (pt_cmpR op_eq (pe_ix (r := rIxTF K) ix_tupF (pvF 2) pe_int (fun _ _ => rfl)) pe_str (nomark _)) (pss_one (ps_expr (pe_hasMF (pvF 0) T.Machine.cl h_Machine_enter hr (by decide) (pa_cons (pe_ix (r := rIxTF K) ix_tupF (pvF 2) pe_int (fun _ _ => rfl)) (pa_cons (pe_ix (r := rIxTF K) ix_tupF (pvF 2) pe_int (fun _ _ => rfl)) (pa_cons (pvF 1) pa_nil)))))) (pss_one (ps_if (pt_cmpR op_eq (pe_ix (r := rIxTF K) ix_tupF (pvF 2) pe_int (fun _ _ => rfl)) pe_str (nomark _)) (pss_one (ps_expr (pe_hasMF (pvF 0) T.Machine.cl h_Machine_go_back hr (by decide) (pa_cons (pvF 1) pa_nil)))) (pss_one (ps_expr (pe_hasMF (pvF 0) T.Machine.cl h_Machine_do_own hr (by decide) (pa_cons (pvF 2) (pa_cons (pvF 1) pa_nil))))))))))))))
    (pss_one (ps_ret pe_bl))))))), ?_⟩
  refine seq6 fun u5 hu5 u4 hu4 u3 hu3 u2 hu2 u1 hu1 => ?_
  walk_at "rd"
  obtain ⟨e0, hx, he0⟩ := M.ins
  refine ⟨C_Machine, o.dx, _, hx, T.Machine.cl, T.n_Machine_ended, _, lk_ended, ?_⟩
  rcases hq with ⟨hne, q⟩ | ⟨n, s2, hstep, hsz, hps, hn, q⟩
  · obtain ⟨e, he⟩ := Option.ne_none_iff_exists'.mp hne
    rw [he] at he0
    obtain ⟨a, rfl, _⟩ := he0
    rw [if_pos (by simp)]
    exact q
  unfold Mach.step at hstep
  split at hstep
  case h_2 => cases hstep
  rename_i fr fs hen hfr
  obtain ⟨row, hrow?, hrow⟩ := Option.bind_eq_some_iff.mp hstep
  rw [hen] at he0
  obtain rfl : e0 = .non := he0
  rw [if_neg (by simp)]
  subst hu1
  walk_at "rd"
  obtain ⟨M1, k1⟩ := M.set (s' := { s' with rows := s'.rows + 1 }) (e := .non) rfl rfl (Nat.le_refl _) rfl (by rw [hen]; rfl)
  refine ⟨C_Machine, o.dx, _, hx, T.Machine.cl, T.n_Machine_row_count, _, lk_rows, _, rfl, o.dx, _, hx, fs_len, ?_⟩
  rw [show ((s'.rows : Int) + 1) = ((s'.rows + 1 : Nat) : Int) from rfl, pf_rows]
  change MAt C_Machine C_Places K ex o P' { s' with rows := s'.rows + 1 } (upd H o.x (.ins C_Machine o.dx (fsM o P' .non s'.calls s'.looks s'.hits (s'.rows + 1)))) at M1
  change Keep ex H (upd H o.x (.ins C_Machine o.dx (fsM o P' .non s'.calls s'.looks s'.hits (s'.rows + 1)))) at k1
  generalize upd H o.x (.ins C_Machine o.dx (fsM o P' .non s'.calls s'.looks s'.hits (s'.rows + 1))) = H1 at *
  obtain ⟨e1, hx1, _⟩ := M1.ins
  obtain ⟨ss, a, c1, c2, c3⟩ := M1.top hfr
  have top : Top K H1 o P' (n + 1) { s' with rows := s'.rows + 1 } a fr fs := ⟨hfr, c3, hsz.up, hps, by omega⟩
  obtain ⟨F, sa, ta, h1, h2, h3, f1, f2, hsl, hstk, l1, l2⟩ := c3.st
  obtain ⟨bs, B1, B2⟩ := M1.pr.bl
  unfold Mach.row? at hrow?
  obtain ⟨b, hb, hbr⟩ := Option.bind_eq_some_iff.mp hrow?
  obtain ⟨bv, hbv, ba, ra, rs, rfl, B3, B4, B5⟩ := Pd.at B2 hb
  obtain ⟨rv, hrv, r, rfl, hr⟩ := Pd.at B5 hbr
  subst hu2
  walk_at "rd"
  refine ⟨C_Machine, o.dx, _, hx1, T.Machine.cl, T.n_Machine_stacked, _, lk_stacked, o.sk, rfl, _, SqL.of c1, _, atI_last ss _, ?_⟩
  subst hu3
  walk_at "rd"
  refine ⟨C_Machine, o.dx, _, hx1, T.Machine.cl, T.n_Machine_blocks, _, lk_blocks, _, h1, _, ix0, o.B, rfl, _, rfl, bs, B1, _, atI_nat hbv, ba, rfl, _, B3, _, ix2, _, h1, _, ix1, ra, rfl, _, rfl, rs, B4, _, atI_nat hrv, ?_⟩
  subst hu5
  subst hu4
  walk_at "rd"
  have dq : Does C_Machine C_Places K ex o P' H1 s2 .non (fun _ H' => Q (.bl true) H') := fun o' H' eo kk MM => q o' H' eo (k1.trans kk) MM
  by_cases hio : isOwn row = true
  · obtain ⟨nm, args, hR, n1, n2, n3, n4, n5⟩ := own_name hio hr
    refine ⟨_, hR, _, ix0, rfl, ?_⟩
    rw [if_neg n1]
    refine ⟨_, hR, _, ix0, rfl, ?_⟩
    rw [if_neg n2]
    refine ⟨_, hR, _, ix0, rfl, ?_⟩
    rw [if_neg n3]
    refine ⟨_, hR, _, ix0, rfl, ?_⟩
    rw [if_neg n4]
    refine ⟨_, hR, _, ix0, rfl, ?_⟩
    rw [if_neg n5]
    exact ⟨o.dx, _, hx1, rfl, ex, o, P', _, r, a, row, n + 1, fr, fs, s2, rfl, M1, top, hr, hio, hrow, dq⟩
  cases row with
  | make hh m =>
    have hR : SqT K H1 r [.str "make", .int hh, .int m] := hr
    refine ⟨_, hR, _, ix0, rfl, ?_⟩
    rw [if_pos rfl]
    exact ⟨o.dx, _, hx1, rfl, _, hR, _, ix1, _, hR, _, ix2, ex, o, P', _, a, hh, m, n + 1, fr, fs, s2, rfl, M1, top, hrow, dq⟩
  | put pl =>
    have hR : SqT K H1 r [.str "put", .int pl] := hr
    refine ⟨_, hR, _, ix0, rfl, ?_⟩
    rw [if_neg (by decide)]
    refine ⟨_, hR, _, ix0, rfl, ?_⟩
    rw [if_pos rfl]
    exact ⟨o.dx, _, hx1, rfl, _, hR, _, ix1, ex, o, P', _, a, pl, n + 1, fr, fs, s2, rfl, M1, top, hrow, dq⟩
  | call site word many =>
    have hR : SqT K H1 r [.str "call", .int site, .int word, .int many] := hr
    refine ⟨_, hR, _, ix0, rfl, ?_⟩
    rw [if_neg (by decide)]
    refine ⟨_, hR, _, ix0, rfl, ?_⟩
    rw [if_neg (by decide)]
    refine ⟨_, hR, _, ix0, rfl, ?_⟩
    rw [if_pos rfl]
    obtain ⟨k, rest, t, bb, s1, hc1, hc2, hc3, hc4, hc5⟩ := call_inv hrow
    refine ⟨o.dx, _, hx1, rfl, o.dx, _, hx1, rfl, _, hR, _, ix1, _, hR, _, ix2, _, hR, _, ix3, ?_⟩
    refine ⟨ex, o, P', _, a, site, word, many, n + 1, k, fr, fs, rest, t, bb, s1, rfl, M1, top, hc1, hc2, hc3, hc4, fun H2 k2 M2 => ?_⟩
    obtain ⟨a1, a2, a3, a4, a5, a6, a7⟩ := Mach.found_sz top.sz hc4
    have hs1 : Mach.Sz (n + 1) s1 := ⟨by rw [a1]; exact top.sz.fr, by rw [a1]; exact top.sz.fl, by rw [a2]; exact top.sz.md, by rw [a2]; exact top.sz.mi, by have := hsz.lh; rw [a6]; show s'.looks + s'.hits + 1 ≤ _; omega, a7⟩
    have top2 : Top K H2 o P' (n + 1) s1 a fr fs := ⟨by rw [a1]; exact hfr, c3.t k2.t, hs1, hps, by omega⟩
    exact ⟨_, SqT.t hR k2.t, _, ix3, ex, o, P', s1, a, bb, many, n + 1, fr, fs, s2, rfl, M2, top2, hc5, fun o' H' eo kk MM => q o' H' eo (k1.trans (k2.trans kk)) MM⟩
  | straight bl many =>
    have hR : SqT K H1 r [.str "straight", .int bl, .int many] := hr
    refine ⟨_, hR, _, ix0, rfl, ?_⟩
    rw [if_neg (by decide)]
    refine ⟨_, hR, _, ix0, rfl, ?_⟩
    rw [if_neg (by decide)]
    refine ⟨_, hR, _, ix0, rfl, ?_⟩
    rw [if_neg (by decide)]
    refine ⟨_, hR, _, ix0, rfl, ?_⟩
    rw [if_pos rfl]
    exact ⟨o.dx, _, hx1, rfl, _, hR, _, ix1, _, hR, _, ix2, ex, o, P', _, a, bl, many, n + 1, fr, fs, s2, rfl, M1, top, hrow, dq⟩
  | back =>
    have hR : SqT K H1 r [.str "back"] := hr
    refine ⟨_, hR, _, ix0, rfl, ?_⟩
    rw [if_neg (by decide)]
    refine ⟨_, hR, _, ix0, rfl, ?_⟩
    rw [if_neg (by decide)]
    refine ⟨_, hR, _, ix0, rfl, ?_⟩
    rw [if_neg (by decide)]
    refine ⟨_, hR, _, ix0, rfl, ?_⟩
    rw [if_neg (by decide)]
    refine ⟨_, hR, _, ix0, rfl, ?_⟩
    rw [if_pos rfl]
    exact ⟨o.dx, _, hx1, rfl, ex, o, P', _, a, n + 1, fr, fs, s2, rfl, M1, top, hrow, dq⟩
  | _ => exact absurd rfl hio
end
end K63
end

section
set_option Elab.async false
set_option linter.all false
set_option maxRecDepth 100000
set_option maxHeartbeats 4000000
set_option pp.deepTerms true
set_option format.width 200
namespace K63
open PySem L2 MM
open Mach (AV AFr Row Sg Blk MS PL Mem getP updM seen others Bd)
seal L2.PE L2.PA L2.PT L2.PS L2.PSs L2.PG L2.PGs L2.PI L2.PW
def initS (b : Blk) (k : Nat) (ns : List Int) : MS := ⟨[⟨k, 0, ns.map AV.int ++ List.replicate (b.size - ns.length) .non, []⟩], [], none, 0, 0, 0, 0, fun _ => none⟩
inductive Sp_minit (CM CP : Addr) (K : PySem.W.Frag) (vs : List V) (H : Hp) (Q : VK) : Prop
  | mk (ex : Addr → Prop) (x dx bl tl nl : Addr) (P : Mach.Prog) (bs tvs : List V) (ns : List Int) (b : Blk) (front : List Blk) (a1 : vs = [.ref x, .ref bl, .ref tl, .ref nl, .int P.most, .bl P.rem]) (a2 : H x = some (.ins CM dx [])) (a3 : SqL K H bl bs) (a4 : Paired (BlkAt K H) bs P.blocks) (a5 : P.blocks = front ++ [b]) (a6 : SqL K H tl tvs) (a7 : Paired (fun v t => ∃ ta, v = .ref ta ∧ SqL K H ta (t.map tabV)) tvs P.tables) (a8 : SqL K H nl (ns.map V.int)) (a9 : (∀ n ∈ ns, Bd n)) (a10 : ns.length ≤ b.size) (a11 : b.size < 900) (a12 : P.blocks.length < 900) (a13 : P.tables.length < 900) (a14 : ¬ ex x ∧ (∀ a, ex a → H a ≠ none) ∧ ∀ o H', o.x = x → SameX x H H' → MAt CM CP K ex o P (initS b front.length ns) H' → Q .non H') : Sp_minit CM CP K vs H Q
def sp_minit (CM CP : Addr) (K : PySem.W.Frag) : Sp := fun vs H Q _ => Sp_minit CM CP K vs H Q
theorem sx_t {x C dx : Addr} {fs : List (Str × V)} {H H' : Hp} (s : SameX x H H') (h : H x = some (.ins C dx fs)) : SameT H H' := fun c xs => ⟨fun e => s _ _ (ne_of e h (fun z => by cases z)) e, fun o e => s _ _ (ne_of e h (fun z => by cases z)) e⟩
theorem sx_l {K : PySem.W.Frag} {x C dx a : Addr} {fs : List (Str × V)} {xs : List V} {H H' : Hp} (s : SameX x H H') (h : H x = some (.ins C dx fs)) (q : SqL K H a xs) : SqL K H' a xs := by
  rcases q with (q | ⟨o, q⟩) | q
  · exact .inl (.inl (s _ _ (ne_of q h (fun z => by cases z)) q))
  · exact .inl (.inr ⟨o, s _ _ (ne_of q h (fun z => by cases z)) q⟩)
  · exact .inr q
theorem paired_of {α β : Type} {R : α → β → Prop} : ∀ {xs : List α} {ys : List β}, xs.length = ys.length → (∀ (j : Nat) x y, xs[j]? = some x → ys[j]? = some y → R x y) → Paired R xs ys
  | [], [], _, _ => .nil
  | x :: xs, y :: ys, e, h => .cons (h 0 x y rfl rfl) (paired_of (Nat.succ.inj e) fun j a b ha hb => h (j + 1) a b (by simpa using ha) (by simpa using hb))
theorem ints_at {K : PySem.W.Frag} {H : Hp} : ∀ {ns : List Int}, (∀ n ∈ ns, Bd n) → AtVs K H (ns.map V.int) (ns.map AV.int)
  | [], _ => .nil
  | n :: ns, h => .cons ⟨rfl, h n List.mem_cons_self⟩ (ints_at fun m hm => h m (List.mem_cons_of_mem _ hm))
theorem nons_at {K : PySem.W.Frag} {H : Hp} : ∀ k, AtVs K H (List.replicate k V.non) (List.replicate k AV.non)
  | 0 => .nil
  | k + 1 => .cons rfl (nons_at k)
theorem not_ex {ex : Addr → Prop} {H H' : Hp} {x p : Addr} (hx : ¬ ex x) (h : ∀ a, ex a → H a ≠ none) (s : SameX x H H') (e : H' p = none) : ¬ ex p := fun z => by
  obtain ⟨u, hu⟩ := Option.ne_none_iff_exists'.mp (h p z)
  exact ne_of_none (s _ _ (fun y => hx (y ▸ z)) hu) e rfl
theorem init_step {C : Addr} {H : Hp} {x dx d : Addr} (hx : H x = none) (hdx : H dx = none) (ne : ¬ dx = x) (hd : upd (upd H dx (.own x)) x (.ins C dx []) d = none) :
    Same H (upd (upd (upd (upd H dx (.own x)) x (.ins C dx [])) d (.dK [])) x (.ins C dx [("by_site", .ref d)])) ∧ upd (upd (upd (upd H dx (.own x)) x (.ins C dx [])) d (.dK [])) x (.ins C dx [("by_site", .ref d)]) d = some (.dK []) ∧ H d = none := by
  have s1 : Same H (upd H dx (.own x)) := same_upd hdx _
  have s2 : Same (upd H dx (.own x)) (upd (upd H dx (.own x)) x (.ins C dx [])) := same_upd (by rw [upd_ne (fun z => ne z.symm)]; exact hx) _
  have s3 := same_upd hd (.dK [])
  have s13 := (s1.trans s2).trans s3
  have nd : d ≠ x := fun z => by rw [z, upd_same] at hd; cases hd
  refine ⟨fun b u hb => ?_, ?_, (s1.trans s2).free hd⟩
  · rw [upd_ne (ne_of_none hb hx)]
    exact s13 b u hb
  · rw [upd_ne nd]
    exact upd_same
section
variable {C_Places C_Machine D_ROW_SIGNS : Addr} {P : Program} {w : World} {K : PySem.W.Frag} {mg : Str → Option Value} {base : Heap}
theorem ok_minit (T : Txt P w K mg C_Places C_Machine D_ROW_SIGNS) (np nk nd : Nat) (ks : List Str) (h_Places___init__ : HasM P w K mg base 1 C_Places "__init__" ["self"] (sp_pinit C_Places)) (h_entered : Has P w K mg base 1 "entered" ["block", "number", "values"] (sp_entered K))
    (hb : ∀ (kV doc pm : Value) (an : Option Addr) (cdv ct : Value) (dA : Addr) (u1 u2 : Value) (us ws : List Value), us.length = np → ws.length = nk →
      ∃ k, bindArgs (PySem.W.fnOf "__init__" "Machine.__init__" (defArgs s_Machine___init__) (defBody s_Machine___init__) (defScope s_Machine___init__) (.ref dA) kV doc pm an cdv ct) ⟨us, ks.zip ws⟩ = seqItems? (.ref dA) >>= k ∧ k (some #[u1, u2]) = pure ((["self", "blocks", "tables", "numbers", "most", "remembers"] : List Str).zip (us ++ ws ++ [u1, u2].drop (2 - nd)))) :
    HasD P w K mg base 3 C_Machine "__init__" ["self", "blocks", "tables", "numbers", "most", "remembers"] (sp_minit C_Machine C_Places K) ks (gShape np nk ([V.int 100, V.bl true].drop (2 - nd))) := by
  refine HasD.of np nk nd T.m_Machine___init__ sc_Machine___init__ (by decide) hb (fun vs H Q E h => ?_) (fun f cdv A outer s H vs Q E hr h => ?_)
  · obtain ⟨ex, x, dx, bl, tl, nl, P, bs, tvs, ns, b, front, rfl, _⟩ := h
    rfl
  obtain ⟨ex, x, dx, bl, tl, nl, P', bs, tvs, ns, b, front, rfl, hx, hbl, hbs, hfr, htl, htv, hnl, hns, hnb, hbz, lb, lt, hexx, hexs, q⟩ := h
  refine ⟨_, (pss_cons (ps_fldF (pvF 0) (pe_callTy call_tuple_of rfl T.z_tuple bt_tuple (pa_cons (pvF 1) pa_nil)) rfl)
    (pss_cons (ps_fldF (pvF 0) (pe_callTy call_tuple_of rfl T.z_tuple bt_tuple (pa_cons (pe_comp0 rfl (BlockOk.plain (N := ["table"]) rfl (by decide +kernel) (by decide +kernel) (by decide +kernel)) (pi_list (pvF 2))
          (fun C fp s H => (pg_name (i := 0) (show (["table"] : List Str).Nodup by decide +kernel) rfl (Or.inl rfl)))
          (fun C fp s H => (pe_callTy (r := rTupOf K) call_tuple_of rfl T.z_tuple bt_tuple (pa_cons (pvF 0) pa_nil)))) pa_nil)) rfl)
    (pss_cons (ps_fldF (pvF 0) (pvF 4) rfl)
    (pss_cons (ps_fldF (pvF 0) (pvF 5) rfl)
    (pss_cons (ps_fldF (pvF 0) (pe_mkM0 T.Places h_Places___init__ hr (by decide) rfl) rfl)
    (pss_cons (ps_fldF (pvF 0) (pe_lst (pa_cons (pe_has h_entered hr (by decide) rfl (pa_cons (pe_ix (r := rIxTF K) ix_tupF (pe_fldF (pvF 0) rfl) (pe_un un_neg pe_int) (fun _ _ => rfl)) (pa_cons (pe_op op_sub (pe_callB call_len_seq rfl T.z_len bt_len (pa_cons (pe_fldF (pvF 0) rfl) pa_nil)) pe_int) (pa_cons (pvF 3) pa_nil)))) pa_nil)) rfl)
    (pss_cons (ps_fldF (pvF 0) (pe_lst pa_nil) rfl)
    (pss_cons (ps_fldF (pvF 0) pe_non rfl)
    (pss_cons (ps_fldF (pvF 0) pe_int rfl)
    (pss_cons (ps_fldF (pvF 0) pe_int rfl)
    (pss_cons (ps_fldF (pvF 0) pe_int rfl)
    (pss_one (ps_fldF (pvF 0) pe_int rfl))))))))))))), ?_⟩
  refine seq12 fun uz11 huz11 uz10 huz10 uz9 huz9 uz8 huz8 uz7 huz7 uz6 huz6 uz5 huz5 uz4 huz4 uz3 huz3 uz2 huz2 uz1 huz1 => ?_
  walk_at "rd"
  refine ⟨bs, .inl ⟨hbl, fun l hl => ?_⟩⟩
  have u1 := same_upd hl (.tup bs)
  refine ⟨C_Machine, dx, _, u1 _ _ hx, T.Machine.cl, T.n_Machine_blocks, Nat.lt_of_sub_eq_succ rfl, ?_⟩
  have S1 : SameX x H (upd (upd H l (.tup bs)) x (.ins C_Machine dx (putF "blocks" (.ref l) []))) := (Same.x u1 x).trans (sameX_upd _)
  have X1 : upd (upd H l (.tup bs)) x (.ins C_Machine dx (putF "blocks" (.ref l) [])) x = some (.ins C_Machine dx (putF "blocks" (.ref l) [])) := upd_same
  have L1 : upd (upd H l (.tup bs)) x (.ins C_Machine dx (putF "blocks" (.ref l) [])) l = some (.tup bs) := by
    rw [upd_ne (fun z => ne_of_none hx hl z.symm)]; exact upd_same
  clear u1 hl
  generalize upd (upd H l (.tup bs)) x (.ins C_Machine dx (putF "blocks" (.ref l) [])) = H1 at *
  have tl1 := sx_l S1 hx htl
  subst huz1
  walk_at "rd"
  refine ⟨⟨_, tl1⟩, fun D hD => ?_⟩
  have ltv : tvs.length = P'.tables.length := Paired.length htv
  refine comp_growL (ys := tvs) none [] (fun j v H => ∃ p t, v = .ref p ∧ P'.tables[j]? = some t ∧ H p = some (.tup (t.map tabV))) (fun j v H1 H2 ⟨p, t, a, b, c⟩ s => ⟨p, t, a, b, s _ _ (fun xs z => by cases z) c⟩) rfl hD (by rw [sizeLine_eq]; omega) (fun H2 s => tl1.same s) (fun i y hy H2 K' s k => ?_) (fun vs H2 s2 hv hlv hR => ?_)
  · walk_at "rd"
    have hi : i < P'.tables.length := by rw [← ltv]; exact (List.getElem?_eq_some_iff.mp hy).1
    obtain ⟨y', hy', ta, rfl, hta⟩ := Pd.at htv (List.getElem?_eq_getElem hi)
    rw [hy] at hy'
    cases hy'
    exact ⟨ta, rfl, _, .inl ⟨(sx_l S1 hx hta).same s, fun p hp => k _ _ (same_upd hp _) ⟨p, _, rfl, List.getElem?_eq_getElem hi, upd_same⟩⟩⟩
  refine ⟨D, rfl, vs, .inl ⟨SqL.of hv, fun l2 hl2 => ?_⟩⟩
  have u2 := same_upd hl2 (.tup vs)
  refine ⟨C_Machine, dx, _, u2 _ _ (s2 _ _ X1), T.Machine.cl, T.n_Machine_house_tables, Nat.lt_of_sub_eq_succ rfl, ?_⟩
  subst huz2
  walk_at "rd"
  refine ⟨C_Machine, dx, _, upd_same, T.Machine.cl, T.n_Machine_most, Nat.lt_of_sub_eq_succ rfl, ?_⟩
  subst huz3
  walk_at "rd"
  refine ⟨C_Machine, dx, _, upd_same, T.Machine.cl, T.n_Machine_remembers, Nat.lt_of_sub_eq_succ rfl, ?_⟩
  subst huz4
  walk_at "rd"
  intro pl dp hpl hdp ndp
  simp only [upd_upd] at hpl hdp ⊢
  have S2 : SameX x H1 (upd (upd H2 l2 (.tup vs)) x (.ins C_Machine dx (putF "remembers" (.bl P'.rem) (putF "most" (.int P'.most) (putF "house_tables" (.ref l2) (putF "blocks" (.ref l) [])))))) := (Same.x (s2.trans u2) x).trans (sameX_upd _)
  have nl2 : l2 ≠ x := fun z => ne_of_none (s2 _ _ X1) hl2 z.symm
  have X2 : upd (upd H2 l2 (.tup vs)) x (.ins C_Machine dx (putF "remembers" (.bl P'.rem) (putF "most" (.int P'.most) (putF "house_tables" (.ref l2) (putF "blocks" (.ref l) []))))) x = some (.ins C_Machine dx (putF "remembers" (.bl P'.rem) (putF "most" (.int P'.most) (putF "house_tables" (.ref l2) (putF "blocks" (.ref l) []))))) := upd_same
  have LL2 : upd (upd H2 l2 (.tup vs)) x (.ins C_Machine dx (putF "remembers" (.bl P'.rem) (putF "most" (.int P'.most) (putF "house_tables" (.ref l2) (putF "blocks" (.ref l) []))))) l2 = some (.tup vs) := by
    rw [upd_ne nl2]; exact upd_same
  have R2 : ∀ (j : Nat) v, vs[j]? = some v → ∃ p t, v = .ref p ∧ P'.tables[j]? = some t ∧ upd (upd H2 l2 (.tup vs)) x (.ins C_Machine dx (putF "remembers" (.bl P'.rem) (putF "most" (.int P'.most) (putF "house_tables" (.ref l2) (putF "blocks" (.ref l) []))))) p = some (.tup (t.map tabV)) := fun j v hj => by
    obtain ⟨p, t, a, b, c⟩ := hR j v hj
    exact ⟨p, t, a, b, (sx_t (sameX_upd _) (u2 _ _ (s2 _ _ X1)) p _).1 (u2 _ _ c)⟩
  clear u2 hl2
  generalize upd (upd H2 l2 (.tup vs)) x (.ins C_Machine dx (putF "remembers" (.bl P'.rem) (putF "most" (.int P'.most) (putF "house_tables" (.ref l2) (putF "blocks" (.ref l) []))))) = H3 at *
  refine ⟨pl, dp, rfl, upd_same, fun d hd => ⟨rfl, ?_⟩⟩
  obtain ⟨s3, hd3, hd0⟩ := init_step hpl hdp ndp hd
  have P3 : upd (upd (upd (upd H3 dp (.own pl)) pl (.ins C_Places dp [])) d (.dK [])) pl (.ins C_Places dp [("by_site", .ref d)]) pl = some (.ins C_Places dp [("by_site", .ref d)]) := upd_same
  have npl : x ≠ pl := ne_of_none X2 hpl
  have nd : d ≠ x := fun z => ne_of_none X2 hd0 z.symm
  have xpl : ¬ ex pl := not_ex hexx hexs (S1.trans S2) hpl
  have xd : ¬ ex d := not_ex hexx hexs (S1.trans S2) hd0
  clear hpl hdp ndp hd
  generalize upd (upd (upd (upd H3 dp (.own pl)) pl (.ins C_Places dp [])) d (.dK [])) pl (.ins C_Places dp [("by_site", .ref d)]) = H4 at *
  refine ⟨C_Machine, dx, _, s3 _ _ X2, T.Machine.cl, T.n_Machine_places, Nat.lt_of_sub_eq_succ rfl, ?_⟩
  have S5 : SameX x H3 (upd H4 x (.ins C_Machine dx (putF "places" (.ref pl) (putF "remembers" (.bl P'.rem) (putF "most" (.int P'.most) (putF "house_tables" (.ref l2) (putF "blocks" (.ref l) []))))))) := (Same.x s3 x).trans (sameX_upd _)
  have X5 : upd H4 x (.ins C_Machine dx (putF "places" (.ref pl) (putF "remembers" (.bl P'.rem) (putF "most" (.int P'.most) (putF "house_tables" (.ref l2) (putF "blocks" (.ref l) [])))))) x = some (.ins C_Machine dx (putF "places" (.ref pl) (putF "remembers" (.bl P'.rem) (putF "most" (.int P'.most) (putF "house_tables" (.ref l2) (putF "blocks" (.ref l) [])))))) := upd_same
  have P5 : upd H4 x (.ins C_Machine dx (putF "places" (.ref pl) (putF "remembers" (.bl P'.rem) (putF "most" (.int P'.most) (putF "house_tables" (.ref l2) (putF "blocks" (.ref l) [])))))) pl = some (.ins C_Places dp [("by_site", .ref d)]) := by rw [upd_ne (fun z => npl z.symm)]; exact P3
  have D5 : upd H4 x (.ins C_Machine dx (putF "places" (.ref pl) (putF "remembers" (.bl P'.rem) (putF "most" (.int P'.most) (putF "house_tables" (.ref l2) (putF "blocks" (.ref l) [])))))) d = some (.dK []) := by rw [upd_ne nd]; exact hd3
  clear s3 P3 hd3
  generalize upd H4 x (.ins C_Machine dx (putF "places" (.ref pl) (putF "remembers" (.bl P'.rem) (putF "most" (.int P'.most) (putF "house_tables" (.ref l2) (putF "blocks" (.ref l) [])))))) = H5 at *
  have S15 : SameX x H1 H5 := S2.trans S5
  have S05 : SameX x H H5 := S1.trans S15
  have T35 := sx_t S5 X2
  have T05 := sx_t S05 hx
  have L5 := (sx_t S15 X1 l bs).1 L1
  rw [hfr] at hbs
  obtain ⟨bs0, bv, ebs, hbs0, ba, ra, rs, rfl, hb1, hb2, hb3⟩ := Pd.snoc_inv hbs
  have lbs : bs0.length = front.length := Paired.length hbs0
  have eat : atI bs (-1) = some (.ref ba) := by rw [ebs]; exact atI_last _ _
  subst huz5
  walk_at "rd"
  refine ⟨C_Machine, dx, _, X5, T.Machine.cl, T.n_Machine_blocks, .ref l, rfl, l, rfl, bs, SqT.of L5, _, eat, C_Machine, dx, _, X5, T.Machine.cl, T.n_Machine_blocks, .ref l, rfl, l, rfl, bs, .inr (SqT.of L5), ?_⟩
  refine ⟨ba, nl, _, _, _, b.size, _, rfl, SqT.t hb1 T05, .inl (sx_l S05 hx hnl), by rw [List.length_map]; exact hnb, by omega, fun pf H6 s6 hf6 => ?_⟩
  intro sk hsk
  have u7 := same_upd hsk (.lst [.ref pf])
  have xsk : ¬ ex sk := not_ex hexx hexs (S05.trans (Same.x s6 x)) hsk
  have nsk : sk ≠ x := fun z => ne_of_none (s6 _ _ X5) hsk z.symm
  refine ⟨C_Machine, dx, _, u7 _ _ (s6 _ _ X5), T.Machine.cl, T.n_Machine_stacked, Nat.lt_of_sub_eq_succ rfl, ?_⟩
  subst huz6
  walk_at "rd"
  intro md hmd
  have S57 : SameX x H5 (upd (upd H6 sk (.lst [.ref pf])) x (.ins C_Machine dx (putF "stacked" (.ref sk) (putF "places" (.ref pl) (putF "remembers" (.bl P'.rem) (putF "most" (.int P'.most) (putF "house_tables" (.ref l2) (putF "blocks" (.ref l) [])))))))) := (Same.x (s6.trans u7) x).trans (sameX_upd _)
  have X7 : upd (upd H6 sk (.lst [.ref pf])) x (.ins C_Machine dx (putF "stacked" (.ref sk) (putF "places" (.ref pl) (putF "remembers" (.bl P'.rem) (putF "most" (.int P'.most) (putF "house_tables" (.ref l2) (putF "blocks" (.ref l) []))))))) x = some (.ins C_Machine dx (putF "stacked" (.ref sk) (putF "places" (.ref pl) (putF "remembers" (.bl P'.rem) (putF "most" (.int P'.most) (putF "house_tables" (.ref l2) (putF "blocks" (.ref l) []))))))) := upd_same
  have K7 : upd (upd H6 sk (.lst [.ref pf])) x (.ins C_Machine dx (putF "stacked" (.ref sk) (putF "places" (.ref pl) (putF "remembers" (.bl P'.rem) (putF "most" (.int P'.most) (putF "house_tables" (.ref l2) (putF "blocks" (.ref l) []))))))) sk = some (.lst [.ref pf]) := by rw [upd_ne nsk]; exact upd_same
  have T67 : SameT H6 (upd (upd H6 sk (.lst [.ref pf])) x (.ins C_Machine dx (putF "stacked" (.ref sk) (putF "places" (.ref pl) (putF "remembers" (.bl P'.rem) (putF "most" (.int P'.most) (putF "house_tables" (.ref l2) (putF "blocks" (.ref l) [])))))))) := (Same.t u7).trans (sx_t (sameX_upd _) (u7 _ _ (s6 _ _ X5)))
  have hf7 := FrAt.t hf6 T67
  clear u7 hsk T67
  generalize upd (upd H6 sk (.lst [.ref pf])) x (.ins C_Machine dx (putF "stacked" (.ref sk) (putF "places" (.ref pl) (putF "remembers" (.bl P'.rem) (putF "most" (.int P'.most) (putF "house_tables" (.ref l2) (putF "blocks" (.ref l) []))))))) = H7 at *
  have u8 := same_upd hmd (.lst [])
  have xmd : ¬ ex md := not_ex hexx hexs (S05.trans S57) hmd
  have nmd : md ≠ x := fun z => ne_of_none X7 hmd z.symm
  have nsm : sk ≠ md := ne_of_none K7 hmd
  refine ⟨C_Machine, dx, _, u8 _ _ X7, T.Machine.cl, T.n_Machine_made, Nat.lt_of_sub_eq_succ rfl, ?_⟩
  subst huz7
  walk_at "rd"
  refine ⟨C_Machine, dx, _, upd_same, T.Machine.cl, T.n_Machine_ended, Nat.lt_of_sub_eq_succ rfl, ?_⟩
  subst huz8
  walk_at "rd"
  refine ⟨C_Machine, dx, _, upd_same, T.Machine.cl, T.n_Machine_call_count, Nat.lt_of_sub_eq_succ rfl, ?_⟩
  subst huz9
  walk_at "rd"
  refine ⟨C_Machine, dx, _, upd_same, T.Machine.cl, T.n_Machine_look_count, Nat.lt_of_sub_eq_succ rfl, ?_⟩
  subst huz10
  walk_at "rd"
  refine ⟨C_Machine, dx, _, upd_same, T.Machine.cl, T.n_Machine_hit_count, Nat.lt_of_sub_eq_succ rfl, ?_⟩
  subst huz11
  walk_at "rd"
  refine ⟨C_Machine, dx, _, upd_same, T.Machine.cl, T.n_Machine_row_count, Nat.lt_of_sub_eq_succ rfl, ?_⟩
  simp only [upd_upd]
  change Q .non (upd (upd H7 md (.lst [])) x (.ins C_Machine dx (fsM ⟨x, dx, l, l2, pl, dp, d, sk, md⟩ P' .non 0 0 0 0)))
  have S7f : SameX x H7 (upd (upd H7 md (.lst [])) x (.ins C_Machine dx (fsM ⟨x, dx, l, l2, pl, dp, d, sk, md⟩ P' .non 0 0 0 0))) := (Same.x u8 x).trans (sameX_upd _)
  have Xf : upd (upd H7 md (.lst [])) x (.ins C_Machine dx (fsM ⟨x, dx, l, l2, pl, dp, d, sk, md⟩ P' .non 0 0 0 0)) x = some (.ins C_Machine dx (fsM ⟨x, dx, l, l2, pl, dp, d, sk, md⟩ P' .non 0 0 0 0)) := upd_same
  have Mf : upd (upd H7 md (.lst [])) x (.ins C_Machine dx (fsM ⟨x, dx, l, l2, pl, dp, d, sk, md⟩ P' .non 0 0 0 0)) md = some (.lst []) := by rw [upd_ne nmd]; exact upd_same
  generalize upd (upd H7 md (.lst [])) x (.ins C_Machine dx (fsM ⟨x, dx, l, l2, pl, dp, d, sk, md⟩ P' .non 0 0 0 0)) = Hf at *
  have S5f : SameX x H5 Hf := S57.trans S7f
  have S0f : SameX x H Hf := S05.trans S5f
  have T5f := sx_t S5f X5
  have T7f := sx_t S7f X7
  refine q ⟨x, dx, l, l2, pl, dp, d, sk, md⟩ Hf rfl S0f ⟨⟨.non, Xf, rfl⟩, ⟨⟨bs, SqT.of ((T5f l bs).1 L5), ?_⟩, ⟨vs, SqT.of ((T5f l2 vs).1 ((T35 l2 vs).1 LL2)), ?_⟩⟩, S5f _ _ (fun z => npl z.symm) P5, ⟨[], S5f _ _ nd D5, Nat.le_refl _, fun k => rfl⟩, ⟨[.ref pf], S7f _ _ nsk K7, .cons ⟨pf, rfl, _, FrAt.t hf7 T7f, ?_, rfl, ?_, .nil⟩ .nil⟩, ⟨[], Mf, .nil⟩, npl, nsm, ⟨hexx, xpl, xd, xsk, xmd⟩, fun y hy => ?_⟩
  · rw [hfr]
    exact Pd.imp (fun _ _ q => BlkAt.t q (sx_t S0f hx)) hbs
  · refine paired_of (hlv.trans ltv) fun j v t hv ht => ?_
    obtain ⟨p, t', rfl, e, hp⟩ := R2 j v hv
    rw [ht] at e
    cases e
    exact ⟨p, rfl, SqT.of ((T5f p _).1 ((T35 p _).1 hp))⟩
  · show V.int ((bs.length : Int) - 1) = V.int (front.length : Int)
    rw [ebs, List.length_append, lbs]
    show V.int (((front.length + 1 : Nat) : Int) - 1) = _
    congr 1
    omega
  · show AtVs K Hf (ns.map V.int ++ List.replicate (b.size - (ns.map V.int).length) V.non) (ns.map AV.int ++ List.replicate (b.size - ns.length) AV.non)
    rw [List.length_map]
    exact Pd.app (ints_at hns) (nons_at _)
  · obtain ⟨u, hu⟩ := Option.ne_none_iff_exists'.mp (hexs y hy)
    rw [S0f _ _ (fun z => hexx (z ▸ hy)) hu]; simp
end
end K63
end

section
set_option Elab.async false
set_option linter.all false
set_option maxRecDepth 100000
set_option maxHeartbeats 4000000
set_option pp.deepTerms true
set_option format.width 200
namespace K63
open PySem L2 MM
open Mach (AV AFr Row Sg Blk MS PL Mem getP updM seen others Bd)
seal L2.PE L2.PA L2.PT L2.PS L2.PSs L2.PG L2.PGs L2.PI L2.PW
inductive Sp_cell (K : PySem.W.Frag) (vs : List V) (H : Hp) (Q : VK) : Prop
  | mk (a : Addr) (ns : List Int) (k : Nat) (a1 : vs = [.ref a, .int k]) (a2 : SqL K H a (ns.map V.int)) (a3 : ∀ c, Q (.int c) H) : Sp_cell K vs H Q
def sp_cell (K : PySem.W.Frag) : Sp := fun vs H Q _ => Sp_cell K vs H Q
inductive Sp_mixed (vs : List V) (H : Hp) (Q : VK) : Prop
  | mk (c k : Int) (a1 : vs = [.int c, .int k]) (a2 : ∀ r, 0 ≤ r → r < 2147483647 → Q (.int r) H) : Sp_mixed vs H Q
def sp_mixed : Sp := fun vs H Q _ => Sp_mixed  vs H Q
inductive Sp_tellr (K : PySem.W.Frag) (vs : List V) (H : Hp) (Q : VK) : Prop
  | mk (way : Int) (a1 : vs = [.int way]) (a2 : ∀ p rs H', Same H H' → H' p = some (.tup rs) → Paired (RowV K H') rs (P63.tell (way % 3).toNat).rows → Q (.ref p) H') : Sp_tellr K vs H Q
def sp_tellr (K : PySem.W.Frag) : Sp := fun vs H Q _ => Sp_tellr K vs H Q
inductive Sp_things (CM CP : Addr) (K : PySem.W.Frag) (vs : List V) (H : Hp) (Q : VK) : Prop
  | mk (ex : Addr → Prop) (o : MO) (P : Mach.Prog) (s : MS) (a1 : vs = [.ref o.x]) (a2 : MAt CM CP K ex o P s H) (a3 : ∀ l ms, H l = none → Paired (ThV K H) ms s.made → Q (.ref l) (upd H l (.lst ms))) : Sp_things CM CP K vs H Q
def sp_things (CM CP : Addr) (K : PySem.W.Frag) : Sp := fun vs H Q _ => Sp_things CM CP K vs H Q
section
variable {C_Places C_Machine D_ROW_SIGNS : Addr} {P : Program} {w : World} {K : PySem.W.Frag} {mg : Str → Option Value} {base : Heap}
theorem ok_cell (T : Txt P w K mg C_Places C_Machine D_ROW_SIGNS) : Has P w K mg base 1 "_law_cell_at" ["_law_script", "_law_k"] (sp_cell K) := by
  refine Has.of T.f__law_cell_at sc__law_cell_at (fun _ _ _ _ _ _ us hl => el2 us hl fun _ _ => rfl) (fun vs H Q E h => ?_) (fun f cdv A outer s H vs Q E hr h => ?_)
  · obtain ⟨a, ns, k, rfl, _⟩ := h
    rfl
  obtain ⟨a, ns, k, rfl, sq, q⟩ := h
  refine ⟨_, (pss_cons (ps_if (pt_cmpR op_lt (pvF 1) (pe_callB call_len_seq rfl T.z_len bt_len (pa_cons (pvF 0) pa_nil)) (nomark _)) (pss_one (ps_ret (pe_ix (r := rIxLF K) ix_listF (pvF 0) (pvF 1) (fun _ _ => rfl)))) pss_nil)
    (pss_one (ps_ret pe_int))), ?_⟩
  walk_at "rd"
  refine ⟨_, .inl sq, ite2 (fun h => ?_) fun _ => q _⟩
  rw [List.length_map] at h
  have hk : k < ns.length := by omega
  exact ⟨_, sq, _, atI_nat (show (ns.map V.int)[k]? = some (.int ns[k]) by rw [List.getElem?_map, List.getElem?_eq_getElem hk]; rfl), q _⟩
theorem ok_mixed (T : Txt P w K mg C_Places C_Machine D_ROW_SIGNS) : Has P w K mg base 1 "_law_mixed" ["_law_cell", "_law_k"] sp_mixed := by
  refine Has.of T.f__law_mixed sc__law_mixed (fun _ _ _ _ _ _ us hl => el2 us hl fun _ _ => rfl) (fun vs H Q E h => ?_) (fun f cdv A outer s H vs Q E hr h => ?_)
  · obtain ⟨c, k, rfl, _⟩ := h
    rfl
  obtain ⟨c, k, rfl, q⟩ := h
  refine ⟨_, (pss_cons (ps_set (i := 2) sc__law_mixed.nd rfl (Or.inl rfl) (pe_op op_mod (pe_op op_add (pe_op op_add (pe_op op_mul (pvF 0) pe_int) (pe_op op_mul pe_int (pvF 1))) pe_int) pe_int))
    (pss_one (ps_ret (pe_op op_mod (pe_op op_mul (pe_op op_mod (pe_op op_mul (pvF 2) (pvF 2)) pe_int) (pvF 2)) pe_int)))), ?_⟩
  walk_at "rd"
  have n0 : 0 ≤ (c * 48271 + 7919 * k + 12345) % 2147483647 := Int.emod_nonneg _ (by decide)
  have n1 : (c * 48271 + 7919 * k + 12345) % 2147483647 < 2147483647 := Int.emod_lt_of_pos _ (by decide)
  generalize (c * 48271 + 7919 * k + 12345) % 2147483647 = n at *
  refine ⟨.inl ⟨by omega, by omega⟩, .inr ⟨by omega, by omega⟩, ?_⟩
  exact q _ (Int.emod_nonneg _ (by decide)) (Int.emod_lt_of_pos _ (by decide))
theorem ok_things (T : Txt P w K mg C_Places C_Machine D_ROW_SIGNS) : HasM P w K mg base 1 C_Machine "things" ["self"] (sp_things C_Machine C_Places K) := by
  refine HasM.of T.m_Machine_things sc_Machine_things (fun _ _ _ _ _ _ us hl => el1 us hl fun _ => rfl) (fun vs H Q E h => ?_) (fun f cdv A outer s H vs Q E hr h => ?_)
  · obtain ⟨ex, o, P, s, rfl, _⟩ := h
    rfl
  obtain ⟨ex, o, P', s', rfl, M, q⟩ := h
  refine ⟨_, (pss_one (ps_ret (pe_callTy call_list_of rfl T.z_list bt_list (pa_cons (pe_fldF (pvF 0) rfl) pa_nil)))), ?_⟩
  walk_at "rd"
  obtain ⟨e0, hx, he0⟩ := M.ins
  obtain ⟨ms, m1, m2⟩ := M.mad
  exact ⟨C_Machine, o.dx, _, hx, T.Machine.cl, T.n_Machine_made, _, lk_made, o.md, rfl, ms, .inl (SqL.of m1), fun l hl => q l ms hl m2⟩
theorem ok_tellr (T : Txt P w K mg C_Places C_Machine D_ROW_SIGNS) : Has P w K mg base 1 "_law_tell_rows" ["_law_way"] (sp_tellr K) := by
  refine Has.of T.f__law_tell_rows sc__law_tell_rows (fun _ _ _ _ _ _ us hl => el1 us hl fun _ => rfl) (fun vs H Q E h => ?_) (fun f cdv A outer s H vs Q E hr h => ?_)
  · obtain ⟨way, rfl, _⟩ := h
    rfl
  obtain ⟨way, rfl, q⟩ := h
  refine ⟨_, (pss_cons (ps_if (pt_cmpR op_eq (pe_op op_mod (pvF 0) pe_int) pe_int (nomark _)) (pss_one (ps_ret (pe_tup (pa_cons (pe_tup (pa_cons pe_str (pa_cons pe_int pa_nil))) (pa_cons (pe_tup (pa_cons pe_str (pa_cons pe_int pa_nil))) (pa_cons (pe_tup (pa_cons pe_str (pa_cons pe_int pa_nil))) (pa_cons (pe_tup (pa_cons pe_str (pa_cons pe_int pa_nil))) (pa_cons (pe_tup (pa_cons pe_str (pa_cons pe_int pa_nil))) (pa_cons (pe_tup (pa_cons pe_str pa_nil)) (pa_cons (pe_tup (pa_cons pe_str pa_nil)) pa_nil)))))))))) pss_nil)
    (pss_one (ps_ret (pe_tup (pa_cons (pe_tup (pa_cons pe_str (pa_cons pe_int pa_nil))) (pa_cons (pe_tup (pa_cons pe_str (pa_cons pe_int pa_nil))) (pa_cons (pe_tup (pa_cons pe_str (pa_cons pe_int pa_nil))) (pa_cons (pe_tup (pa_cons (pe_ix (r := rIxLF K) ix_listF (pe_lst (pa_cons pe_str (pa_cons pe_str pa_nil))) (pe_op op_mod (pvF 0) pe_int) (fun _ _ => rfl)) pa_nil)) (pa_cons (pe_tup (pa_cons pe_str pa_nil)) pa_nil))))))))), ?_⟩
  refine seq2 fun uz1 huz1 => ?_
  walk_at "rd"
  have h0 : 0 ≤ way % 3 := Int.emod_nonneg _ (by decide)
  have h3 : way % 3 < 3 := Int.emod_lt_of_pos _ (by decide)
  have rw' : ∀ {H' : Hp} {t : Addr} {row : Row}, RowAt K H' t row → RowV K H' (.ref t) row := fun h => ⟨_, rfl, h⟩
  refine ite2 (fun e => ?_) (fun e => ?_)
  · skip
    refine New.of fun p1 H1 h1 s1 e1 => ?_
    refine New.of fun p2 H2 h2 s2 e2 => ?_
    refine New.of fun p3 H3 h3 s3 e3 => ?_
    refine New.of fun p4 H4 h4 s4 e4 => ?_
    refine New.of fun p5 H5 h5 s5 e5 => ?_
    refine New.of fun p6 H6 h6 s6 e6 => ?_
    refine New.of fun p7 H7 h7 s7 e7 => ?_
    refine New.of fun p8 H8 h8 s8 e8 => ?_
    have U8 : Same H8 H8 := Same.refl _
    have U7 : Same H7 H8 := s8.trans U8
    have U6 : Same H6 H8 := s7.trans U7
    have U5 : Same H5 H8 := s6.trans U6
    have U4 : Same H4 H8 := s5.trans U5
    have U3 : Same H3 H8 := s4.trans U4
    have U2 : Same H2 H8 := s3.trans U3
    have U1 : Same H1 H8 := s2.trans U2
    have U0 : Same H H8 := s1.trans U1
    have e1 := U1 _ _ e1
    have e2 := U2 _ _ e2
    have e3 := U3 _ _ e3
    have e4 := U4 _ _ e4
    have e5 := U5 _ _ e5
    have e6 := U6 _ _ e6
    have e7 := U7 _ _ e7
    refine q p8 _ _ U0 e8 ?_
    rw [e]
    exact .cons (rw' (row := .load 0) (SqT.of e1)) (.cons (rw' (row := .load 1) (SqT.of e2)) (.cons (rw' (row := .put 0) (SqT.of e3)) (.cons (rw' (row := .load 0) (SqT.of e4)) (.cons (rw' (row := .get 0) (SqT.of e5)) (.cons (rw' (row := .two .add) (SqT.of e6)) (.cons (rw' (row := .back) (SqT.of e7)) .nil))))))
  · skip
    subst huz1
    walk_at "rd"
    refine New.of fun p1 H1 h1 s1 e1 => ?_
    refine New.of fun p2 H2 h2 s2 e2 => ?_
    refine New.of fun p3 H3 h3 s3 e3 => ?_
    refine New.of fun p4 H4 h4 s4 e4 => ?_
    have fin : ∀ (x : Str) (g : Sg), sgN g = x → (P63.tell (way % 3).toNat).rows = [.load 1, .load 0, .get 0, .two g, .back] → New H4 (.tup [.str x]) fun p H5 => New H5 (.tup [.str "back"]) fun p6 H6 => New H6 (.tup [.ref p1, .ref p2, .ref p3, .ref p, .ref p6]) fun p7 H7 => Q (.ref p7) H7 := by
      intro x g ex hg
      refine New.of fun p5 H5 h5 s5 e5 => ?_
      refine New.of fun p6 H6 h6 s6 e6 => ?_
      refine New.of fun p7 H7 h7 s7 e7 => ?_
      have U7 : Same H7 H7 := Same.refl _
      have U6 : Same H6 H7 := s7.trans U7
      have U5 : Same H5 H7 := s6.trans U6
      have U4 : Same H4 H7 := s5.trans U5
      have U3 : Same H3 H7 := s4.trans U4
      have U2 : Same H2 H7 := s3.trans U3
      have U1 : Same H1 H7 := s2.trans U2
      have U0 : Same H H7 := s1.trans U1
      have e1 := U1 _ _ e1
      have e2 := U2 _ _ e2
      have e3 := U3 _ _ e3
      have e4 := U4 _ _ e4
      have e5 := U5 _ _ e5
      have e6 := U6 _ _ e6
      refine q p7 _ _ U0 e7 ?_
      rw [hg]
      subst ex
      exact .cons (rw' (row := .load 1) (SqT.of e1)) (.cons (rw' (row := .load 0) (SqT.of e2)) (.cons (rw' (row := .get 0) (SqT.of e3)) (.cons (rw' (row := .two g) (SqT.of e5)) (.cons (rw' (row := .back) (SqT.of e6)) .nil))))
    rcases (show way % 3 = 0 ∨ way % 3 = 1 by omega) with e' | e'
    · exact ⟨_, SqL.of e4, .str "add", by rw [e']; rfl, fin "add" .add rfl (by rw [e']; rfl)⟩
    · exact ⟨_, SqL.of e4, .str "sub", by rw [e']; rfl, fin "sub" .sub rfl (by rw [e']; rfl)⟩
end
end K63
end

section
set_option Elab.async false
set_option linter.all false
set_option maxRecDepth 100000
set_option maxHeartbeats 4000000
set_option pp.deepTerms true
set_option format.width 200
namespace K63
open PySem L2 MM
open Mach (AV AFr Row Sg Blk MS PL Mem getP updM seen others Bd)
seal L2.PE L2.PA L2.PT L2.PS L2.PSs L2.PG L2.PGs L2.PI L2.PW
open Mach (known hitsOf)
def PairV (K : PySem.W.Frag) (H : Hp) (v : V) (p : Nat × Nat) : Prop := ∃ t, v = .ref t ∧ SqT K H t [.int p.1, .int p.2]
theorem PairV.same {K : PySem.W.Frag} {H H' : Hp} {v : V} {p : Nat × Nat} (h : PairV K H v p) (s : Same H H') : PairV K H' v p := let ⟨t, a, b⟩ := h; ⟨t, a, b.same s⟩
def Kn (H : Hp) (dk : Addr) (n : Nat) (tr : List (Nat × Nat)) : Prop := ∃ kvs, H dk = some (.dK kvs) ∧ kvs.length ≤ n ∧ ∀ k : Nat, (valV kvs (.inl k) = none ∧ known tr k = []) ∨ ∃ l, valV kvs (.inl k) = some (.ref l) ∧ H l = some (.lst ((known tr k).map fun h : Nat => V.int h))
inductive Sp_remd (K : PySem.W.Frag) (vs : List V) (H : Hp) (Q : VK) : Prop
  | mk (l : Addr) (rs : List V) (ps : List (Nat × Nat)) (a1 : vs = [.ref l]) (a2 : SqL K H l rs) (a3 : Paired (PairV K H) rs ps) (a4 : ps.length ≤ 100000) (a5 : ∀ r H', Same H H' → H' r = some (.lst [.int ((ps.length : Int) - hitsOf ps.reverse), .int (hitsOf ps.reverse : Nat)]) → Q (.ref r) H') : Sp_remd K vs H Q
def sp_remd (K : PySem.W.Frag) : Sp := fun vs H Q _ => Sp_remd K vs H Q
theorem Pd.at' {α β : Type} {R : α → β → Prop} {xs : List α} {ys : List β} (h : Paired R xs ys) : ∀ {i : Nat} {x : α}, xs[i]? = some x → ∃ y, ys[i]? = some y ∧ R x y := by
  induction h with
  | nil => intro i x h; simp at h
  | cons a _ ih =>
    intro i x h
    cases i with
    | zero => cases h; exact ⟨_, rfl, a⟩
    | succ i => exact ih h
theorem in_ints {h : Nat} : ∀ {l : List Nat}, inV (.int h) (l.map fun h : Nat => V.int h) = decide (h ∈ l)
  | [] => rfl
  | x :: l => by
    have ih := in_ints (h := h) (l := l)
    unfold inV at ih ⊢
    rw [List.map_cons, List.any_cons, ih]
    show (decide ((x : Int) = (h : Int)) || _) = _
    by_cases e : x = h
    · subst e; simp
    · have e' : ¬ (x : Int) = (h : Int) := by omega
      have e2 : ¬ h = x := fun z => e z.symm
      simp [e', e2]
theorem filt_ints {h : Nat} : ∀ {l : List Nat}, (l.map fun h : Nat => V.int h).filter (fun v => match v with | .int n => !decide (n = (h : Int)) | _ => false) = (l.filter fun x => !decide (x = h)).map fun h : Nat => V.int h
  | [] => rfl
  | x :: l => by
    rw [List.map_cons, List.filter_cons, List.filter_cons, filt_ints (l := l)]
    by_cases e : x = h
    · subst e; simp
    · have e' : ¬ (x : Int) = (h : Int) := by omega
      simp [e, e']
section
variable {C_Places C_Machine D_ROW_SIGNS : Addr} {P : Program} {w : World} {K : PySem.W.Frag} {mg : Str → Option Value} {base : Heap}
theorem ok_remd (T : Txt P w K mg C_Places C_Machine D_ROW_SIGNS) : Has P w K mg base 1 "_law_remembered" ["_law_sites"] (sp_remd K) := by
  refine Has.of T.f__law_remembered sc__law_remembered (fun _ _ _ _ _ _ us hl => el1 us hl fun _ => rfl) (fun vs H Q E h => ?_) (fun f cdv A outer s H vs Q E hr h => ?_)
  · obtain ⟨l, rs, ps, rfl, _⟩ := h
    rfl
  obtain ⟨l, rs, ps, rfl, hl, hps, hn, q⟩ := h
  refine ⟨_, (pss_cons (ps_set (i := 1) sc__law_remembered.nd rfl (Or.inl rfl) pe_dnewK)
    (pss_cons (ps_set (i := 2) sc__law_remembered.nd rfl (Or.inl rfl) pe_int)
    (pss_cons (ps_for PassesOwn.never rfl (pi_list (pvF 0)) (pg_tupF (n := 2) rfl (pgs_consF (pg_name (i := 3) sc__law_remembered.nd rfl (Or.inl rfl)) (pgs_consF (pg_name (i := 4) sc__law_remembered.nd rfl (Or.inr rfl)) pgs_nil))) (pss_cons (ps_set (i := 5) sc__law_remembered.nd rfl (Or.inl rfl) (pe_dget2 (hu_of hr) (pvF 1) (pvF 3) (pe_lst pa_nil) ⟨rfl, rfl, rfl, rfl⟩))
    (pss_cons (ps_if (pt_cmpR (r := rIn K false) op_in_seq (pvF 4) (pvF 5) (by with_unfolding_all rfl)) (pss_one (ps_set (i := 2) sc__law_remembered.nd rfl (Or.inl rfl) (pe_op op_add (pvF 2) pe_int))) pss_nil)
    (pss_one (ps_dput (hu_of hr) (pvF 1) (pvF 3) (pe_slice (r := rSlL K) sl_list (pe_op op_cat (pe_lst (pa_cons (pvF 4) pa_nil)) (pe_comp1 rfl (BlockOk.of (N := ["_law_one", "_law_house"]) (nl := [none, some 4]) (cl := [("_law_house", s.heap.objs.size + 1)]) rfl (by decide +kernel) (by decide +kernel) rfl (sub1 rfl) (nm := ["_law_house"]) rfl (by decide +kernel) rfl (fun i hi j hj => by
            match i, hi with
            | 0, _ => cases hj
             | 1, _ => cases hj; exact ⟨_, rfl, rfl, rfl, .inl rfl⟩
            )) (pi_list (pvF 5))
          (fun C fp s H => (pg_name (i := 0) (show (["_law_one", "_law_house"] : List Str).Nodup by decide +kernel) rfl (Or.inl rfl)))
          (fun C fp s H => (pt_cmpR op_ne (pvF 0) (pvF 1) (nomark _))) (fun C fp s H => (pvF 0)))) po_none (po_some pe_int)) rfl)))))
    (pss_one (ps_ret (pe_lst (pa_cons (pe_op op_sub (pe_callB call_len_seq rfl T.z_len bt_len (pa_cons (pvF 0) pa_nil)) (pvF 2)) (pa_cons (pvF 2) pa_nil)))))))), ?_⟩
  refine seq4 fun uz3 huz3 uz2 huz2 uz1 huz1 => ?_
  walk_at "rd"
  intro dk hdk
  have s1 := same_upd hdk (.dK [])
  subst huz1
  walk_at "rd"
  subst huz2
  walk_at "rd"
  refine ⟨⟨_, hl.same s1⟩, ?_⟩
  refine loop_list rs (fun i σ H' => Same H H' ∧ Kn H' dk i ((ps.take i).reverse) ∧ ∃ o3 o4 o5, σ = [some (.ref l), some (.ref dk), some (.int (hitsOf ((ps.take i).reverse) : Nat)), o3, o4, o5]) ⟨s1, ⟨[], upd_same, Nat.le_refl _, fun k => .inl ⟨rfl, rfl⟩⟩, _, _, _, rfl⟩ (fun i σ H' _ h => hl.same h.1) ?_ ?_
  · rintro i x σ H' hx ⟨S, hK, o3, o4, o5, rfl⟩
    obtain ⟨⟨site, house⟩, hy, t, rfl, ht⟩ := Pd.at' hps hx
    refine ⟨t, rfl, [.int site, .int house], ht.same S, rfl, .int site, [.int house], rfl, .int house, [], rfl, rfl, ?_⟩
    have etr : (ps.take (i + 1)).reverse = (site, house) :: (ps.take i).reverse := by
      rw [List.take_add_one, hy]
      simp
    rw [etr]
    have hlen : i < ps.length := (List.getElem?_eq_some_iff.mp hy).1
    generalize (ps.take i).reverse = tr at *
    obtain ⟨kvs, hk, hkl, hka⟩ := hK
    refine seq3 fun uy2 huy2 uy1 huy1 => ?_
    walk_at "rd"
    refine ⟨.inl ⟨kvs, Rd.of hk⟩, ?_⟩
    refine New.of fun p1 H1 h1 s1 e1 => ?_
    refine ⟨_, DGet.k (k := .inl (site : Int)) (s1 _ _ hk), ?_⟩
    obtain ⟨rl, erl, hrl⟩ : ∃ rl, (valV kvs (.inl (site : Int))).getD (.ref p1) = .ref rl ∧ H1 rl = some (.lst ((known tr site).map fun h : Nat => V.int h)) := by
      rcases hka site with ⟨a, b⟩ | ⟨l, a, b⟩
      · exact ⟨p1, by rw [a]; rfl, by rw [b]; exact e1⟩
      · exact ⟨l, by rw [a]; rfl, s1 _ _ b⟩
    rw [erl]
    subst huy1
    walk_at "rd"
    have fin : ∀ hv : Int, hv = ((hitsOf ((site, house) :: tr) : Nat) : Int) → uy2 { nx := fun σ H' => Same H H' ∧ Kn H' dk (i + 1) ((site, house) :: tr) ∧ ∃ o3 o4 o5, σ = [some (V.ref l), some (V.ref dk), some (V.int (hitsOf ((site, house) :: tr) : Nat)), o3, o4, o5], rt := Q, bk := uz3 { nx := fun x H' => Q V.non H', rt := Q }, ct := fun σ H' => Same H H' ∧ Kn H' dk (i + 1) ((site, house) :: tr) ∧ ∃ o3 o4 o5, σ = [some (V.ref l), some (V.ref dk), some (V.int (hitsOf ((site, house) :: tr) : Nat)), o3, o4, o5] } [some (.ref l), some (.ref dk), some (.int hv), some (.int site), some (.int house), some (.ref rl)] H1 := by
      intro hv ehv
      subst ehv
      subst huy2
      walk_at "rd"
      refine New.of fun p2 H2 h2 s2 e2 => ?_
      have hrl2 := s2 _ _ hrl
      refine ⟨⟨_, SqL.of hrl2⟩, fun D hD => ?_⟩
      have sm : ∀ l, Same H2 (upd H2 D (.lst l)) := fun l => same_upd hD _
      refine comp_pure ((known tr site).map fun h : Nat => V.int h) (fun v => match v with | .int n => !decide (n = (house : Int)) | _ => false) (fun v => v) (fun σ' => ∃ v, σ' = [v, some (.int house)]) (fun x σ' => σ' = [some x, some (.int house)]) ⟨_, rfl⟩ (fun i l h => ⟨_, _, (sm l).seq (SqL.of hrl2), List.getElem?_eq_getElem h⟩) (fun l => ⟨_, (sm l).seq (SqL.of hrl2), Nat.le_refl _⟩) (fun i l x H' hi h => ⟨h.1, h.2 _ ((sm l).seq (SqL.of hrl2))⟩)
        (fun x hx σ' H' K' h1 h2 => ?_) (fun x hx σ' l K' h1 h2 => ?_) (fun x hx _ σ' l K' h1 h2 => ?_) (by rw [List.length_map, sizeLine_eq]; have := Mach.known_len tr site; omega) ?_
      · obtain ⟨v, rfl⟩ := h1
        exact h2 _ ⟨_, rfl⟩ rfl
      · subst h1
        obtain ⟨n, _, rfl⟩ := List.mem_map.mp hx
        walk_at "rd"
        exact h2
      · subst h1
        exact h2
      rw [List.map_id', filt_ints]
      refine ⟨D, rfl, _, sm _ _ _ e2, _, upd_same, ?_, ?_⟩
      · have := Mach.known_len tr site
        have l2 : ((known tr site).filter fun x => !decide (x = house)).length ≤ (known tr site).length := List.length_filter_le _ _
        rw [List.length_map]
        show 1 + _ ≤ _
        omega
      have sD := sm (((known tr site).filter fun x => !decide (x = house)).map fun h : Nat => V.int h)
      generalize upd H2 D (.lst (((known tr site).filter fun x => !decide (x = house)).map fun h : Nat => V.int h)) = HD at *
      refine New.of fun p3 H3 h3 s3 e3 => ⟨_, SqL.of e3, New.of fun p4 H4 h4 s4 e4 => ?_⟩
      have C : Same H' H4 := s1.trans (s2.trans (sD.trans (s3.trans s4)))
      have hk4 := C _ _ hk
      refine ⟨_, DPut.k (k := .inl (site : Int)) hk4 (by rw [sizeLine_eq]; omega), fun b o hb => by rw [upd_ne (ne_of_none hb hdk)]; exact (S.trans C) b o hb, ⟨_, upd_same, Nat.le_trans (length_putK _ _ _) (by omega), fun k => ?_⟩, _, rfl⟩
      by_cases ek : k = site
      · subst ek
        refine .inr ⟨p4, by rw [valV_put, if_pos rfl], ?_⟩
        rw [upd_ne (fun z => by rw [z, hk4] at e4; cases e4), e4, cut2]
        have kn : known ((k, house) :: tr) k = (house :: (known tr k).filter fun x => !decide (x = house)).take 2 := by
          show (if k = k then _ else _) = _
          rw [if_pos rfl]
        rw [kn, List.map_take]
        rfl
      · have nk : ¬ (Sum.inl (k : Int) : Key) = Sum.inl (site : Int) := fun z => ek (by have := Sum.inl.inj z; omega)
        have kn : known ((site, house) :: tr) k = known tr k := by
          show (if k = site then _ else _) = _
          rw [if_neg ek]
        rw [kn, valV_put, if_neg nk]
        rcases hka k with h | ⟨l, a, b⟩
        · exact .inl h
        · exact .inr ⟨l, a, by rw [upd_ne (fun z => by rw [z, hk] at b; cases b)]; exact C _ _ b⟩
    refine ⟨_, .inl (SqL.of hrl), rfl, by simp [flatV], ?_⟩
    have ein : inV (.int house) ((known tr site).map fun h : Nat => V.int h) = decide (house ∈ known tr site) := by
      exact in_ints
    rw [ein]
    by_cases hm : house ∈ known tr site
    · rw [if_pos (decide_eq_true hm)]
      exact fin _ (by show _ = ((hitsOf tr + (if house ∈ known tr site then 1 else 0) : Nat) : Int); rw [if_pos hm]; rfl)
    · rw [if_neg (by simp [hm])]
      exact fin _ (by show _ = ((hitsOf tr + (if house ∈ known tr site then 1 else 0) : Nat) : Int); rw [if_neg hm]; rfl)
  · rintro σ H' ⟨S, hK, o3, o4, o5, rfl⟩
    subst huz3
    walk_at "rd"
    have lrs : rs.length = ps.length := Paired.length hps
    rw [lrs, List.take_length]
    refine ⟨rs, .inl (hl.same S), ?_⟩
    refine New.of fun p1 H1 h1 s1 e1 => ?_
    rw [lrs] at e1
    exact q p1 _ (S.trans s1) e1
end
end K63
end

section
set_option Elab.async false
set_option linter.all false
set_option maxRecDepth 100000
set_option maxHeartbeats 4000000
set_option pp.deepTerms true
set_option format.width 200
namespace K63
open PySem L2 MM
open Mach (AV AFr Row Sg Blk MS PL Mem getP updM seen others Bd)
seal L2.PE L2.PA L2.PT L2.PS L2.PSs L2.PG L2.PGs L2.PI L2.PW
inductive Sp_ans (K : PySem.W.Frag) (vs : List V) (H : Hp) (Q : VK) : Prop
  | mk (p bl ld wl hl vl : Addr) (d : P63.Dr) (a1 : vs = [.ref p, .int d.most]) (a2 : SqT K H p [.ref bl, .ref ld, .ref wl, .ref hl, .ref vl, .int d.count, .int d.last]) (a3 : H wl = some (.lst (d.wy.map fun w => V.int ((d.kinds[w]?.getD 0 : Nat) : Int)))) (a4 : H hl = some (.lst [.int (d.homes 0), .int (d.homes 1), .int (d.homes 2), .int (d.homes 3)])) (a5 : H vl = some (.lst [.int (d.vals 0), .int (d.vals 1), .int (d.vals 2), .int (d.vals 3)])) (a6 : d.Ok) (a7 : ∀ r ea sl rs H', Same H H' → SqT K H' r [.ref ea, .int (P63.ans d).2.1, .ref sl] → EndIs K H' ea (P63.ans d).1 → H' sl = some (.lst rs) → Paired (PairV K H') rs (P63.ans d).2.2.reverse → Q (.ref r) H') : Sp_ans K vs H Q
def sp_ans (K : PySem.W.Frag) : Sp := fun vs H Q _ => Sp_ans K vs H Q
theorem total_back (d : P63.Dr) : ∀ j L, P63.back d j L + (P63.total d L - d.last) = P63.total d (L + j)
  | 0, L => by show d.last + _ = _; rw [Nat.add_zero]; omega
  | j + 1, L => by
    have h := total_back d j (L + 1)
    have h2 : P63.total d (L + 1) = P63.total d L + P63.told d L := rfl
    show P63.back d j (L + 1) + P63.told d L + _ = _
    rw [show L + (j + 1) = L + 1 + j by omega, ← h]
    omega
noncomputable def fld4 (d : P63.Dr) (i : Nat) : List V := [.int (P63.fields d i 0), .int (P63.fields d i 1), .int (P63.fields d i 2), .int (P63.fields d i 3)]
noncomputable def tur3 (i : Nat) : List V := [.int (P63.thA i), .int (P63.thA (i + 1)), .int (P63.thA (i + 2))]
noncomputable def AI (K : PySem.W.Frag) (d : P63.Dr) (H : Hp) (p wl hl vl sl fl : Addr) (i : Nat) (σ : St) (H' : Hp) : Prop := ∃ tl rs, Same H H' ∧ H' sl = some (.lst rs) ∧ Paired (PairV K H') rs (P63.trace d i).reverse ∧ H' fl = some (.lst (fld4 d i)) ∧ H' tl = some (.lst (tur3 i)) ∧ tl ≠ sl ∧ tl ≠ fl ∧ i ≤ 39 ∧ 1 + 2 * i ≤ d.most ∧ P63.ans d = P63.ansFrom d (d.count - i) i ∧
  ∃ o12 o13 o14 o15 o16 o17, σ = [some (.ref p), some (.int d.most), some (.ref wl), some (.ref hl), some (.ref vl), some (.int d.count), some (.int d.last), some (.ref sl), some (.ref fl), some (.int (P63.total d i)), some (.int ((1 + 2 * i : Nat) : Int)), some (.ref tl), o12, o13, o14, o15, o16, o17]
noncomputable def trJ (d : P63.Dr) (i : Nat) : Nat → List (Nat × Nat)
  | 0 => P63.trace d i
  | 1 => (0, d.homes (P63.thA i)) :: P63.trace d i
  | _ => P63.trace d (i + 1)
noncomputable def lvJ (i : Nat) : Nat → Nat
  | 0 => i
  | _ => i + 1
noncomputable def AJ (K : PySem.W.Frag) (d : P63.Dr) (H : Hp) (p wl hl vl sl fl tl l2 t0 t1 : Addr) (i j : Nat) (σ : St) (H' : Hp) : Prop := ∃ rs, Same H H' ∧ H' sl = some (.lst rs) ∧ Paired (PairV K H') rs (trJ d i j).reverse ∧ H' fl = some (.lst (fld4 d (lvJ i j))) ∧ H' tl = some (.lst (tur3 i)) ∧ H' l2 = some (.lst [.ref t0, .ref t1]) ∧ SqT K H' t0 [.int 0, .int (d.homes (P63.thA i))] ∧ SqT K H' t1 [.int 1, .int (d.homes 0)] ∧ 1 + 2 * i + j ≤ d.most ∧ (j ≠ 0 → i < 39) ∧
  ∃ o14 o15 o16 o17, σ = [some (.ref p), some (.int d.most), some (.ref wl), some (.ref hl), some (.ref vl), some (.int d.count), some (.int d.last), some (.ref sl), some (.ref fl), some (.int (P63.total d (lvJ i j))), some (.int ((1 + 2 * i + j : Nat) : Int)), some (.ref tl), some (.int i), some (.int ((d.count : Int) - i)), o14, o15, o16, o17]
theorem hom_at (d : P63.Dr) {i : Nat} (h : i < 4) : atI [V.int (d.homes 0), V.int (d.homes 1), V.int (d.homes 2), V.int (d.homes 3)] (i : Int) = some (.int (d.homes i)) := by
  have : i = 0 ∨ i = 1 ∨ i = 2 ∨ i = 3 := by omega
  rcases this with rfl | rfl | rfl | rfl <;> rfl
theorem fld_at (d : P63.Dr) {i L : Nat} (h : i < 4) : atI (fld4 d L) (i : Int) = some (.int (P63.fields d L i)) := by
  have : i = 0 ∨ i = 1 ∨ i = 2 ∨ i = 3 := by omega
  rcases this with rfl | rfl | rfl | rfl <;> rfl
theorem way_at {d : P63.Dr} (ok : d.Ok) {i : Nat} (hi : i < 4) : atI (d.wy.map fun w => V.int ((d.kinds[w]?.getD 0 : Nat) : Int)) ((d.homes i : Nat) : Int) = some (.int (P63.kd d i)) := by
  obtain ⟨w, hw, hk, _⟩ := P63.kd_at ok hi
  refine atI_nat ?_
  rw [List.getElem?_map, hw, Option.map_some, hk]
  rfl
theorem told_at {d : P63.Dr} {i : Nat} (h : P63.kd d (P63.thA i) < 3) : atI [V.int ((d.count : Int) - i + P63.fields d i (P63.thA i)), .int ((d.count : Int) - i - P63.fields d i (P63.thA i)), .int ((d.count : Int) - i + ((d.count : Int) - i))] (P63.kd d (P63.thA i) : Int) = some (.int (P63.told d i)) := by
  unfold P63.told
  have : P63.kd d (P63.thA i) = 0 ∨ P63.kd d (P63.thA i) = 1 ∨ P63.kd d (P63.thA i) = 2 := by omega
  rcases this with e | e | e <;> rw [e] <;> rfl
theorem new_at {d : P63.Dr} {i : Nat} (h : P63.kd d (P63.thA i) < 3) : atI [V.int (P63.fields d i (P63.thA i)), .int (P63.fields d i (P63.thA i)), .int ((d.count : Int) - i)] (P63.kd d (P63.thA i) : Int) = some (.int (P63.fields d (i + 1) (P63.thA i))) := by
  show _ = some (V.int (if _ then _ else _))
  have : P63.kd d (P63.thA i) = 0 ∨ P63.kd d (P63.thA i) = 1 ∨ P63.kd d (P63.thA i) = 2 := by omega
  rcases this with e | e | e
  · rw [if_neg (fun z => by have := z.2; omega), e]; rfl
  · rw [if_neg (fun z => by have := z.2; omega), e]; rfl
  · rw [if_pos ⟨rfl, e⟩, e]; rfl
theorem fld_set (d : P63.Dr) {i : Nat} (h : P63.thA i < 4) : (fld4 d i).set (P63.thA i) (.int (P63.fields d (i + 1) (P63.thA i))) = fld4 d (i + 1) := by
  have f : ∀ k, k ≠ P63.thA i → P63.fields d (i + 1) k = P63.fields d i k := fun k hk => by
    show (if _ then _ else _) = _
    rw [if_neg fun z => hk z.1]
  unfold fld4
  have : P63.thA i = 0 ∨ P63.thA i = 1 ∨ P63.thA i = 2 ∨ P63.thA i = 3 := by omega
  rcases this with e | e | e | e
  · rw [f 1 (by omega), f 2 (by omega), f 3 (by omega), e]; rfl
  · rw [f 0 (by omega), f 2 (by omega), f 3 (by omega), e]; rfl
  · rw [f 0 (by omega), f 1 (by omega), f 3 (by omega), e]; rfl
  · rw [f 0 (by omega), f 1 (by omega), f 2 (by omega), e]; rfl
theorem trace_len (d : P63.Dr) : ∀ i, (P63.trace d i).length = 2 * i + 1
  | 0 => rfl
  | i + 1 => by show (P63.trace d i).length + 1 + 1 = _; rw [trace_len d i]; omega
theorem trJ_len (d : P63.Dr) (i : Nat) : ∀ j, j ≤ 2 → (trJ d i j).length = 2 * i + 1 + j
  | 0, _ => trace_len d i
  | 1, _ => by show (P63.trace d i).length + 1 = _; rw [trace_len]
  | 2, _ => by show (P63.trace d (i + 1)).length = _; rw [trace_len]; omega
section
variable {C_Places C_Machine D_ROW_SIGNS : Addr} {P : Program} {w : World} {K : PySem.W.Frag} {mg : Str → Option Value} {base : Heap}
theorem ok_ans (T : Txt P w K mg C_Places C_Machine D_ROW_SIGNS) : Has P w K mg base 1 "_law_answer" ["_law_program_here", "_law_most"] (sp_ans K) := by
  refine Has.of T.f__law_answer sc__law_answer (fun _ _ _ _ _ _ us hl => el2 us hl fun _ _ => rfl) (fun vs H Q E h => ?_) (fun f cdv A outer s H vs Q E hr h => ?_)
  · obtain ⟨p, bl, ld, wl, hl, vl, d, rfl, _⟩ := h
    rfl
  obtain ⟨p, bl, ld, wl, hl, vl, d, rfl, hp, hwl, hhl, hvl, ok, q⟩ := h
  refine ⟨_, (pss_cons (ps_asg (pe_slice (r := rSlA K) sl_tupA (pvF 0) (po_some pe_int) po_none) (pg_tupF (n := 5) rfl (pgs_consF (pg_name (i := 2) sc__law_answer.nd rfl (Or.inl rfl)) (pgs_consF (pg_name (i := 3) sc__law_answer.nd rfl (Or.inl rfl)) (pgs_consF (pg_name (i := 4) sc__law_answer.nd rfl (Or.inl rfl)) (pgs_consF (pg_name (i := 5) sc__law_answer.nd rfl (Or.inl rfl)) (pgs_consF (pg_name (i := 6) sc__law_answer.nd rfl (Or.inl rfl)) pgs_nil)))))))
    (pss_cons (ps_set (i := 7) sc__law_answer.nd rfl (Or.inl rfl) (pe_lst (pa_cons (pe_tup (pa_cons pe_int (pa_cons (pe_ix (r := rIxLF K) ix_listF (pvF 3) pe_int (fun _ _ => rfl)) pa_nil))) pa_nil)))
    (pss_cons (ps_if (pt_cmpR op_eq (pvF 1) pe_int (nomark _)) (pss_one (ps_ret (pe_tup (pa_cons (pe_tup (pa_cons pe_str pa_nil)) (pa_cons pe_int (pa_cons (pvF 7) pa_nil)))))) pss_nil)
    (pss_cons (ps_set (i := 8) sc__law_answer.nd rfl (Or.inl rfl) (pe_callTy call_list_of rfl T.z_list bt_list (pa_cons (pvF 4) pa_nil)))
    (pss_cons (ps_set (i := 9) sc__law_answer.nd rfl (Or.inl rfl) (pvF 6))
    (pss_cons (ps_set (i := 10) sc__law_answer.nd rfl (Or.inl rfl) pe_int)
    (pss_cons (ps_set (i := 11) sc__law_answer.nd rfl (Or.inl rfl) (pe_lst (pa_cons pe_int (pa_cons pe_int (pa_cons pe_int pa_nil)))))
    (pss_cons (ps_for PassesOwn.never rfl (pi_range1 rfl T.z_range (pa_cons (pvF 5) pa_nil)) (pg_name (i := 12) sc__law_answer.nd rfl (Or.inl rfl)) (pss_cons (ps_set (i := 13) sc__law_answer.nd rfl (Or.inl rfl) (pe_op op_sub (pvF 5) (pvF 12)))
    (pss_cons (ps_for PassesOwn.never rfl (pi_list (pe_lst (pa_cons (pe_tup (pa_cons pe_int (pa_cons (pe_ix (r := rIxLF K) ix_listF (pvF 3) (pe_ix (r := rIxLF K) ix_listF (pvF 11) pe_int (fun _ _ => rfl)) (fun _ _ => rfl)) pa_nil))) (pa_cons (pe_tup (pa_cons pe_int (pa_cons (pe_ix (r := rIxLF K) ix_listF (pvF 3) pe_int (fun _ _ => rfl)) pa_nil))) pa_nil)))) (pg_tupF (n := 2) rfl (pgs_consF (pg_name (i := 14) sc__law_answer.nd rfl (Or.inl rfl)) (pgs_consF (pg_name (i := 15) sc__law_answer.nd rfl (Or.inl rfl)) pgs_nil))) (pss_cons (ps_expr (pe_bm PySem.F.plainAttrs_list PySem.F.slot_list_append PySem.F.type_list_append mt_append (pvF 7) (pa_cons (pe_tup (pa_cons (pvF 14) (pa_cons (pvF 15) pa_nil))) pa_nil)))
    (pss_cons (ps_if (pt_cmpR op_eq (pvF 10) (pvF 1) (nomark _)) (pss_one (ps_ret (pe_tup (pa_cons (pe_tup (pa_cons pe_str pa_nil)) (pa_cons (pvF 10) (pa_cons (pvF 7) pa_nil)))))) pss_nil)
    (pss_cons (ps_set (i := 10) sc__law_answer.nd rfl (Or.inl rfl) (pe_op op_add (pvF 10) pe_int))
    (pss_cons (ps_if (pt_cmpR op_eq (pvF 12) pe_int (nomark _)) (pss_one (ps_ret (pe_tup (pa_cons (pe_tup (pa_cons pe_str pa_nil)) (pa_cons (pvF 10) (pa_cons (pvF 7) pa_nil)))))) pss_nil)
    (pss_one (ps_if (pt_cmpR op_eq (pvF 14) pe_int (nomark _)) (pss_cons (ps_set (i := 16) sc__law_answer.nd rfl (Or.inl rfl) (pe_ix (r := rIxLF K) ix_listF (pvF 2) (pe_ix (r := rIxLF K) ix_listF (pvF 3) (pe_ix (r := rIxLF K) ix_listF (pvF 11) pe_int (fun _ _ => rfl)) (fun _ _ => rfl)) (fun _ _ => rfl)))
    (pss_cons (ps_set (i := 17) sc__law_answer.nd rfl (Or.inl rfl) (pe_ix (r := rIxLF K) ix_listF (pe_lst (pa_cons (pe_op op_add (pvF 13) (pe_ix (r := rIxLF K) ix_listF (pvF 8) (pe_ix (r := rIxLF K) ix_listF (pvF 11) pe_int (fun _ _ => rfl)) (fun _ _ => rfl))) (pa_cons (pe_op op_sub (pvF 13) (pe_ix (r := rIxLF K) ix_listF (pvF 8) (pe_ix (r := rIxLF K) ix_listF (pvF 11) pe_int (fun _ _ => rfl)) (fun _ _ => rfl))) (pa_cons (pe_op op_add (pvF 13) (pvF 13)) pa_nil)))) (pvF 16) (fun _ _ => rfl)))
    (pss_cons (ps_asg (pe_ix (r := rIxLF K) ix_listF (pe_lst (pa_cons (pe_ix (r := rIxLF K) ix_listF (pvF 8) (pe_ix (r := rIxLF K) ix_listF (pvF 11) pe_int (fun _ _ => rfl)) (fun _ _ => rfl)) (pa_cons (pe_ix (r := rIxLF K) ix_listF (pvF 8) (pe_ix (r := rIxLF K) ix_listF (pvF 11) pe_int (fun _ _ => rfl)) (fun _ _ => rfl)) (pa_cons (pvF 13) pa_nil)))) (pvF 16) (fun _ _ => rfl)) (pg_sub (pvF 8) (pe_ix (r := rIxLF K) ix_listF (pvF 11) pe_int (fun _ _ => rfl)) set_listF))
    (pss_one (ps_set (i := 9) sc__law_answer.nd rfl (Or.inl rfl) (pe_op op_add (pvF 9) (pvF 17))))))) pss_nil)))))))
    (pss_one (ps_set (i := 11) sc__law_answer.nd rfl (Or.inl rfl) (pe_op op_cat (pe_slice (r := rSlL K) sl_list (pvF 11) (po_some pe_int) po_none) (pe_slice (r := rSlL K) sl_list (pvF 11) po_none (po_some pe_int))))))))
    (pss_one (ps_ret (pe_tup (pa_cons (pe_tup (pa_cons pe_str (pa_cons (pvF 9) pa_nil))) (pa_cons (pvF 10) (pa_cons (pvF 7) pa_nil)))))))))))))), ?_⟩
  refine seq9 fun uz8 huz8 uz7 huz7 uz6 huz6 uz5 huz5 uz4 huz4 uz3 huz3 uz2 huz2 uz1 huz1 => ?_
  walk_at "rd"
  refine ⟨p, _, rfl, hp, fun p1 H1 s1 hp1 => ?_⟩
  rw [show cutV [V.ref bl, .ref ld, .ref wl, .ref hl, .ref vl, .int d.count, .int d.last] (some 2) none = [.ref wl, .ref hl, .ref vl, .int d.count, .int d.last] from rfl] at hp1
  refine ⟨p1, rfl, _, hp1, rfl, _, _, rfl, _, _, rfl, _, _, rfl, _, _, rfl, _, _, rfl, rfl, ?_⟩
  subst huz1
  walk_at "rd"
  refine ⟨_, SqL.of (s1 _ _ hhl), _, ix0, ?_⟩
  refine New.of fun p2 H2 h2 s2 e2 => ?_
  refine New.of fun p3 H3 h3 s3 e3 => ?_
  subst huz2
  walk_at "rd"
  have S3 : Same H H3 := s1.trans (s2.trans s3)
  have n3 : H p3 = none := (s1.trans s2).free h3
  have q' : ∀ (e : Mach.End) (c : Nat) (tr : List (Nat × Nat)), P63.ans d = (e, c, tr) → ∀ r ea rs H', Same H H' → SqT K H' r [.ref ea, .int c, .ref p3] → EndIs K H' ea e → H' p3 = some (.lst rs) → Paired (PairV K H') rs tr.reverse → Q (.ref r) H' := by
    intro e c tr h r ea rs H' a b c' d' e'
    rw [h] at q
    exact q r ea p3 rs H' a b c' d' e'
  refine ite2 (fun e => ?_) (fun e => ?_)
  · skip
    refine New.of fun p4 H4 h4 s4 e4 => ?_
    refine New.of fun p5 H5 h5 s5 e5 => ?_
    have em : d.most = 0 := by omega
    exact q' .dry 0 [(2, d.homes 0)] (by unfold P63.ans; rw [if_pos em]) p5 p4 _ H5 (S3.trans (s4.trans s5)) (SqT.of e5) (SqT.of (s5 _ _ e4)) ((s4.trans s5) _ _ e3) (.cons ⟨p2, rfl, SqT.of ((s3.trans (s4.trans s5)) _ _ e2)⟩ .nil)
  have em : ¬ d.most = 0 := fun z => e (by omega)
  subst huz3
  walk_at "rd"
  refine ⟨_, .inl (SqL.of (S3 _ _ hvl)), ?_⟩
  intro p4 h4
  have s4 := same_upd h4 (.lst [.int (d.vals 0), .int (d.vals 1), .int (d.vals 2), .int (d.vals 3)])
  have e4 : upd H3 p4 (.lst [.int (d.vals 0), .int (d.vals 1), .int (d.vals 2), .int (d.vals 3)]) p4 = some (.lst [.int (d.vals 0), .int (d.vals 1), .int (d.vals 2), .int (d.vals 3)]) := upd_same
  generalize upd H3 p4 (.lst [.int (d.vals 0), .int (d.vals 1), .int (d.vals 2), .int (d.vals 3)]) = H4 at *
  subst huz4
  walk_at "rd"
  subst huz5
  walk_at "rd"
  subst huz6
  walk_at "rd"
  refine New.of fun p5 H5 h5 s5 e5 => ?_
  subst huz7
  walk_at "rd"
  have S5 : Same H H5 := S3.trans (s4.trans s5)
  have hc := ok.c
  refine ⟨by omega, by omega, ?_⟩
  rw [show ((d.count : Int)).toNat = d.count by omega]
  have n4 : H p4 = none := S3.free h4
  have n34 : p3 ≠ p4 := ne_of_none e3 h4
  refine loop_range (AI K d H p wl hl vl p3 p4) ⟨p5, [.ref p2], S5, (s4.trans s5) _ _ e3, .cons ⟨p2, rfl, SqT.of ((s3.trans (s4.trans s5)) _ _ e2)⟩ .nil, s5 _ _ e4, e5, fun z => ne_of_none (s4 _ _ e3) h5 z.symm, fun z => ne_of_none e4 h5 z.symm, by omega, by omega, by unfold P63.ans; rw [if_neg em]; rfl, _, _, _, _, _, _, rfl⟩ ?_ ?_
  · rintro i σ H' hi ⟨tl, rs, S, hsl, hrs, hfl, htl, nt3, nt4, hi39, hmo, hans, o12, o13, o14, o15, o16, o17, rfl⟩
    have hth := P63.thA_lt i
    refine seq3 fun uy2 huy2 uy1 huy1 => ?_
    walk_at "rd"
    subst huy1
    walk_at "rd"
    refine ⟨_, SqL.of htl, .int (P63.thA i), rfl, _, rfl, _, SqL.of (S _ _ hhl), _, hom_at d hth.1, ?_⟩
    refine New.of fun p6 H6 h6 s6 e6 => ?_
    refine ⟨_, SqL.of (s6 _ _ (S _ _ hhl)), _, ix0, ?_⟩
    refine New.of fun p7 H7 h7 s7 e7 => ?_
    refine New.of fun p8 H8 h8 s8 e8 => ?_
    have S8 : Same H' H8 := s6.trans (s7.trans s8)
    have n83 : p8 ≠ p3 := fun z => ne_of_none ((s6.trans s7) _ _ hsl) h8 z.symm
    have n84 : p8 ≠ p4 := fun z => ne_of_none ((s6.trans s7) _ _ hfl) h8 z.symm
    obtain ⟨k, hk⟩ : ∃ k, d.count - i = k + 1 := ⟨d.count - i - 1, by omega⟩
    rw [hk] at hans
    refine ⟨⟨_, SqL.of e8⟩, ?_⟩
    refine loop_list [.ref p6, .ref p7] (AJ K d H p wl hl vl p3 p4 tl p8 p6 p7 i) ⟨rs, S.trans S8, S8 _ _ hsl, Pd.imp (fun _ _ h => h.same S8) hrs, S8 _ _ hfl, S8 _ _ htl, e8, SqT.of ((s7.trans s8) _ _ e6), SqT.of (s8 _ _ e7), by omega, fun z => absurd rfl z, _, _, _, _, rfl⟩ (fun j σ H'' _ h => by obtain ⟨_, _, _, _, _, _, h, _⟩ := h; exact SqL.of h) ?_ ?_
    · rintro j x σ H9 hx ⟨rs', S', hsl', hrs', hfl', htl', hl2', ht0', ht1', hmo', h39', o14', o15', o16', o17', rfl⟩
      obtain ⟨t, st, hs, rfl, ht, htr, est, hj2⟩ : ∃ t st hs, x = .ref t ∧ SqT K H9 t [.int (st : Nat), .int (hs : Nat)] ∧ trJ d i (j + 1) = (st, hs) :: trJ d i j ∧ st = j ∧ j < 2 := by
        match j, hx with
        | 0, hx => cases hx; exact ⟨p6, 0, _, rfl, ht0', rfl, rfl, by decide⟩
        | 1, hx => cases hx; exact ⟨p7, 1, _, rfl, ht1', rfl, rfl, by decide⟩
      have hdry : d.most = 1 + 2 * i + j → P63.ans d = (.dry, 1 + 2 * i + j, trJ d i (j + 1)) := by
        intro em
        rw [hans]
        unfold P63.ansFrom
        have : j = 0 ∨ j = 1 := by omega
        rcases this with rfl | rfl
        · rw [if_pos (by omega)]; rfl
        · have := h39' (by decide)
          rw [if_neg (by omega), if_neg (by omega), if_pos (by omega)]
          rw [show 2 + 2 * i = 1 + 2 * i + 1 by omega]
          rfl
      have hdeep : ¬ d.most = 1 + 2 * i + j → i = 39 → P63.ans d = (.deep, 1 + 2 * i + (j + 1), trJ d i (j + 1)) := by
        intro em e39
        obtain rfl : j = 0 := by
          by_cases z : j = 0
          · exact z
          · have := h39' z; omega
        rw [hans]
        unfold P63.ansFrom
        rw [if_neg (by omega), if_pos (by omega), show 2 + 2 * i = 1 + 2 * i + (0 + 1) by omega]
        rfl
      have lrs' : rs'.length = 2 * i + 1 + j := by rw [Paired.length hrs', List.length_reverse, trJ_len d i j (by omega)]
      refine ⟨t, rfl, _, ht, rfl, _, _, rfl, _, _, rfl, rfl, ?_⟩
      refine seq5 fun ux4 hux4 ux3 hux3 ux2 hux2 ux1 hux1 => ?_
      walk_at "rd"
      refine ⟨.inl ⟨rfl, _, SqL.of hsl'⟩, ?_⟩
      refine New.of fun p10 H10 h10 s10 e10 => ?_
      refine ⟨_, s10 _ _ hsl', by omega, ?_⟩
      have eA : upd H10 p3 (.lst (rs' ++ [.ref p10])) p3 = some (.lst (rs' ++ [.ref p10])) := upd_same
      have kA : ∀ b o, b ≠ p3 → H10 b = some o → upd H10 p3 (.lst (rs' ++ [.ref p10])) b = some o := fun b o hb h => by rw [upd_ne hb]; exact h
      have tA : SameT H10 (upd H10 p3 (.lst (rs' ++ [.ref p10]))) := t_upd _ (s10 _ _ hsl') no_lst
      have SA : Same H (upd H10 p3 (.lst (rs' ++ [.ref p10]))) := fun b o hb => kA b o (ne_of_none hb n3) ((S'.trans s10) b o hb)
      generalize upd H10 p3 (.lst (rs' ++ [.ref p10])) = HA at *
      have hrA : Paired (PairV K HA) (rs' ++ [.ref p10]) (trJ d i (j + 1)).reverse := by
        rw [htr, List.reverse_cons]
        exact Pd.app (Pd.imp (fun _ _ ⟨t, a, b⟩ => ⟨t, a, SqT.t (b.same s10) tA⟩) hrs') (.cons ⟨p10, rfl, SqT.t (SqT.of e10) tA⟩ .nil)
      have hfA := kA _ _ n34.symm (s10 _ _ hfl')
      have htA := kA _ _ nt3 (s10 _ _ htl')
      have hlA := kA _ _ n83 (s10 _ _ hl2')
      have h0A := SqT.t (ht0'.same s10) tA
      have h1A := SqT.t (ht1'.same s10) tA
      subst hux1
      walk_at "rd"
      refine ite2 (fun e => ?_) (fun e => ?_)
      · skip
        refine New.of fun p11 H11 h11 s11 e11 => ?_
        refine New.of fun p12 H12 h12 s12 e12 => ?_
        exact q' _ _ _ (hdry (by omega)) p12 p11 _ H12 (SA.trans (s11.trans s12)) (SqT.of e12) (SqT.of (s12 _ _ e11)) ((s11.trans s12) _ _ eA) (Pd.imp (fun _ _ h => h.same (s11.trans s12)) hrA)
      have em : ¬ d.most = 1 + 2 * i + j := fun z => e (by omega)
      subst hux2
      walk_at "rd"
      rw [show ((1 + 2 * i + j : Nat) : Int) + 1 = ((1 + 2 * i + (j + 1) : Nat) : Int) by omega]
      subst hux3
      walk_at "rd"
      refine ite2 (fun e => ?_) (fun e => ?_)
      · skip
        refine New.of fun p11 H11 h11 s11 e11 => ?_
        refine New.of fun p12 H12 h12 s12 e12 => ?_
        exact q' _ _ _ (hdeep em (by omega)) p12 p11 _ H12 (SA.trans (s11.trans s12)) (SqT.of e12) (SqT.of (s12 _ _ e11)) ((s11.trans s12) _ _ eA) (Pd.imp (fun _ _ h => h.same (s11.trans s12)) hrA)
      have i39 : i < 39 := by omega
      subst hux4
      walk_at "rd"
      subst est
      have : st = 0 ∨ st = 1 := by omega
      rcases this with rfl | rfl
      · refine ite2 (fun _ => ?_) (fun z => absurd rfl z)
        have ixT : atI (tur3 i) 0 = some (.int (P63.thA i)) := rfl
        have hfA : HA p4 = some (.lst (fld4 d i)) := hfA
        have fA := fld_at d (L := i) hth.1
        have hwA := SA _ _ hwl
        have hhA := SA _ _ hhl
        obtain ⟨_, _, _, hkd⟩ := P63.kd_at ok hth.1
        refine ⟨_, SqL.of htA, _, ixT, _, rfl, _, SqL.of hhA, _, hom_at d hth.1, _, rfl, _, SqL.of hwA, _, way_at ok hth.1, ?_⟩
        refine ⟨_, SqL.of htA, _, ixT, _, rfl, _, SqL.of hfA, _, fA, _, rfl, _, SqL.of htA, _, ixT, _, rfl, _, SqL.of hfA, _, fA, _, rfl, ?_⟩
        refine New.of fun p11 H11 h11 s11 e11 => ?_
        refine ⟨_, rfl, _, SqL.of e11, _, told_at hkd, _, SqL.of (s11 _ _ htA), _, ixT, _, rfl, _, SqL.of (s11 _ _ hfA), _, fA, _, SqL.of (s11 _ _ htA), _, ixT, _, rfl, _, SqL.of (s11 _ _ hfA), _, fA, ?_⟩
        refine New.of fun p12 H12 h12 s12 e12 => ?_
        have S12 := s11.trans s12
        refine ⟨_, rfl, _, SqL.of e12, _, new_at hkd, _, SqL.of (S12 _ _ htA), _, ixT, _, rfl, _, S12 _ _ hfA, _, ixN_nat (show P63.thA i < 4 from hth.1), _, rfl, ?_⟩
        rw [fld_set d hth.1]
        have eB : upd H12 p4 (.lst (fld4 d (i + 1))) p4 = some (.lst (fld4 d (i + 1))) := upd_same
        have kB : ∀ b o, b ≠ p4 → H12 b = some o → upd H12 p4 (.lst (fld4 d (i + 1))) b = some o := fun b o hb h => by rw [upd_ne hb]; exact h
        have tB : SameT HA (upd H12 p4 (.lst (fld4 d (i + 1)))) := (Same.t S12).trans (t_upd _ (S12 _ _ hfA) no_lst)
        have SB : Same H (upd H12 p4 (.lst (fld4 d (i + 1)))) := fun b o hb => kB b o (ne_of_none hb n4) ((SA.trans S12) b o hb)
        generalize upd H12 p4 (.lst (fld4 d (i + 1))) = HB at *
        exact ⟨_, SB, kB _ _ n34 (S12 _ _ eA), Pd.imp (fun _ _ ⟨t, a, b⟩ => ⟨t, a, SqT.t b tB⟩) hrA, eB, kB _ _ nt4 (S12 _ _ htA), kB _ _ n84 (S12 _ _ hlA), SqT.t h0A tB, SqT.t h1A tB, by omega, fun _ => i39, _, _, _, _, rfl⟩
      · rw [if_neg (by decide)]
        exact ⟨_, SA, eA, hrA, hfA, htA, hlA, h0A, h1A, by omega, fun _ => i39, _, _, _, _, rfl⟩
    · rintro σ H9 ⟨rs', S', hsl', hrs', hfl', htl', hl2', ht0', ht1', hmo', h39', o14', o15', o16', o17', rfl⟩
      subst huy2
      walk_at "rd"
      refine ⟨_, SqL.of htl', ?_⟩
      refine New.of fun p20 H20 h20 s20 e20 => ?_
      refine ⟨_, SqL.of (s20 _ _ htl'), ?_⟩
      refine New.of fun p21 H21 h21 s21 e21 => ?_
      refine ⟨_, s21 _ _ e20, _, e21, show 2 + 1 ≤ 16777216 by decide, ?_⟩
      refine New.of fun p22 H22 h22 s22 e22 => ?_
      have S22 : Same H9 H22 := s20.trans (s21.trans s22)
      have et : H22 p22 = some (.lst (tur3 (i + 1))) := by
        rw [e22]
        show some (HO.lst [V.int (P63.thA (i + 1)), .int (P63.thA (i + 2)), .int (P63.thA i)]) = some (.lst [V.int (P63.thA (i + 1)), .int (P63.thA (i + 2)), .int (P63.thA (i + 3))])
        rw [P63.thA3]
      have i39 := h39' (show (2 : Nat) ≠ 0 by decide)
      have hmo'' : 1 + 2 * i + 2 ≤ d.most := hmo'
      refine ⟨p22, rs', S'.trans S22, S22 _ _ hsl', Pd.imp (fun _ _ h => h.same S22) hrs', S22 _ _ hfl', et, fun z => ne_of_none ((s20.trans s21) _ _ hsl') h22 z.symm, fun z => ne_of_none ((s20.trans s21) _ _ hfl') h22 z.symm, by omega, by omega, ?_, _, _, _, _, _, _, rfl⟩
      rw [hans, show d.count - (i + 1) = k by omega]
      show (if _ then _ else _) = _
      rw [if_neg (by omega), if_neg (by omega), if_neg (by omega)]
  · rintro σ H' ⟨tl, rs, S, hsl, hrs, hfl, htl, nt3, nt4, hi39, hmo, hans, o12, o13, o14, o15, o16, o17, rfl⟩
    subst huz8
    walk_at "rd"
    rw [Nat.sub_self] at hans
    have ht := total_back d d.count 0
    have ht : P63.back d d.count 0 = P63.total d d.count := by
      rw [Nat.zero_add] at ht
      have : P63.total d 0 = d.last := rfl
      omega
    refine New.of fun p6 H6 h6 s6 e6 => ?_
    refine New.of fun p7 H7 h7 s7 e7 => ?_
    refine q' _ _ _ hans p7 p6 _ H7 (S.trans (s6.trans s7)) (SqT.of e7) ?_ ((s6.trans s7) _ _ hsl) (Pd.imp (fun _ _ h => h.same (s6.trans s7)) hrs)
    rw [ht]
    have bb := P63.back_bd ok d.count 0 (by omega)
    exact ⟨_, SqT.of (s7 _ _ e6), rfl, by rw [← ht]; unfold Mach.Bd; omega⟩
end
end K63
end

section
set_option Elab.async false
set_option linter.all false
set_option maxRecDepth 100000
set_option maxHeartbeats 4000000
set_option pp.deepTerms true
set_option format.width 200
namespace K63
open PySem L2 MM
open Mach (AV AFr Row Sg Blk MS PL Mem getP updM seen others Bd)
seal L2.PE L2.PA L2.PT L2.PS L2.PSs L2.PG L2.PGs L2.PI L2.PW
inductive Sp_prog (K : PySem.W.Frag) (vs : List V) (H : Hp) (Q : VK) : Prop
  | mk (a : Addr) (ns : List Int) (a1 : vs = [.ref a]) (a2 : SqL K H a (ns.map V.int)) (a3 : ∀ p bl ld wl hl vl bs ls (d : P63.Dr) H', Same H H' → SqT K H' p [.ref bl, .ref ld, .ref wl, .ref hl, .ref vl, .int d.count, .int d.last] → H' bl = some (.lst bs) → Paired (BlkAt K H') bs (P63.prog d true).blocks → H' ld = some (.lst ls) → Paired (fun v t => ∃ ta, v = .ref ta ∧ SqL K H' ta (t.map tabV)) ls (P63.prog d true).tables → H' wl = some (.lst (d.wy.map fun w => V.int ((d.kinds[w]?.getD 0 : Nat) : Int))) → H' hl = some (.lst [.int (d.homes 0), .int (d.homes 1), .int (d.homes 2), .int (d.homes 3)]) → H' vl = some (.lst [.int (d.vals 0), .int (d.vals 1), .int (d.vals 2), .int (d.vals 3)]) → d.Ok → Q (.ref p) H') : Sp_prog K vs H Q
def sp_prog (K : PySem.W.Frag) : Sp := fun vs H Q _ => Sp_prog K vs H Q
theorem sameN_t {H H' : Hp} (s : SameN H H') : SameT H H' := fun b xs => ⟨fun h => s _ _ (fun ys z => by cases z) h, fun o h => s _ _ (fun ys z => by cases z) h⟩
noncomputable def LI (H0 : Hp) (nw : Nat) (ld : Addr) (σ0 : Option V → St) (i : Nat) (σ : St) (H' : Hp) : Prop := ∃ ls wys, Same H0 H' ∧ H' ld = some (.lst ls) ∧ wys.length = i ∧ (∀ w ∈ wys, w < nw) ∧ Paired (fun v (w : Nat) => ∃ ta, v = .ref ta ∧ ta ≠ ld ∧ H0 ta = none ∧ H' ta = some (.lst [.int w, .int nw, .non])) ls wys ∧ ∃ o7, σ = σ0 o7
theorem lt3 {i : Nat} (h : i < 3) : i = 0 ∨ i = 1 ∨ i = 2 := by omega
theorem lt4 {i : Nat} (h : i < 4) : i = 0 ∨ i = 1 ∨ i = 2 ∨ i = 3 := by omega
theorem bd3 {r : Int} (h : -1000 ≤ r ∧ r ≤ 1000) : Bd r := by unfold Bd; omega
theorem bdn {n : Nat} (h : n ≤ 45) : Bd (n : Int) := by unfold Bd; omega
theorem four {α : Type} {l : List α} (h : l.length = 4) : ∃ a b c d, l = [a, b, c, d] := match l, h with
  | [a, b, c, d], _ => ⟨a, b, c, d, rfl⟩
noncomputable def mrow (d : P63.Dr) : Nat → List Row
  | 0 => [.push (.int (d.vals 0)), .make (d.homes 0) 1, .push (.int d.count)]
  | i + 1 => mrow d i ++ [.push (.int (d.vals (i + 1))), .make (d.homes (i + 1)) 1]
noncomputable def MI (K : PySem.W.Frag) (d : P63.Dr) (H0 : Hp) (mn : Addr) (σ0 : Option V → St) (i : Nat) (σ : St) (H' : Hp) : Prop := ∃ ms, Same H0 H' ∧ H' mn = some (.lst ms) ∧ Paired (RowV K H') ms (mrow d i) ∧ ms.length = 3 + 2 * i ∧ ∃ o, σ = σ0 o
theorem ints_of {p : Int → Prop} : ∀ {vs : List V}, (∀ (j : Nat) v, vs[j]? = some v → ∃ r : Int, v = .int r ∧ p r) → ∃ rs : List Int, vs = rs.map V.int ∧ ∀ r ∈ rs, p r
  | [], _ => ⟨[], rfl, fun _ h => by cases h⟩
  | v :: vs, h => by
    obtain ⟨r, rfl, hr⟩ := h 0 v rfl
    obtain ⟨rs, rfl, hrs⟩ := ints_of (p := p) (vs := vs) fun j v hv => h (j + 1) v hv
    exact ⟨r :: rs, rfl, fun x hx => (List.mem_cons.mp hx).elim (fun e => e ▸ hr) (hrs x)⟩
section
variable {C_Places C_Machine D_ROW_SIGNS : Addr} {P : Program} {w : World} {K : PySem.W.Frag} {mg : Str → Option Value} {base : Heap}
theorem ok_prog (T : Txt P w K mg C_Places C_Machine D_ROW_SIGNS) (h__law_cell_at : Has P w K mg base 1 "_law_cell_at" ["_law_script", "_law_k"] (sp_cell K)) (h__law_mixed : Has P w K mg base 1 "_law_mixed" ["_law_cell", "_law_k"] sp_mixed) (h__law_tell_rows : Has P w K mg base 1 "_law_tell_rows" ["_law_way"] (sp_tellr K)) : Has P w K mg base 3 "_law_program" ["_law_script"] (sp_prog K) := by
  refine Has.of T.f__law_program sc__law_program (fun _ _ _ _ _ _ us hl => el1 us hl fun _ => rfl) (fun vs H Q E h => ?_) (fun f cdv A outer s H vs Q E hr h => ?_)
  · obtain ⟨a, ns, rfl, _⟩ := h
    rfl
  obtain ⟨a, ns, rfl, sq, q⟩ := h
  refine ⟨_, (pss_cons (ps_set (i := 1) sc__law_program.nd rfl (Or.inl rfl) (pe_has h__law_cell_at hr (by decide) rfl (pa_cons (pvF 0) (pa_cons pe_int pa_nil))))
    (pss_cons (ps_set (i := 2) sc__law_program.nd rfl (Or.inr rfl) (pe_op op_add pe_int (pe_op op_mod (pvF 1) pe_int)))
    (pss_cons (ps_set (i := 3) sc__law_program.nd rfl (Or.inr rfl) (pe_comp0 rfl (BlockOk.of (N := ["_law_k", "_law_script"]) (nl := [none, some 0]) (cl := [("_law_script", s.heap.objs.size + 1)]) rfl (by decide +kernel) (by decide +kernel) rfl (sub1 rfl) (nm := ["_law_script"]) rfl (by decide +kernel) rfl (fun i hi j hj => by
            match i, hi with
            | 0, _ => cases hj
             | 1, _ => cases hj; exact ⟨_, rfl, rfl, rfl, .inl rfl⟩
            )) (pi_range1 rfl T.z_range (pa_cons (pe_op op_add pe_int (pe_op op_mod (pe_op op_fdiv (pvF 1) pe_int) pe_int)) pa_nil))
          (fun C fp s H => (pg_name (i := 0) (show (["_law_k", "_law_script"] : List Str).Nodup by decide +kernel) rfl (Or.inl rfl)))
          (fun C fp s H => (pe_has h__law_mixed hr (by decide) rfl (pa_cons (pe_has h__law_cell_at hr (by decide) rfl (pa_cons (pvF 1) (pa_cons pe_int pa_nil))) (pa_cons (pvF 0) pa_nil))))))
    (pss_cons (ps_set (i := 4) sc__law_program.nd rfl (Or.inl rfl) (pe_tup (pa_cons (pe_tup (pa_cons pe_str (pa_cons pe_int pa_nil))) (pa_cons (pe_tup (pa_cons pe_str (pa_cons pe_int pa_nil))) (pa_cons (pe_tup (pa_cons pe_str pa_nil)) (pa_cons (pe_tup (pa_cons pe_str (pa_cons pe_int pa_nil))) (pa_cons (pe_tup (pa_cons pe_str (pa_cons (pe_op op_mod (pe_op op_fdiv (pvF 1) pe_int) pe_int) pa_nil))) (pa_cons (pe_tup (pa_cons pe_str pa_nil)) (pa_cons (pe_tup (pa_cons pe_str (pa_cons pe_int pa_nil))) pa_nil)))))))))
    (pss_cons (ps_set (i := 4) sc__law_program.nd rfl (Or.inl rfl) (pe_op (r := rCatA K) op_catA (pvF 4) (pe_tup (pa_cons (pe_tup (pa_cons pe_str (pa_cons pe_int pa_nil))) (pa_cons (pe_tup (pa_cons pe_str (pa_cons pe_int (pa_cons pe_int (pa_cons pe_int pa_nil))))) (pa_cons (pe_tup (pa_cons pe_str (pa_cons pe_int pa_nil))) (pa_cons (pe_tup (pa_cons pe_str (pa_cons pe_int pa_nil))) (pa_cons (pe_tup (pa_cons pe_str (pa_cons pe_int pa_nil))) (pa_cons (pe_tup (pa_cons pe_str (pa_cons pe_int pa_nil))) (pa_cons (pe_tup (pa_cons pe_str pa_nil)) pa_nil))))))))))
    (pss_cons (ps_set (i := 4) sc__law_program.nd rfl (Or.inl rfl) (pe_op (r := rCatA K) op_catA (pvF 4) (pe_tup (pa_cons (pe_tup (pa_cons pe_str (pa_cons pe_int pa_nil))) (pa_cons (pe_tup (pa_cons pe_str (pa_cons pe_int pa_nil))) (pa_cons (pe_tup (pa_cons pe_str (pa_cons pe_int pa_nil))) (pa_cons (pe_tup (pa_cons pe_str (pa_cons pe_int (pa_cons pe_int (pa_cons pe_int pa_nil))))) (pa_cons (pe_tup (pa_cons pe_str (pa_cons pe_int pa_nil))) (pa_cons (pe_tup (pa_cons pe_str pa_nil)) (pa_cons (pe_tup (pa_cons pe_str pa_nil)) pa_nil))))))))))
    (pss_cons (ps_set (i := 5) sc__law_program.nd rfl (Or.inl rfl) (pe_op op_cat (pe_comp0 rfl (BlockOk.plain (N := ["_law_way"]) rfl (by decide +kernel) (by decide +kernel) (by decide +kernel)) (pi_list (pvF 3))
          (fun C fp s H => (pg_name (i := 0) (show (["_law_way"] : List Str).Nodup by decide +kernel) rfl (Or.inl rfl)))
          (fun C fp s H => (pe_tup (pa_cons pe_int (pa_cons pe_int (pa_cons (pe_has h__law_tell_rows hr (by decide) rfl (pa_cons (pvF 0) pa_nil)) pa_nil)))))) (pe_lst (pa_cons (pe_tup (pa_cons pe_int (pa_cons pe_int (pa_cons (pvF 4) pa_nil)))) pa_nil))))
    (pss_cons (ps_set (i := 6) sc__law_program.nd rfl (Or.inl rfl) (pe_lst pa_nil))
    (pss_cons (ps_for PassesOwn.never rfl (pi_range1 rfl T.z_range (pa_cons (pvF 2) pa_nil)) (pg_name (i := 7) sc__law_program.nd rfl (Or.inl rfl)) (pss_one (ps_expr (pe_bm PySem.F.plainAttrs_list PySem.F.slot_list_append PySem.F.type_list_append mt_append (pvF 6) (pa_cons (pe_lst (pa_cons (pe_op op_mod (pe_has h__law_mixed hr (by decide) rfl (pa_cons (pe_op op_add (pe_has h__law_cell_at hr (by decide) rfl (pa_cons (pvF 0) (pa_cons pe_int pa_nil))) (pvF 7)) (pa_cons pe_int pa_nil))) (pe_callB call_len_seq rfl T.z_len bt_len (pa_cons (pvF 3) pa_nil))) (pa_cons (pe_callB call_len_seq rfl T.z_len bt_len (pa_cons (pvF 3) pa_nil)) (pa_cons pe_non pa_nil)))) pa_nil)))))
    (pss_cons (ps_setcomp0 rfl sc__law_program.nd (i := 8) rfl rfl (BlockOk.of (N := ["_law_k", "_law_many", "_law_script"]) (nl := [none, some 2, some 0]) (cl := [("_law_script", s.heap.objs.size + 1), ("_law_many", s.heap.objs.size + 2)]) rfl (by decide +kernel) (by decide +kernel) rfl (sub2 rfl rfl) (nm := ["_law_script", "_law_many"]) rfl (by decide +kernel) rfl (fun i hi j hj => by
            match i, hi with
            | 0, _ => cases hj
             | 1, _ => cases hj; exact ⟨_, rfl, rfl, rfl, .inl rfl⟩
             | 2, _ => cases hj; exact ⟨_, rfl, rfl, rfl, .inl rfl⟩
            )) (pi_range1 rfl T.z_range (pa_cons pe_int pa_nil))
          (fun C fp s H => (pg_name (i := 0) (show (["_law_k", "_law_many", "_law_script"] : List Str).Nodup by decide +kernel) rfl (Or.inl rfl)))
          (fun C fp s H => (pe_op op_mod (pe_has h__law_mixed hr (by decide) rfl (pa_cons (pe_op op_add (pe_has h__law_cell_at hr (by decide) rfl (pa_cons (pvF 2) (pa_cons pe_int pa_nil))) (pvF 0)) (pa_cons pe_int pa_nil))) (pvF 1))))
    (pss_cons (ps_setcomp0 rfl sc__law_program.nd (i := 9) rfl rfl (BlockOk.of (N := ["_law_k", "_law_script"]) (nl := [none, some 0]) (cl := [("_law_script", s.heap.objs.size + 1)]) rfl (by decide +kernel) (by decide +kernel) rfl (sub1 rfl) (nm := ["_law_script"]) rfl (by decide +kernel) rfl (fun i hi j hj => by
            match i, hi with
            | 0, _ => cases hj
             | 1, _ => cases hj; exact ⟨_, rfl, rfl, rfl, .inl rfl⟩
            )) (pi_range1 rfl T.z_range (pa_cons pe_int pa_nil))
          (fun C fp s H => (pg_name (i := 0) (show (["_law_k", "_law_script"] : List Str).Nodup by decide +kernel) rfl (Or.inl rfl)))
          (fun C fp s H => (pe_op op_sub (pe_op op_mod (pe_op op_fdivL (pe_has h__law_cell_at hr (by decide) rfl (pa_cons (pvF 1) (pa_cons pe_int pa_nil))) (pe_op op_add pe_int (pe_op op_mul pe_int (pvF 0)))) pe_int) pe_int)))
    (pss_cons (ps_set (i := 10) sc__law_program.nd rfl (Or.inl rfl) (pe_op op_mod (pe_op op_fdiv (pe_has h__law_cell_at hr (by decide) rfl (pa_cons (pvF 0) (pa_cons pe_int pa_nil))) pe_int) (pe_ix (r := rIxLF K) ix_listF (pe_lst (pa_cons pe_int (pa_cons pe_int pa_nil))) (pe_callTy call_int1 rfl T.z_int bt_int (pa_cons (pe_cmpR op_eq (pe_op op_mod (pe_has h__law_cell_at hr (by decide) rfl (pa_cons (pvF 0) (pa_cons pe_int pa_nil))) pe_int) pe_int (nomark _)) pa_nil)) (fun _ _ => rfl))))
    (pss_cons (ps_set (i := 11) sc__law_program.nd rfl (Or.inl rfl) (pe_lst (pa_cons (pe_tup (pa_cons pe_str (pa_cons (pe_ix (r := rIxLF K) ix_listF (pvF 9) pe_int (fun _ _ => rfl)) pa_nil))) (pa_cons (pe_tup (pa_cons pe_str (pa_cons (pe_ix (r := rIxLF K) ix_listF (pvF 8) pe_int (fun _ _ => rfl)) (pa_cons pe_int pa_nil)))) (pa_cons (pe_tup (pa_cons pe_str (pa_cons (pvF 10) pa_nil))) pa_nil)))))
    (pss_cons (ps_for PassesOwn.never rfl (pi_range2 rfl T.z_range (pa_cons pe_int (pa_cons pe_int pa_nil))) (pg_name (i := 12) sc__law_program.nd rfl (Or.inl rfl)) (pss_one (ps_expr (pe_bm PySem.F.plainAttrs_list PySem.F.slot_list_extend PySem.F.type_list_extend mt_extend (pvF 11) (pa_cons (pe_lst (pa_cons (pe_tup (pa_cons pe_str (pa_cons (pe_ix (r := rIxLF K) ix_listF (pvF 9) (pvF 12) (fun _ _ => rfl)) pa_nil))) (pa_cons (pe_tup (pa_cons pe_str (pa_cons (pe_ix (r := rIxLF K) ix_listF (pvF 8) (pvF 12) (fun _ _ => rfl)) (pa_cons pe_int pa_nil)))) pa_nil))) pa_nil)))))
    (pss_cons (ps_expr (pe_bm PySem.F.plainAttrs_list PySem.F.slot_list_append PySem.F.type_list_append mt_append (pvF 5) (pa_cons (pe_tup (pa_cons pe_int (pa_cons pe_int (pa_cons (pe_callTy call_tuple_of rfl T.z_tuple bt_tuple (pa_cons (pe_op op_cat (pvF 11) (pe_lst (pa_cons (pe_tup (pa_cons pe_str (pa_cons pe_int (pa_cons pe_int (pa_cons pe_int pa_nil))))) (pa_cons (pe_tup (pa_cons pe_str pa_nil)) pa_nil)))) pa_nil)) pa_nil)))) pa_nil)))
    (pss_one (ps_ret (pe_tup (pa_cons (pvF 5) (pa_cons (pvF 6) (pa_cons (pe_comp0 rfl (BlockOk.of (N := ["_law_row", "_law_ways"]) (nl := [none, some 3]) (cl := [("_law_ways", s.heap.objs.size + 3)]) rfl (by decide +kernel) (by decide +kernel) rfl (sub1 rfl) (nm := ["_law_ways"]) rfl (by decide +kernel) rfl (fun i hi j hj => by
            match i, hi with
            | 0, _ => cases hj
             | 1, _ => cases hj; exact ⟨_, rfl, rfl, rfl, .inl rfl⟩
            )) (pi_list (pvF 6))
          (fun C fp s H => (pg_name (i := 0) (show (["_law_row", "_law_ways"] : List Str).Nodup by decide +kernel) rfl (Or.inl rfl)))
          (fun C fp s H => (pe_op op_mod (pe_ix (r := rIxLF K) ix_listF (pvF 1) (pe_ix (r := rIxLF K) ix_listF (pvF 0) pe_int (fun _ _ => rfl)) (fun _ _ => rfl)) pe_int))) (pa_cons (pvF 8) (pa_cons (pvF 9) (pa_cons (pvF 10) (pa_cons (pe_op op_mod (pe_op op_fdiv (pvF 1) pe_int) pe_int) pa_nil))))))))))))))))))))))))), ?_⟩
  refine seq16 fun uz15 huz15 uz14 huz14 uz13 huz13 uz12 huz12 uz11 huz11 uz10 huz10 uz9 huz9 uz8 huz8 uz7 huz7 uz6 huz6 uz5 huz5 uz4 huz4 uz3 huz3 uz2 huz2 uz1 huz1 => ?_
  walk_at "rd"
  have cell : ∀ (k : Nat) {H' : Hp} {Q' : VK} {E' : XK}, Same H H' → (∀ c, Q' (.int c) H') → sp_cell K [.ref a, .int (k : Int)] H' Q' E' := fun k H' Q' E' s h => ⟨a, ns, k, rfl, sq.same s, h⟩
  refine cell 0 (Same.refl _) fun one => ?_
  subst huz1
  walk_at "rd"
  subst huz2
  walk_at "rd"
  refine ⟨by omega, by omega, fun D hD => ?_⟩
  obtain ⟨nw, enw, nw1, nw3⟩ : ∃ nw : Nat, (1 + one / 4 % 3).toNat = nw ∧ 1 ≤ nw ∧ nw ≤ 3 := ⟨_, rfl, by omega, by omega⟩
  rw [enw]
  refine comp_grow none [some (.ref a)] (fun j v H => ∃ r : Int, v = .int r ∧ 0 ≤ r) (fun _ _ _ _ h _ => h) rfl hD (by rw [sizeLine_eq]; omega) (fun i hi H1 K' s k => ?_) (fun vs Ha Sa hv hlen hR => ?_)
  · walk_at "rd"
    exact cell 1 s fun c => ⟨c, i, rfl, fun r r0 _ => k _ _ (Same.refl _) ⟨r, rfl, r0⟩⟩
  obtain ⟨rs, rfl, hrs⟩ := ints_of hR
  rw [List.length_map] at hlen
  obtain ⟨last, elast, la0, la1⟩ : ∃ last : Int, one / 12 % 50 = last ∧ 0 ≤ last ∧ last ≤ 100 := ⟨_, rfl, by omega, by omega⟩
  subst huz3
  walk_at "rd"
  rw [elast]
  refine New.of fun p1 H1 h1 s1 e1 => ?_
  refine New.of fun p2 H2 h2 s2 e2 => ?_
  refine New.of fun p3 H3 h3 s3 e3 => ?_
  refine New.of fun p4 H4 h4 s4 e4 => ?_
  refine New.of fun p5 H5 h5 s5 e5 => ?_
  refine New.of fun p6 H6 h6 s6 e6 => ?_
  refine New.of fun p7 H7 h7 s7 e7 => ?_
  refine New.of fun p8 H8 h8 s8 e8 => ?_
  subst huz4
  walk_at "rd"
  refine New.of fun p9 H9 h9 s9 e9 => ?_
  refine New.of fun p10 H10 h10 s10 e10 => ?_
  refine New.of fun p11 H11 h11 s11 e11 => ?_
  refine New.of fun p12 H12 h12 s12 e12 => ?_
  refine New.of fun p13 H13 h13 s13 e13 => ?_
  refine New.of fun p14 H14 h14 s14 e14 => ?_
  refine New.of fun p15 H15 h15 s15 e15 => ?_
  refine New.of fun p16 H16 h16 s16 e16 => ?_
  have U16 : Same H16 H16 := Same.refl _
  have U15 : Same H15 H16 := s16.trans U16
  have U14 : Same H14 H16 := s15.trans U15
  have U13 : Same H13 H16 := s14.trans U14
  have U12 : Same H12 H16 := s13.trans U13
  have U11 : Same H11 H16 := s12.trans U12
  have U10 : Same H10 H16 := s11.trans U11
  have U9 : Same H9 H16 := s10.trans U10
  have U8 : Same H8 H16 := s9.trans U9
  have U7 : Same H7 H16 := s8.trans U8
  have U6 : Same H6 H16 := s7.trans U7
  have U5 : Same H5 H16 := s6.trans U6
  have U4 : Same H4 H16 := s5.trans U5
  have U3 : Same H3 H16 := s4.trans U4
  have U2 : Same H2 H16 := s3.trans U3
  have U1 : Same H1 H16 := s2.trans U2
  have U0 : Same Ha H16 := s1.trans U1
  have e1 := U1 _ _ e1
  have e2 := U2 _ _ e2
  have e3 := U3 _ _ e3
  have e4 := U4 _ _ e4
  have e5 := U5 _ _ e5
  have e6 := U6 _ _ e6
  have e7 := U7 _ _ e7
  have e8 := U8 _ _ e8
  have e9 := U9 _ _ e9
  have e10 := U10 _ _ e10
  have e11 := U11 _ _ e11
  have e12 := U12 _ _ e12
  have e13 := U13 _ _ e13
  have e14 := U14 _ _ e14
  have e15 := U15 _ _ e15
  refine ⟨p8, p16, _, _, rfl, rfl, SqT.of e8, SqT.of e16, by rw [sizeLine_eq]; show 7 + 7 ≤ 16777216; decide, fun g1 Hb sb hg1 => ?_⟩
  have V0 : Same Ha Hb := U0.trans sb
  subst huz5
  walk_at "rd"
  refine New.of fun p17 H17 h17 s17 e17 => ?_
  refine New.of fun p18 H18 h18 s18 e18 => ?_
  refine New.of fun p19 H19 h19 s19 e19 => ?_
  refine New.of fun p20 H20 h20 s20 e20 => ?_
  refine New.of fun p21 H21 h21 s21 e21 => ?_
  refine New.of fun p22 H22 h22 s22 e22 => ?_
  refine New.of fun p23 H23 h23 s23 e23 => ?_
  refine New.of fun p24 H24 h24 s24 e24 => ?_
  have U24 : Same H24 H24 := Same.refl _
  have U23 : Same H23 H24 := s24.trans U24
  have U22 : Same H22 H24 := s23.trans U23
  have U21 : Same H21 H24 := s22.trans U22
  have U20 : Same H20 H24 := s21.trans U21
  have U19 : Same H19 H24 := s20.trans U20
  have U18 : Same H18 H24 := s19.trans U19
  have U17 : Same H17 H24 := s18.trans U18
  have U0 : Same Hb H24 := s17.trans U17
  have e17 := U17 _ _ e17
  have e18 := U18 _ _ e18
  have e19 := U19 _ _ e19
  have e20 := U20 _ _ e20
  have e21 := U21 _ _ e21
  have e22 := U22 _ _ e22
  have e23 := U23 _ _ e23
  refine ⟨g1, p24, _, _, rfl, rfl, hg1.same U0, SqT.of e24, by rw [sizeLine_eq]; show 14 + 7 ≤ 16777216; decide, fun g2 Hc sc hg2 => ?_⟩
  have WC : Same H16 Hc := sb.trans (U0.trans sc)
  have SC : Same Ha Hc := V0.trans (U0.trans sc)
  have rw' : ∀ {t : Addr} {row : Row}, RowAt K Hc t row → RowV K Hc (.ref t) row := fun h => ⟨_, rfl, h⟩
  have hgo : ∃ gr, SqT K Hc g2 gr ∧ Paired (RowV K Hc) gr (P63.goRows last) := by
    refine ⟨_, hg2, ?_⟩
    have f1 : Paired (RowV K Hc) [V.ref p1, .ref p2, .ref p3, .ref p4, .ref p5, .ref p6, .ref p7] [.load 1, .push (.int 0), .two .same, .unl 2, .push (.int last), .back, .load 2] :=
      .cons (rw' (row := .load 1) (SqT.of (WC _ _ e1))) (.cons (rw' (row := .push (.int 0)) ⟨_, SqT.of (WC _ _ e2), rfl, by decide⟩) (.cons (rw' (row := .two .same) (SqT.of (WC _ _ e3))) (.cons (rw' (row := .unl 2) (SqT.of (WC _ _ e4))) (.cons (rw' (row := .push (.int last)) ⟨_, SqT.of (WC _ _ e5), rfl, by unfold Bd; omega⟩) (.cons (rw' (row := .back) (SqT.of (WC _ _ e6))) (.cons (rw' (row := .load 2) (SqT.of (WC _ _ e7))) .nil))))))
    have f2 : Paired (RowV K Hc) [V.ref p9, .ref p10, .ref p11, .ref p12, .ref p13, .ref p14, .ref p15] [.load 1, .call 0 0 2, .keep 5, .load 0, .load 1, .push (.int 1), .two .sub] :=
      .cons (rw' (row := .load 1) (SqT.of (WC _ _ e9))) (.cons (rw' (row := .call 0 0 2) (SqT.of (WC _ _ e10))) (.cons (rw' (row := .keep 5) (SqT.of (WC _ _ e11))) (.cons (rw' (row := .load 0) (SqT.of (WC _ _ e12))) (.cons (rw' (row := .load 1) (SqT.of (WC _ _ e13))) (.cons (rw' (row := .push (.int 1)) ⟨_, SqT.of (WC _ _ e14), rfl, by decide⟩) (.cons (rw' (row := .two .sub) (SqT.of (WC _ _ e15))) .nil))))))
    have f3 : Paired (RowV K Hc) [V.ref p17, .ref p18, .ref p19, .ref p20, .ref p21, .ref p22, .ref p23] [.load 3, .load 4, .load 2, .call 1 1 5, .load 5, .two .add, .back] :=
      .cons (rw' (row := .load 3) (SqT.of (sc _ _ e17))) (.cons (rw' (row := .load 4) (SqT.of (sc _ _ e18))) (.cons (rw' (row := .load 2) (SqT.of (sc _ _ e19))) (.cons (rw' (row := .call 1 1 5) (SqT.of (sc _ _ e20))) (.cons (rw' (row := .load 5) (SqT.of (sc _ _ e21))) (.cons (rw' (row := .two .add) (SqT.of (sc _ _ e22))) (.cons (rw' (row := .back) (SqT.of (sc _ _ e23))) .nil))))))
    exact Pd.app (Pd.app f1 f2) f3
  clear rw' hg2 hg1 WC sc sb U0 V0
  obtain ⟨gr, hg2, hgr⟩ := hgo
  have SCH : Same H Hc := Sa.trans SC
  have hvC := SC _ _ hv
  clear SC Sa hv hR
  subst huz6
  walk_at "rd"
  refine ⟨⟨_, SqL.of hvC⟩, fun D1 hD1 => ?_⟩
  refine comp_growL (ys := rs.map V.int) none [] (fun j v H => ∃ r, rs[j]? = some r ∧ BlkAt K H v (P63.tell (r % 3).toNat)) (fun j v H1 H2 ⟨r, a, b⟩ s => ⟨r, a, b.t (sameN_t s)⟩) rfl hD1 (by rw [List.length_map, sizeLine_eq]; omega) (fun H1 s => (SqL.of hvC).same s) (fun i y hy H1 K' s k => ?_) (fun bs Hd Sd hbs lbs hRb => ?_)
  · rw [List.getElem?_map] at hy
    obtain ⟨r, hr', rfl⟩ := Option.map_eq_some_iff.mp hy
    walk_at "rd"
    refine ⟨r, rfl, fun p rws H2 s2 hp hrw => ?_⟩
    refine New.of fun p25 H25 h25 s25 e25 => ?_
    exact k _ _ (s2.trans s25) ⟨r, hr', p25, p, rws, rfl, SqT.of e25, SqT.of (s25 _ _ hp), Pd.imp (fun _ _ ⟨t, a, b⟩ => ⟨t, a, b.t (Same.t s25)⟩) hrw⟩
  rw [List.length_map] at lbs
  refine New.of fun p25 H25 h25 s25 e25 => ?_
  refine New.of fun p26 H26 h26 s26 e26 => ?_
  refine ⟨D1, rfl, _, (s25.trans s26) _ _ hbs, _, e26, by show bs.length + 1 ≤ _; omega, ?_⟩
  refine New.of fun p27 H27 h27 s27 e27 => ?_
  have S27 : Same Hc H27 := Sd.trans (s25.trans (s26.trans s27))
  have hblk : Paired (BlkAt K H27) (bs ++ [.ref p25]) ((rs.map fun r => (r % 3).toNat).map P63.tell ++ [P63.go last]) := by
    refine Pd.app ?_ (.cons ⟨p25, g2, gr, rfl, SqT.of ((s26.trans s27) _ _ e25), hg2.same S27, Pd.imp (fun _ _ ⟨t, a, b⟩ => ⟨t, a, b.t (Same.t S27)⟩) hgr⟩ .nil)
    rw [List.map_map]
    refine paired_of (by rw [List.length_map]; exact lbs) fun j v b hv' hb => ?_
    rw [List.getElem?_map] at hb
    obtain ⟨r, hr1, rfl⟩ := Option.map_eq_some_iff.mp hb
    obtain ⟨r', hr2, hB⟩ := hRb j v hv'
    rw [hr1] at hr2
    cases hr2
    exact hB.t (Same.t (s25.trans (s26.trans s27)))
  have SH27 : Same H H27 := SCH.trans S27
  have hv27 := S27 _ _ hvC
  clear hRb hbs hg2 hgr
  subst huz7
  walk_at "rd"
  refine New.of fun p28 H28 h28 s28 e28 => ?_
  subst huz8
  walk_at "rd"
  refine ⟨by omega, by omega, ?_⟩
  obtain ⟨many, emany, m1, m4⟩ : ∃ many : Nat, (1 + one % 4).toNat = many ∧ 1 ≤ many ∧ many ≤ 4 := ⟨_, rfl, by omega, by omega⟩
  rw [emany]
  refine loop_range (LI H27 nw p28 fun o7 => [some (.ref a), some (.int one), some (.int (1 + one % 4)), some (.ref D), some (.ref g2), some (.ref p27), some (.ref p28), o7, none, none, none, none, none]) ⟨[], [], s28, e28, rfl, fun _ h => (by cases h), .nil, _, rfl⟩ ?_ ?_
  · rintro i σ H' hi ⟨ls, wys, S', hls, lw, hw, hpl, o7, rfl⟩
    walk_at "rd"
    refine ⟨.inl ⟨rfl, _, SqL.of hls⟩, cell 2 (SH27.trans S') fun c => ⟨c, rfl, _, 3, rfl, fun r r0 r1 => ?_⟩⟩
    refine ⟨_, .inl (SqL.of (S' _ _ hv27)), r, rfl, by rw [List.length_map, hlen]; omega, _, .inl (SqL.of (S' _ _ hv27)), ?_⟩
    rw [List.length_map, hlen]
    refine New.of fun p30 H30 h30 s30 e30 => ?_
    have lls : ls.length = wys.length := Paired.length hpl
    refine ⟨_, s30 _ _ hls, by omega, ?_⟩
    obtain ⟨wr, ewr, hwr⟩ : ∃ wr : Nat, r % (nw : Int) = wr ∧ wr < nw := by
      have x0 := Int.emod_nonneg r (show (nw : Int) ≠ 0 by omega)
      have x1 := Int.emod_lt_of_pos r (show (0 : Int) < nw by omega)
      exact ⟨(r % (nw : Int)).toNat, by omega, by omega⟩
    rw [ewr] at e30
    have np : p30 ≠ p28 := fun z => ne_of_none hls h30 z.symm
    exact ⟨ls ++ [.ref p30], wys ++ [wr], fun b o hb => by rw [upd_ne (ne_of_none hb h28)]; exact (S'.trans s30) b o hb, upd_same, by rw [List.length_append, lw]; rfl, fun x hx => (List.mem_append.mp hx).elim (hw x) fun h => by rw [List.mem_singleton.mp h]; exact hwr,
      Pd.app (Pd.imp (fun v w ⟨ta, a, b, f, c⟩ => ⟨ta, a, b, f, by rw [upd_ne b]; exact s30 _ _ c⟩) hpl) (.cons ⟨p30, rfl, np, S'.free h30, by rw [upd_ne np]; exact e30⟩ .nil), _, rfl⟩
  · rintro σ H' ⟨ls, wys, S', hls, lw, hw, hpl, o7, rfl⟩
    have SH := SH27.trans S'
    subst huz9
    walk_at "rd"
    intro D3 hD3
    refine comp_grow none [some (.int (1 + one % 4)), some (.ref a)] (fun j v H => ∃ r : Int, v = .int r ∧ 0 ≤ r ∧ r < many) (fun _ _ _ _ h _ => h) rfl hD3 (by rw [sizeLine_eq]; omega) (fun i hi H1 K' s k => ?_) (fun hs He Se hhs lhs hRh => ?_)
    · walk_at "rd"
      refine cell 3 (SH.trans s) fun c => ⟨c, rfl, _, 5, rfl, fun r r0 r1 => ⟨r, rfl, by omega, k _ _ (Same.refl _) ⟨_, rfl, Int.emod_nonneg _ (by omega), ?_⟩⟩⟩
      have := Int.emod_lt_of_pos r (show 0 < 1 + one % 4 by omega)
      omega
    obtain ⟨hi4, rfl, hhi⟩ := ints_of hRh
    rw [List.length_map] at lhs
    obtain ⟨h0, h1, h2, h3, rfl⟩ := four lhs
    obtain ⟨n0, rfl⟩ := Int.eq_ofNat_of_zero_le (hhi h0 (by simp)).1
    obtain ⟨n1, rfl⟩ := Int.eq_ofNat_of_zero_le (hhi h1 (by simp)).1
    obtain ⟨n2, rfl⟩ := Int.eq_ofNat_of_zero_le (hhi h2 (by simp)).1
    obtain ⟨n3, rfl⟩ := Int.eq_ofNat_of_zero_le (hhi h3 (by simp)).1
    have q0 := (hhi n0 (by simp)).2
    have q1 := (hhi n1 (by simp)).2
    have q2 := (hhi n2 (by simp)).2
    have q3 := (hhi n3 (by simp)).2
    clear hhi hRh
    subst huz10
    walk_at "rd"
    intro D4 hD4
    refine comp_grow none [some (.ref a)] (fun j v H => ∃ r : Int, v = .int r ∧ -1000 ≤ r ∧ r ≤ 1000) (fun _ _ _ _ h _ => h) rfl hD4 (by rw [sizeLine_eq]; omega) (fun i hi H1 K' s k => ?_) (fun vs Hf Sf hvs lvs hRv => ?_)
    · walk_at "rd"
      refine cell 4 (SH.trans (Se.trans s)) fun c => ⟨c, rfl, by omega, by omega, by omega, k _ _ (Same.refl _) ⟨_, rfl, ?_⟩⟩
      have b0 := Int.emod_nonneg (c.fdiv (1 + 3 * (i : Int))) (show (1000 : Int) ≠ 0 by decide)
      have b1 := Int.emod_lt_of_pos (c.fdiv (1 + 3 * (i : Int))) (show (0 : Int) < 1000 by decide)
      generalize c.fdiv (1 + 3 * (i : Int)) % 1000 = z at *
      omega
    obtain ⟨v4, rfl, hv4⟩ := ints_of hRv
    rw [List.length_map] at lvs
    obtain ⟨v0, v1, v2, v3, rfl⟩ := four lvs
    have w0 := hv4 v0 (by simp)
    have w1 := hv4 v1 (by simp)
    have w2 := hv4 v2 (by simp)
    have w3 := hv4 v3 (by simp)
    clear hv4 hRv
    have SF : Same H Hf := SH.trans (Se.trans Sf)
    subst huz11
    walk_at "rd"
    refine cell 5 SF fun i => ⟨i, rfl, ?_⟩
    refine New.of fun p31 H31 h31 s31 e31 => ?_
    refine cell 5 (SF.trans s31) fun j => ⟨j, rfl, .inr ?_⟩
    obtain ⟨dv, hdv, hd2⟩ : ∃ dv : Int, atI [V.int 13, V.int 46] (if j % 8 = 3 then 1 else 0) = some (.int dv) ∧ (dv = 13 ∨ dv = 46) := by
      split
      · exact ⟨46, rfl, .inr rfl⟩
      · exact ⟨13, rfl, .inl rfl⟩
    refine ⟨_, SqL.of e31, _, hdv, dv, rfl, by omega, ?_⟩
    obtain ⟨ct, ect, c45⟩ : ∃ ct : Nat, i / 8 % dv = ct ∧ ct ≤ 45 := by
      rcases hd2 with rfl | rfl
      · exact ⟨(i / 8 % 13).toNat, by omega, by omega⟩
      · exact ⟨(i / 8 % 46).toNat, by omega, by omega⟩
    rw [ect]
    clear hdv hd2
    have hhs31 := (Sf.trans s31) _ _ hhs
    have hvs31 := s31 _ _ hvs
    subst huz12
    walk_at "rd"
    refine ⟨_, SqL.of hvs31, _, ix0, ?_⟩
    refine New.of fun p32 H32 h32 s32 e32 => ?_
    refine ⟨_, SqL.of (s32 _ _ hhs31), _, ix0, ?_⟩
    refine New.of fun p33 H33 h33 s33 e33 => ?_
    refine New.of fun p34 H34 h34 s34 e34 => ?_
    refine New.of fun p35 H35 h35 s35 e35 => ?_
    obtain ⟨d, hd⟩ : ∃ d : P63.Dr, d = ⟨rs.map fun r => (r % 3).toNat, wys, fun k => [n0, n1, n2, n3].getD k 0, fun k => [v0, v1, v2, v3].getD k 0, ct, last, 0⟩ := ⟨_, rfl⟩
    have dh0 : d.homes 0 = n0 := by rw [hd]; rfl
    have dh1 : d.homes 1 = n1 := by rw [hd]; rfl
    have dh2 : d.homes 2 = n2 := by rw [hd]; rfl
    have dh3 : d.homes 3 = n3 := by rw [hd]; rfl
    have dv0 : d.vals 0 = v0 := by rw [hd]; rfl
    have dv1 : d.vals 1 = v1 := by rw [hd]; rfl
    have dv2 : d.vals 2 = v2 := by rw [hd]; rfl
    have dv3 : d.vals 3 = v3 := by rw [hd]; rfl
    have dct : d.count = ct := by rw [hd]
    have dla : d.last = last := by rw [hd]
    have dki : d.kinds = rs.map fun r => (r % 3).toNat := by rw [hd]
    have dwy : d.wy = wys := by rw [hd]
    clear hd
    have S35 : Same H31 H34 := s32.trans (s33.trans s34)
    subst huz13
    walk_at "rd"
    have rwv : ∀ {H' : Hp} {t : Addr} {row : Row}, RowAt K H' t row → RowV K H' (.ref t) row := fun h => ⟨_, rfl, h⟩
    refine loop_range (MI K d H34 p35 fun o => [some (.ref a), some (.int one), some (.int (1 + one % 4)), some (.ref D), some (.ref g2), some (.ref p27), some (.ref p28), o7, some (.ref D3), some (.ref D4), some (.int ct), some (.ref p35), o]) ⟨_, s35, e35, ?_, rfl, _, rfl⟩ ?_ ?_
    · show Paired _ _ ([Row.push (.int (d.vals 0)), Row.make (d.homes 0) 1, Row.push (.int d.count)] : List Row)
      rw [dv0, dh0, dct]
      exact .cons (rwv (row := .push (.int v0)) ⟨_, SqT.of ((s33.trans (s34.trans s35)) _ _ e32), rfl, bd3 w0⟩) (.cons (rwv (row := .make n0 1) (SqT.of ((s34.trans s35) _ _ e33))) (.cons (rwv (row := .push (.int ct)) ⟨_, SqT.of (s35 _ _ e34), rfl, bdn c45⟩) .nil))
    · rintro i σ H6 hi ⟨ms, S6, hms, hpm, lms, o12, rfl⟩
      have val_at : atI [V.int v0, V.int v1, V.int v2, V.int v3] (1 + (i : Int)) = some (.int (d.vals (i + 1))) := by
        have := lt3 hi
        rcases this with rfl | rfl | rfl
        · rw [dv1]; rfl
        · rw [dv2]; rfl
        · rw [dv3]; rfl
      have hom_at : atI [V.int n0, V.int n1, V.int n2, V.int n3] (1 + (i : Int)) = some (.int (d.homes (i + 1))) := by
        have := lt3 hi
        rcases this with rfl | rfl | rfl
        · rw [dh1]; rfl
        · rw [dh2]; rfl
        · rw [dh3]; rfl
      have vb : Bd (d.vals (i + 1)) := by
        have := lt3 hi
        rcases this with rfl | rfl | rfl
        · rw [dv1]; exact bd3 w1
        · rw [dv2]; exact bd3 w2
        · rw [dv3]; exact bd3 w3
      have hv6 := (S35.trans S6) _ _ hvs31
      have hh6 := (S35.trans S6) _ _ hhs31
      walk_at "rd"
      refine ⟨.inl ⟨rfl, _, SqL.of hms⟩, _, SqL.of hv6, _, val_at, ?_⟩
      refine New.of fun p40 H40 h40 s40 e40 => ?_
      refine ⟨_, SqL.of (s40 _ _ hh6), _, hom_at, ?_⟩
      refine New.of fun p41 H41 h41 s41 e41 => ?_
      refine New.of fun p42 H42 h42 s42 e42 => ?_
      have S42 := s40.trans (s41.trans s42)
      refine ⟨_, S42 _ _ hms, _, e42, by show ms.length + 2 ≤ _; omega, ?_⟩
      have tU : SameT H42 (upd H42 p35 (.lst (ms ++ [.ref p40, .ref p41]))) := t_upd _ (S42 _ _ hms) no_lst
      exact ⟨_, fun b o hb => by rw [upd_ne (ne_of_none hb h35)]; exact (S6.trans S42) b o hb, upd_same, Pd.app (Pd.imp (fun _ _ ⟨t, a, b⟩ => ⟨t, a, (b.t (Same.t S42)).t tU⟩) hpm) (.cons (rwv (row := .push (.int (d.vals (i + 1)))) ⟨_, SqT.t (SqT.of ((s41.trans s42) _ _ e40)) tU, rfl, vb⟩) (.cons (rwv (row := .make (d.homes (i + 1)) 1) (SqT.t (SqT.of (s42 _ _ e41)) tU)) .nil)), by rw [List.length_append, lms]; show 3 + 2 * i + 2 = _; omega, _, rfl⟩
    · rintro σ H6 ⟨ms, S6, hms, hpm, lms, o12, rfl⟩
      subst huz14
      walk_at "rd"
      have B6 : Same H27 H6 := S'.trans (Se.trans (Sf.trans (s31.trans (S35.trans S6))))
      refine ⟨.inl ⟨rfl, _, SqL.of (B6 _ _ e27)⟩, ?_⟩
      refine New.of fun p43 H43 h43 s43 e43 => ?_
      refine New.of fun p44 H44 h44 s44 e44 => ?_
      refine New.of fun p45 H45 h45 s45 e45 => ?_
      refine ⟨_, (s43.trans (s44.trans s45)) _ _ hms, _, e45, by show ms.length + 2 ≤ _; omega, ?_⟩
      refine New.of fun p46 H46 h46 s46 e46 => ?_
      refine ⟨_, .inl ⟨SqL.of e46, ?_⟩⟩
      intro p47 h47
      have s47 := same_upd h47 (.tup (ms ++ [.ref p43, .ref p44]))
      have e47 : upd H46 p47 (.tup (ms ++ [.ref p43, .ref p44])) p47 = some (.tup (ms ++ [.ref p43, .ref p44])) := upd_same
      generalize upd H46 p47 (.tup (ms ++ [.ref p43, .ref p44])) = H47 at *
      refine New.of fun p48 H48 h48 s48 e48 => ?_
      have C48 : Same H6 H48 := s43.trans (s44.trans (s45.trans (s46.trans (s47.trans s48))))
      refine ⟨_, C48 _ _ (B6 _ _ e27), by rw [List.length_append, lbs, hlen]; show _ + 1 < _; omega, ?_⟩
      have n27 : H p27 = none := (SCH.trans (Sd.trans (s25.trans s26))).free h27
      have eB : upd H48 p27 (.lst (bs ++ [.ref p25] ++ [.ref p48])) p27 = some (.lst (bs ++ [.ref p25] ++ [.ref p48])) := upd_same
      have kB : ∀ b o, b ≠ p27 → H48 b = some o → upd H48 p27 (.lst (bs ++ [.ref p25] ++ [.ref p48])) b = some o := fun b o hb h => by rw [upd_ne hb]; exact h
      have tB : SameT H48 (upd H48 p27 (.lst (bs ++ [.ref p25] ++ [.ref p48]))) := t_upd _ (C48 _ _ (B6 _ _ e27)) no_lst
      have SB : Same H (upd H48 p27 (.lst (bs ++ [.ref p25] ++ [.ref p48]))) := fun b o hb => kB b o (ne_of_none hb n27) ((SH27.trans (B6.trans C48)) b o hb)
      generalize upd H48 p27 (.lst (bs ++ [.ref p25] ++ [.ref p48])) = HB at *
      subst huz15
      walk_at "rd"
      rw [elast]
      have P48 : Same H' H48 := Se.trans (Sf.trans (s31.trans (S35.trans (S6.trans C48))))
      have hlsB := kB _ _ (fun z => ne_of_none e27 h28 z.symm) (P48 _ _ hls)
      have hplB : Paired (fun v (w : Nat) => ∃ ta, v = .ref ta ∧ HB ta = some (.lst [.int w, .int nw, .non])) ls wys := Pd.imp (fun v w ⟨ta, a, b, c, e⟩ => ⟨ta, a, kB _ _ (fun z => ne_of_none e27 c z.symm) (P48 _ _ e)⟩) hpl
      have hDB := kB _ _ (ne_of_none ((Sd.trans (s25.trans s26)) _ _ hvC) h27) ((B6.trans C48) _ _ hv27)
      have hhB := kB _ _ (fun z => ne_of_none (S' _ _ e27) hD3 z.symm) ((Sf.trans (s31.trans (S35.trans (S6.trans C48)))) _ _ hhs)
      have hvB := kB _ _ (fun z => ne_of_none ((S'.trans Se) _ _ e27) hD4 z.symm) ((s31.trans (S35.trans (S6.trans C48))) _ _ hvs)
      have lls : ls.length = wys.length := Paired.length hpl
      refine ⟨⟨_, SqL.of hlsB⟩, fun D5 hD5 => ?_⟩
      refine comp_growL (ys := ls) none [some (.ref D)] (fun j v H => ∃ w r, wys[j]? = some w ∧ rs[w]? = some r ∧ v = .int (r % 3)) (fun _ _ _ _ h _ => h) rfl hD5 (by rw [sizeLine_eq]; omega) (fun H1 s => (SqL.of hlsB).same s) (fun i y hy H1 K' s k => ?_) (fun vs Hg Sg hvg lvg hRg => ?_)
      · obtain ⟨w, hw', ta, rfl, hta⟩ := Pd.at' hplB hy
        obtain ⟨r, hr'⟩ : ∃ r, rs[w]? = some r := ⟨_, List.getElem?_eq_getElem (by rw [hlen]; exact hw w (List.mem_of_getElem? hw'))⟩
        walk_at "rd"
        exact ⟨_, SqL.of (s _ _ hta), _, ix0, _, rfl, _, SqL.of (s _ _ hDB), _, atI_nat (by rw [List.getElem?_map, hr']; rfl), r, rfl, k _ _ (Same.refl _) ⟨w, r, hw', hr', rfl⟩⟩
      refine New.of fun p50 H50 h50 s50 e50 => ?_
      have SG : Same HB H50 := Sg.trans s50
      have evs : vs = wys.map fun w => V.int (((rs.map fun r => (r % 3).toNat)[w]?.getD 0 : Nat) : Int) := by
        refine List.ext_getElem? fun j => ?_
        rw [List.getElem?_map]
        by_cases hj : j < wys.length
        · have hv' := List.getElem?_eq_getElem (show j < vs.length by omega)
          obtain ⟨w, r, a, b, c⟩ := hRg j _ hv'
          rw [hv', c, a]
          show some (V.int (r % 3)) = some (V.int (((rs.map fun r => (r % 3).toNat)[w]?.getD 0 : Nat) : Int))
          rw [List.getElem?_map, b]
          show some (V.int (r % 3)) = some (V.int (((r % 3).toNat : Nat) : Int))
          rw [Int.toNat_of_nonneg (Int.emod_nonneg _ (by decide))]
        · rw [List.getElem?_eq_none (by omega), List.getElem?_eq_none (by omega)]
          rfl
      have lk : d.kinds.length = nw := by rw [dki, List.length_map, hlen]
      have okd : d.Ok := by
        refine ⟨fun x hx => ?_, fun x hx => ?_, fun i hi => ?_, fun i hi => ?_, by omega, by omega, by rw [dwy, lw]; exact m4, by omega⟩
        · rw [dki] at hx
          obtain ⟨r, _, rfl⟩ := List.mem_map.mp hx
          have x0 := Int.emod_nonneg r (show (3 : Int) ≠ 0 by decide)
          have x1 := Int.emod_lt_of_pos r (show (0 : Int) < 3 by decide)
          omega
        · rw [dwy] at hx; rw [lk]; exact hw x hx
        · rw [dwy, lw]
          have := lt4 hi
          rcases this with rfl | rfl | rfl | rfl
          · rw [dh0]; exact Int.ofNat_lt.mp q0
          · rw [dh1]; exact Int.ofNat_lt.mp q1
          · rw [dh2]; exact Int.ofNat_lt.mp q2
          · rw [dh3]; exact Int.ofNat_lt.mp q3
        · have := lt4 hi
          rcases this with rfl | rfl | rfl | rfl
          · rw [dv0]; exact w0
          · rw [dv1]; exact w1
          · rw [dv2]; exact w2
          · rw [dv3]; exact w3
      have tG : SameT H48 H50 := tB.trans (Same.t SG)
      have tA : SameT H27 H50 := (Same.t (B6.trans C48)).trans tG
      refine q p50 p27 p28 D5 D3 D4 _ ls d H50 (SB.trans SG) ?_ (SG _ _ eB) ?_ (SG _ _ hlsB) ?_ ?_ ?_ ?_ okd
      · rw [dct, dla]; exact SqT.of e50
      · show Paired _ _ (d.kinds.map P63.tell ++ [P63.go d.last, ⟨0, 0, P63.mainRows d⟩])
        rw [dki, dla, show ([P63.go last, ⟨0, 0, P63.mainRows d⟩] : List Blk) = [P63.go last] ++ [⟨0, 0, P63.mainRows d⟩] from rfl, ← List.append_assoc]
        refine Pd.app (Pd.imp (fun _ _ h => h.t tA) hblk) (.cons ⟨p48, p47, _, rfl, SqT.t (SqT.of e48) tG, SqT.t (SqT.of (s48 _ _ e47)) tG, ?_⟩ .nil)
        show Paired _ _ (mrow d 3 ++ [Row.call 2 1 5, Row.back])
        have tM : SameT H6 H50 := (Same.t C48).trans tG
        exact Pd.app (Pd.imp (fun _ _ ⟨t, a, b⟩ => ⟨t, a, b.t tM⟩) hpm) (.cons (rwv (row := .call 2 1 5) (SqT.t (SqT.of ((s44.trans (s45.trans (s46.trans (s47.trans s48)))) _ _ e43)) tG)) (.cons (rwv (row := .back) (SqT.t (SqT.of ((s45.trans (s46.trans (s47.trans s48))) _ _ e44)) tG)) .nil))
      · show Paired _ _ (d.wy.map fun w => [some w, some d.kinds.length, none])
        rw [dwy, lk]
        refine paired_of (by rw [List.length_map]; exact lls) fun j v t hv' ht => ?_
        rw [List.getElem?_map] at ht
        obtain ⟨w, hw', rfl⟩ := Option.map_eq_some_iff.mp ht
        obtain ⟨w2, hw2, ta, e, hta⟩ := Pd.at' hplB hv'
        rw [hw'] at hw2
        cases hw2
        exact ⟨ta, e, SqL.of (SG _ _ hta)⟩
      · rw [dwy, dki, ← evs]; exact s50 _ _ hvg
      · rw [dh0, dh1, dh2, dh3]; exact SG _ _ hhB
      · rw [dv0, dv1, dv2, dv3]; exact SG _ _ hvB
end
end K63
end

section
set_option Elab.async false
set_option linter.all false
set_option maxRecDepth 100000
set_option maxHeartbeats 4000000
set_option pp.deepTerms true
set_option format.width 200
namespace K63
open PySem L2 MM
open Mach (AV AFr Row Sg Blk MS PL Mem getP updM seen others Bd)
seal L2.PE L2.PA L2.PT L2.PS L2.PSs L2.PG L2.PGs L2.PI L2.PW
inductive Sp_alike (CM CP : Addr) (K : PySem.W.Frag) (vs : List V) (H : Hp) (Q : VK) : Prop
  | mk (ex1 ex2 : Addr → Prop) (o1 o2 : MO) (P1 P2 : Mach.Prog) (s1 s2 : MS) (n : Nat) (bits : Int) (a1 : vs = [.ref o1.x, .ref o2.x, .int bits]) (a2 : MAt CM CP K ex1 o1 P1 s1 H) (a3 : MAt CM CP K ex2 o2 P2 s2 H) (a4 : s1.frames = s2.frames) (a5 : s1.made = s2.made) (a6 : s1.ended = s2.ended) (a7 : s1.calls = s2.calls) (a8 : s1.rows = s2.rows) (a9 : s1.looks + s1.hits = s2.looks) (a10 : s2.hits = 0) (a11 : Mach.Hts s2) (a12 : Mach.Sz n s2) (a13 : n ≤ 1600) (a14 : s2.calls ≤ 100000) (a15 : s2.rows ≤ 100000) (a16 : s2.looks ≤ 100000) (a17 : ∀ H', Same H H' → Q (.bl true) H') : Sp_alike CM CP K vs H Q
def sp_alike (CM CP : Addr) (K : PySem.W.Frag) : Sp := fun vs H Q _ => Sp_alike CM CP K vs H Q
def EqD (K : PySem.W.Frag) (H : Hp) (x y : V) : Prop := ∃ d k n, RdD K H x d ∧ RdD K H y d ∧ Nice k n d ∧ k ≤ 60 ∧ n ≤ 400000 ∧ noStr x ∧ noStr y
theorem EqD.same {K : PySem.W.Frag} {H H' : Hp} {x y : V} (h : EqD K H x y) (s : Same H H') : EqD K H' x y := let ⟨d, k, n, a, b, r⟩ := h; ⟨d, k, n, a.same s, b.same s, r⟩
def PV (K : PySem.W.Frag) (H : Hp) (v : V) : Prop := ∃ t x y, v = .ref t ∧ SqT K H t [x, y] ∧ EqD K H x y
theorem PV.same {K : PySem.W.Frag} {H H' : Hp} {v : V} (h : PV K H v) (s : Same H H') : PV K H' v := let ⟨t, x, y, a, b, c⟩ := h; ⟨t, x, y, a, b.same s, c.same s⟩
section
variable {C_Places C_Machine D_ROW_SIGNS : Addr} {P : Program} {w : World} {K : PySem.W.Frag} {mg : Str → Option Value} {base : Heap}
theorem ok_alike (T : Txt P w K mg C_Places C_Machine D_ROW_SIGNS) (h_Machine_answer : HasM P w K mg base 1 C_Machine "answer" ["self"] (sp_answer C_Machine C_Places K)) (h_Machine_frames : HasM P w K mg base 1 C_Machine "frames" ["self"] (sp_frames C_Machine C_Places K)) (h_Machine_things : HasM P w K mg base 1 C_Machine "things" ["self"] (sp_things C_Machine C_Places K))
    (h_Machine_calls : HasM P w K mg base 1 C_Machine "calls" ["self"] (sp_num C_Machine C_Places K (fun s => s.calls))) (h_Machine_looks : HasM P w K mg base 1 C_Machine "looks" ["self"] (sp_num C_Machine C_Places K (fun s => s.looks))) (h_Machine_hits : HasM P w K mg base 1 C_Machine "hits" ["self"] (sp_num C_Machine C_Places K (fun s => s.hits))) (h_Machine_rows_done : HasM P w K mg base 1 C_Machine "rows_done" ["self"] (sp_num C_Machine C_Places K (fun s => s.rows))) :
    Has P w K mg base 2 "_law_alike" ["_law_one", "_law_other", "_law_bits"] (sp_alike C_Machine C_Places K) := by
  refine Has.of T.f__law_alike sc__law_alike (fun _ _ _ _ _ _ us hl => el3 us hl fun _ _ _ => rfl) (fun vs H Q E h => ?_) (fun f cdv A outer s H vs Q E hr h => ?_)
  · obtain ⟨ex1, ex2, o1, o2, P1, P2, s1, s2, n, bits, rfl, _⟩ := h
    rfl
  obtain ⟨ex1, ex2, o1, o2, P1, P2, s1, s2, n, bits, rfl, M1, M2, efr, emd, een, eca, ero, elk, ehi, ht, hz, hn, b1, b2, b3, q⟩ := h
  refine ⟨_, (pss_cons (ps_set (i := 3) sc__law_alike.nd rfl (Or.inl rfl) (pe_ifExp (pt_cmpR op_eq (pe_op op_mod (pvF 2) pe_int) pe_int (nomark _)) (pe_lst (pa_cons (pe_tup (pa_cons (pe_hasM0F (pvF 0) T.Machine.cl h_Machine_frames hr (by decide)) (pa_cons (pe_hasM0F (pvF 1) T.Machine.cl h_Machine_frames hr (by decide)) pa_nil))) pa_nil)) (pe_lst pa_nil)))
    (pss_cons (ps_set (i := 3) sc__law_alike.nd rfl (Or.inl rfl) (pe_op op_cat (pvF 3) (pe_lst (pa_cons (pe_tup (pa_cons (pe_hasM0F (pvF 0) T.Machine.cl h_Machine_answer hr (by decide)) (pa_cons (pe_hasM0F (pvF 1) T.Machine.cl h_Machine_answer hr (by decide)) pa_nil))) (pa_cons (pe_tup (pa_cons (pe_hasM0F (pvF 0) T.Machine.cl h_Machine_calls hr (by decide)) (pa_cons (pe_hasM0F (pvF 1) T.Machine.cl h_Machine_calls hr (by decide)) pa_nil))) (pa_cons (pe_tup (pa_cons (pe_hasM0F (pvF 0) T.Machine.cl h_Machine_things hr (by decide)) (pa_cons (pe_hasM0F (pvF 1) T.Machine.cl h_Machine_things hr (by decide)) pa_nil))) pa_nil))))))
    (pss_cons (ps_set (i := 3) sc__law_alike.nd rfl (Or.inl rfl) (pe_op op_cat (pvF 3) (pe_lst (pa_cons (pe_tup (pa_cons (pe_hasM0F (pvF 0) T.Machine.cl h_Machine_rows_done hr (by decide)) (pa_cons (pe_hasM0F (pvF 1) T.Machine.cl h_Machine_rows_done hr (by decide)) pa_nil))) (pa_cons (pe_tup (pa_cons (pe_op op_add (pe_hasM0F (pvF 0) T.Machine.cl h_Machine_looks hr (by decide)) (pe_hasM0F (pvF 0) T.Machine.cl h_Machine_hits hr (by decide))) (pa_cons (pe_hasM0F (pvF 1) T.Machine.cl h_Machine_looks hr (by decide)) pa_nil))) pa_nil)))))
    (pss_cons (ps_expr (pe_bm PySem.F.plainAttrs_list PySem.F.slot_list_append PySem.F.type_list_append mt_append (pvF 3) (pa_cons (pe_tup (pa_cons (pe_hasM0F (pvF 0) T.Machine.cl h_Machine_frames hr (by decide)) (pa_cons (pe_hasM0F (pvF 1) T.Machine.cl h_Machine_frames hr (by decide)) pa_nil))) pa_nil)))
    (pss_one (ps_ret (pe_and (pe_cmpR (r := rEqD K) (op_eqD hr.units) (pe_comp1 rfl (BlockOk.plain (N := ["_law_pair"]) rfl (by decide +kernel) (by decide +kernel) (by decide +kernel)) (pi_list (pvF 3))
          (fun C fp s H => (pg_name (i := 0) (show (["_law_pair"] : List Str).Nodup by decide +kernel) rfl (Or.inl rfl)))
          (fun C fp s H => (pt_cmpR op_ne (pe_callB (r := rReprA K) (call_reprA hr.gd hr.units) rfl T.z_repr bt_repr (pa_cons (pe_ix (r := rIxTF K) ix_tupF (pvF 0) pe_int (fun _ _ => rfl)) pa_nil)) (pe_callB (r := rReprA K) (call_reprA hr.gd hr.units) rfl T.z_repr bt_repr (pa_cons (pe_ix (r := rIxTF K) ix_tupF (pvF 0) pe_int (fun _ _ => rfl)) pa_nil)) (nomark _))) (fun C fp s H => (pvF 0))) (pe_lst pa_nil) (nomark _)) (pe_one (pe_cmpR op_eq (pe_hasM0F (pvF 1) T.Machine.cl h_Machine_hits hr (by decide)) pe_int (nomark _)))))))))), ?_⟩
  obtain ⟨e1, hx1, he1⟩ := M1.ins
  obtain ⟨e2, hx2, he2⟩ := M2.ins
  have ht1 : Mach.Hts s1 := ⟨by rw [efr]; exact ht.fl, by rw [efr]; exact ht.tp, by rw [emd]; exact ht.md⟩
  have frp : ∀ {H1 : Hp} (R : V → V → Hp → Prop), Same H H1 → (∀ x y H3, Same H1 H3 → EqD K H3 x y → R x y H3) → MethAt C_Machine "frames" o1.x H1 (sp_frames C_Machine C_Places K [.ref o1.x] H1 (fun x H2 => MethAt C_Machine "frames" o2.x H2 (sp_frames C_Machine C_Places K [.ref o2.x] H2 (fun y H3 => R x y H3) E0)) E0) := by
    intro H1 R S h
    refine ⟨o1.dx, _, S _ _ hx1, rfl, _, o1, P1, s1, rfl, M1.same S, fun l ss hl hss => ?_⟩
    have u1 := same_upd hl (.lst ss)
    refine ⟨o2.dx, _, (S.trans u1) _ _ hx2, rfl, _, o2, P2, s2, rfl, M2.same (S.trans u1), fun l2 ss2 hl2 hss2 => ?_⟩
    have u2 := same_upd hl2 (.lst ss2)
    obtain ⟨r1, n1⟩ := frs_nice (SqL.of (u2 _ _ upd_same)) (Pd.imp (fun _ _ h => FrV.t h (Same.t (u1.trans u2))) hss) ht1
    obtain ⟨r2, n2⟩ := frs_nice (SqL.of upd_same) (Pd.imp (fun _ _ h => FrV.t h (Same.t u2)) hss2) ht
    rw [efr] at r1
    exact h _ _ _ (u1.trans u2) ⟨_, _, _, r1, r2, n2, by decide, by decide, trivial, trivial⟩
  have frq : ∀ {H1 : Hp} (p : Addr) (R : V → V → Hp → Prop), H1 p ≠ none → Same H H1 → (∀ x y H3, Same H1 H3 → (∀ HA, SameX p H3 HA → SameT H3 HA → EqD K HA x y) → R x y H3) → MethAt C_Machine "frames" o1.x H1 (sp_frames C_Machine C_Places K [.ref o1.x] H1 (fun x H2 => MethAt C_Machine "frames" o2.x H2 (sp_frames C_Machine C_Places K [.ref o2.x] H2 (fun y H3 => R x y H3) E0)) E0) := by
    intro H1 p R hp S h
    refine ⟨o1.dx, _, S _ _ hx1, rfl, _, o1, P1, s1, rfl, M1.same S, fun l ss hl hss => ?_⟩
    have u1 := same_upd hl (.lst ss)
    refine ⟨o2.dx, _, (S.trans u1) _ _ hx2, rfl, _, o2, P2, s2, rfl, M2.same (S.trans u1), fun l2 ss2 hl2 hss2 => ?_⟩
    have u2 := same_upd hl2 (.lst ss2)
    have nl : l ≠ p := fun z => hp (z ▸ hl)
    have nl2 : l2 ≠ p := fun z => hp (u1.free (z ▸ hl2))
    refine h _ _ _ (u1.trans u2) fun HA hX hT => ?_
    obtain ⟨r1, n1⟩ := frs_nice (SqL.of (hX _ _ nl (u2 _ _ upd_same))) (Pd.imp (fun _ _ h => FrV.t h ((Same.t (u1.trans u2)).trans hT)) hss) ht1
    obtain ⟨r2, n2⟩ := frs_nice (SqL.of (hX _ _ nl2 upd_same)) (Pd.imp (fun _ _ h => FrV.t h ((Same.t u2).trans hT)) hss2) ht
    rw [efr] at r1
    exact ⟨_, _, _, r1, r2, n2, by decide, by decide, trivial, trivial⟩
  have thp : ∀ {H1 : Hp} (R : V → V → Hp → Prop), Same H H1 → (∀ x y H3, Same H1 H3 → EqD K H3 x y → R x y H3) → MethAt C_Machine "things" o1.x H1 (sp_things C_Machine C_Places K [.ref o1.x] H1 (fun x H2 => MethAt C_Machine "things" o2.x H2 (sp_things C_Machine C_Places K [.ref o2.x] H2 (fun y H3 => R x y H3) E0)) E0) := by
    intro H1 R S h
    refine ⟨o1.dx, _, S _ _ hx1, rfl, _, o1, P1, s1, rfl, M1.same S, fun l ss hl hss => ?_⟩
    have u1 := same_upd hl (.lst ss)
    refine ⟨o2.dx, _, (S.trans u1) _ _ hx2, rfl, _, o2, P2, s2, rfl, M2.same (S.trans u1), fun l2 ss2 hl2 hss2 => ?_⟩
    have u2 := same_upd hl2 (.lst ss2)
    rw [emd] at hss
    obtain ⟨r1, n1⟩ := ths_nice (s := s2) (SqL.of (u2 _ _ upd_same)) (Pd.imp (fun _ _ h => ThV.t h (Same.t (u1.trans u2))) hss) ht hz hn
    obtain ⟨r2, n2⟩ := ths_nice (s := s2) (SqL.of upd_same) (Pd.imp (fun _ _ h => ThV.t h (Same.t u2)) hss2) ht hz hn
    exact h _ _ _ (u1.trans u2) ⟨_, _, _, r1, r2, n2, by decide, by decide, trivial, trivial⟩
  have ansp : ∀ {H1 : Hp} {x y : V}, Same H H1 → EndAt K H1 x s1.ended → EndAt K H1 y s2.ended → EqD K H1 x y := by
    intro H1 x y S hx hy
    rw [een] at hx
    cases he : s2.ended with
    | none =>
      rw [he] at hx hy
      cases hx
      cases hy
      exact ⟨_, 0, 0, .non, .non, .none, by decide, by decide, trivial, trivial⟩
    | some e =>
      rw [he] at hx hy
      obtain ⟨a, rfl, ha⟩ := hx
      obtain ⟨b, rfl, hb⟩ := hy
      obtain ⟨r1, m1⟩ := EndIs.nice ha
      obtain ⟨r2, _⟩ := EndIs.nice hb
      exact ⟨_, _, _, r1, r2, m1, by decide, by decide, trivial, trivial⟩
  have nump : ∀ {H1 : Hp} (k : Nat), k ≤ 100000 → EqD K H1 (.int k) (.int k) := fun k hk => ⟨_, 0, 60, .int _, .int _, Nice.int (by omega), by decide, by decide, trivial, trivial⟩
  refine seq5 fun uz4 huz4 uz3 huz3 uz2 huz2 uz1 huz1 => ?_
  walk_at "rd"
  have go3 : ∀ p vs H0 H1, Same H H0 → H0 p = none → Same H0 H1 → H1 p = some (.lst vs) → vs.length ≤ 6 → (∀ v ∈ vs, PV K H0 v) → uz3 { nx := fun x H' => Q V.non H', rt := Q } [some (V.ref o1.x), some (V.ref o2.x), some (V.int bits), some (V.ref p)] H1 := by
    intro p vs H0 H1 S0 hp0 S01 hp hl1 hv
    have S := S0.trans S01
    subst huz3
    walk_at "rd"
    refine ⟨.inl ⟨rfl, _, SqL.of hp⟩, frq p _ (by rw [hp]; exact fun z => (by cases z)) S fun x y H3 S3 hxy => ?_⟩
    refine New.of fun p11 H11 h11 s11 e11 => ?_
    have C11 := S3.trans s11
    refine ⟨_, C11 _ _ hp, by omega, ?_⟩
    have np : p11 ≠ p := fun z => ne_of_none (S3 _ _ hp) h11 z.symm
    have eA : upd H11 p (.lst (vs ++ [.ref p11])) p = some (.lst (vs ++ [.ref p11])) := upd_same
    have xA : SameX p H11 (upd H11 p (.lst (vs ++ [.ref p11]))) := sameX_upd _
    have tA : SameT H11 (upd H11 p (.lst (vs ++ [.ref p11]))) := t_upd _ (C11 _ _ hp) no_lst
    have S0A : Same H0 (upd H11 p (.lst (vs ++ [.ref p11]))) := fun b o hb => xA b o (ne_of_none hb hp0) ((S01.trans C11) b o hb)
    generalize upd H11 p (.lst (vs ++ [.ref p11])) = HA at *
    have pvA : ∀ v ∈ vs ++ [V.ref p11], PV K HA v := by
      intro v hv'
      rcases List.mem_append.mp hv' with h | h
      · exact (hv v h).same S0A
      · rw [List.mem_singleton.mp h]
        exact ⟨p11, x, y, rfl, SqT.t (SqT.of e11) tA, hxy HA (fun b o hb h => xA b o hb (s11 b o h)) ((Same.t s11).trans tA)⟩
    have lA : (vs ++ [V.ref p11]).length ≤ 7 := by rw [List.length_append]; show vs.length + 1 ≤ 7; omega
    generalize vs ++ [V.ref p11] = ws at *
    have SA := S0.trans S0A
    subst huz4
    walk_at "rd"
    refine ⟨⟨_, SqL.of eA⟩, fun D hD => ?_⟩
    have sm : ∀ l, Same HA (upd HA D (.lst l)) := fun l => same_upd hD _
    refine comp_pure ws (fun _ => false) (fun v => v) (fun σ' => ∃ v, σ' = [v]) (fun x σ' => σ' = [some x]) ⟨_, rfl⟩ (fun i l h => ⟨_, _, (sm l).seq (SqL.of eA), List.getElem?_eq_getElem h⟩) (fun l => ⟨_, (sm l).seq (SqL.of eA), Nat.le_refl _⟩) (fun i l x H' hi h => ⟨h.1, h.2 _ ((sm l).seq (SqL.of eA))⟩)
      (fun x hx σ' H' K' h1 h2 => ?_) (fun x hx σ' l K' h1 h2 => ?_) (fun x hx hf => by cases hf) (by rw [sizeLine_eq]; omega) ?_
    · obtain ⟨v, rfl⟩ := h1
      exact h2 _ ⟨_, rfl⟩ rfl
    · subst h1
      obtain ⟨t, a, b, rfl, ht', d', k', n', r1, r2, nn, hk, hn', ns1, ns2⟩ := pvA x hx
      have s := sm l
      have hd' := PyData.hasDict_of_canLay d' nn.lay
      have dd : d'.depth ≤ 60 := Nat.le_trans nn.dep hk
      have ff := Nice.fits2 nn hn'
      walk_at "rd"
      refine ⟨_, ht'.same s, _, ix0, ?_⟩
      refine ⟨_, d', rfl, ns1, r1.same s, nn.sho, hd', dd, ff, ?_⟩
      refine ⟨_, ht'.same s, _, ix1, ?_⟩
      refine ⟨_, d', rfl, ns2, r2.same s, nn.sho, hd', dd, ff, rfl, ?_⟩
      simp only [decide_true, Bool.not_true]
      exact h2
    · rw [show (ws.filter fun _ => false) = [] from List.filter_eq_nil_iff.mpr fun _ _ z => (by cases z)]
      refine New.of fun p12 H12 h12 s12 e12 => ⟨_, nil_rd (s12 _ _ upd_same), _, nil_rd e12, nil_shaped, nil_shaped, ?_⟩
      rw [PySem.SeqAt.eqv_refl (.list []) rfl, if_pos rfl]
      have S12 := SA.trans ((sm []).trans s12)
      refine ⟨o2.dx, _, S12 _ _ hx2, rfl, _, o2, P2, s2, rfl, M2.same S12, rfl, ?_⟩
      rw [ehi]
      exact q _ S12
  have go2 : ∀ p vs H1, Same H H1 → H1 p = some (.lst vs) → vs.length ≤ 4 → (∀ v ∈ vs, PV K H1 v) → uz2 { nx := fun x H' => Q V.non H', rt := Q } [some (V.ref o1.x), some (V.ref o2.x), some (V.int bits), some (V.ref p)] H1 := by
    intro p vs H1 S hp hl1 hv
    subst huz2
    walk_at "rd"
    refine ⟨o1.dx, _, S _ _ hx1, rfl, _, o1, P1, s1, rfl, M1.same S, ?_⟩
    refine ⟨o2.dx, _, S _ _ hx2, rfl, _, o2, P2, s2, rfl, M2.same S, ?_⟩
    refine New.of fun p11 H11 h11 s11 e11 => ?_
    have S11 := S.trans s11
    refine ⟨o1.dx, _, S11 _ _ hx1, rfl, _, o1, P1, s1, rfl, M1.same S11, ?_⟩
    refine ⟨o1.dx, _, S11 _ _ hx1, rfl, _, o1, P1, s1, rfl, M1.same S11, _, rfl, _, rfl, ?_⟩
    refine ⟨o2.dx, _, S11 _ _ hx2, rfl, _, o2, P2, s2, rfl, M2.same S11, ?_⟩
    refine New.of fun p12 H12 h12 s12 e12 => ?_
    refine New.of fun p15 H15 h15 s15 e15 => ?_
    have C15 : Same H1 H15 := s11.trans (s12.trans s15)
    refine ⟨_, C15 _ _ hp, _, e15, by show vs.length + 2 ≤ _; omega, ?_⟩
    refine New.of fun p16 H16 h16 s16 e16 => ?_
    have D15 := s15.trans s16
    refine go3 p16 _ H15 H16 (S.trans C15) h16 s16 e16 (by rw [List.length_append]; show vs.length + 2 ≤ 6; omega) fun v hv' => ?_
    rcases List.mem_append.mp hv' with h | h
    · exact (hv v h).same C15
    · simp only [List.mem_cons, List.not_mem_nil, or_false] at h
      rcases h with rfl | rfl
      · refine ⟨p11, _, _, rfl, SqT.of ((s12.trans s15) _ _ e11), ?_⟩
        rw [ero]; exact nump _ b2
      · refine ⟨p12, _, _, rfl, SqT.of (s15 _ _ e12), ?_⟩
        rw [show ((s1.looks : Nat) : Int) + ((s1.hits : Nat) : Int) = ((s2.looks : Nat) : Int) by omega]
        exact nump _ b3
  have go1 : ∀ p vs H1, Same H H1 → H1 p = some (.lst vs) → vs.length ≤ 1 → (∀ v ∈ vs, PV K H1 v) → uz1 { nx := fun x H' => Q V.non H', rt := Q } [some (V.ref o1.x), some (V.ref o2.x), some (V.int bits), some (V.ref p)] H1 := by
    intro p vs H1 S hp hl1 hv
    subst huz1
    walk_at "rd"
    refine ⟨o1.dx, _, S _ _ hx1, rfl, _, o1, P1, s1, rfl, M1.same S, fun x hx => ?_⟩
    refine ⟨o2.dx, _, S _ _ hx2, rfl, _, o2, P2, s2, rfl, M2.same S, fun y hy => ?_⟩
    have A0 := ansp S hx hy
    refine New.of fun p11 H11 h11 s11 e11 => ?_
    have S11 := S.trans s11
    refine ⟨o1.dx, _, S11 _ _ hx1, rfl, _, o1, P1, s1, rfl, M1.same S11, ?_⟩
    refine ⟨o2.dx, _, S11 _ _ hx2, rfl, _, o2, P2, s2, rfl, M2.same S11, ?_⟩
    refine New.of fun p12 H12 h12 s12 e12 => ?_
    refine thp _ (S11.trans s12) fun x3 y3 H13 S13 h3 => ?_
    refine New.of fun p14 H14 h14 s14 e14 => ?_
    refine New.of fun p15 H15 h15 s15 e15 => ?_
    have C15 : Same H1 H15 := s11.trans (s12.trans (S13.trans (s14.trans s15)))
    refine ⟨_, C15 _ _ hp, _, e15, by show vs.length + 3 ≤ _; omega, ?_⟩
    refine New.of fun p16 H16 h16 s16 e16 => ?_
    have D15 := s15.trans s16
    refine go2 p16 _ H16 (S.trans (C15.trans s16)) e16 (by rw [List.length_append]; show vs.length + 3 ≤ 4; omega) fun v hv' => ?_
    rcases List.mem_append.mp hv' with h | h
    · exact (hv v h).same (C15.trans s16)
    · simp only [List.mem_cons, List.not_mem_nil, or_false] at h
      rcases h with rfl | rfl | rfl
      · exact ⟨p11, _, _, rfl, SqT.of ((s12.trans (S13.trans (s14.trans D15))) _ _ e11), A0.same (C15.trans s16)⟩
      · refine ⟨p12, _, _, rfl, SqT.of ((S13.trans (s14.trans D15)) _ _ e12), ?_⟩
        rw [eca]; exact nump _ b1
      · exact ⟨p14, _, _, rfl, SqT.of (D15 _ _ e14), h3.same (s14.trans D15)⟩
  refine ite2 (fun _ => frp _ (Same.refl _) fun x y H3 S3 hxy => ?_) (fun _ => ?_)
  · skip
    refine New.of fun p1 H1 h1 s1 e1 => ?_
    refine New.of fun p2 H2 h2 s2 e2 => ?_
    refine go1 p2 _ H2 (S3.trans (s1.trans s2)) e2 (Nat.le_refl _) fun v hv => ?_
    rw [List.mem_singleton.mp hv]
    exact ⟨p1, _, _, rfl, SqT.of (s2 _ _ e1), hxy.same (s1.trans s2)⟩
  · skip
    refine New.of fun p1 H1 h1 s1 e1 => ?_
    exact go1 p1 [] H1 s1 e1 (by decide) fun v hv => by cases hv
end
end K63
end

section
set_option Elab.async false
set_option linter.all false
set_option maxRecDepth 100000
set_option maxHeartbeats 4000000
set_option pp.deepTerms true
set_option format.width 200
namespace K63
open PySem L2 MM
open Mach (AV AFr Row Sg Blk MS PL Mem getP updM seen others Bd)
seal L2.PE L2.PA L2.PT L2.PS L2.PSs L2.PG L2.PGs L2.PI L2.PW
inductive Sp_law (K : PySem.W.Frag) (vs : List V) (H : Hp) (Q : VK) : Prop
  | mk (a : Addr) (ns : List Int) (a1 : vs = [.ref a]) (a2 : SqL K H a (ns.map V.int)) (a3 : ns.length ≤ 63) (a4 : ∀ H', Q (.bl true) H') : Sp_law K vs H Q
def sp_law (K : PySem.W.Frag) : Sp := fun vs H Q _ => Sp_law K vs H Q
theorem nexc {CM CP : Addr} {K : PySem.W.Frag} {ex : Addr → Prop} {o : MO} {P : Mach.Prog} {s : MS} {H : Hp} (M : MAt CM CP K ex o P s H) {c : Addr} (h : Cell o c) : ¬ ex c := by
  have := M.nex
  rcases h with rfl | rfl | rfl | rfl | rfl
  · exact this.1
  · exact this.2.1
  · exact this.2.2.1
  · exact this.2.2.2.1
  · exact this.2.2.2.2
theorem sqL_keep {K : PySem.W.Frag} {H H' : Hp} {a : Addr} {xs : List V} (h : SqL K H a xs) (k : H a ≠ none → H' a = H a) : SqL K H' a xs := by
  rcases h with (h | ⟨o, h⟩) | h
  · exact .inl (.inl (by rw [k (by rw [h]; exact fun z => (by cases z))]; exact h))
  · exact .inl (.inr ⟨o, by rw [k (by rw [h]; exact fun z => (by cases z))]; exact h⟩)
  · exact .inr h
noncomputable def WI (CM CP : Addr) (K : PySem.W.Frag) (B : Addr → Prop) (Pp : Mach.Prog) (n : Nat) (sF : MS) (tr : List (Nat × Nat)) (x1 x2 : Addr) (H7 : Hp) (σ0 : Nat → St) (mm : Nat) (σ : St) (H' : Hp) : Prop := ∃ i t s1 tr1 tr2 o1 o2, mm = n - i ∧ i ≤ n ∧ Mach.RunT Pp (n - i) t sF tr2 ∧ tr2 ++ tr1 = tr ∧ Mach.Sim Pp P63.wd tr1 s1 t ∧ Two CM CP K B o1 o2 Pp (Mach.plain Pp) s1 t H' ∧ (∀ k, t.mem k = none) ∧ Mach.Hts t ∧ Mach.Sz i t ∧ Mach.Sz i s1 ∧ t.calls ≤ i ∧ t.rows = i ∧ o1.x = x1 ∧ o2.x = x2 ∧ Keep B H7 H' ∧ σ = σ0 i
section
variable {C_Places C_Machine D_ROW_SIGNS : Addr} {P : Program} {w : World} {K : PySem.W.Frag} {mg : Str → Option Value} {base : Heap}
theorem ok_law (T : Txt P w K mg C_Places C_Machine D_ROW_SIGNS) {f : Addr} {fd : FuncData} (F : Fun K "law" "law" s_law f fd) : FnOk P w K mg base CX0 8 f fd ["_law_script"] (sp_law K) := by
  have h__law_cell_at := ok_cell (P := P) (w := w) (base := base) T
  have h__law_mixed := ok_mixed (P := P) (w := w) (base := base) T
  have h__law_program := ok_prog T h__law_cell_at h__law_mixed (ok_tellr (P := P) (w := w) (base := base) T)
  have h__law_answer := ok_ans (P := P) (w := w) (base := base) T
  have h__law_remembered := ok_remd (P := P) (w := w) (base := base) T
  have h_Machine_answer := ok_answer (P := P) (w := w) (base := base) T
  have h_Machine_calls := ok_calls (P := P) (w := w) (base := base) T
  have h_Machine_looks := ok_looks (P := P) (w := w) (base := base) T
  have h_Machine_hits := ok_hits (P := P) (w := w) (base := base) T
  have h__law_alike := ok_alike T h_Machine_answer (ok_frames (P := P) (w := w) (base := base) T) (ok_things (P := P) (w := w) (base := base) T) h_Machine_calls h_Machine_looks h_Machine_hits (ok_rows_done (P := P) (w := w) (base := base) T)
  have h_uppermost := ok_up (P := P) (w := w) (base := base) T
  have h_behind := ok_behind (P := P) (w := w) (base := base) T
  have h_entered := ok_entered (P := P) (w := w) (base := base) T
  have h_two_told := ok_two_told T (ok_bounded (P := P) (w := w) (base := base) T) (ok_number_told (P := P) (w := w) (base := base) T)
  have h_two_done := ok_two_done T h_two_told h_behind
  have h_own_done := ok_own T h_two_done h_behind (ok_field (P := P) (w := w) (base := base) T)
  have h_Machine_end := ok_end (P := P) (w := w) (base := base) T
  have h_Machine_told_answer := ok_tolda (P := P) (w := w) (base := base) T
  have h_Places_told := ok_told (P := P) (w := w) (base := base) T
  have h_Places_asked := ok_asked T h_Places_told
  have h_Places_put := ok_put T h_Places_told
  have h_Machine_step := ok_mstep T (ok_mmake T h_uppermost h_behind) (ok_setf T h_uppermost h_behind) (ok_foundb T h_uppermost h_Places_asked h_Places_put) (ok_menter T h_Machine_end h_uppermost h_entered) (ok_goback T h_Machine_told_answer h_Machine_end) (ok_doown T h_own_done h_Machine_end)
  have h_Machine_6_0 := ok_minit T 6 0 0 [] (ok_pinit (P := P) (w := w) (base := base) T) h_entered (fun kV doc pm an cdv ct dA u1 u2 us ws h1 h2 => el6 us h1 fun _ _ _ _ _ _ => el0 ws h2 ⟨_, rfl, rfl⟩)
  refine F.ok sc_law (fun vs H Q E h => ?_) (fun cdv A outer s H vs Q E hr h => ?_)
  · obtain ⟨a, ns, rfl, _⟩ := h
    rfl
  obtain ⟨a, ns, rfl, sq, hl, q⟩ := h
  refine ⟨_, (pss_cons (ps_set (i := 1) sc_law.nd rfl (Or.inl rfl) (pe_has h__law_program hr (by decide) rfl (pa_cons (pvF 0) pa_nil)))
    (pss_cons (ps_set (i := 2) sc_law.nd rfl (Or.inl rfl) (pe_op op_mod (pe_op op_fdiv (pe_has h__law_cell_at hr (by decide) rfl (pa_cons (pvF 0) (pa_cons pe_int pa_nil))) pe_int) pe_int))
    (pss_cons (ps_if (pt_cmpR op_eq (pe_op op_mod (pe_has h__law_cell_at hr (by decide) rfl (pa_cons (pvF 0) (pa_cons pe_int pa_nil))) pe_int) pe_int (nomark _)) (pss_one (ps_set (i := 2) sc_law.nd rfl (Or.inl rfl) (pe_callB (call_max2 rfl) rfl T.z_max bt_max (pa_cons pe_int (pa_cons (pe_op op_add (pe_op op_mul pe_int (pe_ix (r := rIxTF K) ix_tupF (pvF 1) pe_int (fun _ _ => rfl))) (pe_op op_mod (pe_op op_fdiv (pe_has h__law_cell_at hr (by decide) rfl (pa_cons (pvF 0) (pa_cons pe_int pa_nil))) pe_int) pe_int)) pa_nil))))) pss_nil)
    (pss_cons (ps_set (i := 3) sc_law.nd rfl (Or.inl rfl) (pe_mkD T.Machine h_Machine_6_0 hr (by decide) rfl (pa_cons (pe_callTy call_list_of rfl T.z_list bt_list (pa_cons (pe_ix (r := rIxTF K) ix_tupF (pvF 1) pe_int (fun _ _ => rfl)) pa_nil)) (pa_cons (pe_comp0 rfl (BlockOk.plain (N := ["_law_row"]) rfl (by decide +kernel) (by decide +kernel) (by decide +kernel)) (pi_list (pe_ix (r := rIxTF K) ix_tupF (pvF 1) pe_int (fun _ _ => rfl)))
          (fun C fp s H => (pg_name (i := 0) (show (["_law_row"] : List Str).Nodup by decide +kernel) rfl (Or.inl rfl)))
          (fun C fp s H => (pe_callTy (r := rLstOf K) call_list_of rfl T.z_list bt_list (pa_cons (pvF 0) pa_nil)))) (pa_cons (pe_lst pa_nil) (pa_cons (pvF 2) (pa_cons pe_bl pa_nil))))) pk_nil))
    (pss_cons (ps_set (i := 4) sc_law.nd rfl (Or.inl rfl) (pe_mkD T.Machine h_Machine_6_0 hr (by decide) rfl (pa_cons (pe_callTy call_list_of rfl T.z_list bt_list (pa_cons (pe_ix (r := rIxTF K) ix_tupF (pvF 1) pe_int (fun _ _ => rfl)) pa_nil)) (pa_cons (pe_comp0 rfl (BlockOk.plain (N := ["_law_row"]) rfl (by decide +kernel) (by decide +kernel) (by decide +kernel)) (pi_list (pe_ix (r := rIxTF K) ix_tupF (pvF 1) pe_int (fun _ _ => rfl)))
          (fun C fp s H => (pg_name (i := 0) (show (["_law_row"] : List Str).Nodup by decide +kernel) rfl (Or.inl rfl)))
          (fun C fp s H => (pe_callTy (r := rLstOf K) call_list_of rfl T.z_list bt_list (pa_cons (pvF 0) pa_nil)))) (pa_cons (pe_lst pa_nil) (pa_cons (pvF 2) (pa_cons pe_bl pa_nil))))) pk_nil))
    (pss_cons (ps_set (i := 5) sc_law.nd rfl (Or.inl rfl) (pe_cmpR op_gt (pe_ix (r := rIxTF K) ix_tupF (pvF 1) pe_int (fun _ _ => rfl)) pe_int (nomark _)))
    (pss_cons (ps_set (i := 6) sc_law.nd rfl (Or.inl rfl) pe_int)
    (pss_cons (ps_while PassesOwn.never (pt_val (pe_hasM0F (pvF 3) T.Machine.cl h_Machine_step hr (by decide))) (pss_cons (ps_set (i := 6) sc_law.nd rfl (Or.inl rfl) (pe_op op_add (pvF 6) pe_int))
    (pss_cons (ps_if (PW.pt (pw_or (pt_cmpR op_isnotB (pe_hasM0F (pvF 4) T.Machine.cl h_Machine_step hr (by decide)) pe_bl (nomark _)) (pw_or1 (pt_cmpR op_gt (pvF 6) pe_int (nomark _))))) (pss_one (ps_ret pe_bl)) pss_nil)
    (pss_one (ps_if (PW.pt (pw_and (pt_not (pt_val (pvF 5))) (pw_and1 (pt_not (pt_val (pe_has h__law_alike hr (by decide) rfl (pa_cons (pvF 3) (pa_cons (pvF 4) (pa_cons (pe_has h__law_mixed hr (by decide) rfl (pa_cons (pe_has h__law_cell_at hr (by decide) rfl (pa_cons (pvF 0) (pa_cons pe_int pa_nil))) (pa_cons (pvF 6) pa_nil))) pa_nil))))))))) (pss_one (ps_ret pe_bl)) pss_nil)))))
    (pss_cons (ps_if (PW.pt (pw_or (pt_cmpR op_isnotB (pe_hasM0F (pvF 4) T.Machine.cl h_Machine_step hr (by decide)) pe_bl (nomark _)) (pw_or1 (pt_not (pt_val (pe_has h__law_alike hr (by decide) rfl (pa_cons (pvF 3) (pa_cons (pvF 4) (pa_cons pe_int pa_nil))))))))) (pss_one (ps_ret pe_bl)) pss_nil)
    (pss_cons (ps_asg (pe_has h__law_answer hr (by decide) rfl (pa_cons (pvF 1) (pa_cons (pvF 2) pa_nil))) (pg_tupF (n := 3) rfl (pgs_consF (pg_name (i := 7) sc_law.nd rfl (Or.inl rfl)) (pgs_consF (pg_name (i := 8) sc_law.nd rfl (Or.inl rfl)) (pgs_consF (pg_name (i := 9) sc_law.nd rfl (Or.inl rfl)) pgs_nil)))))
    (pss_one (ps_ret (pe_cmpR op_eq (pe_callB (r := rReprD K) (call_reprD hr.gd hr.units) rfl T.z_repr bt_repr (pa_cons (pe_lst (pa_cons (pe_hasM0F (pvF 3) T.Machine.cl h_Machine_answer hr (by decide)) (pa_cons (pe_hasM0F (pvF 3) T.Machine.cl h_Machine_calls hr (by decide)) (pa_cons (pe_lst (pa_cons (pe_hasM0F (pvF 3) T.Machine.cl h_Machine_looks hr (by decide)) (pa_cons (pe_hasM0F (pvF 3) T.Machine.cl h_Machine_hits hr (by decide)) pa_nil))) pa_nil)))) pa_nil)) (pe_callB (r := rReprD K) (call_reprD hr.gd hr.units) rfl T.z_repr bt_repr (pa_cons (pe_lst (pa_cons (pvF 7) (pa_cons (pvF 8) (pa_cons (pe_has h__law_remembered hr (by decide) rfl (pa_cons (pvF 9) pa_nil)) pa_nil)))) pa_nil)) (nomark _)))))))))))))), ?_⟩
  refine seq11 fun uz10 huz10 uz9 huz9 uz8 huz8 uz7 huz7 uz6 huz6 uz5 huz5 uz4 huz4 uz3 huz3 uz2 huz2 uz1 huz1 => ?_
  walk_at "rd"
  have cell : ∀ (k : Nat) {H' : Hp} {Q' : VK} {E' : XK}, Same H H' → (∀ c, Q' (.int c) H') → sp_cell K [.ref a, .int (k : Int)] H' Q' E' := fun k H' Q' E' s h => ⟨a, ns, k, rfl, sq.same s, h⟩
  refine ⟨a, ns, rfl, sq, fun p bl ld wl hl' vl bs ls d H1 S1 hp hbl hbs hld hls hwl hhl hvl ok => ?_⟩
  subst huz1
  walk_at "rd"
  refine cell 6 S1 fun c6 => ⟨c6, rfl, ?_⟩
  subst huz2
  walk_at "rd"
  have hwl9 : d.wy.length ≤ 900 := by have := ok.n; omega
  have hkl9 : d.kinds.length ≤ 900 := by have := ok.n; omega
  have go3 : ∀ m : Nat, m ≤ 1000 → uz3 { nx := fun x H' => Q V.non H', rt := Q } [some (V.ref a), some (V.ref p), some (V.int (m : Nat)), none, none, none, none, none, none, none] H1 := by
    intro m hm
    have tabs : ∀ {HA HB : Hp} {D : Addr} {Q' : VK}, HA ld = some (.lst ls) → Paired (fun v t => ∃ ta, v = .ref ta ∧ SqL K HA ta (t.map tabV)) ls (P63.prog d true).tables → Same HA HB → HB D = none → (∀ ts HC, Same HB HC → HC D = some (.lst ts) → Paired (fun v t => ∃ ta, v = .ref ta ∧ SqL K HC ta (t.map tabV)) ts (P63.prog d true).tables → Q' (.ref D) HC) → CompW (Itl K ld) (gName 0) tTrue (tCB (rLstOf K) (tCons (tVarF 0) tNil)) D Q' [none] (upd HB D (.lst [])) := by
      intro HA HB D Q' hA pA S hD k
      have lt : ls.length = (P63.prog d true).tables.length := Paired.length pA
      have l4 : (P63.prog d true).tables.length ≤ 900 := by show (d.wy.map _).length ≤ 900; rw [List.length_map]; exact hwl9
      refine comp_growXL (ys := ls) none [] (fun j v H => ∃ ta t, v = .ref ta ∧ (P63.prog d true).tables[j]? = some t ∧ H ta = some (.lst (t.map tabV)) ∧ ta ≠ D) (fun j v H1 H2 ⟨ta, t, a, b, c, e⟩ s => ⟨ta, t, a, b, s _ _ e c, e⟩) rfl hD (by rw [sizeLine_eq]; omega) (fun H1 s => SqL.same (SqL.of (S _ _ hA)) s) ?_ ?_
      · intro i y hy H1 K' s hd k'
        obtain ⟨t, ht, ta, rfl, hta⟩ := Pd.at' pA hy
        walk_at "rd"
        refine ⟨ta, _, rfl, .inl ((hta.same S).same s), fun l hl => k' _ _ (same_upd hl _) ⟨l, t, rfl, ht, upd_same, fun z => hd (z ▸ hl)⟩⟩
      · intro ts HC SC hts lts hR
        refine k ts HC SC hts (paired_of (lts.trans lt) fun j v t hv ht => ?_)
        obtain ⟨ta, t', a, b, c, _⟩ := hR j v hv
        rw [ht] at b
        cases b
        exact ⟨ta, a, SqL.of c⟩
    have mk : ∀ (r : Bool) {HA : Hp} (l D : Addr) (ts : List V) (R : Addr → Hp → Prop), Same H1 HA → HA l = some (.lst bs) → HA D = some (.lst ts) → Paired (fun v t => ∃ ta, v = .ref ta ∧ SqL K HA ta (t.map tabV)) ts (P63.prog d true).tables → (∀ o HB, Same HA HB → MAt C_Machine C_Places K (fun a => HA a ≠ none) o (P63.prog { d with most := m } r) (P63.init { d with most := m }) HB → R o.x HB) →
        New HA (.lst []) fun p_1 H2 => ∀ (x dx : Addr), H2 x = none → H2 dx = none → ¬ dx = x → sp_minit C_Machine C_Places K (gShape 6 0 (List.drop 2 [V.int 100, V.bl true]) [V.ref x, V.ref l, V.ref D, V.ref p_1, V.int m, V.bl r] []) (upd (upd H2 dx (.own x)) x (.ins C_Machine dx [])) (fun v H3 => v = .non ∧ R x H3) E0 := by
      intro r HA l D ts R S hl hD pts k
      refine New.of fun p9 H9 h9 s9 e9 => ?_
      intro x dx hx hdx ndx
      rw [show gShape 6 0 (List.drop 2 [V.int 100, V.bl true]) [V.ref x, V.ref l, V.ref D, V.ref p9, V.int m, V.bl r] [] = [V.ref x, V.ref l, V.ref D, V.ref p9, V.int m, V.bl r] from gShape_ap rfl rfl]
      have sX : Same HA (upd (upd H9 dx (.own x)) x (.ins C_Machine dx [])) := fun b o hb => by
        have hb2 := s9 b o hb
        rw [upd_ne (ne_of_none hb2 hx), upd_ne (ne_of_none hb2 hdx)]
        exact hb2
      have nx : HA x = none := s9.free hx
      have eX : upd (upd H9 dx (.own x)) x (.ins C_Machine dx []) x = some (.ins C_Machine dx []) := upd_same
      have e9X : upd (upd H9 dx (.own x)) x (.ins C_Machine dx []) p9 = some (.lst []) := by
        rw [upd_ne (ne_of_none e9 hx), upd_ne (ne_of_none e9 hdx)]; exact e9
      generalize upd (upd H9 dx (.own x)) x (.ins C_Machine dx []) = HX at *
      have SX := S.trans sX
      refine ⟨fun a => HA a ≠ none, x, dx, l, D, p9, P63.prog { d with most := m } r, bs, ts, [], ⟨0, 0, P63.mainRows d⟩, d.kinds.map P63.tell ++ [P63.go d.last], rfl, eX, SqL.of (sX _ _ hl), Pd.imp (fun _ _ h => h.t (Same.t SX)) hbs, ?_, SqL.of (sX _ _ hD), Pd.imp (fun v t ⟨ta, a, b⟩ => ⟨ta, a, b.same sX⟩) pts, SqL.of e9X, fun n hn => (by cases hn), Nat.le_refl _, (show 0 < 900 by decide), ?_, ?_, fun z => z nx, fun b hb => ?_, fun o H' ox SX' M => ⟨rfl, ?_⟩⟩
      · show d.kinds.map P63.tell ++ [P63.go d.last, ⟨0, 0, P63.mainRows d⟩] = _
        rw [List.append_assoc]
        rfl
      · show (d.kinds.map P63.tell ++ [P63.go d.last, ⟨0, 0, P63.mainRows d⟩]).length < 900
        rw [List.length_append, List.length_map]
        have := ok.n
        show d.kinds.length + 2 < 900
        omega
      · show (d.wy.map _).length < 900
        rw [List.length_map]
        have := ok.n
        omega
      · obtain ⟨o, ho⟩ := Option.ne_none_iff_exists'.mp hb
        rw [sX _ _ ho]
        exact fun z => (by cases z)
      · rw [← ox]
        refine k o H' (fun b u hb => SX' b u (ne_of_none hb nx) (sX b u hb)) ?_
        have e : initS ⟨0, 0, P63.mainRows d⟩ (d.kinds.map P63.tell ++ [P63.go d.last]).length [] = P63.init { d with most := m } := by
          unfold initS P63.init
          rw [List.length_append, List.length_map]
          rfl
        rw [← e]
        exact M
    subst huz3
    walk_at "rd"
    refine ⟨_, hp, _, rfl, bl, rfl, _, .inl (SqL.of hbl), ?_⟩
    intro l1 hl1
    have u1 := same_upd hl1 (.lst bs)
    have el1' : upd H1 l1 (.lst bs) l1 = some (.lst bs) := upd_same
    generalize upd H1 l1 (.lst bs) = H2 at *
    refine ⟨_, hp.same u1, _, rfl, ld, rfl, ⟨_, SqL.of (u1 _ _ hld)⟩, fun D1 hD1 => ?_⟩
    refine tabs hld hls u1 hD1 fun ts H3 S3 hts pts => ?_
    refine mk true l1 D1 ts _ (u1.trans S3) (S3 _ _ el1') hts pts fun o1 H4 S4 M1 => ?_
    subst huz4
    walk_at "rd"
    have S14 := (u1.trans S3).trans S4
    refine ⟨_, hp.same S14, _, rfl, bl, rfl, _, .inl (SqL.of (S14 _ _ hbl)), ?_⟩
    intro l2 hl2
    have u2 := same_upd hl2 (.lst bs)
    have el2' : upd H4 l2 (.lst bs) l2 = some (.lst bs) := upd_same
    generalize upd H4 l2 (.lst bs) = H5 at *
    have S15 := S14.trans u2
    refine ⟨_, hp.same S15, _, rfl, ld, rfl, ⟨_, SqL.of (S15 _ _ hld)⟩, fun D2 hD2 => ?_⟩
    refine tabs hld hls S15 hD2 fun ts2 H6 S6 hts2 pts2 => ?_
    refine mk false l2 D2 ts2 _ (S15.trans S6) (S6 _ _ el2') hts2 pts2 fun o2 H7 S7 M2 => ?_
    have S17 : Same H1 H7 := (S15.trans S6).trans S7
    have S47 : Same H4 H7 := u2.trans (S6.trans S7)
    obtain ⟨B, hB⟩ : ∃ B : Addr → Prop, B = fun b => (b = a ∧ H a ≠ none) ∨ b = wl ∨ b = hl' ∨ b = vl := ⟨_, rfl⟩
    have some_ne : ∀ {G : Hp} {b : Addr} {u : HO}, G b = some u → G b ≠ none := fun h z => by rw [h] at z; cases z
    have B1 : ∀ b, B b → H1 b ≠ none := by
      intro b hb
      rw [hB] at hb
      rcases hb with ⟨rfl, h⟩ | rfl | rfl | rfl
      · obtain ⟨u, hu⟩ := Option.ne_none_iff_exists'.mp h
        exact some_ne (S1 _ _ hu)
      · exact some_ne hwl
      · exact some_ne hhl
      · exact some_ne hvl
    have up_ne : ∀ {G G' : Hp} {b : Addr}, Same G G' → G b ≠ none → G' b ≠ none := fun s h => by
      obtain ⟨u, hu⟩ := Option.ne_none_iff_exists'.mp h
      exact some_ne (s _ _ hu)
    have c6 : ∀ {c}, Cell o1 c → H6 c ≠ none := fun h => up_ne (u2.trans S6) (M1.cell h)
    have T0 : Two C_Machine C_Places K B o1 o2 (P63.prog { d with most := m } true) (Mach.plain (P63.prog { d with most := m } true)) (P63.init { d with most := m }) (P63.init { d with most := m }) H7 := by
      have nn : ∀ {c}, Cell o1 c → ¬ (Cell o2 c ∨ B c) := fun h z => z.elim (fun z => nexc M2 z (c6 h)) fun z => nexc M1 h (up_ne (u1.trans S3) (B1 _ z))
      exact ⟨(M1.same S47).reex0 (fun _ => rfl) ⟨nn (.inl rfl), nn (.inr (.inl rfl)), nn (.inr (.inr (.inl rfl))), nn (.inr (.inr (.inr (.inl rfl)))), nn (.inr (.inr (.inr (.inr rfl))))⟩ (fun b h => h.elim (fun h => M2.cell h) fun h => up_ne S17 (B1 _ h)), M2.reex0 (fun _ => rfl) (rest_nex o2 H7) (fun b h => h.1), fun b h z => nexc M2 z (up_ne (S15.trans S6) (B1 _ h))⟩
    have ok' : P63.Dr.Ok { d with most := m } := ⟨ok.k, ok.w, ok.h, ok.v, ok.c, ok.l, ok.n⟩
    obtain ⟨n, sF, hn, hrun, hfin⟩ := P63.whole (rem := true) ok'
    subst huz5
    walk_at "rd"
    refine ⟨_, hp.same S17, _, rfl, _, rfl, ?_⟩
    subst huz6
    walk_at "rd"
    subst huz7
    walk_at "rd"
    refine ⟨WI C_Machine C_Places K B (P63.prog { d with most := m } true) n sF (P63.ans { d with most := m }).2.2 o1.x o2.x H7 fun i => [some (.ref a), some (.ref p), some (.int m), some (.ref o1.x), some (.ref o2.x), some (.bl (decide (12 < (d.count : Int)))), some (.int (i : Nat)), none, none, none], ⟨n, 0, _, _, [], _, o1, o2, rfl, Nat.zero_le _, hrun, List.append_nil _, P63.sim0, T0, fun _ => rfl, P63.hts0 hkl9, P63.sz0, P63.sz0, Nat.le_refl _, rfl, rfl, rfl, Keep.refl _, rfl⟩, ?_⟩
    rintro mm σ H' ⟨i, t, s1, tr1, tr2, o1', o2', rfl, hi, hrun2, htr, hsim, hT, hmem, hht, hz, hz1, hca, hro, e1, e2, hk, rfl⟩
    walk_at "rd"
    obtain ⟨v1, hx1, _⟩ := hT.m1.ins
    obtain ⟨v2, hx2, _⟩ := hT.m2.ins
    rw [e1] at hx1
    rw [e2] at hx2
    by_cases hlast : n - i = 0
    · rw [hlast] at hrun2
      obtain ⟨rfl, rfl⟩ := Mach.runT_nil hrun2
      have en1 : s1.ended = some (P63.ans { d with most := m }).1 := by rw [hsim.eq]; exact hfin.en
      refine ⟨o1'.dx, _, hx1, rfl, _, o1', _, s1, by rw [e1], hT.m1, .inl ⟨by rw [en1]; exact fun z => (by cases z), false, rfl, ?_⟩⟩
      rw [if_neg (by decide)]
      subst huz8
      walk_at "rd"
      refine ⟨o2'.dx, _, hx2, rfl, _, o2', _, t, by rw [e2], hT.m2, .inl ⟨by rw [hfin.en]; exact fun z => (by cases z), false, rfl, ?_⟩⟩
      rw [if_neg (by decide)]
      have q1 := hsim.eq
      refine ⟨_, _, o1', o2', _, _, s1, t, i, 0, by rw [e1, e2], hT.m1, hT.m2, by rw [q1]; rfl, by rw [q1]; rfl, by rw [q1]; rfl, by rw [q1]; rfl, by rw [q1]; rfl, by rw [hsim.mi.lo, hsim.lo], hsim.hi, hht, hz, by omega, by omega, by omega, by have := hz.lh; omega, fun HC sc => ⟨true, rfl, ?_⟩⟩
      rw [if_neg (by decide)]
      subst huz9
      walk_at "rd"
      have MC := hT.m1.same sc
      have kC : Keep B H7 HC := hk.trans (hT.m1.keepS sc |> fun q => ⟨q.t, fun b hb => q.k b (.inr hb)⟩)
      have atB : ∀ {b u}, B b → H1 b = some u → HC b = some u := fun hb h => by rw [kC.k _ hb]; exact S17 _ _ h
      refine ⟨p, bl, ld, wl, hl', vl, { d with most := m }, rfl, SqT.t (hp.same S17) kC.t, atB (by rw [hB]; exact .inr (.inl rfl)) hwl, atB (by rw [hB]; exact .inr (.inr (.inl rfl))) hhl, atB (by rw [hB]; exact .inr (.inr (.inr rfl))) hvl, ok', fun r ea sl rs HD SD hr' he hsl hrs => ?_⟩
      refine ⟨r, rfl, _, hr', rfl, _, _, rfl, _, _, rfl, _, _, rfl, rfl, ?_⟩
      have MD := MC.same SD
      obtain ⟨v5, hx5, he5⟩ := MD.ins
      rw [e1] at hx5
      subst huz10
      walk_at "rd"
      have c1 : s1.calls = (P63.ans { d with most := m }).2.1 := by rw [q1]; exact hfin.ca
      have htr' : tr1 = (P63.ans { d with most := m }).2.2 := htr
      have h1 := hsim.mi.hi
      have l1 := hsim.mi.lo
      have hlh := hz1.lh
      refine ⟨o1'.dx, _, hx5, rfl, _, o1', _, s1, by rw [e1], MD, fun x hx => ?_⟩
      rw [en1] at hx
      obtain ⟨ax, rfl, hax⟩ := hx
      refine ⟨o1'.dx, _, hx5, rfl, _, o1', _, s1, by rw [e1], MD, ?_⟩
      refine ⟨o1'.dx, _, hx5, rfl, _, o1', _, s1, by rw [e1], MD, ?_⟩
      refine ⟨o1'.dx, _, hx5, rfl, _, o1', _, s1, by rw [e1], MD, ?_⟩
      refine New.of fun p11 H11 h11 s11 e11 => ?_
      refine New.of fun p12 H12 h12 s12 e12 => ?_
      have S12 := s11.trans s12
      obtain ⟨rd1, nd⟩ := EndIs.nice (hax.t (Same.t S12))
      have cc : s1.calls ≤ 100000 := by rw [q1]; show t.calls ≤ 100000; omega
      have nn : Nice 4 1000 (.list [endD (P63.ans { d with most := m }).1, .int s1.calls, .list [.int s1.looks, .int s1.hits]]) :=
        Nice.lst (k := 3) (.cons (a := 200) (b := 700) (nd.mono (by decide) (Nat.le_refl _)) (.cons (a := 60) (b := 600) (.int (by omega)) (.cons (a := 300) (b := 0) ((Nice.lst (k := 0) (n := 300) (.cons (a := 60) (b := 100) (.int (by omega)) (.cons (a := 60) (b := 0) (.int (by omega)) .nil (by decide)) (by decide))).mono (by decide) (Nat.le_refl _)) .nil (by decide)) (by decide)) (by decide))
      refine repr_nice (.lst (SqL.of e12) (.cons rd1 (.cons (.int _) (.cons (.lst (SqL.of (s12 _ _ e11)) (.cons (.int _) (.cons (.int _) .nil))) .nil)))) nn (by decide) (by decide) ?_
      refine ⟨sl, rs, (P63.ans { d with most := m }).2.2.reverse, rfl, SqL.of (S12 _ _ hsl), Pd.imp (fun _ _ h => h.same S12) hrs, by rw [List.length_reverse, ← htr']; omega, fun r2 HE SE hr2 => ?_⟩
      rw [List.length_reverse, List.reverse_reverse, ← htr', ← h1, show ((tr1.length : Nat) : Int) - ((s1.hits : Nat) : Int) = ((s1.looks : Nat) : Int) by omega] at hr2
      rw [← c1]
      refine New.of fun p13 H13 h13 s13 e13 => ?_
      obtain ⟨rd2, _⟩ := EndIs.nice (he.t (Same.t (S12.trans (SE.trans s13))))
      refine repr_nice (.lst (SqL.of e13) (.cons rd2 (.cons (.int _) (.cons (.lst (SqL.of (s13 _ _ hr2)) (.cons (.int _) (.cons (.int _) .nil))) .nil)))) nn (by decide) (by decide) ⟨rfl, ?_⟩
      simp only [decide_true]
      exact q _
    · obtain ⟨k, hk'⟩ : ∃ k, n - i = k + 1 := ⟨n - i - 1, by omega⟩
      rw [hk'] at hrun2
      obtain ⟨t', tr3, hst, hrun3, rfl⟩ := Mach.runT_cons hrun2
      obtain ⟨s1', hst1, hsim'⟩ := Mach.sim_step rfl (fun f site word many h => P63.words f site word many h) hsim hst
      refine ⟨o1'.dx, _, hx1, rfl, _, o1', _, s1, by rw [e1], hT.m1, .inr ⟨i, s1', hst1, hz1, P63.psz ok' hwl9, by omega, fun o1'' HA eo ka MA => ⟨true, rfl, ?_⟩⟩⟩
      rw [if_pos rfl]
      have TA := hT.one hmem ka MA
      have hmem' : ∀ k, t'.mem k = none := fun k => by rw [Mach.step_mem rfl hst]; exact hmem k
      obtain ⟨v3, hx3, _⟩ := TA.m2.ins
      rw [e2] at hx3
      refine ⟨WI C_Machine C_Places K B (P63.prog { d with most := m } true) n sF (P63.ans { d with most := m }).2.2 o1.x o2.x H7 (fun i => [some (.ref a), some (.ref p), some (.int m), some (.ref o1.x), some (.ref o2.x), some (.bl (decide (12 < (d.count : Int)))), some (.int (i : Nat)), none, none, none]) (n - (i + 1)), fun σ' H'' h => ⟨n - (i + 1), by omega, h⟩, ?_⟩
      refine ⟨o2'.dx, _, hx3, rfl, _, o2', _, t, by rw [e2], TA.m2, .inr ⟨i, t', hst, hz, P63.psz (rem := false) ok' hwl9, by omega, fun o2'' HB eo2 kb MB => ⟨true, rfl, ?_⟩⟩⟩
      rw [if_neg (by decide), if_neg (by omega)]
      have TB := TA.two hmem' kb MB
      have kB : Keep B H7 HB := hk.trans (Keep.trans ⟨ka.t, fun b hb => ka.k b (.inr hb)⟩ ⟨kb.t, fun b hb => kb.k b ⟨TA.m1.exs b (.inr hb), TA.b2 b hb⟩⟩)
      have hz' : Mach.Sz (i + 1) t' := Mach.step_sz (P63.psz (rem := false) ok' hwl9) hz hst
      have hz1' : Mach.Sz (i + 1) s1' := Mach.step_sz (P63.psz ok' hwl9) hz1 hst1
      have hht' : Mach.Hts t' := Mach.step_ht (P63.ph (d := { d with most := m }) (rem := false) hkl9) hht hst
      obtain ⟨cr1, cr2⟩ := Mach.step_cr hst
      have fin : ∀ HC, Same HB HC → WI C_Machine C_Places K B (P63.prog { d with most := m } true) n sF (P63.ans { d with most := m }).2.2 o1.x o2.x H7 (fun i => [some (.ref a), some (.ref p), some (.int m), some (.ref o1.x), some (.ref o2.x), some (.bl (decide (12 < (d.count : Int)))), some (.int (i : Nat)), none, none, none]) (n - (i + 1)) [some (.ref a), some (.ref p), some (.int m), some (.ref o1.x), some (.ref o2.x), some (.bl (decide (12 < (d.count : Int)))), some (.int ((i : Int) + 1)), none, none, none] HC := by
        intro HC sc
        refine ⟨i + 1, t', s1', _, tr3, o1'', o2'', rfl, by omega, by rw [show n - (i + 1) = k by omega]; exact hrun3, by rw [← htr, List.append_assoc], hsim', TB.same hmem' sc, hmem', hht', hz', hz1', by omega, by omega, eo.trans e1, eo2.trans e2, kB.trans (TB.m1.keepS sc |> fun q => ⟨q.t, fun b hb => q.k b (.inr hb)⟩), rfl⟩
      refine ite2 (fun e => ?_) (fun e => fin HB (Same.refl _))
      have cellB : SqL K HB a (ns.map V.int) := sqL_keep sq fun h => by
        rw [kB.k a (by rw [hB]; exact .inl ⟨rfl, h⟩)]
        obtain ⟨u, hu⟩ := Option.ne_none_iff_exists'.mp h
        rw [hu]
        exact (S1.trans S17) _ _ hu
      refine ⟨a, ns, 7, rfl, cellB, fun c => ⟨c, _, rfl, fun r _ _ => ?_⟩⟩
      have q1 := hsim'.eq
      refine ⟨_, _, o1'', o2'', _, _, s1', t', i + 1, r, by rw [eo.trans e1, eo2.trans e2], TB.m1, TB.m2, by rw [q1]; rfl, by rw [q1]; rfl, by rw [q1]; rfl, by rw [q1]; rfl, by rw [q1]; rfl, by rw [hsim'.mi.lo, hsim'.lo], hsim'.hi, hht', hz', by omega, by omega, by omega, by have := hz'.lh; omega, fun HC sc => ⟨true, rfl, ?_⟩⟩
      rw [if_neg (by decide)]
      exact fin HC sc
  refine cell 6 S1 fun i => ⟨i, rfl, ite2 (fun e => ?_) (fun e => ?_)⟩
  · have hc := ok.c
    refine ⟨_, hp, _, rfl, _, rfl, cell 6 S1 fun j => ⟨j, rfl, ?_⟩⟩
    obtain ⟨m, em, hm⟩ : ∃ m : Nat, (if 2 * (d.count : Int) + j / 2 % 3 > 0 then 2 * (d.count : Int) + j / 2 % 3 else 0) = m ∧ m ≤ 1000 := by
      split
      · exact ⟨(2 * (d.count : Int) + j / 2 % 3).toNat, by omega, by omega⟩
      · exact ⟨0, rfl, by decide⟩
    rw [em]
    exact go3 m hm
  · obtain ⟨m, em, hm⟩ : ∃ m : Nat, c6 / 2 % 101 = m ∧ m ≤ 1000 := ⟨(c6 / 2 % 101).toNat, by omega, by omega⟩
    rw [em]
    exact go3 m hm
end
end K63
end

end

section
set_option Elab.async false
set_option linter.all false
set_option maxRecDepth 100000
set_option maxHeartbeats 4000000
namespace K63
open PySem L2
def q_0 : Stmt := top 0
def q_1 : Stmt := top 1
def q_2 : Stmt := top 2
def q_3 : Stmt := top 3
def q_4 : Stmt := top 4
def q_5 : Stmt := top 5
def q_6 : Stmt := top 6
def q_7 : Stmt := top 7
def q_8 : Stmt := top 8
def q_9 : Stmt := top 9
def q_10 : Stmt := top 10
def q_11 : Stmt := top 11
def q_12 : Stmt := top 12
def q_13 : Stmt := top 13
def q_14 : Stmt := top 14
def q_15 : Stmt := top 15
def q_16 : Stmt := top 16
def q_17 : Stmt := top 17
def q_18 : Stmt := top 18
def q_19 : Stmt := top 19
def q_20 : Stmt := top 20
def q_21 : Stmt := top 21
def q_22 : Stmt := top 22
def q_23 : Stmt := top 23
def q_24 : Stmt := top 24
def q_25 : Stmt := top 25
def q_26 : Stmt := top 26
def q_27 : Stmt := top 27
def pq : Program := { PySem.Challenge.pw_elderhouse_k63_whole_remembered_or_not with main := { PySem.Challenge.pw_elderhouse_k63_whole_remembered_or_not.main with body := [q_0, q_1, q_2, q_3, q_4, q_5, q_6, q_7, q_8, q_9, q_10, q_11, q_12, q_13, q_14, q_15, q_16, q_17, q_18, q_19, q_20, q_21, q_22, q_23, q_24, q_25, q_26, q_27] } }
def rq : PySem.W.OpenLaw := { PySem.Challenge.rw_elderhouse_k63_whole_remembered_or_not with prog := pq }
theorem rq_eq : rq = PySem.Challenge.rw_elderhouse_k63_whole_remembered_or_not := rfl
noncomputable def KK (P : PySem.Params) : PySem.W.Frag :=
  (nat_lit 2, Function.const (("a" : Str) ≠ "b") (⟨.none, none, (.dict #[] 0), #[]⟩ : Obj) (by decide)) ::
  (nat_lit 3, ⟨(.type "dict"), none, (.dict #[⟨PyData.keyHash P "__name__", (.str "__name__" 165), (.str "law_elderhouse_k63_whole_remembered_or_not" 554)⟩, ⟨PyData.keyHash P "__doc__", (.str "__doc__" 166), .none⟩, ⟨PyData.keyHash P "__package__", (.str "__package__" 167), .none⟩, ⟨PyData.keyHash P "__loader__", (.str "__loader__" 168), (.builtin "__main__.__loader__#opaque")⟩, ⟨PyData.keyHash P "__spec__", (.str "__spec__" 169), .none⟩, ⟨PyData.keyHash P "__annotations__", (.str "__annotations__" 170), (.ref 6)⟩, ⟨PyData.keyHash P "__builtins__", (.str "__builtins__" 171), (.ref 4)⟩, ⟨PyData.keyHash P "__file__", (.str "__file__" 173), (.str "/claim/cut.py" 172)⟩, ⟨PyData.keyHash P "__cached__", (.str "__cached__" 174), .none⟩, ⟨PyData.keyHash P "GREATEST", (.str "GREATEST" 190), (.int (1000000000000000) 189)⟩, ⟨PyData.keyHash P "MOST_WITHIN", (.str "MOST_WITHIN" 192), (.int (40) 191)⟩, ⟨PyData.keyHash P "two_told", (.str "two_told" 201), (.ref 21)⟩, ⟨PyData.keyHash P "number_told", (.str "number_told" 210), (.ref 28)⟩, ⟨PyData.keyHash P "bounded", (.str "bounded" 217), (.ref 35)⟩, ⟨PyData.keyHash P "ROW_SIGNS", (.str "ROW_SIGNS" 238), (.ref 36)⟩, ⟨PyData.keyHash P "entered", (.str "entered" 248), (.ref 43)⟩, ⟨PyData.keyHash P "own_done", (.str "own_done" 264), (.ref 50)⟩, ⟨PyData.keyHash P "two_done", (.str "two_done" 274), (.ref 57)⟩, ⟨PyData.keyHash P "behind", (.str "behind" 287), (.ref 64)⟩, ⟨PyData.keyHash P "field_value", (.str "field_value" 298), (.ref 71)⟩, ⟨PyData.keyHash P "MOST_PAIRS", (.str "MOST_PAIRS" 302), (.int (2) 301)⟩, ⟨PyData.keyHash P "Places", (.str "Places" 354), (.ref 107)⟩, ⟨PyData.keyHash P "Machine", (.str "Machine" 544), (.ref 239)⟩, ⟨PyData.keyHash P "uppermost", (.str "uppermost" 553), (.ref 250)⟩, ⟨PyData.keyHash P "_law_cell_at", (.str "_law_cell_at" 563), (.ref 257)⟩, ⟨PyData.keyHash P "_law_mixed", (.str "_law_mixed" 572), (.ref 264)⟩, ⟨PyData.keyHash P "_law_tell_rows", (.str "_law_tell_rows" 579), (.ref 271)⟩, ⟨PyData.keyHash P "_law_program", (.str "_law_program" 585), (.ref 276)⟩, ⟨PyData.keyHash P "_law_answer", (.str "_law_answer" 609), (.ref 283)⟩, ⟨PyData.keyHash P "_law_remembered", (.str "_law_remembered" 615), (.ref 288)⟩, ⟨PyData.keyHash P "_law_alike", (.str "_law_alike" 621), (.ref 293)⟩, ⟨PyData.keyHash P "law", (.str "law" 627), (.ref 298)⟩] 32), #[]⟩) ::
  (nat_lit 15, ⟨(.type "tuple"), none, (.seq #[] 0), #[]⟩) ::
  (nat_lit 17, ⟨(.type "tuple"), none, (.seq #[(.str "sign" 196), (.str "a" 197), (.str "b" 198)] 0), #[]⟩) ::
  (nat_lit 18, ⟨(.type "tuple"), none, (.seq #[] 0), #[]⟩) ::
  (nat_lit 20, ⟨(.type "code"), none, (.fields #[(.str "two_told" 193), (.str "two_told" 194), (.str "/claim/cut.py" 195), (.int (4) 0), (.int (3) 0), (.int (0) 0), (.int (0) 0), (.int (3) 0), (.ref 15), (.bool true), (.int (181) 0), (.ref 16), .none, (.ref 17), (.ref 18), (.ref 19), (.int (199) 0), (.int (4) 0), (.str "/claim/cut.py" 200)]), #[]⟩) ::
  (nat_lit 21, ⟨(.type "function"), none, (.func (PySem.W.fnOf "two_told" "two_told" (L2.defArgs s_two_told) (L2.defBody s_two_told) (L2.defScope s_two_told) .none .none .none (.str "elderhouse.numbers" 187) none (.ref 20) .none)), #[]⟩) ::
  (nat_lit 22, ⟨(.type "tuple"), none, (.seq #[] 0), #[]⟩) ::
  (nat_lit 24, ⟨(.type "tuple"), none, (.seq #[(.str "sign" 205), (.str "a" 206), (.str "b" 207)] 0), #[]⟩) ::
  (nat_lit 25, ⟨(.type "tuple"), none, (.seq #[] 0), #[]⟩) ::
  (nat_lit 27, ⟨(.type "code"), none, (.fields #[(.str "number_told" 202), (.str "number_told" 203), (.str "/claim/cut.py" 204), (.int (12) 0), (.int (3) 0), (.int (0) 0), (.int (0) 0), (.int (3) 0), (.ref 22), (.bool true), (.int (181) 0), (.ref 23), .none, (.ref 24), (.ref 25), (.ref 26), (.int (208) 0), (.int (12) 0), (.str "/claim/cut.py" 209)]), #[]⟩) ::
  (nat_lit 28, ⟨(.type "function"), none, (.func (PySem.W.fnOf "number_told" "number_told" (L2.defArgs s_number_told) (L2.defBody s_number_told) (L2.defScope s_number_told) .none .none .none (.str "elderhouse.numbers" 187) none (.ref 27) .none)), #[]⟩) ::
  (nat_lit 29, ⟨(.type "tuple"), none, (.seq #[] 0), #[]⟩) ::
  (nat_lit 31, ⟨(.type "tuple"), none, (.seq #[(.str "number" 214)] 0), #[]⟩) ::
  (nat_lit 32, ⟨(.type "tuple"), none, (.seq #[] 0), #[]⟩) ::
  (nat_lit 34, ⟨(.type "code"), none, (.fields #[(.str "bounded" 211), (.str "bounded" 212), (.str "/claim/cut.py" 213), (.int (20) 0), (.int (1) 0), (.int (0) 0), (.int (0) 0), (.int (3) 0), (.ref 29), (.bool true), (.int (181) 0), (.ref 30), .none, (.ref 31), (.ref 32), (.ref 33), (.int (215) 0), (.int (20) 0), (.str "/claim/cut.py" 216)]), #[]⟩) ::
  (nat_lit 35, ⟨(.type "function"), none, (.func (PySem.W.fnOf "bounded" "bounded" (L2.defArgs s_bounded) (L2.defBody s_bounded) (L2.defScope s_bounded) .none .none .none (.str "elderhouse.numbers" 187) none (.ref 34) .none)), #[]⟩) ::
  (nat_lit 36, ⟨(.type "dict"), none, (.dict #[⟨PyData.keyHash P "add", (.str "add" 220), (.str "+" 221)⟩, ⟨PyData.keyHash P "sub", (.str "sub" 222), (.str "-" 223)⟩, ⟨PyData.keyHash P "mul", (.str "mul" 224), (.str "*" 225)⟩, ⟨PyData.keyHash P "div", (.str "div" 226), (.str "/" 227)⟩, ⟨PyData.keyHash P "less", (.str "less" 228), (.str "<" 229)⟩, ⟨PyData.keyHash P "same", (.str "same" 230), (.str "=" 231)⟩] 6), #[]⟩) ::
  (nat_lit 37, ⟨(.type "tuple"), none, (.seq #[] 0), #[]⟩) ::
  (nat_lit 39, ⟨(.type "tuple"), none, (.seq #[(.str "block" 242), (.str "number" 243), (.str "values" 244), (.str "bound" 245)] 0), #[]⟩) ::
  (nat_lit 40, ⟨(.type "tuple"), none, (.seq #[] 0), #[]⟩) ::
  (nat_lit 42, ⟨(.type "code"), none, (.fields #[(.str "entered" 239), (.str "entered" 240), (.str "/claim/cut.py" 241), (.int (26) 0), (.int (3) 0), (.int (0) 0), (.int (0) 0), (.int (3) 0), (.ref 37), (.bool true), (.int (181) 0), (.ref 38), .none, (.ref 39), (.ref 40), (.ref 41), (.int (246) 0), (.int (26) 0), (.str "/claim/cut.py" 247)]), #[]⟩) ::
  (nat_lit 43, ⟨(.type "function"), none, (.func (PySem.W.fnOf "entered" "entered" (L2.defArgs s_entered) (L2.defBody s_entered) (L2.defScope s_entered) .none .none .none (.str "elderhouse.frames" 218) none (.ref 42) .none)), #[]⟩) ::
  (nat_lit 44, ⟨(.type "tuple"), none, (.seq #[] 0), #[]⟩) ::
  (nat_lit 46, ⟨(.type "tuple"), none, (.seq #[(.str "row" 252), (.str "frame" 253), (.str "things" 254), (.str "number" 255), (.str "at" 256), (.str "slots" 257), (.str "stack" 258), (.str "name" 259), (.str "kept" 260), (.str "over" 261)] 0), #[]⟩) ::
  (nat_lit 47, ⟨(.type "tuple"), none, (.seq #[] 0), #[]⟩) ::
  (nat_lit 49, ⟨(.type "code"), none, (.fields #[(.str "own_done" 249), (.str "own_done" 250), (.str "/claim/cut.py" 251), (.int (29) 0), (.int (3) 0), (.int (0) 0), (.int (0) 0), (.int (3) 0), (.ref 44), (.bool true), (.int (181) 0), (.ref 45), .none, (.ref 46), (.ref 47), (.ref 48), (.int (262) 0), (.int (29) 0), (.str "/claim/cut.py" 263)]), #[]⟩) ::
  (nat_lit 50, ⟨(.type "function"), none, (.func (PySem.W.fnOf "own_done" "own_done" (L2.defArgs s_own_done) (L2.defBody s_own_done) (L2.defScope s_own_done) .none .none .none (.str "elderhouse.frames" 218) none (.ref 49) .none)), #[]⟩) ::
  (nat_lit 51, ⟨(.type "tuple"), none, (.seq #[] 0), #[]⟩) ::
  (nat_lit 53, ⟨(.type "tuple"), none, (.seq #[(.str "sign" 268), (.str "frame" 269), (.str "stack" 270), (.str "told" 271)] 0), #[]⟩) ::
  (nat_lit 54, ⟨(.type "tuple"), none, (.seq #[] 0), #[]⟩) ::
  (nat_lit 56, ⟨(.type "code"), none, (.fields #[(.str "two_done" 265), (.str "two_done" 266), (.str "/claim/cut.py" 267), (.int (51) 0), (.int (2) 0), (.int (0) 0), (.int (0) 0), (.int (3) 0), (.ref 51), (.bool true), (.int (181) 0), (.ref 52), .none, (.ref 53), (.ref 54), (.ref 55), (.int (272) 0), (.int (51) 0), (.str "/claim/cut.py" 273)]), #[]⟩) ::
  (nat_lit 57, ⟨(.type "function"), none, (.func (PySem.W.fnOf "two_done" "two_done" (L2.defArgs s_two_done) (L2.defBody s_two_done) (L2.defScope s_two_done) .none .none .none (.str "elderhouse.frames" 218) none (.ref 56) .none)), #[]⟩) ::
  (nat_lit 58, ⟨(.type "tuple"), none, (.seq #[] 0), #[]⟩) ::
  (nat_lit 60, ⟨(.type "tuple"), none, (.seq #[(.str "frame" 278), (.str "many" 279), (.str "value" 280), (.str "number" 281), (.str "at" 282), (.str "slots" 283), (.str "stack" 284)] 0), #[]⟩) ::
  (nat_lit 61, ⟨(.type "tuple"), none, (.seq #[] 0), #[]⟩) ::
  (nat_lit 63, ⟨(.type "code"), none, (.fields #[(.str "behind" 275), (.str "behind" 276), (.str "/claim/cut.py" 277), (.int (57) 0), (.int (3) 0), (.int (0) 0), (.int (0) 0), (.int (3) 0), (.ref 58), (.bool true), (.int (181) 0), (.ref 59), .none, (.ref 60), (.ref 61), (.ref 62), (.int (285) 0), (.int (57) 0), (.str "/claim/cut.py" 286)]), #[]⟩) ::
  (nat_lit 64, ⟨(.type "function"), none, (.func (PySem.W.fnOf "behind" "behind" (L2.defArgs s_behind) (L2.defBody s_behind) (L2.defScope s_behind) .none .none .none (.str "elderhouse.frames" 218) none (.ref 63) .none)), #[]⟩) ::
  (nat_lit 65, ⟨(.type "tuple"), none, (.seq #[] 0), #[]⟩) ::
  (nat_lit 67, ⟨(.type "tuple"), none, (.seq #[(.str "things" 291), (.str "thing" 292), (.str "place" 293), (.str "house" 294), (.str "inner" 295)] 0), #[]⟩) ::
  (nat_lit 68, ⟨(.type "tuple"), none, (.seq #[] 0), #[]⟩) ::
  (nat_lit 70, ⟨(.type "code"), none, (.fields #[(.str "field_value" 288), (.str "field_value" 289), (.str "/claim/cut.py" 290), (.int (60) 0), (.int (3) 0), (.int (0) 0), (.int (0) 0), (.int (3) 0), (.ref 65), (.bool true), (.int (181) 0), (.ref 66), .none, (.ref 67), (.ref 68), (.ref 69), (.int (296) 0), (.int (60) 0), (.str "/claim/cut.py" 297)]), #[]⟩) ::
  (nat_lit 71, ⟨(.type "function"), none, (.func (PySem.W.fnOf "field_value" "field_value" (L2.defArgs s_field_value) (L2.defBody s_field_value) (L2.defScope s_field_value) .none .none .none (.str "elderhouse.frames" 218) none (.ref 70) .none)), #[]⟩) ::
  (nat_lit 79, ⟨(.type "tuple"), none, (.seq #[] 0), #[]⟩) ::
  (nat_lit 81, ⟨(.type "tuple"), none, (.seq #[(.str "self" 318)] 0), #[]⟩) ::
  (nat_lit 82, ⟨(.type "tuple"), none, (.seq #[] 0), #[]⟩) ::
  (nat_lit 84, ⟨(.type "code"), none, (.fields #[(.str "__init__" 315), (.str "Places.__init__" 316), (.str "/claim/cut.py" 317), (.int (67) 0), (.int (1) 0), (.int (0) 0), (.int (0) 0), (.int (3) 0), (.ref 79), (.bool true), (.int (181) 0), (.ref 80), .none, (.ref 81), (.ref 82), (.ref 83), (.int (319) 0), (.int (67) 0), (.str "/claim/cut.py" 320)]), #[]⟩) ::
  (nat_lit 85, ⟨(.type "function"), none, (.func (PySem.W.fnOf "__init__" "Places.__init__" (L2.defArgs s_Places___init__) (L2.defBody s_Places___init__) (L2.defScope s_Places___init__) .none .none .none (.str "elderhouse.places" 299) none (.ref 84) .none)), #[]⟩) ::
  (nat_lit 86, ⟨(.type "tuple"), none, (.seq #[] 0), #[]⟩) ::
  (nat_lit 89, ⟨(.type "code"), none, (.fields #[(.str "asked" 322), (.str "Places.asked" 323), (.str "/claim/cut.py" 324), (.int (70) 0), (.int (3) 0), (.int (0) 0), (.int (0) 0), (.int (3) 0), (.ref 86), (.bool true), (.int (181) 0), (.ref 87), .none, .none, .none, (.ref 88), (.int (325) 0), (.int (70) 0), (.str "/claim/cut.py" 326)]), #[]⟩) ::
  (nat_lit 90, ⟨(.type "function"), none, (.func (PySem.W.fnOf "asked" "Places.asked" (L2.defArgs s_Places_asked) (L2.defBody s_Places_asked) (L2.defScope s_Places_asked) .none .none .none (.str "elderhouse.places" 299) none (.ref 89) .none)), #[]⟩) ::
  (nat_lit 91, ⟨(.type "tuple"), none, (.seq #[] 0), #[]⟩) ::
  (nat_lit 93, ⟨(.type "tuple"), none, (.seq #[(.str "self" 331), (.str "site" 332), (.str "house" 333), (.str "block" 334)] 0), #[]⟩) ::
  (nat_lit 94, ⟨(.type "tuple"), none, (.seq #[] 0), #[]⟩) ::
  (nat_lit 96, ⟨(.type "code"), none, (.fields #[(.str "put" 328), (.str "Places.put" 329), (.str "/claim/cut.py" 330), (.int (78) 0), (.int (4) 0), (.int (0) 0), (.int (0) 0), (.int (3) 0), (.ref 91), (.bool true), (.int (181) 0), (.ref 92), .none, (.ref 93), (.ref 94), (.ref 95), (.int (335) 0), (.int (78) 0), (.str "/claim/cut.py" 336)]), #[]⟩) ::
  (nat_lit 97, ⟨(.type "function"), none, (.func (PySem.W.fnOf "put" "Places.put" (L2.defArgs s_Places_put) (L2.defBody s_Places_put) (L2.defScope s_Places_put) .none .none .none (.str "elderhouse.places" 299) none (.ref 96) .none)), #[]⟩) ::
  (nat_lit 98, ⟨(.type "tuple"), none, (.seq #[] 0), #[]⟩) ::
  (nat_lit 100, ⟨(.type "tuple"), none, (.seq #[(.str "self" 341), (.str "site" 342)] 0), #[]⟩) ::
  (nat_lit 101, ⟨(.type "tuple"), none, (.seq #[] 0), #[]⟩) ::
  (nat_lit 103, ⟨(.type "code"), none, (.fields #[(.str "told" 338), (.str "Places.told" 339), (.str "/claim/cut.py" 340), (.int (81) 0), (.int (2) 0), (.int (0) 0), (.int (0) 0), (.int (3) 0), (.ref 98), (.bool true), (.int (181) 0), (.ref 99), .none, (.ref 100), (.ref 101), (.ref 102), (.int (343) 0), (.int (81) 0), (.str "/claim/cut.py" 344)]), #[]⟩) ::
  (nat_lit 104, ⟨(.type "function"), none, (.func (PySem.W.fnOf "told" "Places.told" (L2.defArgs s_Places_told) (L2.defBody s_Places_told) (L2.defScope s_Places_told) .none .none .none (.str "elderhouse.places" 299) none (.ref 103) .none)), #[]⟩) ::
  (nat_lit 105, ⟨(.type "tuple"), none, (.seq #[(.str "by_site" 346)] 0), #[]⟩) ::
  (nat_lit 106, ⟨(.type "dict"), none, (.dict #[⟨PyData.keyHash P "__module__", (.str "__module__" 310), (.str "elderhouse.places" 299)⟩, ⟨PyData.keyHash P "__firstlineno__", (.str "__firstlineno__" 314), (.int (65) 313)⟩, ⟨PyData.keyHash P "__init__", (.str "__init__" 321), (.ref 85)⟩, ⟨PyData.keyHash P "asked", (.str "asked" 327), (.ref 90)⟩, ⟨PyData.keyHash P "put", (.str "put" 337), (.ref 97)⟩, ⟨PyData.keyHash P "told", (.str "told" 345), (.ref 104)⟩, ⟨PyData.keyHash P "__static_attributes__", (.str "__static_attributes__" 347), (.ref 105)⟩, ⟨PyData.keyHash P "__dict__", (.str "__dict__" 349), (.ref 108)⟩, ⟨PyData.keyHash P "__weakref__", (.str "__weakref__" 351), (.ref 109)⟩, ⟨PyData.keyHash P "__doc__", (.str "__doc__" 352), .none⟩] 4), #[]⟩) ::
  (nat_lit 107, ⟨(.type "type"), none, (.cls ⟨"Places", [(.type "object")], [(.ref 107), (.type "object")], 106, "Places", true, [], [], false, none, false⟩), #[none, none, (some (.str "Places" 303)), (some (.str "Places" 311)), (some (.builtin "object.__new__")), (some (.bool true))]⟩) ::
  (nat_lit 108, ⟨(.type "getset_descriptor"), none, (.fields #[(.str "__dict__" 348), (.ref 107), (.builtin "function.__dict__"), (.builtin "function.__dict__#set")]), #[]⟩) ::
  (nat_lit 109, ⟨(.type "getset_descriptor"), none, (.fields #[(.str "__weakref__" 350), (.ref 107), (.builtin "ExceptionGroup.__weakref__"), .none]), #[]⟩) ::
  (nat_lit 119, ⟨(.type "tuple"), none, (.seq #[(.int (100) 369), (.bool true)] 0), #[]⟩) ::
  (nat_lit 120, ⟨(.type "tuple"), none, (.seq #[] 0), #[]⟩) ::
  (nat_lit 123, ⟨(.type "code"), none, (.fields #[(.str "__init__" 370), (.str "Machine.__init__" 371), (.str "/claim/cut.py" 372), (.int (86) 0), (.int (6) 0), (.int (0) 0), (.int (0) 0), (.int (3) 0), (.ref 120), (.bool true), (.int (181) 0), (.ref 121), .none, .none, .none, (.ref 122), (.int (373) 0), (.int (86) 0), (.str "/claim/cut.py" 374)]), #[]⟩) ::
  (nat_lit 124, ⟨(.type "function"), none, (.func (PySem.W.fnOf "__init__" "Machine.__init__" (L2.defArgs s_Machine___init__) (L2.defBody s_Machine___init__) (L2.defScope s_Machine___init__) (.ref 119) .none .none (.str "elderhouse.machine" 355) none (.ref 123) .none)), #[]⟩) ::
  (nat_lit 125, ⟨(.type "tuple"), none, (.seq #[] 0), #[]⟩) ::
  (nat_lit 127, ⟨(.type "tuple"), none, (.seq #[(.str "self" 379)] 0), #[]⟩) ::
  (nat_lit 128, ⟨(.type "tuple"), none, (.seq #[] 0), #[]⟩) ::
  (nat_lit 130, ⟨(.type "code"), none, (.fields #[(.str "frames" 376), (.str "Machine.frames" 377), (.str "/claim/cut.py" 378), (.int (100) 0), (.int (1) 0), (.int (0) 0), (.int (0) 0), (.int (3) 0), (.ref 125), (.bool true), (.int (181) 0), (.ref 126), .none, (.ref 127), (.ref 128), (.ref 129), (.int (380) 0), (.int (100) 0), (.str "/claim/cut.py" 381)]), #[]⟩) ::
  (nat_lit 131, ⟨(.type "function"), none, (.func (PySem.W.fnOf "frames" "Machine.frames" (L2.defArgs s_Machine_frames) (L2.defBody s_Machine_frames) (L2.defScope s_Machine_frames) .none .none .none (.str "elderhouse.machine" 355) none (.ref 130) .none)), #[]⟩) ::
  (nat_lit 132, ⟨(.type "tuple"), none, (.seq #[] 0), #[]⟩) ::
  (nat_lit 134, ⟨(.type "tuple"), none, (.seq #[(.str "self" 386)] 0), #[]⟩) ::
  (nat_lit 135, ⟨(.type "tuple"), none, (.seq #[] 0), #[]⟩) ::
  (nat_lit 137, ⟨(.type "code"), none, (.fields #[(.str "things" 383), (.str "Machine.things" 384), (.str "/claim/cut.py" 385), (.int (103) 0), (.int (1) 0), (.int (0) 0), (.int (0) 0), (.int (3) 0), (.ref 132), (.bool true), (.int (181) 0), (.ref 133), .none, (.ref 134), (.ref 135), (.ref 136), (.int (387) 0), (.int (103) 0), (.str "/claim/cut.py" 388)]), #[]⟩) ::
  (nat_lit 138, ⟨(.type "function"), none, (.func (PySem.W.fnOf "things" "Machine.things" (L2.defArgs s_Machine_things) (L2.defBody s_Machine_things) (L2.defScope s_Machine_things) .none .none .none (.str "elderhouse.machine" 355) none (.ref 137) .none)), #[]⟩) ::
  (nat_lit 139, ⟨(.type "tuple"), none, (.seq #[] 0), #[]⟩) ::
  (nat_lit 141, ⟨(.type "tuple"), none, (.seq #[(.str "self" 393)] 0), #[]⟩) ::
  (nat_lit 142, ⟨(.type "tuple"), none, (.seq #[] 0), #[]⟩) ::
  (nat_lit 144, ⟨(.type "code"), none, (.fields #[(.str "answer" 390), (.str "Machine.answer" 391), (.str "/claim/cut.py" 392), (.int (106) 0), (.int (1) 0), (.int (0) 0), (.int (0) 0), (.int (3) 0), (.ref 139), (.bool true), (.int (181) 0), (.ref 140), .none, (.ref 141), (.ref 142), (.ref 143), (.int (394) 0), (.int (106) 0), (.str "/claim/cut.py" 395)]), #[]⟩) ::
  (nat_lit 145, ⟨(.type "function"), none, (.func (PySem.W.fnOf "answer" "Machine.answer" (L2.defArgs s_Machine_answer) (L2.defBody s_Machine_answer) (L2.defScope s_Machine_answer) .none .none .none (.str "elderhouse.machine" 355) none (.ref 144) .none)), #[]⟩) ::
  (nat_lit 146, ⟨(.type "tuple"), none, (.seq #[] 0), #[]⟩) ::
  (nat_lit 148, ⟨(.type "tuple"), none, (.seq #[(.str "self" 400)] 0), #[]⟩) ::
  (nat_lit 149, ⟨(.type "tuple"), none, (.seq #[] 0), #[]⟩) ::
  (nat_lit 151, ⟨(.type "code"), none, (.fields #[(.str "calls" 397), (.str "Machine.calls" 398), (.str "/claim/cut.py" 399), (.int (109) 0), (.int (1) 0), (.int (0) 0), (.int (0) 0), (.int (3) 0), (.ref 146), (.bool true), (.int (181) 0), (.ref 147), .none, (.ref 148), (.ref 149), (.ref 150), (.int (401) 0), (.int (109) 0), (.str "/claim/cut.py" 402)]), #[]⟩) ::
  (nat_lit 152, ⟨(.type "function"), none, (.func (PySem.W.fnOf "calls" "Machine.calls" (L2.defArgs s_Machine_calls) (L2.defBody s_Machine_calls) (L2.defScope s_Machine_calls) .none .none .none (.str "elderhouse.machine" 355) none (.ref 151) .none)), #[]⟩) ::
  (nat_lit 153, ⟨(.type "tuple"), none, (.seq #[] 0), #[]⟩) ::
  (nat_lit 155, ⟨(.type "tuple"), none, (.seq #[(.str "self" 407)] 0), #[]⟩) ::
  (nat_lit 156, ⟨(.type "tuple"), none, (.seq #[] 0), #[]⟩) ::
  (nat_lit 158, ⟨(.type "code"), none, (.fields #[(.str "looks" 404), (.str "Machine.looks" 405), (.str "/claim/cut.py" 406), (.int (112) 0), (.int (1) 0), (.int (0) 0), (.int (0) 0), (.int (3) 0), (.ref 153), (.bool true), (.int (181) 0), (.ref 154), .none, (.ref 155), (.ref 156), (.ref 157), (.int (408) 0), (.int (112) 0), (.str "/claim/cut.py" 409)]), #[]⟩) ::
  (nat_lit 159, ⟨(.type "function"), none, (.func (PySem.W.fnOf "looks" "Machine.looks" (L2.defArgs s_Machine_looks) (L2.defBody s_Machine_looks) (L2.defScope s_Machine_looks) .none .none .none (.str "elderhouse.machine" 355) none (.ref 158) .none)), #[]⟩) ::
  (nat_lit 160, ⟨(.type "tuple"), none, (.seq #[] 0), #[]⟩) ::
  (nat_lit 162, ⟨(.type "tuple"), none, (.seq #[(.str "self" 414)] 0), #[]⟩) ::
  (nat_lit 163, ⟨(.type "tuple"), none, (.seq #[] 0), #[]⟩) ::
  (nat_lit 165, ⟨(.type "code"), none, (.fields #[(.str "hits" 411), (.str "Machine.hits" 412), (.str "/claim/cut.py" 413), (.int (115) 0), (.int (1) 0), (.int (0) 0), (.int (0) 0), (.int (3) 0), (.ref 160), (.bool true), (.int (181) 0), (.ref 161), .none, (.ref 162), (.ref 163), (.ref 164), (.int (415) 0), (.int (115) 0), (.str "/claim/cut.py" 416)]), #[]⟩) ::
  (nat_lit 166, ⟨(.type "function"), none, (.func (PySem.W.fnOf "hits" "Machine.hits" (L2.defArgs s_Machine_hits) (L2.defBody s_Machine_hits) (L2.defScope s_Machine_hits) .none .none .none (.str "elderhouse.machine" 355) none (.ref 165) .none)), #[]⟩) ::
  (nat_lit 167, ⟨(.type "tuple"), none, (.seq #[] 0), #[]⟩) ::
  (nat_lit 169, ⟨(.type "tuple"), none, (.seq #[(.str "self" 421)] 0), #[]⟩) ::
  (nat_lit 170, ⟨(.type "tuple"), none, (.seq #[] 0), #[]⟩) ::
  (nat_lit 172, ⟨(.type "code"), none, (.fields #[(.str "rows_done" 418), (.str "Machine.rows_done" 419), (.str "/claim/cut.py" 420), (.int (118) 0), (.int (1) 0), (.int (0) 0), (.int (0) 0), (.int (3) 0), (.ref 167), (.bool true), (.int (181) 0), (.ref 168), .none, (.ref 169), (.ref 170), (.ref 171), (.int (422) 0), (.int (118) 0), (.str "/claim/cut.py" 423)]), #[]⟩) ::
  (nat_lit 173, ⟨(.type "function"), none, (.func (PySem.W.fnOf "rows_done" "Machine.rows_done" (L2.defArgs s_Machine_rows_done) (L2.defBody s_Machine_rows_done) (L2.defScope s_Machine_rows_done) .none .none .none (.str "elderhouse.machine" 355) none (.ref 172) .none)), #[]⟩) ::
  (nat_lit 174, ⟨(.type "tuple"), none, (.seq #[] 0), #[]⟩) ::
  (nat_lit 176, ⟨(.type "tuple"), none, (.seq #[(.str "self" 428), (.str "frame" 429), (.str "row" 430)] 0), #[]⟩) ::
  (nat_lit 177, ⟨(.type "tuple"), none, (.seq #[] 0), #[]⟩) ::
  (nat_lit 179, ⟨(.type "code"), none, (.fields #[(.str "step" 425), (.str "Machine.step" 426), (.str "/claim/cut.py" 427), (.int (121) 0), (.int (1) 0), (.int (0) 0), (.int (0) 0), (.int (3) 0), (.ref 174), (.bool true), (.int (181) 0), (.ref 175), .none, (.ref 176), (.ref 177), (.ref 178), (.int (431) 0), (.int (121) 0), (.str "/claim/cut.py" 432)]), #[]⟩) ::
  (nat_lit 180, ⟨(.type "function"), none, (.func (PySem.W.fnOf "step" "Machine.step" (L2.defArgs s_Machine_step) (L2.defBody s_Machine_step) (L2.defScope s_Machine_step) .none .none .none (.str "elderhouse.machine" 355) none (.ref 179) .none)), #[]⟩) ::
  (nat_lit 181, ⟨(.type "tuple"), none, (.seq #[] 0), #[]⟩) ::
  (nat_lit 183, ⟨(.type "tuple"), none, (.seq #[(.str "self" 437), (.str "row" 438), (.str "frame" 439), (.str "done" 440), (.str "refusal" 441)] 0), #[]⟩) ::
  (nat_lit 184, ⟨(.type "tuple"), none, (.seq #[] 0), #[]⟩) ::
  (nat_lit 186, ⟨(.type "code"), none, (.fields #[(.str "do_own" 434), (.str "Machine.do_own" 435), (.str "/claim/cut.py" 436), (.int (141) 0), (.int (3) 0), (.int (0) 0), (.int (0) 0), (.int (3) 0), (.ref 181), (.bool true), (.int (181) 0), (.ref 182), .none, (.ref 183), (.ref 184), (.ref 185), (.int (442) 0), (.int (141) 0), (.str "/claim/cut.py" 443)]), #[]⟩) ::
  (nat_lit 187, ⟨(.type "function"), none, (.func (PySem.W.fnOf "do_own" "Machine.do_own" (L2.defArgs s_Machine_do_own) (L2.defBody s_Machine_do_own) (L2.defScope s_Machine_do_own) .none .none .none (.str "elderhouse.machine" 355) none (.ref 186) .none)), #[]⟩) ::
  (nat_lit 188, ⟨(.type "tuple"), none, (.seq #[] 0), #[]⟩) ::
  (nat_lit 190, ⟨(.type "tuple"), none, (.seq #[(.str "self" 448), (.str "house" 449), (.str "many" 450), (.str "frame" 451)] 0), #[]⟩) ::
  (nat_lit 191, ⟨(.type "tuple"), none, (.seq #[] 0), #[]⟩) ::
  (nat_lit 193, ⟨(.type "code"), none, (.fields #[(.str "make" 445), (.str "Machine.make" 446), (.str "/claim/cut.py" 447), (.int (147) 0), (.int (4) 0), (.int (0) 0), (.int (0) 0), (.int (3) 0), (.ref 188), (.bool true), (.int (181) 0), (.ref 189), .none, (.ref 190), (.ref 191), (.ref 192), (.int (452) 0), (.int (147) 0), (.str "/claim/cut.py" 453)]), #[]⟩) ::
  (nat_lit 194, ⟨(.type "function"), none, (.func (PySem.W.fnOf "make" "Machine.make" (L2.defArgs s_Machine_make) (L2.defBody s_Machine_make) (L2.defScope s_Machine_make) .none .none .none (.str "elderhouse.machine" 355) none (.ref 193) .none)), #[]⟩) ::
  (nat_lit 195, ⟨(.type "tuple"), none, (.seq #[] 0), #[]⟩) ::
  (nat_lit 197, ⟨(.type "tuple"), none, (.seq #[(.str "self" 458), (.str "place" 459), (.str "frame" 460), (.str "thing" 461), (.str "value" 462), (.str "house" 463), (.str "inner" 464)] 0), #[]⟩) ::
  (nat_lit 198, ⟨(.type "tuple"), none, (.seq #[] 0), #[]⟩) ::
  (nat_lit 200, ⟨(.type "code"), none, (.fields #[(.str "set_field" 455), (.str "Machine.set_field" 456), (.str "/claim/cut.py" 457), (.int (151) 0), (.int (3) 0), (.int (0) 0), (.int (0) 0), (.int (3) 0), (.ref 195), (.bool true), (.int (181) 0), (.ref 196), .none, (.ref 197), (.ref 198), (.ref 199), (.int (465) 0), (.int (151) 0), (.str "/claim/cut.py" 466)]), #[]⟩) ::
  (nat_lit 201, ⟨(.type "function"), none, (.func (PySem.W.fnOf "set_field" "Machine.set_field" (L2.defArgs s_Machine_set_field) (L2.defBody s_Machine_set_field) (L2.defScope s_Machine_set_field) .none .none .none (.str "elderhouse.machine" 355) none (.ref 200) .none)), #[]⟩) ::
  (nat_lit 202, ⟨(.type "tuple"), none, (.seq #[] 0), #[]⟩) ::
  (nat_lit 204, ⟨(.type "tuple"), none, (.seq #[(.str "self" 471), (.str "site" 472), (.str "word" 473), (.str "many" 474), (.str "frame" 475), (.str "house" 476), (.str "known" 477), (.str "block" 478)] 0), #[]⟩) ::
  (nat_lit 205, ⟨(.type "tuple"), none, (.seq #[] 0), #[]⟩) ::
  (nat_lit 207, ⟨(.type "code"), none, (.fields #[(.str "found_block" 468), (.str "Machine.found_block" 469), (.str "/claim/cut.py" 470), (.int (157) 0), (.int (5) 0), (.int (0) 0), (.int (0) 0), (.int (3) 0), (.ref 202), (.bool true), (.int (181) 0), (.ref 203), .none, (.ref 204), (.ref 205), (.ref 206), (.int (479) 0), (.int (157) 0), (.str "/claim/cut.py" 480)]), #[]⟩) ::
  (nat_lit 208, ⟨(.type "function"), none, (.func (PySem.W.fnOf "found_block" "Machine.found_block" (L2.defArgs s_Machine_found_block) (L2.defBody s_Machine_found_block) (L2.defScope s_Machine_found_block) .none .none .none (.str "elderhouse.machine" 355) none (.ref 207) .none)), #[]⟩) ::
  (nat_lit 209, ⟨(.type "tuple"), none, (.seq #[] 0), #[]⟩) ::
  (nat_lit 211, ⟨(.type "tuple"), none, (.seq #[(.str "self" 485), (.str "block" 486), (.str "many" 487), (.str "frame" 488), (.str "number" 489), (.str "at" 490), (.str "slots" 491), (.str "stack" 492)] 0), #[]⟩) ::
  (nat_lit 212, ⟨(.type "tuple"), none, (.seq #[] 0), #[]⟩) ::
  (nat_lit 214, ⟨(.type "code"), none, (.fields #[(.str "enter" 482), (.str "Machine.enter" 483), (.str "/claim/cut.py" 484), (.int (170) 0), (.int (4) 0), (.int (0) 0), (.int (0) 0), (.int (3) 0), (.ref 209), (.bool true), (.int (181) 0), (.ref 210), .none, (.ref 211), (.ref 212), (.ref 213), (.int (493) 0), (.int (170) 0), (.str "/claim/cut.py" 494)]), #[]⟩) ::
  (nat_lit 215, ⟨(.type "function"), none, (.func (PySem.W.fnOf "enter" "Machine.enter" (L2.defArgs s_Machine_enter) (L2.defBody s_Machine_enter) (L2.defScope s_Machine_enter) .none .none .none (.str "elderhouse.machine" 355) none (.ref 214) .none)), #[]⟩) ::
  (nat_lit 216, ⟨(.type "tuple"), none, (.seq #[] 0), #[]⟩) ::
  (nat_lit 218, ⟨(.type "tuple"), none, (.seq #[(.str "self" 499), (.str "frame" 500), (.str "value" 501), (.str "number" 502), (.str "at" 503), (.str "slots" 504), (.str "stack" 505)] 0), #[]⟩) ::
  (nat_lit 219, ⟨(.type "tuple"), none, (.seq #[] 0), #[]⟩) ::
  (nat_lit 221, ⟨(.type "code"), none, (.fields #[(.str "go_back" 496), (.str "Machine.go_back" 497), (.str "/claim/cut.py" 498), (.int (182) 0), (.int (2) 0), (.int (0) 0), (.int (0) 0), (.int (3) 0), (.ref 216), (.bool true), (.int (181) 0), (.ref 217), .none, (.ref 218), (.ref 219), (.ref 220), (.int (506) 0), (.int (182) 0), (.str "/claim/cut.py" 507)]), #[]⟩) ::
  (nat_lit 222, ⟨(.type "function"), none, (.func (PySem.W.fnOf "go_back" "Machine.go_back" (L2.defArgs s_Machine_go_back) (L2.defBody s_Machine_go_back) (L2.defScope s_Machine_go_back) .none .none .none (.str "elderhouse.machine" 355) none (.ref 221) .none)), #[]⟩) ::
  (nat_lit 223, ⟨(.type "tuple"), none, (.seq #[] 0), #[]⟩) ::
  (nat_lit 225, ⟨(.type "tuple"), none, (.seq #[(.str "self" 512), (.str "value" 513)] 0), #[]⟩) ::
  (nat_lit 226, ⟨(.type "tuple"), none, (.seq #[] 0), #[]⟩) ::
  (nat_lit 228, ⟨(.type "code"), none, (.fields #[(.str "told_answer" 509), (.str "Machine.told_answer" 510), (.str "/claim/cut.py" 511), (.int (191) 0), (.int (2) 0), (.int (0) 0), (.int (0) 0), (.int (3) 0), (.ref 223), (.bool true), (.int (181) 0), (.ref 224), .none, (.ref 225), (.ref 226), (.ref 227), (.int (514) 0), (.int (191) 0), (.str "/claim/cut.py" 515)]), #[]⟩) ::
  (nat_lit 229, ⟨(.type "function"), none, (.func (PySem.W.fnOf "told_answer" "Machine.told_answer" (L2.defArgs s_Machine_told_answer) (L2.defBody s_Machine_told_answer) (L2.defScope s_Machine_told_answer) .none .none .none (.str "elderhouse.machine" 355) none (.ref 228) .none)), #[]⟩) ::
  (nat_lit 230, ⟨(.type "tuple"), none, (.seq #[] 0), #[]⟩) ::
  (nat_lit 232, ⟨(.type "tuple"), none, (.seq #[(.str "self" 520), (.str "told" 521)] 0), #[]⟩) ::
  (nat_lit 233, ⟨(.type "tuple"), none, (.seq #[] 0), #[]⟩) ::
  (nat_lit 235, ⟨(.type "code"), none, (.fields #[(.str "end" 517), (.str "Machine.end" 518), (.str "/claim/cut.py" 519), (.int (196) 0), (.int (2) 0), (.int (0) 0), (.int (0) 0), (.int (3) 0), (.ref 230), (.bool true), (.int (181) 0), (.ref 231), .none, (.ref 232), (.ref 233), (.ref 234), (.int (522) 0), (.int (196) 0), (.str "/claim/cut.py" 523)]), #[]⟩) ::
  (nat_lit 236, ⟨(.type "function"), none, (.func (PySem.W.fnOf "end" "Machine.end" (L2.defArgs s_Machine_end) (L2.defBody s_Machine_end) (L2.defScope s_Machine_end) .none .none .none (.str "elderhouse.machine" 355) none (.ref 235) .none)), #[]⟩) ::
  (nat_lit 237, ⟨(.type "tuple"), none, (.seq #[(.str "blocks" 525), (.str "call_count" 526), (.str "ended" 527), (.str "hit_count" 528), (.str "house_tables" 529), (.str "look_count" 530), (.str "made" 531), (.str "most" 532), (.str "places" 533), (.str "remembers" 534), (.str "row_count" 535), (.str "stacked" 536)] 0), #[]⟩) ::
  (nat_lit 238, ⟨(.type "dict"), none, (.dict #[⟨PyData.keyHash P "__module__", (.str "__module__" 364), (.str "elderhouse.machine" 355)⟩, ⟨PyData.keyHash P "__firstlineno__", (.str "__firstlineno__" 368), (.int (84) 367)⟩, ⟨PyData.keyHash P "__init__", (.str "__init__" 375), (.ref 124)⟩, ⟨PyData.keyHash P "frames", (.str "frames" 382), (.ref 131)⟩, ⟨PyData.keyHash P "things", (.str "things" 389), (.ref 138)⟩, ⟨PyData.keyHash P "answer", (.str "answer" 396), (.ref 145)⟩, ⟨PyData.keyHash P "calls", (.str "calls" 403), (.ref 152)⟩, ⟨PyData.keyHash P "looks", (.str "looks" 410), (.ref 159)⟩, ⟨PyData.keyHash P "hits", (.str "hits" 417), (.ref 166)⟩, ⟨PyData.keyHash P "rows_done", (.str "rows_done" 424), (.ref 173)⟩, ⟨PyData.keyHash P "step", (.str "step" 433), (.ref 180)⟩, ⟨PyData.keyHash P "do_own", (.str "do_own" 444), (.ref 187)⟩, ⟨PyData.keyHash P "make", (.str "make" 454), (.ref 194)⟩, ⟨PyData.keyHash P "set_field", (.str "set_field" 467), (.ref 201)⟩, ⟨PyData.keyHash P "found_block", (.str "found_block" 481), (.ref 208)⟩, ⟨PyData.keyHash P "enter", (.str "enter" 495), (.ref 215)⟩, ⟨PyData.keyHash P "go_back", (.str "go_back" 508), (.ref 222)⟩, ⟨PyData.keyHash P "told_answer", (.str "told_answer" 516), (.ref 229)⟩, ⟨PyData.keyHash P "end", (.str "end" 524), (.ref 236)⟩, ⟨PyData.keyHash P "__static_attributes__", (.str "__static_attributes__" 537), (.ref 237)⟩, ⟨PyData.keyHash P "__dict__", (.str "__dict__" 539), (.ref 240)⟩, ⟨PyData.keyHash P "__weakref__", (.str "__weakref__" 541), (.ref 241)⟩, ⟨PyData.keyHash P "__doc__", (.str "__doc__" 542), .none⟩] 4), #[]⟩) ::
  (nat_lit 239, ⟨(.type "type"), none, (.cls ⟨"Machine", [(.type "object")], [(.ref 239), (.type "object")], 238, "Machine", true, [], [], false, none, false⟩), #[none, none, (some (.str "Machine" 357)), (some (.str "Machine" 365)), (some (.builtin "object.__new__")), (some (.bool true))]⟩) ::
  (nat_lit 240, ⟨(.type "getset_descriptor"), none, (.fields #[(.str "__dict__" 538), (.ref 239), (.builtin "function.__dict__"), (.builtin "function.__dict__#set")]), #[]⟩) ::
  (nat_lit 241, ⟨(.type "getset_descriptor"), none, (.fields #[(.str "__weakref__" 540), (.ref 239), (.builtin "ExceptionGroup.__weakref__"), .none]), #[]⟩) ::
  (nat_lit 244, ⟨(.type "tuple"), none, (.seq #[] 0), #[]⟩) ::
  (nat_lit 246, ⟨(.type "tuple"), none, (.seq #[(.str "frame" 548), (.str "many" 549), (.str "stack" 550)] 0), #[]⟩) ::
  (nat_lit 247, ⟨(.type "tuple"), none, (.seq #[] 0), #[]⟩) ::
  (nat_lit 249, ⟨(.type "code"), none, (.fields #[(.str "uppermost" 545), (.str "uppermost" 546), (.str "/claim/cut.py" 547), (.int (199) 0), (.int (2) 0), (.int (0) 0), (.int (0) 0), (.int (3) 0), (.ref 244), (.bool true), (.int (181) 0), (.ref 245), .none, (.ref 246), (.ref 247), (.ref 248), (.int (551) 0), (.int (199) 0), (.str "/claim/cut.py" 552)]), #[]⟩) ::
  (nat_lit 250, ⟨(.type "function"), none, (.func (PySem.W.fnOf "uppermost" "uppermost" (L2.defArgs s_uppermost) (L2.defBody s_uppermost) (L2.defScope s_uppermost) .none .none .none (.str "elderhouse.machine" 355) none (.ref 249) .none)), #[]⟩) ::
  (nat_lit 251, ⟨(.type "tuple"), none, (.seq #[] 0), #[]⟩) ::
  (nat_lit 253, ⟨(.type "tuple"), none, (.seq #[(.str "_law_script" 559), (.str "_law_k" 560)] 0), #[]⟩) ::
  (nat_lit 254, ⟨(.type "tuple"), none, (.seq #[] 0), #[]⟩) ::
  (nat_lit 256, ⟨(.type "code"), none, (.fields #[(.str "_law_cell_at" 556), (.str "_law_cell_at" 557), (.str "/claim/cut.py" 558), (.int (203) 0), (.int (2) 0), (.int (0) 0), (.int (0) 0), (.int (3) 0), (.ref 251), (.bool true), (.int (181) 0), (.ref 252), .none, (.ref 253), (.ref 254), (.ref 255), (.int (561) 0), (.int (203) 0), (.str "/claim/cut.py" 562)]), #[]⟩) ::
  (nat_lit 257, ⟨(.type "function"), none, (.func (PySem.W.fnOf "_law_cell_at" "_law_cell_at" (L2.defArgs s__law_cell_at) (L2.defBody s__law_cell_at) (L2.defScope s__law_cell_at) .none .none .none (.str "law_elderhouse_k63_whole_remembered_or_not" 554) none (.ref 256) .none)), #[]⟩) ::
  (nat_lit 258, ⟨(.type "tuple"), none, (.seq #[] 0), #[]⟩) ::
  (nat_lit 260, ⟨(.type "tuple"), none, (.seq #[(.str "_law_cell" 567), (.str "_law_k" 568), (.str "_law_number" 569)] 0), #[]⟩) ::
  (nat_lit 261, ⟨(.type "tuple"), none, (.seq #[] 0), #[]⟩) ::
  (nat_lit 263, ⟨(.type "code"), none, (.fields #[(.str "_law_mixed" 564), (.str "_law_mixed" 565), (.str "/claim/cut.py" 566), (.int (207) 0), (.int (2) 0), (.int (0) 0), (.int (0) 0), (.int (3) 0), (.ref 258), (.bool true), (.int (181) 0), (.ref 259), .none, (.ref 260), (.ref 261), (.ref 262), (.int (570) 0), (.int (207) 0), (.str "/claim/cut.py" 571)]), #[]⟩) ::
  (nat_lit 264, ⟨(.type "function"), none, (.func (PySem.W.fnOf "_law_mixed" "_law_mixed" (L2.defArgs s__law_mixed) (L2.defBody s__law_mixed) (L2.defScope s__law_mixed) .none .none .none (.str "law_elderhouse_k63_whole_remembered_or_not" 554) none (.ref 263) .none)), #[]⟩) ::
  (nat_lit 265, ⟨(.type "tuple"), none, (.seq #[] 0), #[]⟩) ::
  (nat_lit 267, ⟨(.type "tuple"), none, (.seq #[(.str "_law_way" 576)] 0), #[]⟩) ::
  (nat_lit 268, ⟨(.type "tuple"), none, (.seq #[] 0), #[]⟩) ::
  (nat_lit 270, ⟨(.type "code"), none, (.fields #[(.str "_law_tell_rows" 573), (.str "_law_tell_rows" 574), (.str "/claim/cut.py" 575), (.int (210) 0), (.int (1) 0), (.int (0) 0), (.int (0) 0), (.int (3) 0), (.ref 265), (.bool true), (.int (181) 0), (.ref 266), .none, (.ref 267), (.ref 268), (.ref 269), (.int (577) 0), (.int (210) 0), (.str "/claim/cut.py" 578)]), #[]⟩) ::
  (nat_lit 271, ⟨(.type "function"), none, (.func (PySem.W.fnOf "_law_tell_rows" "_law_tell_rows" (L2.defArgs s__law_tell_rows) (L2.defBody s__law_tell_rows) (L2.defScope s__law_tell_rows) .none .none .none (.str "law_elderhouse_k63_whole_remembered_or_not" 554) none (.ref 270) .none)), #[]⟩) ::
  (nat_lit 272, ⟨(.type "tuple"), none, (.seq #[] 0), #[]⟩) ::
  (nat_lit 275, ⟨(.type "code"), none, (.fields #[(.str "_law_program" 580), (.str "_law_program" 581), (.str "/claim/cut.py" 582), (.int (214) 0), (.int (1) 0), (.int (0) 0), (.int (0) 0), (.int (3) 0), (.ref 272), (.bool true), (.int (181) 0), (.ref 273), .none, .none, .none, (.ref 274), (.int (583) 0), (.int (214) 0), (.str "/claim/cut.py" 584)]), #[]⟩) ::
  (nat_lit 276, ⟨(.type "function"), none, (.func (PySem.W.fnOf "_law_program" "_law_program" (L2.defArgs s__law_program) (L2.defBody s__law_program) (L2.defScope s__law_program) .none .none .none (.str "law_elderhouse_k63_whole_remembered_or_not" 554) none (.ref 275) .none)), #[]⟩) ::
  (nat_lit 277, ⟨(.type "tuple"), none, (.seq #[] 0), #[]⟩) ::
  (nat_lit 279, ⟨(.type "tuple"), none, (.seq #[(.str "_law_program_here" 589), (.str "_law_most" 590), (.str "_law_ways" 591), (.str "_law_homes" 592), (.str "_law_values" 593), (.str "_law_count" 594), (.str "_law_last" 595), (.str "_law_sites" 596), (.str "_law_fields" 597), (.str "_law_total" 598), (.str "_law_calls" 599), (.str "_law_turn" 600), (.str "_law_level" 601), (.str "_law_number" 602), (.str "_law_site" 603), (.str "_law_house" 604), (.str "_law_way" 605), (.str "_law_told" 606)] 0), #[]⟩) ::
  (nat_lit 280, ⟨(.type "tuple"), none, (.seq #[] 0), #[]⟩) ::
  (nat_lit 282, ⟨(.type "code"), none, (.fields #[(.str "_law_answer" 586), (.str "_law_answer" 587), (.str "/claim/cut.py" 588), (.int (233) 0), (.int (2) 0), (.int (0) 0), (.int (0) 0), (.int (3) 0), (.ref 277), (.bool true), (.int (181) 0), (.ref 278), .none, (.ref 279), (.ref 280), (.ref 281), (.int (607) 0), (.int (233) 0), (.str "/claim/cut.py" 608)]), #[]⟩) ::
  (nat_lit 283, ⟨(.type "function"), none, (.func (PySem.W.fnOf "_law_answer" "_law_answer" (L2.defArgs s__law_answer) (L2.defBody s__law_answer) (L2.defScope s__law_answer) .none .none .none (.str "law_elderhouse_k63_whole_remembered_or_not" 554) none (.ref 282) .none)), #[]⟩) ::
  (nat_lit 284, ⟨(.type "tuple"), none, (.seq #[] 0), #[]⟩) ::
  (nat_lit 287, ⟨(.type "code"), none, (.fields #[(.str "_law_remembered" 610), (.str "_law_remembered" 611), (.str "/claim/cut.py" 612), (.int (258) 0), (.int (1) 0), (.int (0) 0), (.int (0) 0), (.int (3) 0), (.ref 284), (.bool true), (.int (181) 0), (.ref 285), .none, .none, .none, (.ref 286), (.int (613) 0), (.int (258) 0), (.str "/claim/cut.py" 614)]), #[]⟩) ::
  (nat_lit 288, ⟨(.type "function"), none, (.func (PySem.W.fnOf "_law_remembered" "_law_remembered" (L2.defArgs s__law_remembered) (L2.defBody s__law_remembered) (L2.defScope s__law_remembered) .none .none .none (.str "law_elderhouse_k63_whole_remembered_or_not" 554) none (.ref 287) .none)), #[]⟩) ::
  (nat_lit 289, ⟨(.type "tuple"), none, (.seq #[] 0), #[]⟩) ::
  (nat_lit 292, ⟨(.type "code"), none, (.fields #[(.str "_law_alike" 616), (.str "_law_alike" 617), (.str "/claim/cut.py" 618), (.int (267) 0), (.int (3) 0), (.int (0) 0), (.int (0) 0), (.int (3) 0), (.ref 289), (.bool true), (.int (181) 0), (.ref 290), .none, .none, .none, (.ref 291), (.int (619) 0), (.int (267) 0), (.str "/claim/cut.py" 620)]), #[]⟩) ::
  (nat_lit 293, ⟨(.type "function"), none, (.func (PySem.W.fnOf "_law_alike" "_law_alike" (L2.defArgs s__law_alike) (L2.defBody s__law_alike) (L2.defScope s__law_alike) .none .none .none (.str "law_elderhouse_k63_whole_remembered_or_not" 554) none (.ref 292) .none)), #[]⟩) ::
  (nat_lit 294, ⟨(.type "tuple"), none, (.seq #[] 0), #[]⟩) ::
  (nat_lit 297, ⟨(.type "code"), none, (.fields #[(.str "law" 622), (.str "law" 623), (.str "/claim/cut.py" 624), (.int (273) 0), (.int (1) 0), (.int (0) 0), (.int (0) 0), (.int (3) 0), (.ref 294), (.bool true), (.int (181) 0), (.ref 295), .none, .none, .none, (.ref 296), (.int (625) 0), (.int (273) 0), (.str "/claim/cut.py" 626)]), #[]⟩) ::
  (nat_lit 298, ⟨(.type "function"), none, (.func (PySem.W.fnOf "law" "law" (L2.defArgs s_law) (L2.defBody s_law) (L2.defScope s_law) .none .none .none (.str "law_elderhouse_k63_whole_remembered_or_not" 554) none (.ref 297) .none)), #[]⟩) :: []
noncomputable def KA : List Addr := [2, 3, 15, 17, 18, 20, 21, 22, 24, 25, 27, 28, 29, 31, 32, 34, 35, 36, 37, 39, 40, 42, 43, 44, 46, 47, 49, 50, 51, 53, 54, 56, 57, 58, 60, 61, 63, 64, 65, 67, 68, 70, 71, 79, 81, 82, 84, 85, 86, 89, 90, 91, 93, 94, 96, 97, 98, 100, 101, 103, 104, 105, 106, 107, 108, 109, 119, 120, 123, 124, 125, 127, 128, 130, 131, 132, 134, 135, 137, 138, 139, 141, 142, 144, 145, 146, 148, 149, 151, 152, 153, 155, 156, 158, 159, 160, 162, 163, 165, 166, 167, 169, 170, 172, 173, 174, 176, 177, 179, 180, 181, 183, 184, 186, 187, 188, 190, 191, 193, 194, 195, 197, 198, 200, 201, 202, 204, 205, 207, 208, 209, 211, 212, 214, 215, 216, 218, 219, 221, 222, 223, 225, 226, 228, 229, 230, 232, 233, 235, 236, 237, 238, 239, 240, 241, 244, 246, 247, 249, 250, 251, 253, 254, 256, 257, 258, 260, 261, 263, 264, 265, 267, 268, 270, 271, 272, 275, 276, 277, 279, 280, 282, 283, 284, 287, 288, 289, 292, 293, 294, 297, 298]
theorem sp_law_ok {K : PySem.W.Frag} {H : Hp} {a : Addr} {ns : List Int} (hl : ns.length ≤ 63) (hS : SqL K H a (ns.map V.int)) : sp_law K [.ref a] H (fun v _ => v = .bl true) fun _ _ _ => False := ⟨a, ns, rfl, hS, hl, fun _ => rfl⟩
end K63
end
open PySem PySem.W PyProof.Rows
set_option maxRecDepth 100000 in
set_option maxHeartbeats 0 in
theorem PySem.Challenge.cw_elderhouse_k63_whole_remembered_or_not_holds : PySem.Challenge.rw_elderhouse_k63_whole_remembered_or_not.Holds := by
  refine K63.rq_eq ▸ ?_
  w_on; o_law; o_head (PySem.W.kHook K63.KK K63.KA (fun _ => by kernel_rfl)); (case hw => w_witness2)
  k_fill
  refine L2.walk_ofK (l := K63.rq) (n := 63) (k := 8) (x := "_law_script") (CX := L2.CX0) (sp := K63.sp_law) rfl (by decide) rfl ⟨rfl, by decide, by decide, rfl⟩ (fun w h Y => PySem.W.kIn_of Y) ?F ?S (fun _ _ _ _ z => z)
  case F =>
    intro w mg fa h KX G hmg
    have T : ∃ C_Places C_Machine D_ROW_SIGNS, K63.Txt (K63.rq.prog) w (L2.KOf KX) mg C_Places C_Machine D_ROW_SIGNS := by
      dsimp only [L2.KOf]
      refine' ⟨_, _, _, K63.Txt.mk (PySem.W.mg_none_of KX G ?z_abs) (PySem.W.mg_none_of KX G ?z_int) (PySem.W.mg_none_of KX G ?z_isinstance) (PySem.W.mg_none_of KX G ?z_len) (PySem.W.mg_none_of KX G ?z_list) (PySem.W.mg_none_of KX G ?z_max) (PySem.W.mg_none_of KX G ?z_range) (PySem.W.mg_none_of KX G ?z_repr) (PySem.W.mg_none_of KX G ?z_tuple) (L2.cst_int KX G ?c_GREATEST) (L2.cst_int KX G ?c_MOST_PAIRS) (L2.cst_int KX G ?c_MOST_WITHIN) (L2.cst_ref KX G ?c_ROW_SIGNS) (L2.mdict_mk ?m_ROW_SIGNS ?e_ROW_SIGNS ?d_ROW_SIGNS ?p_ROW_SIGNS (by decide) ?s_ROW_SIGNS) (L2.fn_mk KX G ?a_two_told ?l_two_told ?d_two_told ?k_two_told) (L2.fn_mk KX G ?a_number_told ?l_number_told ?d_number_told ?k_number_told) (L2.fn_mk KX G ?a_bounded ?l_bounded ?d_bounded ?k_bounded) (L2.fn_mk KX G ?a_entered ?l_entered ?d_entered ?k_entered) (L2.fn_mk KX G ?a_own_done ?l_own_done ?d_own_done ?k_own_done) (L2.fn_mk KX G ?a_two_done ?l_two_done ?d_two_done ?k_two_done) (L2.fn_mk KX G ?a_behind ?l_behind ?d_behind ?k_behind) (L2.fn_mk KX G ?a_field_value ?l_field_value ?d_field_value ?k_field_value) (L2.fn_mk KX G ?a_uppermost ?l_uppermost ?d_uppermost ?k_uppermost) (L2.fn_mk KX G ?a__law_cell_at ?l__law_cell_at ?d__law_cell_at ?k__law_cell_at) (L2.fn_mk KX G ?a__law_mixed ?l__law_mixed ?d__law_mixed ?k__law_mixed) (L2.fn_mk KX G ?a__law_tell_rows ?l__law_tell_rows ?d__law_tell_rows ?k__law_tell_rows) (L2.fn_mk KX G ?a__law_program ?l__law_program ?d__law_program ?k__law_program) (L2.fn_mk KX G ?a__law_answer ?l__law_answer ?d__law_answer ?k__law_answer) (L2.fn_mk KX G ?a__law_remembered ?l__law_remembered ?d__law_remembered ?k__law_remembered) (L2.fn_mk KX G ?a__law_alike ?l__law_alike ?d__law_alike ?k__law_alike) (L2.fn_mk KX G ?a_law ?l_law ?d_law ?k_law) (L2.cls_mk KX G ?a_Places ?pg_Places ?hd_Places ?po_Places ?sa_Places ?mk_Places ?kp_Places) (L2.noattr_mk ?n_Places_by_site) (L2.cls_mk KX G ?a_Machine ?pg_Machine ?hd_Machine ?po_Machine ?sa_Machine ?mk_Machine ?kp_Machine) (L2.noattr_mk ?n_Machine_blocks) (L2.noattr_mk ?n_Machine_call_count) (L2.noattr_mk ?n_Machine_ended) (L2.noattr_mk ?n_Machine_hit_count) (L2.noattr_mk ?n_Machine_house_tables) (L2.noattr_mk ?n_Machine_look_count) (L2.noattr_mk ?n_Machine_made) (L2.noattr_mk ?n_Machine_most) (L2.noattr_mk ?n_Machine_places) (L2.noattr_mk ?n_Machine_remembers) (L2.noattr_mk ?n_Machine_row_count) (L2.noattr_mk ?n_Machine_stacked) (L2.mfn_mk ?f_Places___init__ ?i_Places___init__ ?l_Places___init__ ?d_Places___init__ ?k_Places___init__) (L2.mfn_mk ?f_Places_asked ?i_Places_asked ?l_Places_asked ?d_Places_asked ?k_Places_asked) (L2.mfn_mk ?f_Places_put ?i_Places_put ?l_Places_put ?d_Places_put ?k_Places_put) (L2.mfn_mk ?f_Places_told ?i_Places_told ?l_Places_told ?d_Places_told ?k_Places_told) (L2.mfnd_mk ?f_Machine___init__ ?i_Machine___init__ ?l_Machine___init__ ?d_Machine___init__ ?k_Machine___init__ ?q_Machine___init__ ?o_Machine___init__ ?r_Machine___init__ ?s_Machine___init__) (L2.mfn_mk ?f_Machine_frames ?i_Machine_frames ?l_Machine_frames ?d_Machine_frames ?k_Machine_frames) (L2.mfn_mk ?f_Machine_things ?i_Machine_things ?l_Machine_things ?d_Machine_things ?k_Machine_things) (L2.mfn_mk ?f_Machine_answer ?i_Machine_answer ?l_Machine_answer ?d_Machine_answer ?k_Machine_answer) (L2.mfn_mk ?f_Machine_calls ?i_Machine_calls ?l_Machine_calls ?d_Machine_calls ?k_Machine_calls) (L2.mfn_mk ?f_Machine_looks ?i_Machine_looks ?l_Machine_looks ?d_Machine_looks ?k_Machine_looks) (L2.mfn_mk ?f_Machine_hits ?i_Machine_hits ?l_Machine_hits ?d_Machine_hits ?k_Machine_hits) (L2.mfn_mk ?f_Machine_rows_done ?i_Machine_rows_done ?l_Machine_rows_done ?d_Machine_rows_done ?k_Machine_rows_done) (L2.mfn_mk ?f_Machine_step ?i_Machine_step ?l_Machine_step ?d_Machine_step ?k_Machine_step) (L2.mfn_mk ?f_Machine_do_own ?i_Machine_do_own ?l_Machine_do_own ?d_Machine_do_own ?k_Machine_do_own) (L2.mfn_mk ?f_Machine_make ?i_Machine_make ?l_Machine_make ?d_Machine_make ?k_Machine_make) (L2.mfn_mk ?f_Machine_set_field ?i_Machine_set_field ?l_Machine_set_field ?d_Machine_set_field ?k_Machine_set_field) (L2.mfn_mk ?f_Machine_found_block ?i_Machine_found_block ?l_Machine_found_block ?d_Machine_found_block ?k_Machine_found_block) (L2.mfn_mk ?f_Machine_enter ?i_Machine_enter ?l_Machine_enter ?d_Machine_enter ?k_Machine_enter) (L2.mfn_mk ?f_Machine_go_back ?i_Machine_go_back ?l_Machine_go_back ?d_Machine_go_back ?k_Machine_go_back) (L2.mfn_mk ?f_Machine_told_answer ?i_Machine_told_answer ?l_Machine_told_answer ?d_Machine_told_answer ?k_Machine_told_answer) (L2.mfn_mk ?f_Machine_end ?i_Machine_end ?l_Machine_end ?d_Machine_end ?k_Machine_end)⟩
      (case z_abs => k_is)
      (case z_int => k_is)
      (case z_isinstance => k_is)
      (case z_len => k_is)
      (case z_list => k_is)
      (case z_max => k_is)
      (case z_range => k_is)
      (case z_repr => k_is)
      (case z_tuple => k_is)
      (case c_GREATEST => k_is)
      (case c_MOST_PAIRS => k_is)
      (case c_MOST_WITHIN => k_is)
      (case c_ROW_SIGNS => k_is)
      (case m_ROW_SIGNS => k_is)
      (case e_ROW_SIGNS => exact ⟨rfl, rfl, rfl⟩)
      (case d_ROW_SIGNS => exact rfl)
      (case p_ROW_SIGNS => exact .cons rfl rfl ⟨_, rfl⟩ (.cons rfl rfl ⟨_, rfl⟩ (.cons rfl rfl ⟨_, rfl⟩ (.cons rfl rfl ⟨_, rfl⟩ (.cons rfl rfl ⟨_, rfl⟩ (.cons rfl rfl ⟨_, rfl⟩ (.nil)))))))
      (case s_ROW_SIGNS => exact rfl)
      (case a_two_told => k_is)
      (case l_two_told => k_is)
      (case d_two_told => k_is)
      (case k_two_told => k_is)
      (case a_number_told => k_is)
      (case l_number_told => k_is)
      (case d_number_told => k_is)
      (case k_number_told => k_is)
      (case a_bounded => k_is)
      (case l_bounded => k_is)
      (case d_bounded => k_is)
      (case k_bounded => k_is)
      (case a_entered => k_is)
      (case l_entered => k_is)
      (case d_entered => k_is)
      (case k_entered => k_is)
      (case a_own_done => k_is)
      (case l_own_done => k_is)
      (case d_own_done => k_is)
      (case k_own_done => k_is)
      (case a_two_done => k_is)
      (case l_two_done => k_is)
      (case d_two_done => k_is)
      (case k_two_done => k_is)
      (case a_behind => k_is)
      (case l_behind => k_is)
      (case d_behind => k_is)
      (case k_behind => k_is)
      (case a_field_value => k_is)
      (case l_field_value => k_is)
      (case d_field_value => k_is)
      (case k_field_value => k_is)
      (case a_uppermost => k_is)
      (case l_uppermost => k_is)
      (case d_uppermost => k_is)
      (case k_uppermost => k_is)
      (case a__law_cell_at => k_is)
      (case l__law_cell_at => k_is)
      (case d__law_cell_at => k_is)
      (case k__law_cell_at => k_is)
      (case a__law_mixed => k_is)
      (case l__law_mixed => k_is)
      (case d__law_mixed => k_is)
      (case k__law_mixed => k_is)
      (case a__law_tell_rows => k_is)
      (case l__law_tell_rows => k_is)
      (case d__law_tell_rows => k_is)
      (case k__law_tell_rows => k_is)
      (case a__law_program => k_is)
      (case l__law_program => k_is)
      (case d__law_program => k_is)
      (case k__law_program => k_is)
      (case a__law_answer => k_is)
      (case l__law_answer => k_is)
      (case d__law_answer => k_is)
      (case k__law_answer => k_is)
      (case a__law_remembered => k_is)
      (case l__law_remembered => k_is)
      (case d__law_remembered => k_is)
      (case k__law_remembered => k_is)
      (case a__law_alike => k_is)
      (case l__law_alike => k_is)
      (case d__law_alike => k_is)
      (case k__law_alike => k_is)
      (case a_law => k_is)
      (case l_law => k_is)
      (case d_law => k_is)
      (case k_law => k_is)
      (case a_Places => k_is)
      (case pg_Places => k_is)
      (case hd_Places => k_is)
      (case po_Places => k_is)
      (case sa_Places => k_is)
      (case mk_Places => k_is)
      (case kp_Places => k_is)
      (case n_Places_by_site => k_is)
      (case a_Machine => k_is)
      (case pg_Machine => k_is)
      (case hd_Machine => k_is)
      (case po_Machine => k_is)
      (case sa_Machine => k_is)
      (case mk_Machine => k_is)
      (case kp_Machine => k_is)
      (case n_Machine_blocks => k_is)
      (case n_Machine_call_count => k_is)
      (case n_Machine_ended => k_is)
      (case n_Machine_hit_count => k_is)
      (case n_Machine_house_tables => k_is)
      (case n_Machine_look_count => k_is)
      (case n_Machine_made => k_is)
      (case n_Machine_most => k_is)
      (case n_Machine_places => k_is)
      (case n_Machine_remembers => k_is)
      (case n_Machine_row_count => k_is)
      (case n_Machine_stacked => k_is)
      (case f_Places___init__ => k_is)
      (case i_Places___init__ => k_is)
      (case l_Places___init__ => k_is)
      (case d_Places___init__ => k_is)
      (case k_Places___init__ => k_is)
      (case f_Places_asked => k_is)
      (case i_Places_asked => k_is)
      (case l_Places_asked => k_is)
      (case d_Places_asked => k_is)
      (case k_Places_asked => k_is)
      (case f_Places_put => k_is)
      (case i_Places_put => k_is)
      (case l_Places_put => k_is)
      (case d_Places_put => k_is)
      (case k_Places_put => k_is)
      (case f_Places_told => k_is)
      (case i_Places_told => k_is)
      (case l_Places_told => k_is)
      (case d_Places_told => k_is)
      (case k_Places_told => k_is)
      (case f_Machine___init__ => k_is)
      (case i_Machine___init__ => k_is)
      (case l_Machine___init__ => k_is)
      (case d_Machine___init__ => k_is)
      (case k_Machine___init__ => k_is)
      (case q_Machine___init__ => k_is)
      (case o_Machine___init__ => exact rfl)
      (case r_Machine___init__ => exact ⟨_, rfl⟩)
      (case s_Machine___init__ => exact rfl)
      (case f_Machine_frames => k_is)
      (case i_Machine_frames => k_is)
      (case l_Machine_frames => k_is)
      (case d_Machine_frames => k_is)
      (case k_Machine_frames => k_is)
      (case f_Machine_things => k_is)
      (case i_Machine_things => k_is)
      (case l_Machine_things => k_is)
      (case d_Machine_things => k_is)
      (case k_Machine_things => k_is)
      (case f_Machine_answer => k_is)
      (case i_Machine_answer => k_is)
      (case l_Machine_answer => k_is)
      (case d_Machine_answer => k_is)
      (case k_Machine_answer => k_is)
      (case f_Machine_calls => k_is)
      (case i_Machine_calls => k_is)
      (case l_Machine_calls => k_is)
      (case d_Machine_calls => k_is)
      (case k_Machine_calls => k_is)
      (case f_Machine_looks => k_is)
      (case i_Machine_looks => k_is)
      (case l_Machine_looks => k_is)
      (case d_Machine_looks => k_is)
      (case k_Machine_looks => k_is)
      (case f_Machine_hits => k_is)
      (case i_Machine_hits => k_is)
      (case l_Machine_hits => k_is)
      (case d_Machine_hits => k_is)
      (case k_Machine_hits => k_is)
      (case f_Machine_rows_done => k_is)
      (case i_Machine_rows_done => k_is)
      (case l_Machine_rows_done => k_is)
      (case d_Machine_rows_done => k_is)
      (case k_Machine_rows_done => k_is)
      (case f_Machine_step => k_is)
      (case i_Machine_step => k_is)
      (case l_Machine_step => k_is)
      (case d_Machine_step => k_is)
      (case k_Machine_step => k_is)
      (case f_Machine_do_own => k_is)
      (case i_Machine_do_own => k_is)
      (case l_Machine_do_own => k_is)
      (case d_Machine_do_own => k_is)
      (case k_Machine_do_own => k_is)
      (case f_Machine_make => k_is)
      (case i_Machine_make => k_is)
      (case l_Machine_make => k_is)
      (case d_Machine_make => k_is)
      (case k_Machine_make => k_is)
      (case f_Machine_set_field => k_is)
      (case i_Machine_set_field => k_is)
      (case l_Machine_set_field => k_is)
      (case d_Machine_set_field => k_is)
      (case k_Machine_set_field => k_is)
      (case f_Machine_found_block => k_is)
      (case i_Machine_found_block => k_is)
      (case l_Machine_found_block => k_is)
      (case d_Machine_found_block => k_is)
      (case k_Machine_found_block => k_is)
      (case f_Machine_enter => k_is)
      (case i_Machine_enter => k_is)
      (case l_Machine_enter => k_is)
      (case d_Machine_enter => k_is)
      (case k_Machine_enter => k_is)
      (case f_Machine_go_back => k_is)
      (case i_Machine_go_back => k_is)
      (case l_Machine_go_back => k_is)
      (case d_Machine_go_back => k_is)
      (case k_Machine_go_back => k_is)
      (case f_Machine_told_answer => k_is)
      (case i_Machine_told_answer => k_is)
      (case l_Machine_told_answer => k_is)
      (case d_Machine_told_answer => k_is)
      (case k_Machine_told_answer => k_is)
      (case f_Machine_end => k_is)
      (case i_Machine_end => k_is)
      (case l_Machine_end => k_is)
      (case d_Machine_end => k_is)
      (case k_Machine_end => k_is)
    obtain ⟨C_Places, C_Machine, D_ROW_SIGNS, T⟩ := T
    exact L2.law_fin T.f_law hmg (fun _ _ _ _ _ _ _ => rfl) fun f fd base F => K63.ok_law T F
  case S => exact fun K H a ns hl _ hS => K63.sp_law_ok hl hS
