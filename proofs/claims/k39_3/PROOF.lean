import PyProof.Rows.All
import Wide.All
import OpenK.AllK
import Wide.FinOn
import Lean
import PyProof.EqAt
import PyProof.EqKinds
import PyProof.TupleCall
import PyProof.P3Eq
import PyProof.NeData
import PyProof.P3Statements
import PyProof.StrLawsChain
import PyProof.StrLawsTight
import PyProof.StrLawsReplace
import PyProof.FitsReplace
import KE.IntText
import PyProof.StrBlockL
import PyProof.ExcArgsOwn
import PyProof.ExcAttrAll.ValueError
import PySem.Challenge.RW_tally_k39_pins_refused
set_option maxHeartbeats 4000000
set_option Elab.async false
set_option linter.all false
set_option maxRecDepth 100000
/-! THE HAND LAYER, for ints, bools, texts, own classes, LISTS and tuples (index, slices, in, append, pop ..), calls, loops. Paste it whole ahead of your own text; what your proof does not reach may be deleted. -/
namespace L2
open PySem PySem.Spec PyProof.Rows

/-- a key: an int or a str -/
abbrev Key := Sum Int Str
def keyIs : Key → Value → Bool
  | .inl k, v => Value.isInt k v
  | .inr x, v => Value.isStrOf x v
def keyH (w : World) : Key → Int
  | .inl k => hashInt k
  | .inr x => hashStr w x
theorem keyIs_shape : ∀ {k : Key} {v : Value}, keyIs k v = true → (∃ i t, k = Sum.inl i ∧ v = Value.int i t) ∨ (∃ x t, k = Sum.inr x ∧ v = Value.str x t)
  | .inl i, v, h => by
    obtain ⟨t, e⟩ := Value.isInt_shape (k := i) (v := v) h
    exact .inl ⟨i, t, rfl, e⟩
  | .inr x, v, h => by
    obtain ⟨t, e⟩ := Value.isStrOf_shape (x := x) (v := v) h
    exact .inr ⟨x, t, rfl, e⟩
theorem keyIs_int (i : Int) (t : Tok) : keyIs (.inl i) (.int i t) = true := by simp [keyIs, Value.isInt]
theorem keyIs_str (x : Str) (t : Tok) : keyIs (.inr x) (.str x t) = true := by simp [keyIs, Value.isStrOf]
theorem key_ll (a b : Int) : decide ((Sum.inl a : Key) = Sum.inl b) = (a == b) := by
  by_cases e : a = b
  · subst e; simp
  · have h : ¬ (Sum.inl a : Key) = Sum.inl b := fun q => e (Sum.inl.inj q)
    rw [decide_eq_false h]
    exact (beq_eq_false_iff_ne.mpr e).symm
theorem key_rr (a b : Str) : decide ((Sum.inr a : Key) = Sum.inr b) = decide (a = b) := by
  by_cases e : a = b
  · subst e; simp
  · have h : ¬ (Sum.inr a : Key) = Sum.inr b := fun q => e (Sum.inr.inj q)
    rw [decide_eq_false h, decide_eq_false e]
theorem key_lr (a : Int) (b : Str) : decide ((Sum.inl a : Key) = Sum.inr b) = false := decide_eq_false (fun q => nomatch q)
theorem key_rl (a : Str) (b : Int) : decide ((Sum.inr a : Key) = Sum.inl b) = false := decide_eq_false (fun q => nomatch q)

def mixKind (prog : Program) (w : World) : PySem.KeyKind prog w Key where
  is := keyIs
  hash := keyH w
  inj := fun v a b ha hb => by
    rcases keyIs_shape ha with ⟨i, t, rfl, rfl⟩ | ⟨x, t, rfl, rfl⟩
    · rcases keyIs_shape hb with ⟨j, u, rfl, e⟩ | ⟨y, u, rfl, e⟩
      · injection e with e1 _; rw [e1]
      · exact nomatch e
    · rcases keyIs_shape hb with ⟨j, u, rfl, e⟩ | ⟨y, u, rfl, e⟩
      · exact nomatch e
      · injection e with e1 _; rw [e1]
  byValue := fun k v h => by
    rcases keyIs_shape h with ⟨i, t, rfl, rfl⟩ | ⟨x, t, rfl, rfl⟩ <;> rfl
  pyHash := fun hv h => by
    rcases keyIs_shape hv with ⟨i, t, rfl, rfl⟩ | ⟨x, t, rfl, rfl⟩
    · exact wpAny_pyHash_int h
    · exact wpAny_pyHash_str h
  eqBool := fun hu hv h => by
    rcases keyIs_shape hu with ⟨i, t, rfl, rfl⟩ | ⟨x, t, rfl, rfl⟩
    · rcases keyIs_shape hv with ⟨j, u, rfl, rfl⟩ | ⟨y, u, rfl, rfl⟩
      · rw [key_ll] at h; exact wpAny_eqBool_int h
      · rw [key_lr] at h; exact SeqAt.EqAt.int_str i t y u _ _ _ _ h
    · rcases keyIs_shape hv with ⟨j, u, rfl, rfl⟩ | ⟨y, u, rfl, rfl⟩
      · rw [key_rl] at h; exact SeqAt.EqAt.str_int x t j u _ _ _ _ h
      · rw [key_rr] at h; exact wpAny_eqBool_str h
  «strs» := fun k x t v h => by
    rcases keyIs_shape h with ⟨i, u, rfl, e⟩ | ⟨y, u, rfl, e⟩
    · exact nomatch e
    · injection e with e1 _
      subst e1
      cases v <;> rfl

theorem mixKind_is (prog : Program) (w : World) (k : Key) (v : Value) : (mixKind prog w).is k v = keyIs k v := rfl
theorem mixKind_int (prog : Program) (w : World) (i : Int) (t : Tok) : (mixKind prog w).is (.inl i) (.int i t) = true := keyIs_int i t
theorem mixKind_str (prog : Program) (w : World) (x : Str) (t : Tok) : (mixKind prog w).is (.inr x) (.str x t) = true := keyIs_str x t
end L2

namespace L2
open PySem PySem.Spec PyProof.Rows

/-- a value, without the heap -/
inductive V where
  | non | bl (b : Bool) | int (i : Int) | str (x : Str) | byt (b : Array UInt8) | flt (b : UInt64) | ref (a : Addr) | ty (n : String)
  deriving DecidableEq

def RelV : V → Value → Prop
  | .non, u => u = Value.none
  | .bl b, u => u = Value.bool b
  | .int i, u => ∃ t, u = Value.int i t
  | .str x, u => ∃ t, u = Value.str x t
  | .byt b, u => ∃ t, u = Value.bytes b t
  | .flt b, u => ∃ t, u = Value.float b t
  | .ref a, u => u = Value.ref a
  | .ty n, u => u = Value.type n

abbrev Vals : List V → List Value → Prop := Paired RelV
theorem Vals.length {xs : List V} {us : List Value} (r : Vals xs us) : xs.length = us.length := Paired.length r
theorem Vals.get : ∀ {xs : List V} {us : List Value} {i : Nat} {x : V}, Vals xs us → xs[i]? = some x → ∃ u, us[i]? = some u ∧ RelV x u
  | _, _, _, _, .nil, e => by simp at e
  | _, _, 0, _, .cons r _, e => by simp at e; subst e; exact ⟨_, rfl, r⟩
  | _, _, i + 1, x, .cons _ t, e => by
    obtain ⟨u, h1, h2⟩ := Vals.get (i := i) (x := x) t (by simpa using e)
    exact ⟨u, by simpa using h1, h2⟩
theorem Vals.set {x : V} {u : Value} (r : RelV x u) : ∀ {xs : List V} {us : List Value} (i : Nat), Vals xs us → Vals (xs.set i x) (us.set i u)
  | _, _, _, .nil => .nil
  | _, _, 0, .cons _ t => .cons r t
  | _, _, i + 1, .cons q t => .cons q (Vals.set r i t)
theorem Vals.append : ∀ {xs ys : List V} {us ws : List Value}, Vals xs us → Vals ys ws → Vals (xs ++ ys) (us ++ ws)
  | _, _, _, _, .nil, s => s
  | _, _, _, _, .cons r t, s => .cons r (Vals.append t s)
theorem Vals.take : ∀ {xs : List V} {us : List Value} (n : Nat), Vals xs us → Vals (xs.take n) (us.take n)
  | _, _, 0, _ => .nil
  | _, _, _ + 1, .nil => .nil
  | _, _, n + 1, .cons r t => .cons r (Vals.take n t)
theorem Vals.drop : ∀ {xs : List V} {us : List Value} (n : Nat), Vals xs us → Vals (xs.drop n) (us.drop n)
  | _, _, 0, r => r
  | _, _, _ + 1, .nil => .nil
  | _, _, n + 1, .cons _ t => Vals.drop n t
theorem Vals.none_of : ∀ {xs : List V} {us : List Value} {i : Nat}, Vals xs us → xs[i]? = none → us[i]? = none := fun {xs us i} r e => by
  have h1 := r.length
  have h2 : xs.length ≤ i := List.getElem?_eq_none_iff.mp e
  exact List.getElem?_eq_none_iff.mpr (by omega)

def RelO : Option V → Option Value → Prop
  | some v, some u => RelV v u
  | none, none => True
  | _, _ => False
def KV {κ : Type} : List (κ × V) → List (κ × Value) → Prop := Paired fun (p : κ × V) (q : κ × Value) => p.1 = q.1 ∧ RelV p.2 q.2

/-- a key of a dict (00_mix): an int or a text -/
def kV : Key → V
  | .inl i => .int i
  | .inr x => .str x

/-- what stands at a tracked address -/
inductive HO where
  /-- a list -/
  | lst (xs : List V)
  /-- a tuple (never changes) -/
  | tup (xs : List V)
  /-- a dict whose keys are ints and texts; one whose keys are tuples of ints and texts (the empty one is both) -/
  | dK (kvs : List (Key × V)) | dT (kvs : List (List Key × V))
  /-- a set of ints: its members, its size -/
  | set (S : Int → Bool) (n : Nat)
  /-- an instance of the class at C, its dict at dx, its attributes -/
  | ins (C dx : Addr) (fs : List (Str × V))
  /-- the dict of the instance at x -/
  | own (x : Addr)
  /-- the dict of an exception -/
  | xd (fs : List (Str × V))
  /-- a bound method, f of x -/
  | met (f x : Addr)
  /-- a range object lo, lo + 1, .. below hi -/
  | rng (lo hi : Int)
  /-- a thing that is known to the object (the script; a dict while a loop walks it): read, never written while it is so -/
  | frz (o : Obj) (u : HO)
  /-- a code object's table -/
  | tbl (ps : Array Value)
  /-- any other thing, by what is true of its one object (a def of one's own: SetO a S n := HO.ext fun h => ..) -/
  | ext (φ : Heap → Prop)

abbrev Hp := Addr → Option HO
def upd (H : Hp) (a : Addr) (o : HO) : Hp := fun b => if b = a then some o else H b
theorem upd_same {H : Hp} {a : Addr} {o : HO} : upd H a o a = some o := by unfold upd; rw [if_pos rfl]
theorem upd_ne {H : Hp} {a b : Addr} {o : HO} (h : b ≠ a) : upd H a o b = H b := by unfold upd; rw [if_neg h]
theorem upd_upd {H : Hp} {a : Addr} {o u : HO} : upd (upd H a o) a u = upd H a u := by
  funext b; unfold upd; split <;> rfl
/-- two objects of different content stand apart -/
theorem ne_of {H : Hp} {a b : Addr} {o u : HO} (h : H a = some o) (h' : H b = some u) (d : o ≠ u) : a ≠ b := by
  intro e; subst e; rw [h] at h'; exact d (Option.some.inj h')
theorem ne_of_none {H : Hp} {a b : Addr} {o : HO} (h : H a = some o) (h' : H b = none) : a ≠ b := by
  intro e; subst e; rw [h] at h'; cases h'

section
variable (P : Program) (w : World)
def ObjOk (H : Hp) (h : Heap) (a : Addr) : HO → Prop
  | .lst xs => xs.length ≤ sizeLine ∧ ∃ (its : List Value) (n : Nat), Vals xs its ∧ h.get? a = some { cls := .type "list", data := .seq its.toArray n }
  | .tup xs => xs.length ≤ sizeLine ∧ ∃ its : List Value, Vals xs its ∧ IsTup h a its.toArray
  | .dK kvs => kvs.length ≤ sizeLine ∧ (a == sysModules) = false ∧ ∃ vs, KV kvs vs ∧ h.DictOf (mixKind P w) a vs
  | .dT kvs => kvs.length ≤ sizeLine ∧ (a == sysModules) = false ∧ ∃ xs : List (List Key × Addr × Value),
      Paired (fun (p : List Key × V) (q : List Key × Addr × Value) => p.1 = q.1 ∧ H q.2.1 = some (.tup (p.1.map kV)) ∧ RelV p.2 q.2.2) kvs xs ∧
      ∃ o es ep, h.get? a = some o ∧ o.ExactDict ∧ o.data = .dict es ep ∧ es.toList = xs.map (entryOfKey (tupleKind (mixKind P w))) ∧ (xs.map (·.1)).Nodup
  | .set S n => h.SetOf (intKind P w) a S n
  | .ins C dx fs => H dx = some (.own a) ∧ fs.length ≤ 1000 ∧ dx ≠ a ∧ h.get? a = some (PySem.W.instObj C dx) ∧
      ∃ mA, h.Ns1 dx mA ∧ (∀ f, RelO (fs.lookup f) (mA f)) ∧ PySem.Within mA (fs.map (·.1))
  | .own _ => ∃ o, h.get? a = some o
  | .xd fs => ∃ mA, h.Ns1 a mA ∧ ∀ f, RelO (fs.lookup f) (mA f)
  | .rng lo hi => ∃ t u v, h.get? a = some { cls := .type "range", data := .fields #[.int lo t, .int hi u, .int 1 v] }
  | .frz o u => h.get? a = some o ∧ ObjOk H h a u
  | .tbl ps => h.get? a = some { cls := .none, data := .fields ps }
  | .met f x => h.get? a = some (PySem.W.methodObj (.ref f) (.ref x))
  | .ext φ => φ h ∧ (∃ o, h.get? a = some o) ∧ ∀ h1 h2 : Heap, φ h1 → (∀ o, h1.get? a = some o → h2.get? a = some o) → φ h2
/-- the abstract heap is held -/
def HOk (H : Hp) (h : Heap) : Prop := ∀ a o, H a = some o → ObjOk P w H h a o
end

section
variable {P : Program} {w : World} {H H' : Hp} {h h' : Heap} {a : Addr} {o : HO}
theorem ObjOk.lt (x : ObjOk P w H h a o) : a < h.objs.size := by
  cases o with
  | lst xs => obtain ⟨_, _, _, _, e⟩ := x; exact Heap.lt_size e
  | tup xs => obtain ⟨_, _, _, p⟩ := x; exact p.lt
  | dK kvs => obtain ⟨_, _, _, _, o, _, _, e, _⟩ := x; exact Heap.lt_size e
  | dT kvs => obtain ⟨_, _, _, _, o, _, _, e, _⟩ := x; exact Heap.lt_size e
  | set S n => obtain ⟨o, _, _, _, e, _⟩ := x; exact Heap.lt_size e
  | ins C dx fs => obtain ⟨_, _, _, e, _⟩ := x; exact Heap.lt_size e
  | own y => obtain ⟨_, e⟩ := x; exact Heap.lt_size e
  | xd fs => obtain ⟨_, ⟨_, _, _, e, _⟩, _⟩ := x; exact Heap.lt_size e
  | rng lo hi => obtain ⟨_, _, _, e⟩ := x; exact Heap.lt_size e
  | frz ob u => obtain ⟨e, _⟩ := x; exact Heap.lt_size e
  | tbl ps => exact Heap.lt_size (show h.get? a = some _ from x)
  | met f y => exact Heap.lt_size (show h.get? a = some _ from x)
  | ext φ => obtain ⟨_, ⟨_, e⟩, _⟩ := x; exact Heap.lt_size e
theorem Paired.mapP {α β : Type} {F G : α → β → Prop} : ∀ {l₁ : List α} {l₂ : List β}, Paired F l₁ l₂ → (∀ a b, F a b → G a b) → Paired G l₁ l₂
  | _, _, .nil, _ => .nil
  | _, _, .cons r t, f => .cons (f _ _ r) (Paired.mapP t f)
theorem Paired.imp' {α β : Type} {F G : α → β → Prop} (f : ∀ a b, F a b → G a b) {l₁ : List α} {l₂ : List β} (r : Paired F l₁ l₂) : Paired G l₁ l₂ := Paired.mapP r f
/-- what an object's description leans on: its own object, its own dict, the tuples -/
theorem ObjOk.stay (x : ObjOk P w H h a o) (k : ∀ b u, (b = a ∨ H b = some (.own a)) → h.get? b = some u → h'.get? b = some u)
    (ho : ∀ b, H b = some (.own a) → H' b = some (.own a)) (ht : ∀ b xs, H b = some (.tup xs) → H' b = some (.tup xs)) : ObjOk P w H' h' a o := by
  induction o with
  | lst xs => obtain ⟨z, its, n, r, e⟩ := x; exact ⟨z, its, n, r, k _ _ (.inl rfl) e⟩
  | tup xs => obtain ⟨z, its, r, ob, e, c⟩ := x; exact ⟨z, its, r, ob, k _ _ (.inl rfl) e, c⟩
  | dK kvs => obtain ⟨z, y, vs, r, ob, es, ep, e, c⟩ := x; exact ⟨z, y, vs, r, ob, es, ep, k _ _ (.inl rfl) e, c⟩
  | dT kvs =>
    obtain ⟨z, y, xs, r, ob, es, ep, e, c⟩ := x
    exact ⟨z, y, xs, Paired.mapP r fun p q z => ⟨z.1, ht _ _ z.2.1, z.2.2⟩, ob, es, ep, k _ _ (.inl rfl) e, c⟩
  | set S n => obtain ⟨ob, es, ep, t, e, c⟩ := x; exact ⟨ob, es, ep, t, k _ _ (.inl rfl) e, c⟩
  | ins C dx fs =>
    obtain ⟨d, z, ne, e, mA, ⟨od, es, ep, e2, c⟩, r⟩ := x
    exact ⟨ho _ d, z, ne, k _ _ (.inl rfl) e, mA, ⟨od, es, ep, k _ _ (.inr d) e2, c⟩, r⟩
  | own y => obtain ⟨ob, e⟩ := x; exact ⟨ob, k _ _ (.inl rfl) e⟩
  | xd fs => obtain ⟨mA, ⟨od, es, ep, e, c⟩, r⟩ := x; exact ⟨mA, ⟨od, es, ep, k _ _ (.inl rfl) e, c⟩, r⟩
  | rng lo hi => obtain ⟨t, u, v, e⟩ := x; exact ⟨t, u, v, k _ _ (.inl rfl) e⟩
  | frz ob u ih => obtain ⟨e, q⟩ := x; exact ⟨k _ _ (.inl rfl) e, ih q⟩
  | tbl ps =>
    have e : h.get? a = some { cls := .none, data := .fields ps } := x
    show h'.get? a = some { cls := .none, data := .fields ps }
    exact k a _ (.inl rfl) e
  | met f y =>
    have e : h.get? a = some (PySem.W.methodObj (.ref f) (.ref y)) := x
    show h'.get? a = some (PySem.W.methodObj (.ref f) (.ref y))
    exact k a _ (.inl rfl) e
  | ext φ => obtain ⟨p, ⟨o, e⟩, st⟩ := x; exact ⟨st _ _ p fun o q => k _ _ (.inl rfl) q, ⟨o, k _ _ (.inl rfl) e⟩, st⟩
theorem HOk.lt (x : HOk P w H h) (e : H a = some o) : a < h.objs.size := (x a o e).lt
theorem HOk.fresh (x : HOk P w H h) (e : h.objs.size ≤ a) : H a = none := by
  cases q : H a with
  | none => rfl
  | some u => exact absurd (Nat.lt_of_lt_of_le (x.lt q) e) (Nat.lt_irrefl _)
/-- every object of the heap is kept -/
theorem HOk.kept (x : HOk P w H h) (k : ∀ b u, h.get? b = some u → h'.get? b = some u) : HOk P w H h' := fun a o e =>
  (x a o e).stay (fun b u _ q => k b u q) (fun _ q => q) fun _ _ q => q
/-- a new object is laid and tracked -/
theorem HOk.laid (x : HOk P w H h) (k : ∀ b u, h.get? b = some u → h'.get? b = some u) (hp : h.objs.size ≤ a) (new : ObjOk P w (upd H a o) h' a o) : HOk P w (upd H a o) h' := fun b u e => by
  have hn := x.fresh hp
  by_cases hb : b = a
  · subst hb; rw [upd_same] at e; cases e; exact new
  · rw [upd_ne hb] at e
    exact (x b u e).stay (fun c v _ q => k c v q) (fun c q => by rw [upd_ne (ne_of_none q hn)]; exact q) fun c xs q => by rw [upd_ne (ne_of_none q hn)]; exact q
end

/-- what may be read as u: it is u, or a known u -/
def Rd (H : Hp) (a : Addr) (u : HO) : Prop := H a = some u ∨ ∃ o, H a = some (.frz o u)
theorem Rd.of {H : Hp} {a : Addr} {u : HO} (h : H a = some u) : Rd H a u := .inl h
theorem Rd.ok {P : Program} {w : World} {H : Hp} {h : Heap} {a : Addr} {u : HO} (r : Rd H a u) (x : HOk P w H h) : ObjOk P w H h a u := by
  rcases r with r | ⟨o, r⟩
  · exact x a u r
  · obtain ⟨_, q⟩ := x a _ r
    exact q
/-- what may be written -/
def Mut : Option HO → Prop
  | some (.lst _) => True
  | some (.dK _) => True
  | some (.dT _) => True
  | some (.set _ _) => True
  | some (.ins _ _ _) => True
  | some (.ext _) => True
  | _ => False
section
variable {P : Program} {w : World} {H : Hp} {h h' : Heap} {x e : Addr} {o' : HO}
/-- the object at e is changed: x itself, or the dict of the instance x -/
theorem HOk.write (ok : HOk P w H h) (mu : Mut (H x)) (he : e = x ∨ H e = some (.own x)) (k : ∀ b u, b ≠ e → h.get? b = some u → h'.get? b = some u) (heo : ∃ u, h'.get? e = some u)
    (new : ObjOk P w (upd H x o') h' x o') : HOk P w (upd H x o') h' := fun b u q => by
  have nown : ∀ c y, H c = some (.own y) → c ≠ x := fun c y r z => by subst z; rw [r] at mu; exact mu
  have ntup : ∀ c xs, H c = some (.tup xs) → c ≠ x := fun c xs r z => by subst z; rw [r] at mu; exact mu
  by_cases hb : b = x
  · subst hb; rw [upd_same] at q; cases q; exact new
  · rw [upd_ne hb] at q
    by_cases hbe : b = e
    · have q' : H b = some (.own x) := by
        rcases he with z | z
        · exact absurd (hbe.trans z) hb
        · rw [hbe]; exact z
      rw [q] at q'; cases q'
      obtain ⟨v, hv⟩ := heo
      exact ⟨v, by rw [hbe]; exact hv⟩
    · refine (ok b u q).stay (fun c v hc r => k c v ?_ r) (fun c r => by rw [upd_ne (nown c b r)]; exact r) fun c xs r => by rw [upd_ne (ntup c xs r)]; exact r
      rcases hc with rfl | hc
      · exact hbe
      · rintro rfl
        rcases he with z | z
        · exact nown c b hc z
        · rw [hc] at z; cases z; exact hb rfl
end

/-! ### kept unless tracked; of the frames at fs (the callers') the slots may change (an exception that passes writes there); of the records at ex (iterators) nothing is said -/
structure Un (fs ex : List Addr) (H H' : Hp) (h h' : Heap) : Prop where
  keep : ∀ b o, h.get? b = some o → H b = none → b ∉ fs → b ∉ ex → h'.get? b = some o
  slot : ∀ b o, h.get? b = some o → H b = none → b ∈ fs → b ∉ ex → ∃ sl, h'.get? b = some { o with slots := sl }
  free : ∀ b o, h.get? b = some o → H b = none → b ∉ ex → H' b = none
  there : ∀ b o, h.get? b = some o → b ∉ ex → ∃ o', h'.get? b = some o'
  tups : ∀ b xs, H b = some (.tup xs) → H' b = some (.tup xs)
  frzs : ∀ b o u, H b = some (.frz o u) → H' b = some (.frz o u)
  tbls : ∀ b ps, H b = some (.tbl ps) → ∃ more, H' b = some (.tbl (ps ++ more))
section
variable {fs fs' ex ex' : List Addr} {H H1 H2 : Hp} {h h1 h2 h' : Heap} {a x e : Addr} {o : HO}
theorem Un.any (u : Un fs ex H H1 h h1) {b : Addr} {ob : Obj} (q : h.get? b = some ob) (n : H b = none) (hx : b ∉ ex) : ∃ sl, h1.get? b = some { ob with slots := sl } := by
  by_cases hb : b ∈ fs
  · exact u.slot b ob q n hb hx
  · exact ⟨ob.slots, u.keep b ob q n hb hx⟩
theorem Un.trans (a : Un fs ex H H1 h h1) (b : Un fs ex H1 H2 h1 h2) : Un fs ex H H2 h h2 where
  keep := fun c ob q n hc hx => b.keep c ob (a.keep c ob q n hc hx) (a.free c ob q n hx) hc hx
  slot := fun c ob q n hc hx => by
    obtain ⟨sl, e1⟩ := a.slot c ob q n hc hx
    obtain ⟨sl', e2⟩ := b.slot c _ e1 (a.free c ob q n hx) hc hx
    exact ⟨sl', e2⟩
  free := fun c ob q n hx => by
    obtain ⟨o', e1⟩ := a.there c ob q hx
    exact b.free c o' e1 (a.free c ob q n hx) hx
  there := fun c ob q hx => by
    obtain ⟨o', e1⟩ := a.there c ob q hx
    exact b.there c o' e1 hx
  tups := fun c xs q => b.tups c xs (a.tups c xs q)
  frzs := fun c ob xs q => b.frzs c ob xs (a.frzs c ob xs q)
  tbls := fun c ps q => by
    obtain ⟨m1, e1⟩ := a.tbls c ps q
    obtain ⟨m2, e2⟩ := b.tbls c _ e1
    exact ⟨m1 ++ m2, by rw [e2, Array.append_assoc]⟩
theorem Un.kept (k : ∀ b u, h.get? b = some u → h'.get? b = some u) : Un fs ex H H h h' :=
  ⟨fun b ob q _ _ _ => k b ob q, fun b ob q _ _ _ => ⟨ob.slots, k b ob q⟩, fun _ _ _ n _ => n, fun b ob q _ => ⟨ob, k b ob q⟩, fun _ _ q => q, fun _ _ _ q => q, fun _ ps q => ⟨#[], by rw [q]; simp⟩⟩
theorem Un.refl : Un fs ex H H h h := Un.kept fun _ _ q => q
theorem Un.laid (k : ∀ b u, h.get? b = some u → h'.get? b = some u) (hp : h.objs.size ≤ a) (hn : H a = none) : Un fs ex H (upd H a o) h h' where
  keep := fun b u q _ _ _ => k b u q
  slot := fun b u q _ _ _ => ⟨u.slots, k b u q⟩
  free := fun b u q n _ => by rw [upd_ne (Nat.ne_of_lt (Nat.lt_of_lt_of_le (Heap.lt_size q) hp))]; exact n
  there := fun b u q _ => ⟨u, k b u q⟩
  tups := fun b xs q => by rw [upd_ne (ne_of_none q hn)]; exact q
  frzs := fun b u xs q => by rw [upd_ne (ne_of_none q hn)]; exact q
  tbls := fun b ps q => ⟨#[], by rw [upd_ne (ne_of_none q hn), q]; simp⟩
theorem Un.write (mu : Mut (H x)) (he : e = x ∨ H e = some (.own x)) (k : ∀ b u, b ≠ e → h.get? b = some u → h'.get? b = some u) (heo : ∃ u, h'.get? e = some u) : Un fs ex H (upd H x o) h h' := by
  have hx : ∀ b, H b = none → b ≠ x := fun b n z => by subst z; rw [n] at mu; exact mu
  have hb : ∀ b, H b = none → b ≠ e := fun b n z => by
    subst z
    rcases he with r | r
    · exact hx b n r
    · rw [n] at r; cases r
  have hm : ∀ b u, H b = some u → ¬ Mut (some u) → b ≠ x := fun b u q nm z => by subst z; rw [q] at mu; exact nm mu
  refine ⟨fun b u q n _ _ => k b u (hb b n) q, fun b u q n _ _ => ⟨u.slots, k b u (hb b n) q⟩, fun b u q n _ => by rw [upd_ne (hx b n)]; exact n, fun b u q _ => ?_,
    fun b xs q => by rw [upd_ne (hm b _ q fun z => z)]; exact q, fun b u xs q => by rw [upd_ne (hm b _ q fun z => z)]; exact q, fun b ps q => ⟨#[], by rw [upd_ne (hm b _ q fun z => z), q]; simp⟩⟩
  by_cases hbe : b = e
  · subst hbe; exact heo
  · exact ⟨u, k b u hbe q⟩
theorem Un.mono (u : Un fs ex H H1 h h1) (hs : ∀ b ∈ fs, b ∈ fs') (hx : ∀ b ∈ ex, b ∈ ex') : Un fs' ex' H H1 h h1 :=
  ⟨fun b ob q n hb he => u.keep b ob q n (fun z => hb (hs b z)) fun z => he (hx b z), fun _ _ q n _ he => u.any q n fun z => he (hx _ z), fun b ob q n he => u.free b ob q n fun z => he (hx b z), fun b ob q he => u.there b ob q fun z => he (hx b z), u.tups, u.frzs, u.tbls⟩
end

/-! ### the heap without what is tracked -/
def trk (h : Heap) (H : Hp) : List Addr := (List.range h.objs.size).filter fun a => (H a).isSome
def hidT (h : Heap) (H : Hp) : Heap := PySem.W.hideAll h (trk h H)
theorem hidT_size (h : Heap) (H : Hp) : (hidT h H).objs.size = h.objs.size := PySem.W.hideAll_size _ _
theorem hidT_get {h : Heap} {H : Hp} {b : Addr} {o : Obj} (e : h.get? b = some o) (n : H b = none) : (hidT h H).get? b = some o :=
  PySem.W.hideAll_get _ e fun hm => by
    have q : (H b).isSome = true := (List.mem_filter.mp hm).2
    rw [n] at q; simp at q
theorem of_hidT {h : Heap} {H : Hp} {b : Addr} {o : Obj} (e : (hidT h H).get? b = some o) : h.get? b = some o ∧ H b = none := by
  have e' : h.get? b = some o := PySem.W.of_hideAll (trk h H) e
  refine ⟨e', ?_⟩
  cases q : H b with
  | none => rfl
  | some x =>
    have hm : b ∈ trk h H := List.mem_filter.mpr ⟨List.mem_range.mpr (Heap.lt_size e'), by simp [q]⟩
    have z : (hidT h H).get? b = none := PySem.W.hideAll_none (trk h H) hm
    rw [z] at e; cases e

/-! ### OpenK's ledger, filled with every new object but one -/
def allNews (g h : Heap) (L : Addr) : List (Addr × Obj) := (List.range h.objs.size).filterMap fun a => if a = L ∨ (g.get? a).isSome = true then none else (h.get? a).map fun o => (a, o)
theorem mem_allNews {g h : Heap} {L a : Addr} {o : Obj} (h1 : a ≠ L) (h2 : g.get? a = none) (h3 : h.get? a = some o) : (a, o) ∈ allNews g h L :=
  List.mem_filterMap.mpr ⟨a, List.mem_range.mpr (Heap.lt_size h3), by simp [h1, h2, h3]⟩
theorem of_mem_allNews {g h : Heap} {L : Addr} {p : Addr × Obj} (hp : p ∈ allNews g h L) : p.1 ≠ L ∧ g.get? p.1 = none ∧ h.get? p.1 = some p.2 := by
  obtain ⟨b, _, e⟩ := List.mem_filterMap.mp hp
  split at e
  · cases e
  · rename_i hn
    cases q : h.get? b with
    | none => rw [q] at e; simp at e
    | some u =>
      rw [q] at e
      simp only [Option.map_some, Option.some.injEq] at e
      subst e
      refine ⟨fun z => hn (.inl z), ?_, q⟩
      show g.get? b = none
      cases r : g.get? b with
      | none => rfl
      | some v => exact (hn (.inr (by simp [r]))).elim
def rest (g h : Heap) (L d : Addr) : List (Addr × Obj) := (allNews g h L).filter fun p => decide (p.1 ≠ d)
theorem rest_ne {g h : Heap} {L d : Addr} : ∀ p ∈ rest g h L d, p.1 ≠ d := fun p hp => of_decide_eq_true (List.mem_filter.mp hp).2
theorem mem_rest {g h : Heap} {L d a : Addr} {o : Obj} (h1 : a ≠ L) (h2 : g.get? a = none) (h3 : h.get? a = some o) (h4 : a ≠ d) : (a, o) ∈ rest g h L d :=
  List.mem_filter.mpr ⟨mem_allNews h1 h2 h3, decide_eq_true h4⟩
theorem news_all {g h : Heap} {L : Addr} : News g L h (allNews g h L) := fun p hp => let ⟨a, b, c⟩ := of_mem_allNews hp; ⟨c, a, b⟩
theorem news_at {g h : Heap} {L d : Addr} {o : Obj} (h1 : d ≠ L) (h2 : g.get? d = none) (h3 : h.get? d = some o) : News g L h ((d, o) :: rest g h L d) := fun p hp => by
  rcases List.mem_cons.mp hp with rfl | hp
  · exact ⟨h3, h1, h2⟩
  · exact news_all p (List.mem_filter.mp hp).1
/-- behind a rule that changed d alone: all else but the frame is kept -/
theorem kept_of_news {g h h' : Heap} {L d : Addr} {m : Str → Option Value} (k : ∀ b o, g.get? b = some o → h.get? b = some o) (F : Fr g L h' m) (N : News g L h' (rest g h L d)) :
    ∀ b o, b ≠ L → b ≠ d → h.get? b = some o → h'.get? b = some o := fun b o h1 h2 e => by
  cases q : g.get? b with
  | some u =>
    have := k b u q
    rw [e] at this; cases this
    exact F.keep b _ q
  | none => exact (N (b, o) (mem_rest h1 q e h2)).1
end L2

namespace L2
open PySem PySem.Spec PyProof.Rows

/-- the module's facts, over the base: the heap at the law's entry without what is tracked there -/
structure Mod (K : PySem.W.Frag) (mg : Str → Option Value) (base : Heap) : Prop where
  kin : K.In base
  glob : base.Ns mainGlobals mg
  blt : ∃ mb, base.Ns builtinsNs mb ∧ ∀ x : Str, x ≠ "__name__" → mb x = bootBuiltins x
  nolimit : base.NoLimit

/-- the context: a def's body (or a comprehension's block) running. base: fixed through the whole law; s₀, H₀: the entry; outer: the frames whose slots others may change (a def's callers); stack: all frames that run;
   ex: iterators that were made ahead of the entry and are walked here (a comprehension's); fn: the names whose cells were made at the entry (a def: all; a comprehension's block: its own); calm: not within an except suite; pn: pins that every state bears; xe: what is wanted of an exception that leaves the code -/
structure Cx where
  prog : Program
  w : World
  K : PySem.W.Frag
  mg : Str → Option Value
  base : Heap
  A : Around
  N : List Str
  s₀ : Shared
  H₀ : Hp
  env : Env
  outer : List Env
  stack : List Env
  ex : List Addr
  fn : Str → Bool
  calm : Bool
  pn : List (Addr × Obj)
  xe : Value → Shared → Prop
/-- the callers' frames -/
def frs (l : List Env) : List Addr := l.filterMap (·.frame)
abbrev Cx.fs (X : Cx) : List Addr := frs X.outer

def Vis (sc : Scope) (x : Str) : Prop := sc.names.lookup x = some .local ∨ sc.names.lookup x = some .cell ∨ sc.names.lookup x = some .free
def Loc (sc : Scope) (x : Str) : Prop := sc.names.lookup x = some .local ∨ sc.names.lookup x = some .cell
def Look (env : Env) (h : Heap) (m : Str → Option Value) (x : Str) (u : Value) : Prop :=
  (env.kindOf x = some .local ∧ m x = some u) ∨ ((env.kindOf x = some .cell ∨ env.kindOf x = some .free) ∧ ∃ c, env.cells.lookup x = some c ∧ h.IsCell c (some u))

structure Cx.Ok (X : Cx) : Prop where
  mod : Mod X.K X.mg X.base
  kind : X.env.scope.kind = .function
  glob : X.env.globals = mainGlobals
  blt : X.env.builtins = builtinsNs
  above : X.s₀.heap.objs.size ≤ X.env.locals
  inj : ∀ x y c, X.env.cells.lookup x = some c → X.env.cells.lookup y = some c → x = y
  has : ∀ x, (X.env.kindOf x = some .cell ∨ X.env.kindOf x = some .free) → ∃ c, X.env.cells.lookup x = some c
  cab : ∀ x c, X.fn x = true → X.env.cells.lookup x = some c → X.s₀.heap.objs.size ≤ c
  hd : X.calm = true → X.A.handled = none
  frames : X.A.frames = some X.stack
  stk : X.stack = X.outer ∨ (X.stack = X.env :: X.outer ∧ X.env.frame = some X.env.locals)
  exf : ∀ b ∈ X.ex, b ≠ X.env.locals ∧ ∀ x c, X.env.cells.lookup x = some c → c ≠ b
  bs : ∀ b o, X.base.get? b = some o → X.s₀.heap.get? b = some o ∧ X.H₀ b = none
  bsz : X.base.objs.size ≤ X.s₀.heap.objs.size
  noex : ∀ b o, X.base.get? b = some o → b ∉ X.ex
  exfs : ∀ b ∈ X.ex, b ∉ X.fs
  funs : X.s₀.heap.FunFrames X.base X.outer
  frf : ∀ b ∈ X.fs, X.H₀ b = none

structure Inv (X : Cx) (pins : List (Addr × Obj)) (σ : List (Option V)) (H : Hp) (s : Shared) : Prop where
  ok : X.Ok
  os : s.os = X.s₀.os
  bare : AllBare s.gens
  base : Un X.fs X.ex X.H₀ H X.s₀.heap s.heap
  loc : ∃ m, s.heap.Ns X.env.locals m ∧ ∀ (i : Nat) (x : Str) (v : V), X.N[i]? = some x → σ[i]? = some (some v) → Vis X.env.scope x → ∃ u, RelV v u ∧ Look X.env s.heap m x u
  cell : ∀ x c, X.env.cells.lookup x = some c → ∃ v, s.heap.IsCell c v
  free : H X.env.locals = none
  freeC : ∀ x c, X.env.cells.lookup x = some c → H c = none
  pin : ∀ p ∈ X.pn ++ pins, s.heap.get? p.1 = some p.2 ∧ H p.1 = none ∧ p.1 ≠ X.env.locals ∧ p.1 ∉ X.fs ∧ ∀ v, p.2.data ≠ .cell v
  hok : HOk X.prog X.w H s.heap
  len : σ.length = X.N.length

section
variable {X : Cx} {pins : List (Addr × Obj)} {σ : List (Option V)} {H H' : Hp} {s : Shared} {h' : Heap}

theorem Cx.Ok.nofr (ok : X.Ok) {b : Addr} {o : Obj} (e : X.base.get? b = some o) : b ∉ X.fs := fun hb => by
  have := (ok.funs.mem hb).1
  rw [e] at this; cases this
theorem Inv.bs (I : Inv X pins σ H s) : ∀ b o, X.base.get? b = some o → s.heap.get? b = some o ∧ H b = none := fun b o e =>
  ⟨I.base.keep b o (I.ok.bs b o e).1 (I.ok.bs b o e).2 (I.ok.nofr e) (I.ok.noex b o e), I.base.free b o (I.ok.bs b o e).1 (I.ok.bs b o e).2 (I.ok.noex b o e)⟩
theorem Inv.bk (I : Inv X pins σ H s) : ∀ b o, X.base.get? b = some o → s.heap.get? b = some o := fun b o e => (I.bs b o e).1
theorem Inv.mod (I : Inv X pins σ H s) : Mod X.K X.mg X.base := I.ok.mod
theorem Inv.kIn (I : Inv X pins σ H s) : X.K.In s.heap := I.ok.mod.kin.keeps I.bk
theorem Inv.nolimit (I : Inv X pins σ H s) : s.heap.NoLimit := I.ok.mod.nolimit.keeps I.bk
/-- the frame over the base: for OpenK's rules (K.In X.base is I.mod.kin) -/
theorem Inv.fr (I : Inv X pins σ H s) : ∃ m, Fr X.base X.env.locals s.heap m :=
  let ⟨m, hn, _⟩ := I.loc
  ⟨m, hn, I.bk, Nat.le_trans I.ok.bsz I.ok.above⟩
theorem Inv.lt (I : Inv X pins σ H s) : X.env.locals < s.heap.objs.size := let ⟨_, hn, _⟩ := I.loc; hn.lt
theorem Inv.sz (I : Inv X pins σ H s) : X.s₀.heap.objs.size ≤ s.heap.objs.size := Nat.le_trans I.ok.above (Nat.le_of_lt I.lt)
theorem Inv.nofs (I : Inv X pins σ H s) {a : Addr} (h : s.heap.objs.size ≤ a) : a ∉ X.fs := fun hb => by
  obtain ⟨_, o, ho, _⟩ := I.ok.funs.mem hb
  exact absurd (Nat.lt_of_lt_of_le (Heap.lt_size ho) (Nat.le_trans I.sz h)) (Nat.lt_irrefl _)
theorem Inv.cne (I : Inv X pins σ H s) : ∀ x c, X.env.cells.lookup x = some c → c ≠ X.env.locals := fun x c e z => by
  obtain ⟨v, o, ho, hd⟩ := I.cell x c e
  obtain ⟨m, ⟨o', es, ep, ho', hd', _⟩, _⟩ := I.loc
  rw [z, ho'] at ho; cases ho; rw [hd'] at hd; cases hd
theorem Inv.funs (I : Inv X pins σ H s) : s.heap.FunFrames X.base X.outer := by
  have all : ∀ (l : List Env), (∀ b ∈ frs l, b ∈ X.fs) → X.s₀.heap.FunFrames X.base l → s.heap.FunFrames X.base l := by
    intro l
    induction l with
    | nil => intro _ _; trivial
    | cons env r ih =>
      intro hs hl
      obtain ⟨hk, ⟨L, o, hf, hn, ho, hd⟩, hr⟩ := hl
      have hL : L ∈ X.fs := hs L (by unfold frs; rw [List.filterMap_cons, hf]; exact List.mem_cons_self)
      obtain ⟨sl, e⟩ := I.base.slot L o ho (I.ok.frf L hL) hL fun z => I.ok.exfs L z hL
      exact ⟨hk, ⟨L, _, hf, hn, e, hd⟩, ih (fun b hb => hs b (by unfold frs; rw [List.filterMap_cons, hf]; exact List.mem_cons_of_mem _ hb)) hr⟩
  exact all X.outer (fun _ hb => hb) I.ok.funs

/-- the frames that run, for a call -/
theorem Inv.stack (I : Inv X pins σ H s) : s.heap.FunFrames X.base X.stack := by
  rcases I.ok.stk with e | ⟨e, hf⟩
  · rw [e]; exact I.funs
  · rw [e]
    obtain ⟨m, hn, _⟩ := I.loc
    refine .cons (by rw [I.ok.kind]; decide) hf hn ?_ I.funs
    exact Heap.get?_none_of_le (Nat.le_trans I.ok.bsz I.ok.above)
theorem Inv.stkSub (I : Inv X pins σ H s) : ∀ b ∈ frs X.stack, b ∈ X.env.locals :: X.fs := fun b hb => by
  rcases I.ok.stk with e | ⟨e, hf⟩
  · rw [e] at hb; exact List.mem_cons_of_mem _ hb
  · rw [e] at hb
    unfold frs at hb
    rw [List.filterMap_cons, hf] at hb
    exact hb
theorem Inv.stkFree (I : Inv X pins σ H s) : ∀ b ∈ frs X.stack, H b = none := fun b hb => by
  rcases List.mem_cons.mp (I.stkSub b hb) with e | hb
  · rw [e]; exact I.free
  · obtain ⟨_, o, ho, _⟩ := I.ok.funs.mem hb
    exact I.base.free b o ho (I.ok.frf b hb) fun z => I.ok.exfs b z hb

/-- THE STEP: the untracked objects but the frame and the records at ch are kept (the callers' frames up to slots), the frame's map is kept, the new abstract heap is held -/
theorem Inv.step {g' : Array GenState} {t' : Nat} {d' : Drawn} {ch : List Addr} (I : Inv X pins σ H s)
    (hch : ∀ b ∈ ch, (b ∈ X.ex ∨ X.s₀.heap.objs.size ≤ b) ∧ b ≠ X.env.locals ∧ (∀ x c, X.env.cells.lookup x = some c → c ≠ b) ∧ ∀ p ∈ X.pn ++ pins, p.1 ≠ b)
    (keep : ∀ b o, b ≠ X.env.locals → b ∉ X.fs → b ∉ ch → s.heap.get? b = some o → H b = none → h'.get? b = some o)
    (slot : ∀ b o, b ≠ X.env.locals → b ∈ X.fs → b ∉ ch → s.heap.get? b = some o → H b = none → ∃ sl, h'.get? b = some { o with slots := sl }) (free : ∀ b o, b ∉ ch → s.heap.get? b = some o → H b = none → H' b = none)
    (there : ∀ b o, b ∉ ch → s.heap.get? b = some o → ∃ o', h'.get? b = some o')
    (tups : ∀ b xs, H b = some (.tup xs) → H' b = some (.tup xs)) (frzs : ∀ b o u, H b = some (.frz o u) → H' b = some (.frz o u)) (tbls : ∀ b ps, H b = some (.tbl ps) → ∃ more, H' b = some (.tbl (ps ++ more)))
    (ns : ∀ m, s.heap.Ns X.env.locals m → h'.Ns X.env.locals m) (hok : HOk X.prog X.w H' h') (hg : AllBare g') :
    Inv X pins σ H' { s with heap := h', gens := g', drawn := d', toks := t' } := by
  have neL : ∀ b o, X.s₀.heap.get? b = some o → b ≠ X.env.locals := fun b o e => Nat.ne_of_lt (Nat.lt_of_lt_of_le (Heap.lt_size e) I.ok.above)
  have neC : ∀ b o, X.s₀.heap.get? b = some o → b ∉ X.ex → b ∉ ch := fun b o e hx hb => by
    rcases (hch b hb).1 with z | z
    · exact hx z
    · exact absurd (Nat.lt_of_lt_of_le (Heap.lt_size e) z) (Nat.lt_irrefl _)
  have cellK : ∀ x c, X.env.cells.lookup x = some c → ∀ v, s.heap.IsCell c v → h'.IsCell c v := fun x c e v ⟨o, ho, hd⟩ => by
    have nch : c ∉ ch := fun z => (hch c z).2.2.1 x c e rfl
    by_cases hc : c ∈ X.fs
    · obtain ⟨sl, q⟩ := slot c o (I.cne x c e) hc nch ho (I.freeC x c e)
      exact ⟨_, q, hd⟩
    · exact ⟨o, keep c o (I.cne x c e) hc nch ho (I.freeC x c e), hd⟩
  refine ⟨I.ok, I.os, hg, ⟨fun b o e n hb hx => ?_, fun b o e n hb hx => ?_, fun b o e n hx => ?_, fun b o e hx => ?_, fun b xs e => tups b xs (I.base.tups b xs e), fun b o xs e => frzs b o xs (I.base.frzs b o xs e), fun b ps e => ?_⟩, ?_, fun x c e => ?_, ?_, fun x c e => ?_, fun p hp => ?_, hok, I.len⟩
  · exact keep b o (neL b o e) hb (neC b o e hx) (I.base.keep b o e n hb hx) (I.base.free b o e n hx)
  · obtain ⟨sl, e1⟩ := I.base.slot b o e n hb hx
    obtain ⟨sl', e2⟩ := slot b _ (neL b o e) hb (neC b o e hx) e1 (I.base.free b o e n hx)
    exact ⟨sl', e2⟩
  · obtain ⟨o', e1⟩ := I.base.there b o e hx
    exact free b o' (neC b o e hx) e1 (I.base.free b o e n hx)
  · obtain ⟨o', e1⟩ := I.base.there b o e hx
    exact there b o' (neC b o e hx) e1
  · obtain ⟨m1, e1⟩ := I.base.tbls b ps e
    obtain ⟨m2, e2⟩ := tbls b _ e1
    exact ⟨m1 ++ m2, by rw [e2, Array.append_assoc]⟩
  · obtain ⟨m, hn, hl⟩ := I.loc
    refine ⟨m, ns m hn, fun i x v e1 e2 e3 => ?_⟩
    obtain ⟨u, r, l⟩ := hl i x v e1 e2 e3
    refine ⟨u, r, ?_⟩
    rcases l with l | ⟨k, c, e, z⟩
    · exact .inl l
    · exact .inr ⟨k, c, e, cellK x c e _ z⟩
  · obtain ⟨v, z⟩ := I.cell x c e
    exact ⟨v, cellK x c e v z⟩
  · obtain ⟨m, ⟨o, _, _, ho, _⟩, _⟩ := I.loc
    exact free _ o (fun z => (hch _ z).2.1 rfl) ho I.free
  · obtain ⟨v, o, ho, hd⟩ := I.cell x c e
    exact free c o (fun z => (hch c z).2.2.1 x c e rfl) ho (I.freeC x c e)
  · obtain ⟨e, n, ne, nf, d⟩ := I.pin p hp
    have nch : p.1 ∉ ch := fun z => (hch p.1 z).2.2.2 p hp rfl
    exact ⟨keep p.1 p.2 ne nf nch e n, free p.1 p.2 nch e n, ne, nf, d⟩
/-- .. where the frame's own object is kept too -/
theorem Inv.un {t' : Nat} (I : Inv X pins σ H s) (u : Un X.fs [] H H' s.heap h') (hok : HOk X.prog X.w H' h') : Inv X pins σ H' { s with heap := h', toks := t' } := by
  obtain ⟨m, ⟨o, es, ep, ho, r⟩, _⟩ := id I.loc
  obtain ⟨sl, hL⟩ := u.any ho I.free (by simp)
  exact I.step (g' := s.gens) (d' := s.drawn) (ch := []) (fun _ z => nomatch z) (fun b o _ hb _ e n => u.keep b o e n hb (by simp)) (fun b o _ hb _ e n => u.slot b o e n hb (by simp)) (fun b o _ e n => u.free b o e n (by simp)) (fun b o _ e => u.there b o e (by simp)) u.tups u.frzs u.tbls (fun m' hm => by
    obtain ⟨o', es', ep', ho', r'⟩ := hm
    rw [ho] at ho'; cases ho'
    exact ⟨_, es', ep', hL, r'⟩) hok I.bare
/-- behind a call (or a comprehension's block): the slots of this frame may have changed too, the records at ch may have turned -/
theorem Inv.call {g' : Array GenState} {t' : Nat} {d' : Drawn} {ch : List Addr} (I : Inv X pins σ H s) (u : Un (frs X.stack) ch H H' s.heap h') (hok : HOk X.prog X.w H' h') (hg : AllBare g')
    (hch : ∀ b ∈ ch, (b ∈ X.ex ∨ X.s₀.heap.objs.size ≤ b) ∧ b ≠ X.env.locals ∧ (∀ x c, X.env.cells.lookup x = some c → c ≠ b) ∧ ∀ p ∈ X.pn ++ pins, p.1 ≠ b) :
    Inv X pins σ H' { s with heap := h', gens := g', drawn := d', toks := t' } := by
  obtain ⟨m, ⟨o, es, ep, ho, r⟩, _⟩ := id I.loc
  obtain ⟨sl, hL⟩ := u.any ho I.free fun z => (hch _ z).2.1 rfl
  exact I.step (ch := ch) hch (fun b o hL hb hc e n => u.keep b o e n (fun z => (List.mem_cons.mp (I.stkSub b z)).elim hL hb) hc) (fun b o _ _ hc e n => u.any e n hc) (fun b o hc e n => u.free b o e n hc) (fun b o hc e => u.there b o e hc) u.tups u.frzs u.tbls (fun m' hm => by
    obtain ⟨o', es', ep', ho', r'⟩ := hm
    rw [ho] at ho'; cases ho'
    exact ⟨_, es', ep', hL, r'⟩) hok hg
/-- an untracked record of ours (an iterator) has turned -/
theorem Inv.turned {t' : Nat} {it : Addr} (I : Inv X pins σ H s) (k : ∀ b o, b ≠ it → s.heap.get? b = some o → h'.get? b = some o) (hn : H it = none) (hL : it ≠ X.env.locals)
    (h1 : it ∈ X.ex ∨ X.s₀.heap.objs.size ≤ it) (h2 : ∀ x c, X.env.cells.lookup x = some c → c ≠ it) (h3 : ∀ p ∈ X.pn ++ pins, p.1 ≠ it) : Inv X pins σ H { s with heap := h', toks := t' } := by
  have nit : ∀ b u, H b = some u → b ≠ it := fun b u e z => by rw [z, hn] at e; cases e
  refine I.step (g' := s.gens) (d' := s.drawn) (ch := [it]) (fun b hb => ?_) (fun b o _ _ hc e _ => k b o (fun z => hc (by simp [z])) e) (fun b o _ _ hc e _ => ⟨o.slots, k b o (fun z => hc (by simp [z])) e⟩) (fun _ _ _ _ n => n)
    (fun b o hc e => ⟨o, k b o (fun z => hc (by simp [z])) e⟩) (fun _ _ e => e) (fun _ _ _ e => e) (fun b ps e => ⟨#[], by rw [e]; simp⟩) (fun m hm => ?_) (fun b u e => ?_) I.bare
  · have e : b = it := by simpa using hb
    subst e
    exact ⟨h1, hL, h2, h3⟩
  · obtain ⟨o, es, ep, ho, r⟩ := hm
    exact ⟨o, es, ep, k _ o (Ne.symm hL) ho, r⟩
  · refine (I.hok b u e).stay (fun c v hc q => k c v ?_ q) (fun _ q => q) fun _ _ q => q
    rcases hc with z | z
    · rw [z]; exact nit b u e
    · exact nit c _ z
theorem Inv.tok (I : Inv X pins σ H s) (t : Nat) : Inv X pins σ H { s with toks := t } := I.un (h' := s.heap) (t' := t) Un.refl I.hok
/-- all objects kept -/
theorem Inv.kept {t' : Nat} (I : Inv X pins σ H s) (k : ∀ b u, s.heap.get? b = some u → h'.get? b = some u) : Inv X pins σ H { s with heap := h', toks := t' } := I.un (Un.kept k) (I.hok.kept k)
/-- a new object laid and tracked -/
theorem Inv.laid {a : Addr} {o : HO} {t' : Nat} (I : Inv X pins σ H s) (k : ∀ b u, s.heap.get? b = some u → h'.get? b = some u) (hp : s.heap.objs.size ≤ a) (new : ObjOk X.prog X.w (upd H a o) h' a o) :
    Inv X pins σ (upd H a o) { s with heap := h', toks := t' } := I.un (Un.laid k hp (I.hok.fresh hp)) (I.hok.laid k hp new)
/-- an object written -/
theorem Inv.write {x e : Addr} {o : HO} {t' : Nat} (I : Inv X pins σ H s) (mu : Mut (H x)) (he : e = x ∨ H e = some (.own x)) (k : ∀ b u, b ≠ e → s.heap.get? b = some u → h'.get? b = some u) (heo : ∃ u, h'.get? e = some u)
    (new : ObjOk X.prog X.w (upd H x o) h' x o) : Inv X pins σ (upd H x o) { s with heap := h', toks := t' } := I.un (Un.write mu he k heo) (I.hok.write mu he k heo new)
/-- forgetting slots, pins -/
theorem Inv.weak {σ' : List (Option V)} (I : Inv X pins σ H s) (hl : σ'.length = σ.length) (w : ∀ (i : Nat) v, σ'[i]? = some (some v) → σ[i]? = some (some v)) : Inv X pins σ' H s :=
  ⟨I.ok, I.os, I.bare, I.base, let ⟨m, hn, hl'⟩ := I.loc; ⟨m, hn, fun i x v e1 e2 e3 => hl' i x v e1 (w i v e2) e3⟩, I.cell, I.free, I.freeC, I.pin, I.hok, hl.trans I.len⟩
theorem Inv.pins_of {pins' : List (Addr × Obj)} (I : Inv X pins σ H s) (h : ∀ p ∈ pins', s.heap.get? p.1 = some p.2 ∧ H p.1 = none ∧ p.1 ≠ X.env.locals ∧ p.1 ∉ X.fs ∧ ∀ v, p.2.data ≠ .cell v) : Inv X pins' σ H s :=
  ⟨I.ok, I.os, I.bare, I.base, I.loc, I.cell, I.free, I.freeC, fun p hp => (List.mem_append.mp hp).elim (fun z => I.pin p (List.mem_append_left _ z)) (h p), I.hok, I.len⟩

theorem nodup_ix {N : List Str} (hN : N.Nodup) {i j : Nat} {x : Str} (a : N[i]? = some x) (b : N[j]? = some x) : i = j := by
  obtain ⟨h1, e1⟩ := List.getElem?_eq_some_iff.mp a
  obtain ⟨h2, e2⟩ := List.getElem?_eq_some_iff.mp b
  exact (List.getElem_inj hN).mp (e1.trans e2.symm)

/-- a name is stored; what changed -/
theorem store_ok2 {M : Model} {A : Around} {E : Value → Shared → Prop} {i : Nat} {x : Str} {v : V} {u : Value} {Q : Unit → Shared → Prop} (I : Inv X pins σ H s) (hN : X.N.Nodup) (hi : X.N[i]? = some x) (hx : Loc X.env.scope x) (r : RelV v u)
    (h : ∀ s', Inv X pins (σ.set i (some v)) H s' → (∃ a, Heap.SameBut a s.heap s'.heap ∧ (a = X.env.locals ∨ X.env.cells.lookup x = some a)) → Q () s') (hf : X.fn x = true ∨ X.env.scope.names.lookup x = some .local := by first | exact .inl rfl | exact .inr rfl | assumption) : wpAny M A (storeName X.env x u) Q E s := by
  obtain ⟨m, hn, hl⟩ := id I.loc
  have hcls : (X.env.scope.kind == .class || (X.env.scope.kind == .module && X.env.locals != X.env.globals)) = false := by rw [I.ok.kind]; rfl
  have hiσ : i < σ.length := by rw [I.len]; exact (List.getElem?_eq_some_iff.mp hi).1
  have cne := I.cne
  have tracked : ∀ {a : Addr} {h' : Heap}, (∃ o, s.heap.get? a = some o ∧ H a = none) → Heap.SameBut a s.heap h' → HOk X.prog X.w H h' := fun {a h'} ha hs b ob e => by
    obtain ⟨_, _, hfree⟩ := ha
    refine (I.hok b ob e).stay (fun c w' hc q => (hs.2 c ?_).trans q) (fun _ q => q) fun _ _ q => q
    rintro rfl
    rcases hc with rfl | hc
    · rw [hfree] at e; cases e
    · rw [hfree] at hc; cases hc
  rcases hx with hk | hk
  · refine wpAny_storeName_local hk hn (fun h' hn' hs => ?_) hcls
    obtain ⟨oL, _, _, hoL, _⟩ := id hn
    refine h _ ⟨I.ok, I.os, I.bare, ⟨fun b o e n hb hx => ?_, fun b o e n hb hx => ?_, I.base.free, fun b o e hx => ?_, I.base.tups, I.base.frzs, I.base.tbls⟩, ⟨_, hn', fun j y v' e1 e2 e3 => ?_⟩, fun y c e => ?_, I.free, I.freeC, fun p hp => ?_, tracked ⟨oL, hoL, I.free⟩ hs, by simpa using I.len⟩ ⟨_, hs, .inl rfl⟩
    · exact (hs.2 b (Nat.ne_of_lt (Nat.lt_of_lt_of_le (Heap.lt_size e) I.ok.above))).trans (I.base.keep b o e n hb hx)
    · obtain ⟨sl, e1⟩ := I.base.slot b o e n hb hx
      exact ⟨sl, (hs.2 b (Nat.ne_of_lt (Nat.lt_of_lt_of_le (Heap.lt_size e) I.ok.above))).trans e1⟩
    · obtain ⟨o', e1⟩ := I.base.there b o e hx
      exact ⟨o', (hs.2 b (Nat.ne_of_lt (Nat.lt_of_lt_of_le (Heap.lt_size e) I.ok.above))).trans e1⟩
    · by_cases hj : j = i
      · subst hj
        rw [hi] at e1; cases e1
        rw [List.getElem?_set_self hiσ] at e2
        cases e2
        exact ⟨u, r, .inl ⟨hk, by simp⟩⟩
      · rw [List.getElem?_set_ne (Ne.symm hj)] at e2
        obtain ⟨u', r', q⟩ := hl j y v' e1 e2 e3
        refine ⟨u', r', ?_⟩
        rcases q with ⟨k, e⟩ | ⟨k, c, e, z⟩
        · refine .inl ⟨k, ?_⟩
          have : y ≠ x := fun e => hj (nodup_ix hN e1 (e ▸ hi))
          simp [this, e]
        · exact .inr ⟨k, c, e, z.sameBut hs (cne y c e)⟩
    · obtain ⟨w', z⟩ := I.cell y c e
      exact ⟨w', z.sameBut hs (cne y c e)⟩
    · obtain ⟨e, n, ne, nf, d⟩ := I.pin p hp
      exact ⟨(hs.2 p.1 ne).trans e, n, ne, nf, d⟩
  · have hfn : X.fn x = true := by
      rcases hf with z | z
      · exact z
      · rw [z] at hk; cases hk
    obtain ⟨c, hc⟩ := I.ok.has x (.inl hk)
    obtain ⟨w', z⟩ := I.cell x c hc
    refine wpAny_storeName_cell I.ok.kind hk hc z (fun h' hc' hs => ?_)
    obtain ⟨oc, hoc, hocd⟩ := id z
    refine h { s with heap := h' } ⟨I.ok, I.os, I.bare, ⟨fun b o e n hb hx => ?_, fun b o e n hb hx => ?_, I.base.free, fun b o e hx => ?_, I.base.tups, I.base.frzs, I.base.tbls⟩, ⟨m, hn.sameBut hs (Ne.symm (cne x c hc)), fun j y v' e1 e2 e3 => ?_⟩, fun y c' e => ?_, I.free, I.freeC, fun p hp => ?_, tracked ⟨oc, hoc, I.freeC x c hc⟩ hs, by simpa using I.len⟩ ⟨c, hs, .inr hc⟩
    · exact (hs.2 b (Nat.ne_of_lt (Nat.lt_of_lt_of_le (Heap.lt_size e) (I.ok.cab x c hfn hc)))).trans (I.base.keep b o e n hb hx)
    · obtain ⟨sl, e1⟩ := I.base.slot b o e n hb hx
      exact ⟨sl, (hs.2 b (Nat.ne_of_lt (Nat.lt_of_lt_of_le (Heap.lt_size e) (I.ok.cab x c hfn hc)))).trans e1⟩
    · obtain ⟨o', e1⟩ := I.base.there b o e hx
      exact ⟨o', (hs.2 b (Nat.ne_of_lt (Nat.lt_of_lt_of_le (Heap.lt_size e) (I.ok.cab x c hfn hc)))).trans e1⟩
    · by_cases hj : j = i
      · subst hj
        rw [hi] at e1; cases e1
        rw [List.getElem?_set_self hiσ] at e2
        cases e2
        exact ⟨u, r, .inr ⟨.inl hk, c, hc, hc'⟩⟩
      · rw [List.getElem?_set_ne (Ne.symm hj)] at e2
        obtain ⟨u', r', q⟩ := hl j y v' e1 e2 e3
        refine ⟨u', r', ?_⟩
        rcases q with q | ⟨k, c', e, z'⟩
        · exact .inl q
        · refine .inr ⟨k, c', e, z'.sameBut hs ?_⟩
          rintro rfl
          exact hj (nodup_ix hN e1 (I.ok.inj _ _ _ e hc ▸ hi))
    · by_cases hcc : c' = c
      · subst hcc; exact ⟨_, hc'⟩
      · obtain ⟨w2, z2⟩ := I.cell y c' e
        exact ⟨w2, z2.sameBut hs hcc⟩
    · obtain ⟨e, n, ne, nf, d⟩ := I.pin p hp
      refine ⟨(hs.2 p.1 ?_).trans e, n, ne, nf, d⟩
      intro q
      rw [q, hoc] at e
      have q' : oc = p.2 := Option.some.inj e
      exact d w' (by rw [← q']; exact hocd)
theorem store_ok {M : Model} {A : Around} {E : Value → Shared → Prop} {i : Nat} {x : Str} {v : V} {u : Value} {Q : Unit → Shared → Prop} (I : Inv X pins σ H s) (hN : X.N.Nodup) (hi : X.N[i]? = some x) (hx : Loc X.env.scope x) (r : RelV v u)
    (h : ∀ s', Inv X pins (σ.set i (some v)) H s' → Q () s') (hf : X.fn x = true ∨ X.env.scope.names.lookup x = some .local := by first | exact .inl rfl | exact .inr rfl | assumption) : wpAny M A (storeName X.env x u) Q E s :=
  store_ok2 I hN hi hx r (fun s' I' _ => h s' I') hf
/-- behind a call or a block, the state as it is -/
theorem Inv.call' {s' : Shared} {ch : List Addr} (I : Inv X pins σ H s) (ho : s'.os = s.os) (u : Un (frs X.stack) ch H H' s.heap s'.heap) (hok : HOk X.prog X.w H' s'.heap) (hg : AllBare s'.gens)
    (hch : ∀ b ∈ ch, (b ∈ X.ex ∨ X.s₀.heap.objs.size ≤ b) ∧ b ≠ X.env.locals ∧ (∀ x c, X.env.cells.lookup x = some c → c ≠ b) ∧ ∀ p ∈ X.pn ++ pins, p.1 ≠ b) : Inv X pins σ H' s' := by
  obtain ⟨h', g', d', t', o'⟩ := s'
  have e : o' = s.os := ho
  subst e
  exact I.call (g' := g') (t' := t') (d' := d') u hok hg hch
end

/-! ### the judgements -/
/-- an exception: its class, its own dict's address (where it has one), the abstract heap behind it -/
abbrev XK := Value → Option Addr → Hp → Prop
abbrev St := List (Option V)
abbrev VK := V → Hp → Prop
/-- an expression's reading; a test's; an argument list's -/
abbrev TE := St → Hp → VK → Prop
abbrev TT := St → Hp → (Bool → Hp → Prop) → Prop
abbrev TA := St → Hp → (List V → Hp → Prop) → Prop
/-- what is wanted behind a statement -/
structure Ends where
  nx : St → Hp → Prop
  rt : VK
  bk : St → Hp → Prop := fun _ _ => False
  ct : St → Hp → Prop := fun _ _ => False
abbrev TS := Ends → St → Hp → Prop

def EP (X : Cx) (pins : List (Addr × Obj)) (σ : St) (Q : VK) (u : Value) (s' : Shared) : Prop := ∃ v H', Inv X pins σ H' s' ∧ RelV v u ∧ Q v H'
def TP (X : Cx) (pins : List (Addr × Obj)) (σ : St) (Q : Bool → Hp → Prop) (b : Bool) (s' : Shared) : Prop := ∃ H', Inv X pins σ H' s' ∧ Q b H'
def AP (X : Cx) (pins : List (Addr × Obj)) (σ : St) (Q : List V → Hp → Prop) (us : List Value) (s' : Shared) : Prop := ∃ vs H', Inv X pins σ H' s' ∧ Vals vs us ∧ Q vs H'
def SP (X : Cx) (pins : List (Addr × Obj)) (D : Ends) (f : Flow) (s' : Shared) : Prop :=
  match f with
  | .next => ∃ σ' H', Inv X pins σ' H' s' ∧ D.nx σ' H'
  | .brk => ∃ σ' H', Inv X pins σ' H' s' ∧ D.bk σ' H'
  | .cont => ∃ σ' H', Inv X pins σ' H' s' ∧ D.ct σ' H'
  | .ret u => ∃ v σ' H', Inv X pins σ' H' s' ∧ RelV v u ∧ D.rt v H'

def PE (X : Cx) (e : Expr) (t : TE) : Prop :=
  ∀ (pins : List (Addr × Obj)) (s : Shared) (σ : St) (H : Hp) (Q : VK), Inv X pins σ H s → t σ H Q → wpAny (model X.prog X.w) X.A (eval e X.env) (EP X pins σ Q) X.xe s
def PT (X : Cx) (e : Expr) (t : TT) : Prop :=
  ∀ (pins : List (Addr × Obj)) (s : Shared) (σ : St) (H : Hp) (Q : Bool → Hp → Prop), Inv X pins σ H s → t σ H Q → wpAny (model X.prog X.w) X.A (isTrue e X.env (eval e X.env)) (TP X pins σ Q) X.xe s
/-- a test whatever its 'whole' is (and, or) -/
def PW (X : Cx) (e : Expr) (t : TT) : Prop :=
  ∀ (whole : Sem Value) (pins : List (Addr × Obj)) (s : Shared) (σ : St) (H : Hp) (Q : Bool → Hp → Prop), Inv X pins σ H s → t σ H Q → wpAny (model X.prog X.w) X.A (isTrue e X.env whole) (TP X pins σ Q) X.xe s
theorem PW.pt {X : Cx} {e : Expr} {t : TT} (h : PW X e t) : PT X e t := h _
/-- an argument list (no star), from the left -/
def PA (X : Cx) (es : List Expr) (t : TA) : Prop :=
  ∀ (pos : Pos) (pins : List (Addr × Obj)) (s : Shared) (σ : St) (H : Hp) (Q : List V → Hp → Prop), Inv X pins σ H s → t σ H Q → wpAny (model X.prog X.w) X.A (spliced (backTo pos (starEach es X.env))) (AP X pins σ Q) X.xe s
def PS (X : Cx) (st : Stmt) (t : TS) : Prop :=
  ∀ (pins : List (Addr × Obj)) (s : Shared) (σ : St) (H : Hp) (D : Ends), Inv X pins σ H s → t D σ H → wpAny (model X.prog X.w) X.A (exec st X.env) (SP X pins D) X.xe s
def PSs (X : Cx) (st : List Stmt) (t : TS) : Prop :=
  ∀ (pins : List (Addr × Obj)) (s : Shared) (σ : St) (H : Hp) (D : Ends), Inv X pins σ H s → t D σ H → wpAny (model X.prog X.w) X.A (execs st X.env) (SP X pins D) X.xe s
/-- weaken the end -/
theorem thn {α : Type} {t : Sem α} {Q Q' : α → Shared → Prop} {M : Model} {A : Around} {E : Value → Shared → Prop} {s : Shared} (h : wpAny M A t Q E s) (hQ : ∀ a s, Q a s → Q' a s) : wpAny M A t Q' E s := wpAny_mono h hQ fun _ _ x => x
end L2

namespace L2
open PySem PySem.Spec PyProof.Rows
section
variable {X : Cx}

/-- two expressions in a row -/
theorem bin {a b : Expr} {ta tb : TE} (ha : PE X a ta) (hb : PE X b tb) {pins : List (Addr × Obj)} {s : Shared} {σ : St} {H : Hp} {R : V → V → Hp → Prop} (I : Inv X pins σ H s) (h : ta σ H fun x H1 => tb σ H1 fun y H2 => R x y H2)
    {α : Type} {Q : α → Shared → Prop} {f : Value → Value → Sem α}
    (hf : ∀ v u s2 x y H2, Inv X pins σ H2 s2 → RelV x v → RelV y u → R x y H2 → wpAny (model X.prog X.w) X.A (f v u) Q X.xe s2) :
    wpAny (model X.prog X.w) X.A (eval a X.env) (fun v s₁ => wpAny (model X.prog X.w) X.A (eval b X.env) (fun u s₂ => wpAny (model X.prog X.w) X.A (f v u) Q X.xe s₂) X.xe s₁) X.xe s := by
  refine thn (ha pins s σ H _ I h) fun v s1 ⟨x, H1, I1, r1, q1⟩ => ?_
  refine thn (hb pins s1 σ H1 _ I1 q1) fun u s2 ⟨y, H2, I2, r2, q2⟩ => ?_
  exact hf v u s2 x y H2 I2 r1 r2 q2

/-! ### names and constants -/
def tVar (i : Nat) : TE := fun σ H Q => ∃ v, σ[i]? = some (some v) ∧ Q v H
def tC (v : V) : TE := fun _ H Q => Q v H
theorem pe_var {i : Nat} {x : Str} {pos : Pos} (hN : X.N[i]? = some x) (hv : Vis X.env.scope x) (hd : (x == ("__debug__" : Str)) = false := by decide) (hcd : (x == ("__classdict__" : Str)) = false := by decide) : PE X (.Name x pos) (tVar i) := by
  intro pins s σ H Q I h
  obtain ⟨v, e, h⟩ := h
  obtain ⟨m, hn, hl⟩ := I.loc
  obtain ⟨u, r, l⟩ := hl i x v hN e hv
  have fin : EP X pins σ Q u s := ⟨v, H, I, r, h⟩
  rcases l with ⟨hk, hm⟩ | ⟨hk, c, hc, hcell⟩
  · exact wpAny_Name (wpAny_loadName_local I.ok.kind hk hn hm fin) hd
  · rcases hk with hk | hk
    · exact wpAny_Name (wpAny_loadName_cell I.ok.kind hk hc hcell fin) hd
    · exact wpAny_Name (wpAny_loadName_free I.ok.kind hk hc hcell fin hcd) hd
theorem pe_int {i j pos} : PE X (.Constant (.int i) j pos) (tC (.int i)) := fun _ _ _ H _ I h => wpAny_Constant_int ⟨.int i, H, I.tok _, ⟨_, rfl⟩, h⟩
theorem pe_bl {b j pos} : PE X (.Constant (.bool b) j pos) (tC (.bl b)) := fun _ _ _ H _ I h => Constant_bool ⟨.bl b, H, I, rfl, h⟩
theorem pe_non {j pos} : PE X (.Constant .none j pos) (tC .non) := fun _ _ _ H _ I h => Constant_none ⟨.non, H, I, rfl, h⟩
theorem pe_str {x j pos} : PE X (.Constant (.str x) j pos) (tC (.str x)) := fun _ _ _ H _ I h => Calls.Constant_str ⟨.str x, H, I.tok _, ⟨_, rfl⟩, h⟩

/-- a global name of the def -/
def Gl (X : Cx) (x : Str) : Prop := X.env.kindOf x = some .globalImplicit
theorem ld_glob {E : Value → Shared → Prop} {pins : List (Addr × Obj)} {s : Shared} {σ : St} {H : Hp} {x : Str} {u : Value} {pos : Pos} {Q : Value → Shared → Prop} (I : Inv X pins σ H s) (hg : Gl X x) (hm : X.mg x = some u) (h : Q u s)
    (hd : (x == ("__debug__" : Str)) = false := by decide) : wpAny (model X.prog X.w) X.A (eval (.Name x pos) X.env) Q E s :=
  Calls.Name_function_global I.ok.kind hg (Calls.loadGlobal_global (by rw [I.ok.glob]; exact I.mod.glob.keeps I.bk) hm h) hd
theorem ld_blt {E : Value → Shared → Prop} {pins : List (Addr × Obj)} {s : Shared} {σ : St} {H : Hp} {x : Str} {u : Value} {pos : Pos} {Q : Value → Shared → Prop} (I : Inv X pins σ H s) (hg : Gl X x) (hm : X.mg x = none) (hv : bootBuiltins x = some u) (h : Q u s)
    (hn : x ≠ "__name__" := by decide) (hd : (x == ("__debug__" : Str)) = false := by decide) : wpAny (model X.prog X.w) X.A (eval (.Name x pos) X.env) Q E s := by
  obtain ⟨mb, h1, h2⟩ := I.mod.blt
  exact Calls.Name_function_global I.ok.kind hg (Calls.loadGlobal_builtin (by rw [I.ok.glob]; exact I.mod.glob.keeps I.bk) hm (by rw [I.ok.blt]; exact h1.keeps I.bk) ((h2 x hn).trans hv) h) hd
/-- a module's constant, a class, a function, as a value -/
theorem pe_glob {x : Str} {v : V} {u : Value} {pos : Pos} (hg : Gl X x) (hm : X.mg x = some u) (r : RelV v u) (hd : (x == ("__debug__" : Str)) = false := by decide) : PE X (.Name x pos) (tC v) :=
  fun _ _ _ H _ I h => ld_glob I hg hm ⟨v, H, I, r, h⟩ hd
theorem pe_bltn {x : Str} {v : V} {u : Value} {pos : Pos} (hg : Gl X x) (hm : X.mg x = none) (hv : bootBuiltins x = some u) (r : RelV v u) (hn : x ≠ "__name__" := by decide) (hd : (x == ("__debug__" : Str)) = false := by decide) : PE X (.Name x pos) (tC v) :=
  fun _ _ _ H _ I h => ld_blt I hg hm hv ⟨v, H, I, r, h⟩ hn hd

/-! ### arithmetic -/
/-- two ints -/
def t2I (ta tb : TE) (k : Int → Int → Hp → Prop) : St → Hp → Prop := fun σ H => ta σ H fun x H1 => tb σ H1 fun y H2 => ∃ i j, x = .int i ∧ y = .int j ∧ k i j H2
def tAdd (ta tb : TE) : TE := fun σ H Q => t2I ta tb (fun i j H2 => Q (.int (i + j)) H2) σ H
def tSub (ta tb : TE) : TE := fun σ H Q => t2I ta tb (fun i j H2 => Q (.int (i - j)) H2) σ H
/-- the left factor below 2^64 -/
def tMul (ta tb : TE) : TE := fun σ H Q => t2I ta tb (fun i j H2 => (-(2 ^ 64) < i ∧ i < 2 ^ 64) ∧ Q (.int (i * j)) H2) σ H
variable {a b : Expr} {ta tb : TE} {pos : Pos}
theorem pe_add (ha : PE X a ta) (hb : PE X b tb) : PE X (.BinOp a .Add b pos) (tAdd ta tb) := by
  intro pins s σ H Q I h
  refine wpAny_BinOp (bin ha hb I h fun v u s2 x y H2 I2 rx ry q => ?_)
  obtain ⟨i, j, rfl, rfl, q⟩ := q
  obtain ⟨t, rfl⟩ := rx
  obtain ⟨t', rfl⟩ := ry
  exact add_int ⟨.int _, H2, I2.tok _, ⟨_, rfl⟩, q⟩
theorem pe_sub (ha : PE X a ta) (hb : PE X b tb) : PE X (.BinOp a .Sub b pos) (tSub ta tb) := by
  intro pins s σ H Q I h
  refine wpAny_BinOp (bin ha hb I h fun v u s2 x y H2 I2 rx ry q => ?_)
  obtain ⟨i, j, rfl, rfl, q⟩ := q
  obtain ⟨t, rfl⟩ := rx
  obtain ⟨t', rfl⟩ := ry
  exact sub_int ⟨.int _, H2, I2.tok _, ⟨_, rfl⟩, q⟩
theorem pe_mul (ha : PE X a ta) (hb : PE X b tb) : PE X (.BinOp a .Mult b pos) (tMul ta tb) := by
  intro pins s σ H Q I h
  refine wpAny_BinOp (bin ha hb I h fun v u s2 x y H2 I2 rx ry q => ?_)
  obtain ⟨i, j, rfl, rfl, ⟨q1, q2⟩, q⟩ := q
  obtain ⟨t, rfl⟩ := rx
  obtain ⟨t', rfl⟩ := ry
  exact mul_int ⟨.int _, H2, I2.tok _, ⟨_, rfl⟩, q⟩ (.of_left (intBits_le_64 q1 q2))

/-! ### comparisons -/
def PC (X : Cx) (op : CmpOp) (a b : Expr) (t : TE) : Prop :=
  ∀ (pins : List (Addr × Obj)) (s : Shared) (σ : St) (H : Hp) (Q : VK), Inv X pins σ H s → t σ H Q →
    wpAny (model X.prog X.w) X.A (eval a X.env) (fun v s₁ => wpAny (model X.prog X.w) X.A (eval b X.env) (fun u s₂ => wpAny (model X.prog X.w) X.A (compareOp op v u) (EP X pins σ Q) X.xe s₂) X.xe s₁) X.xe s
theorem nobehind (b : Expr) {op : CmpOp} (h : op ≠ .In) (h2 : op ≠ .NotIn) : behindInMarks op b = false := by
  have e1 : (op == CmpOp.In) = false := by cases op <;> first | rfl | exact absurd rfl h
  have e2 : (op == CmpOp.NotIn) = false := by cases op <;> first | rfl | exact absurd rfl h2
  cases b <;> simp [behindInMarks, e1, e2]
def tCmp (p : Int → Int → Bool) (ta tb : TE) : TE := fun σ H Q => t2I ta tb (fun i j H2 => Q (.bl (p i j)) H2) σ H
abbrev tLt : TE → TE → TE := tCmp fun i j => decide (i < j)
abbrev tLe : TE → TE → TE := tCmp fun i j => decide (i ≤ j)
abbrev tGt : TE → TE → TE := tCmp fun i j => decide (j < i)
abbrev tGe : TE → TE → TE := tCmp fun i j => decide (j ≤ i)
abbrev tEqI : TE → TE → TE := tCmp fun i j => decide (i = j)
abbrev tNeI : TE → TE → TE := tCmp fun i j => !decide (i = j)
/-- a comparison of two ints, by its rule -/
theorem pc_int {op : CmpOp} {p : Int → Int → Bool} (ha : PE X a ta) (hb : PE X b tb)
    (rule : ∀ (i j : Int) (t u : Tok) (Q : Value → Shared → Prop) (s : Shared), Q (.bool (p i j)) s → wpAny (model X.prog X.w) X.A (compareOp op (.int i t) (.int j u)) Q X.xe s) : PC X op a b (tCmp p ta tb) := by
  intro pins s σ H Q I h
  refine bin ha hb I h fun v u s2 x y H2 I2 rx ry q => ?_
  obtain ⟨i, j, rfl, rfl, q⟩ := q
  obtain ⟨t, rfl⟩ := rx
  obtain ⟨t', rfl⟩ := ry
  exact rule i j t t' _ s2 ⟨.bl _, H2, I2, rfl, q⟩
theorem pc_lt (ha : PE X a ta) (hb : PE X b tb) : PC X .Lt a b (tLt ta tb) := pc_int ha hb fun _ _ _ _ _ _ h => lt_int h
theorem pc_le (ha : PE X a ta) (hb : PE X b tb) : PC X .LtE a b (tLe ta tb) := pc_int ha hb fun _ _ _ _ _ _ h => le_int h
theorem pc_gt (ha : PE X a ta) (hb : PE X b tb) : PC X .Gt a b (tGt ta tb) := pc_int ha hb fun _ _ _ _ _ _ h => gt_int h
theorem pc_ge (ha : PE X a ta) (hb : PE X b tb) : PC X .GtE a b (tGe ta tb) := pc_int ha hb fun _ _ _ _ _ _ h => ge_int h
theorem pc_eqI (ha : PE X a ta) (hb : PE X b tb) : PC X .Eq a b (tEqI ta tb) := pc_int ha hb fun _ _ _ _ _ _ h => eq_int (by rw [Bool.beq_eq_decide_eq]; exact h)
theorem pc_neI (ha : PE X a ta) (hb : PE X b tb) : PC X .NotEq a b (tNeI ta tb) := pc_int ha hb fun _ _ _ _ _ _ h => ne_int (by rw [bne, Bool.beq_eq_decide_eq]; exact h)
/-- is None -/
def tIsN (ta : TE) : TE := fun σ H Q => ta σ H fun x H1 => Q (.bl (decide (x = .non))) H1
def tNotN (ta : TE) : TE := fun σ H Q => ta σ H fun x H1 => Q (.bl (!decide (x = .non))) H1
theorem RelV.none_iff {x : V} {v : Value} (r : RelV x v) : (v == Value.none) = decide (x = .non) := by
  cases x with
  | non => cases r; rfl
  | bl _ => cases r; rfl
  | int _ => obtain ⟨t, rfl⟩ := r; rfl
  | str _ => obtain ⟨t, rfl⟩ := r; rfl
  | byt _ => obtain ⟨t, rfl⟩ := r; rfl
  | flt _ => obtain ⟨t, rfl⟩ := r; rfl
  | ref _ => cases r; rfl
  | ty _ => cases r; rfl
theorem pc_isN {j pos'} (ha : PE X a ta) : PC X .Is a (.Constant .none j pos') (tIsN ta) := by
  intro pins s σ H Q I h
  refine thn (ha pins s σ H _ I h) fun v s1 ⟨x, H1, I1, r1, q1⟩ => ?_
  exact Constant_none (is_none_gen ⟨.bl _, H1, I1, by rw [r1.none_iff]; rfl, q1⟩)
theorem pc_notN {j pos'} (ha : PE X a ta) : PC X .IsNot a (.Constant .none j pos') (tNotN ta) := by
  intro pins s σ H Q I h
  refine thn (ha pins s σ H _ I h) fun v s1 ⟨x, H1, I1, r1, q1⟩ => ?_
  exact Constant_none (isnot_none_gen ⟨.bl _, H1, I1, by rw [r1.none_iff]; rfl, q1⟩)
/-- a comparison as a value, as a test -/
def tB (t : TE) : TT := fun σ H Q => t σ H fun x H1 => ∃ c, x = .bl c ∧ Q c H1
theorem pe_cmp {op : CmpOp} {t : TE} (h : PC X op a b t) (h1 : behindInMarks op b = false := by first | exact nobehind _ (by decide) (by decide) | rfl) : PE X (.Compare a [op] [b] pos) t := fun pins s σ H Q I hw => wpAny_Compare1 (h pins s σ H Q I hw) h1
theorem pt_cmp {op : CmpOp} {t : TE} (h : PC X op a b t) (h1 : behindInMarks op b = false := by first | exact nobehind _ (by decide) (by decide) | rfl) : PT X (.Compare a [op] [b] pos) (tB t) := by
  intro pins s σ H Q I hw
  refine wpAny_isTrue_Compare1 (thn (h pins s σ H _ I hw) fun v s1 h1 => thn h1 fun u s2 h2 => thn h2 fun c s3 ⟨x, H1, I1, r1, q1⟩ => ?_) h1
  obtain ⟨d, rfl, q⟩ := q1
  cases r1
  exact wpAny_truthy_bool ⟨H1, I1, q⟩
/-- an expression whose value is a bool, as a test -/
theorem pt_val {e : Expr} {t : TE} (h : PE X e t) (he : ∀ whole, isTrue e X.env whole = (do let v ← whole; standAt e.pos; holding [v] (truthy v)) := by intro _; rfl) : PT X e (tB t) := by
  intro pins s σ H Q I hw
  refine isTrue_plain (thn (h pins s σ H _ I hw) fun v s1 ⟨x, H1, I1, r1, q1⟩ => ?_) (he _)
  obtain ⟨d, rfl, q⟩ := q1
  cases r1
  exact wpAny_truthy_bool ⟨H1, I1, q⟩

/-! ### and, or, not -/
variable {tA tB' : TT} {rest : List Expr}
def tAnd (t u : TT) : TT := fun σ H Q => t σ H fun c H1 => if c = true then u σ H1 Q else Q false H1
def tOr (t u : TT) : TT := fun σ H Q => t σ H fun c H1 => if c = true then Q true H1 else u σ H1 Q
def tNot (t : TT) : TT := fun σ H Q => t σ H fun c H1 => Q (!c) H1
theorem pw_and1 (ha : PT X a tA) : PW X (.BoolOp .And [a] pos) tA := by
  intro wh pins s σ H Q I h
  refine isTrue_and (thn (ha pins s σ H Q I h) fun c s1 e => ?_)
  cases c with
  | true => exact isTrue_and_nil e
  | false => exact e
theorem pw_or1 (ha : PT X a tA) : PW X (.BoolOp .Or [a] pos) tA := by
  intro wh pins s σ H Q I h
  refine isTrue_or (thn (ha pins s σ H Q I h) fun c s1 e => ?_)
  cases c with
  | false => exact isTrue_or_nil e
  | true => exact e
theorem pw_and (ha : PT X a tA) (hb : PW X (.BoolOp .And (b :: rest) pos) tB') : PW X (.BoolOp .And (a :: b :: rest) pos) (tAnd tA tB') := by
  intro wh pins s σ H Q I h
  refine isTrue_and (thn (ha pins s σ H _ I h) fun c s1 ⟨H1, I1, q1⟩ => ?_)
  cases c with
  | true => exact hb wh pins s1 σ H1 Q I1 q1
  | false => exact ⟨H1, I1, q1⟩
theorem pw_or (ha : PT X a tA) (hb : PW X (.BoolOp .Or (b :: rest) pos) tB') : PW X (.BoolOp .Or (a :: b :: rest) pos) (tOr tA tB') := by
  intro wh pins s σ H Q I h
  refine isTrue_or (thn (ha pins s σ H _ I h) fun c s1 ⟨H1, I1, q1⟩ => ?_)
  cases c with
  | true => exact ⟨H1, I1, q1⟩
  | false => exact hb wh pins s1 σ H1 Q I1 q1
theorem pt_not (ha : PT X a tA) : PT X (.UnaryOp .Not a pos) (tNot tA) := by
  intro pins s σ H Q I h
  exact isTrue_not (ha pins s σ H (fun c H1 => Q (!c) H1) I h)
/-- .. as values (bools) -/
def tAndV (ta tb : TE) : TE := fun σ H Q => ta σ H fun x H1 => ∃ c, x = .bl c ∧ if c = true then tb σ H1 Q else Q (.bl false) H1
def tOrV (ta tb : TE) : TE := fun σ H Q => ta σ H fun x H1 => ∃ c, x = .bl c ∧ if c = true then Q (.bl true) H1 else tb σ H1 Q
def tNotV (ta : TE) : TE := fun σ H Q => ta σ H fun x H1 => ∃ c, x = .bl c ∧ Q (.bl (!c)) H1
theorem pe_one {op} {t : TE} (h : PE X a t) : PE X (.BoolOp op [a] pos) t := fun pins s σ H Q I hw => BoolOp_one (h pins s σ H Q I hw)
theorem pe_and (ha : PE X a ta) (hb : PE X (.BoolOp .And (b :: rest) pos) tb) : PE X (.BoolOp .And (a :: b :: rest) pos) (tAndV ta tb) := by
  intro pins s σ H Q I h
  refine BoolOp_and (thn (ha pins s σ H _ I h) fun v s1 ⟨x, H1, I1, r1, q1⟩ => ?_)
  obtain ⟨c, rfl, q1⟩ := q1
  cases r1
  refine wpAny_truthy_bool ?_
  cases c with
  | true => exact hb pins s1 σ H1 Q I1 q1
  | false => exact ⟨.bl false, H1, I1, rfl, q1⟩
theorem pe_or (ha : PE X a ta) (hb : PE X (.BoolOp .Or (b :: rest) pos) tb) : PE X (.BoolOp .Or (a :: b :: rest) pos) (tOrV ta tb) := by
  intro pins s σ H Q I h
  refine BoolOp_or (thn (ha pins s σ H _ I h) fun v s1 ⟨x, H1, I1, r1, q1⟩ => ?_)
  obtain ⟨c, rfl, q1⟩ := q1
  cases r1
  refine wpAny_truthy_bool ?_
  cases c with
  | false => exact hb pins s1 σ H1 Q I1 q1
  | true => exact ⟨.bl true, H1, I1, rfl, q1⟩
theorem pe_not (ha : PE X a ta) : PE X (.UnaryOp .Not a pos) (tNotV ta) := by
  intro pins s σ H Q I h
  refine UnaryOp_ (thn (ha pins s σ H _ I h) fun v s1 ⟨x, H1, I1, r1, q1⟩ => ?_)
  obtain ⟨c, rfl, q1⟩ := q1
  cases r1
  exact not_of (wpAny_truthy_bool ⟨.bl (!c), H1, I1, rfl, q1⟩)
/-- a if t else b -/
def tIf (t : TT) (ta tb : TE) : TE := fun σ H Q => t σ H fun c H1 => if c = true then ta σ H1 Q else tb σ H1 Q
theorem pe_ifExp {c : Expr} (hc : PT X c tA) (ha : PE X a ta) (hb : PE X b tb) : PE X (.IfExp c a b pos) (tIf tA ta tb) := by
  intro pins s σ H Q I h
  refine wpAny_IfExp (thn (hc pins s σ H _ I h) fun d s1 ⟨H1, I1, q1⟩ => ?_)
  cases d with
  | true => exact ha pins s1 σ H1 Q I1 q1
  | false => exact hb pins s1 σ H1 Q I1 q1
end
end L2

namespace L2
open PySem PySem.Spec PyProof.Rows

/-! ### a list, a tuple that is read: tracked, frozen, or an object of the module -/
def SqL (K : PySem.W.Frag) (H : Hp) (a : Addr) (xs : List V) : Prop :=
  Rd H a (.lst xs) ∨
    ∃ (o : Obj) (its : Array Value) (n : Nat), K.lookup a = some o ∧ o.cls = .type "list" ∧ o.dict = none ∧ o.data = .seq its n ∧ its.size ≤ sizeLine ∧ Vals xs its.toList
def SqT (K : PySem.W.Frag) (H : Hp) (a : Addr) (xs : List V) : Prop :=
  Rd H a (.tup xs) ∨
    ∃ (o : Obj) (its : Array Value) (n : Nat), K.lookup a = some o ∧ o.cls = .type "tuple" ∧ o.data = .seq its n ∧ its.size ≤ sizeLine ∧ Vals xs its.toList
def absV : Value → Option V
  | .none => some .non
  | .bool b => some (.bl b)
  | .int i _ => some (.int i)
  | .str x _ => some (.str x)
  | .bytes b _ => some (.byt b)
  | .float b _ => some (.flt b)
  | .ref a => some (.ref a)
  | .type n => some (.ty n)
  | _ => none
theorem RelV.abs {x : V} {u : Value} (r : RelV x u) : absV u = some x := by
  cases x with
  | non => cases r; rfl
  | bl _ => cases r; rfl
  | int _ => obtain ⟨t, rfl⟩ := r; rfl
  | str _ => obtain ⟨t, rfl⟩ := r; rfl
  | byt _ => obtain ⟨t, rfl⟩ := r; rfl
  | flt _ => obtain ⟨t, rfl⟩ := r; rfl
  | ref _ => cases r; rfl
  | ty _ => cases r; rfl
theorem RelV.inj {x y : V} {u : Value} (r : RelV x u) (q : RelV y u) : x = y := Option.some.inj (r.abs.symm.trans q.abs)
theorem Vals.inj : ∀ {xs ys : List V} {us : List Value}, Vals xs us → Vals ys us → xs = ys
  | _, _, _, .nil, .nil => rfl
  | _, _, _, .cons r t, .cons r' t' => by rw [r.inj r', Vals.inj t t']
section
variable {X : Cx} {pins : List (Addr × Obj)} {σ : St} {H : Hp} {s : Shared} {a : Addr} {xs ys : List V}
theorem SqL.of {K : PySem.W.Frag} (h : H a = some (.lst xs)) : SqL K H a xs := .inl (.inl h)
theorem SqT.of {K : PySem.W.Frag} (h : H a = some (.tup xs)) : SqT K H a xs := .inl (.inl h)
theorem Inv.list (I : Inv X pins σ H s) (h : SqL X.K H a xs) : ∃ its : List Value, Vals xs its ∧ PlainL s.heap a its.toArray ∧ xs.length ≤ sizeLine := by
  rcases h with h | ⟨o, its, n, hk, hc, hd, hs, hz, r⟩
  · obtain ⟨z, its, n, r, e⟩ := h.ok I.hok
    exact ⟨its, r, ⟨_, n, e, rfl, rfl, rfl⟩, z⟩
  · refine ⟨its.toList, r, ⟨o, n, I.kIn a o hk, hc, hd, by simpa using hs⟩, ?_⟩
    have e := r.length
    simp only [Array.length_toList] at e
    omega
theorem Inv.tuple (I : Inv X pins σ H s) (h : SqT X.K H a xs) : ∃ its : List Value, Vals xs its ∧ IsTup s.heap a its.toArray ∧ xs.length ≤ sizeLine := by
  rcases h with h | ⟨o, its, n, hk, hc, hs, hz, r⟩
  · obtain ⟨z, its, r, p⟩ := h.ok I.hok
    exact ⟨its, r, p, z⟩
  · refine ⟨its.toList, r, ⟨o, I.kIn a o hk, hc, n, by simpa using hs⟩, ?_⟩
    have e := r.length
    simp only [Array.length_toList] at e
    omega
theorem Inv.list_inj (I : Inv X pins σ H s) (h : SqL X.K H a xs) (h' : SqL X.K H a ys) : xs = ys := by
  obtain ⟨its, r, ⟨o, n, e, _, _, d⟩, _⟩ := I.list h
  obtain ⟨its', r', ⟨o', n', e', _, _, d'⟩, _⟩ := I.list h'
  rw [e] at e'; cases e'
  rw [d] at d'
  injection d' with d1 _
  have : its = its' := by simpa using congrArg Array.toList d1
  subst this
  exact r.inj r'
theorem Inv.tuple_inj (I : Inv X pins σ H s) (h : SqT X.K H a xs) (h' : SqT X.K H a ys) : xs = ys := by
  obtain ⟨its, r, ⟨o, e, _, n, d⟩, _⟩ := I.tuple h
  obtain ⟨its', r', ⟨o', e', _, n', d'⟩, _⟩ := I.tuple h'
  rw [e] at e'; cases e'
  rw [d] at d'
  injection d' with d1 _
  have : its = its' := by simpa using congrArg Array.toList d1
  subst this
  exact r.inj r'
end

/-! ### another wish about exceptions -/
abbrev Cx.wish (X : Cx) (E : Value → Shared → Prop) : Cx := { X with xe := E }
/-- no exception leaves -/
abbrev Cx.nox (X : Cx) : Cx := X.wish fun _ _ => False
theorem Cx.Ok.wish {X : Cx} (ok : X.Ok) (E : Value → Shared → Prop) : (X.wish E).Ok :=
  ⟨ok.mod, ok.kind, ok.glob, ok.blt, ok.above, ok.inj, ok.has, ok.cab, ok.hd, ok.frames, ok.stk, ok.exf, ok.bs, ok.bsz, ok.noex, ok.exfs, ok.funs, ok.frf⟩
theorem Cx.Ok.unwish {X : Cx} {E : Value → Shared → Prop} (ok : (X.wish E).Ok) : X.Ok :=
  ⟨ok.mod, ok.kind, ok.glob, ok.blt, ok.above, ok.inj, ok.has, ok.cab, ok.hd, ok.frames, ok.stk, ok.exf, ok.bs, ok.bsz, ok.noex, ok.exfs, ok.funs, ok.frf⟩
section
variable {X : Cx} {pins : List (Addr × Obj)} {σ : St} {H : Hp} {s : Shared} {E : Value → Shared → Prop}
theorem Inv.wish (I : Inv X pins σ H s) (E : Value → Shared → Prop) : Inv (X.wish E) pins σ H s := ⟨I.ok.wish E, I.os, I.bare, I.base, I.loc, I.cell, I.free, I.freeC, I.pin, I.hok, I.len⟩
theorem Inv.unwish (I : Inv (X.wish E) pins σ H s) : Inv X pins σ H s := ⟨I.ok.unwish, I.os, I.bare, I.base, I.loc, I.cell, I.free, I.freeC, I.pin, I.hok, I.len⟩
theorem SP.unwish {D : Ends} {f : Flow} {s' : Shared} (h : SP (X.wish E) pins D f s') : SP X pins D f s' := by
  cases f with
  | next => obtain ⟨σ', H', I, q⟩ := h; exact ⟨σ', H', I.unwish, q⟩
  | brk => obtain ⟨σ', H', I, q⟩ := h; exact ⟨σ', H', I.unwish, q⟩
  | cont => obtain ⟨σ', H', I, q⟩ := h; exact ⟨σ', H', I.unwish, q⟩
  | ret u => obtain ⟨v, σ', H', I, r, q⟩ := h; exact ⟨v, σ', H', I.unwish, r, q⟩
theorem PE.nox {e : Expr} {t : TE} (h : PE X.nox e t) : PE X e t := fun pins s σ H Q I hw =>
  wpAny_mono (h pins s σ H Q (I.wish _) hw) (fun _ _ ⟨v, H', I', r, q⟩ => ⟨v, H', I'.unwish, r, q⟩) fun _ _ z => False.elim z
theorem PT.nox {e : Expr} {t : TT} (h : PT X.nox e t) : PT X e t := fun pins s σ H Q I hw =>
  wpAny_mono (h pins s σ H Q (I.wish _) hw) (fun _ _ ⟨H', I', q⟩ => ⟨H', I'.unwish, q⟩) fun _ _ z => False.elim z
theorem PSs.nox {st : List Stmt} {t : TS} (h : PSs X.nox st t) : PSs X st t := fun pins s σ H D I hw =>
  wpAny_mono (h pins s σ H D (I.wish _) hw) (fun _ _ q => q.unwish) fun _ _ z => False.elim z
end

/-! ### blocks and small statements -/
section
variable {X : Cx} {st : Stmt} {rest : List Stmt} {t u : TS} {e : Expr} {te : TE} {pos : Pos}
def tNext : TS := fun D σ H => D.nx σ H
def tSeq (t u : TS) : TS := fun D σ H => t { D with nx := u D } σ H
theorem pss_nil : PSs X [] tNext := fun _ _ σ H _ I h => wpAny_execs_nil ⟨σ, H, I, h⟩
theorem pss_cons (h1 : PS X st t) (h2 : PSs X rest u) : PSs X (st :: rest) (tSeq t u) := by
  intro pins s σ H D I h
  refine wpAny_execs_cons (thn (h1 pins s σ H { D with nx := u D } I h) fun f s1 q => ?_)
  cases f with
  | next =>
    obtain ⟨σ', H', I', q⟩ := q
    exact h2 pins s1 σ' H' D I' q
  | ret v => exact q
  | brk => exact q
  | cont => exact q
theorem pss_one (h1 : PS X st t) : PSs X [st] t := by
  intro pins s σ H D I h
  refine wpAny_execs_cons (thn (h1 pins s σ H D I h) fun f s1 q => ?_)
  cases f with
  | next => exact wpAny_execs_nil q
  | ret v => exact q
  | brk => exact q
  | cont => exact q
def tBreak : TS := fun D σ H => D.bk σ H
def tCont : TS := fun D σ H => D.ct σ H
theorem ps_pass : PS X (.Pass pos) tNext := fun _ _ σ H _ I h => wpAny_Pass ⟨σ, H, I, h⟩
theorem ps_break : PS X (.Break pos) tBreak := fun _ _ σ H _ I h => wpAny_Break ⟨σ, H, I, h⟩
theorem ps_continue : PS X (.Continue pos) tCont := fun _ _ σ H _ I h => wpAny_Continue ⟨σ, H, I, h⟩
/-- in a def's body nothing is shown -/
theorem Inv.quiet {pins : List (Addr × Obj)} {σ : St} {H : Hp} {s : Shared} (I : Inv X pins σ H s) : interactive X.env = false := by simp [interactive, I.ok.kind]
/-- a docstring -/
theorem ps_doc {x j pos pos'} : PS X (.Expr (.Constant (.str x) j pos) pos') tNext := fun _ s σ H _ I h => wpAny_Expr (Calls.Constant_str (show SP X _ _ .next { s with toks := s.toks + 1 } from ⟨σ, H, I.tok _, h⟩)) I.quiet
/-- an expression whose value is dropped -/
def tDrop (te : TE) : TS := fun D σ H => te σ H fun _ H1 => D.nx σ H1
theorem ps_expr (he : PE X e te) (hs : swapsWith e none pos.line X.env = pure false := by rfl) : PS X (.Expr e pos) (tDrop te) := by
  intro pins s σ H D I h
  exact wpAny_Expr_any (thn (he pins s σ H _ I h) fun v s1 ⟨x, H1, I1, r1, q1⟩ => ⟨σ, H1, I1, q1⟩) I.quiet hs
def tRet (te : TE) : TS := fun D σ H => te σ H D.rt
theorem ps_ret (he : PE X e te) : PS X (.Return (some e) pos) (tRet te) := by
  intro pins s σ H D I h
  exact wpAny_Return_some (thn (he pins s σ H _ I h) fun v s1 ⟨x, H1, I1, r1, q1⟩ => ⟨x, σ, H1, I1, r1, q1⟩)
def tRetN : TS := fun D _ H => D.rt .non H
theorem ps_retN : PS X (.Return none pos) tRetN := fun _ _ σ H _ I h => wpAny_Return_none ⟨.non, σ, H, I, rfl, h⟩
def tIfS (c : TT) (t u : TS) : TS := fun D σ H => c σ H fun b H1 => if b = true then t D σ H1 else u D σ H1
theorem ps_if {c : Expr} {a b : List Stmt} {tc : TT} (hc : PT X c tc) (ha : PSs X a t) (hb : PSs X b u) : PS X (.If c a b pos) (tIfS tc t u) := by
  intro pins s σ H D I h
  refine wpAny_If (thn (hc pins s σ H _ I h) fun d s1 ⟨H1, I1, q1⟩ => ?_)
  cases d with
  | true => exact ha pins s1 σ H1 D I1 q1
  | false => exact hb pins s1 σ H1 D I1 q1
/-- code that the proof never comes to -/
def tNever : TS := fun _ _ _ => False
theorem ps_never : PS X st tNever := fun _ _ _ _ _ _ h => h.elim
theorem pss_never {sts : List Stmt} : PSs X sts tNever := fun _ _ _ _ _ _ h => h.elim
end

/-! ### targets -/
abbrev TG := V → St → Hp → (St → Hp → Prop) → Prop
abbrev TGs := List V → St → Hp → (St → Hp → Prop) → Prop
def PG (X : Cx) (target : Expr) (t : TG) : Prop :=
  ∀ (pins : List (Addr × Obj)) (s : Shared) (σ : St) (H : Hp) (v : V) (u : Value) (Q : St → Hp → Prop), Inv X pins σ H s → RelV v u → t v σ H Q →
    wpAny (model X.prog X.w) X.A (assign target X.env u) (fun _ s' => ∃ σ' H', Inv X pins σ' H' s' ∧ Q σ' H') X.xe s
/-- several targets, one after another -/
def PGs (X : Cx) (ts : List Expr) (t : TGs) : Prop :=
  ∀ (pins : List (Addr × Obj)) (s : Shared) (σ : St) (H : Hp) (vs : List V) (us : List Value) (Q : St → Hp → Prop), Inv X pins σ H s → Vals vs us → t vs σ H Q →
    wpAny (model X.prog X.w) X.A (assignInOrder ((assignEach ts X.env).map (·.2)) us) (fun _ s' => ∃ σ' H', Inv X pins σ' H' s' ∧ Q σ' H') X.xe s
/-- o[i] = v, by values -/
abbrev TSet := V → V → V → Hp → (Hp → Prop) → Prop
def PSet (X : Cx) (t : TSet) : Prop :=
  ∀ (pins : List (Addr × Obj)) (s : Shared) (σ : St) (H : Hp) (o i v : V) (ov iv u : Value) (Q : Hp → Prop), Inv X pins σ H s → RelV o ov → RelV i iv → RelV v u → t o i v H Q →
    wpAny (model X.prog X.w) X.A (setItem ov iv u) (fun _ s' => ∃ H', Inv X pins σ H' s' ∧ Q H') X.xe s
/-- a op= b, by values -/
abbrev TIp := V → V → Hp → VK → Prop
def PIp (X : Cx) (op : Operator) (t : TIp) : Prop :=
  ∀ (pins : List (Addr × Obj)) (s : Shared) (σ : St) (H : Hp) (x y : V) (v u : Value) (Q : VK), Inv X pins σ H s → RelV x v → RelV y u → t x y H Q →
    wpAny (model X.prog X.w) X.A (inplaceOp op v u) (EP X pins σ Q) X.xe s
section
variable {X : Cx} {pos : Pos}
def gName (i : Nat) : TG := fun v σ H Q => Q (σ.set i (some v)) H
theorem pg_name {i : Nat} {x : Str} (hN : X.N.Nodup) (hi : X.N[i]? = some x) (hx : Loc X.env.scope x) (hf : X.fn x = true ∨ X.env.scope.names.lookup x = some .local := by first | exact .inl rfl | exact .inr rfl | assumption) : PG X (.Name x pos) (gName i) := by
  intro pins s σ H v u Q I r h
  exact wpAny_assign_Name (store_ok I hN hi hx r (fun s' I' => ⟨_, H, I', h⟩) hf)
def gNil : TGs := fun vs σ H Q => vs = [] ∧ Q σ H
def gCons (t : TG) (u : TGs) : TGs := fun vs σ H Q => ∃ v r, vs = v :: r ∧ t v σ H fun σ' H' => u r σ' H' Q
theorem pgs_nil : PGs X [] gNil := by
  intro pins s σ H vs us Q I r h
  obtain ⟨e, h⟩ := h
  subst e
  cases r
  exact assignInOrder_nil ⟨σ, H, I, h⟩
theorem pgs_cons {e : Expr} {es : List Expr} {t : TG} {u : TGs} (h1 : PG X e t) (h2 : PGs X es u)
    (hs : (assignEach (e :: es) X.env).map (·.2) = assign e X.env :: (assignEach es X.env).map (·.2) := by rfl) : PGs X (e :: es) (gCons t u) := by
  intro pins s σ H vs us Q I r h
  obtain ⟨v, vr, e1, h⟩ := h
  subst e1
  cases r with
  | cons r rr =>
    rw [hs]
    refine assignInOrder_cons (thn (h1 pins s σ H _ _ _ I r h) fun _ s1 ⟨σ1, H1, I1, q1⟩ => ?_)
    exact h2 pins s1 σ1 H1 _ _ Q I1 rr q1
/-- (a, b, ..) = a tuple of that length -/
def gTup (K : PySem.W.Frag) (n : Nat) (t : TGs) : TG := fun v σ H Q => ∃ a xs, v = .ref a ∧ SqT K H a xs ∧ xs.length = n ∧ t xs σ H Q
theorem pg_tup {es : List Expr} {k : Nat} {t : TGs} {n : Nat} (hc : X.calm = true) (h : PGs X es t)
    (hn : (assignEach es X.env).length = n := by rfl) (hst : (assignEach es X.env).findIdx? (·.1) = none := by rfl) : PG X (.Tuple es k pos) (gTup X.K n t) := by
  intro pins s σ H v u Q I r hw
  obtain ⟨a, xs, e1, hq, hl, hw⟩ := hw
  subst e1
  cases r
  obtain ⟨its, rv, ht, hz⟩ := I.tuple hq
  refine assign_Tuple_tuple (I.ok.hd hc) ht (by simp [hn, ← hl, rv.length]) hst fun h' hx => ?_
  have I1 : Inv X pins σ H { s with heap := h' } := I.kept (t' := s.toks) fun b o e => hx b o (Nat.ne_of_lt (Heap.lt_size e)) e
  exact h pins _ σ H xs _ Q I1 (by simpa using rv) hw
/-- o[i] = .. -/
def gSub (to ti : TE) (t : TSet) : TG := fun v σ H Q => to σ H fun o H1 => ti σ H1 fun i H2 => t o i v H2 fun H3 => Q σ H3
theorem pg_sub {o i : Expr} {to ti : TE} {t : TSet} (ho : PE X o to) (hi : PE X i ti) (hs : PSet X t)
    (ha : ∀ v, assign (.Subscript o i pos) X.env v = (do
      let ov ← holding [v] (eval o X.env)
      let iv ← holding [v, ov] (eval i X.env)
      standAt pos
      holding [v, ov, iv] (setItem ov iv v)
      release [v, ov, iv] []) := by intro _; rfl) : PG X (.Subscript o i pos) (gSub to ti t) := by
  intro pins s σ H v u Q I r h
  rw [ha]
  refine wpAny_bind (wpAny_holding (thn (ho pins s σ H _ I h) fun ov s1 ⟨x, H1, I1, r1, q1⟩ => ?_))
  refine wpAny_bind (wpAny_holding (thn (hi pins s1 σ H1 _ I1 q1) fun iv s2 ⟨y, H2, I2, r2, q2⟩ => ?_))
  refine wpAny_bind (wpAny_standAt (wpAny_bind (wpAny_holding (thn (hs pins s2 σ H2 x y v ov iv u _ I2 r1 r2 r q2) fun _ s3 ⟨H3, I3, q3⟩ => ?_))))
  exact wpAny_release ⟨σ, H3, I3, q3⟩
/-- target = value -/
def tAsg (te : TE) (g : TG) : TS := fun D σ H => te σ H fun x H1 => g x σ H1 D.nx
theorem ps_asg {tg e : Expr} {te : TE} {g : TG} (he : PE X e te) (hg : PG X tg g) (hs : swapsWithSole [tg] e pos.line X.env = pure false := by rfl) (hw : swappedStores [tg] e X.env = pure none := by rfl)
    (h1 : (assignEach [tg] X.env).map (·.2) = [assign tg X.env] := by rfl) : PS X (.Assign [tg] e pos) (tAsg te g) := by
  intro pins s σ H D I h
  refine wpAny_Assign_stores (thn (he pins s σ H _ I h) fun v s1 ⟨x, H1, I1, r1, q1⟩ => ?_) hs hw
  rw [h1]
  exact thn (hg pins s1 σ H1 x v _ I1 r1 q1) fun _ s2 q => q
/-- name = value -/
theorem ps_set {i : Nat} {x : Str} {e : Expr} {te : TE} {pos' : Pos} (hN : X.N.Nodup) (hi : X.N[i]? = some x) (hx : Loc X.env.scope x) (he : PE X e te) (hs : swapsWith e (some (.Name x pos')) pos.line X.env = pure false := by rfl) (hf : X.fn x = true ∨ X.env.scope.names.lookup x = some .local := by first | exact .inl rfl | exact .inr rfl | assumption) :
    PS X (.Assign [.Name x pos'] e pos) (tAsg te (gName i)) := by
  intro pins s σ H D I h
  refine wpAny_Assign_Name (thn (he pins s σ H _ I h) fun v s1 ⟨y, H1, I1, r1, q1⟩ => ?_) hs
  exact store_ok I1 hN hi hx r1 (fun s2 I2 => ⟨_, H1, I2, q1⟩) hf
/-- a, b = x, y with plain local names: stored from the right; the pair itself is not tracked (the opening rows as in PyProof/Rows/TupAssign.lean:23) -/
def tPar (i j : Nat) (ta : TA) : TS := fun D σ H => ta σ H fun vs H1 => ∃ v w, vs = [v, w] ∧ D.nx ((σ.set i (some v)).set j (some w)) H1
theorem ps_par {i j : Nat} {x y : Str} {a b : Expr} {ta : TA} {px py pt : Pos} {kt k2 pt2} (hc : X.calm = true) (hN : X.N.Nodup) (hi : X.N[i]? = some x) (hj : X.N[j]? = some y) (hij : i ≠ j)
    (hx : X.env.scope.names.lookup x = some .local) (hy : X.env.scope.names.lookup y = some .local) (ha : PA X [a, b] ta)
    (hw : swappedStores [.Tuple [.Name x px, .Name y py] kt pt] (.Tuple [a, b] k2 pt2) X.env = pure (some [x, y]))
    (hs : swapsWithSole [.Tuple [.Name x px, .Name y py] kt pt] (.Tuple [a, b] k2 pt2) pos.line X.env = pure false := by rfl) :
    PS X (.Assign [.Tuple [.Name x px, .Name y py] kt pt] (.Tuple [a, b] k2 pt2) pos) (tPar i j ta) := by
  intro pins s σ H D I h
  rw [exec_Assign_arm]
  refine wpAny_bind (wpAny_standAt ?_)
  rw [hs]
  refine wpAny_bind (wpAny_pure ?_)
  rw [if_neg (by decide)]
  refine wpAny_bind (Tuple_ (thn (ha _ pins s σ H _ I h) fun us s1 ⟨vs, H1, I1, r1, q1⟩ => ?_))
  obtain ⟨v, w, e1, q1⟩ := q1
  subst e1
  obtain ⟨u1, u2, rfl, rv, rw'⟩ : ∃ u1 u2, us = [u1, u2] ∧ RelV v u1 ∧ RelV w u2 := by
    cases r1 with
    | cons p q =>
      cases q with
      | cons p' q' =>
        cases q'
        exact ⟨_, _, rfl, p, p'⟩
  refine wpAny_newObj_type ?_ (by show 2 ≤ sizeLine; decide)
  have I2 : Inv X pins σ H1 { s1 with heap := s1.heap.push { cls := .type "tuple", data := .seq [u1, u2].toArray } } := I1.kept (t' := s1.toks) fun b o e => Heap.get?_push_of_some _ e
  rw [hw]
  refine wpAny_bind (wpAny_pure ?_)
  show wpAny (model X.prog X.w) X.A (do rule "assign.swapped-stores"; let items ← unpackItems (.ref s1.heap.objs.size) 2 none; assignInOrder [fun v => bindName X.env y v, fun v => bindName X.env x v] items.reverse; pure Flow.next) _ _ _
  refine wpAny_bind (wpAny_rule (wpAny_bind (unpackItems_tuple (items := #[u1, u2]) (I.ok.hd hc) (IsTup.new s1.heap _) fun h' hx' => ?_)))
  have I3 := I2.kept (h' := h') (t' := s1.toks) fun b o e => hx' b o (Nat.ne_of_lt (Heap.lt_size e)) e
  show wpAny _ _ (assignInOrder [fun v => bindName X.env y v, fun v => bindName X.env x v] [u2, u1] >>= fun _ => pure Flow.next) _ _ _
  refine wpAny_bind (assignInOrder_cons (wpAny_bindName (store_ok I3 hN hj (.inl hy) rw' (fun s2 I4 => ?_) (.inr hy))))
  refine assignInOrder_cons (wpAny_bindName (store_ok I4 hN hi (.inl hx) rv (fun s3 I5 => assignInOrder_nil (wpAny_pure ?_)) (.inr hx)))
  rw [List.set_comm _ _ (Ne.symm hij)] at I5
  exact ⟨_, H1, I5, q1⟩
/-- name op= e -/
def tAug (i : Nat) (te : TE) (ti : TIp) : TS := fun D σ H => ∃ x, σ[i]? = some (some x) ∧ te σ H fun y H1 => ti x y H1 fun z H2 => D.nx (σ.set i (some z)) H2
theorem ps_aug {i : Nat} {x : Str} {e : Expr} {te : TE} {op : Operator} {ti : TIp} {pos' : Pos} (hN : X.N.Nodup) (hi : X.N[i]? = some x) (hx : Loc X.env.scope x) (he : PE X e te) (ho : PIp X op ti) (hf : X.fn x = true ∨ X.env.scope.names.lookup x = some .local := by first | exact .inl rfl | exact .inr rfl | assumption) :
    PS X (.AugAssign (.Name x pos') op e pos) (tAug i te ti) := by
  intro pins s σ H D I h
  obtain ⟨v, e1, h⟩ := h
  obtain ⟨m, hn, hl⟩ := I.loc
  have vis : Vis X.env.scope x := by rcases hx with k | k; exact .inl k; exact .inr (.inl k)
  obtain ⟨u, r, l⟩ := hl i x v hi e1 vis
  refine wpAny_AugAssign_Name ?_
  have go : wpAny (model X.prog X.w) X.A (eval e X.env) (fun w s₂ => wpAny (model X.prog X.w) X.A (inplaceOp op u w) (fun r s₃ => wpAny (model X.prog X.w) X.A (storeName X.env x r) (fun _ => SP X pins D .next) X.xe s₃) X.xe s₂) X.xe s := by
    refine thn (he pins s σ H _ I h) fun w s1 ⟨y, H1, I1, r1, q1⟩ => ?_
    refine thn (ho pins s1 σ H1 v y u w _ I1 r r1 q1) fun z s2 ⟨zv, H2, I2, r2, q2⟩ => ?_
    exact store_ok I2 hN hi hx r2 (fun s3 I3 => ⟨_, H2, I3, q2⟩) hf
  rcases l with ⟨hk, hm⟩ | ⟨hk, c, hc, hcell⟩
  · exact wpAny_loadName_local I.ok.kind hk hn hm go
  · rcases hk with hk | hk
    · exact wpAny_loadName_cell I.ok.kind hk hc hcell go
    · rcases hx with k | k
      · have : X.env.scope.names.lookup x = some .free := hk
        rw [k] at this; cases this
      · have : X.env.scope.names.lookup x = some .free := hk
        rw [k] at this; cases this
/-- o[i] op= e -/
def tAugS (to ti te : TE) (tget : V → V → Hp → VK → Prop) (tip : TIp) (tset : TSet) : TS := fun D σ H => to σ H fun o H1 => ti σ H1 fun i H2 => tget o i H2 fun x H3 => te σ H3 fun y H4 => tip x y H4 fun z H5 => tset o i z H5 fun H6 => D.nx σ H6
/-- o[i], by values -/
def PGet (X : Cx) (t : V → V → Hp → VK → Prop) : Prop :=
  ∀ (pins : List (Addr × Obj)) (s : Shared) (σ : St) (H : Hp) (o i : V) (ov iv : Value) (Q : VK), Inv X pins σ H s → RelV o ov → RelV i iv → t o i H Q →
    wpAny (model X.prog X.w) X.A (getItem ov iv) (EP X pins σ Q) X.xe s
theorem ps_augS {o i e : Expr} {to ti te : TE} {tget : V → V → Hp → VK → Prop} {tip : TIp} {tset : TSet} {op : Operator} {tpos : Pos} (ho : PE X o to) (hi : PE X i ti) (hg : PGet X tget) (he : PE X e te) (hp : PIp X op tip) (hs : PSet X tset)
    (ha : ∀ ov iv new, augStore i ov iv new = (do holding [new, ov, iv] (setItem ov iv new); release [new, ov, iv] []; pure .next) := by intros; rfl) : PS X (.AugAssign (.Subscript o i tpos) op e pos) (tAugS to ti te tget tip tset) := by
  intro pins s σ H D I h
  refine wpAny_AugAssign_SubscriptAny (thn (ho pins s σ H _ I h) fun ov s1 ⟨x1, H1, I1, r1, q1⟩ => ?_) ha
  refine thn (hi pins s1 σ H1 _ I1 q1) fun iv s2 ⟨x2, H2, I2, r2, q2⟩ => ?_
  refine thn (hg pins s2 σ H2 x1 x2 ov iv _ I2 r1 r2 q2) fun old s3 ⟨x3, H3, I3, r3, q3⟩ => ?_
  refine thn (he pins s3 σ H3 _ I3 q3) fun v s4 ⟨x4, H4, I4, r4, q4⟩ => ?_
  refine thn (hp pins s4 σ H4 x3 x4 old v _ I4 r3 r4 q4) fun new s5 ⟨x5, H5, I5, r5, q5⟩ => ?_
  exact thn (hs pins s5 σ H5 x1 x2 x5 ov iv new _ I5 r1 r2 r5 q5) fun _ s6 ⟨H6, I6, q6⟩ => ⟨σ, H6, I6, q6⟩
/-- ints -/
def ipI (f : Int → Int → Int) : TIp := fun x y H Q => ∃ i j, x = .int i ∧ y = .int j ∧ Q (.int (f i j)) H
theorem ip_add : PIp X .Add (ipI fun i j => i + j) := by
  intro pins s σ H x y v u Q I r1 r2 h
  obtain ⟨i, j, e1, e2, q⟩ := h
  subst e1; subst e2
  obtain ⟨t, rfl⟩ := r1
  obtain ⟨t', rfl⟩ := r2
  exact iadd_int ⟨.int _, H, I.tok _, ⟨_, rfl⟩, q⟩
theorem ip_sub : PIp X .Sub (ipI fun i j => i - j) := by
  intro pins s σ H x y v u Q I r1 r2 h
  obtain ⟨i, j, e1, e2, q⟩ := h
  subst e1; subst e2
  obtain ⟨t, rfl⟩ := r1
  obtain ⟨t', rfl⟩ := r2
  exact isub_int ⟨.int _, H, I.tok _, ⟨_, rfl⟩, q⟩
end

/-! ### while -/
section
variable {X : Cx} {pos : Pos}
/-- the invariant W with its measure -/
def tWhile (c : TT) (tb : TS) : TS := fun D σ H => ∃ W : Nat → St → Hp → Prop, (∃ m, W m σ H) ∧ ∀ m σ H, W m σ H →
  c σ H fun b H1 => if b = true then ∃ N : St → Hp → Prop, (∀ σ' H', N σ' H' → ∃ m', m' < m ∧ W m' σ' H') ∧ tb { D with nx := N, ct := N, bk := D.nx } σ H1 else D.nx σ H1
theorem ps_while {c : Expr} {body : List Stmt} {tc : TT} {tb : TS} (hp : PassesOwn (model X.prog X.w) X.A X.env X.xe) (hc : PT X c tc) (hb : PSs X body tb) : PS X (.While c body [] pos) (tWhile tc tb) := by
  intro pins s σ H D I h
  obtain ⟨W, ⟨m0, w0⟩, turn⟩ := h
  refine wpAny_While (codeAny_whileLoop (fun n s' => ∃ σ' H', Inv X pins σ' H' s' ∧ W n σ' H') ?_ m0 ⟨σ, H, I, w0⟩)
  rintro n s1 ⟨σ1, H1, I1, w1⟩
  refine wpAny_passesOwn hp (thn (hc pins s1 σ1 H1 _ I1 (turn n σ1 H1 w1)) fun b s2 ⟨H2, I2, q2⟩ => ?_)
  cases b with
  | true =>
    obtain ⟨N, hN, q2⟩ := q2
    rw [if_pos rfl]
    refine wpAny_passesOwn hp (thn (hb pins s2 σ1 H2 _ I2 q2) fun f s3 q3 => ?_)
    cases f with
    | next =>
      obtain ⟨σ3, H3, I3, n3⟩ := q3
      obtain ⟨m', hm, w3⟩ := hN σ3 H3 n3
      exact ⟨m', hm, σ3, H3, I3, w3⟩
    | cont =>
      obtain ⟨σ3, H3, I3, n3⟩ := q3
      obtain ⟨m', hm, w3⟩ := hN σ3 H3 n3
      exact ⟨m', hm, σ3, H3, I3, w3⟩
    | brk => exact q3
    | ret v => exact q3
  | false =>
    rw [if_neg Bool.false_ne_true]
    exact wpAny_execs_nil ⟨σ1, H2, I2, q2⟩
end

/-! ### what a loop or a comprehension walks -/
/-- at turn i: it yields x (the heap may grow), or it stops -/
structure It where
  go : Nat → Hp → Prop
  yld : Nat → Hp → V → Hp → Prop
  stop : Nat → Hp → Prop
/-- the iterator's own objects may turn: they are not the frame's, not pinned, younger than the entry (or a comprehension's own) -/
def FpOk (X : Cx) (pins : List (Addr × Obj)) (H : Hp) (b : Addr) : Prop :=
  H b = none ∧ b ≠ X.env.locals ∧ b ∉ X.fs ∧ (b ∈ X.ex ∨ X.s₀.heap.objs.size ≤ b) ∧ (∀ x c, X.env.cells.lookup x = some c → c ≠ b) ∧ ∀ p ∈ X.pn ++ pins, p.1 ≠ b
theorem Inv.fpOk {X : Cx} {pins : List (Addr × Obj)} {σ : St} {H H' : Hp} {s : Shared} {b : Addr} (I : Inv X pins σ H s) (hb : s.heap.objs.size ≤ b) (hn : H' b = none) : FpOk X pins H' b := by
  refine ⟨hn, Nat.ne_of_gt (Nat.lt_of_lt_of_le I.lt hb), I.nofs hb, .inr (Nat.le_trans I.sz hb), fun x c e z => ?_, fun p hp z => ?_⟩
  · obtain ⟨v, q⟩ := I.cell x c e
    exact absurd (Nat.lt_of_lt_of_le q.lt (by rw [z]; exact hb)) (Nat.lt_irrefl _)
  · exact absurd (Nat.lt_of_lt_of_le (Heap.lt_size (I.pin p hp).1) (by rw [z]; exact hb)) (Nat.lt_irrefl _)
structure Turn (P : Program) (w : World) (K : PySem.W.Frag) (tg : Expr) (J : It) (fp : List Addr) (it : Addr) (tn : Nat → Heap → Prop) : Prop where
  mem : it ∈ fp
  obj : ∀ i h, tn i h → ∀ b ∈ fp, ∃ o, h.get? b = some o ∧ ∀ v, o.data ≠ .cell v
  keep : ∀ i h h', tn i h → (∀ b ∈ fp, ∀ o, h.get? b = some o → h'.get? b = some o) → tn i h'
  item : ∀ (X : Cx), X.prog = P → X.w = w → X.K = K → X.calm = true → ∀ (i : Nat) (pins : List (Addr × Obj)) (s : Shared) (σ : St) (H : Hp) (E : Value → Shared → Prop), Inv X pins σ H s → (∀ b ∈ fp, FpOk X pins H b) → tn i s.heap → J.go i H →
    wpAny (model P w) X.A (pyNext (.ref it)) (fun r s1 => ∃ u, r = some u ∧
      wpAny (model P w) X.A (letOwnedTupleGo tg (.ref it) u) (fun _ s2 => ∃ x H', Inv X pins σ H' s2 ∧ RelV x u ∧ J.yld i H x H' ∧ tn (i + 1) s2.heap ∧ ∀ b ∈ fp, H' b = none) E s1) E s
  done : ∀ (X : Cx), X.prog = P → X.w = w → X.K = K → X.calm = true → ∀ (i : Nat) (pins : List (Addr × Obj)) (s : Shared) (σ : St) (H : Hp) (E : Value → Shared → Prop), Inv X pins σ H s → (∀ b ∈ fp, FpOk X pins H b) → tn i s.heap → J.stop i H →
    wpAny (model P w) X.A (pyNext (.ref it)) (fun r s1 => r = none ∧ Inv X pins σ H s1) E s
  self : ∀ (A : Around) (i : Nat) (s : Shared) (Q : Value → Shared → Prop) (E : Value → Shared → Prop), tn i s.heap → Q (.ref it) s → wpAny (model P w) A (pyIter (.ref it)) Q E s
abbrev TI := St → Hp → (It → Hp → Prop) → Prop
/-- an iterator has come -/
def PIE (X : Cx) (pins : List (Addr × Obj)) (σ : St) (tg : Expr) (R : It → Hp → Prop) (itv : Value) (s2 : Shared) : Prop :=
  ∃ (it : Addr) (fp : List Addr) (tn : Nat → Heap → Prop) (J : It) (H' : Hp), itv = .ref it ∧ Inv X pins σ H' s2 ∧ Turn X.prog X.w X.K tg J fp it tn ∧ tn 0 s2.heap ∧ (∀ b ∈ fp, FpOk X pins H' b) ∧ R J H'
def PI (X : Cx) (tg iter : Expr) (wi : TI) : Prop :=
  ∀ (pins : List (Addr × Obj)) (s : Shared) (σ : St) (H : Hp) (R : It → Hp → Prop), Inv X pins σ H s → wi σ H R →
    wpAny (model X.prog X.w) X.A (eval iter X.env) (fun v s1 => wpAny (model X.prog X.w) X.A (pyIter v) (PIE X pins σ tg R) X.xe s1) X.xe s

/-- the step ahead of the store is nothing for an iterator that keeps no tuple -/
theorem go_of {M : Model} {A : Around} {E : Value → Shared → Prop} {s : Shared} {tg : Expr} {it : Addr} {u : Value} {o : Obj} {n : String} {vs : Array Value} {Q : Unit → Shared → Prop} (ho : s.heap.get? it = some o) (hc : o.cls = .type n) (hd : o.data = .fields vs)
    (hn : ["enumerate", "zip", "dict_itemiterator", "dict_reverseitemiterator", "odict_iterator", "itertools.zip_longest", "itertools.pairwise"].contains n = false) (hQ : Q () s) : wpAny M A (letOwnedTupleGo tg (.ref it) u) Q E s := by
  unfold letOwnedTupleGo
  cases tg <;> first
    | exact wpAny_pure hQ
    | (cases u <;> first
        | exact wpAny_pure hQ
        | (refine wpAny_bind (wpAny_load ho ?_)
           rw [hc, hd]
           show wpAny M A (if (["enumerate", "zip", "dict_itemiterator", "dict_reverseitemiterator", "odict_iterator", "itertools.zip_longest", "itertools.pairwise"].contains n && vs[0]? == some (rawInt _)) = true then _ else _) Q E s
           rw [if_neg (by intro h; rw [hn, Bool.false_and] at h; cases h)]
           exact wpAny_pure hQ))

/-- the list at a, as it stands at each turn (a loop may append to it) -/
def Itl (K : PySem.W.Frag) (a : Addr) : It :=
  ⟨fun i H => ∃ xs x, SqL K H a xs ∧ xs[i]? = some x, fun i H x H' => H' = H ∧ ∀ xs, SqL K H a xs → xs[i]? = some x, fun i H => ∃ xs, SqL K H a xs ∧ xs.length ≤ i⟩
def Itt (K : PySem.W.Frag) (a : Addr) : It :=
  ⟨fun i H => ∃ xs x, SqT K H a xs ∧ xs[i]? = some x, fun i H x H' => H' = H ∧ ∀ xs, SqT K H a xs → xs[i]? = some x, fun i H => ∃ xs, SqT K H a xs ∧ xs.length ≤ i⟩
/-- lo, lo + 1, .. (n of them) -/
def Itr (lo : Int) (n : Nat) : It := ⟨fun i _ => i < n, fun i H x H' => H' = H ∧ x = .int (lo + i), fun i _ => n ≤ i⟩
theorem turn_list {P : Program} {w : World} {K : PySem.W.Frag} {tg : Expr} (a it : Addr) : Turn P w K tg (Itl K a) [it] it (fun i h => h.IsListIter it a i) where
  mem := by simp
  obj := fun i h st b hb => by
    have e : b = it := by simpa using hb
    subst e
    obtain ⟨o, e, c, d⟩ := st
    exact ⟨o, e, fun v z => by rw [d] at z; cases z⟩
  keep := fun i h h' st k => st.at fun o e => k it (by simp) o e
  item := by
    intro X hP hw hK hc i pins s σ H E I hf st hg
    subst hP hw hK
    obtain ⟨xs, x, hq, hx⟩ := hg
    obtain ⟨its, rv, p, hz⟩ := I.list hq
    obtain ⟨u, hu, ru⟩ := rv.get hx
    obtain ⟨f0, f1, f2, f3, f4, f5⟩ := hf it (by simp)
    refine wpAny_pyNext_list_item st p.isList (x := u) (by simpa using hu) fun h' st' sb => ?_
    have I1 : Inv X pins σ H { s with heap := h' } := I.turned (t' := s.toks) (fun b o hb e => (sb.2 b hb).trans e) f0 f1 f3 f4 f5
    obtain ⟨o, e, c, d⟩ := id st'
    exact ⟨u, rfl, go_of (s := { s with heap := h' }) e c d (by decide) ⟨x, H, I1, ru, ⟨rfl, fun ys hy => by rw [I.list_inj hy hq]; exact hx⟩, st', fun b hb => (hf b hb).1⟩⟩
  done := by
    intro X hP hw hK hc i pins s σ H E I hf st hg
    subst hP hw hK
    obtain ⟨xs, hq, hx⟩ := hg
    obtain ⟨its, rv, p, hz⟩ := I.list hq
    obtain ⟨f0, f1, f2, f3, f4, f5⟩ := hf it (by simp)
    have hl := rv.length
    exact wpAny_pyNext_list_end (I.ok.hd hc) st p.isList (by simp; omega) fun h' eb => ⟨rfl, I.turned (t' := s.toks) (fun b o hb e => eb b o hb e) f0 f1 f3 f4 f5⟩
  self := fun _ _ _ _ _ st h => wpAny_pyIter_listiter st h
theorem turn_tuple {P : Program} {w : World} {K : PySem.W.Frag} {tg : Expr} (a it : Addr) : Turn P w K tg (Itt K a) [it] it (fun i h => h.IsTupleIter it a i) where
  mem := by simp
  obj := fun i h st b hb => by
    have e : b = it := by simpa using hb
    subst e
    obtain ⟨o, e, c, d⟩ := st
    exact ⟨o, e, fun v z => by rw [d] at z; cases z⟩
  keep := fun i h h' st k => st.at fun o e => k it (by simp) o e
  item := by
    intro X hP hw hK hc i pins s σ H E I hf st hg
    subst hP hw hK
    obtain ⟨xs, x, hq, hx⟩ := hg
    obtain ⟨its, rv, p, hz⟩ := I.tuple hq
    obtain ⟨u, hu, ru⟩ := rv.get hx
    obtain ⟨f0, f1, f2, f3, f4, f5⟩ := hf it (by simp)
    refine wpAny_pyNext_tuple_item st (show s.heap.IsTuple a its.toArray from p) (x := u) (by simpa using hu) fun h' st' sb => ?_
    have I1 : Inv X pins σ H { s with heap := h' } := I.turned (t' := s.toks) (fun b o hb e => (sb.2 b hb).trans e) f0 f1 f3 f4 f5
    obtain ⟨o, e, c, d⟩ := id st'
    exact ⟨u, rfl, go_of (s := { s with heap := h' }) e c d (by decide) ⟨x, H, I1, ru, ⟨rfl, fun ys hy => by rw [I.tuple_inj hy hq]; exact hx⟩, st', fun b hb => (hf b hb).1⟩⟩
  done := by
    intro X hP hw hK hc i pins s σ H E I hf st hg
    subst hP hw hK
    obtain ⟨xs, hq, hx⟩ := hg
    obtain ⟨its, rv, p, hz⟩ := I.tuple hq
    obtain ⟨f0, f1, f2, f3, f4, f5⟩ := hf it (by simp)
    have hl := rv.length
    exact wpAny_pyNext_tuple_end (I.ok.hd hc) st (show s.heap.IsTuple a its.toArray from p) (by simp; omega) fun h' eb => ⟨rfl, I.turned (t' := s.toks) (fun b o hb e => eb b o hb e) f0 f1 f3 f4 f5⟩
  self := fun _ _ _ _ _ st h => wpAny_pyIter_tupleiter st h
theorem turn_range {P : Program} {w : World} {K : PySem.W.Frag} {tg : Expr} (it : Addr) (lo : Int) (n : Nat) : Turn P w K tg (Itr lo n) [it] it (fun i h => IsRangeIter h it (lo + (i : Nat) * 1) ((n : Int) - (i : Nat)) 1) where
  mem := by simp
  obj := fun i h st b hb => by
    have e : b = it := by simpa using hb
    subst e
    exact ⟨_, st, fun v z => by
      have z' : Data.fields _ = Data.cell v := z
      cases z'⟩
  keep := fun i h h' st k => k it (by simp) _ st
  item := by
    intro X hP hw hK hc i pins s σ H E I hf st hg
    subst hP hw hK
    obtain ⟨f0, f1, f2, f3, f4, f5⟩ := hf it (by simp)
    have W := Walks.range (prog := X.prog) (w := X.w) (I.ok.hd hc) it lo 1 n
    refine W.item i s _ _ hg st fun v h' tk hv st' kk => ?_
    obtain ⟨t, rfl⟩ := hv
    have I1 : Inv X pins σ H { s with heap := h', toks := tk } := I.turned (fun b o hb e => kk b o (by simpa using hb) e) f0 f1 f3 f4 f5
    refine ⟨_, rfl, go_of (s := { s with heap := h', toks := tk }) (n := "range_iterator") st' rfl rfl (by decide) ⟨.int (lo + i), H, I1, ⟨t, ?_⟩, ⟨rfl, rfl⟩, st', fun b hb => (hf b hb).1⟩⟩
    rw [Int.mul_one]
  done := by
    intro X hP hw hK hc i pins s σ H E I hf st hg
    subst hP hw hK
    obtain ⟨f0, f1, f2, f3, f4, f5⟩ := hf it (by simp)
    exact wpAny_pyNext_range_end (I.ok.hd hc) st (by have : n ≤ i := hg; omega) fun h' eb => ⟨rfl, I.turned (t' := s.toks) (fun b o hb e => eb b o hb e) f0 f1 f3 f4 f5⟩
  self := fun _ _ _ _ _ st h => wpAny_pyIter_rangeiter st h
end L2

namespace L2
open PySem PySem.Spec PyProof.Rows
section
variable {X : Cx} {tg : Expr}
def iList (K : PySem.W.Frag) (tl : TE) : TI := fun σ H R => tl σ H fun x H1 => ∃ a, x = .ref a ∧ (∃ xs, SqL K H1 a xs) ∧ R (Itl K a) H1
def iTup (K : PySem.W.Frag) (tl : TE) : TI := fun σ H R => tl σ H fun x H1 => ∃ a, x = .ref a ∧ (∃ xs, SqT K H1 a xs) ∧ R (Itt K a) H1
theorem pi_list {l : Expr} {tl : TE} (hl : PE X l tl) : PI X tg l (iList X.K tl) := by
  intro pins s σ H R I h
  refine thn (hl pins s σ H _ I h) fun v s1 ⟨x, H1, I1, r1, q1⟩ => ?_
  obtain ⟨a, e, ⟨xs, hq⟩, q⟩ := q1
  subst e
  cases r1
  obtain ⟨its, rv, p, hz⟩ := I1.list hq
  refine wpAny_pyIter_list p.isList ?_
  refine ⟨s1.heap.objs.size, [s1.heap.objs.size], _, _, H1, rfl, I1.kept (t' := s1.toks) fun b o e => Heap.get?_push_of_some _ e, turn_list a _, ⟨_, Heap.get?_push_size _ rfl, rfl, rfl⟩, fun b hb => ?_, q⟩
  have e : b = s1.heap.objs.size := by simpa using hb
  subst e
  exact I1.fpOk (Nat.le_refl _) (I1.hok.fresh (Nat.le_refl _))
theorem pi_tup {l : Expr} {tl : TE} (hl : PE X l tl) : PI X tg l (iTup X.K tl) := by
  intro pins s σ H R I h
  refine thn (hl pins s σ H _ I h) fun v s1 ⟨x, H1, I1, r1, q1⟩ => ?_
  obtain ⟨a, e, ⟨xs, hq⟩, q⟩ := q1
  subst e
  cases r1
  obtain ⟨its, rv, p, hz⟩ := I1.tuple hq
  refine wpAny_pyIter_tuple (show s1.heap.IsTuple a its.toArray from p) ?_
  refine ⟨s1.heap.objs.size, [s1.heap.objs.size], _, _, H1, rfl, I1.kept (t' := s1.toks) fun b o e => Heap.get?_push_of_some _ e, turn_tuple a _, ⟨_, Heap.get?_push_size _ rfl, rfl, rfl⟩, fun b hb => ?_, q⟩
  have e : b = s1.heap.objs.size := by simpa using hb
  subst e
  exact I1.fpOk (Nat.le_refl _) (I1.hok.fresh (Nat.le_refl _))
/-- a range object just made, walked -/
theorem range_it {pins : List (Addr × Obj)} {σ : St} {H : Hp} {s : Shared} {R : It → Hp → Prop} {E : Value → Shared → Prop} {lo hi : Int} {t u v : Tok} {tk : Nat} (I : Inv X pins σ H s) (h1 : -(2 ^ 62) ≤ lo) (h2 : lo < 2 ^ 62) (h3 : -(2 ^ 62) ≤ hi) (h4 : hi < 2 ^ 62)
    (q : R (Itr lo (hi - lo).toNat) H) : wpAny (model X.prog X.w) X.A (pyIter (.ref s.heap.objs.size)) (PIE X pins σ tg R) E { s with heap := s.heap.push { cls := .type "range", data := .fields #[.int lo t, .int hi u, .int 1 v] }, toks := tk } := by
  refine wpAny_pyIter_range (IsRange.new ..) (small_one h1 h2 h3 h4) ?_
  have I1 : Inv X pins σ H { s with heap := s.heap.push { cls := .type "range", data := .fields #[.int lo t, .int hi u, .int 1 v] }, toks := tk } := I.kept fun b o e => Heap.get?_push_of_some _ e
  refine ⟨(s.heap.push { cls := .type "range", data := .fields #[.int lo t, .int hi u, .int 1 v] }).objs.size, [(s.heap.push { cls := .type "range", data := .fields #[.int lo t, .int hi u, .int 1 v] }).objs.size], _, _, H, rfl,
    I1.kept (t' := tk) fun b o e => Heap.get?_push_of_some _ e, turn_range _ lo (hi - lo).toNat, ?_, fun b hb => ?_, q⟩
  · have e1 : lo + ((0 : Nat) : Int) * 1 = lo := by simp
    have e2 : (((hi - lo).toNat : Nat) : Int) - ((0 : Nat) : Int) = Builtin.Range.rangeSize lo hi 1 := by rw [rangeSize_one]; split <;> omega
    show IsRangeIter _ _ (lo + ((0 : Nat) : Int) * 1) ((((hi - lo).toNat : Nat) : Int) - ((0 : Nat) : Int)) 1
    rw [e1, e2]
    exact Heap.get?_push_size _ rfl
  · have e : b = (s.heap.push { cls := .type "range", data := .fields #[.int lo t, .int hi u, .int 1 v] }).objs.size := by simpa using hb
    subst e
    exact I1.fpOk (Nat.le_refl _) (I1.hok.fresh (Nat.le_refl _))
def iRng1 (ta : TA) : TI := fun σ H R => ta σ H fun vs H1 => ∃ j : Int, vs = [.int j] ∧ -(2 ^ 62) ≤ j ∧ j < 2 ^ 62 ∧ R (Itr 0 j.toNat) H1
def iRng2 (ta : TA) : TI := fun σ H R => ta σ H fun vs H1 => ∃ i j : Int, vs = [.int i, .int j] ∧ (-(2 ^ 62) ≤ i ∧ i < 2 ^ 62 ∧ -(2 ^ 62) ≤ j ∧ j < 2 ^ 62) ∧ R (Itr i (j - i).toNat) H1
theorem pi_range1 {a : Expr} {ta : TA} {p pos : Pos} (hg : Gl X "range") (hm : X.mg "range" = none) (ha : PA X [a] ta) (hs : starEach [a] X.env = [(false, eval a X.env)] := by rfl) : PI X tg (.Call (.Name "range" p) [a] [] pos) (iRng1 ta) := by
  intro pins s σ H R I h
  refine Call_ (ld_blt I hg hm boot_range (PyProof.Rows.callWith_type1 (thn (ha pos pins s σ H _ I h) fun us s1 ⟨vs, H1, I1, r1, q1⟩ => ?_) hs rfl))
  obtain ⟨j, e, q1, q2, q⟩ := q1
  subst e
  cases r1 with
  | cons r rr =>
    cases rr
    obtain ⟨t, rfl⟩ := r
    exact call_range_1 (range_it I1 (by omega) (by omega) q1 q2 (by simpa using q))
theorem pi_range2 {a b : Expr} {ta : TA} {p pos : Pos} (hg : Gl X "range") (hm : X.mg "range" = none) (ha : PA X [a, b] ta) (hs : starEach [a, b] X.env = [(false, eval a X.env), (false, eval b X.env)] := by rfl) (hs2 : starEach [b] X.env = [(false, eval b X.env)] := by rfl) :
    PI X tg (.Call (.Name "range" p) [a, b] [] pos) (iRng2 ta) := by
  intro pins s σ H R I h
  refine Call_ (ld_blt I hg hm boot_range (PyProof.Rows.callWith_type1 (thn (ha pos pins s σ H _ I h) fun us s1 ⟨vs, H1, I1, r1, q1⟩ => ?_) (by rw [hs, hs2]) (by rw [hs2]; rfl)))
  obtain ⟨i, j, e, ⟨q1, q2, q3, q4⟩, q⟩ := q1
  subst e
  cases r1 with
  | cons r rr =>
    cases rr with
    | cons r' rr =>
      cases rr
      obtain ⟨t, rfl⟩ := r
      obtain ⟨t', rfl⟩ := r'
      exact call_range_2 (range_it I1 q1 q2 q3 q4 q)

/-! ### for -/
/-- W: the invariant by the turn and a measure; N: what the body is to reach -/
def tFor (wi : TI) (g : TG) (tb : TS) : TS := fun D σ H => wi σ H fun J H1 => ∃ W : Nat → Nat → St → Hp → Prop, (∃ m, W 0 m σ H1) ∧ ∀ i m σ H, W i m σ H →
  (J.stop i H ∧ D.nx σ H) ∨ (J.go i H ∧ ∃ N : St → Hp → Prop, (∀ σ' H', N σ' H' → ∃ m', m' < m ∧ W (i + 1) m' σ' H') ∧ ∀ x H', J.yld i H x H' → g x σ H' fun σ2 H2 => tb { D with nx := N, ct := N, bk := D.nx } σ2 H2)
/-- the records at fp as they stand -/
def pinsAt (fp : List Addr) (h : Heap) : List (Addr × Obj) := fp.filterMap fun b => (h.get? b).map fun o => (b, o)
theorem mem_pinsAt {fp : List Addr} {h : Heap} {b : Addr} {o : Obj} (hb : b ∈ fp) (e : h.get? b = some o) : (b, o) ∈ pinsAt fp h := List.mem_filterMap.mpr ⟨b, hb, by rw [e]; rfl⟩
theorem of_pinsAt {fp : List Addr} {h : Heap} {p : Addr × Obj} (hp : p ∈ pinsAt fp h) : p.1 ∈ fp ∧ h.get? p.1 = some p.2 := by
  obtain ⟨b, hb, e⟩ := List.mem_filterMap.mp hp
  cases q : h.get? b with
  | none => rw [q] at e; cases e
  | some o =>
    rw [q] at e
    have e' : (b, o) = p := Option.some.inj e
    subst e'
    exact ⟨hb, q⟩
theorem Inv.pinned {pins : List (Addr × Obj)} {σ : St} {H : Hp} {s : Shared} {fp : List Addr} (I : Inv X pins σ H s) (hf : ∀ b ∈ fp, FpOk X pins H b) (ho : ∀ b ∈ fp, ∃ o, s.heap.get? b = some o ∧ ∀ v, o.data ≠ .cell v) : Inv X (pins ++ pinsAt fp s.heap) σ H s :=
  I.pins_of fun p hp => (List.mem_append.mp hp).elim (fun z => I.pin p (List.mem_append_right _ z)) fun z => by
    obtain ⟨hb, e⟩ := of_pinsAt z
    obtain ⟨f0, f1, f2, _⟩ := hf p.1 hb
    obtain ⟨o, e', d⟩ := ho p.1 hb
    rw [e] at e'; cases e'
    exact ⟨e, f0, f1, f2, d⟩
theorem Inv.unpinned {pins pl : List (Addr × Obj)} {σ : St} {H : Hp} {s : Shared} (I : Inv X (pins ++ pl) σ H s) : Inv X pins σ H s := I.pins_of fun p hp => I.pin p (List.mem_append_right _ (List.mem_append_left _ hp))
theorem ps_for {iter : Expr} {body : List Stmt} {wi : TI} {g : TG} {tb : TS} {pos : Pos} (hp : PassesOwn (model X.prog X.w) X.A X.env X.xe) (hc : X.calm = true) (hi : PI X tg iter wi) (hg : PG X tg g) (hb : PSs X body tb)
    (hs : ∀ x, foldedSetIterable iter X.env x = pure x := by intro _; rfl) : PS X (.For tg iter body [] pos) (tFor wi g tb) := by
  intro pins s σ H D I h
  refine wpAny_For (thn (hi pins s σ H _ I h) fun v s1 h1 => thn h1 fun itv s2 h2 => ?_) hs
  obtain ⟨it, fp, tn, J, H2, e, I2, T, st2, f2, W, ⟨m0, w0⟩, turn⟩ := h2
  subst e
  -- what stays true of the iterator's objects through the loop
  have stat : ∀ {H' : Hp}, (∀ b ∈ fp, H' b = none) → ∀ b ∈ fp, FpOk X pins H' b := fun hn b hb => ⟨hn b hb, (f2 b hb).2⟩
  refine codeAny_forLoop_any (fun n s' => ∃ i σ' H', Inv X pins σ' H' s' ∧ tn i s'.heap ∧ (∀ b ∈ fp, H' b = none) ∧ W i n σ' H') ?_ m0 ⟨0, σ, H2, I2, st2, fun b hb => (f2 b hb).1, w0⟩
  rintro n s3 ⟨i, σ3, H3, I3, st3, fr3, w3⟩
  rcases turn i n σ3 H3 w3 with ⟨stop, qn⟩ | ⟨go, N, hN, step⟩
  · refine wpAny_passesOwn hp (thn (T.done X rfl rfl rfl hc i pins s3 σ3 H3 X.xe I3 (stat fr3) st3 stop) fun r s4 ⟨hr, I4⟩ => ?_)
    subst hr
    exact wpAny_execs_nil ⟨σ3, H3, I4, qn⟩
  · refine wpAny_passesOwn hp (thn (T.item X rfl rfl rfl hc i pins s3 σ3 H3 X.xe I3 (stat fr3) st3 go) fun r s4 ⟨u, hr, h4⟩ => ?_)
    subst hr
    refine wpAny_passesOwn hp (thn h4 fun _ s5 ⟨x, H5, I5, r5, y5, st5, fr5⟩ => ?_)
    have I5' := I5.pinned (stat fr5) (T.obj _ _ st5)
    refine wpAny_passesOwn hp (thn (hg _ s5 σ3 H5 x u _ I5' r5 (step x H5 y5)) fun _ s6 ⟨σ6, H6, I6, q6⟩ => ?_)
    refine wpAny_passesOwn hp (thn (hb _ s6 σ6 H6 _ I6 q6) fun f s7 q7 => ?_)
    have again : ∀ {σ7 : St} {H7 : Hp}, Inv X (pins ++ pinsAt fp s5.heap) σ7 H7 s7 → N σ7 H7 → ∃ m, m < n ∧ ∃ i σ' H', Inv X pins σ' H' s7 ∧ tn i s7.heap ∧ (∀ b ∈ fp, H' b = none) ∧ W i m σ' H' := fun {σ7 H7} I7 n7 => by
      obtain ⟨m', hm, w7⟩ := hN σ7 H7 n7
      refine ⟨m', hm, i + 1, σ7, H7, I7.unpinned, T.keep _ _ _ st5 fun b hb o e => (I7.pin (b, o) (List.mem_append_right _ (List.mem_append_right _ (mem_pinsAt hb e)))).1, fun b hb => ?_, w7⟩
      obtain ⟨o, e, d⟩ := T.obj _ _ st5 b hb
      exact (I7.pin (b, o) (List.mem_append_right _ (List.mem_append_right _ (mem_pinsAt hb e)))).2.1
    cases f with
    | next => obtain ⟨σ7, H7, I7, n7⟩ := q7; exact again I7 n7
    | cont => obtain ⟨σ7, H7, I7, n7⟩ := q7; exact again I7 n7
    | brk => obtain ⟨σ7, H7, I7, q7⟩ := q7; exact ⟨σ7, H7, I7.unpinned, q7⟩
    | ret v => obtain ⟨x7, σ7, H7, I7, r7, q7⟩ := q7; exact ⟨x7, σ7, H7, I7.unpinned, r7, q7⟩
end

/-! ### the forms one uses -/
/-- over a list that the body leaves as it is -/
theorem for_list {K : PySem.W.Frag} {a : Addr} {xs : List V} {g : TG} {tb : TS} {D : Ends} {σ : St} {H : Hp} (Pv : Nat → St → Hp → Prop) (h0 : Pv 0 σ H) (hl : ∀ i σ H, i ≤ xs.length → Pv i σ H → SqL K H a xs)
    (hs : ∀ i x σ H, xs[i]? = some x → Pv i σ H → g x σ H fun σ2 H2 => tb { D with nx := Pv (i + 1), ct := Pv (i + 1), bk := D.nx } σ2 H2) (hd : ∀ σ H, Pv xs.length σ H → D.nx σ H) :
    ∃ W : Nat → Nat → St → Hp → Prop, (∃ m, W 0 m σ H) ∧ ∀ i m σ H, W i m σ H →
      ((Itl K a).stop i H ∧ D.nx σ H) ∨ ((Itl K a).go i H ∧ ∃ N : St → Hp → Prop, (∀ σ' H', N σ' H' → ∃ m', m' < m ∧ W (i + 1) m' σ' H') ∧ ∀ x H', (Itl K a).yld i H x H' → g x σ H' fun σ2 H2 => tb { D with nx := N, ct := N, bk := D.nx } σ2 H2) := by
  refine ⟨fun i m σ H => m = xs.length - i ∧ i ≤ xs.length ∧ Pv i σ H, ⟨xs.length, by simp, Nat.zero_le _, h0⟩, ?_⟩
  rintro i m σ H ⟨rfl, hi, p⟩
  have q := hl i σ H hi p
  by_cases hlt : i < xs.length
  · refine .inr ⟨⟨xs, xs[i], q, by simp [hlt]⟩, Pv (i + 1), fun σ' H' p' => ⟨xs.length - (i + 1), by omega, rfl, hlt, p'⟩, fun x H' y => ?_⟩
    obtain ⟨e, y⟩ := y
    subst e
    exact hs i x σ _ (y xs q) p
  · have e : i = xs.length := by omega
    subst e
    exact .inl ⟨⟨xs, q, Nat.le_refl _⟩, hd σ H p⟩
theorem for_tup {K : PySem.W.Frag} {a : Addr} {xs : List V} {g : TG} {tb : TS} {D : Ends} {σ : St} {H : Hp} (Pv : Nat → St → Hp → Prop) (h0 : Pv 0 σ H) (hl : ∀ i σ H, i ≤ xs.length → Pv i σ H → SqT K H a xs)
    (hs : ∀ i x σ H, xs[i]? = some x → Pv i σ H → g x σ H fun σ2 H2 => tb { D with nx := Pv (i + 1), ct := Pv (i + 1), bk := D.nx } σ2 H2) (hd : ∀ σ H, Pv xs.length σ H → D.nx σ H) :
    ∃ W : Nat → Nat → St → Hp → Prop, (∃ m, W 0 m σ H) ∧ ∀ i m σ H, W i m σ H →
      ((Itt K a).stop i H ∧ D.nx σ H) ∨ ((Itt K a).go i H ∧ ∃ N : St → Hp → Prop, (∀ σ' H', N σ' H' → ∃ m', m' < m ∧ W (i + 1) m' σ' H') ∧ ∀ x H', (Itt K a).yld i H x H' → g x σ H' fun σ2 H2 => tb { D with nx := N, ct := N, bk := D.nx } σ2 H2) := by
  refine ⟨fun i m σ H => m = xs.length - i ∧ i ≤ xs.length ∧ Pv i σ H, ⟨xs.length, by simp, Nat.zero_le _, h0⟩, ?_⟩
  rintro i m σ H ⟨rfl, hi, p⟩
  have q := hl i σ H hi p
  by_cases hlt : i < xs.length
  · refine .inr ⟨⟨xs, xs[i], q, by simp [hlt]⟩, Pv (i + 1), fun σ' H' p' => ⟨xs.length - (i + 1), by omega, rfl, hlt, p'⟩, fun x H' y => ?_⟩
    obtain ⟨e, y⟩ := y
    subst e
    exact hs i x σ _ (y xs q) p
  · have e : i = xs.length := by omega
    subst e
    exact .inl ⟨⟨xs, q, Nat.le_refl _⟩, hd σ H p⟩
theorem for_range {lo : Int} {n : Nat} {g : TG} {tb : TS} {D : Ends} {σ : St} {H : Hp} (Pv : Nat → St → Hp → Prop) (h0 : Pv 0 σ H)
    (hs : ∀ i σ H, i < n → Pv i σ H → g (.int (lo + i)) σ H fun σ2 H2 => tb { D with nx := Pv (i + 1), ct := Pv (i + 1), bk := D.nx } σ2 H2) (hd : ∀ σ H, Pv n σ H → D.nx σ H) :
    ∃ W : Nat → Nat → St → Hp → Prop, (∃ m, W 0 m σ H) ∧ ∀ i m σ H, W i m σ H →
      ((Itr lo n).stop i H ∧ D.nx σ H) ∨ ((Itr lo n).go i H ∧ ∃ N : St → Hp → Prop, (∀ σ' H', N σ' H' → ∃ m', m' < m ∧ W (i + 1) m' σ' H') ∧ ∀ x H', (Itr lo n).yld i H x H' → g x σ H' fun σ2 H2 => tb { D with nx := N, ct := N, bk := D.nx } σ2 H2) := by
  refine ⟨fun i m σ H => m = n - i ∧ i ≤ n ∧ Pv i σ H, ⟨n, by simp, Nat.zero_le _, h0⟩, ?_⟩
  rintro i m σ H ⟨rfl, hi, p⟩
  by_cases hlt : i < n
  · refine .inr ⟨hlt, Pv (i + 1), fun σ' H' p' => ⟨n - (i + 1), by omega, rfl, hlt, p'⟩, fun x H' y => ?_⟩
    obtain ⟨e, y⟩ := y
    subst e y
    exact hs i σ _ hlt p
  · have e : i = n := by omega
    subst e
    exact .inl ⟨Nat.le_refl _, hd σ H p⟩
/-- while, by a word and a measure of the state -/
theorem while_by {c : TT} {tb : TS} {D : Ends} {σ : St} {H : Hp} (Pv : St → Hp → Prop) (μ : St → Hp → Nat) (h0 : Pv σ H)
    (hs : ∀ σ H, Pv σ H → c σ H fun b H1 => if b = true then tb { D with nx := fun σ' H' => Pv σ' H' ∧ μ σ' H' < μ σ H, ct := fun σ' H' => Pv σ' H' ∧ μ σ' H' < μ σ H, bk := D.nx } σ H1 else D.nx σ H1)
    (mono : ∀ σ H Q Q', (∀ b H1, Q b H1 → Q' b H1) → c σ H Q → c σ H Q') : tWhile c tb D σ H := by
  refine ⟨fun m σ H => m = μ σ H ∧ Pv σ H, ⟨_, rfl, h0⟩, ?_⟩
  rintro m σ H ⟨rfl, p⟩
  refine mono σ H _ _ (fun b H1 q => ?_) (hs σ H p)
  cases b with
  | true => exact ⟨_, fun σ' H' ⟨p', l⟩ => ⟨_, l, rfl, p'⟩, q⟩
  | false => exact q
end L2

namespace L2
open PySem PySem.Spec PyProof.Rows

abbrev R2 := V → V → Hp → VK → Prop
/-- a two-place operation on values: f is binaryOp op, inplaceOp op or compareOp op -/
def OpR (X : Cx) (f : Value → Value → Sem Value) (r : R2) : Prop :=
  ∀ (pins : List (Addr × Obj)) (s : Shared) (σ : St) (H : Hp) (x y : V) (v u : Value) (Q : VK), Inv X pins σ H s → RelV x v → RelV y u → r x y H Q →
    wpAny (model X.prog X.w) X.A (f v u) (EP X pins σ Q) X.xe s
/-- a one-place operation -/
def UnR (X : Cx) (f : Value → Sem Value) (r : V → Hp → VK → Prop) : Prop :=
  ∀ (pins : List (Addr × Obj)) (s : Shared) (σ : St) (H : Hp) (x : V) (v : Value) (Q : VK), Inv X pins σ H s → RelV x v → r x H Q →
    wpAny (model X.prog X.w) X.A (f v) (EP X pins σ Q) X.xe s
/-- a call of a value that is known (a builtin, a type) with values -/
def CallR (X : Cx) (f : Value) (r : List V → Hp → VK → Prop) : Prop :=
  ∀ (pins : List (Addr × Obj)) (s : Shared) (σ : St) (H : Hp) (xs : List V) (us : List Value) (Q : VK), Inv X pins σ H s → Vals xs us → r xs H Q →
    wpAny (model X.prog X.w) X.A (call f us) (EP X pins σ Q) X.xe s
/-- a value's truth -/
def TruR (X : Cx) (r : V → Hp → (Bool → Hp → Prop) → Prop) : Prop :=
  ∀ (pins : List (Addr × Obj)) (s : Shared) (σ : St) (H : Hp) (x : V) (v : Value) (Q : Bool → Hp → Prop), Inv X pins σ H s → RelV x v → r x H Q →
    wpAny (model X.prog X.w) X.A (truthy v) (TP X pins σ Q) X.xe s

def tOp (r : R2) (ta tb : TE) : TE := fun σ H Q => ta σ H fun x H1 => tb σ H1 fun y H2 => r x y H2 Q
def tUn (r : V → Hp → VK → Prop) (ta : TE) : TE := fun σ H Q => ta σ H fun x H1 => r x H1 Q
/-- ints in, under C, and a value out -/
def rI (C : Int → Int → Prop) (g : Int → Int → V) : R2 := fun x y H Q => ∃ i j, x = .int i ∧ y = .int j ∧ C i j ∧ Q (g i j) H
def rI0 (g : Int → Int → V) : R2 := fun x y H Q => ∃ i j, x = .int i ∧ y = .int j ∧ Q (g i j) H
def rU (g : Int → V) : V → Hp → VK → Prop := fun x H Q => ∃ i, x = .int i ∧ Q (g i) H

section
variable {X : Cx} {a b c : Expr} {ta tb tc : TE} {pos : Pos}

theorem binT (ha : PE X a ta) (hb : PE X b tb) {pins : List (Addr × Obj)} {s : Shared} {σ : St} {H : Hp} {R : V → V → Hp → Prop} (I : Inv X pins σ H s)
    (h : ta σ H fun x H1 => tb σ H1 fun y H2 => R x y H2) {Q : Value → Shared → Prop} {f : Value → Value → Sem Value}
    (hf : ∀ v u s2 x y H2, Inv X pins σ H2 s2 → RelV x v → RelV y u → R x y H2 → wpAny (model X.prog X.w) X.A (f v u) Q X.xe s2) :
    wpAny (model X.prog X.w) X.A (eval a X.env) (fun v s₁ => wpAny (model X.prog X.w) X.A (eval b X.env) (fun u s₂ => wpAny (model X.prog X.w) X.A (f v u) Q X.xe s₂) X.xe s₁) X.xe s := by
  refine thn (ha pins s σ H _ I h) fun v s1 ⟨x, H1, I1, r1, q1⟩ => ?_
  refine thn (hb pins s1 σ H1 _ I1 q1) fun u s2 ⟨y, H2, I2, r2, q2⟩ => ?_
  exact hf v u s2 x y H2 I2 r1 r2 q2

theorem pe_op {op : Operator} {r : R2} (ho : OpR X (binaryOp op) r) (ha : PE X a ta) (hb : PE X b tb) : PE X (.BinOp a op b pos) (tOp r ta tb) := by
  intro pins s σ H Q I h
  exact wpAny_BinOp (binT ha hb I h fun v u s2 x y H2 I2 rx ry q => ho pins s2 σ H2 x y v u Q I2 rx ry q)
theorem pe_un {op : UnaryOp} {r : V → Hp → VK → Prop} (ho : UnR X (unaryOp op) r) (ha : PE X a ta) : PE X (.UnaryOp op a pos) (tUn r ta) := by
  intro pins s σ H Q I h
  exact UnaryOp_ (thn (ha pins s σ H _ I h) fun v s1 ⟨x, H1, I1, r1, q1⟩ => ho pins s1 σ H1 x v Q I1 r1 q1)
/-- a op= e at a name: the name's slot i -/
theorem augR {op : Operator} {r : R2} (ho : OpR X (inplaceOp op) r) {pins : List (Addr × Obj)} {s : Shared} {σ : St} {H : Hp} {x y : V} {v u : Value} {Q : VK} (I : Inv X pins σ H s)
    (rx : RelV x v) (ry : RelV y u) (q : r x y H Q) : wpAny (model X.prog X.w) X.A (inplaceOp op v u) (EP X pins σ Q) X.xe s := ho pins s σ H x y v u Q I rx ry q

/-! ### ints -/
theorem opI {f : Value → Value → Sem Value} {C : Int → Int → Prop} {g : Int → Int → Int}
    (rule : ∀ (i j : Int) (t u : Tok) (s : Shared) (Q : Value → Shared → Prop) (E : Value → Shared → Prop), C i j → Q (.int (g i j) s.toks) { s with toks := s.toks + 1 } → wpAny (model X.prog X.w) X.A (f (.int i t) (.int j u)) Q E s) :
    OpR X f (rI C fun i j => .int (g i j)) := by
  intro pins s σ H x y v u Q I rx ry h
  obtain ⟨i, j, rfl, rfl, hc, q⟩ := h
  obtain ⟨t, rfl⟩ := rx
  obtain ⟨t', rfl⟩ := ry
  exact rule i j t t' s _ _ hc ⟨.int (g i j), H, I.tok _, ⟨_, rfl⟩, q⟩
theorem opI0 {f : Value → Value → Sem Value} {g : Int → Int → Int}
    (rule : ∀ (i j : Int) (t u : Tok) (s : Shared) (Q : Value → Shared → Prop) (E : Value → Shared → Prop), Q (.int (g i j) s.toks) { s with toks := s.toks + 1 } → wpAny (model X.prog X.w) X.A (f (.int i t) (.int j u)) Q E s) :
    OpR X f (rI0 fun i j => .int (g i j)) := by
  intro pins s σ H x y v u Q I rx ry h
  obtain ⟨i, j, rfl, rfl, q⟩ := h
  obtain ⟨t, rfl⟩ := rx
  obtain ⟨t', rfl⟩ := ry
  exact rule i j t t' s _ _ ⟨.int (g i j), H, I.tok _, ⟨_, rfl⟩, q⟩
theorem opB0 {f : Value → Value → Sem Value} {g : Int → Int → Bool}
    (rule : ∀ (i j : Int) (t u : Tok) (s : Shared) (Q : Value → Shared → Prop) (E : Value → Shared → Prop), Q (.bool (g i j)) s → wpAny (model X.prog X.w) X.A (f (.int i t) (.int j u)) Q E s) :
    OpR X f (rI0 fun i j => .bl (g i j)) := by
  intro pins s σ H x y v u Q I rx ry h
  obtain ⟨i, j, rfl, rfl, q⟩ := h
  obtain ⟨t, rfl⟩ := rx
  obtain ⟨t', rfl⟩ := ry
  exact rule i j t t' s _ _ ⟨.bl (g i j), H, I, rfl, q⟩

def CDiv (i j : Int) : Prop := 0 < j ∧ j < 1073741824
def CDivN (i j : Int) : Prop := j ≠ 0 ∧ j.natAbs < 1073741824
def CPow (i j : Int) : Prop := 0 ≤ j ∧ j ≤ 1000000 ∧ i.natAbs < 2 ^ 64
def CMul (i j : Int) : Prop := (-(2 ^ 64) < i ∧ i < 2 ^ 64) ∨ (-(2 ^ 64) < j ∧ j < 2 ^ 64)
theorem CMul.ok {i j : Int} (h : CMul i j) : IntMulOk i j := by
  rcases h with ⟨h1, h2⟩ | ⟨h1, h2⟩
  · exact .of_left (intBits_le_64 h1 h2)
  · exact .of_right (intBits_le_64 h1 h2)
theorem two_pow_nn (k : Nat) : (0 : Int) ≤ 2 ^ k := by
  rw [two_pow_cast]
  exact Int.natCast_nonneg _

theorem op_add : OpR X (binaryOp .Add) (rI0 fun i j => .int (i + j)) := opI0 fun _ _ _ _ _ _ _ q => add_int q
theorem op_sub : OpR X (binaryOp .Sub) (rI0 fun i j => .int (i - j)) := opI0 fun _ _ _ _ _ _ _ q => sub_int q
theorem op_mul : OpR X (binaryOp .Mult) (rI CMul fun i j => .int (i * j)) := opI fun _ _ _ _ _ _ _ hc q => mul_int q hc.ok
/-- // by a positive divisor -/
theorem op_fdiv : OpR X (binaryOp .FloorDiv) (rI CDiv fun i j => .int (i / j)) := opI fun i j _ _ _ _ _ hc q => by
  have h1 : (0 : Int) < j := hc.1
  have h2 : j < 1073741824 := hc.2
  exact floordiv_int (by omega) (by rw [Int.fdiv_eq_ediv_of_nonneg i (by omega)]; exact q) (.inl (PyProof.noPylong_small (by omega)))
theorem op_fdivN : OpR X (binaryOp .FloorDiv) (rI CDivN fun i j => .int (i.fdiv j)) := opI fun _ _ _ _ _ _ _ hc q => floordiv_int hc.1 q (.inl (PyProof.noPylong_small hc.2))
/-- % by a positive divisor of any size -/
theorem op_mod : OpR X (binaryOp .Mod) (rI (fun _ j => 0 < j) fun i j => .int (i % j)) := opI fun i j _ _ _ _ _ hc q => by
  have h1 : (0 : Int) < j := hc
  exact mod_int' (by omega) (by rw [Int.fmod_eq_emod_of_nonneg i (by omega)]; exact q)
theorem op_modN : OpR X (binaryOp .Mod) (rI (fun _ j => j ≠ 0) fun i j => .int (i.fmod j)) := opI fun _ _ _ _ _ _ _ hc q => mod_int' hc q
theorem op_pow : OpR X (binaryOp .Pow) (rI CPow fun i j => .int (i ^ j.toNat)) := opI fun _ _ _ _ _ _ _ hc q => pow_int_small hc.1 hc.2.1 hc.2.2 q
theorem op_shl : OpR X (binaryOp .LShift) (rI CPow fun i j => .int (i * 2 ^ j.toNat)) := opI fun _ _ _ _ _ _ _ hc q => lshift_int_small hc.1 hc.2.1 hc.2.2 q
theorem op_shr : OpR X (binaryOp .RShift) (rI (fun _ j => 0 ≤ j) fun i j => .int (i / 2 ^ j.toNat)) := opI fun i j _ _ _ _ _ hc q =>
  rshift_int hc (by rw [Int.fdiv_eq_ediv_of_nonneg i (two_pow_nn _)]; exact q)
theorem op_and : OpR X (binaryOp .BitAnd) (rI0 fun i j => .int (Builtin.bitAnd i j)) := opI0 fun _ _ _ _ _ _ _ q => and_int q
theorem op_or : OpR X (binaryOp .BitOr) (rI0 fun i j => .int (Builtin.bitOr i j)) := opI0 fun _ _ _ _ _ _ _ q => or_int q
theorem op_xor : OpR X (binaryOp .BitXor) (rI0 fun i j => .int (Builtin.bitXor i j)) := opI0 fun _ _ _ _ _ _ _ q => xor_int q

theorem iop_add : OpR X (inplaceOp .Add) (rI0 fun i j => .int (i + j)) := opI0 fun _ _ _ _ _ _ _ q => iadd_int q
theorem iop_sub : OpR X (inplaceOp .Sub) (rI0 fun i j => .int (i - j)) := opI0 fun _ _ _ _ _ _ _ q => isub_int q
theorem iop_mul : OpR X (inplaceOp .Mult) (rI CMul fun i j => .int (i * j)) := opI fun _ _ _ _ _ _ _ hc q => imul_int q hc.ok
theorem iop_fdiv : OpR X (inplaceOp .FloorDiv) (rI CDiv fun i j => .int (i / j)) := opI fun i j _ _ _ _ _ hc q => by
  have h1 : (0 : Int) < j := hc.1
  have h2 : j < 1073741824 := hc.2
  exact ifloordiv_int (by omega) (by rw [Int.fdiv_eq_ediv_of_nonneg i (by omega)]; exact q) (.inl (PyProof.noPylong_small (by omega)))
theorem iop_mod : OpR X (inplaceOp .Mod) (rI (fun _ j => 0 < j) fun i j => .int (i % j)) := opI fun i j _ _ _ _ _ hc q => by
  have h1 : (0 : Int) < j := hc
  exact imod_int (by omega) (by rw [Int.fmod_eq_emod_of_nonneg i (by omega)]; exact q)
theorem iop_shl : OpR X (inplaceOp .LShift) (rI CPow fun i j => .int (i * 2 ^ j.toNat)) := opI fun _ _ _ _ _ _ _ hc q => ilshift_int_small hc.1 hc.2.1 hc.2.2 q
theorem iop_shr : OpR X (inplaceOp .RShift) (rI (fun _ j => 0 ≤ j) fun i j => .int (i / 2 ^ j.toNat)) := opI fun i j _ _ _ _ _ hc q =>
  irshift_int hc (by rw [Int.fdiv_eq_ediv_of_nonneg i (two_pow_nn _)]; exact q)
theorem iop_and : OpR X (inplaceOp .BitAnd) (rI0 fun i j => .int (Builtin.bitAnd i j)) := opI0 fun _ _ _ _ _ _ _ q => iand_int q
theorem iop_or : OpR X (inplaceOp .BitOr) (rI0 fun i j => .int (Builtin.bitOr i j)) := opI0 fun _ _ _ _ _ _ _ q => ior_int q
theorem iop_xor : OpR X (inplaceOp .BitXor) (rI0 fun i j => .int (Builtin.bitXor i j)) := opI0 fun _ _ _ _ _ _ _ q => ixor_int q

theorem unI {f : Value → Sem Value} {g : Int → Int}
    (rule : ∀ (i : Int) (t : Tok) (s : Shared) (Q : Value → Shared → Prop) (E : Value → Shared → Prop), Q (.int (g i) s.toks) { s with toks := s.toks + 1 } → wpAny (model X.prog X.w) X.A (f (.int i t)) Q E s) :
    UnR X f (rU fun i => .int (g i)) := by
  intro pins s σ H x v Q I rx h
  obtain ⟨i, rfl, q⟩ := h
  obtain ⟨t, rfl⟩ := rx
  exact rule i t s _ _ ⟨.int (g i), H, I.tok _, ⟨_, rfl⟩, q⟩
theorem un_neg : UnR X (unaryOp .USub) (rU fun i => .int (-i)) := unI fun _ _ _ _ _ q => neg_int q
theorem un_inv : UnR X (unaryOp .Invert) (rU fun i => .int (Builtin.bitNot i)) := unI fun _ _ _ _ _ q => invert_int q

/-! ### bools among ints: n += (a < b) -/
theorem op_add_ib : OpR X (binaryOp .Add) (fun x y H Q => ∃ i k, x = .int i ∧ y = .bl k ∧ Q (.int (i + b2i k)) H) := by
  intro pins s σ H x y v u Q I rx ry h
  obtain ⟨i, k, rfl, rfl, q⟩ := h
  obtain ⟨t, rfl⟩ := rx
  cases ry
  exact add_int_bool ⟨.int (i + b2i k), H, I.tok _, ⟨_, rfl⟩, q⟩
end

/-! ### comparisons -/
/-- the scalars that == tells apart as data does -/
def scal : V → V → Bool
  | .non, .non => true | .non, .int _ => true | .int _, .non => true | .non, .bl _ => true | .bl _, .non => true | .non, .str _ => true | .str _, .non => true
  | .int _, .int _ => true | .bl _, .bl _ => true | .str _, .str _ => true | .byt _, .byt _ => true
  | .int _, .str _ => true | .str _, .int _ => true | .bl _, .str _ => true | .str _, .bl _ => true
  | _, _ => false
def rEq : R2 := fun x y H Q => scal x y = true ∧ Q (.bl (decide (x = y))) H
def rNe : R2 := fun x y H Q => scal x y = true ∧ Q (.bl (!decide (x = y))) H

theorem dec_int {i j : Int} : decide (V.int i = V.int j) = (i == j) := by
  rw [Bool.eq_iff_iff]
  simp
theorem dec_bl {i j : Bool} : decide (V.bl i = V.bl j) = (i == j) := by
  rw [Bool.eq_iff_iff]
  simp
theorem dec_str {i j : Str} : decide (V.str i = V.str j) = (i == j) := by
  rw [Bool.eq_iff_iff]
  simp
theorem dec_byt {i j : Array UInt8} : decide (V.byt i = V.byt j) = (i.toList == j.toList) := by
  rw [Bool.eq_iff_iff]
  cases i
  cases j
  simp

section
variable {X : Cx} {a b c : Expr} {ta tb tc : TE} {pos : Pos}
theorem fin_bl {pins : List (Addr × Obj)} {σ : St} {H : Hp} {s : Shared} {Q : VK} {k k' : Bool} (I : Inv X pins σ H s) (q : Q (.bl k) H) (e : k = k') : EP X pins σ Q (.bool k') s := by
  subst e
  exact ⟨.bl k, H, I, rfl, q⟩
theorem op_eq : OpR X (compareOp .Eq) rEq := by
  intro pins s σ H x y v u Q I rx ry h
  obtain ⟨hs, q⟩ := h
  cases x with
  | non =>
    cases rx
    cases y with
    | non => cases ry; exact PySem.EqNone.eq_none_none (fin_bl I q (by simp))
    | bl j => cases ry; exact PySem.EqNone.eq_none_bool (fin_bl I q (by simp))
    | int j => obtain ⟨t', rfl⟩ := ry; exact PySem.EqNone.eq_none_int (fin_bl I q (by simp))
    | str j => obtain ⟨t', rfl⟩ := ry; exact PySem.EqNone.eq_none_str (fin_bl I q (by simp))
    | _ => exact absurd (show false = true from hs) Bool.false_ne_true
  | bl i =>
    cases rx
    cases y with
    | non => cases ry; exact PySem.EqNone.eq_bool_none (fin_bl I q (by simp))
    | bl j => cases ry; exact eq_bool (fin_bl I q dec_bl)
    | str j => obtain ⟨t', rfl⟩ := ry; exact PySem.EqMixed.eq_bool_str (fin_bl I q (by simp))
    | _ => exact absurd (show false = true from hs) Bool.false_ne_true
  | int i =>
    obtain ⟨t, rfl⟩ := rx
    cases y with
    | non => cases ry; exact PySem.EqNone.eq_int_none (fin_bl I q (by simp))
    | int j => obtain ⟨t', rfl⟩ := ry; exact eq_int (fin_bl I q dec_int)
    | str j => obtain ⟨t', rfl⟩ := ry; exact PySem.EqMixed.eq_int_str (fin_bl I q (by simp))
    | _ => exact absurd (show false = true from hs) Bool.false_ne_true
  | str i =>
    obtain ⟨t, rfl⟩ := rx
    cases y with
    | non => cases ry; exact PySem.EqNone.eq_str_none (fin_bl I q (by simp))
    | bl j => cases ry; exact PySem.EqMixed.eq_str_bool (fin_bl I q (by simp))
    | int j => obtain ⟨t', rfl⟩ := ry; exact PySem.EqMixed.eq_str_int (fin_bl I q (by simp))
    | str j => obtain ⟨t', rfl⟩ := ry; exact eq_str (fin_bl I q dec_str)
    | _ => exact absurd (show false = true from hs) Bool.false_ne_true
  | byt i =>
    obtain ⟨t, rfl⟩ := rx
    cases y with
    | byt j => obtain ⟨t', rfl⟩ := ry; exact PySem.W.eq_bytes (fin_bl I q dec_byt)
    | _ => exact absurd (show false = true from hs) Bool.false_ne_true
  | _ => cases y <;> exact absurd (show false = true from hs) Bool.false_ne_true
theorem op_ne : OpR X (compareOp .NotEq) rNe := by
  intro pins s σ H x y v u Q I rx ry h
  obtain ⟨hs, q⟩ := h
  cases x with
  | non =>
    cases rx
    cases y with
    | non => cases ry; exact PySem.EqNone.ne_none_none (fin_bl I q (by simp))
    | bl j => cases ry; exact PySem.EqNone.ne_none_bool (fin_bl I q (by simp))
    | int j => obtain ⟨t', rfl⟩ := ry; exact PySem.EqNone.ne_none_int (fin_bl I q (by simp))
    | str j => obtain ⟨t', rfl⟩ := ry; exact PySem.EqNone.ne_none_str (fin_bl I q (by simp))
    | _ => exact absurd (show false = true from hs) Bool.false_ne_true
  | bl i =>
    cases rx
    cases y with
    | non => cases ry; exact PySem.EqNone.ne_bool_none (fin_bl I q (by simp))
    | bl j => cases ry; exact ne_bool (fin_bl I q (congrArg not dec_bl))
    | str j => obtain ⟨t', rfl⟩ := ry; exact PySem.EqMixed.ne_bool_str (fin_bl I q (by simp))
    | _ => exact absurd (show false = true from hs) Bool.false_ne_true
  | int i =>
    obtain ⟨t, rfl⟩ := rx
    cases y with
    | non => cases ry; exact PySem.EqNone.ne_int_none (fin_bl I q (by simp))
    | int j => obtain ⟨t', rfl⟩ := ry; exact ne_int (fin_bl I q (congrArg not dec_int))
    | str j => obtain ⟨t', rfl⟩ := ry; exact PySem.EqMixed.ne_int_str (fin_bl I q (by simp))
    | _ => exact absurd (show false = true from hs) Bool.false_ne_true
  | str i =>
    obtain ⟨t, rfl⟩ := rx
    cases y with
    | non => cases ry; exact PySem.EqNone.ne_str_none (fin_bl I q (by simp))
    | bl j => cases ry; exact PySem.EqMixed.ne_str_bool (fin_bl I q (by simp))
    | int j => obtain ⟨t', rfl⟩ := ry; exact PySem.EqMixed.ne_str_int (fin_bl I q (by simp))
    | str j => obtain ⟨t', rfl⟩ := ry; exact ne_str (fin_bl I q (congrArg not dec_str))
    | _ => exact absurd (show false = true from hs) Bool.false_ne_true
  | byt i =>
    obtain ⟨t, rfl⟩ := rx
    cases y with
    | byt j => obtain ⟨t', rfl⟩ := ry; exact PySem.W.ne_bytes (fin_bl I q (congrArg not dec_byt))
    | _ => exact absurd (show false = true from hs) Bool.false_ne_true
  | _ => cases y <;> exact absurd (show false = true from hs) Bool.false_ne_true

theorem op_lt : OpR X (compareOp .Lt) (rI0 fun i j => .bl (decide (i < j))) := opB0 fun _ _ _ _ _ _ _ q => lt_int q
theorem op_le : OpR X (compareOp .LtE) (rI0 fun i j => .bl (decide (i ≤ j))) := opB0 fun _ _ _ _ _ _ _ q => le_int q
theorem op_gt : OpR X (compareOp .Gt) (rI0 fun i j => .bl (decide (j < i))) := opB0 fun _ _ _ _ _ _ _ q => gt_int q
theorem op_ge : OpR X (compareOp .GtE) (rI0 fun i j => .bl (decide (j ≤ i))) := opB0 fun _ _ _ _ _ _ _ q => ge_int q
theorem op_lt_str : OpR X (compareOp .Lt) (fun x y H Q => ∃ i j, x = .str i ∧ y = .str j ∧ Q (.bl (decide (i.cps.toList < j.cps.toList))) H) := by
  intro pins s σ H x y v u Q I rx ry h
  obtain ⟨i, j, rfl, rfl, q⟩ := h
  obtain ⟨t, rfl⟩ := rx
  obtain ⟨t', rfl⟩ := ry
  exact lt_str (fin_bl I q rfl)
/-- the one string within the other -/
theorem op_in_str : OpR X (compareOp .In) (fun x y H Q => ∃ i j, x = .str i ∧ y = .str j ∧ Q (.bl (!(Builtin.Str.occurrences j i 0 j.length 1).isEmpty)) H) := by
  intro pins s σ H x y v u Q I rx ry h
  obtain ⟨i, j, rfl, rfl, q⟩ := h
  obtain ⟨t, rfl⟩ := rx
  obtain ⟨t', rfl⟩ := ry
  exact in_str (fin_bl I q rfl)

/-- is None, is not None: the right side a value none -/
theorem op_isN : OpR X (compareOp .Is) (fun x y H Q => y = .non ∧ Q (.bl (decide (x = .non))) H) := by
  intro pins s σ H x y v u Q I rx ry h
  obtain ⟨rfl, q⟩ := h
  cases ry
  refine is_none_gen (fin_bl I q ?_)
  cases x <;> first
    | (cases rx; rfl)
    | (obtain ⟨t, rfl⟩ := rx; rfl)
theorem op_notN : OpR X (compareOp .IsNot) (fun x y H Q => y = .non ∧ Q (.bl (!decide (x = .non))) H) := by
  intro pins s σ H x y v u Q I rx ry h
  obtain ⟨rfl, q⟩ := h
  cases ry
  refine isnot_none_gen (fin_bl I q ?_)
  cases x <;> first
    | (cases rx; rfl)
    | (obtain ⟨t, rfl⟩ := rx; rfl)

theorem op_notin_str : OpR X (compareOp .NotIn) (fun x y H Q => ∃ i j, x = .str i ∧ y = .str j ∧ Q (.bl (!(!(Builtin.Str.occurrences j i 0 j.length 1).isEmpty))) H) := by
  intro pins s σ H x y v u Q I rx ry h
  obtain ⟨i, j, rfl, rfl, q⟩ := h
  obtain ⟨t, rfl⟩ := rx
  obtain ⟨t', rfl⟩ := ry
  exact notIn_str (fin_bl I q rfl)
/-- is, is not of two objects that are tracked lists or instances -/
def isObj : HO → Bool
  | .lst _ => true
  | .ins _ _ _ => true
  | _ => false
theorem obj_there {pins : List (Addr × Obj)} {s : Shared} {σ : St} {H : Hp} {a : Addr} {o : HO} (I : Inv X pins σ H s) (h : H a = some o) (p : isObj o = true) : ∃ ob, s.heap.get? a = some ob ∧ ob.cls ≠ .type "tuple" := by
  cases o with
  | lst xs =>
    obtain ⟨_, its, n, _, e⟩ : xs.length ≤ sizeLine ∧ ∃ (its : List Value) (n : Nat), Vals xs its ∧ s.heap.get? a = some { cls := .type "list", data := .seq its.toArray n } := I.hok a _ h
    exact ⟨_, e, (by show Value.type "list" ≠ .type "tuple"; decide +kernel)⟩
  | ins C dx fs =>
    have x := I.hok a _ h
    obtain ⟨_, _, _, e, _⟩ := x
    exact ⟨_, e, (by show Value.ref C ≠ .type "tuple"; exact fun z => by cases z)⟩
  | _ => exact absurd (show false = true from p) Bool.false_ne_true
theorem op_is_ref : OpR X (compareOp .Is) (fun x y H Q => ∃ a b oa ob, x = .ref a ∧ y = .ref b ∧ H a = some oa ∧ isObj oa = true ∧ H b = some ob ∧ isObj ob = true ∧ Q (.bl (decide (a = b))) H) := by
  intro pins s σ H x y v u Q I rx ry h
  obtain ⟨a, b, oa, ob, rfl, rfl, ha, pa, hb, pb, q⟩ := h
  cases rx
  cases ry
  obtain ⟨o1, e1, n1⟩ := obj_there I ha pa
  obtain ⟨o2, e2, _⟩ := obj_there I hb pb
  by_cases z : a = b
  · subst z
    exact wpAny_is_ref_self (fin_bl I q (by simp))
  · exact wpAny_is_ref_other z e1 e2 n1 (fin_bl I q (by simp [z]))
theorem op_isnot_ref : OpR X (compareOp .IsNot) (fun x y H Q => ∃ a b oa ob, x = .ref a ∧ y = .ref b ∧ H a = some oa ∧ isObj oa = true ∧ H b = some ob ∧ isObj ob = true ∧ Q (.bl (!decide (a = b))) H) := by
  intro pins s σ H x y v u Q I rx ry h
  obtain ⟨a, b, oa, ob, rfl, rfl, ha, pa, hb, pb, q⟩ := h
  cases rx
  cases ry
  obtain ⟨o1, e1, n1⟩ := obj_there I ha pa
  obtain ⟨o2, e2, _⟩ := obj_there I hb pb
  by_cases z : a = b
  · subst z
    exact wpAny_isNot_ref_self (fin_bl I q (by simp))
  · exact wpAny_isNot_ref_other z e1 e2 n1 (fin_bl I q (by simp [z]))

/-- two rules for one operation: by cases -/
theorem OpR.or {f : Value → Value → Sem Value} {r r' : R2} (h : OpR X f r) (h' : OpR X f r') : OpR X f (fun x y H Q => r x y H Q ∨ r' x y H Q) := by
  intro pins s σ H x y v u Q I rx ry q
  rcases q with q | q
  · exact h pins s σ H x y v u Q I rx ry q
  · exact h' pins s σ H x y v u Q I rx ry q

theorem nomark (b : Expr) {op : CmpOp} (h : op ≠ .In := by decide) (h2 : op ≠ .NotIn := by decide) : behindInMarks op b = false := by
  have e1 : (op == CmpOp.In) = false := by cases op <;> first | rfl | exact absurd rfl h
  have e2 : (op == CmpOp.NotIn) = false := by cases op <;> first | rfl | exact absurd rfl h2
  cases b <;> simp [behindInMarks, e1, e2]
/-- a comparison as a value; hm: nomark b, or (for in, not in) by with_unfolding_all rfl -/
theorem pe_cmpR {op : CmpOp} {r : R2} (ho : OpR X (compareOp op) r) (ha : PE X a ta) (hb : PE X b tb) (hm : behindInMarks op b = false) : PE X (.Compare a [op] [b] pos) (tOp r ta tb) := by
  intro pins s σ H Q I h
  exact wpAny_Compare1 (binT ha hb I h fun v u s2 x y H2 I2 rx ry q => ho pins s2 σ H2 x y v u Q I2 rx ry q) hm
/-- a reading of a value as a test -/
def tTest (t : TE) : TT := fun σ H Q => t σ H fun x H' => ∃ k, x = .bl k ∧ Q k H'
theorem pt_cmpR {op : CmpOp} {r : R2} (ho : OpR X (compareOp op) r) (ha : PE X a ta) (hb : PE X b tb) (hm : behindInMarks op b = false) : PT X (.Compare a [op] [b] pos) (tTest (tOp r ta tb)) := by
  intro pins s σ H Q I h
  refine wpAny_isTrue_Compare1 (thn (ha pins s σ H _ I h) fun v s1 ⟨x, H1, I1, r1, q1⟩ => thn (hb pins s1 σ H1 _ I1 q1) fun u s2 ⟨y, H2, I2, r2, q2⟩ =>
    thn (ho pins s2 σ H2 x y v u _ I2 r1 r2 q2) fun c s3 ⟨z, H3, I3, r3, k, e, q3⟩ => ?_) hm
  subst e
  cases r3
  exact wpAny_truthy_bool ⟨H3, I3, q3⟩
/-- a op1 b op2 c -/
def tChain (r r' : R2) (ta tb tc : TE) : TE := fun σ H Q => ta σ H fun x H1 => tb σ H1 fun y H2 => r x y H2 fun z H3 => ∃ k, z = .bl k ∧
  (if k = true then tc σ H3 fun w' H4 => r' y w' H4 Q else Q (.bl false) H3)
theorem pe_chain {op op' : CmpOp} {r r' : R2} (ho : OpR X (compareOp op) r) (ho' : OpR X (compareOp op') r') (ha : PE X a ta) (hb : PE X b tb) (hc : PE X c tc)
    (hm : lastMarks [op, op'] [b, c] = false := by with_unfolding_all rfl) : PE X (.Compare a [op, op'] [b, c] pos) (tChain r r' ta tb tc) := by
  intro pins s σ H Q I h
  refine Compare_chain (thn (ha pins s σ H _ I h) fun v s1 ⟨x, H1, I1, r1, q1⟩ => chain_link (thn (hb pins s1 σ H1 _ I1 q1) fun u s2 ⟨y, H2, I2, r2, q2⟩ =>
    thn (ho pins s2 σ H2 x y v u _ I2 r1 r2 q2) fun d s3 ⟨z, H3, I3, r3, k, e, q3⟩ => ?_)) hm
  subst e
  cases r3
  refine wpAny_truthy_bool ?_
  cases k with
  | false => exact ite_ff ⟨.bl false, H3, I3, rfl, q3⟩
  | true => exact ite_tt (chain_last (thn (hc pins s3 σ H3 _ I3 q3) fun w' s4 ⟨z', H4, I4, r4, q4⟩ => ho' pins s4 σ H4 y z' u w' Q I4 r2 r4 q4))
theorem pt_chain {op op' : CmpOp} {r r' : R2} (ho : OpR X (compareOp op) r) (ho' : OpR X (compareOp op') r') (ha : PE X a ta) (hb : PE X b tb) (hc : PE X c tc)
    (hm : lastMarks [op, op'] [b, c] = false := by with_unfolding_all rfl) : PT X (.Compare a [op, op'] [b, c] pos) (tTest (tChain r r' ta tb tc)) := by
  intro pins s σ H Q I h
  refine isTrue_chain (thn (ha pins s σ H _ I h) fun v s1 ⟨x, H1, I1, r1, q1⟩ => test_link (thn (hb pins s1 σ H1 _ I1 q1) fun u s2 ⟨y, H2, I2, r2, q2⟩ =>
    thn (ho pins s2 σ H2 x y v u _ I2 r1 r2 q2) fun d s3 ⟨z, H3, I3, r3, k, e, q3⟩ => ?_)) hm
  subst e
  cases r3
  refine wpAny_truthy_bool ?_
  cases k with
  | false =>
    obtain ⟨k', e', q'⟩ := q3
    cases e'
    exact ite_ff ⟨H3, I3, q'⟩
  | true =>
    refine ite_tt (test_last (thn (hc pins s3 σ H3 _ I3 q3) fun w' s4 ⟨z', H4, I4, r4, q4⟩ => thn (ho' pins s4 σ H4 y z' u w' _ I4 r2 r4 q4) fun d' s5 ⟨z2, H5, I5, r5, k2, e2, q5⟩ => ?_))
    subst e2
    cases r5
    exact wpAny_truthy_bool ⟨H5, I5, q5⟩

/-! ### truth -/
/-- a value's truth by the abstract heap -/
def TruV (K : PySem.W.Frag) (x : V) (H : Hp) (k : Bool) : Prop :=
  match x with
  | .non => k = false
  | .bl b => k = b
  | .int i => k = (i != 0)
  | .str y => y.length ≤ sizeLine ∧ k = ((y.length : Int) != 0)
  | .byt y => y.size ≤ sizeLine ∧ k = ((y.size : Int) != 0)
  | .ref p => (∃ xs, SqL K H p xs ∧ k = !xs.isEmpty) ∨ (∃ xs, SqT K H p xs ∧ k = !xs.isEmpty) ∨ ∃ kvs, H p = some (.dK kvs) ∧ k = !kvs.isEmpty
  | _ => False
theorem isEmpty_kv {κ : Type} {kvs : List (κ × V)} {vs : List (κ × Value)} (r : KV kvs vs) : (!vs.isEmpty) = !kvs.isEmpty := by
  cases r <;> rfl
theorem isEmpty_of {xs : List V} {its : List Value} (r : Vals xs its) : (!its.toArray.isEmpty) = !xs.isEmpty := by
  cases r <;> simp
theorem line63 : (sizeLine : Nat) < 2 ^ 63 := by rw [sizeLine_eq]; decide
theorem tru_ok : TruR X (fun x H Q => ∃ k, TruV X.K x H k ∧ Q k H) := by
  intro pins s σ H x v Q I rx h
  obtain ⟨k, e, q⟩ := h
  have hl := line63
  have hs : sizeLine = 16777216 := sizeLine_eq
  cases x with
  | non =>
    cases rx
    have e' : k = false := e
    subst e'
    exact truthy_none ⟨H, I, q⟩
  | bl b =>
    cases rx
    have e' : k = b := e
    subst e'
    exact wpAny_truthy_bool ⟨H, I, q⟩
  | int i =>
    obtain ⟨t, rfl⟩ := rx
    have e' : k = (i != 0) := e
    subst e'
    exact PySem.P.truthy_int ⟨H, I, q⟩
  | str y =>
    obtain ⟨t, rfl⟩ := rx
    obtain ⟨hy, e'⟩ : y.length ≤ sizeLine ∧ k = ((y.length : Int) != 0) := e
    subst e'
    exact PySem.P.truthy_str (by omega) ⟨H, I.tok _, q⟩
  | byt y =>
    obtain ⟨t, rfl⟩ := rx
    obtain ⟨hy, e'⟩ : y.size ≤ sizeLine ∧ k = ((y.size : Int) != 0) := e
    subst e'
    exact PySem.W.truthy_bytes (by omega) ⟨H, I.tok _, q⟩
  | ref p =>
    cases rx
    have e' : (∃ xs, SqL X.K H p xs ∧ k = !xs.isEmpty) ∨ (∃ xs, SqT X.K H p xs ∧ k = !xs.isEmpty) ∨ ∃ kvs, H p = some (.dK kvs) ∧ k = !kvs.isEmpty := e
    rcases e' with ⟨xs, hx, e'⟩ | ⟨xs, hx, e'⟩ | ⟨kvs, hx, e'⟩
    · subst e'
      obtain ⟨its, r, pl, hz⟩ := I.list hx
      have hlen := r.length
      exact wpAny_truthy_list pl.isList (by simp only [List.size_toArray]; omega) ⟨H, I.tok _, by rw [isEmpty_of r]; exact q⟩
    · subst e'
      obtain ⟨its, r, pl, hz⟩ := I.tuple hx
      have hlen := r.length
      exact truthy_tuple pl (by simp only [List.size_toArray]; omega) ⟨H, I.tok _, by rw [isEmpty_of r]; exact q⟩
    · subst e'
      obtain ⟨hz, hS, vs, r, m⟩ : kvs.length ≤ sizeLine ∧ (p == sysModules) = false ∧ ∃ vs, KV kvs vs ∧ s.heap.DictOf (mixKind X.prog X.w) p vs := I.hok p _ hx
      have hlen : kvs.length = vs.length := Paired.length r
      exact wpAny_truthy_dict hS m (by omega) ⟨H, I.tok _, by rw [isEmpty_kv r]; exact q⟩
  | _ => exact (show False from e).elim
/-- any expression whose test is its value's truth (a name, a call, a subscript, a field ..: he by fun _ => rfl) -/
theorem pt_truth (ha : PE X a ta) (he : ∀ whole, isTrue a X.env whole = (do let v ← whole; standAt a.pos; holding [v] (truthy v))) :
    PT X a (fun σ H Q => ta σ H fun x H' => ∃ k, TruV X.K x H' k ∧ Q k H') := by
  intro pins s σ H Q I h
  exact isTrue_plain (thn (ha pins s σ H _ I h) fun v s1 ⟨x, H1, I1, r1, q1⟩ => tru_ok pins s1 σ H1 x v Q I1 r1 q1) (he _)

/-! ### strs and bytes -/
theorem pe_byt {x : List UInt8} {k : Nat} : PE X (.Constant (.bytes x) k pos) (fun _ H Q => Q (.byt x.toArray) H) := fun _ _ _ H _ I h => PySem.W.Constant_bytes ⟨.byt x.toArray, H, I.tok _, ⟨_, rfl⟩, h⟩
theorem op_add_str : OpR X (binaryOp .Add) (fun x y H Q => ∃ i j, x = .str i ∧ y = .str j ∧ i.length + j.length ≤ sizeLine ∧ Q (.str (i ++ j)) H) := by
  intro pins s σ H x y v u Q I rx ry h
  obtain ⟨i, j, rfl, rfl, hz, q⟩ := h
  obtain ⟨t, rfl⟩ := rx
  obtain ⟨t', rfl⟩ := ry
  exact add_str (fun t' tk => ⟨.str (i ++ j), H, I.tok _, ⟨_, rfl⟩, q⟩) hz
theorem iop_add_str : OpR X (inplaceOp .Add) (fun x y H Q => ∃ i j, x = .str i ∧ y = .str j ∧ i.length + j.length ≤ sizeLine ∧ Q (.str (i ++ j)) H) := by
  intro pins s σ H x y v u Q I rx ry h
  obtain ⟨i, j, rfl, rfl, hz, q⟩ := h
  obtain ⟨t, rfl⟩ := rx
  obtain ⟨t', rfl⟩ := ry
  exact iadd_str (fun t' tk => ⟨.str (i ++ j), H, I.tok _, ⟨_, rfl⟩, q⟩) hz
theorem op_add_byt : OpR X (binaryOp .Add) (fun x y H Q => ∃ i j, x = .byt i ∧ y = .byt j ∧ i.size + j.size ≤ 16777216 ∧ Q (.byt (i ++ j)) H) := by
  intro pins s σ H x y v u Q I rx ry h
  obtain ⟨i, j, rfl, rfl, hz, q⟩ := h
  obtain ⟨t, rfl⟩ := rx
  obtain ⟨t', rfl⟩ := ry
  exact PySem.W.KBy.add_bytes hz (fun t' tk => ⟨.byt (i ++ j), H, I.tok _, ⟨_, rfl⟩, q⟩)

def PlainIxT (b : Expr) : Prop := ∀ o i, subscripted b false o i = operate [o, i] (getItem o i)
/-- s[i], 0 ≤ i < len -/
theorem pe_item_str (ha : PE X a ta) (hb : PE X b tb) (hs : PlainIxT b) :
    PE X (.Subscript a b pos) (tOp (fun x y H Q => ∃ z i c, x = .str z ∧ y = .int i ∧ 0 ≤ i ∧ i < 2 ^ 63 ∧ i < z.length ∧ z.cps[i.toNat]? = some c ∧ Q (.str ⟨#[c]⟩) H) ta tb) := by
  intro pins s σ H Q I h
  refine Subscript_ (binT ha hb I h fun v u s2 x y H2 I2 rx ry q => ?_)
  obtain ⟨z, i, c, rfl, rfl, h0, h63, h1, hc, q⟩ := q
  obtain ⟨t, rfl⟩ := rx
  obtain ⟨t', rfl⟩ := ry
  have e : seqIndex? i z.length = some i.toNat := PySem.StrLaws.seqIndex_nonneg h0 h1
  exact tail_any (typeIs_str s2 z t) slot_str_getitem.lookup (getItem_str (c := c) (by
    have e1 : decide (i < -(2 ^ 63 : Int)) = false := decide_eq_false (by omega)
    have e2 : decide (i ≥ 2 ^ 63) = false := decide_eq_false (by omega)
    rw [e1, e2] <;> rfl) (by rw [e]; exact hc) ⟨.str ⟨#[c]⟩, H2, I2.tok _, ⟨_, rfl⟩, q⟩) (hs _ _)
/-- b[i], 0 ≤ i < len -/
theorem pe_item_byt (ha : PE X a ta) (hb : PE X b tb) (hs : PlainIxT b) :
    PE X (.Subscript a b pos) (tOp (fun x y H Q => ∃ (z : List UInt8) (i : Int), x = .byt z.toArray ∧ y = .int i ∧ z.length ≤ sizeLine ∧ 0 ≤ i ∧ i < z.length ∧ Q (.int ((z.getD i.toNat 0).toNat : Nat)) H) ta tb) := by
  intro pins s σ H Q I h
  refine Subscript_ (binT ha hb I h fun v u s2 x y H2 I2 rx ry q => ?_)
  obtain ⟨z, i, rfl, rfl, hz, h0, h1, q⟩ := q
  obtain ⟨t, rfl⟩ := rx
  obtain ⟨t', rfl⟩ := ry
  have hl : sizeLine = 16777216 := sizeLine_eq
  exact tail_any (PySem.W.typeIs_bytes s2 z.toArray t) PySem.W.FB.slot_bytes_getitem.lookup (PySem.W.getItem_bytes (by omega) h0 h1 ⟨.int ((z.getD i.toNat 0).toNat : Nat), H2, I2.tok _, ⟨_, rfl⟩, q⟩) (hs _ _)

/-! ### scalar builtins, by CallR -/
theorem vals1 {x : V} {us : List Value} (r : Vals [x] us) : ∃ u, us = [u] ∧ RelV x u := by
  cases r with
  | cons r1 r2 => cases r2; exact ⟨_, rfl, r1⟩
theorem vals2 {x y : V} {us : List Value} (r : Vals [x, y] us) : ∃ u w', us = [u, w'] ∧ RelV x u ∧ RelV y w' := by
  cases r with
  | cons r1 r2 =>
    cases r2 with
    | cons r3 r4 => cases r4; exact ⟨_, _, rfl, r1, r3⟩
theorem call_abs : CallR X (.builtin "abs") (fun xs H Q => ∃ i, xs = [.int i] ∧ Q (.int (if i < 0 then -i else i)) H) := by
  intro pins s σ H xs us Q I r h
  obtain ⟨i, rfl, q⟩ := h
  obtain ⟨u, rfl, t, rfl⟩ := vals1 r
  exact call_abs_int fun u tk => ⟨.int (if i < 0 then -i else i), H, I.tok _, ⟨_, rfl⟩, q⟩
theorem call_max2 (hc : X.calm = true) : CallR X (.builtin "max") (fun xs H Q => ∃ i j, xs = [.int i, .int j] ∧ Q (.int (if j > i then j else i)) H) := by
  intro pins s σ H xs us Q I r h
  obtain ⟨i, j, rfl, q⟩ := h
  obtain ⟨u, w', rfl, ⟨t, rfl⟩, ⟨t', rfl⟩⟩ := vals2 r
  refine max_two_ints (I.ok.hd hc) fun h' tk k => ⟨_, H, I.kept k, ?_, q⟩
  by_cases hj : j > i
  · rw [if_pos hj, if_pos hj]; exact ⟨_, rfl⟩
  · rw [if_neg hj, if_neg hj]; exact ⟨_, rfl⟩
theorem call_min2 (hc : X.calm = true) : CallR X (.builtin "min") (fun xs H Q => ∃ i j, xs = [.int i, .int j] ∧ Q (.int (if j < i then j else i)) H) := by
  intro pins s σ H xs us Q I r h
  obtain ⟨i, j, rfl, q⟩ := h
  obtain ⟨u, w', rfl, ⟨t, rfl⟩, ⟨t', rfl⟩⟩ := vals2 r
  refine min_two_ints (I.ok.hd hc) fun h' tk k => ⟨_, H, I.kept k, ?_, q⟩
  by_cases hj : j < i
  · rw [if_pos hj, if_pos hj]; exact ⟨_, rfl⟩
  · rw [if_neg hj, if_neg hj]; exact ⟨_, rfl⟩
theorem call_int1 : CallR X (.type "int") (fun xs H Q => (∃ i, xs = [.int i] ∧ Q (.int i) H) ∨ ∃ k, xs = [.bl k] ∧ Q (.int (if k then 1 else 0)) H) := by
  intro pins s σ H xs us Q I r h
  rcases h with ⟨i, rfl, q⟩ | ⟨k, rfl, q⟩
  · obtain ⟨u, rfl, t, rfl⟩ := vals1 r
    exact call_int_int ⟨.int i, H, I, ⟨_, rfl⟩, q⟩
  · obtain ⟨u, rfl, r1⟩ := vals1 r
    cases r1
    exact call_int_bool ⟨.int (if k then 1 else 0), H, I.tok _, ⟨_, rfl⟩, q⟩
theorem call_bool1 : CallR X (.type "bool") (fun xs H Q => (∃ i, xs = [.int i] ∧ Q (.bl (i != 0)) H) ∨ ∃ k, xs = [.bl k] ∧ Q (.bl k) H) := by
  intro pins s σ H xs us Q I r h
  rcases h with ⟨i, rfl, q⟩ | ⟨k, rfl, q⟩
  · obtain ⟨u, rfl, t, rfl⟩ := vals1 r
    exact call_bool_int ⟨.bl (i != 0), H, I, rfl, q⟩
  · obtain ⟨u, rfl, r1⟩ := vals1 r
    cases r1
    exact call_bool_bool ⟨.bl k, H, I, rfl, q⟩
theorem call_str_int : CallR X (.type "str") (fun xs H Q => ∃ i, xs = [.int i] ∧ i.natAbs.log2 < 1920 ∧ Q (.str (toString i)) H) := by
  intro pins s σ H xs us Q I r h
  obtain ⟨i, rfl, hz, q⟩ := h
  obtain ⟨u, rfl, t, rfl⟩ := vals1 r
  exact PySem.P.str_of_int hz ⟨.str _, H, I.tok _, ⟨_, rfl⟩, q⟩
theorem call_ord : CallR X (.builtin "ord") (fun xs H Q => ∃ x, xs = [.str x] ∧ x.length = 1 ∧ Q (.int (x.cps.getD 0 0 : Nat)) H) := by
  intro pins s σ H xs us Q I r h
  obtain ⟨x, rfl, hz, q⟩ := h
  obtain ⟨u, rfl, t, rfl⟩ := vals1 r
  exact ord_of_one hz ⟨.int _, H, I.tok _, ⟨_, rfl⟩, q⟩
theorem call_chr : CallR X (.builtin "chr") (fun xs H Q => ∃ i, xs = [.int i] ∧ 0 ≤ i ∧ i ≤ 1114111 ∧ Q (.str ⟨#[i.toNat]⟩) H) := by
  intro pins s σ H xs us Q I r h
  obtain ⟨i, rfl, h0, h1, q⟩ := h
  obtain ⟨u, rfl, t, rfl⟩ := vals1 r
  exact chr_of_range h0 h1 ⟨.str _, H, I.tok _, ⟨_, rfl⟩, q⟩
/-- len of a str, a bytes, a list, a tuple -/
def LenV (K : PySem.W.Frag) (x : V) (H : Hp) (n : Nat) : Prop :=
  match x with
  | .str y => y.length ≤ sizeLine ∧ n = y.length
  | .byt y => y.size ≤ sizeLine ∧ n = y.size
  | .ref p => (∃ xs, SqL K H p xs ∧ n = xs.length) ∨ ∃ xs, SqT K H p xs ∧ n = xs.length
  | _ => False
theorem call_len : CallR X (.builtin "len") (fun xs H Q => ∃ x n, xs = [x] ∧ LenV X.K x H n ∧ Q (.int n) H) := by
  intro pins s σ H xs us Q I r h
  obtain ⟨x, n, rfl, e, q⟩ := h
  obtain ⟨u, rfl, rx⟩ := vals1 r
  have hl := line63
  have hs : sizeLine = 16777216 := sizeLine_eq
  cases x with
  | str y =>
    obtain ⟨t, rfl⟩ := rx
    obtain ⟨hy, e'⟩ : y.length ≤ sizeLine ∧ n = y.length := e
    subst e'
    exact len_str (by omega) ⟨.int _, H, I.tok _, ⟨_, rfl⟩, q⟩
  | byt y =>
    obtain ⟨t, rfl⟩ := rx
    obtain ⟨hy, e'⟩ : y.size ≤ sizeLine ∧ n = y.size := e
    subst e'
    exact PySem.W.len_bytes (by omega) ⟨.int _, H, I.tok _, ⟨_, rfl⟩, q⟩
  | ref p =>
    cases rx
    have e' : (∃ xs, SqL X.K H p xs ∧ n = xs.length) ∨ ∃ xs, SqT X.K H p xs ∧ n = xs.length := e
    rcases e' with ⟨xs, hx, e'⟩ | ⟨xs, hx, e'⟩
    · subst e'
      obtain ⟨its, r', pl, hz⟩ := I.list hx
      have hlen := r'.length
      exact Calls.call_len_list pl.isList (by simp only [List.size_toArray]; omega) ⟨.int xs.length, H, I.tok _, ⟨_, by simp only [List.size_toArray]; rw [hlen]⟩, q⟩
    · subst e'
      obtain ⟨its, r', pl, hz⟩ := I.tuple hx
      have hlen := r'.length
      exact len_tuple pl (by simp only [List.size_toArray]; omega) ⟨.int xs.length, H, I.tok _, ⟨_, by simp only [List.size_toArray]; rw [hlen]⟩, q⟩
  | _ => exact (show False from e).elim
/-- divmod: a new tuple -/
theorem call_divmod : CallR X (.builtin "divmod") (fun xs H Q => ∃ i j, xs = [.int i, .int j] ∧ CDiv i j ∧ ∀ p, H p = none → Q (.ref p) (upd H p (.tup [.int (i / j), .int (i % j)]))) := by
  intro pins s σ H xs us Q I r h
  obtain ⟨i, j, rfl, ⟨h1, h2⟩, q⟩ := h
  obtain ⟨u, w', rfl, ⟨t, rfl⟩, ⟨t', rfl⟩⟩ := vals2 r
  refine divmod_int (by omega) ?_ (.inl (PyProof.noPylong_small (by omega)))
  rw [Int.fdiv_eq_ediv_of_nonneg i (by omega), Int.fmod_eq_emod_of_nonneg i (by omega)]
  have hn : H s.heap.objs.size = none := I.hok.fresh (Nat.le_refl _)
  refine ⟨.ref s.heap.objs.size, _, ?_, rfl, q _ hn⟩
  refine I.laid (fun b o e => Heap.get?_push_of_some _ e) (Nat.le_refl _) ⟨by simp only [List.length_cons, List.length_nil]; rw [sizeLine_eq]; decide, [.int (i / j) s.toks, .int (i % j) (s.toks + 1)], .cons ⟨_, rfl⟩ (.cons ⟨_, rfl⟩ .nil), ?_⟩
  exact ⟨_, Heap.get?_push_size s.heap rfl, rfl, 0, rfl⟩
end
end L2

namespace L2
open PySem PySem.Spec PyProof.Rows

/-! ### an instance, its attributes a map -/
structure ObjM (h : Heap) (x dx C : Addr) (mA : Str → Option Value) : Prop where
  obj : h.get? x = some (PySem.W.instObj C dx)
  ns : h.Ns1 dx mA
  ne : dx ≠ x

theorem lookIn_ns {h : Heap} {dx : Addr} {mA : Str → Option Value} (n : h.Ns1 dx mA) : ∃ od, h.get? dx = some od ∧ ∀ name, PySem.W.lookIn name od = some (mA name) := by
  obtain ⟨o, es, ep, ho, hd, hk, _, hm⟩ := n
  refine ⟨o, ho, fun name => ?_⟩
  have e := hm name
  unfold nsFind findBy at e
  rw [← Array.find?_toList] at e
  unfold PySem.W.lookIn
  rw [hd]
  dsimp only
  split
  · rename_i y q
    rw [q] at e
    exact congrArg some e
  · rename_i q
    rw [q] at e
    have a : es.toList.any (·.refKey) = false := by
      rw [List.any_eq_false]
      intro y hy
      obtain ⟨z, t, hkey⟩ := hk y (Array.mem_toList_iff.mp hy)
      simp [DictEntry.refKey, hkey]
    have a' : ¬ es.toList.any (·.refKey) = true := by rw [a]; exact Bool.false_ne_true
    rw [if_neg a']
    exact congrArg some e

theorem ObjM.look {h : Heap} {x dx C : Addr} {mA : Str → Option Value} (I : ObjM h x dx C mA) : ∃ od, PySem.W.InstAt h x (PySem.W.instObj C dx) C (some od) ∧ ∀ name, PySem.W.lookIn name od = some (mA name) :=
  let ⟨od, ho, hl⟩ := lookIn_ns I.ns
  ⟨od, ⟨I.obj, rfl, rfl, ho⟩, hl⟩

section
variable {prog : Program} {w : World} {A : Around} {E : Value → Shared → Prop} {s : Shared} {K : PySem.W.Frag} {x dx C f : Addr} {mA : Str → Option Value} {name : Str} {v : Value}

theorem get_map {expr : Bool} {Q : Value → Shared → Prop} (X : K.In s.heap) (I : ObjM s.heap x dx C mA) (hg : PySem.W.plainGet K C name = true) (hh : PySem.W.hasDictIn K C = true)
    (ha : PySem.W.findIn K (.ref C) name = some none) (hv : mA name = some v) (hv' : PySem.W.handedIn v = true) (h : Q v { s with toks := s.toks + 1 }) :
    wpAny (model prog w) A (getAttr (.ref x) name expr) Q E s := by
  obtain ⟨od, J, hl⟩ := I.look
  exact PySem.W.get_value X J (PySem.W.plainGet_of hg).1 (PySem.W.findObj_own hh ha rfl (by rw [hl, hv])) hv' h

theorem get_const {expr : Bool} {a : Value} {Q : Value → Shared → Prop} (X : K.In s.heap) (I : ObjM s.heap x dx C mA) (hg : PySem.W.plainGet K C name = true) (hh : PySem.W.hasDictIn K C = true)
    (ha : PySem.W.findIn K (.ref C) name = some (some a)) (hn : PySem.W.specialIn K a "__get__" = some none) (hc : PySem.W.copiedNames.contains name = false) (hv : mA name = none) (hv' : PySem.W.handedIn a = true)
    (h : Q a { s with toks := s.toks + 1 }) : wpAny (model prog w) A (getAttr (.ref x) name expr) Q E s := by
  obtain ⟨od, J, hl⟩ := I.look
  exact PySem.W.get_value X J (PySem.W.plainGet_of hg).1 (PySem.W.findObj_cls hh ha hn hv' hc (by rw [hl, hv])) hv' h

theorem get_meth {pl : Sem Bool} {Q : Value × List Value → Shared → Prop} (X : K.In s.heap) (I : ObjM s.heap x dx C mA) (hg : PySem.W.plainGet K C name = true)
    (hf : PySem.W.findIn K (.ref C) name = some (some (.ref f))) (ht : PySem.W.isFn K (.ref f) = true) (hv : mA name = none) (h : Q (.ref f, [.ref x]) s) :
    wpAny (model prog w) A (getMethod (.ref x) name pl) Q E s := by
  obtain ⟨od, J, hl⟩ := I.look
  exact PySem.W.method_fn X J (PySem.W.plainGet_of hg).1 (PySem.W.plainGet_of hg).2 hf (beq_iff_eq.mp ht) (by show (PySem.W.lookIn name od).map (·.isSome) = some false; rw [hl, hv]; rfl) h

theorem set_map {ns : List Str} {Q : Unit → Shared → Prop} (X : K.In s.heap) (I : ObjM s.heap x dx C mA)
    (hs : PySem.W.findIn K (.ref C) "__setattr__" = some (some (.builtin "object.__setattr__"))) (hp : PySem.W.plainOver K C = true) (ht : PySem.W.takerIn K C name = some none) (hh : PySem.W.hasDictIn K C = true)
    (hw : PySem.Within mA ns) (hsz : ns.length ≤ sizeLine)
    (h : ∀ h', ObjM h' x dx C (fun y => if y = name then some v else mA y) → Heap.SameBut dx s.heap h' → Q () { s with heap := h', toks := s.toks + 2 }) :
    wpAny (model prog w) A (setAttr (.ref x) name v) Q E s := by
  obtain ⟨od, J, hl⟩ := I.look
  refine PySem.W.set_plain X J hs (PySem.W.osa_open (s := { s with toks := s.toks + 1 }) (r := none) X J hp ht fun b => ?_)
  obtain ⟨cd, hc, hd'⟩ := PySem.W.any_some hh
  have hx : s.heap.get? x = some ⟨.ref C, some dx, .plain, #[]⟩ := I.obj
  refine wpAny_bind (wpAny_pure (wpAny_bind (wpAny_bind (wpAny_loadPart hx (wpAny_bind (PySem.W.Looks.here (s := { s with toks := s.toks + 1 }) (PySem.W.looks_clsIn X hc) ?_))))))
  rw [hd']
  refine wpAny_pure (a := some dx) (wpAny_bind (wpAny_pure (wpAny_bind ?_)))
  refine wpAny_nsSet1 (s := { s with toks := s.toks + 1 }) I.ns fun h' hn2 hs2 => ?_
  obtain ⟨oD, esD, epD, hoD, hdD, hcD⟩ := hn2.count (PySem.Within.cons name v hw)
  refine wpAny_bind (wpAny_lookBehind hoD (by rw [hdD]; exact pastItsLine_dict (Nat.le_trans hcD (by rw [List.length_cons]; omega))) ?_)
  exact wpAny_pure (h _ ⟨(hs2.2 _ (Ne.symm I.ne)).trans I.obj, hn2, I.ne⟩ hs2)

/-- C(..): the dict at the heap's end, the instance behind it; then its __init__ -/
theorem make_map {R : Result → Shared → Prop} {vs : List Value} {kw : List (Str × Value)} (X : K.In s.heap) (hm : PySem.W.makesIn K C = true)
    (hi : PySem.W.findIn K (.ref C) "__init__" = some (some (.ref f))) (hf : PySem.W.typeIn K (.ref f) = some (.type "function"))
    (h : codeAny (model prog w) (A.under (.builtin "type.__call__" ⟨.ref C :: vs, kw⟩)) (.call (.ref f) ⟨.ref (s.heap.objs.size + 1) :: vs, kw⟩) (PySem.W.InitBack (s.heap.objs.size + 1) R)
      { s with heap := (s.heap.push PySem.W.emptyDict).push (PySem.W.instObj C s.heap.objs.size) }) :
    codeAny (model prog w) A (.call (.ref C) ⟨vs, kw⟩) R s := by
  obtain ⟨hh, g, d, t, os⟩ := s
  exact PySem.W.make_core (PySem.W.makes_of X hm) (PySem.W.looks_findIn X hi) (fun self => PySem.W.bind_fn X self hf) (.inl rfl) h
/-- C() where there is no __init__ but object's -/
theorem make_map0 {R : Result → Shared → Prop} (X : K.In s.heap) (hm : PySem.W.makesIn K C = true)
    (hi : PySem.W.findIn K (.ref C) "__init__" = some (some (.builtin "object.__init__")))
    (hb : ∀ self, PySem.W.Looks (model prog w) s.heap (bindSpecial (.builtin "object.__init__") self) (.builtin "object.__init__", [self]))
    (h : codeAny (model prog w) (A.under (.builtin "type.__call__" ⟨[.ref C], []⟩)) (.call (.builtin "object.__init__") ⟨[.ref (s.heap.objs.size + 1)], []⟩) (PySem.W.InitBack (s.heap.objs.size + 1) R)
      { s with heap := (s.heap.push PySem.W.emptyDict).push (PySem.W.instObj C s.heap.objs.size) }) :
    codeAny (model prog w) A (.call (.ref C) ⟨[], []⟩) R s := by
  obtain ⟨hh, g, d, t, os⟩ := s
  exact PySem.W.make_core (PySem.W.makes_of X hm) (PySem.W.looks_findIn X hi) hb (.inr ⟨rfl, rfl⟩) h
end

/-! ### the attributes as a list of pairs -/
def putF (f : Str) (v : V) : List (Str × V) → List (Str × V)
  | [] => [(f, v)]
  | (g, x) :: r => if g = f then (g, v) :: r else (g, x) :: putF f v r
theorem lookup_putF (f g : Str) (v : V) : ∀ fs : List (Str × V), (putF f v fs).lookup g = if g = f then some v else fs.lookup g
  | [] => by
    show List.lookup g [(f, v)] = _
    by_cases h : g = f
    · have hb : (g == f) = true := beq_iff_eq.mpr h
      simp only [List.lookup, hb, if_pos h]
    · have hb : (g == f) = false := beq_eq_false_iff_ne.mpr h
      simp only [List.lookup, hb, if_neg h]
  | (k, x) :: r => by
    have ih := lookup_putF f g v r
    rw [show putF f v ((k, x) :: r) = (if k = f then (k, v) :: r else (k, x) :: putF f v r) from rfl]
    by_cases hk : k = f
    · rw [if_pos hk]
      by_cases h : g = k
      · have hb : (g == k) = true := beq_iff_eq.mpr h
        simp only [List.lookup, hb, if_pos (h.trans hk)]
      · have hb : (g == k) = false := beq_eq_false_iff_ne.mpr h
        simp only [List.lookup, hb, if_neg (fun e : g = f => h (e.trans hk.symm))]
    · rw [if_neg hk]
      by_cases h : g = k
      · have hb : (g == k) = true := beq_iff_eq.mpr h
        simp only [List.lookup, hb, if_neg (fun e : g = f => hk (h.symm.trans e))]
      · have hb : (g == k) = false := beq_eq_false_iff_ne.mpr h
        simp only [List.lookup, hb]
        exact ih
theorem keys_putF (f : Str) (v : V) : ∀ fs : List (Str × V), f ∈ (putF f v fs).map (·.1) ∧ ∀ g, g ∈ fs.map (·.1) → g ∈ (putF f v fs).map (·.1)
  | [] => ⟨by simp [putF], fun g h => by simp at h⟩
  | (k, x) :: r => by
    obtain ⟨i1, i2⟩ := keys_putF f v r
    rw [show putF f v ((k, x) :: r) = (if k = f then (k, v) :: r else (k, x) :: putF f v r) from rfl]
    by_cases hk : k = f
    · rw [if_pos hk]
      subst hk
      exact ⟨by simp, fun g h => by simpa using h⟩
    · rw [if_neg hk]
      refine ⟨?_, fun g h => ?_⟩
      · rw [List.map_cons]
        exact List.mem_cons_of_mem _ i1
      · rw [List.map_cons] at h ⊢
        rcases List.mem_cons.mp h with e | e
        · exact List.mem_cons.mpr (.inl e)
        · exact List.mem_cons_of_mem _ (i2 g e)
theorem length_putF (f : Str) (v : V) : ∀ fs : List (Str × V), (putF f v fs).length ≤ fs.length + 1
  | [] => by simp [putF]
  | (k, x) :: r => by
    have ih := length_putF f v r
    rw [show putF f v ((k, x) :: r) = (if k = f then (k, v) :: r else (k, x) :: putF f v r) from rfl]
    by_cases hk : k = f
    · rw [if_pos hk, List.length_cons, List.length_cons]; omega
    · rw [if_neg hk, List.length_cons, List.length_cons]; omega

theorem RelO.some_of {v : V} {o : Option Value} (r : RelO (some v) o) : ∃ u, o = some u ∧ RelV v u := by
  cases o with
  | none => exact (show False from r).elim
  | some u => exact ⟨u, rfl, r⟩
theorem RelO.none_of {o : Option Value} (r : RelO none o) : o = none := by
  cases o with
  | none => rfl
  | some u => exact (show False from r).elim
theorem handed_of {v : V} {u : Value} (r : RelV v u) : PySem.W.handedIn u = true := by
  cases v with
  | non => cases (show u = Value.none from r); rfl
  | bl b => cases (show u = Value.bool b from r); rfl
  | int i => obtain ⟨t, e⟩ := (show ∃ t, u = Value.int i t from r); cases e; rfl
  | str x => obtain ⟨t, e⟩ := (show ∃ t, u = Value.str x t from r); cases e; rfl
  | byt b => obtain ⟨t, e⟩ := (show ∃ t, u = Value.bytes b t from r); cases e; rfl
  | flt b => obtain ⟨t, e⟩ := (show ∃ t, u = Value.float b t from r); cases e; rfl
  | ref a => cases (show u = Value.ref a from r); rfl
  | ty n => cases (show u = Value.type n from r); rfl

section
variable {P : Program} {w : World} {H H' : Hp} {h h' : Heap} {a C dx : Addr} {fs fs' : List (Str × V)}
theorem ins_get (hok : HOk P w H h) (e : H a = some (.ins C dx fs)) : ∃ mA, ObjM h a dx C mA ∧ (∀ f, RelO (fs.lookup f) (mA f)) ∧ PySem.Within mA (fs.map (·.1)) ∧ fs.length ≤ 1000 ∧ H dx = some (.own a) := by
  obtain ⟨d, z, ne, ob, mA, n, r, q⟩ := (show ObjOk P w H h a (.ins C dx fs) from hok a _ e)
  exact ⟨mA, ⟨ob, n, ne⟩, r, q, z, d⟩
end

/-! ### what of the text a class must have -/
structure Cls (K : PySem.W.Frag) (C : Addr) : Prop where
  pg : PySem.W.plainGet K C Str.empty = true
  hd : PySem.W.hasDictIn K C = true
  po : PySem.W.plainOver K C = true
  sa : PySem.W.findIn K (.ref C) "__setattr__" = some (some (.builtin "object.__setattr__"))
theorem Cls.get {K : PySem.W.Frag} {C : Addr} (c : Cls K C) (f : Str) : PySem.W.plainGet K C f = true := c.pg
/-- no class of it has the name -/
def NoAttr (K : PySem.W.Frag) (C : Addr) (f : Str) : Prop := PySem.W.findIn K (.ref C) f = some none
theorem NoAttr.taker {K : PySem.W.Frag} {C : Addr} {f : Str} (n : NoAttr K C f) : PySem.W.takerIn K C f = some none := by
  unfold PySem.W.takerIn
  rw [show PySem.W.findIn K (.ref C) f = some none from n]
  rfl
/-- a constant of the class -/
structure Con (K : PySem.W.Frag) (C : Addr) (f : Str) (v : V) (u : Value) : Prop where
  at_ : PySem.W.findIn K (.ref C) f = some (some u)
  rel : RelV v u
  get : PySem.W.specialIn K u "__get__" = some none
  cp : PySem.W.copiedNames.contains f = false
/-- a method: a plain def of the class or of one above it -/
structure Meth (K : PySem.W.Frag) (C : Addr) (m : Str) (f : Addr) : Prop where
  at_ : PySem.W.findIn K (.ref C) m = some (some (.ref f))
  fn : PySem.W.isFn K (.ref f) = true
  kp : PySem.W.keepIn K (.ref f) = true

section
variable {X : Cx} {pins : List (Addr × Obj)} {σ : St} {H : Hp} {s : Shared} {a C dx : Addr} {fs : List (Str × V)} {f : Str} {v : V} {A : Around} {E : Value → Shared → Prop}

theorem getattr_ok {b : Bool} {Q : Value → Shared → Prop} (I : Inv X pins σ H s) (e : H a = some (.ins C dx fs)) (c : Cls X.K C) (n : NoAttr X.K C f) (l : fs.lookup f = some v)
    (h : ∀ u s', Inv X pins σ H s' → RelV v u → Q u s') : wpAny (model X.prog X.w) A (getAttr (.ref a) f b) Q E s := by
  obtain ⟨mA, O, r, _, _, _⟩ := ins_get I.hok e
  obtain ⟨u, hu, ru⟩ := RelO.some_of (v := v) (o := mA f) (by rw [← l]; exact r f)
  exact get_map I.kIn O (c.get f) c.hd n hu (handed_of ru) (h u _ (I.tok _) ru)

theorem getcon_ok {b : Bool} {u : Value} {Q : Value → Shared → Prop} (I : Inv X pins σ H s) (e : H a = some (.ins C dx fs)) (c : Cls X.K C) (k : Con X.K C f v u) (l : fs.lookup f = none)
    (h : ∀ s', Inv X pins σ H s' → Q u s') : wpAny (model X.prog X.w) A (getAttr (.ref a) f b) Q E s := by
  obtain ⟨mA, O, r, _, _, _⟩ := ins_get I.hok e
  have hn : mA f = none := RelO.none_of (by rw [← l]; exact r f)
  exact get_const I.kIn O (c.get f) c.hd k.at_ k.get k.cp hn (handed_of k.rel) (h _ (I.tok _))

theorem getmeth_ok {m : Str} {g : Addr} {pl : Sem Bool} {Q : Value × List Value → Shared → Prop} (I : Inv X pins σ H s) (e : H a = some (.ins C dx fs)) (c : Cls X.K C) (k : Meth X.K C m g) (l : fs.lookup m = none)
    (h : Q (.ref g, [.ref a]) s) : wpAny (model X.prog X.w) A (getMethod (.ref a) m pl) Q E s := by
  obtain ⟨mA, O, r, _, _, _⟩ := ins_get I.hok e
  have hn : mA m = none := RelO.none_of (by rw [← l]; exact r m)
  exact get_meth I.kIn O (c.get m) k.at_ k.fn hn h

theorem setattr_ok {y : V} {u : Value} {Q : Unit → Shared → Prop} (I : Inv X pins σ H s) (e : H a = some (.ins C dx fs)) (c : Cls X.K C) (n : NoAttr X.K C f) (hl : fs.length < 1000) (ry : RelV y u)
    (h : ∀ s', Inv X pins σ (upd H a (.ins C dx (putF f y fs))) s' → Q () s') : wpAny (model X.prog X.w) A (setAttr (.ref a) f u) Q E s := by
  obtain ⟨mA, O, r, wi, _, ho⟩ := ins_get I.hok e
  have hz : (fs.map (·.1)).length ≤ sizeLine := by rw [List.length_map, sizeLine_eq]; omega
  refine set_map I.kIn O c.sa c.po n.taker c.hd wi hz fun h' O' sb => h _ ?_
  have hd : ∃ o, h'.get? dx = some o := let ⟨o, _, _, e', _⟩ := O'.ns; ⟨o, e'⟩
  refine I.write (x := a) (e := dx) (by rw [e]; exact True.intro) (.inr ho) (fun b q hb z => (sb.2 b hb).trans z) hd ?_
  refine ⟨by rw [upd_ne O.ne]; exact ho, ?_, O.ne, O'.obj, _, O'.ns, fun g => ?_, fun g hg => ?_⟩
  · have := length_putF f y fs; omega
  · show RelO ((putF f y fs).lookup g) (if g = f then some u else mA g)
    rw [lookup_putF]
    by_cases q : g = f
    · rw [if_pos q, if_pos q]; exact ry
    · rw [if_neg q, if_neg q]; exact r g
  · by_cases q : g = f
    · rw [q]; exact (keys_putF f y fs).1
    · refine (keys_putF f y fs).2 g (wi g fun z => hg ?_)
      show (if g = f then some u else mA g) = none
      rw [if_neg q]; exact z

/-- a new instance, tracked, without attributes -/
theorem Inv.made (I : Inv X pins σ H s) : Inv X pins σ (upd (upd H s.heap.objs.size (.own (s.heap.objs.size + 1))) (s.heap.objs.size + 1) (.ins C s.heap.objs.size []))
    { s with heap := (s.heap.push PySem.W.emptyDict).push (PySem.W.instObj C s.heap.objs.size) } := by
  have e1 : (s.heap.push PySem.W.emptyDict).get? s.heap.objs.size = some PySem.W.emptyDict := Heap.get?_push_size s.heap rfl
  have e2 : ((s.heap.push PySem.W.emptyDict).push (PySem.W.instObj C s.heap.objs.size)).get? (s.heap.objs.size + 1) = some (PySem.W.instObj C s.heap.objs.size) := by
    have := Heap.get?_push_size (s.heap.push PySem.W.emptyDict) (o := PySem.W.instObj C s.heap.objs.size) rfl
    rwa [Heap.size_push] at this
  have e3 : (s.heap.push PySem.W.emptyDict).Ns s.heap.objs.size (fun _ => none) := ⟨PySem.W.emptyDict, #[], _, e1, rfl, (fun e he => absurd he (by simp)), fun _ => rfl⟩
  have I1 := I.laid (a := s.heap.objs.size) (o := .own (s.heap.objs.size + 1)) (h' := s.heap.push PySem.W.emptyDict) (t' := s.toks) (fun b u q => Heap.get?_push_of_some _ q) (Nat.le_refl _) ⟨_, e1⟩
  refine I1.laid (a := s.heap.objs.size + 1) (o := .ins C s.heap.objs.size []) (t' := s.toks) (fun b u q => Heap.get?_push_of_some _ q) (Nat.le_of_eq (Heap.size_push _ _)) ?_
  have ne : s.heap.objs.size ≠ s.heap.objs.size + 1 := Nat.ne_of_lt (Nat.lt_succ_self _)
  refine ⟨by rw [upd_ne ne, upd_same], Nat.zero_le _, ne, e2, fun _ => none, (Heap.Ns1.of_empty e3).at fun o q => Heap.get?_push_of_some _ q, fun _ => True.intro, fun y hy => absurd rfl hy⟩

/-- e.f where nothing but the object is asked: through attributeBase (super) and the last hold -/
theorem attr_of {prog : Program} {w : World} {env : Env} {e : Expr} {f : Str} {pos : Pos} {s : Shared} {Q : Value → Shared → Prop} (hb : attributeBase e f env (eval e env) = eval e env)
    (h : wpAny (model prog w) A (eval e env) (fun o s₁ => wpAny (model prog w) A (getAttr o f true) Q E s₁) E s) : wpAny (model prog w) A (eval (.Attribute e f pos) env) Q E s :=
  Attribute_any_ h (by rw [arm_eval_Attribute, hb])
end

/-! ### readings and rules -/
/-- e.f, an attribute of the instance -/
def tFld (K : PySem.W.Frag) (ta : TE) (f : Str) : TE := fun σ H Q => ta σ H fun x H1 => ∃ a C dx fs v, x = .ref a ∧ H1 a = some (.ins C dx fs) ∧ Cls K C ∧ NoAttr K C f ∧ fs.lookup f = some v ∧ Q v H1
/-- e.f, a constant of the class -/
def tCon (K : PySem.W.Frag) (ta : TE) (f : Str) : TE := fun σ H Q => ta σ H fun x H1 => ∃ a C dx fs v u, x = .ref a ∧ H1 a = some (.ins C dx fs) ∧ Cls K C ∧ Con K C f v u ∧ fs.lookup f = none ∧ Q v H1
/-- e.f = value -/
def sFld (K : PySem.W.Frag) (ta tv : TE) (f : Str) : TS := fun D σ H => tv σ H fun y H1 => ta σ H1 fun x H2 => ∃ a C dx fs, x = .ref a ∧ H2 a = some (.ins C dx fs) ∧ Cls K C ∧ NoAttr K C f ∧ fs.length < 1000 ∧
  D.nx σ (upd H2 a (.ins C dx (putF f y fs)))
/-- an augmented operator on two values -/
def InOp (X : Cx) (op : Operator) (rd : V → V → Hp → VK → Prop) : Prop :=
  ∀ (pins : List (Addr × Obj)) (s : Shared) (σ : St) (H : Hp) (x y : V) (u v : Value) (Q : VK), Inv X pins σ H s → RelV x u → RelV y v → rd x y H Q → wpAny (model X.prog X.w) X.A (inplaceOp op u v) (EP X pins σ Q) X.xe s
/-- e.f op= value -/
def sFldAug (K : PySem.W.Frag) (ta tv : TE) (rd : V → V → Hp → VK → Prop) (f : Str) : TS := fun D σ H => ta σ H fun x H1 => ∃ a C dx fs v, x = .ref a ∧ H1 a = some (.ins C dx fs) ∧ Cls K C ∧ NoAttr K C f ∧ fs.lookup f = some v ∧
  tv σ H1 fun y H2 => rd v y H2 fun z H3 => ∃ dx' fs', H3 a = some (.ins C dx' fs') ∧ fs'.length < 1000 ∧ D.nx σ (upd H3 a (.ins C dx' (putF f z fs')))

section
variable {X : Cx} {o e value : Expr} {f : Str} {pos pos' tpos : Pos} {ta tv : TE}
theorem pe_fld (he : PE X e ta) (hb : attributeBase e f X.env (eval e X.env) = eval e X.env) : PE X (.Attribute e f pos) (tFld X.K ta f) := by
  intro pins s σ H Q I h
  refine attr_of hb (thn (he pins s σ H _ I h) fun u s1 ⟨x, H1, I1, rx, a, C, dx, fs, v, ex, ea, c, n, l, q⟩ => ?_)
  subst ex
  obtain rfl : u = Value.ref a := rx
  exact getattr_ok I1 ea c n l fun u' s2 I2 ru => ⟨v, H1, I2, ru, q⟩
theorem pe_con (he : PE X e ta) (hb : attributeBase e f X.env (eval e X.env) = eval e X.env) : PE X (.Attribute e f pos) (tCon X.K ta f) := by
  intro pins s σ H Q I h
  refine attr_of hb (thn (he pins s σ H _ I h) fun u s1 ⟨x, H1, I1, rx, a, C, dx, fs, v, u0, ex, ea, c, k, l, q⟩ => ?_)
  subst ex
  obtain rfl : u = Value.ref a := rx
  exact getcon_ok I1 ea c k l fun s2 I2 => ⟨v, H1, I2, k.rel, q⟩
theorem ps_fld (ha : PE X o ta) (hv : PE X value tv) (hs : swapsWith value (some (.Attribute o f pos')) pos.line X.env = pure false) : PS X (.Assign [.Attribute o f pos'] value pos) (sFld X.K ta tv f) := by
  intro pins s σ H D I h
  refine plainObj_wpAny_Assign_Attribute (thn (hv pins s σ H _ I h) fun u s1 ⟨y, H1, I1, ry, q⟩ => thn (ha pins s1 σ H1 _ I1 q) fun ov s2 ⟨x, H2, I2, rx, a, C, dx, fs, ex, ea, c, n, l, q2⟩ => ?_) hs
  subst ex
  obtain rfl : ov = Value.ref a := rx
  exact setattr_ok I2 ea c n l ry fun s3 I3 => ⟨σ, _, I3, q2⟩
theorem ps_fldaug {op : Operator} {rd : V → V → Hp → VK → Prop} (ha : PE X o ta) (hv : PE X value tv) (hop : InOp X op rd) : PS X (.AugAssign (.Attribute o f tpos) op value pos) (sFldAug X.K ta tv rd f) := by
  intro pins s σ H D I h
  refine wpAny_AugAssign_AttributeAny (thn (ha pins s σ H _ I h) fun ov s1 ⟨x, H1, I1, rx, a, C, dx, fs, v, ex, ea, c, n, l, q⟩ => ?_)
  subst ex
  obtain rfl : ov = Value.ref a := rx
  refine getattr_ok I1 ea c n l fun u s2 I2 ru => thn (hv pins s2 σ H1 _ I2 q) fun w3 s3 ⟨y, H2, I3, ry, q3⟩ => thn (hop pins s3 σ H2 v y u w3 _ I3 ru ry q3) fun w4 s4 ⟨z, H3, I4, rz, dx', fs', ea', l', q4⟩ => ?_
  exact setattr_ok I4 ea' c n l' rz fun s5 I5 => ⟨σ, _, I5, q4⟩
def rAdd : V → V → Hp → VK → Prop := fun x y H Q => ∃ i j, x = .int i ∧ y = .int j ∧ Q (.int (i + j)) H
def rSub : V → V → Hp → VK → Prop := fun x y H Q => ∃ i j, x = .int i ∧ y = .int j ∧ Q (.int (i - j)) H
theorem in_add : InOp X .Add rAdd := by
  rintro pins s σ H x y u v Q I rx ry ⟨i, j, rfl, rfl, q⟩
  obtain ⟨t, rfl⟩ := (show ∃ t, u = Value.int i t from rx)
  obtain ⟨t', rfl⟩ := (show ∃ t', v = Value.int j t' from ry)
  exact PyProof.Rows.iadd_int ⟨.int (i + j), H, I.tok _, ⟨_, rfl⟩, q⟩
theorem in_sub : InOp X .Sub rSub := by
  rintro pins s σ H x y u v Q I rx ry ⟨i, j, rfl, rfl, q⟩
  obtain ⟨t, rfl⟩ := (show ∃ t, u = Value.int i t from rx)
  obtain ⟨t', rfl⟩ := (show ∃ t', v = Value.int j t' from ry)
  exact PyProof.Rows.isub_int ⟨.int (i - j), H, I.tok _, ⟨_, rfl⟩, q⟩

/-- what is between an instance and its method: the tree of a method call -/
theorem methcall_of {pl : Sem Bool} {m : Str} {apos : Pos} {args : List Expr} {pins : List (Addr × Obj)} {s : Shared} {σ : St} {H : Hp} {Q : Value → Shared → Prop} {te : TE} (he : PE X e te) (I : Inv X pins σ H s)
    (h : te σ H fun x H1 => ∃ a C dx fs g, x = .ref a ∧ H1 a = some (.ins C dx fs) ∧ Cls X.K C ∧ Meth X.K C m g ∧ fs.lookup m = none ∧
      ∀ s1, Inv X pins σ H1 s1 → wpAny (model X.prog X.w) X.A (callWith pos (.ref g) [.ref a] (backTo pos (starEach args X.env)) (backToKw pos (keywordEach [] X.env))) Q X.xe s1)
    (ht : eval (.Call (.Attribute e m apos) args [] pos) X.env = (do
      let ov ← eval e X.env
      standAt apos.atName
      let (f, first) ← holding [ov] (getMethod ov m pl)
      callWith pos f first (backTo pos (starEach args X.env)) (backToKw pos (keywordEach [] X.env)))) :
    wpAny (model X.prog X.w) X.A (eval (.Call (.Attribute e m apos) args [] pos) X.env) Q X.xe s := by
  refine PySem.W.methodCall_KW (pl := pl) (thn (he pins s σ H _ I h) fun u s1 ⟨x, H1, I1, rx, a, C, dx, fs, g, ex, ea, c, k, l, q⟩ => ?_) ht
  subst ex
  obtain rfl : u = Value.ref a := rx
  exact getmeth_ok I1 ea c k l (q s1 I1)
end

/-! ### isinstance -/
section
variable {X : Cx} {pins : List (Addr × Obj)} {σ : St} {H : Hp} {s : Shared} {A : Around} {E : Value → Shared → Prop} {Q : Value → Shared → Prop} {c : Value} {b : Bool}
/-- the type of a value, as the fragment's deciders take it; for an instance its class -/
inductive TyOf (K : PySem.W.Frag) (H : Hp) : V → Value → Prop where
  | non : TyOf K H .non (.type "NoneType")
  | bl (x : Bool) : TyOf K H (.bl x) (.type "bool")
  | int (i : Int) : TyOf K H (.int i) (.type "int")
  | str (x : Str) : TyOf K H (.str x) (.type "str")
  | flt (x : UInt64) : TyOf K H (.flt x) (.type "float")
  | lst {a : Addr} {xs : List V} (e : H a = some (.lst xs)) : TyOf K H (.ref a) (.type "list")
  | frz {a : Addr} {o : Obj} {xs : List V} (e : H a = some (.frz o (.lst xs))) : TyOf K H (.ref a) (.type "list")
  | tup {a : Addr} {xs : List V} (e : H a = some (.tup xs)) : TyOf K H (.ref a) (.type "tuple")
  | dK {a : Addr} {kvs : List (Key × V)} (e : H a = some (.dK kvs)) : TyOf K H (.ref a) (.type "dict")
  | dT {a : Addr} {kvs : List (List Key × V)} (e : H a = some (.dT kvs)) : TyOf K H (.ref a) (.type "dict")
  | ins {a C dx : Addr} {fs : List (Str × V)} (e : H a = some (.ins C dx fs)) (cl : Cls K C) (ha : PySem.W.findIn K (.ref C) "__class__" = some (some (.builtin "object.__class__")))
      (hn : PySem.W.specialIn K (.builtin "object.__class__") "__get__" = some (some (.builtin "getset_descriptor.__get__"))) (htk : PySem.W.takesIn K (.builtin "object.__class__") = some true)
      (hm : PySem.W.mroIn K C (.type "object") = some true) : TyOf K H (.ref a) (.ref C)
/-- isinstance(x, c) for one class c, a built-in or an own one: kitOne's answer -/
theorem isinst_ok {x : V} {u t : Value} (I : Inv X pins σ H s) (rx : RelV x u) (ty : TyOf X.K H x t) (e : PySem.W.kitOne X.K t c = some b) (h : ∀ tk, Q (.bool b) { s with toks := tk }) :
    wpAny (model X.prog X.w) A (call (.builtin "isinstance") [u, c]) Q E s := by
  cases ty with
  | non => cases (show u = Value.none from rx); exact PySem.W.kia_one PySem.W.kitx_none I.kIn True.intro e (fun z => nomatch z) h
  | bl y => cases (show u = Value.bool y from rx); exact PySem.W.kia_one PySem.W.kitx_bool I.kIn True.intro e (fun z => nomatch z) h
  | int i => obtain ⟨t, q⟩ := (show ∃ t, u = Value.int i t from rx); cases q; exact PySem.W.kia_one PySem.W.kitx_int I.kIn True.intro e (fun z => nomatch z) h
  | str y => obtain ⟨t, q⟩ := (show ∃ t, u = Value.str y t from rx); cases q; exact PySem.W.kia_one PySem.W.kitx_str I.kIn True.intro e (fun z => nomatch z) h
  | flt y => obtain ⟨t, q⟩ := (show ∃ t, u = Value.float y t from rx); cases q; exact PySem.W.kia_one PySem.W.kitx_float I.kIn True.intro e (fun z => nomatch z) h
  | @lst a xs ea =>
    cases (show u = Value.ref a from rx)
    obtain ⟨_, _, n, _, h1⟩ := (show ObjOk X.prog X.w H s.heap a (.lst xs) from I.hok a _ ea)
    exact PySem.W.kia_one PySem.W.kitx_list I.kIn ⟨_, h1, rfl⟩ e (fun z => nomatch z) h
  | @frz a ob xs ea =>
    cases (show u = Value.ref a from rx)
    obtain ⟨_, _, _, n, _, h1⟩ := (show ObjOk X.prog X.w H s.heap a (.frz ob (.lst xs)) from I.hok a _ ea)
    exact PySem.W.kia_one PySem.W.kitx_list I.kIn ⟨_, h1, rfl⟩ e (fun z => nomatch z) h
  | @tup a xs ea =>
    cases (show u = Value.ref a from rx)
    obtain ⟨_, _, _, p⟩ := (show ObjOk X.prog X.w H s.heap a (.tup xs) from I.hok a _ ea)
    obtain ⟨o, h1, h2, _⟩ := p
    exact PySem.W.kia_one PySem.W.kitx_tuple I.kIn ⟨o, h1, h2⟩ e (fun z => nomatch z) h
  | @dK a kvs ea =>
    cases (show u = Value.ref a from rx)
    obtain ⟨_, _, vs, _, p⟩ := (show ObjOk X.prog X.w H s.heap a (.dK kvs) from I.hok a _ ea)
    obtain ⟨o, es, ep, h1, h2, _⟩ := p
    exact PySem.W.kia_one PySem.W.kitx_dict I.kIn ⟨o, h1, h2.1⟩ e (fun z => nomatch z) h
  | @dT a kvs ea =>
    cases (show u = Value.ref a from rx)
    obtain ⟨_, _, xs, _, o, es, ep, h1, h2, _⟩ := (show ObjOk X.prog X.w H s.heap a (.dT kvs) from I.hok a _ ea)
    exact PySem.W.kia_one PySem.W.kitx_dict I.kIn ⟨o, h1, h2.1⟩ e (fun z => nomatch z) h
  | @ins a C dx fs ea cl ha hn htk hm =>
    cases (show u = Value.ref a from rx)
    obtain ⟨mA, O, _⟩ := ins_get I.hok ea
    obtain ⟨od, J, _⟩ := O.look
    exact PySem.W.kia_one (PySem.W.kitx_own (cl.get _) cl.hd ha hn htk hm) I.kIn J e (fun z => nomatch z) h
end
end L2

namespace L2
open PySem PySem.Spec PyProof.Rows

/-! ### room -/
structure Room (k : Nat) (A : Around) : Prop where
  hd : A.handled = none
  dp : A.depth + 3 * k + 5 < recursionLimit
  un : A.units + 16 * k + 200 < cLine
theorem Room.mono {j k : Nat} {A : Around} (r : Room k A) (h : j ≤ k) : Room j A := ⟨r.hd, by have := r.dp; omega, by have := r.un; omega⟩
theorem Room.deeper {k : Nat} {A : Around} (r : Room (k + 1) A) (env : Env) : Room k (A.deeper env) :=
  ⟨r.hd, by have := r.dp; show A.depth + 1 + 3 * k + 5 < _; omega, by have := r.un; show A.units + 3 + 16 * k + 200 < _; omega⟩
theorem Room.in1 {k : Nat} {A : Around} (r : Room (k + 1) A) : Room k A.in1 :=
  ⟨r.hd, by have := r.dp; show A.depth + 3 * k + 5 < _; omega, by have := r.un; show A.units + 1 + 16 * k + 200 < _; omega⟩
theorem make_depth {A : Around} {C : Addr} {us : List Value} {kw : List (Str × Value)} : (A.under (.builtin "type.__call__" ⟨.ref C :: us, kw⟩)).depth = A.depth + 1 := by
  first | rfl | simp [Around.under, Code.weight, Code.isCreation, Code.isGuard, Code.isCaller, Code.frames, Code.isFrame, guardIds]
theorem make_units {A : Around} {C : Addr} {us : List Value} {kw : List (Str × Value)} : (A.under (.builtin "type.__call__" ⟨.ref C :: us, kw⟩)).units = A.units + 1 := by
  first | rfl | simp [Around.under, Code.cUnits, Code.frames, Code.isFrame]
theorem Room.make {k : Nat} {A : Around} (r : Room (k + 1) A) (C : Addr) (us : List Value) (kw : List (Str × Value)) : Room k (A.under (.builtin "type.__call__" ⟨.ref C :: us, kw⟩)) :=
  ⟨r.hd, by have := r.dp; rw [make_depth]; omega, by have := r.un; rw [make_units]; omega⟩
theorem Room.depth {k : Nat} {A : Around} (r : Room k A) : A.depth < recursionLimit := by have := r.dp; omega
theorem Room.units {k : Nat} {A : Around} (r : Room k A) : A.units + 64 < cLine := by have := r.un; omega
theorem Room.units0 {k : Nat} {A : Around} (r : Room k A) : A.units < cLine := by have := r.un; omega

/-! ### argument lists and displays -/
def tNil : TA := fun _ H Q => Q [] H
def tCons (ta : TE) (tr : TA) : TA := fun σ H Q => ta σ H fun x H1 => tr σ H1 fun xs H2 => Q (x :: xs) H2
section
variable {X : Cx} {e : Expr} {es : List Expr} {te : TE} {t : TA} {pos : Pos}
theorem pa_nil : PA X [] tNil := fun _ _ _ _ H Q I h => Calls.spliced_nil ⟨[], H, I, .nil, h⟩
theorem pa_cons (ha : PE X e te) (hr : PA X es t) (hs : starEach (e :: es) X.env = (false, eval e X.env) :: starEach es X.env := by rfl) : PA X (e :: es) (tCons te t) := by
  intro pos pins s σ H Q I h
  rw [hs]
  show wpAny _ _ (spliced ((false, eval e X.env) :: backTo pos (starEach es X.env))) _ _ s
  refine Calls.spliced_cons (thn (ha pins s σ H _ I h) fun u s1 ⟨x, H1, I1, r1, q1⟩ => ?_)
  exact thn (hr pos pins s1 σ H1 _ I1 q1) fun us s2 ⟨xs, H2, I2, r2, q2⟩ => ⟨x :: xs, H2, I2, .cons r1 r2, q2⟩

/-- a tuple, a list of written items -/
def tTup (t : TA) : TE := fun σ H Q => t σ H fun xs H1 => xs.length ≤ sizeLine ∧ ∀ p, H1 p = none → Q (.ref p) (upd H1 p (.tup xs))
def tLst (t : TA) : TE := fun σ H Q => t σ H fun xs H1 => xs.length ≤ sizeLine ∧ ∀ p, H1 p = none → Q (.ref p) (upd H1 p (.lst xs))
theorem pe_tup {x1} (h : PA X es t) : PE X (.Tuple es x1 pos) (tTup t) := by
  intro pins s σ H Q I hq
  refine wpAny_Tuple_spliced (thn (h pos pins s σ H _ I hq) fun us s1 ⟨xs, H1, I1, r, z, q⟩ => ⟨by rw [← r.length]; exact z, ?_⟩)
  have hf : H1 s1.heap.objs.size = none := I1.hok.fresh (Nat.le_refl _)
  refine ⟨.ref s1.heap.objs.size, upd H1 s1.heap.objs.size (.tup xs), I1.laid (t' := s1.toks) (fun b u e => Heap.get?_push_of_some _ e) (Nat.le_refl _) ?_, rfl, q _ hf⟩
  exact ⟨z, us, r, ⟨_, Heap.get?_push_size _ rfl, rfl, _, rfl⟩⟩
theorem pe_lst (h : PA X es t) : PE X (.List es pos) (tLst t) := by
  intro pins s σ H Q I hq
  refine wpAny_List_spliced (thn (h pos pins s σ H _ I hq) fun us s1 ⟨xs, H1, I1, r, z, q⟩ => ⟨by rw [← r.length]; exact z, ?_⟩)
  have hf : H1 s1.heap.objs.size = none := I1.hok.fresh (Nat.le_refl _)
  refine ⟨.ref s1.heap.objs.size, upd H1 s1.heap.objs.size (.lst xs), I1.laid (t' := s1.toks) (fun b u e => Heap.get?_push_of_some _ e) (Nat.le_refl _) ?_, rfl, q _ hf⟩
  exact ⟨z, us, 0, r, Heap.get?_push_size _ rfl⟩
end

/-! ### what a def promises -/
/-- a def's promise: the bound arguments in the parameters' order, the heap, the wanted end, the wanted exception -/
abbrev Sp := List V → Hp → VK → XK → Prop
/-- how an exception lies behind a call (file 08 gives it): the callers' frames, abstract heap and state ahead of the call, the wish, the exception, the state -/
abbrev CXT := List Env → Hp → Shared → XK → Value → Shared → Prop

/-- the state at a call -/
structure Env0 (P : Program) (w : World) (K : PySem.W.Frag) (mg : Str → Option Value) (base : Heap) (A : Around) (outer : List Env) (s : Shared) (H : Hp) : Prop where
  frames : A.frames = some outer
  mod : Mod K mg base
  bs : ∀ b o, base.get? b = some o → s.heap.get? b = some o ∧ H b = none
  bsz : base.objs.size ≤ s.heap.objs.size
  funs : s.heap.FunFrames base outer
  frf : ∀ b ∈ frs outer, H b = none
  hok : HOk P w H s.heap
  bare : AllBare s.gens
/-- a call's end -/
def CE (outer : List Env) (P : Program) (w : World) (H : Hp) (s : Shared) (Q : VK) (u : Value) (s' : Shared) : Prop :=
  ∃ v H', s'.os = s.os ∧ AllBare s'.gens ∧ Un (frs outer) [] H H' s.heap s'.heap ∧ HOk P w H' s'.heap ∧ RelV v u ∧ Q v H'
def CR (CX : CXT) (outer : List Env) (P : Program) (w : World) (H : Hp) (s : Shared) (Q : VK) (E : XK) (r : Result) (s' : Shared) : Prop :=
  match r with
  | .ok (.ret u) => CE outer P w H s Q u s'
  | .ok _ => False
  | .error e => CX outer H s E e s'
structure FnOk (P : Program) (w : World) (K : PySem.W.Frag) (mg : Str → Option Value) (base : Heap) (CX : CXT) (k : Nat) (f : Addr) (fd : FuncData) (ps : List Str) (sp : Sp) : Prop where
  len : ∀ vs H Q E, sp vs H Q E → vs.length = ps.length
  run : ∀ (A : Around) (outer : List Env) (s : Shared) (H : Hp) (args : Args) (us : List Value) (vs : List V) (Q : VK) (E : XK), Room k A → Env0 P w K mg base A outer s H → BindsTo s fd args (ps.zip us) → Vals vs us → sp vs H Q E →
    codeAny (model P w) A (.call (.ref f) args) (CR CX outer P w H s Q E) s
theorem FnOk.mono {P : Program} {w : World} {K : PySem.W.Frag} {mg : Str → Option Value} {base : Heap} {CX : CXT} {j k : Nat} {f : Addr} {fd : FuncData} {ps : List Str} {sp : Sp} (F : FnOk P w K mg base CX j f fd ps sp) (h : j ≤ k) :
    FnOk P w K mg base CX k f fd ps sp := ⟨F.len, fun A outer s H args us vs Q E hr => F.run A outer s H args us vs Q E (hr.mono h)⟩
/-- a weaker promise -/
theorem FnOk.imp {P : Program} {w : World} {K : PySem.W.Frag} {mg : Str → Option Value} {base : Heap} {CX : CXT} {k : Nat} {f : Addr} {fd : FuncData} {ps : List Str} {sp sp' : Sp} (F : FnOk P w K mg base CX k f fd ps sp)
    (h : ∀ vs H Q E, sp' vs H Q E → sp vs H Q E) : FnOk P w K mg base CX k f fd ps sp' :=
  ⟨fun vs H Q E q => F.len vs H Q E (h _ _ _ _ q), fun A outer s H args us vs Q E hr he hb hv hs => F.run A outer s H args us vs Q E hr he hb hv (h _ _ _ _ hs)⟩

theorem Env0.make {P : Program} {w : World} {K : PySem.W.Frag} {mg : Str → Option Value} {base : Heap} {A : Around} {outer : List Env} {s : Shared} {H : Hp} (e : Env0 P w K mg base A outer s H) (C : Addr) (us : List Value) (kw : List (Str × Value)) :
    Env0 P w K mg base (A.under (.builtin "type.__call__" ⟨.ref C :: us, kw⟩)) outer s H := ⟨by first | exact e.frames | (simpa [Around.under, Code.envs, Code.isFrame, pushEnvs] using e.frames), e.mod, e.bs, e.bsz, e.funs, e.frf, e.hok, e.bare⟩
theorem Env0.in1 {P : Program} {w : World} {K : PySem.W.Frag} {mg : Str → Option Value} {base : Heap} {A : Around} {outer : List Env} {s : Shared} {H : Hp} (e : Env0 P w K mg base A outer s H) :
    Env0 P w K mg base A.in1 outer s H := ⟨e.frames, e.mod, e.bs, e.bsz, e.funs, e.frf, e.hok, e.bare⟩

section
variable {X : Cx} {pins : List (Addr × Obj)} {σ : St} {H : Hp} {s s' : Shared}
/-- from a body: what a callee wants -/
theorem Inv.env0 (I : Inv X pins σ H s) : Env0 X.prog X.w X.K X.mg X.base X.A X.stack s H :=
  ⟨I.ok.frames, I.ok.mod, I.bs, Nat.le_trans I.ok.bsz I.sz, I.stack, I.stkFree, I.hok, I.bare⟩
/-- behind a call -/
theorem Inv.after {Q : VK} {u : Value} (I : Inv X pins σ H s) (h : CE X.stack X.prog X.w H s Q u s') : EP X pins σ Q u s' := by
  obtain ⟨v, H', os, bare, un, hok, r, q⟩ := h
  obtain ⟨hh, g, d, t, os'⟩ := s'
  obtain rfl : os' = s.os := os
  exact ⟨v, H', I.call (h' := hh) (g' := g) (d' := d) (t' := t) (ch := []) un hok bare (fun b z => absurd z (by simp)), r, q⟩
end

/-! ### calls -/
/-- f(..): the written arguments, then the defaults dvs; E: what is wanted of an exception -/
def tCall (sp : Sp) (dvs : List V) (E : XK) (t : TA) : TE := fun σ H Q => t σ H fun vs H1 => sp (vs ++ dvs) H1 Q E
/-- o.m(..) of an instance of the class at C -/
def tMeth (C : Addr) (m : Str) (sp : Sp) (dvs : List V) (E : XK) (ta : TE) (t : TA) : TE := fun σ H Q => ta σ H fun x H1 => ∃ a dx fs, x = .ref a ∧ H1 a = some (.ins C dx fs) ∧ fs.lookup m = none ∧
  t σ H1 fun vs H2 => sp (x :: (vs ++ dvs)) H2 Q E
/-- C(..): a new instance and its dict, then __init__ -/
def tMake (C : Addr) (sp : Sp) (dvs : List V) (E : XK) (t : TA) : TE := fun σ H Q => t σ H fun vs H1 => ∀ x dx, H1 x = none → H1 dx = none → dx ≠ x →
  sp (.ref x :: (vs ++ dvs)) (upd (upd H1 dx (.own x)) x (.ins C dx [])) (fun v H2 => v = .non ∧ Q (.ref x) H2) E

/-- how the parameters are bound: us the positional arguments, kw the keywords' values by name, ds the defaults that fill up -/
def Binds (K : PySem.W.Frag) (fd : FuncData) (ps : List Str) (ds : List Value) : Prop :=
  ∀ (s : Shared) (us : List Value), K.In s.heap → (us ++ ds).length = ps.length → BindsTo s fd ⟨us, []⟩ (ps.zip (us ++ ds))
/-- every parameter is given -/
theorem Binds.all {K : PySem.W.Frag} {fd : FuncData} {ps : List Str} (h : ∀ us : List Value, us.length = ps.length → bindArgs fd ⟨us, []⟩ = pure (ps.zip us)) : Binds K fd ps [] := fun s us _ hl => by
  rw [List.append_nil] at hl ⊢
  exact .of_eq (h us hl)

/-- an exception of a callee reaches what this body wants of exceptions -/
def Passes (CX : CXT) (X : Cx) (E : XK) : Prop := ∀ (pins : List (Addr × Obj)) (σ : St) (H : Hp) (s : Shared) (e : Value) (s' : Shared), Inv X pins σ H s → CX X.stack H s E e s' → X.xe e s'

section
variable {X : Cx} {CX : CXT} {k : Nat} {f C : Addr} {fd : FuncData} {ps : List Str} {sp : Sp} {dvs : List V} {ds : List Value} {E : XK} {x m : Str} {p pos apos : Pos} {e o : Expr} {es : List Expr} {ta : TE} {t : TA}

/-- the callee runs -/
theorem run_fn {pins : List (Addr × Obj)} {σ : St} {H : Hp} {s : Shared} {Q : VK} {us : List Value} {vs : List V} (F : FnOk X.prog X.w X.K X.mg X.base CX k f fd ps sp) (hr : Room k X.A) (hb : Binds X.K fd ps ds) (hd : Vals dvs ds) (hx : Passes CX X E)
    (I : Inv X pins σ H s) (r : Vals vs us) (h : sp (vs ++ dvs) H Q E) : wpAny (model X.prog X.w) X.A (call (.ref f) us) (EP X pins σ Q) X.xe s := by
  have r2 : Vals (vs ++ dvs) (us ++ ds) := r.append hd
  have hl : (us ++ ds).length = ps.length := by rw [← r2.length]; exact F.len _ _ _ _ h
  refine wpAny_call (codeAny_mono (F.run X.A X.stack s H ⟨us, []⟩ (us ++ ds) (vs ++ dvs) Q E hr I.env0 (hb s us I.kIn hl) r2 h) fun r s' hq => ?_)
  cases r with
  | error e => exact hx pins σ H s e s' I hq
  | ok fl =>
    cases fl with
    | ret u => exact I.after hq
    | next => exact False.elim hq
    | brk => exact False.elim hq
    | cont => exact False.elim hq

theorem pe_call (F : FnOk X.prog X.w X.K X.mg X.base CX k f fd ps sp) (hr : Room k X.A) (hg : Gl X x) (hm : X.mg x = some (.ref f)) (hk : PySem.W.keepIn X.K (.ref f) = true) (hb : Binds X.K fd ps ds) (hd : Vals dvs ds) (hx : Passes CX X E)
    (ha : PA X (e :: es) t) (hdb : (x == ("__debug__" : Str)) = false := by decide) (he : starEach (e :: es) X.env = (false, eval e X.env) :: starEach es X.env := by rfl) (hpl : (backTo pos (starEach es X.env)).any (·.1) = false := by rfl) :
    PE X (.Call (.Name x p) (e :: es) [] pos) (tCall sp dvs E t) := by
  intro pins s σ H Q I h
  refine wpAny_Call_Name_kw (ld_glob I hg hm ?_ hdb)
  refine PySem.W.callWith_K (h₀ := X.base) I.ok.mod.kin hk (thn (ha pos pins s σ H _ I h) fun us s1 ⟨vs, H1, I1, r, q⟩ => ⟨I1.kIn, ?_⟩) he hpl
  exact run_fn F hr hb hd hx I1 r q
theorem pe_call0 (F : FnOk X.prog X.w X.K X.mg X.base CX k f fd ps sp) (hr : Room k X.A) (hg : Gl X x) (hm : X.mg x = some (.ref f)) (hk : PySem.W.keepIn X.K (.ref f) = true) (hb : Binds X.K fd ps ds) (hd : Vals dvs ds) (hx : Passes CX X E)
    (hdb : (x == ("__debug__" : Str)) = false := by decide) : PE X (.Call (.Name x p) [] [] pos) (tCall sp dvs E tNil) := by
  intro pins s σ H Q I h
  refine wpAny_Call_Name_kw (ld_glob I hg hm ?_ hdb)
  exact PySem.W.callWith_K0 I.kIn hk (run_fn (us := []) F hr hb hd hx I .nil h)

/-- o.m(e, ..) -/
theorem pe_meth {pl : Sem Bool} (he : PE X o ta) (c : Cls X.K C) (hm : Meth X.K C m f) (F : FnOk X.prog X.w X.K X.mg X.base CX k f fd ps sp) (hr : Room k X.A) (hb : Binds X.K fd ps ds) (hd : Vals dvs ds) (hx : Passes CX X E) (ha : PA X (e :: es) t)
    (hst : starEach (e :: es) X.env = (false, eval e X.env) :: starEach es X.env := by rfl) (hpl : (backTo pos (starEach es X.env)).any (·.1) = false := by rfl)
    (ht : eval (.Call (.Attribute o m apos) (e :: es) [] pos) X.env = (do
      let ov ← eval o X.env
      standAt apos.atName
      let (f, first) ← holding [ov] (getMethod ov m pl)
      callWith pos f first (backTo pos (starEach (e :: es) X.env)) (backToKw pos (keywordEach [] X.env))) := by rfl) :
    PE X (.Call (.Attribute o m apos) (e :: es) [] pos) (tMeth C m sp dvs E ta t) := by
  intro pins s σ H Q I h
  refine PySem.W.methodCall_KW (pl := pl) (thn (he pins s σ H _ I h) fun u s1 ⟨x, H1, I1, rx, a, dx, fs, ex, ea, l, q⟩ => ?_) ht
  subst ex
  obtain rfl : u = Value.ref a := rx
  refine getmeth_ok I1 ea c hm l ?_
  refine PySem.W.callWith_K (first := [.ref a]) (h₀ := X.base) I.ok.mod.kin hm.kp (thn (ha pos pins s1 σ H1 _ I1 q) fun us s2 ⟨vs, H2, I2, r, q2⟩ => ⟨I2.kIn, ?_⟩) hst hpl
  exact run_fn (us := .ref a :: us) (vs := .ref a :: vs) F hr hb hd hx I2 (.cons rfl r) q2
/-- o.m() -/
theorem pe_meth0 {pl : Sem Bool} (he : PE X o ta) (c : Cls X.K C) (hm : Meth X.K C m f) (F : FnOk X.prog X.w X.K X.mg X.base CX k f fd ps sp) (hr : Room k X.A) (hb : Binds X.K fd ps ds) (hd : Vals dvs ds) (hx : Passes CX X E)
    (ht : eval (.Call (.Attribute o m apos) [] [] pos) X.env = (do
      let ov ← eval o X.env
      standAt apos.atName
      let (f, first) ← holding [ov] (getMethod ov m pl)
      callWith pos f first (backTo pos (starEach [] X.env)) (backToKw pos (keywordEach [] X.env))) := by rfl) :
    PE X (.Call (.Attribute o m apos) [] [] pos) (tMeth C m sp dvs E ta tNil) := by
  intro pins s σ H Q I h
  refine PySem.W.methodCall_KW (pl := pl) (thn (he pins s σ H _ I h) fun u s1 ⟨x, H1, I1, rx, a, dx, fs, ex, ea, l, q⟩ => ?_) ht
  subst ex
  obtain rfl : u = Value.ref a := rx
  refine getmeth_ok I1 ea c hm l ?_
  exact PySem.W.callWith_K0 (first := [.ref a]) I1.kIn hm.kp (run_fn (us := [.ref a]) (vs := [.ref a]) F hr hb hd hx I1 (.cons rfl .nil) q)

/-- what a class must have to be made -/
structure Mk (K : PySem.W.Frag) (C f : Addr) : Prop where
  makes : PySem.W.makesIn K C = true
  init : PySem.W.findIn K (.ref C) "__init__" = some (some (.ref f))
  fn : PySem.W.isFn K (.ref f) = true
  kp : PySem.W.keepIn K (.ref C) = true

theorem run_make {pins : List (Addr × Obj)} {σ : St} {H : Hp} {s : Shared} {Q : VK} {us : List Value} {vs : List V} (M : Mk X.K C f) (F : FnOk X.prog X.w X.K X.mg X.base CX k f fd ps sp) (hr : Room (k + 1) X.A) (hb : Binds X.K fd ps ds) (hd : Vals dvs ds)
    (hx : Passes CX X E) (I : Inv X pins σ H s) (r : Vals vs us)
    (h : ∀ x dx, H x = none → H dx = none → dx ≠ x → sp (.ref x :: (vs ++ dvs)) (upd (upd H dx (.own x)) x (.ins C dx [])) (fun v H2 => v = .non ∧ Q (.ref x) H2) E) :
    wpAny (model X.prog X.w) X.A (call (.ref C) us) (EP X pins σ Q) X.xe s := by
  have hq := h (s.heap.objs.size + 1) s.heap.objs.size (I.hok.fresh (Nat.le_succ _)) (I.hok.fresh (Nat.le_refl _)) (Nat.ne_of_lt (Nat.lt_succ_self _))
  have I2 := Inv.made (C := C) I
  have r2 : Vals (V.ref (s.heap.objs.size + 1) :: (vs ++ dvs)) (Value.ref (s.heap.objs.size + 1) :: (us ++ ds)) := .cons rfl (r.append hd)
  have hl : (Value.ref (s.heap.objs.size + 1) :: us ++ ds).length = ps.length := by
    have e := r2.length
    rw [F.len _ _ _ _ hq] at e
    exact e.symm
  refine wpAny_call (make_map (f := f) I.kIn M.makes M.init (beq_iff_eq.mp M.fn) (codeAny_mono (F.run _ X.stack _ _ ⟨Value.ref (s.heap.objs.size + 1) :: us, []⟩ (Value.ref (s.heap.objs.size + 1) :: (us ++ ds)) _ _ E (hr.make C us [])
    (I2.env0.make C us []) (hb _ (Value.ref (s.heap.objs.size + 1) :: us) I2.kIn hl) r2 hq) fun r s' hq' => ?_))
  cases r with
  | error e => exact hx pins σ _ _ e s' I2 hq'
  | ok fl =>
    cases fl with
    | ret u =>
      obtain ⟨v, H', I3, rv, ev, q3⟩ := I2.after hq'
      subst ev
      exact ⟨rv, ⟨V.ref (s.heap.objs.size + 1), H', I3, rfl, q3⟩⟩
    | next => exact False.elim hq'
    | brk => exact False.elim hq'
    | cont => exact False.elim hq'
theorem pe_make (M : Mk X.K C f) (F : FnOk X.prog X.w X.K X.mg X.base CX k f fd ps sp) (hr : Room (k + 1) X.A) (hg : Gl X x) (hm : X.mg x = some (.ref C)) (hb : Binds X.K fd ps ds) (hd : Vals dvs ds) (hx : Passes CX X E)
    (ha : PA X (e :: es) t) (hdb : (x == ("__debug__" : Str)) = false := by decide) (he : starEach (e :: es) X.env = (false, eval e X.env) :: starEach es X.env := by rfl) (hpl : (backTo pos (starEach es X.env)).any (·.1) = false := by rfl) :
    PE X (.Call (.Name x p) (e :: es) [] pos) (tMake C sp dvs E t) := by
  intro pins s σ H Q I h
  refine wpAny_Call_Name_kw (ld_glob I hg hm ?_ hdb)
  refine PySem.W.callWith_K (h₀ := X.base) I.ok.mod.kin M.kp (thn (ha pos pins s σ H _ I h) fun us s1 ⟨vs, H1, I1, r, q⟩ => ⟨I1.kIn, ?_⟩) he hpl
  exact run_make M F hr hb hd hx I1 r q
theorem pe_make0 (M : Mk X.K C f) (F : FnOk X.prog X.w X.K X.mg X.base CX k f fd ps sp) (hr : Room (k + 1) X.A) (hg : Gl X x) (hm : X.mg x = some (.ref C)) (hb : Binds X.K fd ps ds) (hd : Vals dvs ds) (hx : Passes CX X E)
    (hdb : (x == ("__debug__" : Str)) = false := by decide) : PE X (.Call (.Name x p) [] [] pos) (tMake C sp dvs E tNil) := by
  intro pins s σ H Q I h
  refine wpAny_Call_Name_kw (ld_glob I hg hm ?_ hdb)
  exact PySem.W.callWith_K0 I.kIn M.kp (run_make (us := []) M F hr hb hd hx I .nil h)
end

/-! ### keywords -/
/-- the values of the keywords, from the left -/
def PK (X : Cx) (kws : List Keyword) (t : TA) : Prop :=
  ∀ (pos : Pos) (pins : List (Addr × Obj)) (s : Shared) (σ : St) (H : Hp) (Q : List V → Hp → Prop), Inv X pins σ H s → t σ H Q → wpAny (model X.prog X.w) X.A (evalAll ((backToKw pos (keywordEach kws X.env)).map (·.2))) (AP X pins σ Q) X.xe s
section
variable {X : Cx} {CX : CXT} {k : Nat} {f C : Addr} {fd : FuncData} {ps ks : List Str} {sp : Sp} {E : XK} {x m : Str} {p pos apos kpos : Pos} {e o : Expr} {es : List Expr} {kws : List Keyword} {te ta : TE} {t tk : TA} {nm : Option Str}
theorem pk_nil : PK X [] tNil := fun _ _ _ _ H Q I h => wpAny_evalAll_nil ⟨[], H, I, .nil, h⟩
theorem pk_cons (ha : PE X e te) (hr : PK X kws t) : PK X (⟨nm, e, kpos⟩ :: kws) (tCons te t) := by
  intro pos pins s σ H Q I h
  show wpAny _ _ (evalAll ((do let v ← eval e X.env; standAt pos; pure v) :: (backToKw pos (keywordEach kws X.env)).map (·.2))) _ _ s
  refine wpAny_evalAll_cons (wpAny_bind (thn (ha pins s σ H _ I h) fun u s1 ⟨x, H1, I1, r1, q1⟩ => wpAny_bind (wpAny_standAt (wpAny_pure ?_))))
  exact thn (hr pos pins s1 σ H1 _ I1 q1) fun us s2 ⟨xs, H2, I2, r2, q2⟩ => ⟨x :: xs, H2, I2, .cons r1 r2, q2⟩

/-- how a call with keywords binds: g puts the positional values us and the keywords' values ws (names ks) in the parameters' order, defaults among them -/
structure KBinds (K : PySem.W.Frag) (fd : FuncData) (ps ks : List Str) (g : List Value → List Value → List Value) (gV : List V → List V → List V) : Prop where
  to : ∀ (s : Shared) (us ws : List Value), K.In s.heap → (g us ws).length = ps.length → BindsTo s fd ⟨us, ks.zip ws⟩ (ps.zip (g us ws))
  rel : ∀ {vs : List V} {us : List Value} {zs : List V} {ws : List Value}, Vals vs us → Vals zs ws → Vals (gV vs zs) (g us ws)
def tCallK (sp : Sp) (gV : List V → List V → List V) (E : XK) (t tk : TA) : TE := fun σ H Q => t σ H fun vs H1 => tk σ H1 fun zs H2 => sp (gV vs zs) H2 Q E
variable {g : List Value → List Value → List Value} {gV : List V → List V → List V}
theorem run_fnk {pins : List (Addr × Obj)} {σ : St} {H : Hp} {s : Shared} {Q : VK} {us ws : List Value} {vs zs : List V} (F : FnOk X.prog X.w X.K X.mg X.base CX k f fd ps sp) (hr : Room k X.A) (hb : KBinds X.K fd ps ks g gV) (hx : Passes CX X E)
    (I : Inv X pins σ H s) (r : Vals vs us) (rz : Vals zs ws) (h : sp (gV vs zs) H Q E) : wpAny (model X.prog X.w) X.A (call (.ref f) us (ks.zip ws)) (EP X pins σ Q) X.xe s := by
  have r2 := hb.rel r rz
  have hl : (g us ws).length = ps.length := by rw [← r2.length]; exact F.len _ _ _ _ h
  refine wpAny_call (codeAny_mono (F.run X.A X.stack s H ⟨us, ks.zip ws⟩ (g us ws) (gV vs zs) Q E hr I.env0 (hb.to s us ws I.kIn hl) r2 h) fun r s' hq => ?_)
  cases r with
  | error e => exact hx pins σ H s e s' I hq
  | ok fl =>
    cases fl with
    | ret u => exact I.after hq
    | next => exact False.elim hq
    | brk => exact False.elim hq
    | cont => exact False.elim hq
/-- f(e, .., k = v, ..) -/
theorem pe_callK (F : FnOk X.prog X.w X.K X.mg X.base CX k f fd ps sp) (hr : Room k X.A) (hg : Gl X x) (hm : X.mg x = some (.ref f)) (hk : PySem.W.keepIn X.K (.ref f) = true) (hb : KBinds X.K fd ps ks g gV) (hx : Passes CX X E)
    (ha : PA X (e :: es) t) (hkw : PK X kws tk) (hall : (backToKw pos (keywordEach kws X.env)).all (·.1.isSome) = true := by rfl) (hks : (backToKw pos (keywordEach kws X.env)).filterMap (·.1) = ks := by rfl)
    (hdb : (x == ("__debug__" : Str)) = false := by decide) (he : starEach (e :: es) X.env = (false, eval e X.env) :: starEach es X.env := by rfl)
    (hpl : ((backTo pos (starEach (e :: es) X.env)).any (·.1) || (backToKw pos (keywordEach kws X.env)).any (·.1.isNone)) = false := by rfl) :
    PE X (.Call (.Name x p) (e :: es) kws pos) (tCallK sp gV E t tk) := by
  intro pins s σ H Q I h
  refine wpAny_Call_Name_kw (ld_glob I hg hm ?_ hdb)
  refine PySem.W.callWith_KW (h₀ := X.base) I.ok.mod.kin hk hall (thn (ha pos pins s σ H _ I h) fun us s1 ⟨vs, H1, I1, r, q⟩ => ?_) hpl he
  refine thn (hkw pos pins s1 σ H1 _ I1 q) fun ws s2 ⟨zs, H2, I2, rz, q2⟩ => ⟨I2.kIn, ?_⟩
  rw [hks]
  exact run_fnk F hr hb hx I2 r rz q2
end

/-! ### a def's body keeps its promise -/
/-- names: the parameters first -/
structure FnScope (N P : List Str) (sc : Scope) : Prop where
  kind : sc.kind = .function
  co : sc.isCoroutine = false
  gen : sc.isGenerator = false
  nd : N.Nodup
  pre : N.take P.length = P
  par : ∀ x ∈ P, sc.names.lookup x = some .local ∨ sc.names.lookup x = some .cell
  nofree : ∀ y ∈ sc.names, y.2 ≠ .free

theorem bindL_out {kindOf : Str → Option NameKind} {x : Str} : ∀ {binds : List (Str × Value)} {m : Str → Option Value}, (∀ v, (x, v) ∉ binds) → bindL kindOf binds m x = m x
  | [], _, _ => rfl
  | (n, v) :: r, m, h => by
    unfold bindL
    rw [bindL_out fun w hw => h w (List.mem_cons_of_mem _ hw)]
    split
    · have : x ≠ n := by rintro rfl; exact h v List.mem_cons_self
      simp [this]
    · rfl
theorem bindC_out {kindOf : Str → Option NameKind} {x : Str} : ∀ {binds : List (Str × Value)} {m : Str → Option Value}, (∀ v, (x, v) ∉ binds) → bindC kindOf binds m x = m x
  | [], _, _ => rfl
  | (n, v) :: r, m, h => by
    unfold bindC
    rw [bindC_out fun w hw => h w (List.mem_cons_of_mem _ hw)]
    split
    · rfl
    · have : x ≠ n := by rintro rfl; exact h v List.mem_cons_self
      simp [this]
theorem bindL_get {kindOf : Str → Option NameKind} {x : Str} {v : Value} : ∀ {P : List Str} {vs : List Value} {i : Nat} {m : Str → Option Value}, P.Nodup → P[i]? = some x → vs[i]? = some v → kindOf x = some .local →
    bindL kindOf (P.zip vs) m x = some v
  | [], _, _, _, _, h, _, _ => by simp at h
  | _ :: _, [], _, _, _, _, h, _ => by simp at h
  | p :: P, w :: vs, 0, m, nd, h1, h2, hk => by
    simp at h1 h2; subst h1; subst h2
    show bindL kindOf ((p, w) :: P.zip vs) m p = _
    unfold bindL
    rw [bindL_out fun v hv => (List.nodup_cons.mp nd).1 (List.of_mem_zip hv).1, if_pos hk]
    simp
  | p :: P, w :: vs, i + 1, m, nd, h1, h2, hk => by
    show bindL kindOf ((p, w) :: P.zip vs) m x = _
    unfold bindL
    exact bindL_get (i := i) (List.nodup_cons.mp nd).2 (by simpa using h1) (by simpa using h2) hk
theorem bindC_get {kindOf : Str → Option NameKind} {x : Str} {v : Value} : ∀ {P : List Str} {vs : List Value} {i : Nat} {m : Str → Option Value}, P.Nodup → P[i]? = some x → vs[i]? = some v → kindOf x ≠ some .local →
    bindC kindOf (P.zip vs) m x = some v
  | [], _, _, _, _, h, _, _ => by simp at h
  | _ :: _, [], _, _, _, _, h, _ => by simp at h
  | p :: P, w :: vs, 0, m, nd, h1, h2, hk => by
    simp at h1 h2; subst h1; subst h2
    show bindC kindOf ((p, w) :: P.zip vs) m p = _
    unfold bindC
    rw [bindC_out fun v hv => (List.nodup_cons.mp nd).1 (List.of_mem_zip hv).1, if_neg hk]
    simp
  | p :: P, w :: vs, i + 1, m, nd, h1, h2, hk => by
    show bindC kindOf ((p, w) :: P.zip vs) m x = _
    unfold bindC
    exact bindC_get (i := i) (List.nodup_cons.mp nd).2 (by simpa using h1) (by simpa using h2) hk

/-- the names' values at the entry -/
def start (N : List Str) (vs : List V) : St := vs.map some ++ List.replicate (N.length - vs.length) none

/-- the context of a def's body, at its entry; an exception leaves the frame, then lies as CX says -/
def cxOf (CX : CXT) (P : Program) (w : World) (K : PySem.W.Frag) (mg : Str → Option Value) (base : Heap) (N : List Str) (qual : Str) (scope : Scope) (f : Addr) (cd : Value) (A : Around) (outer : List Env) (s : Shared) (H : Hp) (E : XK) : Cx where
  prog := P
  w := w
  K := K
  mg := mg
  base := base
  A := A.deeper (envOfC qual scope s.heap.objs.size f cd)
  N := N
  s₀ := s
  H₀ := H
  env := envOfC qual scope s.heap.objs.size f cd
  outer := outer
  stack := envOfC qual scope s.heap.objs.size f cd :: outer
  ex := []
  calm := true
  fn := fun _ => true
  pn := []
  xe := fun e s' => wpAny (model P w) (A.deeper (envOfC qual scope s.heap.objs.size f cd)) (leaving (envOfC qual scope s.heap.objs.size f cd) e) (fun _ s'' => CX outer H s E e s'') (fun e' s'' => CX outer H s E e' s'') s'

theorem cell_has {sc : Scope} {n : Nat} {x : Str} (h : sc.names.lookup x = some .cell) : ∃ c, (cellsFrom n sc.names []).lookup x = some c := by
  have q := PySem.W.cellsFrom_some sc.names n [] (.inl h)
  exact Option.isSome_iff_exists.mp q

theorem inv_start {CX : CXT} {P : Program} {w : World} {K : PySem.W.Frag} {mg : Str → Option Value} {base : Heap} {N ps : List Str} {qual : Str} {scope : Scope} {f : Addr} {cd : Value} {A : Around} {outer : List Env} {s s1 : Shared} {H : Hp} {E : XK} {us : List Value} {vs : List V}
    (S : FnScope N ps scope) (hd : A.handled = none) (e0 : Env0 P w K mg base A outer s H) (hl : vs.length = ps.length) (r : Vals vs us)
    (x : InCallC s s.heap.objs.size (bindL (envOfC qual scope s.heap.objs.size f cd).kindOf (ps.zip us) fun _ => none) (cellsFrom (s.heap.objs.size + 1) scope.names []) (bindC (envOfC qual scope s.heap.objs.size f cd).kindOf (ps.zip us) fun _ => none) s1) :
    Inv (cxOf CX P w K mg base N qual scope f cd A outer s H E) [] (start N vs) H s1 := by
  have hpl : ps.length ≤ N.length := by have := congrArg List.length S.pre; rw [List.length_take] at this; omega
  obtain ⟨h1, tk, rfl, hk⟩ := x.done
  have noA : ∀ b : Addr, b ∉ (cxOf CX P w K mg base N qual scope f cd A outer s H E).ex := fun b z => absurd (show b ∈ ([] : List Addr) from z) (by simp)
  refine ⟨⟨e0.mod, S.kind, rfl, rfl, Nat.le_refl _, fun y z c h1 h2 => ?_, fun y hy => ?_, fun y c _ h => ?_, fun _ => hd, Around.frames_deeper e0.frames, .inr ⟨rfl, rfl⟩, fun b z => absurd z (noA b), e0.bs, e0.bsz, fun b _ _ => noA b, fun b z => absurd z (noA b), e0.funs, e0.frf⟩,
    rfl, e0.bare, Un.kept hk, ⟨_, x.toInCall.ns, fun i y v h1 h2 h3 => ?_⟩, fun y c h => ⟨_, x.cell y c h⟩, e0.hok.fresh (Nat.le_refl _), fun y c h => ?_, fun p hp => absurd (show p ∈ ([] : List (Addr × Obj)) from hp) (by simp), e0.hok.kept hk, ?_⟩
  · exact name_of_addr x.apart (PySem.mem_of_lookup h1) (PySem.mem_of_lookup h2)
  · have hy : scope.names.lookup y = some .cell ∨ scope.names.lookup y = some .free := hy
    rcases hy with hy | hy
    · exact cell_has hy
    · exact absurd rfl (S.nofree _ (PySem.mem_of_lookup hy))
  · exact Nat.le_of_lt (x.above y c (PySem.mem_of_lookup h))
  · have hi : i < vs.length := by
      unfold start at h2
      by_cases hi : i < vs.length
      · exact hi
      · rw [List.getElem?_append_right (by simpa using hi)] at h2
        rw [List.getElem?_replicate] at h2
        split at h2 <;> cases h2
    have ha : vs[i]? = some v := by
      unfold start at h2
      rw [List.getElem?_append_left (by simpa using hi), List.getElem?_map] at h2
      cases e : vs[i]? with
      | none => rw [e] at h2; cases h2
      | some a => rw [e] at h2; cases h2; rfl
    obtain ⟨u, hu, rv⟩ := r.get ha
    have hp : ps[i]? = some y := by
      rw [← S.pre, List.getElem?_take_of_lt (by omega)]; exact h1
    have ndP : ps.Nodup := by rw [← S.pre]; exact S.nd.sublist (List.take_sublist _ _)
    refine ⟨u, rv, ?_⟩
    rcases S.par y (List.mem_of_getElem? hp) with k | k
    · exact .inl ⟨k, bindL_get ndP hp hu k⟩
    · obtain ⟨c, e⟩ := cell_has (n := s.heap.objs.size + 1) k
      refine .inr ⟨.inl k, c, e, ?_⟩
      have q := x.cell y c e
      rw [bindC_get ndP hp hu (by show scope.names.lookup y ≠ _; rw [k]; decide)] at q
      exact q
  · exact e0.hok.fresh (Nat.le_of_lt (x.above y c (PySem.mem_of_lookup h)))
  · unfold start
    show _ = N.length
    rw [List.length_append, List.length_map, List.length_replicate]
    omega

/-- THE RULE: a def (or a method) of the text, by its body. The body's reading t is chosen for each entry; it is run at the parameters' values -/
theorem fn_of {CX : CXT} {P : Program} {w : World} {K : PySem.W.Frag} {mg : Str → Option Value} {base : Heap} {k : Nat} {f : Addr} {name qual : Str} {params : Arguments} {body : List Stmt} {scope : Scope} {dV kV doc pm cdv ct oc : Value} {an od : Option Addr}
    {osl : Array (Option Value)} {N ps : List Str} {sp : Sp} (lk : K.lookup f = some ⟨oc, od, .func (PySem.W.fnOf name qual params body scope dV kV doc pm an cdv ct), osl⟩) (hcd : PySem.W.codeIn K cdv qual = true) (S : FnScope N ps scope)
    (len : ∀ vs H Q E, sp vs H Q E → vs.length = ps.length)
    (hbody : ∀ (A : Around) (outer : List Env) (s : Shared) (H : Hp) (vs : List V) (Q : VK) (E : XK), Room k (A.deeper (envOfC qual scope s.heap.objs.size f cdv)) → sp vs H Q E →
      ∃ t, PSs (cxOf CX P w K mg base N qual scope f cdv A outer s H E) body t ∧ t { nx := fun _ H' => Q .non H', rt := Q } (start N vs) H) :
    FnOk P w K mg base CX (k + 1) f (PySem.W.fnOf name qual params body scope dV kV doc pm an cdv ct) ps sp := by
  refine ⟨len, fun A outer s H args us vs Q E hr e0 hb r hsp => ?_⟩
  have hl := len _ _ _ _ hsp
  have KX : K.In s.heap := e0.mod.kin.keeps fun b o e => (e0.bs b o e).1
  have lim : s.heap.NoLimit := e0.mod.nolimit.keeps fun b o e => (e0.bs b o e).1
  have hkind : ∀ y ∈ ps.zip us, scope.names.lookup y.1 = some .local ∨ (scope.names.lookup y.1 = some .cell ∧ ((cellsFrom (s.heap.objs.size + 1) scope.names []).lookup y.1).isSome = true) := fun ⟨n, v⟩ hy => by
    rcases S.par n (List.of_mem_zip hy).1 with q | q
    · exact .inl q
    · exact .inr ⟨q, PySem.W.cellsFrom_some _ _ _ (.inl q)⟩
  refine codeAny_call_function hr.depth (KX _ _ lk) rfl S.co S.gen rfl (PySem.W.codeRec_of KX hcd) (hb _ _ _ _ ?_)
  refine wpAny_newFunctionEnv_cells S.kind hkind fun env he s1 x => ?_
  subst he
  refine ⟨lim.keeps x.toInCall.keep, codeAny_func ?_⟩
  obtain ⟨t, ht, hq⟩ := hbody A outer s H vs Q E (hr.deeper _) hsp
  have I : Inv (cxOf CX P w K mg base N qual scope f cdv A outer s H E) [] (start N vs) H s1 := inv_start S hr.hd e0 hl r x
  refine wpAny_mono (ht [] s1 (start N vs) H _ I hq) (fun fl s' hs => ?_) fun e s' hs => hs
  have fin : ∀ {σ' : St} {H' : Hp} {v : V} {u : Value}, Inv (cxOf CX P w K mg base N qual scope f cdv A outer s H E) [] σ' H' s' → RelV v u → Q v H' → CE outer P w H s Q u s' :=
    fun {σ' H' v u} J rv q => ⟨v, H', J.os, J.bare, J.base, J.hok, rv, q⟩
  cases fl with
  | ret u =>
    obtain ⟨v, σ', H', J, rv, q⟩ := hs
    exact fin J rv q
  | next =>
    obtain ⟨σ', H', J, q⟩ := hs
    exact fin (v := V.non) (u := Value.none) J rfl q
  | brk =>
    obtain ⟨_, _, _, q⟩ := hs
    exact False.elim q
  | cont =>
    obtain ⟨_, _, _, q⟩ := hs
    exact False.elim q
end L2

namespace L2
open PySem PySem.Spec PyProof.Rows
section
variable {X : Cx} {x : Str} {p pos : Pos} {e : Expr} {es : List Expr} {t : TA} {id T : String} {r : List V → Hp → VK → Prop}

def tCB (r : List V → Hp → VK → Prop) (t : TA) : TE := fun σ H Q => t σ H fun vs H1 => r vs H1 Q
/-- f(e, ..), f a built-in function -/
theorem pe_callB (hc : CallR X (.builtin id) r) (hg : Gl X x) (hm : X.mg x = none) (hv : bootBuiltins x = some (.builtin id)) (ha : PA X (e :: es) t) (hn : x ≠ "__name__" := by decide) (hdb : (x == ("__debug__" : Str)) = false := by decide)
    (he : starEach (e :: es) X.env = (false, eval e X.env) :: starEach es X.env := by rfl) (hpl : (backTo pos (starEach es X.env)).any (·.1) = false := by rfl) : PE X (.Call (.Name x p) (e :: es) [] pos) (tCB r t) := by
  intro pins s σ H Q I h
  refine wpAny_Call_Name_kw (ld_blt I hg hm hv ?_ hn hdb)
  exact PyProof.Rows.callWith_builtin1 (thn (ha pos pins s σ H _ I h) fun us s1 ⟨vs, H1, I1, r1, q1⟩ => hc pins s1 σ H1 vs us Q I1 r1 q1) he hpl
/-- T(e, ..), T a built-in type -/
theorem pe_callTy (hc : CallR X (.type T) r) (hg : Gl X x) (hm : X.mg x = none) (hv : bootBuiltins x = some (.type T)) (ha : PA X (e :: es) t) (hn : x ≠ "__name__" := by decide) (hdb : (x == ("__debug__" : Str)) = false := by decide)
    (he : starEach (e :: es) X.env = (false, eval e X.env) :: starEach es X.env := by rfl) (hpl : (backTo pos (starEach es X.env)).any (·.1) = false := by rfl) : PE X (.Call (.Name x p) (e :: es) [] pos) (tCB r t) := by
  intro pins s σ H Q I h
  refine wpAny_Call_Name_kw (ld_blt I hg hm hv ?_ hn hdb)
  exact PyProof.Rows.callWith_type1 (thn (ha pos pins s σ H _ I h) fun us s1 ⟨vs, H1, I1, r1, q1⟩ => hc pins s1 σ H1 vs us Q I1 r1 q1) he hpl
/-- T() -/
theorem pe_callTy0 (hc : CallR X (.type T) r) (hg : Gl X x) (hm : X.mg x = none) (hv : bootBuiltins x = some (.type T)) (hn : x ≠ "__name__" := by decide) (hdb : (x == ("__debug__" : Str)) = false := by decide) :
    PE X (.Call (.Name x p) [] [] pos) (tCB r tNil) := by
  intro pins s σ H Q I h
  refine wpAny_Call_Name_kw (ld_blt I hg hm hv ?_ hn hdb)
  exact PyProof.Rows.callWith_type0 (hc pins s σ H [] [] Q I .nil h)
end
end L2

namespace HT
open PySem PyProof.Rows

/-- t < u of tuples of ints -/
def lexLt : List Int → List Int → Bool
  | [], [] => false
  | [], _ :: _ => true
  | _ :: _, [] => false
  | x :: xs, y :: ys => if x = y then lexLt xs ys else decide (x < y)
theorem lexLt_cons (x y : Int) (xs ys : List Int) : lexLt (x :: xs) (y :: ys) = if x = y then lexLt xs ys else decide (x < y) := rfl
theorem lexLt_nil_nil : lexLt [] [] = false := rfl
theorem lexLt_nil_cons (y : Int) (ys : List Int) : lexLt [] (y :: ys) = true := rfl
theorem lexLt_cons_nil (x : Int) (xs : List Int) : lexLt (x :: xs) [] = false := rfl

theorem eqAt_int (A : Around) (s : Shared) (a : Int) (t : Tok) (c : Int) (u : Tok) : ∃ e, SeqAt.EqAt A s (.int a t) (.int c u) e ∧ (e = true ↔ a = c) :=
  ⟨(a == c), SeqAt.EqAt.int_int a t c u, by simp⟩
theorem rcLt_int (A : Around) (s : Shared) (a : Int) (t : Tok) (c : Int) (u : Tok) (prog : Program) (w : World) (E : Value → Shared → Prop) (Q : Value → Shared → Prop) (h : Q (.bool (decide (a < c))) s) :
    wpAny (model prog w) A (richCompare .Lt (.int a t) (.int c u)) Q E s :=
  (PyProof.Rows.lt_int h : wpAny (model prog w) A (compareOp .Lt (.int a t) (.int c u)) Q E s)

section
open PySem.SeqAt
open PySem.AutoSeq1 (wpAny_loadPart')
open PySem.MeetsSeq PySem.MeetsSeq2 PySem.MeetsSeq3

theorem tuple_lt_ints (l b : Addr) (items items2 : Array Value) (n n2 : Nat) (dd dd2 : Option Addr) (sl sl2 : Array (Option Value)) (ns ms : List Int) (hi : IntsAre items.toList ns) (hj : IntsAre items2.toList ms) :
    Meets (Builtin.«tuple.__lt__» ⟨[.ref l, .ref b], []⟩)
      (fun _ R s => s.heap.get? l = some { cls := .type "tuple", dict := dd, data := .seq items n, slots := sl } ∧ s.heap.get? b = some { cls := .type "tuple", dict := dd2, data := .seq items2 n2, slots := sl2 } ∧
        R (.ok (.ret (.bool (lexLt ns ms)))) s) :=
  .of_wp fun prog w A R s h => by
    obtain ⟨hp, g, d, tk, os⟩ := s; obtain ⟨hl, hb, h⟩ := h
    have f2 := AutoSeq1.sub_tuple_tuple
    have z1 : items.size = ns.length := by rw [← hi.length]; simp
    have z2 : items2.size = ms.length := by rw [← hj.length]; simp
    wp_walk using wpAny_loadPart' hl, wpAny_loadPart' hb, wpAny_forIn_list _ (fun rest b s' => b.1 = none ∧ s' = ⟨hp, g, d, tk, os⟩ ∧ ∃ (vs ws : List Value) (ns' ms' : List Int), rest = vs.zip ws ∧
      IntsAre vs ns' ∧ IntsAre ws ms' ∧ ns'.length + items2.size = ms'.length + items.size ∧ R (.ok (.ret (.bool (lexLt ns' ms')))) ⟨hp, g, d, tk, os⟩) _
    case turn =>
      rintro ⟨y, x⟩ rest b s' ⟨hb', rfl, vs, ws, ns', ms', hz, hvi, hwi, hlen, hR⟩
      cases hvi with
      | nil => rw [List.zip_nil_left] at hz; cases hz
      | cons a t hvi' =>
        cases hwi with
        | nil => rw [List.zip_nil_right] at hz; cases hz
        | cons c u hwi' =>
          rw [List.zip_cons_cons] at hz
          injection hz with hyx hrest
          injection hyx with hy hx
          subst hy hx
          rw [lexLt_cons] at hR
          simp only [List.length_cons] at hlen
          obtain ⟨e, he, hiff⟩ := eqAt_int A.in1 ⟨hp, g, d, tk, os⟩ a t c u
          refine wpAny_bind (he prog w _ _ ?_)
          cases e with
          | true =>
            rw [if_pos (hiff.mp rfl)] at hR
            wp_walk
            exact ⟨rfl, rfl, _, _, _, _, hrest, hvi', hwi', by omega, hR⟩
          | false =>
            rw [if_neg (fun q => absurd (hiff.mpr q) Bool.false_ne_true)] at hR
            have hri := rcLt_int A.in1 ⟨hp, g, d, tk, os⟩ a t c u prog w
            wp_walk using hri
            exact ⟨_, rfl, by simpa using hR⟩
    case fin =>
      rintro ⟨b1, b2⟩ s' ⟨hb', rfl, vs, ws, ns', ms', hz, hvi, hwi, hlen, hR⟩
      simp only at hb'
      subst hb'
      have hv : lexLt ns' ms' = decide (items.size < items2.size) := by
        cases hvi with
        | nil =>
          cases hwi with
          | nil =>
            simp only [List.length_nil] at hlen
            rw [lexLt_nil_nil]
            exact (decide_eq_false (by omega)).symm
          | cons c u hw =>
            simp only [List.length_nil, List.length_cons] at hlen
            rw [lexLt_nil_cons]
            exact (decide_eq_true (by omega)).symm
        | cons a t hv =>
          cases hwi with
          | nil =>
            simp only [List.length_nil, List.length_cons] at hlen
            rw [lexLt_cons_nil]
            exact (decide_eq_false (by omega)).symm
          | cons c u hw =>
            rw [List.zip_cons_cons] at hz
            cases hz
      rw [hv] at hR
      wp_walk
      exact ⟨_, rfl, by simpa [Builtin.Tuple.tupleCompareSizes] using hR⟩
    case h =>
      exact ⟨rfl, rfl, items.toList, items2.toList, ns, ms, rfl, hi, hj, by omega, h⟩
end

section
variable {prog : Program} {w : World} {A : Around} {E : Value → Shared → Prop} {s : Shared}

theorem lt_tupInts {l b : Addr} {items items2 : Array Value} {ns ms : List Int} {Q : Value → Shared → Prop} (hl : IsTup s.heap l items) (hb : IsTup s.heap b items2) (hi : IntsAre items.toList ns) (hj : IntsAre items2.toList ms)
    (hu : A.units < cLine) (h : Q (.bool (lexLt ns ms)) s) : wpAny (model prog w) A (compareOp .Lt (.ref l) (.ref b)) Q E s := by
  obtain ⟨⟨cls, dd, data, sl⟩, ho, hc, n, hd⟩ := id hl
  obtain ⟨⟨cls2, dd2, data2, sl2⟩, ho2, hc2, n2, hd2⟩ := id hb
  simp only at hc hd hc2 hd2
  subst hc hd hc2 hd2
  exact richCompare_meets_room (op := .Lt) ⟨_, ho, rfl⟩ ⟨_, ho2, rfl⟩ PySem.F.slot_tuple_lt PySem.F.entry_tuple_lt (PySem.F.args_tuple_lt_2 _ _) (tuple_lt_ints l b items items2 n n2 dd dd2 sl sl2 ns ms hi hj)
    ⟨ho, ho2, show Value.bool (lexLt ns ms) ≠ Value.notImplemented ∧ Q (.bool (lexLt ns ms)) s from ⟨(fun x => nomatch x), h⟩⟩ hu

/-- t + u, t not empty -/
theorem cat_tup {t b : Addr} {vs ws : List Value} {Q : Value → Shared → Prop} (ht : IsTup s.heap t vs.toArray) (hb : IsTup s.heap b ws.toArray) (hv : vs ≠ [])
    (h1 : ws = [] → Q (.ref t) s) (h2 : ws ≠ [] → Q (.ref s.heap.objs.size) { s with heap := s.heap.push { cls := .type "tuple", data := .seq (vs ++ ws).toArray } })
    (hsz : vs.length + ws.length ≤ sizeLine) : wpAny (model prog w) A (binaryOp .Add (.ref t) (.ref b)) Q E s := by
  obtain ⟨⟨cls, dd, data, sl⟩, ho, hc, n, hd⟩ := id ht
  obtain ⟨⟨cls2, dd2, data2, sl2⟩, ho2, hc2, n2, hd2⟩ := id hb
  simp only at hc hd hc2 hd2
  subst hc hd hc2 hd2
  have e : vs.toArray ++ ws.toArray = (vs ++ ws).toArray := by simp
  by_cases hw : ws = []
  · exact concat_meets ⟨_, ho, rfl⟩ ⟨_, ho2, rfl⟩ noFill_tuple_add seq_tuple_add PySem.F.slot_tuple_add PySem.F.entry_tuple_add (PySem.F.args_tuple_add_2 _ _)
      (tuple_addW1 t b vs.toArray ws.toArray n n2 dd dd2 sl sl2 (by simpa using hv) (by simp [hw])) ⟨ho, ho2, h1 hw⟩
  · refine concat_meets ⟨_, ho, rfl⟩ ⟨_, ho2, rfl⟩ noFill_tuple_add seq_tuple_add PySem.F.slot_tuple_add PySem.F.entry_tuple_add (PySem.F.args_tuple_add_2 _ _)
      (tuple_addW2 t b vs.toArray ws.toArray n n2 dd dd2 sl sl2 (by simpa using hv) (by simpa using hw) (by rw [List.size_toArray, List.size_toArray]; exact hsz)) ⟨ho, ho2, ?_⟩
    rw [e]
    exact h2 hw

/-! ### t[a:b], not the whole -/
/-- a slice's bound as a place among n (d where it is left out) -/
def sIx (n d : Nat) : Option Int → Nat
  | none => d
  | some v => if v < 0 then (v + (n : Int)).toNat else min v.toNat n
theorem sIx_none (n d : Nat) : sIx n d none = d := rfl
theorem sIx_nat (n d k : Nat) : sIx n d (some (k : Int)) = min k n := by
  show (if (k : Int) < 0 then ((k : Int) + (n : Int)).toNat else min (k : Int).toNat n) = min k n
  rw [if_neg (by omega), Int.toNat_natCast]
theorem sIx_le (n d : Nat) (hd : d ≤ n) (o : Option Int) : sIx n d o ≤ n := by
  cases o with
  | none => exact hd
  | some v =>
    show (if v < 0 then (v + (n : Int)).toNat else min v.toNat n) ≤ n
    by_cases hv : v < 0
    · rw [if_pos hv]; omega
    · rw [if_neg hv]; exact Nat.min_le_right _ _
theorem clip_eq (v : Int) (n d : Nat) : (if v < 0 then max (v + (n : Int)) 0 else min v (n : Int)) = ((sIx n d (some v) : Nat) : Int) := by
  show (if v < 0 then max (v + (n : Int)) 0 else min v (n : Int)) = (((if v < 0 then (v + (n : Int)).toNat else min v.toNat n) : Nat) : Int)
  by_cases hv : v < 0
  · simp only [if_pos hv]; omega
  · simp only [if_neg hv]; omega
theorem adjust_gen (lo hi : Option Int) (n : Nat) : Builtin.Slice.sliceAdjust lo hi 1 (n : Int) = (((sIx n 0 lo : Nat) : Int), ((sIx n n hi : Nat) : Int)) := by
  have h1 : ¬ ((1 : Int) < 0) := by omega
  unfold Builtin.Slice.sliceAdjust
  simp only [h1, if_false]
  refine Prod.ext ?_ ?_
  · cases lo with
    | none => rfl
    | some v => exact clip_eq v n 0
  · cases hi with
    | none => rfl
    | some v => exact clip_eq v n n
theorem places_gen (i j : Nat) : Builtin.Slice.slicePlaces (i : Int) (j : Int) 1 = j - i := by
  unfold Builtin.Slice.slicePlaces
  have h1 : (1 : Int) > 0 := by omega
  simp only [h1, if_true, Int.ediv_one]
  split <;> omega
theorem slicePart_ {v : Value} {o : Option Int} {Q : Option Int → Shared → Prop} (p : IsPart v o) (h : Q o s) : wpAny (model prog w) A (Builtin.Slice.slicePartIndex v) Q E s := by
  cases p with
  | none => exact slicePart_none h
  | int i t => exact slicePart_int h
theorem sliceApplied_gen {sl : Addr} {vl vu : Value} {lo hi : Option Int} {n : Nat} {Q : Int × Int × Nat → Shared → Prop} (hs : s.heap.IsSliceOf sl vl vu .none) (pl : IsPart vl lo) (pu : IsPart vu hi)
    (h : Q (((sIx n 0 lo : Nat) : Int), 1, sIx n n hi - sIx n 0 lo) s) : wpAny (model prog w) A (Builtin.Slice.sliceApplied (.ref sl) (pure (n : Int))) Q E s := by
  obtain ⟨os, hos, hcs, hds⟩ := id hs
  unfold Builtin.Slice.sliceApplied Builtin.Slice.sliceFields
  refine wpAny_bind (wpAny_bind (wpAny_field hos hds (x := vl) rfl (wpAny_bind (wpAny_field hos hds (x := vu) rfl (wpAny_bind (wpAny_field hos hds (x := .none) rfl (wpAny_pure ?_)))))))
  refine wpAny_bind (slicePart_none ?_)
  show wpAny _ _ (if ((1 : Int) == 0) = true then _ else _) _ _ s
  rw [if_neg (by decide)]
  refine wpAny_bind (slicePart_ pl (wpAny_bind (slicePart_ pu (wpAny_bind (wpAny_pure ?_)))))
  show wpAny _ _ (match Builtin.Slice.sliceAdjust lo hi 1 (n : Int) with | (lo, hi) => pure (lo, (1 : Int), Builtin.Slice.slicePlaces lo hi 1)) _ _ s
  rw [adjust_gen lo hi n]
  show wpAny _ _ (pure (((sIx n 0 lo : Nat) : Int), (1 : Int), Builtin.Slice.slicePlaces ((sIx n 0 lo : Nat) : Int) ((sIx n n hi : Nat) : Int) 1)) _ _ s
  rw [places_gen]
  exact wpAny_pure h
theorem pick_gen (xs : Array Value) (i k : Nat) : ((List.range k).filterMap fun (m : Nat) => xs[((i : Int) + (m : Int) * 1).toNat]?).toArray = ((xs.toList.drop i).take k).toArray := by
  have e : (fun (m : Nat) => xs[((i : Int) + (m : Int) * 1).toNat]?) = fun m => xs[i + m]? := by
    funext m
    have : ((i : Int) + (m : Int) * 1).toNat = i + m := by omega
    rw [this]
  rw [e]
  have := pick_run xs i k
  rw [List.filterMap_map] at this
  have e2 : ((fun x => xs[x]?) ∘ fun x => i + x) = fun m => xs[i + m]? := rfl
  rw [e2] at this
  rw [this]

theorem getItem_tuple_cut {t sl : Addr} {items : Array Value} {vl vu : Value} {lo hi : Option Int} {Q : Value → Shared → Prop} (ht : IsTup s.heap t items) (hs : s.heap.IsSliceOf sl vl vu .none) (pl : IsPart vl lo) (pu : IsPart vu hi)
    (hw : ¬ (sIx items.size 0 lo = 0 ∧ sIx items.size items.size hi = items.size))
    (h : Q (.ref s.heap.objs.size) { s with heap := s.heap.push { cls := .type "tuple", data := .seq ((items.toList.drop (sIx items.size 0 lo)).take (sIx items.size items.size hi - sIx items.size 0 lo)).toArray } })
    (hsz : items.size ≤ sizeLine) : wpAny (model prog w) A (getItem (.ref t) (.ref sl)) Q E s := by
  have htake : sizeOk (.seq ((items.toList.drop (sIx items.size 0 lo)).take (sIx items.size items.size hi - sIx items.size 0 lo)).toArray) := by
    show ((items.toList.drop (sIx items.size 0 lo)).take (sIx items.size items.size hi - sIx items.size 0 lo)).toArray.size ≤ sizeLine
    rw [List.size_toArray, List.length_take, List.length_drop, Array.length_toList]
    omega
  have hj : sIx items.size items.size hi ≤ items.size := sIx_le _ _ (Nat.le_refl _) hi
  obtain ⟨os, hos, hcs, hds⟩ := id hs
  have hTs : s.TypeIs (.ref sl) "slice" := ⟨os, hos, hcs⟩
  unfold getItem
  try with_reducible refine wpAny_holding ?_
  first | refine wpAny_bind (wpAny_pure ?_) | skip
  refine wpAny_bind (wpAny_sequenceKey ht.typeIs (by decide) ?_)
  refine wpAny_bind (wpAny_callSpecial?_slot (name := Str.ofString "__getitem__") ht.typeIs PyProof.Rows.slot_tuple_getitem
    (wpAny_call_entry PyProof.Rows.slot_tuple_getitem ht.typeIs entry_tuple_getitem ?_ (args_tuple_getitem _ _)))
  show wpAny _ _ (Builtin.Tuple.tupleItemsOf (.ref t) >>= _) _ _ s
  refine wpAny_bind (tupleItemsOf_ ht ?_)
  refine wpAny_bind (wpAny_typeOf hTs ?_)
  rw [if_pos (by decide)]
  refine wpAny_bind (sliceApplied_gen hs pl pu ?_)
  have hno : ¬ ((((sIx items.size 0 lo : Nat) : Int) == 0 && (1 : Int) == 1 && (sIx items.size items.size hi - sIx items.size 0 lo) == items.size) = true) := by
    intro q
    rw [Bool.and_eq_true, Bool.and_eq_true] at q
    have q1 : ((sIx items.size 0 lo : Nat) : Int) = 0 := eq_of_beq q.1.1
    have q2 : sIx items.size items.size hi - sIx items.size 0 lo = items.size := eq_of_beq q.2
    exact hw ⟨by omega, by omega⟩
  show wpAny _ _ (if (((sIx items.size 0 lo : Nat) : Int) == 0 && (1 : Int) == 1 && (sIx items.size items.size hi - sIx items.size 0 lo) == items.size) = true then _ else _) _ _ s
  rw [if_neg hno, pick_gen]
  first
    | exact wpAny_bind (m := Builtin.Tuple.tupleExact _) (wpAny_newObj_type (wpAny_pure ⟨_, rfl, wpAny_pure h⟩) htake)
    | exact wpAny_bind (m := Builtin.Tuple.tupleExact _) (wpAny_newObj_type (wpAny_bind (wpAny_pure (wpAny_pure ⟨_, rfl, wpAny_pure h⟩))) htake)
    | exact wpAny_bind (wpAny_bind (m := Builtin.Tuple.tupleExact _) (wpAny_newObj_type (wpAny_pure (wpAny_pure ⟨_, rfl, wpAny_pure h⟩)) htake))
    | exact wpAny_bind (wpAny_bind (m := Builtin.Tuple.tupleExact _) (wpAny_newObj_type (wpAny_pure ⟨_, rfl, wpAny_pure h⟩) htake))
end
end HT

namespace L2
open PySem PySem.Spec PyProof.Rows

/-! ### the parts of a slice -/
abbrev TO := St → Hp → (Option Int → Hp → Prop) → Prop
/-- a slice's part (left out, or an int) -/
def PO (X : Cx) (e : Option Expr) (t : TO) : Prop :=
  ∀ (pins : List (Addr × Obj)) (s : Shared) (σ : St) (H : Hp) (Q : Option Int → Hp → Prop), Inv X pins σ H s → t σ H Q →
    wpAny (model X.prog X.w) X.A (evalPart e X.env) (fun u s' => ∃ o H', Inv X pins σ H' s' ∧ IsPart u o ∧ Q o H') X.xe s
def tNoPart : TO := fun _ H Q => Q none H
def tPart (t : TE) : TO := fun σ H Q => t σ H fun x H1 => ∃ i, x = .int i ∧ Q (some i) H1

theorem intsAre_of {ns : List Int} : ∀ {us : List Value}, Vals (ns.map V.int) us → IntsAre us ns := by
  induction ns with
  | nil => intro us r; rw [List.map_nil] at r; cases r; exact .nil
  | cons n ns ih =>
    intro us r
    rw [List.map_cons] at r
    cases r with
    | cons r1 r2 =>
      obtain ⟨t, e⟩ := r1
      subst e
      exact .cons n t (ih r2)

section
variable {X : Cx} {e : Expr} {te : TE} {lo hi : Option Expr} {tl th : TO} {pos p2 : Pos}

theorem po_none : PO X none tNoPart := by
  intro pins s σ H Q I h
  rw [evalPart_none]
  exact wpAny_pure ⟨none, H, I, .none, h⟩
theorem po_some (h : PE X e te) : PO X (some e) (tPart te) := by
  intro pins s σ H Q I hw
  rw [evalPart_some]
  refine thn (h pins s σ H _ I hw) fun u s1 ⟨x, H1, I1, r1, q1⟩ => ?_
  obtain ⟨i, rfl, q⟩ := q1
  obtain ⟨t, rfl⟩ := r1
  exact ⟨some i, H1, I1, .int i t, q⟩

/-- what a slice of a value is, by values: the slice object stands at sl -/
def SlR (X : Cx) (r : V → Option Int → Option Int → Hp → VK → Prop) : Prop :=
  ∀ (pins : List (Addr × Obj)) (s : Shared) (σ : St) (H : Hp) (x : V) (v vl vu : Value) (lo hi : Option Int) (sl : Addr) (Q : VK), Inv X pins σ H s → RelV x v → s.heap.IsSliceOf sl vl vu .none → IsPart vl lo → IsPart vu hi → r x lo hi H Q →
    ∃ T id, typeLookup (.type T) "__getitem__" = pure (some (.builtin id)) ∧ s.TypeIs v T ∧ wpAny (model X.prog X.w) X.A (getItem v (.ref sl)) (EP X pins σ Q) X.xe s
theorem SlR.or {r r' : V → Option Int → Option Int → Hp → VK → Prop} (h : SlR X r) (h' : SlR X r') : SlR X (fun x lo hi H Q => r x lo hi H Q ∨ r' x lo hi H Q) := by
  intro pins s σ H x v vl vu lo hi sl Q I rx hs pl pu q
  rcases q with q | q
  · exact h pins s σ H x v vl vu lo hi sl Q I rx hs pl pu q
  · exact h' pins s σ H x v vl vu lo hi sl Q I rx hs pl pu q
def tSl (r : V → Option Int → Option Int → Hp → VK → Prop) (te : TE) (tl th : TO) : TE := fun σ H Q => te σ H fun x H1 => tl σ H1 fun l H2 => th σ H2 fun u H3 => r x l u H3 Q
/-- a[lo:hi], any a -/
theorem pe_slice {r : V → Option Int → Option Int → Hp → VK → Prop} (hr : SlR X r) (he : PE X e te) (hl : PO X lo tl) (hu : PO X hi th) : PE X (.Subscript e (.Slice lo hi none p2) pos) (tSl r te tl th) := by
  intro pins s σ H Q I h
  refine Subscript_ (thn (he pins s σ H _ I h) fun v s1 ⟨x, H1, I1, r1, q1⟩ => ?_)
  refine wpAny_Slice (thn (hl pins s1 σ H1 _ I1 q1) fun vl s2 ⟨l, H2, I2, pl, q2⟩ => thn (hu pins s2 σ H2 _ I2 q2) fun vu s3 ⟨u, H3, I3, pu, q3⟩ => ?_)
  rw [evalPart_none]
  refine wpAny_pure ?_
  have I4 : Inv X pins σ H3 { s3 with heap := s3.heap.push { cls := .type "slice", data := .fields #[vl, vu, .none] } } := I3.kept (t' := s3.toks) fun b ob q => Heap.get?_push_of_some _ q
  obtain ⟨T, id, hT, ht, hg⟩ := hr pins { s3 with heap := s3.heap.push { cls := .type "slice", data := .fields #[vl, vu, .none] } } σ H3 x v vl vu l u s3.heap.objs.size Q I4 r1 (Heap.IsSliceOf.new ..) pl pu q3
  show wpAny (model X.prog X.w) X.A (subscriptTail e (.Slice lo hi none p2) v (.ref s3.heap.objs.size)) (EP X pins σ Q) X.xe { s3 with heap := s3.heap.push { cls := .type "slice", data := .fields #[vl, vu, .none] } }
  exact tail_any (ops := [.ref s3.heap.objs.size, v]) ht hT hg (by with_unfolding_all rfl)

/-- the items of xs[lo:hi] -/
def cutV (xs : List V) (lo hi : Option Int) : List V := (xs.drop (HT.sIx xs.length 0 lo)).take (HT.sIx xs.length xs.length hi - HT.sIx xs.length 0 lo)
theorem cutV_length (xs : List V) (lo hi : Option Int) : (cutV xs lo hi).length ≤ xs.length := by
  unfold cutV
  rw [List.length_take, List.length_drop]
  omega
/-- t[lo:hi], not the whole of it (the whole would be t itself) -/
def rSlT (K : PySem.W.Frag) : V → Option Int → Option Int → Hp → VK → Prop := fun x lo hi H Q => ∃ a xs, x = .ref a ∧ SqT K H a xs ∧
  ¬ (HT.sIx xs.length 0 lo = 0 ∧ HT.sIx xs.length xs.length hi = xs.length) ∧ ∀ p, H p = none → Q (.ref p) (upd H p (.tup (cutV xs lo hi)))
theorem sl_tup : SlR X (rSlT X.K) := by
  intro pins s σ H x v vl vu lo hi sl Q I rx hs pl pu h
  obtain ⟨a, xs, rfl, hx, hw, q⟩ := h
  cases rx
  obtain ⟨its, r, ht, hz⟩ := I.tuple hx
  have hlen : its.toArray.size = xs.length := by rw [List.size_toArray]; exact r.length.symm
  refine ⟨"tuple", _, PyProof.Rows.slot_tuple_getitem.lookup, ht.typeIs, ?_⟩
  refine HT.getItem_tuple_cut ht hs pl pu (by rw [hlen]; exact hw) ?_ (by rw [hlen]; exact hz)
  rw [hlen]
  refine ⟨.ref s.heap.objs.size, _, I.laid (t' := s.toks) (o := .tup (cutV xs lo hi)) (fun b ob q => Heap.get?_push_of_some _ q) (Nat.le_refl _) ?_, rfl, q _ (I.hok.fresh (Nat.le_refl _))⟩
  exact ⟨Nat.le_trans (cutV_length xs lo hi) hz, _, (r.drop (HT.sIx xs.length 0 lo)).take (HT.sIx xs.length xs.length hi - HT.sIx xs.length 0 lo), IsTup.new _ _⟩

/-! ### t < u, t + u -/
def rLtT (K : PySem.W.Frag) : R2 := fun x y H Q => ∃ a b ns ms, x = .ref a ∧ y = .ref b ∧ SqT K H a (ns.map V.int) ∧ SqT K H b (ms.map V.int) ∧ Q (.bl (HT.lexLt ns ms)) H
theorem op_ltT (hu : X.A.units < cLine) : OpR X (compareOp .Lt) (rLtT X.K) := by
  intro pins s σ H x y v u Q I rx ry h
  obtain ⟨a, b, ns, ms, rfl, rfl, ha, hb, q⟩ := h
  cases rx
  cases ry
  obtain ⟨its, r1, p1, _⟩ := I.tuple ha
  obtain ⟨its2, r2, p2, _⟩ := I.tuple hb
  have i1 : IntsAre its.toArray.toList ns := intsAre_of r1
  have i2 : IntsAre its2.toArray.toList ms := intsAre_of r2
  exact HT.lt_tupInts p1 p2 i1 i2 hu ⟨.bl (HT.lexLt ns ms), H, I, rfl, q⟩
/-- t + u, t not empty: u empty gives t itself -/
def rCatT (K : PySem.W.Frag) : R2 := fun x y H Q => ∃ a b xs ys, x = .ref a ∧ y = .ref b ∧ SqT K H a xs ∧ SqT K H b ys ∧ xs ≠ [] ∧ xs.length + ys.length ≤ sizeLine ∧
  (ys = [] → Q (.ref a) H) ∧ (ys ≠ [] → ∀ p, H p = none → Q (.ref p) (upd H p (.tup (xs ++ ys))))
theorem Vals.nil_iff {xs : List V} {us : List Value} (r : Vals xs us) : us = [] ↔ xs = [] := by
  cases r with
  | nil => simp
  | cons _ _ => simp
theorem op_catT : OpR X (binaryOp .Add) (rCatT X.K) := by
  intro pins s σ H x y v u Q I rx ry h
  obtain ⟨a, b, xs, ys, rfl, rfl, ha, hb, hx, hz, q1, q2⟩ := h
  cases rx
  cases ry
  obtain ⟨its, r1, p1, _⟩ := I.tuple ha
  obtain ⟨its2, r2, p2, _⟩ := I.tuple hb
  refine HT.cat_tup p1 p2 (fun z => hx (r1.nil_iff.mp z)) (fun z => ⟨.ref a, H, I, rfl, q1 (r2.nil_iff.mp z)⟩) (fun z => ?_) (by rw [← r1.length, ← r2.length]; exact hz)
  refine ⟨.ref s.heap.objs.size, _, I.laid (t' := s.toks) (o := .tup (xs ++ ys)) (fun b ob q => Heap.get?_push_of_some _ q) (Nat.le_refl _) ?_, rfl, q2 (fun w => z (r2.nil_iff.mpr w)) _ (I.hok.fresh (Nat.le_refl _))⟩
  exact ⟨by rw [List.length_append]; exact hz, _, r1.append r2, IsTup.new _ _⟩
/-- tuple(t) -/
theorem call_tupleT : CallR X (.type "tuple") (fun xs H Q => ∃ a ys, xs = [.ref a] ∧ SqT X.K H a ys ∧ Q (.ref a) H) := by
  intro pins s σ H xs us Q I r h
  obtain ⟨a, ys, rfl, ha, q⟩ := h
  obtain ⟨u, rfl, ru⟩ := vals1 r
  cases ru
  obtain ⟨its, _, p1, _⟩ := I.tuple ha
  exact call_tuple_same (items := its.toArray) p1 ⟨.ref a, H, I, rfl, q⟩
end
end L2

namespace L2
open PySem PySem.Spec PyProof.Rows

/-! ### places -/
/-- the place that an index of any sign means -/
def ixN (n : Nat) (i : Int) : Option Nat := if 0 ≤ i then (if i < n then some i.toNat else none) else if -(n : Int) ≤ i then some (i + n).toNat else none
def atI {α : Type} (xs : List α) (i : Int) : Option α := (ixN xs.length i).bind fun j => xs[j]?
theorem ixN_seq {n : Nat} {i : Int} {j : Nat} (h : ixN n i = some j) : seqIndex? i n = some j ∧ j < n ∧ -(n : Int) ≤ i ∧ i < n := by
  unfold ixN at h
  by_cases h0 : 0 ≤ i
  · rw [if_pos h0] at h
    by_cases h1 : i < n
    · rw [if_pos h1] at h
      have e : i.toNat = j := Option.some.inj h
      exact ⟨by rw [seqIndex_of h0 h1, e], by omega, by omega, h1⟩
    · rw [if_neg h1] at h; cases h
  · rw [if_neg h0] at h
    by_cases h1 : -(n : Int) ≤ i
    · rw [if_pos h1] at h
      have e : (i + n).toNat = j := Option.some.inj h
      exact ⟨by rw [seqIndex_neg (by omega) h1, e], by omega, h1, by omega⟩
    · rw [if_neg h1] at h; cases h
theorem atI_get {α : Type} {xs : List α} {i : Int} {v : α} (h : atI xs i = some v) : ∃ j, seqIndex? i xs.length = some j ∧ xs[j]? = some v ∧ j < xs.length ∧ -(xs.length : Int) ≤ i ∧ i < xs.length := by
  unfold atI at h
  cases e : ixN xs.length i with
  | none => rw [e] at h; cases h
  | some j =>
    rw [e] at h
    obtain ⟨h1, h2, h3, h4⟩ := ixN_seq e
    exact ⟨j, h1, h, h2, h3, h4⟩
theorem atI_nat {α : Type} {xs : List α} {j : Nat} {v : α} (h : xs[j]? = some v) : atI xs (j : Int) = some v := by
  have hj : j < xs.length := (List.getElem?_eq_some_iff.mp h).1
  have e : ixN xs.length (j : Int) = some j := by
    unfold ixN
    rw [if_pos (by omega), if_pos (by omega)]; simp
  unfold atI; rw [e]; exact h
theorem atI_last {α : Type} (xs : List α) (v : α) : atI (xs ++ [v]) (-1) = some v := by
  have hl : (xs ++ [v]).length = xs.length + 1 := by simp
  have e : ixN (xs ++ [v]).length (-1) = some xs.length := by
    unfold ixN
    rw [hl, if_neg (by decide), if_pos (by omega)]
    congr 1
    omega
  unfold atI
  rw [e]
  show (xs ++ [v])[xs.length]? = some v
  simp

/-! ### what may be subscripted -/
/-- what stands as an index of a plain subscript -/
def PlainIx (b : Expr) : Prop := ∀ o i, subscripted b false o i = operate [o, i] (getItem o i)
/-- a subscript by values -/
def IxR (X : Cx) (r : R2) : Prop :=
  ∀ (value slice : Expr) (pins : List (Addr × Obj)) (s : Shared) (σ : St) (H : Hp) (x y : V) (v u : Value) (Q : VK), Inv X pins σ H s → RelV x v → RelV y u → r x y H Q →
    subscripted slice false v u = operate [v, u] (getItem v u) → wpAny (model X.prog X.w) X.A (subscriptTail value slice v u) (EP X pins σ Q) X.xe s
/-- a call of a builtin's method by values: the receiver, the arguments -/
def MtR (X : Cx) (id : String) (r : V → List V → Hp → VK → Prop) : Prop :=
  ∀ (pins : List (Addr × Obj)) (s : Shared) (σ : St) (H : Hp) (x : V) (xs : List V) (v : Value) (us : List Value) (Q : VK), Inv X pins σ H s → RelV x v → Vals xs us → r x xs H Q →
    wpAny (model X.prog X.w) X.A (call (.builtin id) (v :: us)) (EP X pins σ Q) X.xe s
section
variable {X : Cx} {a b : Expr} {ta tb : TE} {pos : Pos}
theorem IxR.or {r r' : R2} (h : IxR X r) (h' : IxR X r') : IxR X (fun x y H Q => r x y H Q ∨ r' x y H Q) := by
  intro value slice pins s σ H x y v u Q I rx ry q hs
  rcases q with q | q
  · exact h value slice pins s σ H x y v u Q I rx ry q hs
  · exact h' value slice pins s σ H x y v u Q I rx ry q hs
theorem MtR.or {id : String} {r r' : V → List V → Hp → VK → Prop} (h : MtR X id r) (h' : MtR X id r') : MtR X id (fun x xs H Q => r x xs H Q ∨ r' x xs H Q) := by
  intro pins s σ H x xs v us Q I rx rs q
  rcases q with q | q
  · exact h pins s σ H x xs v us Q I rx rs q
  · exact h' pins s σ H x xs v us Q I rx rs q
/-- a[b] -/
theorem pe_ix {r : R2} (hr : IxR X r) (ha : PE X a ta) (hb : PE X b tb) (hs : PlainIx b) : PE X (.Subscript a b pos) (tOp r ta tb) := by
  intro pins s σ H Q I h
  exact Subscript_ (binT ha hb I h fun v u s2 x y H2 I2 rx ry q => hr a b pins s2 σ H2 x y v u Q I2 rx ry q (hs _ _))

def rIxL (K : PySem.W.Frag) : R2 := fun x y H Q => ∃ p xs i v, x = .ref p ∧ y = .int i ∧ SqL K H p xs ∧ atI xs i = some v ∧ Q v H
def rIxT (K : PySem.W.Frag) : R2 := fun x y H Q => ∃ p xs i v, x = .ref p ∧ y = .int i ∧ SqT K H p xs ∧ atI xs i = some v ∧ Q v H
def rIxS : R2 := fun x y H Q => ∃ z i c, x = .str z ∧ y = .int i ∧ z.length ≤ sizeLine ∧ atI z.cps.toList i = some c ∧ Q (.str ⟨#[c]⟩) H
theorem ix_list : IxR X (rIxL X.K) := by
  intro value slice pins s σ H x y v u Q I rx ry h hs
  obtain ⟨p, xs, i, z, rfl, rfl, hq, he, q⟩ := h
  cases rx
  obtain ⟨t, rfl⟩ := ry
  obtain ⟨its, r, pl, hz⟩ := I.list hq
  obtain ⟨j, h1, h2, h3, h4, h5⟩ := atI_get he
  obtain ⟨w, ew, rw'⟩ := r.get h2
  have hl := r.length
  have hn := line63
  have fin : EP X pins σ Q w s := ⟨z, H, I, rw', q⟩
  by_cases h0 : 0 ≤ i
  · have hj : i.toNat = j := by
      rw [seqIndex_of h0 h5] at h1
      exact Option.some.inj h1
    exact item_listR pl.isList h0 (by omega) (by rw [hj]; simpa using ew) fin hs
  · have hj : (i + (its.toArray.size : Int)).toNat = j := by
      rw [seqIndex_neg (by omega) h4] at h1
      rw [List.size_toArray, ← hl]
      exact Option.some.inj h1
    exact subscriptTail_builtinR (x := w) pl.isList.typeIs slot_list_getitem.lookup
      (wpAny_getItem_list_neg (Q := fun r s' => r = w ∧ EP X pins σ Q r s') pl.isList (by omega) (by rw [List.size_toArray] <;> omega) (by omega) (by rw [hj]; simpa using ew) ⟨rfl, fin⟩) hs
theorem ix_tup : IxR X (rIxT X.K) := by
  intro value slice pins s σ H x y v u Q I rx ry h hs
  obtain ⟨p, xs, i, z, rfl, rfl, hq, he, q⟩ := h
  cases rx
  obtain ⟨t, rfl⟩ := ry
  obtain ⟨its, r, pl, hz⟩ := I.tuple hq
  obtain ⟨j, h1, h2, h3, h4, h5⟩ := atI_get he
  obtain ⟨w, ew, rw'⟩ := r.get h2
  have hl := r.length
  have hn := line63
  have fin : EP X pins σ Q w s := ⟨z, H, I, rw', q⟩
  exact subscriptTail_builtinR (x := w) pl.typeIs slot_tuple_getitem.lookup
    (getItem_tuple (j := j) (Q := fun r s' => r = w ∧ EP X pins σ Q r s') pl (by omega) (by omega) (by rw [List.size_toArray, ← hl]; exact h1) (by simpa using ew) ⟨rfl, fin⟩) hs
theorem ix_str : IxR X rIxS := by
  intro value slice pins s σ H x y v u Q I rx ry h hs
  obtain ⟨z, i, c, rfl, rfl, hz, he, q⟩ := h
  obtain ⟨t, rfl⟩ := rx
  obtain ⟨t', rfl⟩ := ry
  obtain ⟨j, h1, h2, h3, h4, h5⟩ := atI_get he
  have hl : z.cps.toList.length = z.length := by simp [Str.length]
  rw [hl] at h1 h4 h5
  have hn := line63
  exact tail_any (typeIs_str s z t) slot_str_getitem.lookup (getItem_str (c := c) (by
    have e1 : decide (i < -(2 ^ 63 : Int)) = false := decide_eq_false (by omega)
    have e2 : decide (i ≥ 2 ^ 63) = false := decide_eq_false (by omega)
    rw [e1, e2, Bool.or_false]) (by rw [h1]; simpa using h2) ⟨.str ⟨#[c]⟩, H, I.tok _, ⟨_, rfl⟩, q⟩) hs
/-- list, tuple or str -/
def rIx (K : PySem.W.Frag) : R2 := fun x y H Q => rIxL K x y H Q ∨ rIxT K x y H Q ∨ rIxS x y H Q
theorem ix_seq : IxR X (rIx X.K) := ix_list.or (ix_tup.or ix_str)

/-! ### xs[i] = v, any sign -/
/-- the list's object behind a store -/
theorem mapSeq_set (its : List Value) (n j : Nat) (u : Value) : Obj.mapSeq (·.setIfInBounds j u) { cls := .type "list", data := .seq its.toArray n } = { cls := .type "list", data := .seq (its.set j u).toArray n } := by
  simp [Obj.mapSeq]
theorem Inv.lst {pins : List (Addr × Obj)} {σ : St} {H : Hp} {s : Shared} {p : Addr} {xs : List V} (I : Inv X pins σ H s) (h : H p = some (.lst xs)) :
    ∃ (its : List Value) (n : Nat), Vals xs its ∧ s.heap.get? p = some { cls := .type "list", data := .seq its.toArray n } ∧ xs.length ≤ sizeLine := by
  obtain ⟨z, its, n, r, e⟩ := I.hok p _ h
  exact ⟨its, n, r, e, z⟩
/-- the list at p is written by an update of its object -/
theorem Inv.lstUpd {pins : List (Addr × Obj)} {σ : St} {H : Hp} {s : Shared} {p : Addr} {xs ys : List V} {its its' : List Value} {n n' : Nat} {f : Obj → Obj} (I : Inv X pins σ H s) (h : H p = some (.lst xs))
    (ho : s.heap.get? p = some { cls := .type "list", data := .seq its.toArray n }) (hf : f { cls := .type "list", data := .seq its.toArray n } = { cls := .type "list", data := .seq its'.toArray n' }) (r : Vals ys its') (hz : ys.length ≤ sizeLine) (t : Nat) :
    Inv X pins σ (upd H p (.lst ys)) { s with heap := s.heap.update p f, toks := t } := by
  have e : (s.heap.update p f).get? p = some { cls := .type "list", data := .seq its'.toArray n' } := by
    rw [Heap.get?_update_self f ho (by rw [hf] <;> rfl), hf]
  refine I.write (x := p) (e := p) (by rw [h]; trivial) (.inl rfl) (fun b u hb q => (Heap.get?_update_other _ _ (Ne.symm hb)).trans q) ⟨_, e⟩ ?_
  exact ⟨hz, its', n', r, e⟩
def rSetL : V → V → V → Hp → (Hp → Prop) → Prop := fun o i v H Q => ∃ p xs k j, o = .ref p ∧ i = .int k ∧ H p = some (.lst xs) ∧ ixN xs.length k = some j ∧ Q (upd H p (.lst (xs.set j v)))
theorem set_list : PSet X rSetL := by
  intro pins s σ H o i v ov iv u Q I ro ri rv h
  obtain ⟨p, xs, k, j, rfl, rfl, hp, hj, q⟩ := h
  cases ro
  obtain ⟨t, rfl⟩ := ri
  obtain ⟨its, n, r, ho, hz⟩ := I.lst hp
  obtain ⟨h1, h2, h3, h4⟩ := ixN_seq hj
  have hl := r.length
  have hn := line63
  have I' : Inv X pins σ (upd H p (.lst (xs.set j v))) { s with heap := s.heap.update p (Obj.mapSeq (·.setIfInBounds j u)) } :=
    I.lstUpd hp ho (mapSeq_set its n j u) (r.set rv j) (by rw [List.length_set]; exact hz) s.toks
  by_cases h0 : 0 ≤ k
  · have hk : k.toNat = j := by
      rw [seqIndex_of h0 h4] at h1
      exact Option.some.inj h1
    exact PySem.W.ki_setAt ho h0 (by omega) (by rw [List.size_toArray, ← hl]; exact h4) (by rw [hk]; exact ⟨_, I', q⟩)
  · have hk : (k + (its.toArray.size : Int)).toNat = j := by
      rw [seqIndex_neg (by omega) h3] at h1
      rw [List.size_toArray, ← hl]
      exact Option.some.inj h1
    exact PySem.W.ki_setBack ho (by omega) (by rw [List.size_toArray, ← hl]; exact h3) (by omega) (by rw [hk]; exact ⟨_, I', q⟩)

/-! ### slices -/
theorem slice_bounds (lo hi : Option Int) (n : Nat) : (sliceBounds lo hi none n).1 = ((HT.sIx n 0 lo : Nat) : Int) ∧ (sliceBounds lo hi none n).2.1 = ((HT.sIx n n hi : Nat) : Int) ∧ (sliceBounds lo hi none n).2.2 = 1 := by
  refine ⟨?_, ?_, rfl⟩
  · cases lo with
    | none => simp [sliceBounds, HT.sIx]
    | some i =>
      simp only [sliceBounds, HT.sIx, Option.getD_none, show (1 : Int) > 0 by decide, if_true]
      by_cases h : i < 0
      · simp only [h, if_true] <;> omega
      · simp only [h, if_false] <;> omega
  · cases hi with
    | none => simp [sliceBounds, HT.sIx]
    | some i =>
      simp only [sliceBounds, HT.sIx, Option.getD_none, show (1 : Int) > 0 by decide, if_true]
      by_cases h : i < 0
      · simp only [h, if_true] <;> omega
      · simp only [h, if_false] <;> omega
theorem slicePick_cut (its : List Value) (lo hi : Option Int) : slicePick its.toArray lo hi none = ((its.drop (HT.sIx its.length 0 lo)).take (HT.sIx its.length its.length hi - HT.sIx its.length 0 lo)).toArray := by
  obtain ⟨h1, h2, h3⟩ := slice_bounds lo hi its.toArray.size
  unfold slicePick
  rw [h1, h2, h3]
  simp only [sliceRange_one, pick_run, List.size_toArray] <;> rfl
/-- xs[lo:hi] of a list: a new list -/
def rSlL (K : PySem.W.Frag) : V → Option Int → Option Int → Hp → VK → Prop := fun x lo hi H Q => ∃ a xs, x = .ref a ∧ SqL K H a xs ∧ ∀ p, H p = none → Q (.ref p) (upd H p (.lst (cutV xs lo hi)))
theorem sl_list : SlR X (rSlL X.K) := by
  intro pins s σ H x v vl vu lo hi sl Q I rx hs pl pu h
  obtain ⟨a, xs, rfl, hx, q⟩ := h
  cases rx
  obtain ⟨its, r, ht, hz⟩ := I.list hx
  have hlen := r.length
  refine ⟨"list", _, slot_list_getitem.lookup, ht.isList.typeIs, ?_⟩
  refine wpAny_getItem_list_slice ht.isList hs pl pu .none (by simp) ?_ (by rw [List.size_toArray] <;> omega)
  rw [slicePick_cut, ← hlen]
  refine ⟨.ref s.heap.objs.size, _, I.laid (t' := s.toks) (o := .lst (cutV xs lo hi)) (fun b ob q => Heap.get?_push_of_some _ q) (Nat.le_refl _) ?_, rfl, q _ (I.hok.fresh (Nat.le_refl _))⟩
  exact ⟨Nat.le_trans (cutV_length xs lo hi) hz, _, 0, (r.drop (HT.sIx xs.length 0 lo)).take (HT.sIx xs.length xs.length hi - HT.sIx xs.length 0 lo), Heap.get?_push_size _ rfl⟩

/-! ### in, not in: flat items -/
def flatV : V → Bool
  | .non => true
  | .bl _ => true
  | .int _ => true
  | .str _ => true
  | _ => false
/-- == of flat values -/
def eqV : V → V → Bool
  | .non, .non => true
  | .bl a, .bl b => a == b
  | .bl a, .int b => (if a then 1 else 0) == b
  | .int a, .bl b => a == (if b then 1 else 0)
  | .int a, .int b => a == b
  | .str a, .str b => a == b
  | _, _ => false
theorem eqAt_V {A : Around} {s : Shared} {y x : V} {u v : Value} (ry : RelV y u) (rx : RelV x v) (fy : flatV y = true) (fx : flatV x = true) : SeqAt.EqAt A s u v (eqV y x) := by
  cases y with
  | non =>
    cases ry
    cases x with
    | non => cases rx; exact SeqAt.EqAt.same _
    | bl b => cases rx; exact SeqAt.EqAt.none_bool b
    | int b => obtain ⟨t, rfl⟩ := rx; exact SeqAt.EqAt.none_int b t
    | str b => obtain ⟨t, rfl⟩ := rx; exact SeqAt.EqAt.none_str b t
    | _ => exact absurd (show false = true from fx) Bool.false_ne_true
  | bl a =>
    cases ry
    cases x with
    | non => cases rx; exact SeqAt.EqAt.bool_none a
    | bl b => cases rx; exact SeqAt.EqAt.bool_bool a b
    | int b => obtain ⟨t, rfl⟩ := rx; exact SeqAt.EqAt.bool_int a b t
    | str b => obtain ⟨t, rfl⟩ := rx; exact SeqAt.EqAt.bool_str a b t
    | _ => exact absurd (show false = true from fx) Bool.false_ne_true
  | int a =>
    obtain ⟨t', rfl⟩ := ry
    cases x with
    | non => cases rx; exact SeqAt.EqAt.int_none a t'
    | bl b => cases rx; exact SeqAt.EqAt.int_bool a t' b
    | int b => obtain ⟨t, rfl⟩ := rx; exact SeqAt.EqAt.int_int a t' b t
    | str b => obtain ⟨t, rfl⟩ := rx; exact SeqAt.EqAt.int_str a t' b t
    | _ => exact absurd (show false = true from fx) Bool.false_ne_true
  | str a =>
    obtain ⟨t', rfl⟩ := ry
    cases x with
    | non => cases rx; exact SeqAt.EqAt.str_none a t'
    | bl b => cases rx; exact SeqAt.EqAt.str_bool a t' b
    | int b => obtain ⟨t, rfl⟩ := rx; exact SeqAt.EqAt.str_int a t' b t
    | str b => obtain ⟨t, rfl⟩ := rx; exact SeqAt.EqAt.str_str a t' b t
    | _ => exact absurd (show false = true from fx) Bool.false_ne_true
  | _ => exact absurd (show false = true from fy) Bool.false_ne_true
/-- the items' answers, read off the values (a value's own answer does not lean on its token) -/
def eqU (x : V) (u : Value) : Bool := match u with
  | .none => eqV .non x
  | .bool b => eqV (.bl b) x
  | .int i _ => eqV (.int i) x
  | .str z _ => eqV (.str z) x
  | _ => false
theorem eqU_of {x y : V} {u : Value} (r : RelV y u) (f : flatV y = true) : eqU x u = eqV y x := by
  cases y with
  | non => cases r; rfl
  | bl b => cases r; rfl
  | int i => obtain ⟨t, rfl⟩ := r; rfl
  | str z => obtain ⟨t, rfl⟩ := r; rfl
  | _ => exact absurd (show false = true from f) Bool.false_ne_true
theorem any_eqU {x : V} : ∀ {xs : List V} {us : List Value}, Vals xs us → xs.all flatV = true → us.any (eqU x) = xs.any fun y => eqV y x
  | _, _, .nil, _ => rfl
  | y :: xs, u :: us, .cons r t, f => by
    rw [List.all_cons, Bool.and_eq_true] at f
    rw [List.any_cons, List.any_cons, eqU_of r f.1, any_eqU t f.2]
theorem mem_eqAt {A : Around} {s : Shared} {x : V} {v : Value} (rx : RelV x v) (fx : flatV x = true) : ∀ {xs : List V} {us : List Value}, Vals xs us → xs.all flatV = true → ∀ u ∈ us, SeqAt.EqAt A s u v (eqU x u)
  | _, _, .nil, _ => fun u hu => by cases hu
  | y :: xs, u :: us, .cons r t, f => fun u' hu => by
    rw [List.all_cons, Bool.and_eq_true] at f
    rcases List.mem_cons.mp hu with rfl | hu
    · rw [eqU_of r f.1]; exact eqAt_V r rx f.1 fx
    · exact mem_eqAt rx fx t f.2 u' hu
def inV (x : V) (xs : List V) : Bool := xs.any fun y => eqV y x
/-- x in a list or tuple of flat items -/
def rIn (K : PySem.W.Frag) (neg : Bool) : R2 := fun x y H Q => ∃ p xs, y = .ref p ∧ (SqL K H p xs ∨ SqT K H p xs) ∧ flatV x = true ∧ xs.all flatV = true ∧ Q (.bl (if neg then !inV x xs else inV x xs)) H
theorem op_in_seq : OpR X (compareOp .In) (rIn X.K false) := by
  intro pins s σ H x y v u Q I rx ry h
  obtain ⟨p, xs, rfl, hq, fx, fs, q⟩ := h
  cases ry
  rcases hq with hq | hq
  · obtain ⟨its, r, pl, hz⟩ := I.list hq
    refine SeqAt.in_listAt (eqU x) pl.isList (fun w hw => mem_eqAt rx fx r fs w (by simpa using hw)) ⟨.bl _, H, I, rfl, ?_⟩
    rw [show its.toArray.any (eqU x) = its.any (eqU x) by simp, any_eqU r fs]
    exact q
  · obtain ⟨its, r, pl, hz⟩ := I.tuple hq
    refine SeqAt.in_tupleAt (eqU x) pl (fun w hw => mem_eqAt rx fx r fs w (by simpa using hw)) ⟨.bl _, H, I, rfl, ?_⟩
    rw [show its.toArray.any (eqU x) = its.any (eqU x) by simp, any_eqU r fs]
    exact q
theorem op_notIn_seq : OpR X (compareOp .NotIn) (rIn X.K true) := by
  intro pins s σ H x y v u Q I rx ry h
  obtain ⟨p, xs, rfl, hq, fx, fs, q⟩ := h
  cases ry
  rcases hq with hq | hq
  · obtain ⟨its, r, pl, hz⟩ := I.list hq
    refine SeqAt.notIn_listAt (eqU x) pl.isList (fun w hw => mem_eqAt rx fx r fs w (by simpa using hw)) ⟨.bl _, H, I, rfl, ?_⟩
    rw [show its.toArray.any (eqU x) = its.any (eqU x) by simp, any_eqU r fs]
    exact q
  · obtain ⟨its, r, pl, hz⟩ := I.tuple hq
    refine SeqAt.notIn_tupleAt (eqU x) pl (fun w hw => mem_eqAt rx fx r fs w (by simpa using hw)) ⟨.bl _, H, I, rfl, ?_⟩
    rw [show its.toArray.any (eqU x) = its.any (eqU x) by simp, any_eqU r fs]
    exact q
theorem op_notIn_str : OpR X (compareOp .NotIn) (fun x y H Q => ∃ i j, x = .str i ∧ y = .str j ∧ Q (.bl (!(!(Builtin.Str.occurrences j i 0 j.length 1).isEmpty))) H) := by
  intro pins s σ H x y v u Q I rx ry h
  obtain ⟨i, j, rfl, rfl, q⟩ := h
  obtain ⟨t, rfl⟩ := rx
  obtain ⟨t', rfl⟩ := ry
  exact notIn_str ⟨.bl _, H, I, rfl, q⟩

/-! ### len, list(x), tuple(x) of any list or tuple that is read -/
theorem call_len_seq : CallR X (.builtin "len") (fun xs H Q => ∃ p ys, xs = [.ref p] ∧ (SqL X.K H p ys ∨ SqT X.K H p ys) ∧ Q (.int ys.length) H) := by
  intro pins s σ H xs us Q I r h
  obtain ⟨p, ys, rfl, hq, q⟩ := h
  obtain ⟨u, rfl, rx⟩ := vals1 r
  cases rx
  have hn := line63
  rcases hq with hq | hq
  · obtain ⟨its, r', pl, hz⟩ := I.list hq
    have hlen := r'.length
    exact Calls.call_len_list pl.isList (by simp only [List.size_toArray] <;> omega) ⟨.int ys.length, H, I.tok _, ⟨s.toks + 1, by rw [List.size_toArray, hlen]⟩, q⟩
  · obtain ⟨its, r', pl, hz⟩ := I.tuple hq
    have hlen := r'.length
    exact len_tuple pl (by simp only [List.size_toArray] <;> omega) ⟨.int ys.length, H, I.tok _, ⟨s.toks + 1, by rw [List.size_toArray, hlen]⟩, q⟩
theorem call_len_str : CallR X (.builtin "len") (fun xs H Q => ∃ z, xs = [.str z] ∧ z.length ≤ sizeLine ∧ Q (.int z.length) H) := by
  intro pins s σ H xs us Q I r h
  obtain ⟨z, rfl, hz, q⟩ := h
  obtain ⟨u, rfl, t, rfl⟩ := vals1 r
  have hn := line63
  exact len_str (by omega) ⟨.int z.length, H, I.tok _, ⟨_, rfl⟩, q⟩
theorem CallR.or {f : Value} {r r' : List V → Hp → VK → Prop} (h : CallR X f r) (h' : CallR X f r') : CallR X f (fun xs H Q => r xs H Q ∨ r' xs H Q) := by
  intro pins s σ H xs us Q I rs q
  rcases q with q | q
  · exact h pins s σ H xs us Q I rs q
  · exact h' pins s σ H xs us Q I rs q
theorem call_list_of : CallR X (.type "list") (fun xs H Q => ∃ p ys, xs = [.ref p] ∧ (SqL X.K H p ys ∨ SqT X.K H p ys) ∧ ∀ l, H l = none → Q (.ref l) (upd H l (.lst ys))) := by
  intro pins s σ H xs us Q I r h
  obtain ⟨p, ys, rfl, hq, q⟩ := h
  obtain ⟨u, rfl, rx⟩ := vals1 r
  cases rx
  have fin : ∀ (its : List Value), Vals ys its → ys.length ≤ sizeLine → ∀ (h' : Heap) (c' : Nat), (∀ b o', s.heap.get? b = some o' → h'.get? b = some o') →
      h'.get? s.heap.objs.size = some { cls := .type "list", dict := none, data := .seq its.toArray c', slots := #[] } → EP X pins σ Q (.ref s.heap.objs.size) { s with heap := h' } := fun its r' hz h' c' kp e =>
    ⟨.ref s.heap.objs.size, _, I.laid (t' := s.toks) kp (Nat.le_refl _) (show ObjOk X.prog X.w _ h' _ (.lst ys) from ⟨hz, its, c', r', e⟩), rfl, q _ (I.hok.fresh (Nat.le_refl _))⟩
  rcases hq with hq | hq
  · obtain ⟨its, r', pl, hz⟩ := I.list hq
    have hlen := r'.length
    obtain ⟨o, ho, hc, n, hd⟩ := pl.isList
    exact call_list_seq p (.inl rfl) ho hc hd (fun h' c' kp e => fin its r' hz h' c' kp e) (by simp only [List.size_toArray] <;> omega)
  · obtain ⟨its, r', pl, hz⟩ := I.tuple hq
    have hlen := r'.length
    obtain ⟨o, ho, hc, n, hd⟩ := pl
    exact call_list_seq p (.inr rfl) ho hc hd (fun h' c' kp e => fin its r' hz h' c' kp e) (by simp only [List.size_toArray] <;> omega)
theorem call_tuple_of : CallR X (.type "tuple") (fun xs H Q => ∃ p ys, xs = [.ref p] ∧ ((SqL X.K H p ys ∧ ∀ l, H l = none → Q (.ref l) (upd H l (.tup ys))) ∨ (SqT X.K H p ys ∧ Q (.ref p) H))) := by
  intro pins s σ H xs us Q I r h
  obtain ⟨p, ys, rfl, h⟩ := h
  obtain ⟨u, rfl, rx⟩ := vals1 r
  cases rx
  rcases h with ⟨hq, q⟩ | ⟨hq, q⟩
  · obtain ⟨its, r', pl, hz⟩ := I.list hq
    have hlen := r'.length
    refine call_tuple_list pl.isList (fun h' kp => ?_) (by simp only [List.size_toArray] <;> omega)
    have I1 : Inv X pins σ H { s with heap := h' } := I.kept (t' := s.toks) kp
    have I2 : Inv X pins σ (upd H h'.objs.size (.tup ys)) { s with heap := h'.push { cls := .type "tuple", data := .seq its.toArray } } :=
      I1.laid (t' := s.toks) (fun b o e => Heap.get?_push_of_some _ e) (Nat.le_refl _) (show ObjOk X.prog X.w _ _ _ (.tup ys) from ⟨hz, its, r', IsTup.new _ _⟩)
    exact ⟨.ref h'.objs.size, _, I2, rfl, q _ (I1.hok.fresh (Nat.le_refl _))⟩
  · obtain ⟨its, r', pl, hz⟩ := I.tuple hq
    exact call_tuple_same pl ⟨.ref p, H, I, rfl, q⟩

/-! ### the call of a builtin's method: o.m(..) -/
/-- the value is of that builtin type -/
def tyV (K : PySem.W.Frag) (T : String) (x : V) (H : Hp) : Prop := match x with
  | .str _ => T = "str"
  | .int _ => T = "int"
  | .ref p => (T = "list" ∧ ∃ xs, SqL K H p xs) ∨ (T = "tuple" ∧ ∃ o, K.lookup p = some o ∧ o.cls = .type "tuple" ∧ o.dict = none) ∨
      (T = "dict" ∧ ((∃ kvs, H p = some (.dK kvs)) ∨ ∃ kvs, H p = some (.dT kvs))) ∨ (T = "set" ∧ ∃ S n, H p = some (.set S n))
  | _ => False
theorem tyV_is {pins : List (Addr × Obj)} {σ : St} {H : Hp} {s : Shared} {T : String} {x : V} {v : Value} (I : Inv X pins σ H s) (r : RelV x v) (ty : tyV X.K T x H) :
    s.TypeIs v T ∧ ∀ a, v = .ref a → ∃ ob, s.heap.get? a = some ob ∧ ob.dict = none := by
  cases x with
  | str z =>
    obtain ⟨t, rfl⟩ := r
    cases (show T = "str" from ty)
    exact ⟨typeIs_str s z t, fun _ e => nomatch e⟩
  | int i =>
    obtain ⟨t, rfl⟩ := r
    cases (show T = "int" from ty)
    exact ⟨typeIs_int s i t, fun _ e => nomatch e⟩
  | ref p =>
    cases r
    rcases ty with ⟨rfl, xs, hq⟩ | ⟨rfl, o, hk, hc, hd⟩ | ⟨rfl, hk⟩ | ⟨rfl, S, n, hk⟩
    · obtain ⟨its, _, pl, _⟩ := I.list hq
      refine ⟨pl.isList.typeIs, fun a e => ?_⟩
      cases e
      obtain ⟨o, n, e, c, hd, _⟩ := pl
      exact ⟨o, e, hd⟩
    · refine ⟨⟨o, I.kIn p o hk, hc⟩, fun a e => ?_⟩
      cases e
      exact ⟨o, I.kIn _ o hk, hd⟩
    · have z : ∃ o, s.heap.get? p = some o ∧ o.ExactDict := by
        rcases hk with ⟨kvs, hk⟩ | ⟨kvs, hk⟩
        · obtain ⟨_, _, _, _, o, _, _, e, ex, _⟩ := I.hok p _ hk
          exact ⟨o, e, ex⟩
        · obtain ⟨_, _, _, _, o, _, _, e, ex, _⟩ := I.hok p _ hk
          exact ⟨o, e, ex⟩
      obtain ⟨o, e, ex⟩ := z
      refine ⟨⟨o, e, ex.1⟩, fun a e2 => ?_⟩
      cases e2
      exact ⟨o, e, ex.2.1⟩
    · obtain ⟨o, _, _, _, e, ex, _⟩ := I.hok p _ hk
      refine ⟨⟨o, e, ex.1⟩, fun a e2 => ?_⟩
      cases e2
      exact ⟨o, e, ex.2.1⟩
  | _ => exact False.elim ty
def tBM0 (K : PySem.W.Frag) (T : String) (r : V → List V → Hp → VK → Prop) (to : TE) : TE := fun σ H Q => to σ H fun x H1 => tyV K T x H1 ∧ r x [] H1 Q
def tBM (K : PySem.W.Frag) (T : String) (r : V → List V → Hp → VK → Prop) (to : TE) (t : TA) : TE := fun σ H Q => to σ H fun x H1 => tyV K T x H1 ∧ t σ H1 fun xs H2 => r x xs H2 Q
variable {o e : Expr} {es : List Expr} {to : TE} {t : TA} {name : Str} {apos cpos : Pos} {T id : String} {r : V → List V → Hp → VK → Prop}
theorem pe_bm0 (pa : PlainAttrs T) (slot : Slot T name id) (hty : typeOf (.builtin id) = pure (.type "method_descriptor")) (hm : MtR X id r) (ho : PE X o to)
    (hbase : attributeBase o name X.env (eval o X.env) = eval o X.env := by rfl) (hline : (apos.endLine == cpos.line) = true := by rfl) : PE X (.Call (.Attribute o name apos) [] [] cpos) (tBM0 X.K T r to) := by
  intro pins s σ H Q I h
  refine wpAny_Call_method0_late hbase hline (thn (ho pins s σ H _ I h) fun v s1 ⟨x, H1, I1, r1, ty, q1⟩ => ?_)
  obtain ⟨h1, h2⟩ := tyV_is I1 r1 ty
  exact ⟨T, id, pa, slot, hty, h1, h2, Calls.callWith_builtin rfl (PySem.evalArgs_none (hm pins s1 σ H1 x [] v [] Q I1 r1 .nil q1))⟩
theorem pe_bm (pa : PlainAttrs T) (slot : Slot T name id) (hty : typeOf (.builtin id) = pure (.type "method_descriptor")) (hm : MtR X id r) (ho : PE X o to) (ha : PA X (e :: es) t)
    (hbase : attributeBase o name X.env (eval o X.env) = eval o X.env := by rfl)
    (hfew : ((backTo cpos (starEach (e :: es) X.env)).all (fun x => !x.1) && (backToKw cpos (keywordEach [] X.env)).all (fun x => x.1.isSome)
      && decide ((e :: es).length + ([] : List Keyword).length + (if ([] : List Keyword).isEmpty then 0 else 1) < 30)) = true := by rfl)
    (hline : (apos.endLine == cpos.line) = true := by rfl) (hs : starEach (e :: es) X.env = (false, eval e X.env) :: starEach es X.env := by rfl) (hplain : (backTo cpos (starEach es X.env)).any (·.1) = false := by rfl) :
    PE X (.Call (.Attribute o name apos) (e :: es) [] cpos) (tBM X.K T r to t) := by
  intro pins s σ H Q I h
  refine wpAny_Call_method_late hbase hfew hline rfl (thn (ho pins s σ H _ I h) fun v s1 ⟨x, H1, I1, r1, ty, q1⟩ => ?_)
  obtain ⟨h1, h2⟩ := tyV_is I1 r1 ty
  refine ⟨T, id, pa, slot, hty, h1, h2, ?_⟩
  have hA := ha cpos pins s1 σ H1 _ I1 q1
  rw [hs] at hA ⊢
  refine Calls.callWith_builtin (by show (false || (backTo cpos (starEach es X.env)).any (·.1)) = false; rw [hplain] <;> rfl) (Calls.evalArgs_plain ?_)
  exact thn hA fun us s2 ⟨vs, H2, I2, r2, q2⟩ => hm pins s2 σ H2 x vs v us Q I2 r1 r2 q2
/- xs.append(e), list.index on a module's tuple .. are MtR facts of 06m -/
end
end L2

namespace L2
open PySem PySem.Spec PyProof.Rows

def MtM (X : Cx) (id : String) (r : V → List V → Hp → VK → Prop) : Prop :=
  ∀ (pins : List (Addr × Obj)) (s : Shared) (σ : St) (H : Hp) (x : V) (xs : List V) (v : Value) (us : List Value) (Q : VK), Inv X pins σ H s → RelV x v → Vals xs us → r x xs H Q →
    wpAny (model X.prog X.w) X.A (call (.builtin id) (v :: us)) (EP X pins σ Q) X.xe s

/-! ### lists of values -/
theorem Vals.one : ∀ {x : V} {us : List Value}, Vals [x] us → ∃ u, us = [u] ∧ RelV x u
  | _, _, .cons r .nil => ⟨_, rfl, r⟩
theorem Vals.two : ∀ {x y : V} {us : List Value}, Vals [x, y] us → ∃ u v, us = [u, v] ∧ RelV x u ∧ RelV y v
  | _, _, _, .cons r (.cons q .nil) => ⟨_, _, rfl, r, q⟩
theorem Vals.zero : ∀ {us : List Value}, Vals [] us → us = []
  | _, .nil => rfl
theorem Vals.dropLast {xs : List V} {us : List Value} (h : Vals xs us) : Vals xs.dropLast us.dropLast := by
  induction h with
  | nil => exact .nil
  | cons r t ih =>
    cases t with
    | nil => exact .nil
    | cons q t' => exact .cons r ih
theorem Vals.eraseIdx : ∀ {xs : List V} {us : List Value} (i : Nat), Vals xs us → Vals (xs.eraseIdx i) (us.eraseIdx i)
  | _, _, _, .nil => .nil
  | _, _, 0, .cons _ t => t
  | _, _, i + 1, .cons r t => .cons r (Vals.eraseIdx i t)
theorem Vals.reverse {xs : List V} {us : List Value} (h : Vals xs us) : Vals xs.reverse us.reverse := by
  induction h with
  | nil => exact .nil
  | cons r t ih => rw [List.reverse_cons, List.reverse_cons]; exact Vals.append ih (.cons r .nil)
theorem Vals.rep {xs : List V} {us : List Value} (h : Vals xs us) : ∀ k : Nat, Vals (List.replicate k xs).flatten (List.replicate k us).flatten
  | 0 => .nil
  | k + 1 => by
    rw [List.replicate_succ, List.replicate_succ, List.flatten_cons, List.flatten_cons]
    exact Vals.append h (Vals.rep h k)
theorem erase_last {α : Type} (l : List α) : l.eraseIdx (l.length - 1) = l.dropLast := by
  induction l with
  | nil => rfl
  | cons a r ih =>
    cases r with
    | nil => rfl
    | cons b r =>
      have e : (a :: b :: r).length - 1 = ((b :: r).length - 1) + 1 := by
        have h1 : (a :: b :: r).length = r.length + 2 := rfl
        have h2 : (b :: r).length = r.length + 1 := rfl
        omega
      rw [e, List.eraseIdx_cons_succ, ih]
      all_goals rfl
theorem len_erase {α : Type} : ∀ (l : List α) (i : Nat), (l.eraseIdx i).length ≤ l.length
  | [], _ => Nat.le_refl _
  | _ :: _, 0 => Nat.le_succ _
  | _ :: r, i + 1 => Nat.succ_le_succ (len_erase r i)
theorem foldl_rep (its : List Value) : ∀ (k : Nat) (acc : List Value),
    List.foldl (fun x1 x2 => x1 ++ x2) acc.toArray (List.replicate k its.toArray) = (acc ++ (List.replicate k its).flatten).toArray
  | 0, acc => by simp
  | k + 1, acc => by
    have e : acc.toArray ++ its.toArray = (acc ++ its).toArray := by simp
    have e2 : (acc ++ its) ++ (List.replicate k its).flatten = acc ++ (List.replicate (k + 1) its).flatten := by
      rw [List.replicate_succ, List.flatten_cons, List.append_assoc]
    rw [← e2, ← foldl_rep its k (acc ++ its), ← e, List.replicate_succ, List.foldl_cons]

section
variable {X : Cx} {pins : List (Addr × Obj)} {σ : St} {H : Hp} {s : Shared} {l b : Addr} {xs ys zs : List V}

/-! ### the two steps: a tracked list is rewritten, a new list is laid -/
theorem Inv.lset {its its' : List Value} {n : Nat} {f : Array Value → Array Value} {t' : Nat} (I : Inv X pins σ H s) (hH : H l = some (.lst xs))
    (e : s.heap.get? l = some { cls := .type "list", data := .seq its.toArray n }) (hf : f its.toArray = its'.toArray) (hv : Vals ys its') (hz : ys.length ≤ sizeLine) :
    Inv X pins σ (upd H l (.lst ys)) { s with heap := s.heap.update l (Obj.mapSeq f), toks := t' } := by
  have q := PySem.IsL.update e f
  rw [hf] at q
  refine I.write (x := l) (e := l) (by rw [hH]; exact trivial) (.inl rfl) (fun b' u hb hu => (Heap.get?_update_other s.heap (Obj.mapSeq f) (Ne.symm hb)).trans hu) ⟨_, q⟩ ?_
  exact ⟨hz, its', _, hv, q⟩
theorem Inv.lnew {its : List Value} {t' : Nat} (I : Inv X pins σ H s) (hv : Vals ys its) (hz : ys.length ≤ sizeLine) :
    Inv X pins σ (upd H s.heap.objs.size (.lst ys)) { s with heap := s.heap.push { cls := .type "list", data := .seq its.toArray }, toks := t' } :=
  I.laid (fun _ _ q => Heap.get?_push_of_some _ q) (Nat.le_refl _) ⟨hz, its, 0, hv, Heap.get?_push_size _ rfl⟩
theorem Inv.fresh (I : Inv X pins σ H s) : H s.heap.objs.size = none := I.hok.fresh (Nat.le_refl _)
theorem Inv.lstM (I : Inv X pins σ H s) (hH : H l = some (.lst xs)) : xs.length ≤ sizeLine ∧ ∃ (its : List Value) (n : Nat), Vals xs its ∧ xs.length = its.length ∧ s.heap.get? l = some { cls := .type "list", data := .seq its.toArray n } := by
  obtain ⟨z, its, n, r, e⟩ := I.hok l _ hH
  exact ⟨z, its, n, r, r.length, e⟩

theorem notLongL {n : Nat} (h : n ≤ sizeLine) : Builtin.List.listTooLong n = false := by
  unfold Builtin.List.listTooLong
  exact decide_eq_false (by omega)
end

section
variable {X : Cx}

/-! ### methods -/
def rAppend : V → List V → Hp → VK → Prop := fun x vs H Q => ∃ l xs y, x = .ref l ∧ vs = [y] ∧ H l = some (.lst xs) ∧ xs.length < sizeLine ∧ Q .non (upd H l (.lst (xs ++ [y])))
theorem mt_append : MtM X "list.append" rAppend := by
  intro pins s σ H x vs v us Q I rx rv h
  obtain ⟨l, xs, y, rfl, rfl, hH, hz, q⟩ := h
  cases rx
  obtain ⟨u, rfl, ru⟩ := rv.one
  obtain ⟨z, its, n, r, hl, e⟩ := I.lstM hH
  refine call_meets F.slot_list_append ⟨_, e, rfl⟩ F.entry_list_append (F.args_list_append_2 _ _) (PySem.list_append l its.toArray n u (by rw [List.size_toArray]; omega)) ⟨e, ?_⟩
  refine ⟨.non, _, I.lset (its' := its ++ [u]) hH e (by simp) (r.append (.cons ru .nil)) ?_, rfl, q⟩
  rw [List.length_append, List.length_singleton]
  omega

def rExtend : V → List V → Hp → VK → Prop := fun x vs H Q => ∃ l b xs zs, x = .ref l ∧ vs = [.ref b] ∧ H l = some (.lst xs) ∧ H b = some (.lst zs) ∧ xs.length + zs.length ≤ sizeLine ∧ Q .non (upd H l (.lst (xs ++ zs)))
theorem mt_extend : MtM X "list.extend" rExtend := by
  intro pins s σ H x vs v us Q I rx rv h
  obtain ⟨l, b, xs, zs, rfl, rfl, hH, hB, hz, q⟩ := h
  cases rx
  obtain ⟨u, rfl, ru⟩ := rv.one
  cases ru
  obtain ⟨z, its, n, r, hl, e⟩ := I.lstM hH
  obtain ⟨z2, its2, n2, r2, hl2, e2⟩ := I.lstM hB
  have hsz : its.toArray.size + its2.toArray.size ≤ sizeLine := by rw [List.size_toArray, List.size_toArray]; omega
  have hlong : ¬ (!its.toArray.isEmpty && Builtin.List.listTooLong (its.toArray.size + its2.toArray.size)) = true := by
    rw [notLongL hsz, Bool.and_false]
    exact Bool.false_ne_true
  refine call_meets F.slot_list_extend ⟨_, e, rfl⟩ F.entry_list_extend (F.args_list_extend_2 _ _)
    (AutoSeq1.list_extend_list_list_0 l its.toArray n b its2.toArray n2 hlong (by rw [List.size_toArray]; omega) (by omega)) ⟨e, e2, ?_⟩
  refine ⟨.non, _, I.lset (its' := its ++ its2) hH e (by simp) (r.append r2) ?_, rfl, q⟩
  rw [List.length_append]
  omega

def rPop : V → List V → Hp → VK → Prop := fun x vs H Q => ∃ l xs y, x = .ref l ∧ vs = [] ∧ H l = some (.lst xs) ∧ xs[xs.length - 1]? = some y ∧ Q y (upd H l (.lst xs.dropLast))
theorem mt_pop : MtM X "list.pop" rPop := by
  intro pins s σ H x vs v us Q I rx rv h
  obtain ⟨l, xs, y, rfl, rfl, hH, hy, q⟩ := h
  cases rx
  have hus := rv.zero
  subst hus
  obtain ⟨z, its, n, r, hl, e⟩ := I.lstM hH
  obtain ⟨u, hu, ru⟩ := r.get hy
  have hy' : its.toArray[its.toArray.size - 1]? = some u := by
    show its.toArray[its.length - 1]? = some u
    rw [← Array.getElem?_toList, ← hl]
    exact hu
  refine call_meets F.slot_list_pop ⟨_, e, rfl⟩ F.entry_list_pop (F.args_list_pop_1 _) (MeetsSeq.list_pop_last l its.toArray n u hy' (by rw [List.size_toArray]; omega)) ⟨e, ?_⟩
  refine ⟨y, _, I.lset (its' := its.dropLast) hH e ?_ r.dropLast ?_, ru, q⟩
  · show its.toArray.eraseIdxIfInBounds (its.toArray.size - 1) = its.dropLast.toArray
    rw [List.size_toArray, List.eraseIdxIfInBounds_toArray, erase_last]
  · rw [List.length_dropLast]
    omega

def rPopAt : V → List V → Hp → VK → Prop := fun x vs H Q => ∃ l xs i k y, x = .ref l ∧ vs = [.int i] ∧ H l = some (.lst xs) ∧ -(2 ^ 63) ≤ i ∧ i < 2 ^ 63 ∧ seqIndex? i xs.length = some k ∧ xs[k]? = some y ∧ Q y (upd H l (.lst (xs.eraseIdx k)))
theorem mt_popAt : MtM X "list.pop" rPopAt := by
  intro pins s σ H x vs v us Q I rx rv h
  obtain ⟨l, xs, i, k, y, rfl, rfl, hH, h1, h2, hk, hy, q⟩ := h
  cases rx
  obtain ⟨u, rfl, ru⟩ := rv.one
  obtain ⟨t, rfl⟩ := ru
  obtain ⟨z, its, n, r, hl, e⟩ := I.lstM hH
  obtain ⟨w, hw, rw'⟩ := r.get hy
  refine call_meets F.slot_list_pop ⟨_, e, rfl⟩ F.entry_list_pop (F.args_list_pop_2 _ _)
    (MeetsSeq.list_pop_at l its.toArray n i t k w (fitsIndex_both h1 h2) (by rw [List.size_toArray, ← hl]; exact hk) (by rw [← Array.getElem?_toList]; exact hw) (by rw [List.size_toArray]; omega)) ⟨e, ?_⟩
  refine ⟨y, _, I.lset (its' := its.eraseIdx k) hH e ?_ (r.eraseIdx k) ?_, rw', q⟩
  · show its.toArray.eraseIdxIfInBounds k = (its.eraseIdx k).toArray
    rw [List.eraseIdxIfInBounds_toArray]
  · have := len_erase xs k
    omega

def rReverse : V → List V → Hp → VK → Prop := fun x vs H Q => ∃ l xs, x = .ref l ∧ vs = [] ∧ H l = some (.lst xs) ∧ Q .non (upd H l (.lst xs.reverse))
theorem mt_reverse : MtM X "list.reverse" rReverse := by
  intro pins s σ H x vs v us Q I rx rv h
  obtain ⟨l, xs, rfl, rfl, hH, q⟩ := h
  cases rx
  have hus := rv.zero
  subst hus
  obtain ⟨z, its, n, r, hl, e⟩ := I.lstM hH
  refine call_meets F.slot_list_reverse ⟨_, e, rfl⟩ F.entry_list_reverse (F.args_list_reverse_1 _) (AutoSeq1.list_reverse_list_0 l its.toArray n (by rw [List.size_toArray]; omega)) ⟨e, ?_⟩
  refine ⟨.non, _, I.lset (its' := its.reverse) hH e (by simp) r.reverse ?_, rfl, q⟩
  rw [List.length_reverse]
  omega

def rClear : V → List V → Hp → VK → Prop := fun x vs H Q => ∃ l xs, x = .ref l ∧ vs = [] ∧ H l = some (.lst xs) ∧ Q .non (upd H l (.lst []))
theorem mt_clear : MtM X "list.clear" rClear := by
  intro pins s σ H x vs v us Q I rx rv h
  obtain ⟨l, xs, rfl, rfl, hH, q⟩ := h
  cases rx
  have hus := rv.zero
  subst hus
  obtain ⟨z, its, n, r, hl, e⟩ := I.lstM hH
  refine call_meets F.slot_list_clear ⟨_, e, rfl⟩ F.entry_list_clear (F.args_list_clear_1 _) (AutoSeq1.list_clear_list_0 l its.toArray n (by rw [List.size_toArray]; omega)) ⟨e, ?_⟩
  exact ⟨.non, _, I.lset (its' := []) (ys := []) hH e rfl .nil (Nat.zero_le _), rfl, q⟩

/-! ### list + list, list += list, list * int -/
def rCat : R2 := fun x y H Q => ∃ l b xs zs, x = .ref l ∧ y = .ref b ∧ H l = some (.lst xs) ∧ H b = some (.lst zs) ∧ xs.length + zs.length ≤ sizeLine ∧ ∀ p, H p = none → Q (.ref p) (upd H p (.lst (xs ++ zs)))
theorem op_cat : OpR X (binaryOp .Add) rCat := by
  intro pins s σ H x y v u Q I rx ry h
  obtain ⟨l, b, xs, zs, rfl, rfl, hH, hB, hz, q⟩ := h
  cases rx
  cases ry
  obtain ⟨z, its, n, r, hl, e⟩ := I.lstM hH
  obtain ⟨z2, its2, n2, r2, hl2, e2⟩ := I.lstM hB
  refine PySem.P.add_list e e2 ?_ (by rw [List.size_toArray, List.size_toArray]; omega)
  have ea : its.toArray ++ its2.toArray = (its ++ its2).toArray := by simp
  rw [ea]
  exact ⟨.ref _, _, I.lnew (t' := s.toks) (r.append r2) (by rw [List.length_append]; omega), rfl, q _ I.fresh⟩
/-- a list times an int (a negative one is nothing) -/
def rRep : R2 := fun x y H Q => ∃ l k xs, x = .ref l ∧ y = .int k ∧ H l = some (.lst xs) ∧ -(2 ^ 63) ≤ k ∧ k < 2 ^ 63 ∧ xs.length * k.toNat ≤ sizeLine ∧
  ∀ p, H p = none → Q (.ref p) (upd H p (.lst (List.replicate k.toNat xs).flatten))
theorem len_rep {α : Type} (xs : List α) (k : Nat) : (List.replicate k xs).flatten.length = k * xs.length := by
  induction k with
  | zero => simp
  | succ k ih => rw [List.replicate_succ, List.flatten_cons, List.length_append, ih, Nat.succ_mul, Nat.add_comm]
theorem op_rep : OpR X (binaryOp .Mult) rRep := by
  intro pins s σ H x y v u Q I rx ry h
  obtain ⟨l, k, xs, rfl, rfl, hH, h1, h2, hz, q⟩ := h
  cases rx
  obtain ⟨t, rfl⟩ := ry
  obtain ⟨z, its, n, r, hl, e⟩ := I.lstM hH
  have hlen : its.toArray.size * k.toNat ≤ sizeLine := by rw [List.size_toArray, ← hl]; exact hz
  have hcap : ¬ its.toArray.size * k.toNat > (2 ^ 63 - 1) / 8 := by
    have : (sizeLine : Nat) ≤ (2 ^ 63 - 1) / 8 := by decide
    omega
  have hfit : ¬ (!Builtin.List.listFitsIndex k) = true := by
    rw [fitsIndex_both h1 h2]
    exact Bool.false_ne_true
  have hlong : ¬ Builtin.List.listTooLong (its.toArray.size * k.toNat) = true := by
    rw [notLongL hlen]
    exact Bool.false_ne_true
  have hnew : List.foldl (fun x1 x2 => x1 ++ x2) #[] (List.replicate (if its.toArray.isEmpty = true then 0 else k.toNat) its.toArray) = (List.replicate k.toNat its).flatten.toArray := by
    have f0 : ∀ m : Nat, List.foldl (fun x1 x2 => x1 ++ x2) #[] (List.replicate m its.toArray) = (List.replicate m its).flatten.toArray := fun m => by
      have := foldl_rep its m []
      rw [List.nil_append] at this
      exact this
    rw [f0]
    cases its with
    | nil => simp
    | cons a r' => rw [if_neg (by simp)]
  refine wpAny_binaryOp_repeat_ref (T := "list") (U := "int") (by decide) ⟨_, e, rfl⟩ (fun s' => typeIs_int s' k t) noFill_list_mul F.fills_int_mul F.slot_int_rmul repeat_list F.slot_int_index.lookup
    (call_meets F.slot_int_rmul (typeIs_int s k t) F.entry_int_rmul (F.args_int_rmul_2 _ _) (int___rmul___int_list k t l its.toArray n)
      ⟨e, rfl, ⟨_, e, rfl⟩, call_meets F.slot_list_mul ⟨_, e, rfl⟩ F.entry_list_mul (F.args_list_mul_2 _ _) (AutoListH.list___mul___list_int_3 l its.toArray n k t hfit hcap hlong) ⟨e, ?_⟩⟩)
  rw [hnew]
  exact ⟨.ref _, _, I.lnew (t' := s.toks) (r.rep k.toNat) (by rw [len_rep, Nat.mul_comm]; exact hz), rfl, q _ I.fresh⟩

/-! ### del xs[i] -/
theorem del_list {pins : List (Addr × Obj)} {s : Shared} {σ : St} {H : Hp} {l : Addr} {xs : List V} {i : Int} {t : Tok} {k : Nat} {Q : Unit → Shared → Prop} (I : Inv X pins σ H s) (hH : H l = some (.lst xs))
    (h1 : -(2 ^ 63) ≤ i) (h2 : i < 2 ^ 63) (hk : seqIndex? i xs.length = some k) (h : ∀ s', Inv X pins σ (upd H l (.lst (xs.eraseIdx k))) s' → Q () s') :
    wpAny (model X.prog X.w) X.A (delItem (.ref l) (.int i t)) Q X.xe s := by
  obtain ⟨z, its, n, r, hl, e⟩ := I.lstM hH
  refine PySem.P.delItem_list (k := k) e (fitsIndex_both h1 h2) (by rw [List.size_toArray, ← hl]; exact hk) (h _ ?_) (by rw [List.size_toArray]; omega)
  refine I.lset (its' := its.eraseIdx k) (t' := s.toks) hH e ?_ (r.eraseIdx k) ?_
  · show its.toArray.eraseIdxIfInBounds k = (its.eraseIdx k).toArray
    rw [List.eraseIdxIfInBounds_toArray]
  · have := len_erase xs k
    omega
end

/-! ### xs[a:b] = ys -/
section
variable {prog : Program} {w : World} {A : Around} {E : Value → Shared → Prop} {s : Shared}
theorem splice_eq (its its2 : List Value) (a c : Nat) : its.toArray.extract 0 a ++ its2.toArray ++ its.toArray.extract c its.toArray.size = (its.take a ++ its2 ++ its.drop c).toArray := by
  apply Array.toList_inj.mp
  first
    | (simp
       exact List.take_of_length_le (by simp))
    | simp [List.take_of_length_le]
    | simp
theorem bounds_run {a c n : Nat} (hac : a ≤ c) (hc : c ≤ n) : sliceBounds (some (a : Int)) (some (c : Int)) none n = ((a : Int), (c : Int), 1) := by
  simp only [sliceBounds, Option.getD_none]
  have h1 : ¬ ((a : Int) < 0) := by omega
  have h2 : ¬ ((c : Int) < 0) := by omega
  simp only [h1, h2, if_false, show (1 : Int) > 0 by decide, if_true]
  congr 1
  · omega
  · congr 1; omega
set_option maxRecDepth 100000 in
/-- list.__setitem__ with a slice of step one and another list -/
theorem setItem_slice {l b sl : Addr} {items new : Array Value} {n n2 : Nat} {vl vu : Value} {a c : Nat} {Q : Unit → Shared → Prop}
    (e : s.heap.get? l = some { cls := .type "list", data := .seq items n }) (e2 : s.heap.get? b = some { cls := .type "list", data := .seq new n2 }) (hne : l ≠ b)
    (hs : s.heap.IsSliceOf sl vl vu .none) (pl : IsPart vl (some (a : Int))) (pu : IsPart vu (some (c : Int))) (hac : a ≤ c) (hc : c ≤ items.size)
    (hsz : items.size + new.size ≤ sizeLine) (h : Q () { s with heap := s.heap.update l (Obj.mapSeq fun xs => xs.extract 0 a ++ new ++ xs.extract c xs.size) }) :
    wpAny (model prog w) A (setItem (.ref l) (.ref sl) (.ref b)) Q E s := by
  have hl : s.heap.IsList l items := PySem.IsL.isList e
  have hb : s.heap.IsList b new := PySem.IsL.isList e2
  obtain ⟨os, hos, hcs, hds⟩ := id hs
  have hTs : s.TypeIs (.ref sl) "slice" := ⟨os, hos, hcs⟩
  have hstep : ¬ ((rawPart none == rawInt 0) = true) := Bool.false_ne_true
  have hsame : Builtin.List.listSameRef (.ref l) (.ref b) = false := by
    unfold Builtin.List.listSameRef
    exact beq_eq_false_iff_ne.mpr hne
  have hmax : (max (a : Int) (c : Int)).toNat = c := by omega
  have hz' : ((fun xs : Array Value => xs.extract 0 a ++ new ++ xs.extract c xs.size) items).size ≤ sizeLine + 1 := by
    simp only [Array.size_append, Array.size_extract]
    omega
  unfold setItem
  try with_reducible refine wpAny_holding ?_
  first | refine wpAny_bind (wpAny_pure ?_) | skip
  refine wpAny_bind (wpAny_sequenceKey hl.typeIs (by decide) ?_)
  refine wpAny_bind (wpAny_callSpecial?_slot (name := Str.ofString "__setitem__") hl.typeIs slot_list_setitem
    (wpAny_call_entry slot_list_setitem hl.typeIs entry_list_setitem ?_ (args_list_setitem _ _ _)))
  show wpAny _ _ (Builtin.List.listSubscript? (.ref sl) >>= _) _ _ s
  refine wpAny_bind ?_
  unfold Builtin.List.listSubscript?
  refine wpAny_bind (wpAny_specialOf hTs slice_no_index ?_)
  simp only [Option.isNone_none, if_true]
  refine wpAny_pure ?_
  show wpAny _ _ (typeOf (.ref sl) >>= _) _ _ s
  refine wpAny_bind (wpAny_typeOf hTs ?_)
  first
    | rw [if_neg (by decide)]
    | refine PySem.W.KFB.if_not (by decide) ?_
  rw [listSliceParts_eq]
  refine wpAny_bind (wpAny_bind (wpAny_field hos hds (x := .none) rfl (wpAny_bind (wpAny_listPart .none ?_))))
  rw [if_neg hstep]
  refine wpAny_bind (wpAny_field hos hds (x := vl) rfl (wpAny_bind (wpAny_listPart pl ?_)))
  refine wpAny_bind (wpAny_field hos hds (x := vu) rfl (wpAny_bind (wpAny_listPart pu (wpAny_pure ?_))))
  first
    | simp only [hsame, Bool.false_eq_true, if_false]
    | refine PySem.W.KFB.if_not hsame ?_
    | (dsimp only
       rw [if_neg (by rw [hsame]; exact Bool.false_ne_true)])
  refine wpAny_bind (m := Builtin.List.listAllItems (.ref b) "must assign iterable to extended slice") ?_
  unfold Builtin.List.listAllItems
  refine wpAny_bind (wpAny_typeOf hb.typeIs ?_)
  first
    | refine PySem.W.KFB.if_so (by decide) ?_
    | rw [if_pos (by decide)]
    | simp only [beq_self_eq_true, Bool.true_or, if_true]
  unfold Builtin.List.listItems
  refine wpAny_bind (wpAny_seqItems e2 rfl (wpAny_pure ?_))
  refine wpAny_bind (wpAny_bind (wpAny_seqItems e rfl (wpAny_pure ?_)))
  refine wpAny_bind (wpAny_of_eq ((sliceIndices_raw (some (a : Int)) (some (c : Int)) none items.size (by simp)).trans (congrArg (pure : Int × Int × Int → Sem (Int × Int × Int)) (bounds_run hac hc))) ?_)
  show wpAny _ _ (if ((1 : Int) == 1) = true then _ else _) _ _ s
  rw [if_pos (by decide)]
  refine wpAny_bind (wpAny_rule ?_)
  first
    | simp only [notLongL hsz, Bool.false_eq_true, if_false]
    | refine PySem.W.KFB.if_not (notLongL hsz) ?_
  first | refine wpAny_bind (wpAny_pure ?_) | skip
  show wpAny _ _ (updateSeq l (fun xs => xs.extract 0 ((a : Int)).toNat ++ new ++ xs.extract (max (a : Int) (c : Int)).toNat xs.size) >>= _) _ _ s
  rw [hmax, Int.toNat_natCast]
  refine wpAny_bind (wpAny_updateSeq (hz := Nat.le_trans (Nat.le_add_right _ _) hsz) (_hz' := hz') e rfl ?_)
  refine wpAny_bind (wpAny_letGo ?_)
  first
    | exact wpAny_bind (wpAny_pure (wpAny_pure ⟨.none, rfl, wpAny_pure h⟩))
    | exact wpAny_pure ⟨.none, rfl, wpAny_pure h⟩
end

section
variable {X : Cx}
/-- xs[a:c] = ys of another list, at the value level: sl is the slice object that was just made -/
theorem set_slice {pins : List (Addr × Obj)} {s : Shared} {σ : St} {H : Hp} {l b sl : Addr} {xs ys : List V} {a c : Int} {vl vu : Value} {Q : Unit → Shared → Prop} (I : Inv X pins σ H s)
    (hH : H l = some (.lst xs)) (hB : H b = some (.lst ys)) (hne : l ≠ b) (hs : s.heap.IsSliceOf sl vl vu .none) (ra : RelV (.int a) vl) (rc : RelV (.int c) vu) (h0 : 0 ≤ a) (hac : a ≤ c) (hc : c ≤ xs.length)
    (hz : xs.length + ys.length ≤ sizeLine) (h : ∀ s', Inv X pins σ (upd H l (.lst (xs.take a.toNat ++ ys ++ xs.drop c.toNat))) s' → Q () s') :
    wpAny (model X.prog X.w) X.A (setItem (.ref l) (.ref sl) (.ref b)) Q X.xe s := by
  obtain ⟨ta, rfl⟩ := ra
  obtain ⟨tc, rfl⟩ := rc
  obtain ⟨z, its, n, r, hl, e⟩ := I.lstM hH
  obtain ⟨z2, its2, n2, r2, hl2, e2⟩ := I.lstM hB
  obtain ⟨a', rfl⟩ := Int.eq_ofNat_of_zero_le h0
  obtain ⟨c', rfl⟩ := Int.eq_ofNat_of_zero_le (Int.le_trans h0 hac)
  simp only [Int.toNat_natCast] at h
  refine setItem_slice (a := a') (c := c') e e2 hne hs (.int _ _) (.int _ _) (by omega) (by rw [List.size_toArray]; omega) (by rw [List.size_toArray, List.size_toArray]; omega) (h _ ?_)
  refine I.lset (its' := its.take a' ++ its2 ++ its.drop c') (t' := s.toks) hH e ?_ (Vals.append (Vals.append (r.take _) r2) (r.drop _)) ?_
  · exact splice_eq its its2 a' c'
  · rw [List.length_append, List.length_append, List.length_take, List.length_drop]
    omega
end
end L2

namespace Att
open PySem PySem.W PySem.Calls PyProof.Rows

/-! ### the script -/
theorem ints_of_wellAll {P : Params} {h : Heap} : ∀ (ns : List Int) (vs : List Value), WellAll P h vs (ns.map WData.int) → IntsAre vs ns := by
  intro ns
  induction ns with
  | nil =>
    intro vs w
    rw [List.map_nil] at w
    cases w
    exact .nil
  | cons n ns ih =>
    intro vs w
    rw [List.map_cons] at w
    cases w with
    | cons a b =>
      cases a
      exact .cons _ _ (ih _ b)

theorem script_of {l : OpenLaw} {n : Nat} (hn : l.most = some n) {P : Params} {h : Heap} {args : List WData} {vals : List Value}
    (hpre : l.row.toRowW.claim.pre args = true) (hwl : WellAll P h vals args) :
    ∃ a vs ns, vals = [Value.ref a] ∧ args = [WData.list (ns.map WData.int)] ∧ h.get? a = some { cls := .type "list", data := .seq vs.toArray } ∧ IntsAre vs ns ∧ ns.length ≤ n := by
  have hsh : WShape.hasAll [] args [.list .int] = true := (pre_splitW hpre).1
  have hc : l.pre.holds [] { args := args } = true := (pre_splitW hpre).2
  obtain ⟨d, r, rfl, h1, h2⟩ := hasAllW_cons hsh
  obtain rfl := hasAllW_nil h2
  obtain ⟨xs, rfl, h3⟩ := hasW_list h1
  obtain ⟨ns, rfl⟩ := items_int h3
  have hlen : ns.length ≤ n := by
    unfold OpenLaw.pre at hc
    have h4 : (WTm.not (.lt (.lit (.int (n : Int))) (.len (.arg 0)))).holds [] { args := [.list (ns.map .int)] } = true := by
      have h4 := (holds_andW hc).1
      rw [hn] at h4
      exact h4
    have h5 := condW_of h4 (w_not (w_lt w_lit (w_len_list (w_arg rfl))))
    rw [List.length_map] at h5
    refine Nat.le_of_not_lt fun q => ?_
    have q' : (n : Int) < ((ns.length : Nat) : Int) := by omega
    first
      | (rw [decide_eq_true q'] at h5; exact absurd h5 (by decide))
      | (simp at h5; omega)
  cases hwl with
  | cons w1 w2 =>
    cases w2
    cases w1 with
    | list ho hall => exact ⟨_, _, ns, rfl, rfl, ho, ints_of_wellAll ns _ hall, hlen⟩

theorem post_true (l : OpenLaw) (args : List WData) : l.row.toRowW.claim.post args (.bool true) args = true :=
  postW_of (r := l.row.toRowW) (X := (true == true))
    (show WShape.has [] (.bool true) .bool = true by first | rfl | decide | simp [WShape.has, WShape.arms, WShape.armsAll])
    (show (WTm.eq .res (.lit (.bool true))).value [] { args := args, res := some (.bool true), after := args } = some (.bool (true == true)) from w_eq_bool (w_res rfl) w_lit) rfl

/-! ### the attachment: holds_open's last premise (the goal 'hc' behind k_head) from a wpAny of the law's body -/
theorem attach {l : OpenLaw} {n : Nat} {q : Program} {loose : List Str} {XP : (Str → Option Value) → Heap → Prop} {YP : World → Heap → Prop} {d : DefRec} {x : Str}
    (hn : l.most = some n) (hdf : d.params.defaults = [])
    (hbind : ∀ pm cd doc v : Value, bindArgs (docDef d.name d.params d.body d.scope pm cd doc) ⟨[v], []⟩ = pure [(x, v)])
    (hx : d.scope.names.lookup x = some .local ∨ d.scope.names.lookup x = some .cell)
    (hk : d.scope.kind = .function) (hco : d.scope.isCoroutine = false) (hgen : d.scope.isGenerator = false)
    (body : ∀ (w : World) (s₀ s₁ s : Shared) (mg mb : Str → Option Value) (fa : Addr) (o : Obj) (pm cd doc : Value) (a : Addr) (vs : List Value) (ns : List Int),
      Ground q loose [] XP w s₀ mg mb s₁.heap → YP w s₁.heap →
      s₁.heap.get? fa = some o → o.data = .func (docDef d.name d.params d.body d.scope pm cd doc) → s₁.heap.CodeRec cd d.name → mg d.name = some (.ref fa) →
      s₁.heap.get? a = some { cls := .type "list", data := .seq vs.toArray } → IntsAre vs ns → ns.length ≤ n →
      s.gens = #[] → s.os = s₁.os →
      Fr s₁.heap s₁.heap.objs.size s.heap (bindL (envOfC d.name d.scope s₁.heap.objs.size fa cd).kindOf [(x, .ref a)] fun _ => none) →
      Cl s₁.heap.objs.size (cellsFrom (s₁.heap.objs.size + 1) d.scope.names []) s.heap (bindC (envOfC d.name d.scope s₁.heap.objs.size fa cd).kindOf [(x, .ref a)] fun _ => none) →
      wpAny (model l.prog w) (callerA.deeper (envOfC d.name d.scope s₁.heap.objs.size fa cd)) (execs d.body (envOfC d.name d.scope s₁.heap.objs.size fa cd))
        (fun f s' => f = .ret (.bool true) ∧ OldK s₁.heap s'.heap ∧ s'.os = s₁.os ∧ AllBare s'.gens) (fun _ _ => False) s) :
    WalkO q loose XP YP l.row.toRowW d [] (fun f vs => PySem.call f vs) := by
  intro w s₀ s₁ mg mb G Y fa o pm cd doc dV kV ho hd hcd hD hmg hg args vals as hpre hlay hrd hwl hlo
  obtain rfl : dV = .none := Dflts.none hD hdf
  obtain rfl : kV = .none := Dflts.noKw hD
  obtain ⟨a, vs, ns, rfl, rfl, hobj, hints, hlen⟩ := script_of hn hpre hwl
  refine enter_call ?_
  refine call_cells_ret (o := o) (by rw [depth_caller]; decide) ho (fd_plain hd) G.T.nolimit hcd (hbind pm cd doc (.ref a)) (fun y hy => ?_) (fun h₁ tk F X => ?_) hco hgen hk
  · obtain rfl : y = (x, Value.ref a) := List.mem_singleton.mp hy
    rcases hx with e | e
    · exact .inl e
    · exact .inr ⟨e, cellsFrom_some _ _ _ (.inl e)⟩
  · refine wpAny_mono (body w s₀ s₁ { s₁ with heap := h₁, toks := tk } mg mb fa o pm cd doc a vs ns G Y ho (fd_plain hd) hcd hmg hobj hints hlen hg rfl F X) (fun f s' hq => ?_) (fun _ _ hq => hq)
    obtain ⟨rfl, h2, h3, h4⟩ := hq
    exact ⟨.inl ⟨.bool true, .bool true, [], rfl, fun _ => rfl, .bool true, post_true l _, fun _ => ⟨List.Pairwise.nil, fun _ hm => (nomatch hm)⟩⟩, h2, h3, h4⟩

/-- the same from a codeAny of the CALL (for a layer whose function contracts speak of calls) -/
theorem attach_call {l : OpenLaw} {n : Nat} {q : Program} {loose : List Str} {XP : (Str → Option Value) → Heap → Prop} {YP : World → Heap → Prop} {d : DefRec}
    (hn : l.most = some n) (hdf : d.params.defaults = [])
    (call : ∀ (w : World) (s₀ s₁ : Shared) (mg mb : Str → Option Value) (fa : Addr) (o : Obj) (pm cd doc : Value) (a : Addr) (vs : List Value) (ns : List Int),
      Ground q loose [] XP w s₀ mg mb s₁.heap → YP w s₁.heap →
      s₁.heap.get? fa = some o → o.data = .func (docDef d.name d.params d.body d.scope pm cd doc) → s₁.heap.CodeRec cd d.name → mg d.name = some (.ref fa) →
      s₁.heap.get? a = some { cls := .type "list", data := .seq vs.toArray } → IntsAre vs ns → ns.length ≤ n → s₁.gens = #[] →
      codeAny (model l.prog w) callerA (.call (.ref fa) ⟨[.ref a], []⟩) (fun r s' => r = .ok (.ret (.bool true)) ∧ OldK s₁.heap s'.heap ∧ s'.os = s₁.os ∧ AllBare s'.gens) s₁) :
    WalkO q loose XP YP l.row.toRowW d [] (fun f vs => PySem.call f vs) := by
  intro w s₀ s₁ mg mb G Y fa o pm cd doc dV kV ho hd hcd hD hmg hg args vals as hpre hlay hrd hwl hlo
  obtain rfl : dV = .none := Dflts.none hD hdf
  obtain rfl : kV = .none := Dflts.noKw hD
  obtain ⟨a, vs, ns, rfl, rfl, hobj, hints, hlen⟩ := script_of hn hpre hwl
  refine enter_call (codeAny_mono (call w s₀ s₁ mg mb fa o pm cd doc a vs ns G Y ho (fd_plain hd) hcd hmg hobj hints hlen hg) fun r s' hq => ?_)
  obtain ⟨rfl, h2, h3, h4⟩ := hq
  exact ⟨.inl ⟨.bool true, .bool true, [], rfl, fun _ => rfl, .bool true, post_true l _, fun _ => ⟨List.Pairwise.nil, fun _ hm => (nomatch hm)⟩⟩, h2, h3, h4⟩

/-- the same where the top left finished generators (o_head chose holds_openN): nothing may have changed at all and no generator may be left -/
theorem attachN {l : OpenLaw} {n : Nat} {q : Program} {loose : List Str} {XP : (Str → Option Value) → Heap → Prop} {YP : World → Heap → Prop} {d : DefRec} {x : Str}
    (hn : l.most = some n) (hdf : d.params.defaults = [])
    (hbind : ∀ pm cd doc v : Value, bindArgs (docDef d.name d.params d.body d.scope pm cd doc) ⟨[v], []⟩ = pure [(x, v)])
    (hx : d.scope.names.lookup x = some .local ∨ d.scope.names.lookup x = some .cell)
    (hk : d.scope.kind = .function) (hco : d.scope.isCoroutine = false) (hgen : d.scope.isGenerator = false)
    (body : ∀ (w : World) (s₀ s₁ s : Shared) (mg mb : Str → Option Value) (fa : Addr) (o : Obj) (pm cd doc : Value) (a : Addr) (vs : List Value) (ns : List Int),
      Ground q loose [] XP w s₀ mg mb s₁.heap → YP w s₁.heap →
      s₁.heap.get? fa = some o → o.data = .func (docDef d.name d.params d.body d.scope pm cd doc) → s₁.heap.CodeRec cd d.name → mg d.name = some (.ref fa) →
      s₁.heap.get? a = some { cls := .type "list", data := .seq vs.toArray } → IntsAre vs ns → ns.length ≤ n →
      s.gens = #[] → s.os = s₁.os →
      Fr s₁.heap s₁.heap.objs.size s.heap (bindL (envOfC d.name d.scope s₁.heap.objs.size fa cd).kindOf [(x, .ref a)] fun _ => none) →
      Cl s₁.heap.objs.size (cellsFrom (s₁.heap.objs.size + 1) d.scope.names []) s.heap (bindC (envOfC d.name d.scope s₁.heap.objs.size fa cd).kindOf [(x, .ref a)] fun _ => none) →
      wpAny (model l.prog w) (callerA.deeper (envOfC d.name d.scope s₁.heap.objs.size fa cd)) (execs d.body (envOfC d.name d.scope s₁.heap.objs.size fa cd))
        (fun f s' => f = .ret (.bool true) ∧ (∀ b o, s₁.heap.get? b = some o → s'.heap.get? b = some o) ∧ s'.os = s₁.os ∧ s'.gens = #[]) (fun _ _ => False) s) :
    WalkN q loose XP YP l.row.toRowW d [] (fun f vs => PySem.call f vs) := by
  intro w s₀ s₁ mg mb G Y fa o pm cd doc dV kV ho hd hcd hD hmg hg args vals as hpre hlay hrd hwl hlo
  obtain rfl : dV = .none := Dflts.none hD hdf
  obtain rfl : kV = .none := Dflts.noKw hD
  obtain ⟨a, vs, ns, rfl, rfl, hobj, hints, hlen⟩ := script_of hn hpre hwl
  refine enter_callW ?_
  refine call_cells_ret (o := o) (by rw [depth_caller]; decide) ho (fd_plain hd) G.T.nolimit hcd (hbind pm cd doc (.ref a)) (fun y hy => ?_) (fun h₁ tk F X => ?_) hco hgen hk
  · obtain rfl : y = (x, Value.ref a) := List.mem_singleton.mp hy
    rcases hx with e | e
    · exact .inl e
    · exact .inr ⟨e, cellsFrom_some _ _ _ (.inl e)⟩
  · refine wpAny_mono (body w s₀ s₁ { s₁ with heap := h₁, toks := tk } mg mb fa o pm cd doc a vs ns G Y ho (fd_plain hd) hcd hmg hobj hints hlen hg rfl F X) (fun f s' hq => ?_) (fun _ _ hq => hq)
    obtain ⟨rfl, h2, h3, h4⟩ := hq
    exact ⟨.inl ⟨.bool true, .bool true, [], rfl, fun _ => rfl, .bool true, post_true l _, fun _ => ⟨List.Pairwise.nil, fun _ hm => (nomatch hm)⟩⟩, h2, h3, h4⟩

/-! ### rules over ANY heap (no ledger) from facts about the written part K: the library's own take a ledger (News) for what they write -/
section
variable {prog : Program} {w : World} {A : Around} {E : Value → Shared → Prop} {s : Shared} {K : Frag}

/-- a def of the module, or a method (qual 'C.m'), entered: the frame is the next address; cells behind it -/
theorem call_fn {R : Result → Shared → Prop} {name qual : Str} {params : Arguments} {body : List Stmt} {scope : Scope} {dV kV doc pm cdv ct oc : Value} {an od : Option Addr} {osl : Array (Option Value)} {f : Addr} {args : Args} {binds : List (Str × Value)}
    (X : K.In s.heap) (hlim : s.heap.NoLimit) (ho : K.lookup f = some ⟨oc, od, .func (fnOf name qual params body scope dV kV doc pm an cdv ct), osl⟩) (hcd : codeIn K cdv qual = true) (hroom : A.depth < recursionLimit)
    (hbind : BindsTo s (fnOf name qual params body scope dV kV doc pm an cdv ct) args binds)
    (hkind : (binds.all fun y => scope.names.lookup y.1 == some .local || scope.names.lookup y.1 == some .cell) = true)
    (h : ∀ s₁, InCallC s s.heap.objs.size (bindL (envOfC qual scope s.heap.objs.size f cdv).kindOf binds fun _ => none) (cellsFrom (s.heap.objs.size + 1) scope.names [])
        (bindC (envOfC qual scope s.heap.objs.size f cdv).kindOf binds fun _ => none) s₁ →
      wpAny (model prog w) (A.deeper (envOfC qual scope s.heap.objs.size f cdv)) (execs body (envOfC qual scope s.heap.objs.size f cdv))
        (fun fl s' => R (.ok (.ret (match fl with | .ret v => v | _ => .none))) s')
        (fun e s' => wpAny (model prog w) (A.deeper (envOfC qual scope s.heap.objs.size f cdv)) (leaving (envOfC qual scope s.heap.objs.size f cdv) e) (fun _ s'' => R (.error e) s'') (fun e' s'' => R (.error e') s'') s') s₁)
    (hco : scope.isCoroutine = false) (hgen : scope.isGenerator = false) (hk : scope.kind = .function) : codeAny (model prog w) A (.call (.ref f) args) R s := by
  refine codeAny_call_function hroom (X _ _ ho) rfl hco hgen rfl (codeRec_of X hcd) (hbind _ _ _ _ ?_)
  refine wpAny_newFunctionEnv_cells hk (kindsX hkind _) fun env he s₁ x => ?_
  subst he
  exact ⟨hlim.keeps x.toInCall.keep, codeAny_func (h s₁ x)⟩

/-- C(..): dict at size, instance at size + 1, then __init__ -/
theorem make_obj {R : Result → Shared → Prop} {C fI : Addr} {rest : List Value} {kw : List (Str × Value)}
    (X : K.In s.heap) (hm : makesIn K C = true) (hi : findIn K (.ref C) "__init__" = some (some (.ref fI))) (hf : isFn K (.ref fI) = true)
    (h : codeAny (model prog w) (A.under (.builtin "type.__call__" ⟨.ref C :: rest, kw⟩)) (.call (.ref fI) ⟨.ref (s.heap.objs.size + 1) :: rest, kw⟩) (InitBack (s.heap.objs.size + 1) R)
      { s with heap := (s.heap.push emptyDict).push (instObj C s.heap.objs.size) }) : codeAny (model prog w) A (.call (.ref C) ⟨rest, kw⟩) R s := by
  obtain ⟨hh, g, d, t, os⟩ := s
  exact make_core (makes_of X hm) (looks_findIn X hi) (fun self => bind_fn X self (beq_iff_eq.mp hf)) (.inl rfl) h

/-- x.name where the instance's dict holds the name and the class does not -/
theorem get_field {x C : Addr} {ox : Obj} {es : List DictEntry} {n : Nat} {name : Str} {expr : Bool} {v : Value} {Q : Value → Shared → Prop}
    (X : K.In s.heap) (I : PySem.W.InstAt s.heap x ox C (some (dictOf es n))) (hg : plainGet K C name = true) (hh : hasDictIn K C = true) (ha : findIn K (.ref C) name = some none)
    (hl : getL name es = some (some v)) (hv : handedIn v = true) (h : Q v { s with toks := s.toks + 1 }) : wpAny (model prog w) A (getAttr (.ref x) name expr) Q E s :=
  get_value X I (plainGet_of hg).1 (findObj_own hh ha rfl hl) hv h

/-- x.m(..): the method found in the class -/
theorem get_method {x C f : Addr} {ox : Obj} {es : List DictEntry} {n : Nat} {name : Str} {pl : Sem Bool} {Q : Value × List Value → Shared → Prop}
    (X : K.In s.heap) (I : PySem.W.InstAt s.heap x ox C (some (dictOf es n))) (hg : plainGet K C name = true) (hf : findIn K (.ref C) name = some (some (.ref f))) (ht : isFn K (.ref f) = true)
    (hl : getL name es = some none) (h : Q (.ref f, [.ref x]) s) : wpAny (model prog w) A (getMethod (.ref x) name pl) Q E s :=
  method_fn X I (plainGet_of hg).1 (plainGet_of hg).2 hf (beq_iff_eq.mp ht) (by show (lookIn name (dictOf es n)).map _ = _; rw [lookIn_dict, hl]; rfl) h

/-! the whole heap as the ledger: makes every rule that writes through a ledger a rule over any heap -/
def noObjs (h : Heap) : Heap := { h with objs := #[] }
theorem noObjs_get (h : Heap) (b : Addr) : (noObjs h).get? b = none := by
  cases e : (noObjs h).get? b with
  | none => rfl
  | some o => exact absurd (Heap.lt_size e) (Nat.not_lt_zero _)
def ledger (h : Heap) (L d : Addr) : List (Addr × Obj) := (List.range h.objs.size).filterMap fun a => if a = L ∨ a = d then none else (h.get? a).map fun o => (a, o)
theorem mem_ledger {h : Heap} {L d a : Addr} {o : Obj} : (a, o) ∈ ledger h L d ↔ a ≠ L ∧ a ≠ d ∧ h.get? a = some o := by
  unfold ledger
  rw [List.mem_filterMap]
  constructor
  · rintro ⟨b, _, e⟩
    split at e
    · cases e
    · rename_i hb
      obtain ⟨o', ho, e'⟩ := Option.map_eq_some_iff.mp e
      cases e'
      exact ⟨fun q => hb (.inl q), fun q => hb (.inr q), ho⟩
  · rintro ⟨n1, n2, ho⟩
    refine ⟨a, List.mem_range.mpr (Heap.lt_size ho), ?_⟩
    rw [if_neg (show ¬ (a = L ∨ a = d) from fun q => q.elim n1 n2), ho] <;> rfl
theorem news_ledger {h : Heap} {L d : Addr} {od : Obj} (hne : d ≠ L) (ho : h.get? d = some od) : News (noObjs h) L h ([] ++ (d, od) :: ledger h L d) := by
  rintro ⟨a, o⟩ hp
  rcases List.mem_cons.mp hp with e | hp
  · cases e
    exact ⟨ho, hne, noObjs_get _ _⟩
  · obtain ⟨n1, n2, e⟩ := mem_ledger.mp hp
    exact ⟨e, n1, noObjs_get _ _⟩
theorem fr_all {h : Heap} {L : Addr} {m : Str → Option Value} (n : h.Ns L m) : Fr (noObjs h) L h m :=
  ⟨n, fun b o e => (by rw [noObjs_get] at e; cases e), Nat.zero_le _⟩
/-- Upd of the head entry (for append_K, setItem_K ..) -/
theorem upd_ledger {h : Heap} {L d : Addr} {o o' : Obj} : Upd d o o' ((d, o) :: ledger h L d) ((d, o') :: ledger h L d) :=
  .head fun ⟨_, _⟩ hp => (mem_ledger.mp hp).2.1

/-- x.name = v over any heap: L is any namespace of the heap (the frame's, say): its map stays, its object is not told; all else but the dict stays -/
theorem set_field {x C dx L : Addr} {ox : Obj} {m : Str → Option Value} {es es' : List DictEntry} {n n' : Nat} {name : Str} {v : Value} {Q : Unit → Shared → Prop}
    (X : K.In s.heap) (I : PySem.W.InstAt s.heap x ox C (some (dictOf es n))) (hd : ox.dict = some dx) (hL : s.heap.Ns L m) (hne : dx ≠ L)
    (hs : findIn K (.ref C) "__setattr__" = some (some (.builtin "object.__setattr__"))) (hp : plainOver K C = true) (ht : takerIn K C name = some none) (hh : hasDictIn K C = true) (hl : (getL name es).isSome = true)
    (e : (putL name (PyData.keyHash w.params name) (.str name (s.toks + 1)) v es, putN name es n) = (es', n')) (hz : es'.length ≤ 1000)
    (h : ∀ h' : Heap, h'.Ns L m → h'.get? dx = some (dictOf es' n') → (∀ b o, b ≠ dx → b ≠ L → s.heap.get? b = some o → h'.get? b = some o) → Q () { s with heap := h', toks := s.toks + 2 }) :
    wpAny (model prog w) A (setAttr (.ref x) name v) Q E s := by
  obtain ⟨e1, e2⟩ := Prod.mk.inj e
  have hdx : s.heap.get? dx = some (dictOf es n) := by
    have := I.dict
    rw [hd] at this
    exact this
  refine set_plain X I hs (osa_dict (s := { s with toks := s.toks + 1 }) (h₀ := noObjs s.heap) (L := L) (m := m) (od := dictOf es n) (od' := dictOf es' n') (es := es') (n := n') (pre := []) (post := ledger s.heap L dx)
    (fr_all hL) (news_ledger hne hdx) X I hd hp ht hh hl (fun _ q => nomatch q) (fun ⟨_, _⟩ q => (mem_ledger.mp q).2.1) (by rw [putName_dict, e1, e2]) rfl hz fun h' F' N' => ?_)
  exact h h' F'.ns (N'.get (List.Mem.head _)) fun b o n1 n2 ho => N'.get (List.Mem.tail _ (mem_ledger.mpr ⟨n2, n1, ho⟩))
end
end Att

namespace L2
open PySem PySem.Spec PyProof.Rows

theorem vals_ints : ∀ {vs : List Value} {ns : List Int}, IntsAre vs ns → Vals (ns.map V.int) vs
  | _, _, .nil => .nil
  | _, _, .cons n t h => .cons ⟨t, rfl⟩ (vals_ints h)

/-- nothing is tracked but the script, known to the object (or it is an object of the module) -/
def Only (H : Hp) : Prop := ∀ b, H b = none ∨ ∃ o xs, H b = some (.frz o (.lst xs))

/-- THE HEAD: the law's promise, at the heap behind the top. F, the promise of the law's def, may use that base is part of the heap (so K.In base, base.Ns mainGlobals mg stand in Mod) -/
theorem law_call {P : Program} {w : World} {K : PySem.W.Frag} {mg mb : Str → Option Value} {CX : CXT} {k : Nat} {fa a : Addr} {fd : FuncData} {x : Str} {sp : Sp} {s₁ : Shared} {vs : List Value} {ns : List Int}
    (KX : K.In s₁.heap) (hns : s₁.heap.Ns mainGlobals mg) (hb : s₁.heap.Ns builtinsNs mb) (hbb : ∀ x : Str, x ≠ "__name__" → mb x = bootBuiltins x) (hlim : s₁.heap.NoLimit) (hg : s₁.gens = #[])
    (ha : s₁.heap.get? a = some { cls := .type "list", data := .seq vs.toArray }) (hi : IntsAre vs ns) (hl : ns.length ≤ sizeLine) (hr : Room k callerA)
    (F : ∀ base : Heap, K.In base → base.Ns mainGlobals mg → FnOk P w K mg base CX k fa fd [x] sp) (hbind : ∀ (s : Shared) (u : Value), BindsTo s fd ⟨[u], []⟩ [(x, u)])
    (hsp : ∀ H : Hp, Only H → SqL K H a (ns.map V.int) → sp [.ref a] H (fun v _ => v = .bl true) fun _ _ _ => False)
    (hCX : ∀ H e s', CX [] H s₁ (fun _ _ _ => False) e s' → False) :
    codeAny (model P w) callerA (.call (.ref fa) ⟨[.ref a], []⟩) (fun r s' => r = .ok (.ret (.bool true)) ∧ OldK s₁.heap s'.heap ∧ s'.os = s₁.os ∧ AllBare s'.gens) s₁ := by
  have rv := vals_ints hi
  have lenV := hi.length
  -- from an abstract heap in which nothing but the script may be tracked
  have core : ∀ H : Hp, Only H → SqL K H a (ns.map V.int) → HOk P w H s₁.heap → (∀ b, H b ≠ none → b = a) → (H a ≠ none → K.lookup a = none) →
      codeAny (model P w) callerA (.call (.ref fa) ⟨[.ref a], []⟩) (fun r s' => r = .ok (.ret (.bool true)) ∧ OldK s₁.heap s'.heap ∧ s'.os = s₁.os ∧ AllBare s'.gens) s₁ := by
    intro H hO hS hok hA hK
    have base_of : ∀ {b : Addr} {o : Obj}, s₁.heap.get? b = some o → H b = none → (hidT s₁.heap H).get? b = some o := fun e n => hidT_get e n
    have noA : ∀ {b : Addr} {o : Obj} {es : Array DictEntry} {ep : Nat}, s₁.heap.get? b = some o → o.data = .dict es ep → H b = none := fun {b o es ep} e d => by
      cases q : H b with
      | none => rfl
      | some u =>
        have e' : b = a := hA b (by rw [q]; simp)
        subst e'
        rw [ha] at e; cases e
        have d' : Data.seq vs.toArray _ = Data.dict es ep := d
        cases d'
    have nsK : ∀ {b : Addr} {m : Str → Option Value}, s₁.heap.Ns b m → (hidT s₁.heap H).Ns b m := fun {b m} ⟨o, es, ep, e, d, r⟩ => ⟨o, es, ep, base_of e (noA e d), d, r⟩
    have hKb : K.In (hidT s₁.heap H) := fun b o e => base_of (KX b o e) (by
      cases q : H b with
      | none => rfl
      | some u =>
        have e' : b = a := hA b (by rw [q]; simp)
        subst e'
        rw [hK (by rw [q]; simp)] at e; cases e)
    have hM : Mod K mg (hidT s₁.heap H) := ⟨hKb, nsK hns, ⟨mb, nsK hb, hbb⟩, let ⟨mc, h1, h2⟩ := hlim; ⟨mc, nsK h1, h2⟩⟩
    have e0 : Env0 P w K mg (hidT s₁.heap H) callerA [] s₁ H := ⟨rfl, hM, fun b o e => of_hidT e, Nat.le_of_eq (hidT_size _ _), trivial, fun b hb => absurd (show b ∈ ([] : List Addr) from hb) (by simp), hok, .of_eq hg⟩
    refine codeAny_mono ((F _ hKb (nsK hns)).run callerA [] s₁ H ⟨[.ref a], []⟩ [.ref a] [.ref a] _ _ hr e0 (hbind s₁ (.ref a)) (.cons rfl .nil) (hsp H hO hS)) fun r s' h => ?_
    cases r with
    | error e => exact (hCX H e s' h).elim
    | ok fl =>
      cases fl with
      | next => exact False.elim h
      | brk => exact False.elim h
      | cont => exact False.elim h
      | ret u =>
        obtain ⟨v, H', os, bare, un, hok', r', q⟩ := h
        have q' : v = .bl true := q
        subst q'
        obtain rfl : u = Value.bool true := r'
        refine ⟨rfl, OldK.of_keep fun b o e => ?_, os, bare⟩
        cases q : H b with
        | none => exact un.keep b o e q (by intro z; exact absurd (show b ∈ ([] : List Addr) from z) (by simp)) (by simp)
        | some u =>
          rcases hO b with z | ⟨ob, xs, z⟩
          · rw [q] at z; cases z
          · have z2 := un.frzs b ob _ z
            obtain ⟨e1, _⟩ := hok b _ z
            obtain ⟨e2, _⟩ := hok' b _ z2
            rw [e] at e1; cases e1
            exact e2
  cases hk : K.lookup a with
  | some o =>
    -- the script is one of the module's own objects
    have e := KX a o hk
    rw [ha] at e
    cases e
    refine core (fun _ => none) (fun _ => .inl rfl) (.inr ⟨_, vs.toArray, _, hk, rfl, rfl, rfl, by rw [List.size_toArray, lenV]; exact hl, by simpa using rv⟩) (fun b u z => by have z' : (none : Option HO) = some u := z; cases z') (fun b z => absurd rfl z) fun z => absurd rfl z
  | none =>
    refine core (fun b => if b = a then some (.frz { cls := .type "list", data := .seq vs.toArray } (.lst (ns.map V.int))) else none) (fun b => ?_) (.inl (.inr ⟨{ cls := .type "list", data := .seq vs.toArray }, if_pos rfl⟩)) (fun b u z => ?_) (fun b z => ?_) fun _ => hk
    · by_cases hb : b = a
      · exact .inr ⟨_, _, if_pos hb⟩
      · exact .inl (if_neg hb)
    · by_cases hb : b = a
      · have z' := (if_pos hb).symm.trans z
        cases z'
        subst hb
        exact ⟨ha, by rw [List.length_map]; exact hl, vs, _, rv, ha⟩
      · have z' := (if_neg hb).symm.trans z
        cases z'
    · by_cases hb : b = a
      · exact hb
      · exact absurd (if_neg hb) z
end L2

namespace L2
open PySem PySem.Spec PyProof.Rows

abbrev KOf {K : PySem.W.Frag} {h : Heap} (_ : K.In h) : PySem.W.Frag := K

/-- the goal that k_head leaves (case hc), from the law's promise. F gives the function object fd (K's own) once, then the promise over every base -/
theorem walk_of {l : PySem.W.OpenLaw} {n k : Nat} {q : Program} {loose : List Str} {XP : (Str → Option Value) → Heap → Prop} {YP : World → Heap → Prop} {d : DefRec} {K : Params → PySem.W.Frag} {CX : World → CXT} {sp : World → Sp} {x : Str}
    (hn : l.most = some n) (hn2 : n ≤ sizeLine) (hdf : d.params.defaults = []) (hr : Room k callerA)
    (hY : ∀ (w : World) (h : Heap), YP w h → (K w.params).In h)
    (F : ∀ (w : World) (mg : Str → Option Value) (fa : Addr) (h : Heap), (K w.params).In h → h.Ns mainGlobals mg → mg d.name = some (.ref fa) →
      ∃ fd : FuncData, (∀ (s : Shared) (u : Value), BindsTo s fd ⟨[u], []⟩ [(x, u)]) ∧
        ∀ base : Heap, (K w.params).In base → base.Ns mainGlobals mg → FnOk l.prog w (K w.params) mg base (CX w) k fa fd [x] (sp w))
    (hsp : ∀ (w : World) (H : Hp) (a : Addr) (ns : List Int), ns.length ≤ n → Only H → SqL (K w.params) H a (ns.map V.int) → sp w [.ref a] H (fun v _ => v = .bl true) fun _ _ _ => False)
    (hCX : ∀ (w : World) (H : Hp) (s : Shared) (e : Value) (s' : Shared), CX w [] H s (fun _ _ _ => False) e s' → False) :
    PySem.W.WalkO q loose XP YP l.row.toRowW d [] (fun f vs => PySem.call f vs) := by
  refine Att.attach_call hn hdf fun w s₀ s₁ mg mb fa o pm cd doc a vs ns G Y ho hd hcd hmg hobj hints hlen hg => ?_
  have KX := hY w _ Y
  obtain ⟨fd, hb, hF⟩ := F w mg fa _ KX G.T.g hmg
  exact law_call KX G.T.g G.T.b G.T.builtins G.T.nolimit hg hobj hints (Nat.le_trans hlen hn2) hr hF hb (fun H hO hS => hsp w H a ns hlen hO hS) fun H e s' => hCX w H s₁ e s'
/-- the same where the promise hangs on the written part alone: (sp := My.sp_law), no hole under a binder -/
theorem walk_ofK {l : PySem.W.OpenLaw} {n k : Nat} {q : Program} {loose : List Str} {XP : (Str → Option Value) → Heap → Prop} {YP : World → Heap → Prop} {d : DefRec} {K : Params → PySem.W.Frag} {CX : CXT} {sp : PySem.W.Frag → Sp} {x : Str}
    (hn : l.most = some n) (hn2 : n ≤ sizeLine) (hdf : d.params.defaults = []) (hr : Room k callerA)
    (hY : ∀ (w : World) (h : Heap), YP w h → (K w.params).In h)
    (F : ∀ (w : World) (mg : Str → Option Value) (fa : Addr) (h : Heap), (K w.params).In h → h.Ns mainGlobals mg → mg d.name = some (.ref fa) →
      ∃ fd : FuncData, (∀ (s : Shared) (u : Value), BindsTo s fd ⟨[u], []⟩ [(x, u)]) ∧
        ∀ base : Heap, (K w.params).In base → base.Ns mainGlobals mg → FnOk l.prog w (K w.params) mg base CX k fa fd [x] (sp (K w.params)))
    (hsp : ∀ (K : PySem.W.Frag) (H : Hp) (a : Addr) (ns : List Int), ns.length ≤ n → Only H → SqL K H a (ns.map V.int) → sp K [.ref a] H (fun v _ => v = .bl true) fun _ _ _ => False)
    (hCX : ∀ (H : Hp) (s : Shared) (e : Value) (s' : Shared), CX [] H s (fun _ _ _ => False) e s' → False) :
    PySem.W.WalkO q loose XP YP l.row.toRowW d [] (fun f vs => PySem.call f vs) :=
  walk_of (K := K) (CX := fun _ => CX) (sp := fun w => sp (K w.params)) hn hn2 hdf hr hY F (fun w H a ns h1 h2 h3 => hsp (K w.params) H a ns h1 h2 h3) fun _ H s e s' => hCX H s e s'
end L2

/- THE LAST THEOREM (shape; LID, My.* are yours):
   My.Adr: a structure of the addresses that your layer names (classes, functions); My.Txt K t: a structure (Prop) of the equations over K;
   My.txt_mk : {K} {implicit addresses ..} (e1 : nsIn K mainGlobals "law" = some (some (.ref f))) (e2 : K.lookup f = some ⟨oc, od, .func (fnOf "law" "law" params body scope dV kV doc pm an cdv ct), sl⟩) (e3 : codeIn K cdv "law" = true) .. : ∃ t, My.Txt K t

set_option maxRecDepth 100000 in
set_option maxHeartbeats 0 in
theorem PySem.Challenge.cw_LID_holds : PySem.Challenge.rw_LID.Holds := by
  w_on; o_law; k_head; (case hw => w_witness2)
  k_fill
  refine L2.walk_of (l := PySem.Challenge.rw_LID) (n := 63) (k := 40) (x := "script") (CX := fun w => ..) (sp := fun _ => My.sp_law) rfl (by decide) rfl ⟨rfl, by decide, by decide⟩ (fun w h Y => PySem.W.kIn_of Y) ?F ?S ?C
  case F =>
    intro w mg fa h KX G hmg
    have T : ∃ t, My.Txt (L2.KOf KX) t := by
      dsimp only [L2.KOf]                          -- K must stand as «<heap const> w.params» for k_is
      refine' My.txt_mk ?e1 ?e2 ?e3 ..
      (case e1 => PySem.W.k_is)                    -- in the order: a name -> its address -> its object -> its parts
      (case e2 => PySem.W.k_is)
      ..
    obtain ⟨t, T⟩ := T
    have e0 := hmg.symm.trans (PySem.W.mg_of KX G T.law)
    cases e0                                       -- fa is the law's own address
    exact ⟨_, fun s u => .of_eq rfl, fun base kb nb => My.law_fn T kb nb⟩     -- if «.of_eq rfl» comes too early: refine' ⟨_, ?b, fun base kb nb => My.law_fn T kb nb⟩; exact fun s u => .of_eq rfl
  case S => exact fun w H a ns hl hO hS => ..
  case C => exact ..
(the tactic k_is has no namespace: write k_is) -/

/-! SHORT WORDS over the layer: a def of the text, its body, what a loop and a test want. -/
namespace L2
open PySem PySem.Spec PyProof.Rows

/-! ### the text by places -/
/-- the j-th statement of a class's body -/
def inClass (s : Stmt) (j : Nat) : Stmt := match s with
  | .ClassDef _ _ _ body _ _ _ _ _ _ _ => body.getD j (.Pass ⟨0, 0, 0, 0⟩)
  | _ => .Pass ⟨0, 0, 0, 0⟩
def defArgs (s : Stmt) : Arguments := match s with
  | .FunctionDef _ a _ _ _ _ _ _ _ _ => a
  | _ => { posonlyargs := [], args := [], vararg := none, kwonlyargs := [], kw_defaults := [], kwarg := none, defaults := [] }
def defBody (s : Stmt) : List Stmt := match s with
  | .FunctionDef _ _ b _ _ _ _ _ _ _ => b
  | _ => []
def defScope (s : Stmt) : Scope := match s with
  | .FunctionDef _ _ _ _ _ _ sc _ _ _ => sc
  | _ => { kind := .function, names := [], isGenerator := false, isCoroutine := false }

/-! ### no exception leaves a def -/
abbrev CX0 : CXT := fun _ _ _ _ _ _ => False
abbrev E0 : XK := fun _ _ _ => False
theorem pass0 {X : Cx} : Passes CX0 X E0 := fun _ _ _ _ _ _ _ h => h.elim

/-! ### a def (or method) of the text as it stands behind the top -/
structure Fun (K : PySem.W.Frag) (x qual : Str) (st : Stmt) (f : Addr) (fd : FuncData) : Prop where
  ex : ∃ (oc : Value) (od : Option Addr) (kV doc pm : Value) (an : Option Addr) (cdv ct : Value) (osl : Array (Option Value)),
    fd = PySem.W.fnOf x qual (defArgs st) (defBody st) (defScope st) .none kV doc pm an cdv ct ∧ K.lookup f = some ⟨oc, od, .func fd, osl⟩ ∧ PySem.W.codeIn K cdv qual = true
  kp : PySem.W.keepIn K (.ref f) = true
section
variable {P : Program} {w : World} {K : PySem.W.Frag} {mg : Str → Option Value} {base : Heap}
/-- THE RULE for a def: its body as a term of rules, and the reading of that term -/
theorem Fun.ok {x qual : Str} {st : Stmt} {f : Addr} {fd : FuncData} {N ps : List Str} {k : Nat} {sp : Sp} (F : Fun K x qual st f fd) (S : FnScope N ps (defScope st)) (len : ∀ vs H Q E, sp vs H Q E → vs.length = ps.length)
    (hbody : ∀ (cdv : Value) (A : Around) (outer : List Env) (s : Shared) (H : Hp) (vs : List V) (Q : VK) (E : XK), Room k (A.deeper (envOfC qual (defScope st) s.heap.objs.size f cdv)) → sp vs H Q E →
      ∃ t, PSs (cxOf CX0 P w K mg base N qual (defScope st) f cdv A outer s H E).nox (defBody st) t ∧ t { nx := fun _ H' => Q .non H', rt := Q } (start N vs) H) : FnOk P w K mg base CX0 (k + 1) f fd ps sp := by
  obtain ⟨oc, od, kV, doc, pm, an, cdv, ct, osl, rfl, lk, hcd⟩ := F.ex
  refine fn_of lk hcd S len fun A outer s H vs Q E hr hsp => ?_
  obtain ⟨t, h, q⟩ := hbody cdv A outer s H vs Q E hr hsp
  exact ⟨t, h.nox, q⟩
/-- how its arguments bind (no defaults): h is «fun _ _ _ _ _ _ us hl => match us, hl with | [_, _], _ => rfl», one _ a parameter -/
theorem Fun.binds {x qual : Str} {st : Stmt} {f : Addr} {fd : FuncData} {ps : List Str} (F : Fun K x qual st f fd)
    (h : ∀ (kV doc pm : Value) (an : Option Addr) (cdv ct : Value) (us : List Value), us.length = ps.length → bindArgs (PySem.W.fnOf x qual (defArgs st) (defBody st) (defScope st) .none kV doc pm an cdv ct) ⟨us, []⟩ = pure (ps.zip us)) : Binds K fd ps [] := by
  obtain ⟨oc, od, kV, doc, pm, an, cdv, ct, osl, rfl, lk, hcd⟩ := F.ex
  exact .all (h kV doc pm an cdv ct)
theorem fun_mk {x qual : Str} {st : Stmt} {f : Addr} {oc : Value} {od an : Option Addr} {osl : Array (Option Value)} {kV doc pm cdv ct : Value} (l : K.lookup f = some ⟨oc, od, .func (PySem.W.fnOf x qual (defArgs st) (defBody st) (defScope st) .none kV doc pm an cdv ct), osl⟩)
    (c : PySem.W.codeIn K cdv qual = true) (k : PySem.W.keepIn K (.ref f) = true) : Fun K x qual st f (PySem.W.fnOf x qual (defArgs st) (defBody st) (defScope st) .none kV doc pm an cdv ct) := ⟨⟨oc, od, kV, doc, pm, an, cdv, ct, osl, rfl, l, c⟩, k⟩
end
theorem hu_of {A : Around} {k : Nat} (hr : Room k A) : A.units + 1 < cLine := Nat.lt_of_le_of_lt (Nat.add_le_add_left (by decide : 1 ≤ 64) _) hr.units
theorem small1000 {n : Nat} (h : n ≤ 1000) : n < sizeLine := Nat.lt_of_le_of_lt h (by decide)

/-! ### expressions in short: the name that stands in the i-th slot -/
section
variable {X : Cx}
theorem pv (i : Nat) {x : Str} {pos : Pos} (hN : X.N[i]? = some x := by rfl) (hv : Vis X.env.scope x := by first | exact Or.inl rfl | exact Or.inr (Or.inl rfl) | exact Or.inr (Or.inr rfl)) (hd : (x == ("__debug__" : Str)) = false := by decide)
    (hcd : (x == ("__classdict__" : Str)) = false := by decide) : PE X (.Name x pos) (tVar i) := pe_var hN hv hd hcd
end

/-! ### tests -/
theorem iteF {A B : Prop} (h : B) : if false = true then A else B := by
  rw [if_neg Bool.false_ne_true]
  exact h
theorem iteT {A B : Prop} (h : A) : if true = true then A else B := by
  rw [if_pos rfl]
  exact h
theorem ite2 {c A B : Prop} [Decidable c] (h1 : c → A) (h2 : ¬ c → B) : if c then A else B := by
  by_cases h : c
  · rw [if_pos h]
    exact h1 h
  · rw [if_neg h]
    exact h2 h
theorem iteNS {c A B : Prop} [Decidable c] (hc : c) (h : B) : if (!decide c) = true then A else B := by
  rw [decide_eq_true hc]
  exact iteF h

/-! ### heaps -/
/-- all that was tracked is as it was -/
def Same (H H' : Hp) : Prop := ∀ b o, H b = some o → H' b = some o
theorem Same.refl (H : Hp) : Same H H := fun _ _ h => h
theorem Same.trans {H H1 H2 : Hp} (a : Same H H1) (b : Same H1 H2) : Same H H2 := fun c o h => b c o (a c o h)
theorem Same.free {H H' : Hp} (e : Same H H') {l : Addr} (h : H' l = Option.none) : H l = Option.none := by
  cases q : H l with
  | none => rfl
  | some o =>
    rw [e l o q] at h
    cases h
theorem Same.seq {K : PySem.W.Frag} {H H' : Hp} {a : Addr} {xs : List V} (e : Same H H') (h : SqL K H a xs) : SqL K H' a xs := by
  rcases h with (h | ⟨o, h⟩) | h
  · exact .inl (.inl (e _ _ h))
  · exact .inl (.inr ⟨o, e _ _ h⟩)
  · exact .inr h

end L2
namespace L2
open PySem PySem.Spec PyProof.Rows

/-! ### defs by name: what the text holds, what is promised -/
structure Dn (P : Program) (w : World) (K : PySem.W.Frag) (mg : Str → Option Value) (base : Heap) (k : Nat) (x : Str) (ps : List Str) (sp : Sp) : Prop where
  ex : ∃ (f : Addr) (fd : FuncData), FnOk P w K mg base CX0 k f fd ps sp ∧ Binds K fd ps [] ∧ PySem.W.keepIn K (.ref f) = true ∧ mg x = some (.ref f)
theorem Dn.mono {P : Program} {w : World} {K : PySem.W.Frag} {mg : Str → Option Value} {base : Heap} {j k : Nat} {x : Str} {ps : List Str} {sp : Sp} (D : Dn P w K mg base j x ps sp) (h : j ≤ k) : Dn P w K mg base k x ps sp := by
  obtain ⟨f, fd, a, b, c, d⟩ := D.ex
  exact ⟨f, fd, a.mono h, b, c, d⟩
theorem Dn.imp {P : Program} {w : World} {K : PySem.W.Frag} {mg : Str → Option Value} {base : Heap} {k : Nat} {x : Str} {ps : List Str} {sp sp' : Sp} (D : Dn P w K mg base k x ps sp) (h : ∀ vs H Q E, sp' vs H Q E → sp vs H Q E) : Dn P w K mg base k x ps sp' := by
  obtain ⟨f, fd, a, b, c, d⟩ := D.ex
  exact ⟨f, fd, a.imp h, b, c, d⟩
/-- no starred argument -/
def unst (e : Expr) : Bool := match e with
  | .Starred _ _ => false
  | _ => true
theorem star_un {e : Expr} {es : List Expr} {env : Env} (h : unst e = true) : starEach (e :: es) env = (false, eval e env) :: starEach es env := by
  cases e <;> first | rfl | cases h
theorem star_any {env : Env} {pos : Pos} : ∀ {es : List Expr}, es.all unst = true → (backTo pos (starEach es env)).any (·.1) = false
  | [], _ => rfl
  | e :: es, h => by
    rw [List.all_cons, Bool.and_eq_true] at h
    rw [star_un h.1]
    show (false || (backTo pos (starEach es env)).any (·.1)) = false
    rw [star_any h.2]
    rfl
theorem star_all {env : Env} {pos : Pos} : ∀ {es : List Expr}, es.all unst = true → (backTo pos (starEach es env)).all (fun x => !x.1) = true
  | [], _ => rfl
  | e :: es, h => by
    rw [List.all_cons, Bool.and_eq_true] at h
    rw [star_un h.1]
    show (true && (backTo pos (starEach es env)).all (fun x => !x.1)) = true
    rw [star_all h.2]
    rfl
theorem all_tl {e : Expr} {es : List Expr} (h : (e :: es).all unst = true) : es.all unst = true := by
  rw [List.all_cons, Bool.and_eq_true] at h; exact h.2
theorem all_hd {e : Expr} {es : List Expr} (h : (e :: es).all unst = true) : unst e = true := by
  rw [List.all_cons, Bool.and_eq_true] at h; exact h.1
theorem pa_u {X : Cx} {e : Expr} {es : List Expr} {te : TE} {t : TA} (ha : PE X e te) (hr : PA X es t) (h : unst e = true := by rfl) : PA X (e :: es) (tCons te t) := pa_cons ha hr (star_un h)
theorem pe_callBu {X : Cx} {x : Str} {p pos : Pos} {e : Expr} {es : List Expr} {t : TA} {id : String} {r : List V → Hp → VK → Prop} (hc : CallR X (.builtin id) r) (hg : Gl X x) (hm : X.mg x = none) (hv : bootBuiltins x = some (.builtin id)) (ha : PA X (e :: es) t)
    (h : (e :: es).all unst = true := by rfl) (hn : x ≠ "__name__" := by decide) (hdb : (x == ("__debug__" : Str)) = false := by decide) : PE X (.Call (.Name x p) (e :: es) [] pos) (tCB r t) :=
  pe_callB hc hg hm hv ha hn hdb (star_un (all_hd h)) (star_any (all_tl h))
theorem pe_callTu {X : Cx} {x : Str} {p pos : Pos} {e : Expr} {es : List Expr} {t : TA} {T : String} {r : List V → Hp → VK → Prop} (hc : CallR X (.type T) r) (hg : Gl X x) (hm : X.mg x = none) (hv : bootBuiltins x = some (.type T)) (ha : PA X (e :: es) t)
    (h : (e :: es).all unst = true := by rfl) (hn : x ≠ "__name__" := by decide) (hdb : (x == ("__debug__" : Str)) = false := by decide) : PE X (.Call (.Name x p) (e :: es) [] pos) (tCB r t) :=
  pe_callTy hc hg hm hv ha hn hdb (star_un (all_hd h)) (star_any (all_tl h))
theorem pe_callD {X : Cx} {k : Nat} {x : Str} {ps : List Str} {sp : Sp} {e : Expr} {es : List Expr} {t : TA} {p pos : Pos} (D : Dn X.prog X.w X.K X.mg X.base k x ps sp) (hr : Room k X.A) (hg : Gl X x)
    (ha : PA X (e :: es) t) (h : (e :: es).all unst = true := by rfl) (hdb : (x == ("__debug__" : Str)) = false := by decide) :
    PE X (.Call (.Name x p) (e :: es) [] pos) (tCall sp [] E0 t) := by
  obtain ⟨f, fd, a, b, c, d⟩ := D.ex
  exact pe_call a hr hg d c b .nil pass0 ha hdb (star_un (all_hd h)) (star_any (all_tl h))
structure Df (K : PySem.W.Frag) (mg : Str → Option Value) (x : Str) (st : Stmt) (ps : List Str) : Prop where
  ex : ∃ (f : Addr) (fd : FuncData), Fun K x x st f fd ∧ Binds K fd ps [] ∧ mg x = some (.ref f)
theorem Df.ok {P : Program} {w : World} {K : PySem.W.Frag} {mg : Str → Option Value} {base : Heap} {x : Str} {st : Stmt} {N ps : List Str} {k : Nat} {sp : Sp} (F : Df K mg x st ps) (S : FnScope N ps (defScope st))
    (len : ∀ vs H Q E, sp vs H Q E → vs.length = ps.length)
    (hbody : ∀ (f : Addr) (cdv : Value) (A : Around) (outer : List Env) (s : Shared) (H : Hp) (vs : List V) (Q : VK) (E : XK), Room k (A.deeper (envOfC x (defScope st) s.heap.objs.size f cdv)) → sp vs H Q E →
      ∃ (t : TS) (σ : St), PSs (cxOf CX0 P w K mg base N x (defScope st) f cdv A outer s H E).nox (defBody st) t ∧ start N vs = σ ∧ t { nx := fun _ H' => Q .non H', rt := Q } σ H) : Dn P w K mg base (k + 1) x ps sp := by
  obtain ⟨f, fd, F1, b, m⟩ := F.ex
  refine ⟨f, fd, F1.ok S len fun cdv A outer s H vs Q E hr h => ?_, b, F1.kp, m⟩
  obtain ⟨t, σ, h1, rfl, h2⟩ := hbody f cdv A outer s H vs Q E hr h
  exact ⟨t, h1, h2⟩

/-! ### globals -/
structure Gc (mg : Str → Option Value) (x : Str) (v : V) : Prop where
  ex : ∃ u, mg x = some u ∧ RelV v u
theorem pe_gc {X : Cx} {x : Str} {v : V} {pos : Pos} (h : Gc X.mg x v) (hg : Gl X x) (hd : (x == ("__debug__" : Str)) = false := by decide) : PE X (.Name x pos) (tC v) := by
  obtain ⟨u, a, b⟩ := h.ex
  exact pe_glob hg a b hd

/-! ### data in the abstract heap -/
mutual
/-- the value v bears the datum d; no list of it lies at t -/
def Dt (K : PySem.W.Frag) (t : Addr) (H : Hp) : PyData → V → Prop
  | .none, v => v = .non
  | .bool b, v => v = .bl b
  | .int i, v => v = .int i
  | .str x, v => v = .str x ∧ PyData.strOk x = true
  | .tuple ds, v => ∃ a xs, v = .ref a ∧ SqT K H a xs ∧ DtL K t H ds xs
  | .list ds, v => ∃ a xs, v = .ref a ∧ a ≠ t ∧ SqL K H a xs ∧ DtL K t H ds xs
  | .dict _, _ => False
def DtL (K : PySem.W.Frag) (t : Addr) (H : Hp) : List PyData → List V → Prop
  | [], vs => vs = []
  | d :: ds, vs => ∃ v r, vs = v :: r ∧ Dt K t H d v ∧ DtL K t H ds r
end
mutual
theorem Dt.lay {K : PySem.W.Frag} {t : Addr} {H : Hp} : ∀ (d : PyData) (v : V), Dt K t H d v → d.canLay0 = true
  | .none, _, _ => by simp [PyData.canLay0]
  | .bool _, _, _ => by simp [PyData.canLay0]
  | .int _, _, _ => by simp [PyData.canLay0]
  | .str x, _, h => by
    simp only [Dt] at h
    simpa [PyData.canLay0] using h.2
  | .tuple ds, v, h => by
    simp only [Dt] at h
    obtain ⟨a, xs, _, _, q⟩ := h
    simpa [PyData.canLay0] using DtL.lay ds xs q
  | .list ds, v, h => by
    simp only [Dt] at h
    obtain ⟨a, xs, _, _, _, q⟩ := h
    simpa [PyData.canLay0] using DtL.lay ds xs q
  | .dict _, _, h => by simp [Dt] at h
theorem DtL.lay {K : PySem.W.Frag} {t : Addr} {H : Hp} : ∀ (ds : List PyData) (vs : List V), DtL K t H ds vs → PyData.canLayAll0 ds = true
  | [], _, _ => by simp [PyData.canLayAll0]
  | d :: ds, vs, h => by
    simp only [DtL] at h
    obtain ⟨v, r, _, h1, h2⟩ := h
    simp [PyData.canLayAll0, Dt.lay d v h1, DtL.lay ds r h2]
end
mutual
theorem Dt.reads {X : Cx} {pins : List (Addr × Obj)} {σ : St} {H : Hp} {s : Shared} {t : Addr} (I : Inv X pins σ H s) : ∀ (d : PyData) (v : V) (u : Value), Dt X.K t H d v → RelV v u → ∃ as, Reads s.heap u d as
  | .none, v, u, h, r => by simp only [Dt] at h; subst h; cases r; exact ⟨_, .none⟩
  | .bool b, v, u, h, r => by simp only [Dt] at h; subst h; cases r; exact ⟨_, .bool b⟩
  | .int i, v, u, h, r => by simp only [Dt] at h; subst h; obtain ⟨tk, rfl⟩ := r; exact ⟨_, .int i tk⟩
  | .str x, v, u, h, r => by simp only [Dt] at h; obtain ⟨h, _⟩ := h; subst h; obtain ⟨tk, rfl⟩ := r; exact ⟨_, .str x tk⟩
  | .tuple ds, v, u, h, r => by
    simp only [Dt] at h
    obtain ⟨a, xs, rfl, hs, q⟩ := h
    cases r
    obtain ⟨its, rv, ⟨o, ho, hc, n, hd⟩, _⟩ := I.tuple hs
    obtain ⟨as, ra⟩ := DtL.reads I ds xs its q rv
    exact ⟨as, .tuple ho hc hd (by simpa using ra)⟩
  | .list ds, v, u, h, r => by
    simp only [Dt] at h
    obtain ⟨a, xs, rfl, _, hs, q⟩ := h
    cases r
    obtain ⟨its, rv, ⟨o, n, ho, hc, _, hd⟩, _⟩ := I.list hs
    obtain ⟨as, ra⟩ := DtL.reads I ds xs its q rv
    exact ⟨_, .list ho hc hd (by simpa using ra)⟩
  | .dict _, _, _, h, _ => by simp [Dt] at h
theorem DtL.reads {X : Cx} {pins : List (Addr × Obj)} {σ : St} {H : Hp} {s : Shared} {t : Addr} (I : Inv X pins σ H s) : ∀ (ds : List PyData) (vs : List V) (us : List Value), DtL X.K t H ds vs → Vals vs us → ∃ as, ReadsAll s.heap us ds as
  | [], vs, us, h, r => by simp only [DtL] at h; subst h; cases r; exact ⟨_, .nil⟩
  | d :: ds, vs, us, h, r => by
    simp only [DtL] at h
    obtain ⟨v, vr, rfl, h1, h2⟩ := h
    cases r with
    | cons r1 r2 =>
      obtain ⟨as, a1⟩ := Dt.reads I d v _ h1 r1
      obtain ⟨bs, a2⟩ := DtL.reads I ds vr _ h2 r2
      exact ⟨_, .cons a1 a2⟩
end

/-! ### == and != over data -/
def rEqD (K : PySem.W.Frag) (n : Bool) : R2 := fun x y H Q => ∃ t d e, Dt K t H d x ∧ Dt K t H e y ∧ min d.depth e.depth ≤ 100 ∧ Q (.bl (if n then !PyData.eqv d e else PyData.eqv d e)) H
theorem op_eqD {X : Cx} {k : Nat} (hr : Room k X.A) : OpR X (compareOp .Eq) (rEqD X.K false) := by
  intro pins s σ H x y v u Q I rx ry h
  obtain ⟨t, d, e, hd, he, hm, q⟩ := h
  obtain ⟨as, r1⟩ := Dt.reads I d x v hd rx
  obtain ⟨bs, r2⟩ := Dt.reads I e y u he ry
  exact PySem.SeqAt.compareEq_reads r1 r2 (Dt.lay d x hd) (Dt.lay e y he) (by have := hr.un; omega) ⟨.bl _, H, I, rfl, q⟩
theorem op_neD {X : Cx} {k : Nat} (hr : Room k X.A) : OpR X (compareOp .NotEq) (rEqD X.K true) := by
  intro pins s σ H x y v u Q I rx ry h
  obtain ⟨t, d, e, hd, he, hm, q⟩ := h
  obtain ⟨as, r1⟩ := Dt.reads I d x v hd rx
  obtain ⟨bs, r2⟩ := Dt.reads I e y u he ry
  exact PySem.SeqAt.compareNe_reads r1 r2 (Dt.lay d x hd) (Dt.lay e y he) (by have := hr.un; omega) ⟨.bl _, H, I, rfl, q⟩

/-! ### isinstance of data -/
def tyD : PyData → String
  | .none => "NoneType"
  | .bool _ => "bool"
  | .int _ => "int"
  | .str _ => "str"
  | .tuple _ => "tuple"
  | .list _ => "list"
  | .dict _ => "dict"
def isiD (d : PyData) (T : String) : Bool := match d with
  | .none => false
  | .bool _ => T == "bool" || T == "int"
  | .int _ => T == "int"
  | .str _ => T == "str"
  | .tuple _ => T == "tuple"
  | .list _ => T == "list"
  | .dict _ => T == "dict"
def isiTs : List String := ["int", "bool", "str", "tuple", "list"]
theorem kit_isi {K : PySem.W.Frag} (d : PyData) {T : String} (h : T ∈ isiTs) : PySem.W.kitOne K (.type (tyD d)) (.type T) = some (isiD d T) := by
  simp only [isiTs, List.mem_cons, List.not_mem_nil, or_false] at h
  rcases h with rfl | rfl | rfl | rfl | rfl <;> cases d <;> with_unfolding_all rfl
theorem isi_dt {X : Cx} {pins : List (Addr × Obj)} {σ : St} {H : Hp} {s : Shared} {A : Around} {E : Value → Shared → Prop} {Q : Value → Shared → Prop} {t : Addr} {d : PyData} {x : V} {u : Value} {T : String}
    (I : Inv X pins σ H s) (rx : RelV x u) (hd : Dt X.K t H d x) (hT : T ∈ isiTs) (h : ∀ tk, Q (.bool (isiD d T)) { s with toks := tk }) : wpAny (model X.prog X.w) A (call (.builtin "isinstance") [u, .type T]) Q E s := by
  have e := kit_isi (K := X.K) d hT
  cases d with
  | none => simp only [Dt] at hd; subst hd; cases rx; exact PySem.W.kia_one PySem.W.kitx_none I.kIn True.intro e (fun z => nomatch z) h
  | bool b => simp only [Dt] at hd; subst hd; cases rx; exact PySem.W.kia_one PySem.W.kitx_bool I.kIn True.intro e (fun z => nomatch z) h
  | int i => simp only [Dt] at hd; subst hd; obtain ⟨tk, rfl⟩ := rx; exact PySem.W.kia_one PySem.W.kitx_int I.kIn True.intro e (fun z => nomatch z) h
  | str y => simp only [Dt] at hd; obtain ⟨hd, _⟩ := hd; subst hd; obtain ⟨tk, rfl⟩ := rx; exact PySem.W.kia_one PySem.W.kitx_str I.kIn True.intro e (fun z => nomatch z) h
  | tuple ds =>
    simp only [Dt] at hd
    obtain ⟨a, xs, rfl, hs, _⟩ := hd
    cases rx
    obtain ⟨its, _, ⟨o, ho, hc, _⟩, _⟩ := I.tuple hs
    exact PySem.W.kia_one PySem.W.kitx_tuple I.kIn ⟨o, ho, hc⟩ e (fun z => nomatch z) h
  | list ds =>
    simp only [Dt] at hd
    obtain ⟨a, xs, rfl, _, hs, _⟩ := hd
    cases rx
    obtain ⟨its, _, ⟨o, n, ho, hc, _⟩, _⟩ := I.list hs
    exact PySem.W.kia_one PySem.W.kitx_list I.kIn ⟨o, ho, hc⟩ e (fun z => nomatch z) h
  | dict _ => simp [Dt] at hd
def rIsi (K : PySem.W.Frag) : List V → Hp → VK → Prop := fun xs H Q => ∃ x T t d, xs = [x, .ty T] ∧ T ∈ isiTs ∧ Dt K t H d x ∧ Q (.bl (isiD d T)) H
theorem call_isi {X : Cx} : CallR X (.builtin "isinstance") (rIsi X.K) := by
  intro pins s σ H xs us Q I r h
  obtain ⟨x, T, t, d, rfl, hT, hd, q⟩ := h
  cases r with
  | cons r1 r2 =>
    cases r2 with
    | cons r3 r4 =>
      cases r4
      cases r3
      exact isi_dt I r1 hd hT fun tk => ⟨.bl _, H, I.tok _, rfl, q⟩
theorem bt_isinstance : bootBuiltins "isinstance" = some (.builtin "isinstance") := by decide +kernel
theorem bt_max : bootBuiltins "max" = some (.builtin "max") := by decide +kernel
theorem bt_min : bootBuiltins "min" = some (.builtin "min") := by decide +kernel
theorem bt_list : bootBuiltins "list" = some (.type "list") := by decide +kernel
theorem bt_int : bootBuiltins "int" = some (.type "int") := by decide +kernel
theorem bt_bool : bootBuiltins "bool" = some (.type "bool") := by decide +kernel
theorem bt_str : bootBuiltins "str" = some (.type "str") := by decide +kernel
theorem bt_tuple : bootBuiltins "tuple" = some (.type "tuple") := by decide +kernel

/-! ### the heap but one list -/
/-- all but the list at t is as it was -/
def Ext (t : Addr) (H H' : Hp) : Prop := ∀ b o, (b = t → ∀ xs, o ≠ .lst xs) → H b = some o → H' b = some o
theorem Ext.refl {t : Addr} (H : Hp) : Ext t H H := fun _ _ _ h => h
theorem Ext.trans {t : Addr} {H H1 H2 : Hp} (a : Ext t H H1) (b : Ext t H1 H2) : Ext t H H2 := fun c o n h => b c o n (a c o n h)
theorem Ext.new {t p : Addr} {H : Hp} (h : H p = none) (o : HO) : Ext t H (upd H p o) := fun b u _ q => by rw [upd_ne (ne_of_none q h)]; exact q
theorem Ext.at {t : Addr} {H : Hp} {xs : List V} (h : H t = some (.lst xs)) (o : HO) : Ext t H (upd H t o) := fun b u n q => by
  by_cases e : b = t
  · subst e; rw [h] at q; cases q; exact absurd rfl (n rfl xs)
  · rw [upd_ne e]; exact q
theorem Same.ext {t : Addr} {H H' : Hp} (h : Same H H') : Ext t H H' := fun b o _ q => h b o q
theorem Ext.sqT {K : PySem.W.Frag} {t a : Addr} {H H' : Hp} {xs : List V} (e : Ext t H H') (h : SqT K H a xs) : SqT K H' a xs := by
  rcases h with (h | ⟨o, h⟩) | h
  · exact .inl (.inl (e _ _ (fun _ _ z => nomatch z) h))
  · exact .inl (.inr ⟨o, e _ _ (fun _ _ z => nomatch z) h⟩)
  · exact .inr h
theorem Ext.sqL {K : PySem.W.Frag} {t a : Addr} {H H' : Hp} {xs : List V} (e : Ext t H H') (hn : a ≠ t) (h : SqL K H a xs) : SqL K H' a xs := by
  rcases h with (h | ⟨o, h⟩) | h
  · exact .inl (.inl (e _ _ (fun z => absurd z hn) h))
  · exact .inl (.inr ⟨o, e _ _ (fun z => absurd z hn) h⟩)
  · exact .inr h
mutual
theorem Dt.ext {K : PySem.W.Frag} {t : Addr} {H H' : Hp} (e : Ext t H H') : ∀ (d : PyData) (v : V), Dt K t H d v → Dt K t H' d v
  | .none, _, h => by simp only [Dt] at h ⊢; exact h
  | .bool _, _, h => by simp only [Dt] at h ⊢; exact h
  | .int _, _, h => by simp only [Dt] at h ⊢; exact h
  | .str _, _, h => by simp only [Dt] at h ⊢; exact h
  | .tuple ds, v, h => by
    simp only [Dt] at h ⊢
    obtain ⟨a, xs, h1, h2, h3⟩ := h
    exact ⟨a, xs, h1, e.sqT h2, DtL.ext e ds xs h3⟩
  | .list ds, v, h => by
    simp only [Dt] at h ⊢
    obtain ⟨a, xs, h1, h2, h3, h4⟩ := h
    exact ⟨a, xs, h1, h2, e.sqL h2 h3, DtL.ext e ds xs h4⟩
  | .dict _, _, h => by simp [Dt] at h
theorem DtL.ext {K : PySem.W.Frag} {t : Addr} {H H' : Hp} (e : Ext t H H') : ∀ (ds : List PyData) (vs : List V), DtL K t H ds vs → DtL K t H' ds vs
  | [], _, h => by simp only [DtL] at h ⊢; exact h
  | d :: ds, vs, h => by
    simp only [DtL] at h ⊢
    obtain ⟨v, r, h1, h2, h3⟩ := h
    exact ⟨v, r, h1, Dt.ext e d v h2, DtL.ext e ds r h3⟩
end
theorem Dt.on {K : PySem.W.Frag} {t : Addr} {H H' : Hp} {d : PyData} {v : V} (h : Dt K t H d v) (e : Ext t H H') : Dt K t H' d v := Dt.ext e d v h
theorem DtL.on {K : PySem.W.Frag} {t : Addr} {H H' : Hp} {d : List PyData} {v : List V} (h : DtL K t H d v) (e : Ext t H H') : DtL K t H' d v := DtL.ext e d v h
section
variable {K : PySem.W.Frag} {t p : Addr} {H : Hp}
theorem Dt.non : Dt K t H .none .non := by simp [Dt]
theorem Dt.bl (b : Bool) : Dt K t H (.bool b) (.bl b) := by simp [Dt]
theorem Dt.int (i : Int) : Dt K t H (.int i) (.int i) := by simp [Dt]
theorem Dt.str {x : Str} (h : PyData.strOk x = true) : Dt K t H (.str x) (.str x) := by simp [Dt, h]
theorem DtL.nil : DtL K t H [] [] := by simp [DtL]
theorem DtL.cons {d : PyData} {v : V} {ds : List PyData} {vs : List V} (h : Dt K t H d v) (q : DtL K t H ds vs) : DtL K t H (d :: ds) (v :: vs) := by
  simp only [DtL]
  exact ⟨v, vs, rfl, h, q⟩
theorem Dt.tup {a : Addr} {xs : List V} {ds : List PyData} (h : SqT K H a xs) (q : DtL K t H ds xs) : Dt K t H (.tuple ds) (.ref a) := by
  simp only [Dt]
  exact ⟨a, xs, rfl, h, q⟩
theorem Dt.lst {a : Addr} {xs : List V} {ds : List PyData} (hn : a ≠ t) (h : SqL K H a xs) (q : DtL K t H ds xs) : Dt K t H (.list ds) (.ref a) := by
  simp only [Dt]
  exact ⟨a, xs, rfl, hn, h, q⟩
/-- a new tuple of data -/
theorem Dt.newT {xs : List V} {ds : List PyData} (hp : H p = none) (q : DtL K t H ds xs) : Dt K t (upd H p (.tup xs)) (.tuple ds) (.ref p) :=
  .tup (.of upd_same) (q.on (.new hp _))
theorem Dt.newL {xs : List V} {ds : List PyData} (hp : H p = none) (hn : p ≠ t) (q : DtL K t H ds xs) : Dt K t (upd H p (.lst xs)) (.list ds) (.ref p) :=
  .lst hn (.of upd_same) (q.on (.new hp _))
theorem Dt.tup_inv {ds : List PyData} {v : V} (h : Dt K t H (.tuple ds) v) : ∃ a xs, v = .ref a ∧ SqT K H a xs ∧ DtL K t H ds xs := by simpa only [Dt] using h
end

/-! ### the tape of a law: the script, the spot, what is left, the way -/
/-- the list at a, which is not the one at t -/
def ScL (K : PySem.W.Frag) (t : Addr) (H : Hp) (a : Addr) (xs : List V) : Prop := (a ≠ t ∧ SqL K H a xs) ∨ ∀ H', SqL K H' a xs
theorem ScL.sq {K : PySem.W.Frag} {t : Addr} {H : Hp} {a : Addr} {xs : List V} (h : ScL K t H a xs) : SqL K H a xs := h.elim (fun z => z.2) fun z => z H
theorem ScL.on {K : PySem.W.Frag} {t : Addr} {H H' : Hp} {a : Addr} {xs : List V} (h : ScL K t H a xs) (e : Ext t H H') : ScL K t H' a xs := h.elim (fun z => .inl ⟨z.1, e.sqL z.1 z.2⟩) .inr
theorem ScL.of {K : PySem.W.Frag} {t : Addr} {H : Hp} {a : Addr} {xs : List V} (h : SqL K H a xs) (hp : H t = none) (o : HO) : ScL K t (upd H t o) a xs := by
  rcases h with (h | ⟨u, h⟩) | h
  · exact .inl ⟨ne_of_none h hp, .inl (.inl (by rw [upd_ne (ne_of_none h hp)]; exact h))⟩
  · exact .inl ⟨ne_of_none h hp, .inl (.inr ⟨u, by rw [upd_ne (ne_of_none h hp)]; exact h⟩)⟩
  · exact .inr fun _ => .inr h
def Tape (K : PySem.W.Frag) (ns : List Int) (t : Addr) (H : Hp) : Prop :=
  ∃ (sc : Addr) (sp cr wy : Int), H t = some (.lst [.ref sc, .int sp, .int cr, .int wy]) ∧ ScL K t H sc (ns.map V.int)
/-- from H₀ on: the tape is one, all else stands -/
structure Cur (K : PySem.W.Frag) (ns : List Int) (t : Addr) (H₀ H : Hp) : Prop where
  tape : Tape K ns t H
  ext : Ext t H₀ H
section
variable {K : PySem.W.Frag} {ns : List Int} {t p : Addr} {H₀ H H' : Hp}
theorem Tape.cur (h : Tape K ns t H) : Cur K ns t H H := ⟨h, .refl H⟩
theorem Tape.ne (h : Tape K ns t H) (hp : H p = none) : p ≠ t := by
  obtain ⟨_, _, _, _, e, _⟩ := h
  exact (ne_of_none e hp).symm
theorem Tape.new (h : Tape K ns t H) (hp : H p = none) (o : HO) : Tape K ns t (upd H p o) := by
  have n := h.ne hp
  obtain ⟨sc, sp, cr, wy, e, l⟩ := h
  exact ⟨sc, sp, cr, wy, by rw [upd_ne n.symm]; exact e, l.on (.new hp o)⟩
theorem Tape.same (h : Tape K ns t H) (e : Same H H') : Tape K ns t H' := by
  obtain ⟨sc, sp, cr, wy, e1, l⟩ := h
  exact ⟨sc, sp, cr, wy, e _ _ e1, l.on e.ext⟩
theorem Cur.same (c : Cur K ns t H₀ H) (e : Same H H') : Cur K ns t H₀ H' := ⟨c.tape.same e, c.ext.trans e.ext⟩
theorem Cur.new (c : Cur K ns t H₀ H) (hp : H p = none) (o : HO) : Cur K ns t H₀ (upd H p o) := ⟨c.tape.new hp o, c.ext.trans (.new hp o)⟩
theorem Cur.then (c : Cur K ns t H₀ H) (d : Cur K ns t H H') : Cur K ns t H₀ H' := ⟨d.tape, c.ext.trans d.ext⟩
theorem Cur.ne (c : Cur K ns t H₀ H) (hp : H p = none) : p ≠ t := c.tape.ne hp
end
end L2
namespace L2
open PySem PySem.Spec PyProof.Rows
/-- nothing is asked, nothing is to be shown -/
theorem Df.void {P : Program} {w : World} {K : PySem.W.Frag} {mg : Str → Option Value} {base : Heap} {x : Str} {st : Stmt} {ps : List Str} {k : Nat} {sp : Sp} (F : Df K mg x st ps) (no : ∀ vs H Q E, ¬ sp vs H Q E) : Dn P w K mg base k x ps sp := by
  obtain ⟨f, fd, F1, b, m⟩ := F.ex
  exact ⟨f, fd, ⟨fun vs H Q E h => absurd h (no vs H Q E), fun A outer s H args us vs Q E _ _ _ _ h => absurd h (no vs H Q E)⟩, b, F1.kp, m⟩
end L2

namespace L2
open PySem PySem.Spec PyProof.Rows
theorem r_K {CX : CXT} {P : Program} {w : World} {K : PySem.W.Frag} {mg : Str → Option Value} {base : Heap} {N : List Str} {qual : Str} {scope : Scope} {f : Addr} {cd : Value} {A : Around} {outer : List Env} {s : Shared} {H : Hp} {E : XK} :
    (cxOf CX P w K mg base N qual scope f cd A outer s H E).K = K := rfl
def rLenS (K : PySem.W.Frag) : List V → Hp → VK → Prop := fun xs H Q => ∃ p ys, xs = [.ref p] ∧ (SqL K H p ys ∨ SqT K H p ys) ∧ Q (.int ys.length) H
theorem call_lenS {X : Cx} : CallR X (.builtin "len") (rLenS X.K) := call_len_seq
def rMin2 : List V → Hp → VK → Prop := fun xs H Q => ∃ i j, xs = [.int i, .int j] ∧ Q (.int (if j < i then j else i)) H
theorem call_minS {X : Cx} (hc : X.calm = true) : CallR X (.builtin "min") rMin2 := call_min2 hc
def rMax2 : List V → Hp → VK → Prop := fun xs H Q => ∃ i j, xs = [.int i, .int j] ∧ Q (.int (if j > i then j else i)) H
theorem call_maxS {X : Cx} (hc : X.calm = true) : CallR X (.builtin "max") rMax2 := call_max2 hc
def rIsNn (n : Bool) : R2 := fun x y H Q => y = .non ∧ Q (.bl (if n then !decide (x = .non) else decide (x = .non))) H
theorem op_isNS {X : Cx} : OpR X (compareOp .Is) (rIsNn false) := op_isN
theorem op_notNS {X : Cx} : OpR X (compareOp .IsNot) (rIsNn true) := op_notN
def rListOf (K : PySem.W.Frag) : List V → Hp → VK → Prop := fun xs H Q => ∃ p ys, xs = [.ref p] ∧ (SqL K H p ys ∨ SqT K H p ys) ∧ ∀ l, H l = none → Q (.ref l) (upd H l (.lst ys))
theorem call_listS {X : Cx} : CallR X (.type "list") (rListOf X.K) := call_list_of
end L2
namespace L2
open PySem PySem.Spec PyProof.Rows
/-- a statement and the rest, by what is said between them -/
def tCut (t u : TS) : TS := fun D σ H => ∃ M : St → Hp → Prop, t { D with nx := M } σ H ∧ ∀ σ' H', M σ' H' → u D σ' H'
theorem pss_cut {X : Cx} {st : Stmt} {rest : List Stmt} {t u : TS} (h1 : PS X st t) (h2 : PSs X rest u) : PSs X (st :: rest) (tCut t u) := by
  intro pins s σ H D I h
  obtain ⟨M, a, b⟩ := h
  refine wpAny_execs_cons (thn (h1 pins s σ H _ I a) fun f s1 q => ?_)
  cases f with
  | next => obtain ⟨σ1, H1, I1, q1⟩ := q; exact h2 pins s1 σ1 H1 D I1 (b _ _ q1)
  | brk => exact q
  | cont => exact q
  | ret v => exact q
theorem r_cut {D : Ends} {σ : St} {H : Hp} {t u : TS} (M : St → Hp → Prop) (a : ∀ M' : St → Hp → Prop, (∀ σ H, M σ H → M' σ H) → t { D with nx := M' } σ H) (b : ∀ σ' H', M σ' H' → u D σ' H') : tCut t u D σ H := ⟨M, a M fun _ _ h => h, b⟩
end L2
namespace L2
open PySem PySem.Spec PyProof.Rows
theorem Fun.okS {P : Program} {w : World} {K : PySem.W.Frag} {mg : Str → Option Value} {base : Heap} {x qual : Str} {st : Stmt} {f : Addr} {fd : FuncData} {N ps : List Str} {k : Nat} {sp : Sp} (F : Fun K x qual st f fd) (S : FnScope N ps (defScope st)) (len : ∀ vs H Q E, sp vs H Q E → vs.length = ps.length)
    (hbody : ∀ (cdv : Value) (A : Around) (outer : List Env) (s : Shared) (H : Hp) (vs : List V) (Q : VK) (E : XK), Room k (A.deeper (envOfC qual (defScope st) s.heap.objs.size f cdv)) → sp vs H Q E →
      ∃ (t : TS) (σ : St), PSs (cxOf CX0 P w K mg base N qual (defScope st) f cdv A outer s H E).nox (defBody st) t ∧ start N vs = σ ∧ t { nx := fun _ H' => Q .non H', rt := Q } σ H) : FnOk P w K mg base CX0 (k + 1) f fd ps sp :=
  F.ok S len fun cdv A outer s H vs Q E hr h => by
    obtain ⟨t, σ, h1, rfl, h2⟩ := hbody cdv A outer s H vs Q E hr h
    exact ⟨t, h1, h2⟩
end L2
namespace L2
open PySem PySem.Spec PyProof.Rows
/-! ### readings, one step: each only where it is applied to all its arguments -/
section
variable {D : Ends} {σ : St} {H : Hp} {K : PySem.W.Frag} {ta tb tc te : TE} {t u : TS} {tt uu : TT} {tr : TA} {g : TG} {Q : VK} {B : Bool → Hp → Prop} {L : List V → Hp → Prop} {x y v : V} {r r' : R2} {G : St → Hp → Prop} {S : Hp → Prop}
theorem r_seq : tSeq t u D σ H = t { D with nx := u D } σ H := rfl
theorem r_next : tNext D σ H = D.nx σ H := rfl
theorem r_asg : tAsg te g D σ H = te σ H fun x H1 => g x σ H1 D.nx := rfl
theorem r_ret : tRet te D σ H = te σ H D.rt := rfl
theorem r_retN : tRetN D σ H = D.rt .non H := rfl
theorem r_drop : tDrop te D σ H = te σ H fun _ H1 => D.nx σ H1 := rfl
theorem r_ifS : tIfS tt t u D σ H = tt σ H fun b H1 => if b = true then t D σ H1 else u D σ H1 := rfl
theorem r_name {i : Nat} : gName i v σ H G = G (σ.set i (some v)) H := rfl
theorem r_sub {ts : TSet} : gSub ta tb ts v σ H G = ta σ H fun o H1 => tb σ H1 fun i H2 => ts o i v H2 fun H3 => G σ H3 := rfl
theorem r_var {i : Nat} : tVar i σ H Q = ∃ v, σ[i]? = some (some v) ∧ Q v H := rfl
theorem r_c : tC v σ H Q = Q v H := rfl
theorem r_op : tOp r ta tb σ H Q = ta σ H fun x H1 => tb σ H1 fun y H2 => r x y H2 Q := rfl
theorem r_un {p : V → Hp → VK → Prop} : tUn p ta σ H Q = ta σ H fun x H1 => p x H1 Q := rfl
theorem r_test : tTest te σ H B = te σ H fun x H' => ∃ k, x = .bl k ∧ B k H' := rfl
theorem r_tB : tB te σ H B = te σ H fun x H' => ∃ k, x = .bl k ∧ B k H' := rfl
theorem r_and : tAnd tt uu σ H B = tt σ H fun c H1 => if c = true then uu σ H1 B else B false H1 := rfl
theorem r_or : tOr tt uu σ H B = tt σ H fun c H1 => if c = true then B true H1 else uu σ H1 B := rfl
theorem r_not : tNot tt σ H B = tt σ H fun c H1 => B (!c) H1 := rfl
theorem r_andV : tAndV ta tb σ H Q = ta σ H fun x H1 => ∃ c, x = .bl c ∧ if c = true then tb σ H1 Q else Q (.bl false) H1 := rfl
theorem r_orV : tOrV ta tb σ H Q = ta σ H fun x H1 => ∃ c, x = .bl c ∧ if c = true then Q (.bl true) H1 else tb σ H1 Q := rfl
theorem r_notV : tNotV ta σ H Q = ta σ H fun x H1 => ∃ c, x = .bl c ∧ Q (.bl (!c)) H1 := rfl
theorem r_ifE : tIf tt ta tb σ H Q = tt σ H fun c H1 => if c = true then ta σ H1 Q else tb σ H1 Q := rfl
theorem r_chain : tChain r r' ta tb tc σ H Q = ta σ H fun x H1 => tb σ H1 fun y H2 => r x y H2 fun z H3 => ∃ k, z = .bl k ∧ (if k = true then tc σ H3 fun w' H4 => r' y w' H4 Q else Q (.bl false) H3) := rfl
theorem r_nil : tNil σ H L = L [] H := rfl
theorem r_cons : tCons ta tr σ H L = ta σ H fun x H1 => tr σ H1 fun xs H2 => L (x :: xs) H2 := rfl
theorem r_tup : tTup tr σ H Q = tr σ H fun xs H1 => xs.length ≤ sizeLine ∧ ∀ p, H1 p = none → Q (.ref p) (upd H1 p (.tup xs)) := rfl
theorem r_lst : tLst tr σ H Q = tr σ H fun xs H1 => xs.length ≤ sizeLine ∧ ∀ p, H1 p = none → Q (.ref p) (upd H1 p (.lst xs)) := rfl
theorem r_call {sp : Sp} {dvs : List V} {E : XK} : tCall sp dvs E tr σ H Q = tr σ H fun vs H1 => sp (vs ++ dvs) H1 Q E := rfl
theorem r_cb {p : List V → Hp → VK → Prop} : tCB p tr σ H Q = tr σ H fun vs H1 => p vs H1 Q := rfl
theorem r_I {C : Int → Int → Prop} {f : Int → Int → V} {i j : Int} : rI C f (.int i) (.int j) H Q = (C i j ∧ Q (f i j) H) := by
  unfold rI
  exact propext ⟨fun ⟨a, b, h1, h2, h⟩ => by cases h1; cases h2; exact h, fun h => ⟨i, j, rfl, rfl, h⟩⟩
theorem r_I0 {f : Int → Int → V} {i j : Int} : rI0 f (.int i) (.int j) H Q = Q (f i j) H := by
  unfold rI0
  exact propext ⟨fun ⟨a, b, h1, h2, h⟩ => by cases h1; cases h2; exact h, fun h => ⟨i, j, rfl, rfl, h⟩⟩
theorem r_eqI {i j : Int} : rEq (.int i) (.int j) H Q = Q (.bl (decide (i = j))) H := by
  unfold rEq
  rw [show decide (V.int i = V.int j) = decide (i = j) from by simp]
  exact propext ⟨fun h => h.2, fun h => ⟨rfl, h⟩⟩
theorem r_neI {i j : Int} : rNe (.int i) (.int j) H Q = Q (.bl (!decide (i = j))) H := by
  unfold rNe
  rw [show decide (V.int i = V.int j) = decide (i = j) from by simp]
  exact propext ⟨fun h => h.2, fun h => ⟨rfl, h⟩⟩
theorem r_eqB {i j : Bool} : rEq (.bl i) (.bl j) H Q = Q (.bl (i == j)) H := by
  unfold rEq
  rw [dec_bl]
  exact propext ⟨fun h => h.2, fun h => ⟨rfl, h⟩⟩
theorem r_eqS {i j : Str} : rEq (.str i) (.str j) H Q = Q (.bl (decide (i = j))) H := by
  unfold rEq
  rw [show decide (V.str i = V.str j) = decide (i = j) from by simp]
  exact propext ⟨fun h => h.2, fun h => ⟨rfl, h⟩⟩
theorem r_neS {i j : Str} : rNe (.str i) (.str j) H Q = Q (.bl (!decide (i = j))) H := by
  unfold rNe
  rw [show decide (V.str i = V.str j) = decide (i = j) from by simp]
  exact propext ⟨fun h => h.2, fun h => ⟨rfl, h⟩⟩
theorem r_ixL {p : Addr} {i : Int} : rIxL K (.ref p) (.int i) H Q = ∃ xs, SqL K H p xs ∧ ∃ v, atI xs i = some v ∧ Q v H := by
  unfold rIxL
  exact propext ⟨fun ⟨a, xs, b, v, h1, h2, h3, h4, h⟩ => by cases h1; cases h2; exact ⟨xs, h3, v, h4, h⟩, fun ⟨xs, h3, v, h4, h⟩ => ⟨p, xs, i, v, rfl, rfl, h3, h4, h⟩⟩
theorem r_ixT {p : Addr} {i : Int} : rIxT K (.ref p) (.int i) H Q = ∃ xs, SqT K H p xs ∧ ∃ v, atI xs i = some v ∧ Q v H := by
  unfold rIxT
  exact propext ⟨fun ⟨a, xs, b, v, h1, h2, h3, h4, h⟩ => by cases h1; cases h2; exact ⟨xs, h3, v, h4, h⟩, fun ⟨xs, h3, v, h4, h⟩ => ⟨p, xs, i, v, rfl, rfl, h3, h4, h⟩⟩
theorem r_setL {p : Addr} {i : Int} : rSetL (.ref p) (.int i) v H S = ∃ xs, H p = some (.lst xs) ∧ ∃ j, ixN xs.length i = some j ∧ S (upd H p (.lst (xs.set j v))) := by
  unfold rSetL
  exact propext ⟨fun ⟨a, xs, b, j, h1, h2, h3, h4, h⟩ => by cases h1; cases h2; exact ⟨xs, h3, j, h4, h⟩, fun ⟨xs, h3, j, h4, h⟩ => ⟨p, xs, i, j, rfl, rfl, h3, h4, h⟩⟩
theorem r_slT {p : Addr} {lo hi : Option Int} : rSlT K (.ref p) lo hi H Q = ∃ xs, SqT K H p xs ∧ ¬ (HT.sIx xs.length 0 lo = 0 ∧ HT.sIx xs.length xs.length hi = xs.length) ∧ ∀ q, H q = none → Q (.ref q) (upd H q (.tup (cutV xs lo hi))) := by
  unfold rSlT
  exact propext ⟨fun ⟨a, xs, h1, h2, h⟩ => by cases h1; exact ⟨xs, h2, h⟩, fun ⟨xs, h2, h⟩ => ⟨p, xs, rfl, h2, h⟩⟩
theorem r_slL {p : Addr} {lo hi : Option Int} : rSlL K (.ref p) lo hi H Q = ∃ xs, SqL K H p xs ∧ ∀ q, H q = none → Q (.ref q) (upd H q (.lst (cutV xs lo hi))) := by
  unfold rSlL
  exact propext ⟨fun ⟨a, xs, h1, h2, h⟩ => by cases h1; exact ⟨xs, h2, h⟩, fun ⟨xs, h2, h⟩ => ⟨p, xs, rfl, h2, h⟩⟩
theorem r_sl {rs : V → Option Int → Option Int → Hp → VK → Prop} {tl th : TO} : tSl rs te tl th σ H Q = te σ H fun x H1 => tl σ H1 fun l H2 => th σ H2 fun u H3 => rs x l u H3 Q := rfl
theorem r_noP {O : Option Int → Hp → Prop} : tNoPart σ H O = O none H := rfl
theorem r_part {O : Option Int → Hp → Prop} : tPart te σ H O = te σ H fun x H1 => ∃ i, x = .int i ∧ O (some i) H1 := rfl
theorem r_bm {T : String} {rr : V → List V → Hp → VK → Prop} : tBM K T rr te tr σ H Q = te σ H fun x H1 => tyV K T x H1 ∧ tr σ H1 fun xs H2 => rr x xs H2 Q := rfl
/-- the loop's own part of a for -/
def ForR (g : TG) (t : TS) (D : Ends) (σ : St) (J : It) (H1 : Hp) : Prop := ∃ W : Nat → Nat → St → Hp → Prop, (∃ m, W 0 m σ H1) ∧ ∀ i m σ H, W i m σ H →
  (J.stop i H ∧ D.nx σ H) ∨ (J.go i H ∧ ∃ N : St → Hp → Prop, (∀ σ' H', N σ' H' → ∃ m', m' < m ∧ W (i + 1) m' σ' H') ∧ ∀ x H', J.yld i H x H' → g x σ H' fun σ2 H2 => t { D with nx := N, ct := N, bk := D.nx } σ2 H2)
theorem r_for {wi : TI} : tFor wi g t D σ H = wi σ H fun J H1 => ForR g t D σ J H1 := rfl
theorem r_rng1 {R : It → Hp → Prop} : iRng1 tr σ H R = tr σ H fun vs H1 => ∃ j : Int, vs = [.int j] ∧ -(2 ^ 62) ≤ j ∧ j < 2 ^ 62 ∧ R (Itr 0 j.toNat) H1 := rfl
theorem r_iL {R : It → Hp → Prop} : iList K te σ H R = te σ H fun x H1 => ∃ a, x = .ref a ∧ (∃ xs, SqL K H1 a xs) ∧ R (Itl K a) H1 := rfl
theorem r_iT {R : It → Hp → Prop} : iTup K te σ H R = te σ H fun x H1 => ∃ a, x = .ref a ∧ (∃ xs, SqT K H1 a xs) ∧ R (Itt K a) H1 := rfl
/-- a for over range(j), over a list, over a tuple: by a word -/
theorem rng_of {j : Int} (Pv : Nat → St → Hp → Prop) (h0 : Pv 0 σ H)
    (hs : ∀ (Pv' : Nat → St → Hp → Prop), (∀ i σ H, Pv i σ H → Pv' i σ H) → ∀ i σ H, i < j.toNat → Pv i σ H → g (.int (0 + i)) σ H fun σ2 H2 => t { D with nx := Pv' (i + 1), ct := Pv' (i + 1), bk := D.nx } σ2 H2) (hd : ∀ σ H, Pv j.toNat σ H → D.nx σ H) :
    ForR g t D σ (Itr 0 j.toNat) H := for_range Pv h0 (fun i σ H a b => hs Pv (fun _ _ _ z => z) i σ H a b) hd
theorem lst_of {a : Addr} {xs : List V} (Pv : Nat → St → Hp → Prop) (h0 : Pv 0 σ H) (hl : ∀ i σ H, i ≤ xs.length → Pv i σ H → SqL K H a xs)
    (hs : ∀ (Pv' : Nat → St → Hp → Prop), (∀ i σ H, Pv i σ H → Pv' i σ H) → ∀ i x σ H, xs[i]? = some x → Pv i σ H → g x σ H fun σ2 H2 => t { D with nx := Pv' (i + 1), ct := Pv' (i + 1), bk := D.nx } σ2 H2) (hd : ∀ σ H, Pv xs.length σ H → D.nx σ H) :
    ForR g t D σ (Itl K a) H := for_list Pv h0 hl (fun i x σ H a b => hs Pv (fun _ _ _ z => z) i x σ H a b) hd
theorem tup_of {a : Addr} {xs : List V} (Pv : Nat → St → Hp → Prop) (h0 : Pv 0 σ H) (hl : ∀ i σ H, i ≤ xs.length → Pv i σ H → SqT K H a xs)
    (hs : ∀ (Pv' : Nat → St → Hp → Prop), (∀ i σ H, Pv i σ H → Pv' i σ H) → ∀ i x σ H, xs[i]? = some x → Pv i σ H → g x σ H fun σ2 H2 => t { D with nx := Pv' (i + 1), ct := Pv' (i + 1), bk := D.nx } σ2 H2) (hd : ∀ σ H, Pv xs.length σ H → D.nx σ H) :
    ForR g t D σ (Itt K a) H := for_tup Pv h0 hl (fun i x σ H a b => hs Pv (fun _ _ _ z => z) i x σ H a b) hd
end
end L2
namespace L2
open PySem PySem.Spec PyProof.Rows
section
variable {K : PySem.W.Frag} {H : Hp} {t : Addr} {Q : VK} {E : XK} {x y : V} {d e : PyData}
theorem isi_of {T : String} (hd : Dt K t H d x) (h : Q (.bl (isiD d T)) H) (hT : T ∈ isiTs := by decide) : rIsi K [x, .ty T] H Q := ⟨x, T, t, d, rfl, hT, hd, h⟩
theorem eqD_of {n : Bool} (h1 : Dt K t H d x) (h2 : Dt K t H e y) (hm : min d.depth e.depth ≤ 100) (h : Q (.bl (if n then !PyData.eqv d e else PyData.eqv d e)) H) : rEqD K n x y H Q := ⟨t, d, e, h1, h2, hm, h⟩
theorem eqF_of (h1 : Dt K t H d x) (h2 : Dt K t H e y) (hm : min d.depth e.depth ≤ 100) (h : Q (.bl (PyData.eqv d e)) H) : rEqD K false x y H Q := ⟨t, d, e, h1, h2, hm, h⟩
theorem neD_of (h1 : Dt K t H d x) (h2 : Dt K t H e y) (hm : min d.depth e.depth ≤ 100) (h : Q (.bl (!PyData.eqv d e)) H) : rEqD K true x y H Q := ⟨t, d, e, h1, h2, hm, h⟩
theorem dstr (x : Str) (h : PyData.strOk x = true := by decide +kernel) : Dt K t H (.str x) (.str x) := .str h
theorem depR {d e : PyData} {n : Nat} (h : e.depth = n) (hn : n ≤ 100 := by decide) : min d.depth e.depth ≤ 100 := Nat.le_trans (Nat.min_le_right _ _) (by rw [h]; exact hn)
theorem len_of {p : Addr} {ys : List V} (h : SqL K H p ys) (q : Q (.int ys.length) H) : rLenS K [.ref p] H Q := ⟨p, ys, rfl, .inl h, q⟩
theorem lenT_of {p : Addr} {ys : List V} (h : SqT K H p ys) (q : Q (.int ys.length) H) : rLenS K [.ref p] H Q := ⟨p, ys, rfl, .inr h, q⟩
theorem listL_of {p : Addr} {ys : List V} (h : SqL K H p ys) (q : ∀ l, H l = none → Q (.ref l) (upd H l (.lst ys))) : rListOf K [.ref p] H Q := ⟨p, ys, rfl, .inl h, q⟩
theorem listT_of {p : Addr} {ys : List V} (h : SqT K H p ys) (q : ∀ l, H l = none → Q (.ref l) (upd H l (.lst ys))) : rListOf K [.ref p] H Q := ⟨p, ys, rfl, .inr h, q⟩
theorem catT_of {a b : Addr} {xs ys : List V} (h1 : SqT K H a xs) (h2 : SqT K H b ys) (n1 : xs ≠ []) (n2 : ys ≠ []) (hz : xs.length + ys.length ≤ sizeLine) (q : ∀ p, H p = none → Q (.ref p) (upd H p (.tup (xs ++ ys)))) : rCatT K (.ref a) (.ref b) H Q :=
  ⟨a, b, xs, ys, rfl, rfl, h1, h2, n1, hz, fun z => absurd z n2, fun _ => q⟩
theorem cat_of {a b : Addr} {xs ys : List V} (h1 : H a = some (.lst xs)) (h2 : H b = some (.lst ys)) (hz : xs.length + ys.length ≤ sizeLine) (q : ∀ p, H p = none → Q (.ref p) (upd H p (.lst (xs ++ ys)))) : rCat (.ref a) (.ref b) H Q :=
  ⟨a, b, xs, ys, rfl, rfl, h1, h2, hz, q⟩
theorem r_min2 {i j : Int} : rMin2 [.int i, .int j] H Q = Q (.int (if j < i then j else i)) H := by
  unfold rMin2
  exact propext ⟨fun ⟨a, b, h1, h⟩ => by cases h1; exact h, fun h => ⟨i, j, rfl, h⟩⟩
theorem r_max2 {i j : Int} : rMax2 [.int i, .int j] H Q = Q (.int (if j > i then j else i)) H := by
  unfold rMax2
  exact propext ⟨fun ⟨a, b, h1, h⟩ => by cases h1; exact h, fun h => ⟨i, j, rfl, h⟩⟩
theorem r_isNf : rIsNn false x .non H Q = Q (.bl (decide (x = .non))) H := propext ⟨fun h => h.2, fun h => ⟨rfl, h⟩⟩
theorem r_isNt : rIsNn true x .non H Q = Q (.bl (!decide (x = .non))) H := propext ⟨fun h => h.2, fun h => ⟨rfl, h⟩⟩
theorem DtL.get : ∀ {ds : List PyData} {xs : List V} {i : Nat} {d : PyData}, DtL K t H ds xs → ds[i]? = some d → ∃ v, xs[i]? = some v ∧ Dt K t H d v
  | [], _, _, _, _, h => by simp at h
  | a :: r, xs, 0, d, q, h => by
    simp only [DtL] at q
    obtain ⟨v, s, rfl, h1, h2⟩ := q
    simp at h
    subst h
    exact ⟨v, rfl, h1⟩
  | a :: r, xs, i + 1, d, q, h => by
    simp only [DtL] at q
    obtain ⟨v, s, rfl, h1, h2⟩ := q
    obtain ⟨u, e1, e2⟩ := DtL.get (i := i) h2 (by simpa using h)
    exact ⟨u, by simpa using e1, e2⟩
theorem DtL.len {ds : List PyData} {xs : List V} (q : DtL K t H ds xs) : ds.length = xs.length := by
  induction ds generalizing xs with
  | nil => simp only [DtL] at q; subst q; rfl
  | cons a r ih =>
    simp only [DtL] at q
    obtain ⟨v, s, rfl, h1, h2⟩ := q
    simp [ih h2]
/-- an item of a written menu -/
theorem menu {ds : List PyData} {xs : List V} {i : Int} (q : DtL K t H ds xs) (h0 : 0 ≤ i) (h1 : i < ds.length) : ∃ v d, atI xs i = some v ∧ ds[i.toNat]? = some d ∧ Dt K t H d v := by
  have hi : i.toNat < ds.length := by omega
  have e : ds[i.toNat]? = some ds[i.toNat] := List.getElem?_eq_getElem hi
  obtain ⟨v, hv, hd⟩ := DtL.get q e
  have z := atI_nat hv
  rw [show ((i.toNat : Nat) : Int) = i by omega] at z
  exact ⟨v, _, z, e, hd⟩
/-- the i-th item of a tuple of data -/
theorem at_of {ds : List PyData} {xs : List V} {i : Nat} {d : PyData} (q : DtL K t H ds xs) (h : ds[i]? = some d) : ∃ v, atI xs (i : Int) = some v ∧ Dt K t H d v := by
  obtain ⟨v, hv, hd⟩ := DtL.get q h
  exact ⟨v, atI_nat hv, hd⟩
end
end L2
namespace L2
open PySem PySem.Spec PyProof.Rows
/-! ### lists of items and of statements, closed to the unifier -/
@[irreducible] def QA (X : Cx) (es : List Expr) (t : TA) : Prop := PA X es t
@[irreducible] def QS (X : Cx) (ss : List Stmt) (t : TS) : Prop := PSs X ss t
theorem QA.pa {X : Cx} {es : List Expr} {t : TA} (h : QA X es t) : PA X es t := by unfold QA at h; exact h
theorem QS.pss {X : Cx} {ss : List Stmt} {t : TS} (h : QS X ss t) : PSs X ss t := by unfold QS at h; exact h
theorem qa_nil {X : Cx} : QA X [] tNil := by unfold QA; exact pa_nil
theorem qa_u {X : Cx} {e : Expr} {es : List Expr} {te : TE} {t : TA} (ha : PE X e te) (hr : QA X es t) (h : unst e = true := by rfl) : QA X (e :: es) (tCons te t) := by
  unfold QA at hr ⊢
  exact pa_u ha hr h
theorem qs_cons {X : Cx} {st : Stmt} {rest : List Stmt} {t u : TS} (h1 : PS X st t) (h2 : QS X rest u) : QS X (st :: rest) (tSeq t u) := by
  unfold QS at h2 ⊢
  exact pss_cons h1 h2
theorem qs_cut {X : Cx} {st : Stmt} {rest : List Stmt} {t u : TS} (h1 : PS X st t) (h2 : QS X rest u) : QS X (st :: rest) (tCut t u) := by
  unfold QS at h2 ⊢
  exact pss_cut h1 h2
theorem qs_one {X : Cx} {st : Stmt} {t : TS} (h1 : PS X st t) : QS X [st] t := by
  unfold QS
  exact pss_one h1
end L2
namespace L2
open PySem PySem.Spec PyProof.Rows

/-! ### a list comprehension with one clause, over a plain name, one test or none -/
theorem comp_loop {prog : Program} {w : World} {A : Around} {R : Result → Shared → Prop} {s : Shared} {elt target iter : Expr} {ifs : List Expr} {scope : Scope} {pos : Pos} {it acc : Value} {env : Env} (I : Nat → Shared → Prop)
    (turn : ∀ n s, I n s → wpAny (model prog w) A (pyNext it) (fun r s₁ => match r with
      | none => R (.ok .next) s₁
      | some v => wpAny (model prog w) A (letOwnedTupleGo target it v) (fun _ s₁' => wpAny (model prog w) A (assign target env v) (fun _ s₂ =>
          wpAny (model prog w) A (forIn ifs true fun c r => if r = true then do let ok ← isTrue c env (eval c env); pure (ForInStep.yield ok) else pure (ForInStep.yield r)) (fun ok s₃ =>
            if ok = true then wpAny (model prog w) A (eval elt env) (fun x s₄ =>
              wpAny (model prog w) A (call (.builtin "list.append") [acc, x]) (fun _ s₅ => ∃ m, m < n ∧ I m s₅) (fun _ _ => False) s₄) (fun _ _ => False) s₃
            else ∃ m, m < n ∧ I m s₃) (fun _ _ => False) s₂) (fun _ _ => False) s₁') (fun _ _ => False) s₁) (fun _ _ => False) s)
    (n : Nat) (h : I n s) :
    codeAny (model prog w) A (.compLoop (.ListComp elt [⟨target, iter, ifs, 0⟩] scope pos) 0 it acc env) R s := by
  refine codeAny_loop rfl I (fun n s hI => ?_) n h
  show wpAny _ A ((compTurn (.ListComp elt [⟨target, iter, ifs, 0⟩] scope pos) 0 it acc env).onRaise (fun x => do noteFrame x env; theTreesLotGoes x)) _ _ s
  refine wpAny_noted ?_
  rw [compTurn_list]
  have nf : ∀ {α : Type} {t : Sem α} {Q : α → Shared → Prop} {E : Value → Shared → Prop} {s : Shared}, wpAny (model prog w) A t Q (fun _ _ => False) s → wpAny (model prog w) A t Q E s := fun h => wpAny_mono h (fun _ _ q => q) fun _ _ f => f.elim
  refine wpAny_bind (wpAny_standAt (wpAny_bind (wpAny_mono (turn n s hI) (fun r s₁ h₁ => ?_) fun _ _ h' => h'.elim)))
  cases r with
  | none => exact wpAny_pure h₁
  | some v =>
    refine wpAny_bind (wpAny_mono h₁ (fun _ s₁' h₁' => ?_) fun _ _ h' => h'.elim)
    refine wpAny_bind (wpAny_mono h₁' (fun _ s₂ h₂ => wpAny_bind (wpAny_mono h₂ (fun ok s₃ h₃ => ?_) fun _ _ h' => h'.elim)) fun _ _ h' => h'.elim)
    cases ok with
    | false => exact wpAny_pure ⟨rfl, h₃⟩
    | true =>
      exact wpAny_bind (wpAny_bind (wpAny_mono h₃ (fun x s₄ h₄ => wpAny_bind (wpAny_mono h₄ (fun _ s₅ h₅ => wpAny_pure (wpAny_pure ⟨rfl, h₅⟩)) fun _ _ h' => h'.elim)) fun _ _ h' => h'.elim))

/-- the block's context -/
def compCx (X : Cx) (N : List Str) (x : Str) (scope : Scope) (cl : List (Str × Addr)) (C : Addr) (s : Shared) (H : Hp) (fp : List Addr) : Cx :=
  { X with N := N, s₀ := s, H₀ := H, env := compEnvC scope cl C X.env, outer := X.stack, ex := fp, fn := fun y => decide (y = x), pn := [], xe := fun _ _ => False }
/-- what is asked of the scopes: N is x and then the outer names (or blanks) -/
structure CompScope (X : Cx) (N : List Str) (x : Str) (scope : Scope) (cl : List (Str × Addr)) : Prop where
  clos : closureFor scope X.env = pure cl
  nocell : ∀ y ∈ scope.names, y.2 ≠ .cell
  kind : scope.kind = .function
  names : ∀ y ∈ scope.names, y.2 = .local → scope.names.lookup y.1 = some .local
  loc : scope.names.lookup x = some .local
  nd : N.Nodup
  hd : N[0]? = some x
  len : N.length = X.N.length + 1
  tl : ∀ j y, N[j + 1]? = some y → Vis (relabel scope X.env) y → X.N[j]? = some y ∧ X.env.kindOf y = some .cell ∧ Vis X.env.scope y ∧ ((relabel scope X.env).names.lookup y = some .cell ∨ (relabel scope X.env).names.lookup y = some .free) ∧ cl.lookup y = X.env.cells.lookup y
  sub : ∀ y c, cl.lookup y = some c → X.env.cells.lookup y = some c
  has : ∀ y, ((relabel scope X.env).names.lookup y = some .cell ∨ (relabel scope X.env).names.lookup y = some .free) → ∃ c, cl.lookup y = some c
  nox : cl.lookup x = none
/-- the tests: none, or one -/
def PTs (X : Cx) (ifs : List Expr) (t : TT) : Prop :=
  ∀ (pins : List (Addr × Obj)) (s : Shared) (σ : St) (H : Hp) (Q : Bool → Hp → Prop), Inv X pins σ H s → t σ H Q →
    wpAny (model X.prog X.w) X.A (forIn ifs true fun c r => if r = true then do let ok ← isTrue c X.env (eval c X.env); pure (ForInStep.yield ok) else pure (ForInStep.yield r)) (TP X pins σ Q) X.xe s
def tTrue : TT := fun _ H Q => Q true H
theorem pts_nil {X : Cx} : PTs X [] tTrue := fun _ _ _ H _ I h => wpAny_tests_nil ⟨H, I, h⟩
theorem pts_one {X : Cx} {c : Expr} {t : TT} (h : PT X c t) : PTs X [c] t := fun pins s σ H Q I q => wpAny_tests_one (h pins s σ H Q I q)

def tComp (wi : TI) (tt : TT) (te : TE) : TE := fun σ H Q => wi σ H fun J H1 => ∀ D, H1 D = none → ∃ W : Nat → Nat → Hp → Prop, (∃ m, W 0 m (upd H1 D (.lst []))) ∧ ∀ i m H, W i m H →
  (J.stop i H ∧ Q (.ref D) H) ∨ (J.go i H ∧ ∀ x H', J.yld i H x H' → tt (some x :: σ) H' fun b H2 =>
    if b = true then te (some x :: σ) H2 fun y H3 => ∃ ys, H3 D = some (.lst ys) ∧ ys.length < sizeLine ∧ ∃ m', m' < m ∧ W (i + 1) m' (upd H3 D (.lst (ys ++ [y])))
    else ∃ m', m' < m ∧ W (i + 1) m' H2)

section
variable {X : Cx} {pins : List (Addr × Obj)} {σ : St} {H : Hp} {s : Shared} {N : List Str} {x : Str} {scope : Scope} {cl : List (Str × Addr)} {fp : List Addr} {it : Addr} {tn : Nat → Heap → Prop} {J : It} {px : Pos}
theorem compOk (S : CompScope X N x scope cl) (I : Inv X pins σ H s) (hf : ∀ b ∈ fp, FpOk X pins H b) (hb : ∀ b ∈ fp, b < s.heap.objs.size) : (compCx X N x scope cl s.heap.objs.size s H fp).Ok where
  mod := I.ok.mod
  kind := S.kind
  glob := I.ok.glob
  blt := I.ok.blt
  above := Nat.le_refl _
  inj := fun y z c h1 h2 => I.ok.inj y z c (S.sub y c h1) (S.sub z c h2)
  has := fun y hy => S.has y hy
  cab := fun y c h1 h2 => by
    have e : y = x := of_decide_eq_true h1
    subst e
    have q : cl.lookup y = some c := h2
    rw [S.nox] at q; cases q
  hd := I.ok.hd
  frames := I.ok.frames
  stk := .inl rfl
  exf := fun b hb' => ⟨Nat.ne_of_lt (hb b hb'), fun y c h => (hf b hb').2.2.2.2.1 y c (S.sub y c h)⟩
  bs := I.bs
  bsz := Nat.le_trans I.ok.bsz I.sz
  noex := fun b o e hb' => by
    rcases (hf b hb').2.2.2.1 with z | z
    · exact I.ok.noex b o e z
    · exact absurd (Nat.lt_of_lt_of_le (Heap.lt_size e) (Nat.le_trans I.ok.bsz z)) (Nat.lt_irrefl _)
  exfs := fun b hb' hs => by
    rcases List.mem_cons.mp (I.stkSub b hs) with z | z
    · exact (hf b hb').2.1 z
    · exact (hf b hb').2.2.1 z
  funs := I.stack
  frf := I.stkFree
theorem compInv (S : CompScope X N x scope cl) (I : Inv X pins σ H s) (hf : ∀ b ∈ fp, FpOk X pins H b) (hb : ∀ b ∈ fp, b < s.heap.objs.size) {h' : Heap} {m : Str → Option Value} {tk : Nat} (hn : h'.Ns s.heap.objs.size m)
    (k : ∀ b u, s.heap.get? b = some u → h'.get? b = some u) : Inv (compCx X N x scope cl s.heap.objs.size s H fp) [] (none :: σ) H { s with heap := h', toks := tk } where
  ok := compOk S I hf hb
  os := rfl
  bare := I.bare
  base := Un.kept k
  loc := ⟨m, hn, fun i y v e1 e2 e3 => by
    cases i with
    | zero => simp at e2
    | succ j =>
      obtain ⟨a1, a2, a3, a4, a5⟩ := S.tl j y e1 e3
      obtain ⟨m0, hn0, hl0⟩ := I.loc
      obtain ⟨u, r, l⟩ := hl0 j y v a1 (by simpa using e2) a3
      rcases l with ⟨hk, _⟩ | ⟨_, c, hc, ⟨o, ho, hd⟩⟩
      · rw [a2] at hk; cases hk
      · exact ⟨u, r, .inr ⟨a4, c, a5.trans hc, o, k _ _ ho, hd⟩⟩⟩
  cell := fun y c e => by
    obtain ⟨v, o, ho, hd⟩ := I.cell y c (S.sub y c e)
    exact ⟨v, o, k _ _ ho, hd⟩
  free := I.hok.fresh (Nat.le_refl _)
  freeC := fun y c e => I.freeC y c (S.sub y c e)
  pin := fun p hp => absurd (show p ∈ ([] : List (Addr × Obj)) from hp) (by simp)
  hok := I.hok.kept k
  len := by
    show (none :: σ).length = N.length
    rw [S.len, ← I.len, List.length_cons]

theorem comp_block {elt iter : Expr} {ifs : List Expr} {pos : Pos} {te : TE} {tt : TT} {Q : V → Hp → Prop} {RR : Value → Addr → Result → Shared → Prop} {E : Value → Shared → Prop} (hc : X.calm = true) (S : CompScope X N x scope cl) (T : Turn X.prog X.w X.K (.Name x px) J fp it tn)
    (hts : ∀ C s H fp, PTs (compCx X N x scope cl C s H fp) ifs tt) (helt : ∀ C s H fp, PE (compCx X N x scope cl C s H fp) elt te)
    (I : Inv X pins σ H s) (t0 : tn 0 s.heap) (hf : ∀ b ∈ fp, FpOk X pins H b)
    (hq : ∀ D, H D = none → ∃ W : Nat → Nat → Hp → Prop, (∃ m, W 0 m (upd H D (.lst []))) ∧ ∀ i m H, W i m H →
      (J.stop i H ∧ Q (.ref D) H) ∨ (J.go i H ∧ ∀ x H', J.yld i H x H' → tt (some x :: σ) H' fun b H2 =>
        if b = true then te (some x :: σ) H2 fun y H3 => ∃ ys, H3 D = some (.lst ys) ∧ ys.length < sizeLine ∧ ∃ m', m' < m ∧ W (i + 1) m' (upd H3 D (.lst (ys ++ [y])))
        else ∃ m', m' < m ∧ W (i + 1) m' H2))
    (hRR : ∀ D C H' s', Inv X pins σ H' s' → Q (.ref D) H' → (∃ m, s'.heap.Ns C m) → H' C = none → C ≠ X.env.locals → X.s₀.heap.objs.size ≤ C → (∀ y c, X.env.cells.lookup y = some c → c ≠ C) → (∀ p ∈ X.pn ++ pins, p.1 ≠ C) → RR (.ref D) C (.ok .next) s') :
    wpAny (model X.prog X.w) X.A (newList []) (fun acc s₃ => wpAny (model X.prog X.w) X.A (newFunctionEnv scope X.env.globals cl [] X.env.qual none .none (some X.env)) (fun cenv s₄ =>
      codeAny (model X.prog X.w) X.A (.compStart (.ListComp elt [⟨.Name x px, iter, ifs, 0⟩] scope pos) 0 (.ref it) acc { cenv with scope := relabel scope X.env }) (RR acc cenv.locals) s₄) E s₃) E s := by
  have hD : H s.heap.objs.size = none := I.hok.fresh (Nat.le_refl _)
  obtain ⟨W, ⟨m0, w0⟩, turn⟩ := hq _ hD
  refine wpAny_newObj_type (wpAny_newFunctionEnv S.nocell (by intro y hy; simp at hy) (fun h₁ hns₁ hsb₁ => ?_) S.kind)
  dsimp only at hns₁ hsb₁ ⊢
  have I3 : Inv X pins σ (upd H s.heap.objs.size (.lst [])) { s with heap := s.heap.push { cls := .type "list", data := .seq ([] : List Value).toArray }, toks := s.toks } := I.lnew .nil (Nat.zero_le _)
  have fpLt : ∀ b ∈ fp, b < s.heap.objs.size := fun b hb => by
    obtain ⟨o, ho, _⟩ := T.obj _ _ t0 b hb
    exact Heap.lt_size ho
  have hf3 : ∀ b ∈ fp, FpOk X pins (upd H s.heap.objs.size (.lst [])) b := fun b hb => by
    refine ⟨?_, (hf b hb).2⟩
    rw [upd_ne (Nat.ne_of_lt (fpLt b hb))]
    exact (hf b hb).1
  generalize hH2 : s.heap.push { cls := .type "list", dict := none, data := .seq ([] : List Value).toArray } = G at hns₁ hsb₁ I3 ⊢
  have hG : G.objs.size = s.heap.objs.size + 1 := by rw [← hH2, Heap.size_push]
  have kG : ∀ b o, G.get? b = some o → h₁.get? b = some o := fun b o e => hsb₁.extBut b o (Nat.ne_of_lt (Heap.lt_size e)) (Heap.get?_push_of_some _ e)
  have ks : ∀ b o, s.heap.get? b = some o → h₁.get? b = some o := fun b o e => kG b o (hH2 ▸ Heap.get?_push_of_some _ e)
  have fpLt3 : ∀ b ∈ fp, b < G.objs.size := fun b hb => by rw [hG]; exact Nat.lt_succ_of_lt (fpLt b hb)
  have t1 : tn 0 h₁ := T.keep _ _ _ t0 fun b _ o e => ks b o e
  have I4 := compInv (tk := s.toks + ([] : List (Str × Value)).length) S I3 hf3 fpLt3 hns₁ kG
  generalize hX' : compCx X N x scope cl G.objs.size { s with heap := G, toks := s.toks } (upd H s.heap.objs.size (.lst [])) fp = X' at I4
  have e1 : X'.prog = X.prog := by rw [← hX']; rfl
  have e2 : X'.w = X.w := by rw [← hX']; rfl
  have e3 : X'.A = X.A := by rw [← hX']; rfl
  have e4 : X'.env = compEnvC scope cl G.objs.size X.env := by rw [← hX']; rfl
  have e5 : X'.calm = true := by rw [← hX']; exact hc
  have e6 : X'.xe = fun _ _ => False := by rw [← hX']; rfl
  have e7 : X'.K = X.K := by rw [← hX']; rfl
  have helt' : PE X' elt te := hX' ▸ helt _ _ _ _
  have hts' : PTs X' ifs tt := hX' ▸ hts _ _ _ _
  have hfp : ∀ {H' : Hp}, (∀ b ∈ fp, H' b = none) → ∀ b ∈ fp, FpOk X' [] H' b := fun {H'} hn b hb => by
    obtain ⟨f0, f1, f2, f3, f4, f5⟩ := hf3 b hb
    refine ⟨hn b hb, ?_, ?_, ?_, ?_, ?_⟩
    · rw [e4]; exact Nat.ne_of_lt (fpLt3 b hb)
    · subst hX'
      intro z
      rcases List.mem_cons.mp (I3.stkSub b z) with q | q
      · exact f1 q
      · exact f2 q
    · subst hX'; exact .inl hb
    · rw [e4]; exact fun y c q => f4 y c (S.sub y c q)
    · subst hX'
      intro p hp
      exact absurd (show p ∈ ([] : List (Addr × Obj)) from hp) (by simp)
  have nd' : X'.N.Nodup := by subst hX'; exact S.nd
  have hi' : X'.N[0]? = some x := by subst hX'; exact S.hd
  have hx' : X'.env.scope.names.lookup x = some .local := by rw [e4]; exact lookup_relabel_local S.loc
  have loop : ∀ s₅ : Shared, s₅ = { s with heap := h₁, toks := s.toks + ([] : List (Str × Value)).length } →
      codeAny (model X.prog X.w) X.A (.compLoop (.ListComp elt [⟨.Name x px, iter, ifs, 0⟩] scope pos) 0 (.ref it) (.ref s.heap.objs.size) (compEnvC scope cl G.objs.size X.env)) (RR (.ref s.heap.objs.size) G.objs.size) s₅ := by
    rintro s₅ rfl
    refine comp_loop (fun n s' => ∃ i v0 H', Inv X' [] (v0 :: σ) H' s' ∧ tn i s'.heap ∧ (∀ b ∈ fp, H' b = none) ∧ W i n H') ?_ m0 ⟨0, none, _, I4, t1, fun b hb => (hf3 b hb).1, w0⟩
    rintro n s6 ⟨i, v0, H6, I6, st6, fr6, w6⟩
    rcases turn i n H6 w6 with ⟨stop, qn⟩ | ⟨go, step⟩
    · have dn := T.done X' e1 e2 e7 e5 i [] s6 (v0 :: σ) H6 (fun _ _ => False) I6 (hfp fr6) st6 stop
      rw [e3] at dn
      refine thn dn fun r s7 ⟨hr, I7⟩ => ?_
      subst hr
      have u7 := I7.base
      have J7 : Inv X pins σ H6 s7 := by
        refine I3.call' (ch := fp) ?_ (by subst hX'; exact u7) (by subst hX'; exact I7.hok) I7.bare fun b hb => ?_
        · have := I7.os; subst hX'; exact this
        · obtain ⟨_, f1, _, f3, f4, f5⟩ := hf3 b hb
          exact ⟨f3, f1, f4, f5⟩
      refine hRR _ _ H6 s7 J7 qn ?_ ?_ ?_ ?_ ?_ ?_
      · obtain ⟨m, hm, _⟩ := I7.loc
        rw [e4] at hm
        exact ⟨m, hm⟩
      · have := I7.free
        rw [e4] at this
        exact this
      · exact Nat.ne_of_gt I3.lt
      · exact I3.sz
      · intro y c q
        obtain ⟨v, hv⟩ := I3.cell y c q
        exact Nat.ne_of_lt hv.lt
      · intro p hp
        exact Nat.ne_of_lt (Heap.lt_size (I3.pin p hp).1)
    · have itm := T.item X' e1 e2 e7 e5 i [] s6 (v0 :: σ) H6 (fun _ _ => False) I6 (hfp fr6) st6 go
      rw [e3] at itm
      refine thn itm fun r s7 ⟨u, hr, h7⟩ => ?_
      subst hr
      refine thn h7 fun _ s8 ⟨xv, H8, I8, r8, y8, st8, fr8⟩ => ?_
      have I8' := I8.pinned (hfp fr8) (T.obj _ _ st8)
      have sto : wpAny (model X.prog X.w) X.A (assign (.Name x px) X'.env u) (fun _ s9 => Inv X' ([] ++ pinsAt fp s8.heap) ((v0 :: σ).set 0 (some xv)) H8 s9) (fun _ _ => False) s8 :=
        wpAny_assign_Name (store_ok I8' nd' hi' (.inl hx') r8 (fun s9 I9 => I9) (.inr hx'))
      rw [e4] at sto
      refine thn sto fun _ s9 I9 => ?_
      have I9' : Inv X' ([] ++ pinsAt fp s8.heap) (some xv :: σ) H8 s9 := I9
      have tst := hts' _ s9 (some xv :: σ) H8 _ I9' (step xv H8 y8)
      rw [e1, e2, e3, e4, e6] at tst
      refine thn tst fun ok s10 ⟨H10, I10, q10⟩ => ?_
      have again : ∀ {s11 : Shared} {H11 : Hp}, Inv X' ([] ++ pinsAt fp s8.heap) (some xv :: σ) H11 s11 → (∃ m', m' < n ∧ W (i + 1) m' H11) → ∃ m, m < n ∧ ∃ i v0 H', Inv X' [] (v0 :: σ) H' s11 ∧ tn i s11.heap ∧ (∀ b ∈ fp, H' b = none) ∧ W i m H' := fun {s11 H11} J ⟨m', hm, w11⟩ => by
        have pp : ∀ b ∈ fp, ∀ o, s8.heap.get? b = some o → s11.heap.get? b = some o ∧ H11 b = none := fun b hb o e => by
          have := J.pin (b, o) (List.mem_append_right _ (List.mem_append_right _ (mem_pinsAt hb e)))
          exact ⟨this.1, this.2.1⟩
        refine ⟨m', hm, i + 1, some xv, H11, J.unpinned, T.keep _ _ _ st8 fun b hb o e => (pp b hb o e).1, fun b hb => ?_, w11⟩
        obtain ⟨o, e, d⟩ := T.obj _ _ st8 b hb
        exact (pp b hb o e).2
      cases ok with
      | false =>
        rw [if_neg Bool.false_ne_true] at q10 ⊢
        exact again I10 q10
      | true =>
        rw [if_pos rfl] at q10 ⊢
        have ev := helt' _ s10 (some xv :: σ) H10 _ I10 q10
        rw [e1, e2, e3, e4, e6] at ev
        refine thn ev fun y s11 ⟨yv, H11, I11, r11, ys, hys, hz, q11⟩ => ?_
        have ap := mt_append (X := X') _ s11 (some xv :: σ) H11 (.ref s.heap.objs.size) [yv] (.ref s.heap.objs.size) [y] (fun _ H' => ∃ m', m' < n ∧ W (i + 1) m' H') I11 rfl (.cons r11 .nil) ⟨_, ys, yv, rfl, rfl, hys, hz, q11⟩
        rw [e1, e2, e3, e6] at ap
        exact thn ap fun _ s12 ⟨_, H12, I12, _, q12⟩ => again I12 q12
  exact codeAny_compStart_list (loop _ rfl) (T.self _ 0 _ _ _ t1 (loop _ rfl))

theorem sameBut_keeps {C : Addr} {h h' : Heap} (hs : Heap.SameBut C h h') : ∀ b o, b ≠ C → h.get? b = some o → h'.get? b = some o := fun b o n e => hs.extBut b o n e
theorem pe_comp {elt iter : Expr} {ifs : List Expr} {pos : Pos} {wi : TI} {te : TE} {tt : TT} (hc : X.calm = true) (S : CompScope X N x scope cl) (hi : PI X (.Name x px) iter wi)
    (hts : ∀ C s H fp, PTs (compCx X N x scope cl C s H fp) ifs tt) (helt : ∀ C s H fp, PE (compCx X N x scope cl C s H fp) elt te) (hs : ∀ v, foldedSetIterable iter X.env v = pure v := by intro _; rfl) :
    PE X (.ListComp elt [⟨.Name x px, iter, ifs, 0⟩] scope pos) (tComp wi tt te) := by
  intro pins s σ H Q I h
  rw [eval_ListComp]
  refine wpAny_comprehension_free (use := none) rfl hs S.clos S.kind S.names (thn (hi pins s σ H _ I h) fun v s1 h1 => thn h1 fun itv s2 h2 => ?_)
  obtain ⟨it, fp, tn, J, H2, rfl, I2, T, st2, f2, hq⟩ := h2
  refine comp_block (RR := fun acc C => compPost (model X.prog X.w) X.A X.xe none (EP X pins σ Q) acc C) hc S T hts helt I2 st2 f2 hq fun D C H' s' I' q ⟨m, hm⟩ h1 h2 h3 h4 h5 => ?_
  exact ⟨m, hm, fun h' sb => ⟨.ref D, H', I'.turned (it := C) (t' := s'.toks) (sameBut_keeps sb) h1 h2.symm.symm (.inr h3) h4 h5, rfl, q⟩⟩
theorem ps_setComp {elt iter : Expr} {ifs : List Expr} {pos spos py : Pos} {wi : TI} {te : TE} {tt : TT} {i : Nat} {y : Str} (hc : X.calm = true) (hN : X.N.Nodup) (hi' : X.N[i]? = some y) (hy : Loc X.env.scope y) (S : CompScope X N x scope cl) (hi : PI X (.Name x px) iter wi)
    (hts : ∀ C s H fp, PTs (compCx X N x scope cl C s H fp) ifs tt) (helt : ∀ C s H fp, PE (compCx X N x scope cl C s H fp) elt te)
    (hsw : swapsWith (.ListComp elt [⟨.Name x px, iter, ifs, 0⟩] scope pos) (some (.Name y py)) spos.line X.env = pure true := by rfl) (hs : ∀ v, foldedSetIterable iter X.env v = pure v := by intro _; rfl)
    (hfn : X.fn y = true ∨ X.env.scope.names.lookup y = some .local := by first | exact .inl rfl | exact .inr rfl | assumption) :
    PS X (.Assign [.Name y py] (.ListComp elt [⟨.Name x px, iter, ifs, 0⟩] scope pos) spos) (tAsg (tComp wi tt te) (gName i)) := by
  intro pins s σ H D' I h
  rw [exec_Assign_Name_used _ _ _ _ hsw]
  refine wpAny_bind (wpAny_standAt (wpAny_bind ?_))
  show wpAny _ X.A (do let _ ← comprehension (.ListComp elt [⟨.Name x px, iter, ifs, 0⟩] scope pos) scope X.env _ (newList []) false (eval iter X.env) (some (assign (.Name y py) X.env))) _ _ s
  refine wpAny_bind (wpAny_mono (wpAny_comprehension_free (use := some (assign (.Name y py) X.env)) (Q := fun _ s' => SP X pins D' .next s') rfl hs S.clos S.kind S.names (thn (hi pins s σ H _ I h) fun v s1 h1 => thn h1 fun itv s2 h2 => ?_))
    (fun _ s' hq => wpAny_pure (wpAny_pure hq)) fun _ _ e => e)
  obtain ⟨it, fp, tn, J, H2, rfl, I2, T, st2, f2, hq⟩ := h2
  refine comp_block (Q := fun x H1 => gName i x σ H1 D'.nx) (RR := fun acc C => compPost (model X.prog X.w) X.A X.xe (some (assign (.Name y py) X.env)) (fun _ s' => SP X pins D' .next s') acc C) hc S T hts helt I2 st2 f2 hq fun D C H' s' I' q ⟨m, hm⟩ h1 h2 h3 h4 h5 => ?_
  refine wpAny_assign_Name (store_ok2 I' hN hi' hy (v := .ref D) rfl (fun s'' I'' ⟨a, sa, ha⟩ => ?_) hfn)
  have nC : C ≠ a := by
    rcases ha with z | z
    · rw [z]; exact h2
    · exact (h4 _ _ z).symm
  refine ⟨m, hm.sameBut sa nC, fun h' sb => ⟨_, H', I''.turned (it := C) (t' := s''.toks) (sameBut_keeps sb) h1 h2 (.inr h3) h4 h5, q⟩⟩
end
end L2
namespace M
open PySem

/-- a rule of rallies -/
inductive Rl where
  | pt
  | un (to lead : Int) (cap : Option Int) (inner : Rl)
  | ul (to lead cap : Int) (inner last : Rl)
def capD : Option Int → PyData
  | none => .none
  | some c => .int c
abbrev pointD : PyData := .tuple [.str "point"]
abbrev unitD (to lead cap inner last : PyData) : PyData := .tuple [.str "unit", to, lead, cap, inner, last]
def enc : Rl → PyData
  | .pt => pointD
  | .un to lead cap i => unitD (.int to) (.int lead) (capD cap) (enc i) .none
  | .ul to lead cap i l => unitD (.int to) (.int lead) (.int cap) (enc i) (enc l)
def Bd (least i : Int) : Prop := least ≤ i ∧ i ≤ 99
def capOk (to : Int) : Option Int → Prop
  | none => True
  | some c => Bd to c
def ok : Rl → Prop
  | .pt => True
  | .un to lead cap i => Bd 1 to ∧ Bd 1 lead ∧ capOk to cap ∧ ok i
  | .ul to lead cap i l => Bd 1 to ∧ Bd 1 lead ∧ Bd to cap ∧ ok i ∧ ok l
def size : Rl → Nat
  | .pt => 0
  | .un _ _ _ i => 1 + size i
  | .ul _ _ _ i l => 1 + size i + size l
def depth : Rl → Nat
  | .pt => 0
  | .un _ _ _ i => depth i + 1
  | .ul _ _ _ i l => max (depth i) (depth l) + 1

/-! the program's own answers -/
def bnd (d : PyData) (least : Int) : Bool := match d with
  | .int i => decide (least ≤ i) && decide (i ≤ 99)
  | _ => false
def isN : PyData → Bool
  | .none => true
  | _ => false
def intOf : PyData → Int
  | .int i => i
  | _ => 0
def form (d : PyData) : Bool := match d with
  | .tuple [wd, to, lead, cap, _, last] =>
    PyData.eqv wd (.str "unit") && (bnd to 1 && (bnd lead 1 && (if isN cap then isN last else bnd cap (intOf to))))
  | _ => false
def unitsOf : Nat → PyData → Option Nat
  | room, d => if PyData.eqv d pointD then some 0 else match room with
    | 0 => none
    | r + 1 => if form d then (match d with
        | .tuple [_, _, _, _, i, l] => match unitsOf r i, (if isN l then some 0 else unitsOf r l) with
          | some a, some b => some (1 + a + b)
          | _, _ => none
        | _ => none) else none
def isRule (d : PyData) : Bool := match unitsOf 4 d with
  | some n => decide (n ≤ 10)
  | none => false

theorem eqv_pt : PyData.eqv pointD pointD = true := by rfl
theorem eqv_unit (a b c d e : PyData) : PyData.eqv (unitD a b c d e) pointD = false := by rfl
theorem isN_enc (r : Rl) : isN (enc r) = false := by cases r <;> rfl
theorem eqv_unitw : PyData.eqv (.str "unit") (.str "unit") = true := by rfl

theorem units_enc : ∀ (r : Rl) (room : Nat), ok r → unitsOf room (enc r) = if depth r ≤ room then some (size r) else none
  | .pt, room, _ => by
    unfold unitsOf
    simp [enc, depth, size, eqv_pt]
  | .un to lead cap i, 0, _ => by
    unfold unitsOf
    simp [enc, depth, eqv_unit]
  | .ul to lead cap i l, 0, _ => by
    unfold unitsOf
    simp [enc, depth, eqv_unit]
  | .un to lead cap i, room + 1, h => by
    obtain ⟨⟨h1, h2⟩, ⟨h3, h4⟩, h5, h6⟩ := h
    have ih := units_enc i room h6
    have f : form (enc (.un to lead cap i)) = true := by
      cases cap with
      | none => simp [form, enc, eqv_unitw, bnd, isN, capD, h1, h2, h3, h4]
      | some c => simp [form, enc, eqv_unitw, bnd, isN, capD, intOf, h1, h2, h3, h4, h5.1, h5.2]
    unfold unitsOf
    rw [f]
    simp only [enc, eqv_unit, Bool.false_eq_true, if_false, if_true, ih, isN, depth, size, Nat.add_le_add_iff_right]
    by_cases c : depth i ≤ room
    · simp [c]
    · simp [c]
  | .ul to lead cap i l, room + 1, h => by
    obtain ⟨⟨h1, h2⟩, ⟨h3, h4⟩, h5, h6, h7⟩ := h
    have ih := units_enc i room h6
    have jh := units_enc l room h7
    have f : form (enc (.ul to lead cap i l)) = true := by
      simp [form, enc, eqv_unitw, bnd, isN, capD, intOf, h1, h2, h3, h4, h5.1, h5.2]
    unfold unitsOf
    rw [f]
    simp only [enc, eqv_unit, Bool.false_eq_true, if_false, if_true, ih, jh, isN_enc, depth, size, Nat.add_le_add_iff_right, Nat.max_le]
    by_cases c : depth i ≤ room
    · by_cases c2 : depth l ≤ room
      · simp [c, c2]
      · simp [c, c2]
    · simp [c]

/-- no rule, whatever the room -/
def Bad (d : PyData) : Prop := ∀ room, unitsOf room d = none
theorem Bad.not_rule {d : PyData} (h : Bad d) : isRule d = false := by unfold isRule; rw [h 4]
theorem bad_of {d : PyData} (h1 : PyData.eqv d pointD = false) (h2 : form d = false) : Bad d := fun room => by
  unfold unitsOf
  rw [h1, if_neg Bool.false_ne_true]
  cases room with
  | zero => rfl
  | succ r => rw [h2]; simp
theorem bad_inner {w a b c i l : PyData} (h1 : PyData.eqv (.tuple [w, a, b, c, i, l]) pointD = false) (h : Bad i) : Bad (.tuple [w, a, b, c, i, l]) := fun room => by
  unfold unitsOf
  rw [h1, if_neg Bool.false_ne_true]
  cases room with
  | zero => rfl
  | succ r => simp only [h r]; split <;> rfl
theorem bad_last {w a b c i l : PyData} (h1 : PyData.eqv (.tuple [w, a, b, c, i, l]) pointD = false) (h : Bad l) (hn : isN l = false) : Bad (.tuple [w, a, b, c, i, l]) := fun room => by
  unfold unitsOf
  rw [h1, if_neg Bool.false_ne_true]
  cases room with
  | zero => rfl
  | succ r =>
    simp only [h r, hn, Bool.false_eq_true, if_false]
    split
    · cases unitsOf r i <;> rfl
    · rfl

theorem bad_tuple {ds : List PyData} (h1 : PyData.eqv (.tuple ds) pointD = false) (h2 : ds.length ≠ 6) : Bad (.tuple ds) := bad_of h1 (by
  unfold form
  split
  · rename_i e; cases e; simp at h2
  · rfl)
/-- what every rule but a point is -/
theorem enc_view {r : Rl} (h : ok r) (hr : r ≠ .pt) : ∃ (to lead : Int) (cap inner last : PyData), enc r = unitD (.int to) (.int lead) cap inner last ∧ 1 ≤ to ∧ to ≤ 99 ∧ 1 ≤ lead ∧ lead ≤ 99 ∧
    ((cap = .none ∧ last = .none) ∨ ∃ c, cap = .int c ∧ to ≤ c ∧ c ≤ 99) := by
  cases r with
  | pt => exact absurd rfl hr
  | un to lead cap i =>
    obtain ⟨⟨h1, h2⟩, ⟨h3, h4⟩, h5, h6⟩ := h
    refine ⟨to, lead, capD cap, enc i, .none, rfl, h1, h2, h3, h4, ?_⟩
    cases cap with
    | none => exact .inl ⟨rfl, rfl⟩
    | some c => exact .inr ⟨c, rfl, h5.1, h5.2⟩
  | ul to lead cap i l =>
    obtain ⟨⟨h1, h2⟩, ⟨h3, h4⟩, h5, h6, h7⟩ := h
    exact ⟨to, lead, .int cap, enc i, enc l, rfl, h1, h2, h3, h4, .inr ⟨cap, rfl, h5.1, h5.2⟩⟩
theorem eqv_six {a b c d e f : PyData} : PyData.eqv (.tuple [a, b, c, d, e, f]) pointD = false := by
  simp [PyData.eqv, PyData.eqvAll]
theorem bad_to {w to lead cap i l : PyData} (h : bnd to 1 = false) : Bad (.tuple [w, to, lead, cap, i, l]) := bad_of eqv_six (by simp [form, h])
theorem bad_lead {w to lead cap i l : PyData} (h : bnd lead 1 = false) : Bad (.tuple [w, to, lead, cap, i, l]) := bad_of eqv_six (by simp [form, h])
theorem bad_cap {w lead cap i l : PyData} {to : Int} (hn : isN cap = false) (h : bnd cap to = false) : Bad (.tuple [w, .int to, lead, cap, i, l]) := bad_of eqv_six (by simp [form, h, hn, intOf])
theorem isN_none : isN .none = true := rfl
theorem bad_none {w to lead i l : PyData} (hn : isN l = false) : Bad (.tuple [w, to, lead, .none, i, l]) := bad_of eqv_six (by simp [form, hn, isN_none])
theorem bad_word {w to lead cap i l : PyData} (h : PyData.eqv w (.str "unit") = false) : Bad (.tuple [w, to, lead, cap, i, l]) := bad_of eqv_six (by simp [form, h])
theorem bad_list {ds : List PyData} : Bad (.list ds) := bad_of (by simp [PyData.eqv]) (by rfl)
theorem bad_flat {d : PyData} (h : PyData.eqv d pointD = false) (h2 : ∀ ds, d ≠ .tuple ds) : Bad d := bad_of h (by
  unfold form
  split
  · rename_i e; exact absurd rfl (h2 _)
  · rfl)
theorem badn_none : Bad .none := bad_flat rfl (fun _ h => nomatch h)
theorem badn_bool (b : Bool) : Bad (.bool b) := bad_flat rfl (fun _ h => nomatch h)
theorem badn_int (i : Int) : Bad (.int i) := bad_flat rfl (fun _ h => nomatch h)
theorem badn_str (x : Str) : Bad (.str x) := bad_flat rfl (fun _ h => nomatch h)
theorem badn_nil : Bad (.tuple []) := bad_tuple rfl (by decide)

/-! how many units a drawn rule has at most -/
def U : Nat → Nat → Nat
  | 0, _ => 0
  | d + 1, th => 1 + U d th + (if d ≤ th then U d th else 2 ^ th - 1)
theorem U_full : ∀ {d th : Nat}, d ≤ th → U d th = 2 ^ d - 1
  | 0, _, _ => rfl
  | d + 1, th, h => by
    have e := U_full (d := d) (th := th) (by omega)
    unfold U
    rw [if_pos (by omega), e]
    have : 2 ^ (d + 1) = 2 * 2 ^ d := by rw [Nat.pow_succ, Nat.mul_comm]
    have p : 0 < 2 ^ d := Nat.pos_of_ne_zero (by simp)
    omega
theorem U_min (d th : Nat) : U (min d th) th = (if d ≤ th then U d th else 2 ^ th - 1) := by
  by_cases h : d ≤ th
  · rw [if_pos h, Nat.min_eq_left h]
  · rw [if_neg h, Nat.min_eq_right (by omega), U_full (Nat.le_refl _)]
theorem U_succ (d th : Nat) : U (d + 1) th = 1 + U d th + U (min d th) th := by rw [U_min]; rfl
theorem size_pos {r : Rl} (h : r ≠ .pt) : 1 ≤ depth r := by cases r with
  | pt => exact absurd rfl h
  | un _ _ _ _ => simp [depth]
  | ul _ _ _ _ _ => simp [depth]
theorem isRule_enc {r : Rl} (h : ok r) (hs : size r ≤ 10) : isRule (enc r) = decide (depth r ≤ 4) := by
  unfold isRule
  rw [units_enc r 4 h]
  by_cases c : depth r ≤ 4
  · simp [c, hs]
  · simp [c]
theorem isRule_full {r : Rl} (h : ok r) (hd : depth r ≤ 4) : isRule (enc r) = decide (size r ≤ 10) := by
  unfold isRule
  rw [units_enc r 4 h, if_pos hd]
end M
namespace M
open PySem
def subs : Rl → List Rl
  | .pt => [.pt]
  | .un a b c i => .un a b c i :: subs i
  | .ul a b c i l => .ul a b c i l :: (subs i ++ subs l)
theorem subs_len : ∀ r, (subs r).length ≤ 2 * size r + 1
  | .pt => by simp [subs, size]
  | .un _ _ _ i => by have := subs_len i; simp only [subs, size, List.length_cons]; omega
  | .ul _ _ _ i l => by have := subs_len i; have := subs_len l; simp only [subs, size, List.length_cons, List.length_append]; omega
theorem subs_pos : ∀ r, 0 < (subs r).length
  | .pt => by simp [subs]
  | .un _ _ _ i => by simp [subs]
  | .ul _ _ _ i l => by simp [subs]
theorem subs_mem : ∀ (r r' : Rl), r' ∈ subs r → depth r' ≤ depth r ∧ size r' ≤ size r
  | .pt, r', h => by simp [subs] at h; subst h; exact ⟨Nat.le_refl _, Nat.le_refl _⟩
  | .un a b c i, r', h => by
    simp only [subs, List.mem_cons] at h
    rcases h with rfl | h
    · exact ⟨Nat.le_refl _, Nat.le_refl _⟩
    · have := subs_mem i r' h; simp only [depth, size]; omega
  | .ul a b c i l, r', h => by
    simp only [subs, List.mem_cons, List.mem_append] at h
    rcases h with rfl | h | h
    · exact ⟨Nat.le_refl _, Nat.le_refl _⟩
    · have := subs_mem i r' h; simp only [depth, size]; omega
    · have := subs_mem l r' h; simp only [depth, size]; omega
def isPt : Rl → Bool
  | .pt => true
  | _ => false
def gNp (r : Rl) : Option Rl := if isPt r then none else some r
def inn : Rl → Option Rl
  | .pt => none
  | .un _ _ _ i => some i
  | .ul _ _ _ i _ => some i
def lst : Rl → Option Rl
  | .ul _ _ _ _ l => some l
  | _ => none
theorem isPt_iff {r : Rl} : isPt r = true ↔ r = .pt := by cases r <;> simp [isPt]
def mxd : List Rl → Nat
  | [] => 0
  | r :: rs => max (depth r) (mxd rs)
def szs : List Rl → Nat
  | [] => 0
  | r :: rs => size r + szs rs
theorem mxd_app (a b : List Rl) : mxd (a ++ b) = max (mxd a) (mxd b) := by
  induction a with
  | nil => simp [mxd]
  | cons x a ih => simp only [List.cons_append, mxd, ih]; omega
theorem szs_app (a b : List Rl) : szs (a ++ b) = szs a + szs b := by
  induction a with
  | nil => simp [szs]
  | cons x a ih => simp only [List.cons_append, szs, ih]; omega
/-- a turn: what is left of the list, and what lies within it -/
def np (rs : List Rl) : List Rl := rs.filterMap gNp
def nxt (rs : List Rl) : List Rl := (np rs).filterMap inn ++ (np rs).filterMap lst
theorem np_nil_mxd : ∀ {rs : List Rl}, np rs = [] → mxd rs = 0
  | [], _ => rfl
  | .pt :: rs, h => by
    have : np rs = [] := h
    have := np_nil_mxd this
    simp [mxd, depth, this]
  | .un _ _ _ _ :: rs, h => by simp [np, gNp, isPt] at h
  | .ul _ _ _ _ _ :: rs, h => by simp [np, gNp, isPt] at h
theorem np_nil_nxt {rs : List Rl} (h : np rs = []) : nxt rs = [] := by simp [nxt, h]
theorem mxd_nxt : ∀ rs : List Rl, (np rs ≠ [] → mxd rs = mxd (nxt rs) + 1)
  | [], h => absurd rfl h
  | .pt :: rs, h => by
    have e : np (.pt :: rs) = np rs := rfl
    rw [e] at h
    have := mxd_nxt rs h
    have e2 : nxt (.pt :: rs) = nxt rs := rfl
    rw [e2]
    simp [mxd, depth, this]
  | .un a b c i :: rs, _ => by
    have e2 : mxd (nxt (.un a b c i :: rs)) = max (depth i) (mxd (nxt rs)) := by
      simp only [nxt, np, List.filterMap_cons, gNp, isPt, inn, lst, mxd_app]
      simp only [Bool.false_eq_true, if_false, List.filterMap_cons, inn, lst, mxd]
      omega
    rw [e2]
    by_cases h : np rs = []
    · have := np_nil_mxd h
      have e3 := np_nil_nxt h
      rw [e3]
      simp only [mxd, depth, this]; omega
    · have := mxd_nxt rs h
      simp only [mxd, depth]; omega
  | .ul a b c i l :: rs, _ => by
    have e2 : mxd (nxt (.ul a b c i l :: rs)) = max (max (depth i) (depth l)) (mxd (nxt rs)) := by
      simp only [nxt, np, List.filterMap_cons, gNp, isPt, inn, lst, mxd_app]
      simp only [Bool.false_eq_true, if_false, List.filterMap_cons, inn, lst, mxd]
      omega
    rw [e2]
    by_cases h : np rs = []
    · have := np_nil_mxd h
      have e3 := np_nil_nxt h
      rw [e3]
      simp only [mxd, depth, this]; omega
    · have := mxd_nxt rs h
      simp only [mxd, depth]; omega
theorem szs_np : ∀ rs : List Rl, szs (np rs) = szs rs
  | [] => rfl
  | .pt :: rs => by have := szs_np rs; show szs (np rs) = _; simp [szs, size, this]
  | .un a b c i :: rs => by have := szs_np rs; show szs (.un a b c i :: np rs) = _; simp [szs, this]
  | .ul a b c i l :: rs => by have := szs_np rs; show szs (.ul a b c i l :: np rs) = _; simp [szs, this]
theorem len_np : ∀ rs : List Rl, (np rs).length ≤ szs rs
  | [] => Nat.zero_le _
  | .pt :: rs => by have := len_np rs; show (np rs).length ≤ _; simp [szs, size, this]
  | .un a b c i :: rs => by have := len_np rs; show (Rl.un a b c i :: np rs).length ≤ _; simp only [szs, size, List.length_cons]; omega
  | .ul a b c i l :: rs => by have := len_np rs; show (Rl.ul a b c i l :: np rs).length ≤ _; simp only [szs, size, List.length_cons]; omega
theorem szs_nxt (rs : List Rl) : szs (nxt rs) ≤ szs rs := by
  have key : ∀ l : List Rl, szs (l.filterMap inn) + szs (l.filterMap lst) ≤ szs l := by
    intro l
    induction l with
    | nil => exact Nat.zero_le _
    | cons r l ih =>
      cases r <;> simp only [List.filterMap_cons, inn, lst, szs, size] <;> omega
  have := key (np rs)
  have := szs_np rs
  simp only [nxt, szs_app]
  omega
theorem len_nxt (rs : List Rl) : (nxt rs).length ≤ 2 * (np rs).length := by
  have h1 := List.length_filterMap_le inn (np rs)
  have h2 := List.length_filterMap_le lst (np rs)
  simp only [nxt, List.length_append]
  omega
theorem np_mem {r : Rl} {rs : List Rl} (h : r ∈ np rs) : r ≠ .pt := by
  simp only [np, List.mem_filterMap, gNp] at h
  obtain ⟨a, _, e⟩ := h
  intro z
  subst z
  split at e
  · cases e
  · rename_i n; cases e; simp [isPt] at n
end M
namespace M
open PySem
/-- texts between single signs c, as lists of signs -/
def glue (c : Nat) : List (List Nat) → List Nat
  | [] => []
  | [x] => x
  | x :: r => x ++ c :: glue c r
theorem app_inj (c : Nat) : ∀ {a b x y : List Nat}, c ∉ a → c ∉ b → a ++ c :: x = b ++ c :: y → a = b ∧ x = y
  | [], [], x, y, _, _, h => ⟨rfl, by simpa using h⟩
  | [], z :: b, x, y, _, hb, h => by simp at h; exact absurd h.1 (fun e => hb (by simp [e]))
  | z :: a, [], x, y, ha, _, h => by simp at h; exact absurd h.1.symm (fun e => ha (by simp [e]))
  | z :: a, u :: b, x, y, ha, hb, h => by
    simp only [List.cons_append, List.cons.injEq] at h
    obtain ⟨rfl, h⟩ := h
    obtain ⟨rfl, rfl⟩ := app_inj c (fun m => ha (List.mem_cons_of_mem _ m)) (fun m => hb (List.mem_cons_of_mem _ m)) h
    exact ⟨rfl, rfl⟩
theorem glue_inj (c : Nat) : ∀ {a b : List (List Nat)}, a ≠ [] → b ≠ [] → (∀ x ∈ a, c ∉ x) → (∀ x ∈ b, c ∉ x) → glue c a = glue c b → a = b
  | [], _, h, _, _, _, _ => absurd rfl h
  | _, [], _, h, _, _, _ => absurd rfl h
  | [x], [y], _, _, _, _, h => by simp only [glue] at h; rw [h]
  | [x], y :: z :: r, _, _, ha, _, h => by
    simp only [glue] at h
    exact absurd (by rw [h]; simp) (ha x (List.mem_cons_self ..))
  | x :: z :: r, [y], _, _, _, hb, h => by
    simp only [glue] at h
    exact absurd (by rw [← h]; simp) (hb y (List.mem_cons_self ..))
  | x :: z :: r, y :: u :: q, _, _, ha, hb, h => by
    have e1 : glue c (x :: z :: r) = x ++ c :: glue c (z :: r) := rfl
    have e2 : glue c (y :: u :: q) = y ++ c :: glue c (u :: q) := rfl
    rw [e1, e2] at h
    obtain ⟨rfl, h2⟩ := app_inj c (ha _ (List.mem_cons_self ..)) (hb _ (List.mem_cons_self ..)) h
    rw [glue_inj c (by simp) (by simp) (fun x m => ha x (List.mem_cons_of_mem _ m)) (fun x m => hb x (List.mem_cons_of_mem _ m)) h2]
theorem cps_app (x y : Str) : (x ++ y).cps.toList = x.cps.toList ++ y.cps.toList := by
  show (x.cps ++ y.cps).toList = _
  simp
theorem join_glue (c : Nat) : ∀ ws : List Str, (Str.join ⟨#[c]⟩ ws).cps.toList = glue c (ws.map (·.cps.toList))
  | [] => rfl
  | [x] => rfl
  | x :: y :: r => by
    have e : Str.join ⟨#[c]⟩ (x :: y :: r) = x ++ ⟨#[c]⟩ ++ Str.join ⟨#[c]⟩ (y :: r) := rfl
    rw [e, cps_app, cps_app, join_glue c (y :: r)]
    simp [glue]
theorem str_ext {x y : Str} (h : x.cps.toList = y.cps.toList) : x = y := by
  cases x; cases y
  simp only [Str.mk.injEq]
  exact Array.toList_inj.mp h
theorem strs_inj : ∀ {a b : List Str}, a.map (·.cps.toList) = b.map (·.cps.toList) → a = b
  | [], [], _ => rfl
  | [], _ :: _, h => by simp at h
  | _ :: _, [], h => by simp at h
  | x :: a, y :: b, h => by
    simp only [List.map_cons, List.cons.injEq] at h
    rw [str_ext h.1, strs_inj h.2]
theorem split_ne (x y : Str) : Txt.split x y ≠ [] := by
  intro h
  unfold Txt.split at h
  split at h
  · cases h
  · split at h
    · cases h
    · rename_i c
      have := congrArg List.length h
      rw [length_partsBetween] at this
      simp at this
theorem split_join (c : Nat) {ws : List Str} (hn : ws ≠ []) (hf : ∀ x ∈ ws, c ∉ x.cps.toList) : Txt.split (Str.join ⟨#[c]⟩ ws) ⟨#[c]⟩ = ws := by
  have e := StrLaws.join_split (Str.join ⟨#[c]⟩ ws) ⟨#[c]⟩
  have f := StrLaws.split_free (Str.join ⟨#[c]⟩ ws) c
  refine strs_inj (glue_inj c ?_ ?_ ?_ ?_ ?_)
  · have := split_ne (Str.join ⟨#[c]⟩ ws) ⟨#[c]⟩
    simpa using this
  · simpa using hn
  · intro x hx
    obtain ⟨p, hp, rfl⟩ := List.mem_map.mp hx
    exact f p hp
  · intro x hx
    obtain ⟨p, hp, rfl⟩ := List.mem_map.mp hx
    exact hf p hp
  · rw [← join_glue, ← join_glue, e]
end M
namespace M
open PySem
def numS (i : Int) : Str := Str.ofString (toString i)
def numOk (i : Int) (x : Str) : Bool := (x.length == 1 || x.length == 2) && x.cps.all (fun c => 48 ≤ c && c ≤ 57) && (x.cps.getD 0 0 != 48) && (PySem.intText? x == some i)
theorem num_ok : ∀ n : Nat, n < 99 → numOk ((n : Int) + 1) (numS ((n : Int) + 1)) = true := by decide +kernel
end M
namespace M
open PySem
def wPoint : Str := Str.ofString "point"
def wUnit : Str := Str.ofString "unit"
def wDash : Str := Str.ofString "-"
def capS : Option Int → Str
  | none => wDash
  | some c => numS c
/-- the words of a rule -/
def words : Rl → List Str
  | .pt => [wPoint]
  | .un to lead cap i => [wUnit, numS to, numS lead, capS cap] ++ words i ++ [wDash]
  | .ul to lead cap i l => [wUnit, numS to, numS lead, numS cap] ++ words i ++ words l
theorem words_pos : ∀ r, 0 < (words r).length
  | .pt => by simp [words]
  | .un _ _ _ _ => by simp [words]
  | .ul _ _ _ _ _ => by simp [words]
theorem words_ne (r : Rl) : words r ≠ [] := fun h => by have := words_pos r; rw [h] at this; simp at this
theorem words_len : ∀ r, (words r).length ≤ 6 * size r + 1
  | .pt => by simp [words, size]
  | .un _ _ _ i => by have := words_len i; simp only [words, size, List.length_append, List.length_cons, List.length_nil]; omega
  | .ul _ _ _ i l => by have := words_len i; have := words_len l; simp only [words, size, List.length_append, List.length_cons, List.length_nil]; omega
theorem num_facts {i : Int} (h : Bd 1 i) : ((numS i).length = 1 ∨ (numS i).length = 2) ∧ (∀ c ∈ (numS i).cps.toList, 48 ≤ c ∧ c ≤ 57) ∧ (numS i).cps.getD 0 0 ≠ 48 ∧ PySem.intText? (numS i) = some i := by
  have := num_ok (i - 1).toNat (by have := h.1; have := h.2; omega)
  rw [show (((i - 1).toNat : Nat) : Int) + 1 = i by have := h.1; omega] at this
  simp only [numOk, Bool.and_eq_true, Bool.or_eq_true, beq_iff_eq, bne_iff_ne, Array.all_eq_true_iff_forall_mem, decide_eq_true_eq] at this
  obtain ⟨⟨⟨h1, h2⟩, h3⟩, h4⟩ := this
  exact ⟨h1, fun c hc => h2 c (by simpa using hc), h3, h4⟩
theorem num_free {i : Int} (h : Bd 1 i) : 32 ∉ (numS i).cps.toList := fun m => by have := (num_facts h).2.1 32 m; omega
theorem num_ne {i : Int} (h : Bd 1 i) {w : Str} (hw : ∃ c ∈ w.cps.toList, c < 48 ∨ 57 < c) : numS i ≠ w := fun e => by
  obtain ⟨c, hc, hb⟩ := hw
  rw [← e] at hc
  have := (num_facts h).2.1 c hc
  omega
theorem num_dash {i : Int} (h : Bd 1 i) : numS i ≠ wDash := num_ne h ⟨45, by decide +kernel, by decide⟩
theorem Bd.one {to c : Int} (h1 : 1 ≤ to) (h : Bd to c) : Bd 1 c := ⟨by have := h.1; omega, h.2⟩
theorem cap_free {to : Int} {cap : Option Int} (h1 : 1 ≤ to) (h : capOk to cap) : 32 ∉ (capS cap).cps.toList := by
  cases cap with
  | none => decide +kernel
  | some c => exact num_free (Bd.one h1 h)
theorem words_free : ∀ {r : Rl}, ok r → ∀ x ∈ words r, 32 ∉ x.cps.toList
  | .pt, _, x, h => by simp only [words, List.mem_singleton] at h; subst h; decide +kernel
  | .un to lead cap i, ⟨h1, h2, h3, h4⟩, x, h => by
    simp only [words, List.mem_append, List.mem_cons, List.not_mem_nil, or_false] at h
    rcases h with ((rfl | rfl | rfl | rfl) | h) | rfl
    · decide +kernel
    · exact num_free h1
    · exact num_free h2
    · exact cap_free h1.1 h3
    · exact words_free h4 x h
    · decide +kernel
  | .ul to lead cap i l, ⟨h1, h2, h3, h4, h5⟩, x, h => by
    simp only [words, List.mem_append, List.mem_cons, List.not_mem_nil, or_false] at h
    rcases h with ((rfl | rfl | rfl | rfl) | h) | h
    · decide +kernel
    · exact num_free h1
    · exact num_free h2
    · exact num_free (Bd.one h1.1 h3)
    · exact words_free h4 x h
    · exact words_free h5 x h
def blank : Str := ⟨#[32]⟩
theorem blank_eq : Str.ofString " " = blank := by decide +kernel
def text (r : Rl) : Str := Str.join blank (words r)
theorem split_text {r : Rl} (h : ok r) : Txt.split (text r) blank = words r := split_join 32 (words_ne r) (words_free h)
/-- a joined part stands for its words -/
theorem join_app (s : Str) : ∀ {a b : List Str}, a ≠ [] → b ≠ [] → Str.join s (a ++ b) = Str.join s a ++ s ++ Str.join s b
  | [], _, h, _ => absurd rfl h
  | [x], [], _, h => absurd rfl h
  | [x], y :: b, _, _ => rfl
  | x :: y :: a, b, _, hb => by
    have e := join_app s (a := y :: a) (b := b) (by simp) hb
    have e1 : Str.join s (x :: y :: a ++ b) = x ++ s ++ Str.join s (y :: a ++ b) := rfl
    have e2 : Str.join s (x :: y :: a) = x ++ s ++ Str.join s (y :: a) := rfl
    rw [e1, e, e2]
    apply str_ext
    simp only [cps_app, List.append_assoc]
theorem text_un (to lead : Int) (cap : Option Int) (i : Rl) : text (.un to lead cap i) = Str.join blank [wUnit, numS to, numS lead, capS cap, text i, wDash] := by
  show Str.join blank ([wUnit, numS to, numS lead, capS cap] ++ words i ++ [wDash]) = Str.join blank (([wUnit, numS to, numS lead, capS cap] ++ [text i]) ++ [wDash])
  rw [join_app _ (by simp) (by simp), join_app _ (by simp) (words_ne i), join_app _ (by simp) (by simp), join_app _ (by simp) (by simp)]
  rfl
theorem text_ul (to lead cap : Int) (i l : Rl) : text (.ul to lead cap i l) = Str.join blank [wUnit, numS to, numS lead, numS cap, text i, text l] := by
  show Str.join blank ([wUnit, numS to, numS lead, numS cap] ++ words i ++ words l) = Str.join blank (([wUnit, numS to, numS lead, numS cap] ++ [text i]) ++ [text l])
  rw [join_app _ (by simp) (words_ne l), join_app _ (by simp) (words_ne i), join_app _ (by simp) (by simp), join_app _ (by simp) (by simp)]
  rfl
theorem num_len {i : Int} (h : Bd 1 i) : (numS i).length ≤ 5 := by rcases (num_facts h).1 with e | e <;> omega
theorem cap_len {to : Int} {cap : Option Int} (h1 : 1 ≤ to) (h : capOk to cap) : (capS cap).length ≤ 5 := by
  cases cap with
  | none => decide +kernel
  | some c => exact num_len (Bd.one h1 h)
theorem words_short : ∀ {r : Rl}, ok r → ∀ x ∈ words r, x.length ≤ 5
  | .pt, _, x, h => by simp only [words, List.mem_singleton] at h; subst h; decide +kernel
  | .un to lead cap i, ⟨h1, h2, h3, h4⟩, x, h => by
    simp only [words, List.mem_append, List.mem_cons, List.not_mem_nil, or_false] at h
    rcases h with ((rfl | rfl | rfl | rfl) | h) | rfl
    · decide +kernel
    · exact num_len h1
    · exact num_len h2
    · exact cap_len h1.1 h3
    · exact words_short h4 x h
    · decide +kernel
  | .ul to lead cap i l, ⟨h1, h2, h3, h4, h5⟩, x, h => by
    simp only [words, List.mem_append, List.mem_cons, List.not_mem_nil, or_false] at h
    rcases h with ((rfl | rfl | rfl | rfl) | h) | h
    · decide +kernel
    · exact num_len h1
    · exact num_len h2
    · exact num_len (Bd.one h1.1 h3)
    · exact words_short h4 x h
    · exact words_short h5 x h
end M
namespace M
open PySem
theorem join_ok {ws : List Str} {n m : Nat} (h : ∀ x ∈ ws, x.length ≤ n) (hl : ws.length ≤ m) (hz : m * n + m ≤ 1000000) : JoinOk blank ws = true := by
  unfold JoinOk
  rw [Bool.not_eq_true']
  show decide (_ > sizeLine) = false
  rw [StrLaws.joinTotal]
  have h1 : ∀ l : List Str, (∀ x ∈ l, x.length ≤ n) → (l.map (·.length)).sum ≤ l.length * n := by
    intro l
    induction l with
    | nil => intro _; simp
    | cons x l ih =>
      intro hx
      have := ih fun y hy => hx y (List.mem_cons_of_mem _ hy)
      have := hx x (List.mem_cons_self ..)
      simp only [List.map_cons, List.sum_cons, List.length_cons, Nat.succ_mul]
      omega
  have h2 := h1 ws h
  have h3 : ws.length * n ≤ m * n := Nat.mul_le_mul_right n hl
  have h4 : blank.length = 1 := rfl
  rw [h4]
  apply decide_eq_false
  have : sizeLine = 16777216 := rfl
  omega
theorem text_len {r : Rl} (h : ok r) (hs : size r ≤ 20) : (text r).length ≤ 1000 := by
  have h1 := StrLaws.join_length_le blank (words r)
  have h2 := words_len r
  have h4 : blank.length = 1 := rfl
  have h3 : ∀ l : List Str, (∀ x ∈ l, x.length ≤ 5) → (l.map (·.length)).sum ≤ l.length * 5 := by
    intro l
    induction l with
    | nil => intro _; simp
    | cons x l ih =>
      intro hx
      have := ih fun y hy => hx y (List.mem_cons_of_mem _ hy)
      have := hx x (List.mem_cons_self ..)
      simp only [List.map_cons, List.sum_cons, List.length_cons, Nat.succ_mul]
      omega
  have := h3 _ (words_short h)
  unfold text
  rw [h4] at h1
  omega
end M
namespace M
open PySem
def lastD : Option Rl → PyData
  | none => .none
  | some l => enc l
def lastW : Option Rl → List Str
  | none => [wDash]
  | some l => words l
def lastT : Option Rl → Str
  | none => wDash
  | some l => text l
def lastDp : Option Rl → Nat
  | none => 0
  | some l => depth l
def lastSz : Option Rl → Nat
  | none => 0
  | some l => size l
/-- a unit, seen whole -/
structure Vw (rl : Rl) (to lead : Int) (cap : Option Int) (i : Rl) (l : Option Rl) : Prop where
  enc : enc rl = unitD (.int to) (.int lead) (capD cap) (enc i) (lastD l)
  words : words rl = [wUnit, numS to, numS lead, capS cap] ++ words i ++ lastW l
  text : text rl = Str.join blank [wUnit, numS to, numS lead, capS cap, text i, lastT l]
  hto : Bd 1 to
  hlead : Bd 1 lead
  hcap : capOk to cap
  hi : ok i
  hl : ∀ r, l = some r → ok r
  cl : cap = none → l = none
  depth : depth rl = max (depth i) (lastDp l) + 1
  size : size rl = 1 + size i + lastSz l
theorem vw_of {rl : Rl} (h : ok rl) (hne : rl ≠ .pt) : ∃ to lead cap i l, Vw rl to lead cap i l := by
  cases rl with
  | pt => exact absurd rfl hne
  | un to lead cap i =>
    exact ⟨to, lead, cap, i, none, rfl, rfl, text_un .., h.1, h.2.1, h.2.2.1, h.2.2.2, fun r e => (by cases e), fun _ => rfl, by simp [M.depth, lastDp], by simp [M.size, lastSz]⟩
  | ul to lead cap i l =>
    exact ⟨to, lead, some cap, i, some l, rfl, rfl, text_ul .., h.1, h.2.1, h.2.2.1, h.2.2.2.1, fun r e => (by cases e; exact h.2.2.2.2), fun e => (by cases e), by simp [M.depth, lastDp], by simp [M.size, lastSz]⟩
theorem lastW_ne (l : Option Rl) : lastW l ≠ [] := by
  cases l with
  | none => simp [lastW]
  | some l => exact words_ne l
theorem log_small {i : Int} (h : Bd 1 i) : i.natAbs.log2 < 1920 := by
  have := Nat.log2_le_self i.natAbs
  have := h.1
  have := h.2
  omega
end M
namespace M
/-! ### rallies: stands, what is played, what a rally does -/
inductive Sd where
  | nil
  | cn (z o : Int) (w : Sd)
deriving DecidableEq
def toR : Rl → Int
  | .pt => 1
  | .un t _ _ _ => t
  | .ul t _ _ _ _ => t
def leadR : Rl → Int
  | .pt => 1
  | .un _ t _ _ => t
  | .ul _ t _ _ _ => t
def capR : Rl → Option Int
  | .pt => none
  | .un _ _ c _ => c
  | .ul _ _ c _ _ => some c
def innR : Rl → Rl
  | .pt => .pt
  | .un _ _ _ i => i
  | .ul _ _ _ i _ => i
def lastR : Rl → Option Rl
  | .pt => none
  | .un _ _ _ _ => none
  | .ul _ _ _ _ l => some l
/-- both counts are one below the cap -/
def atCap (c : Option Int) (z o : Int) : Bool := decide (c = some (z + 1)) && decide (c = some (o + 1))
def now (r : Rl) (z o : Int) : Rl := match lastR r with
  | none => innR r
  | some l => if atCap (capR r) z o then l else innR r
def won (r : Rl) (z o : Int) : Bool := decide (capR r = some (max z o)) || (decide (toR r ≤ max z o) && (decide (leadR r ≤ z - o) || decide (leadR r ≤ o - z)))
def begn : Rl → Sd
  | .pt => .nil
  | .un _ _ _ i => .cn 0 0 (begn i)
  | .ul _ _ c i l => .cn 0 0 (if atCap (some c) 0 0 then begn l else begn i)
def bumpZ (z : Int) (b : Bool) : Int := if b then z else z + 1
def bumpO (o : Int) (b : Bool) : Int := if b then o + 1 else o
def stepU (r : Rl) (z o : Int) (res : Sd × Bool) (b : Bool) : Sd × Bool :=
  if res.2 then (if won r (bumpZ z b) (bumpO o b) then (.cn (bumpZ z b) (bumpO o b) .nil, true) else (.cn (bumpZ z b) (bumpO o b) (begn (now r (bumpZ z b) (bumpO o b))), false)) else (.cn z o res.1, false)
def ral : Rl → Sd → Bool → Sd × Bool
  | .pt, _, _ => (.nil, true)
  | .un to lead cap i, .cn z o w, b => stepU (.un to lead cap i) z o (ral i w b) b
  | .ul to lead c i l, .cn z o w, b => stepU (.ul to lead c i l) z o (if atCap (some c) z o then ral l w b else ral i w b) b
  | _, .nil, _ => (.nil, false)
def off (r : Rl) (m : Int) : Int := if capR r = none then max 0 (m - (toR r - 1)) else 0
def cutS : Rl → Sd → Sd
  | _, .nil => .nil
  | r, .cn z o w => .cn (z - off r (min z o)) (o - off r (min z o)) (cutS (now r z o) w)
def stk : Rl → Sd → Bool → Nat
  | _, .nil, _ => 0
  | r, .cn z o w, b => stk (now r z o) w b + (if (ral r (.cn z o w) b).2 then 1 else 0)
theorem now_un {a b c i z o} : now (.un a b c i) z o = i := rfl
theorem now_ul {a b c i l z o} : now (.ul a b c i l) z o = if atCap (some c) z o then l else i := rfl
theorem begn_unit {r : Rl} (h : r ≠ .pt) : begn r = .cn 0 0 (begn (now r 0 0)) := by
  cases r with
  | pt => exact absurd rfl h
  | un a b c i => rfl
  | ul a b c i l => simp only [begn, now_ul]; split <;> rfl
theorem ral_unit {r : Rl} (h : r ≠ .pt) (z o : Int) (w : Sd) (b : Bool) : ral r (.cn z o w) b = stepU r z o (ral (now r z o) w b) b := by
  cases r with
  | pt => exact absurd rfl h
  | un a b c i => simp only [ral, now_un]
  | ul a b c i l =>
    simp only [ral, now_ul]
    split <;> rfl
theorem stk_unit (r : Rl) (z o : Int) (w : Sd) (b : Bool) : stk r (.cn z o w) b = stk (now r z o) w b + (if (ral r (.cn z o w) b).2 then 1 else 0) := rfl
theorem depth_now {r : Rl} (h : r ≠ .pt) (z o : Int) : depth (now r z o) < depth r := by
  cases r with
  | pt => exact absurd rfl h
  | un a b c i => simp only [now_un, depth]; omega
  | ul a b c i l =>
    simp only [now_ul, depth]
    split <;> omega
theorem ok_now {r : Rl} (h : ok r) (z o : Int) : ok (now r z o) := by
  cases r with
  | pt => exact h
  | un a b c i => exact h.2.2.2
  | ul a b c i l =>
    rw [now_ul]
    split
    · exact h.2.2.2.2
    · exact h.2.2.2.1
theorem ok_unit {r : Rl} (h : ok r) (hn : r ≠ .pt) : Bd 1 (toR r) ∧ Bd 1 (leadR r) ∧ capOk (toR r) (capR r) ∧ ok (innR r) ∧ (∀ l, lastR r = some l → ok l) ∧ (capR r = none → lastR r = none) := by
  cases r with
  | pt => exact absurd rfl hn
  | un a b c i => exact ⟨h.1, h.2.1, h.2.2.1, h.2.2.2, fun l e => (by cases e), fun _ => rfl⟩
  | ul a b c i l => exact ⟨h.1, h.2.1, h.2.2.1, h.2.2.2.1, fun l e => (by cases e; exact h.2.2.2.2), fun e => (by cases e)⟩
/-! stands that are not won -/
def NotWon (r : Rl) (z o : Int) : Prop := (∀ c, capR r = some c → z < c ∧ o < c) ∧ ¬ (toR r ≤ z ∧ leadR r ≤ z - o) ∧ ¬ (toR r ≤ o ∧ leadR r ≤ o - z)
def Live : Rl → Sd → Prop
  | r, .nil => r = .pt
  | r, .cn z o w => r ≠ .pt ∧ 0 ≤ z ∧ 0 ≤ o ∧ NotWon r z o ∧ Live (now r z o) w
theorem nw0 {r : Rl} (h : ok r) (hn : r ≠ .pt) : NotWon r 0 0 := by
  obtain ⟨⟨h1, _⟩, ⟨h2, _⟩, h3, _⟩ := ok_unit h hn
  refine ⟨fun c e => ?_, by omega, by omega⟩
  rw [e] at h3
  have := h3.1
  omega
theorem live_begn : ∀ (n : Nat) {r : Rl}, depth r ≤ n → ok r → Live r (begn r)
  | n, r, hd, h => by
    by_cases hn : r = .pt
    · subst hn; exact rfl
    · rw [begn_unit hn]
      have hdn := depth_now hn 0 0
      cases n with
      | zero => omega
      | succ n => exact ⟨hn, Int.le_refl _, Int.le_refl _, nw0 h hn, live_begn n (by omega) (ok_now h 0 0)⟩
theorem live0 {r : Rl} (h : ok r) : Live r (begn r) := live_begn _ (Nat.le_refl _) h
theorem won_iff {r : Rl} {z o : Int} : won r z o = true ↔ capR r = some (max z o) ∨ (toR r ≤ max z o ∧ (leadR r ≤ z - o ∨ leadR r ≤ o - z)) := by
  simp only [won, Bool.or_eq_true, Bool.and_eq_true, decide_eq_true_eq]
theorem nw_bump {r : Rl} {z o : Int} {b : Bool} (h : NotWon r z o) (hw : won r (bumpZ z b) (bumpO o b) = false) : NotWon r (bumpZ z b) (bumpO o b) := by
  have hw' : ¬ (capR r = some (max (bumpZ z b) (bumpO o b)) ∨ (toR r ≤ max (bumpZ z b) (bumpO o b) ∧ (leadR r ≤ bumpZ z b - bumpO o b ∨ leadR r ≤ bumpO o b - bumpZ z b))) := by
    rw [← won_iff, hw]; simp
  obtain ⟨h1, h2, h3⟩ := h
  have a1 : ¬ capR r = some (max (bumpZ z b) (bumpO o b)) := fun e => hw' (.inl e)
  have a2 : ¬ (toR r ≤ max (bumpZ z b) (bumpO o b) ∧ (leadR r ≤ bumpZ z b - bumpO o b ∨ leadR r ≤ bumpO o b - bumpZ z b)) := fun e => hw' (.inr e)
  clear hw hw'
  refine ⟨fun c e => ?_, ?_, ?_⟩
  · have := h1 c e
    rw [e] at a1
    have a1' : c ≠ max (bumpZ z b) (bumpO o b) := fun z => a1 (by rw [z])
    cases b <;> simp only [bumpZ, bumpO, if_true, if_false, Bool.false_eq_true] at * <;> omega
  · cases b <;> simp only [bumpZ, bumpO, if_true, if_false, Bool.false_eq_true] at * <;> omega
  · cases b <;> simp only [bumpZ, bumpO, if_true, if_false, Bool.false_eq_true] at * <;> omega
theorem live_ral : ∀ {s : Sd} {r : Rl} {b : Bool}, ok r → Live r s → (ral r s b).2 = false → Live r (ral r s b).1
  | .nil, r, b, h, hl, e => by
    have : r = .pt := hl
    subst this
    simp [ral] at e
  | .cn z o w, r, b, h, hl, e => by
    obtain ⟨hn, z0, o0, nw, lw⟩ := hl
    have ih := live_ral (b := b) (ok_now h z o) lw
    rw [ral_unit hn] at e ⊢
    unfold stepU at e ⊢
    split at e
    · rename_i c
      rw [if_pos c]
      split at e
      · simp at e
      · rename_i c2
        rw [if_neg c2]
        have hw : won r (bumpZ z b) (bumpO o b) = false := by simpa using c2
        exact ⟨hn, by unfold bumpZ; split <;> omega, by unfold bumpO; split <;> omega, nw_bump nw hw, live0 (ok_now h _ _)⟩
    · rename_i c
      rw [if_neg c]
      exact ⟨hn, z0, o0, nw, ih (by simpa using c)⟩
/-- the law's own look: the side that has won the rally -/
def lawWon (r : Rl) (own other : Int) : Bool := (match capR r with
  | none => false
  | some c => decide (c ≤ own)) || (decide (toR r ≤ own) && decide (leadR r ≤ own - other))
theorem lawWon_iff {r : Rl} {own other : Int} : lawWon r own other = true ↔ (∃ c, capR r = some c ∧ c ≤ own) ∨ (toR r ≤ own ∧ leadR r ≤ own - other) := by
  unfold lawWon
  cases e : capR r with
  | none => simp
  | some c => simp
theorem lawWon_eq {r : Rl} {z o : Int} (hok : ok r) (hn : r ≠ .pt) (h : NotWon r z o) (b : Bool) : lawWon r (if b then o + 1 else z + 1) (if b then z else o) = won r (bumpZ z b) (bumpO o b) := by
  obtain ⟨_, ⟨l1, _⟩, _⟩ := ok_unit hok hn
  obtain ⟨h1, h2, h3⟩ := h
  have : lawWon r (if b then o + 1 else z + 1) (if b then z else o) = true ↔ won r (bumpZ z b) (bumpO o b) = true := by
    rw [lawWon_iff, won_iff]
    cases e : capR r with
    | none =>
      cases b <;> simp only [bumpZ, bumpO, if_true, if_false, Bool.false_eq_true] at * <;> constructor
      · rintro (⟨c, e', _⟩ | h)
        · cases e'
        · right; omega
      · rintro (e' | h)
        · cases e'
        · right; omega
      · rintro (⟨c, e', _⟩ | h)
        · cases e'
        · right; omega
      · rintro (e' | h)
        · cases e'
        · right; omega
    | some c =>
      have := h1 c e
      cases b <;> simp only [bumpZ, bumpO, if_true, if_false, Bool.false_eq_true, Option.some.injEq] at * <;> constructor
      · rintro (⟨c', e', _⟩ | h)
        · subst e'; left; omega
        · right; omega
      · rintro (e' | h)
        · left; exact ⟨_, rfl, by omega⟩
        · right; omega
      · rintro (⟨c', e', _⟩ | h)
        · subst e'; left; omega
        · right; omega
      · rintro (e' | h)
        · left; exact ⟨_, rfl, by omega⟩
        · right; omega
  cases e1 : lawWon r (if b then o + 1 else z + 1) (if b then z else o) <;> cases e2 : won r (bumpZ z b) (bumpO o b) <;> simp_all
/-! a row of rallies, walked -/
structure Out where
  sd : Sd
  side : Option Bool
  at_ : Nat
  ends : List Nat
def walk (r : Rl) : Nat → Sd → List Bool → Out
  | p, s, [] => ⟨s, none, p, []⟩
  | p, s, b :: row =>
    if (ral r s b).2 then ⟨(ral r s b).1, some b, p + 1, List.replicate (stk r s b) (p + 1)⟩
    else ⟨(walk r (p + 1) (ral r s b).1 row).sd, (walk r (p + 1) (ral r s b).1 row).side, (walk r (p + 1) (ral r s b).1 row).at_, List.replicate (stk r s b) (p + 1) ++ (walk r (p + 1) (ral r s b).1 row).ends⟩
theorem walk_nil (r : Rl) (p : Nat) (s : Sd) : walk r p s [] = ⟨s, none, p, []⟩ := rfl
theorem walk_won {r : Rl} {p : Nat} {s : Sd} {b : Bool} {row : List Bool} (h : (ral r s b).2 = true) : walk r p s (b :: row) = ⟨(ral r s b).1, some b, p + 1, List.replicate (stk r s b) (p + 1)⟩ := by
  rw [walk, if_pos h]
theorem walk_on {r : Rl} {p : Nat} {s : Sd} {b : Bool} {row : List Bool} (h : (ral r s b).2 = false) : walk r p s (b :: row) = ⟨(walk r (p + 1) (ral r s b).1 row).sd, (walk r (p + 1) (ral r s b).1 row).side, (walk r (p + 1) (ral r s b).1 row).at_, List.replicate (stk r s b) (p + 1) ++ (walk r (p + 1) (ral r s b).1 row).ends⟩ := by
  rw [walk, if_neg (by rw [h]; simp)]
theorem walk_at {r : Rl} : ∀ {row : List Bool} {p : Nat} {s : Sd}, p ≤ (walk r p s row).at_ ∧ (walk r p s row).at_ ≤ p + row.length ∧ ((walk r p s row).side = none → (walk r p s row).at_ = p + row.length) ∧ ((walk r p s row).side ≠ none → p < (walk r p s row).at_)
  | [], p, s => by simp [walk_nil]
  | b :: row, p, s => by
    cases e : (ral r s b).2 with
    | true => rw [walk_won e]; simp
    | false =>
      rw [walk_on e]
      have := walk_at (r := r) (row := row) (p := p + 1) (s := (ral r s b).1)
      simp only [List.length_cons]
      obtain ⟨h1, h2, h3, h4⟩ := this
      exact ⟨by omega, by omega, fun z => by have := h3 z; omega, fun z => by have := h4 z; omega⟩
theorem stk_le : ∀ {s : Sd} {r : Rl} {b : Bool}, stk r s b ≤ depth r ∨ ¬ Live r s
  | .nil, r, b => by left; simp [stk]
  | .cn z o w, r, b => by
    by_cases h : Live r (.cn z o w)
    · obtain ⟨hn, _, _, _, lw⟩ := h
      rcases stk_le (s := w) (r := now r z o) (b := b) with h | h
      · left
        have := depth_now hn z o
        rw [stk_unit]
        split <;> omega
      · exact absurd lw h
    · exact .inr h
theorem ends_len {r : Rl} (hok : ok r) : ∀ {row : List Bool} {p : Nat} {s : Sd}, Live r s → (walk r p s row).ends.length ≤ depth r * ((walk r p s row).at_ - p)
  | [], p, s, _ => by simp [walk_nil]
  | b :: row, p, s, hl => by
    have hs : stk r s b ≤ depth r := by
      rcases stk_le (s := s) (r := r) (b := b) with h | h
      · exact h
      · exact absurd hl h
    cases e : (ral r s b).2 with
    | true =>
      rw [walk_won e]
      simp only [List.length_replicate]
      have : p + 1 - p = 1 := by omega
      rw [this]; omega
    | false =>
      have ih := ends_len hok (row := row) (p := p + 1) (live_ral hok hl e)
      have ha := (walk_at (r := r) (row := row) (p := p + 1) (s := (ral r s b).1)).1
      rw [walk_on e]
      simp only [List.length_append, List.length_replicate]
      have : (walk r (p + 1) (ral r s b).1 row).at_ - p = ((walk r (p + 1) (ral r s b).1 row).at_ - (p + 1)) + 1 := by omega
      rw [this, Nat.mul_add]
      omega
/-- a unit: what is within it, to its end; then the counts, then on -/
theorem walk_unit {r : Rl} (hn : r ≠ .pt) : ∀ {row : List Bool} {p : Nat} {z o : Int} {w : Sd}, walk r p (.cn z o w) row =
    match (walk (now r z o) p w row).side with
    | none => ⟨.cn z o (walk (now r z o) p w row).sd, none, (walk (now r z o) p w row).at_, (walk (now r z o) p w row).ends⟩
    | some b => if won r (bumpZ z b) (bumpO o b) then ⟨.cn (bumpZ z b) (bumpO o b) .nil, some b, (walk (now r z o) p w row).at_, (walk (now r z o) p w row).ends ++ [(walk (now r z o) p w row).at_]⟩
      else let q := walk r (walk (now r z o) p w row).at_ (.cn (bumpZ z b) (bumpO o b) (begn (now r (bumpZ z b) (bumpO o b)))) (row.drop ((walk (now r z o) p w row).at_ - p))
        ⟨q.sd, q.side, q.at_, (walk (now r z o) p w row).ends ++ q.ends⟩
  | [], p, z, o, w => by simp [walk_nil]
  | b :: row, p, z, o, w => by
    have hr := ral_unit hn z o w b
    cases e : (ral (now r z o) w b).2 with
    | false =>
      have e1 : ral r (.cn z o w) b = (.cn z o (ral (now r z o) w b).1, false) := by rw [hr]; unfold stepU; rw [if_neg (by rw [e]; simp)]
      have e2 : stk r (.cn z o w) b = stk (now r z o) w b := by rw [stk_unit, e1]; simp
      rw [walk_on (r := r) (by rw [e1]), walk_on (r := now r z o) e, e1, e2]
      dsimp only
      have ih := walk_unit hn (row := row) (p := p + 1) (z := z) (o := o) (w := (ral (now r z o) w b).1)
      rw [ih]
      have ha := (walk_at (r := now r z o) (row := row) (p := p + 1) (s := (ral (now r z o) w b).1)).1
      cases es : (walk (now r z o) (p + 1) (ral (now r z o) w b).1 row).side with
      | none => rfl
      | some b' =>
        dsimp only
        by_cases cw : won r (bumpZ z b') (bumpO o b') = true
        · rw [if_pos cw, if_pos cw]; simp
        · rw [if_neg cw, if_neg cw]
          have : (b :: row).drop ((walk (now r z o) (p + 1) (ral (now r z o) w b).1 row).at_ - p) = row.drop ((walk (now r z o) (p + 1) (ral (now r z o) w b).1 row).at_ - (p + 1)) := by
            rw [show (walk (now r z o) (p + 1) (ral (now r z o) w b).1 row).at_ - p = ((walk (now r z o) (p + 1) (ral (now r z o) w b).1 row).at_ - (p + 1)) + 1 by omega]
            rfl
          rw [this]
          simp
    | true =>
      have e1 : ral r (.cn z o w) b = (if won r (bumpZ z b) (bumpO o b) then (.cn (bumpZ z b) (bumpO o b) .nil, true) else (.cn (bumpZ z b) (bumpO o b) (begn (now r (bumpZ z b) (bumpO o b))), false)) := by rw [hr]; unfold stepU; rw [if_pos e]
      rw [walk_won (r := now r z o) e]
      dsimp only
      by_cases cw : won r (bumpZ z b) (bumpO o b) = true
      · rw [if_pos cw] at e1
        have e2 : stk r (.cn z o w) b = stk (now r z o) w b + 1 := by rw [stk_unit, e1]; simp
        rw [walk_won (r := r) (by rw [e1]), e1, e2, if_pos cw]
        simp [List.replicate_succ']
      · rw [if_neg cw] at e1
        have e2 : stk r (.cn z o w) b = stk (now r z o) w b := by rw [stk_unit, e1]; simp
        rw [walk_on (r := r) (by rw [e1]), e1, e2, if_neg cw]
        rw [show p + 1 - p = 1 by omega]
        rfl
theorem walk_pt {p : Nat} {b : Bool} {row : List Bool} : walk .pt p .nil (b :: row) = ⟨.nil, some b, p + 1, []⟩ := rfl
/-- the walk, rally by rally -/
theorem walk_step {r : Rl} : ∀ {row : List Bool} {p : Nat} {s : Sd} {k : Nat} (hk : k < (walk r p s row).at_ - p), ∃ (h : k < row.length), (walk r p s (row.take k)).side = none ∧ (walk r p s (row.take k)).at_ = p + k ∧
      ral r (walk r p s (row.take k)).sd row[k] = ((walk r p s (row.take (k + 1))).sd, (walk r p s row).side.isSome && decide (p + k + 1 = (walk r p s row).at_)) ∧
      (walk r p s (row.take (k + 1))).ends = (walk r p s (row.take k)).ends ++ List.replicate (stk r (walk r p s (row.take k)).sd row[k]) (p + k + 1)
  | [], p, s, k, hk => by simp [walk_nil] at hk
  | b :: row, p, s, 0, hk => by
    refine ⟨by simp, rfl, rfl, ?_, ?_⟩
    · simp only [List.take_zero, walk_nil, List.getElem_cons_zero, Nat.zero_add, List.take_succ_cons]
      cases e : (ral r s b).2 with
      | true => rw [walk_won e, walk_won e]; simp; exact Prod.ext rfl e
      | false =>
        rw [walk_on e, walk_on e]
        simp only [walk_nil]
        refine Prod.ext rfl ?_
        rw [e]
        have := walk_at (r := r) (row := row) (p := p + 1) (s := (ral r s b).1)
        symm
        rw [Bool.and_eq_false_iff]
        by_cases c : (walk r (p + 1) (ral r s b).1 row).side = none
        · left; rw [c]; rfl
        · right
          have := this.2.2.2 c
          simp; omega
    · simp only [List.take_zero, walk_nil, List.getElem_cons_zero, Nat.zero_add, List.take_succ_cons, List.nil_append, Nat.add_zero]
      cases e : (ral r s b).2 with
      | true => rw [walk_won e]
      | false => rw [walk_on e]; simp [walk_nil]
  | b :: row, p, s, k + 1, hk => by
    cases e : (ral r s b).2 with
    | true => rw [walk_won e] at hk; dsimp only at hk; omega
    | false =>
      have hk' : k < (walk r (p + 1) (ral r s b).1 row).at_ - (p + 1) := by rw [walk_on e] at hk; dsimp only at hk; omega
      obtain ⟨h, h1, h2, h3, h4⟩ := walk_step (r := r) (row := row) (p := p + 1) (s := (ral r s b).1) (k := k) hk'
      refine ⟨by simp; omega, ?_, ?_, ?_, ?_⟩
      · rw [List.take_succ_cons, walk_on e]; exact h1
      · rw [List.take_succ_cons, walk_on e]; dsimp only; omega
      · rw [List.take_succ_cons, List.take_succ_cons, walk_on e, walk_on e, walk_on e]
        simp only [List.getElem_cons_succ]
        rw [h3]
        rw [show p + 1 + k + 1 = p + (k + 1) + 1 by omega]
      · rw [List.take_succ_cons, List.take_succ_cons, walk_on e, walk_on e]
        simp only [List.getElem_cons_succ]
        rw [h4, List.append_assoc]
        rw [show p + 1 + k + 1 = p + (k + 1) + 1 by omega]
theorem walk_live {r : Rl} (hok : ok r) : ∀ {row : List Bool} {p : Nat} {s : Sd}, Live r s → (walk r p s row).side = none → Live r (walk r p s row).sd
  | [], p, s, h, _ => h
  | b :: row, p, s, h, e => by
    cases e1 : (ral r s b).2 with
    | true => rw [walk_won e1] at e; cases e
    | false =>
      rw [walk_on e1] at e ⊢
      exact walk_live hok (live_ral hok h e1) e
theorem walk_take {r : Rl} : ∀ {row : List Bool} {p : Nat} {s : Sd}, walk r p s (row.take ((walk r p s row).at_ - p)) = walk r p s row
  | [], p, s => by simp [walk_nil]
  | b :: row, p, s => by
    cases e : (ral r s b).2 with
    | true =>
      have : (walk r p s (b :: row)).at_ - p = 0 + 1 := by rw [walk_won e]; dsimp only; omega
      rw [this, List.take_succ_cons, walk_won e, walk_won e]
    | false =>
      have ha := (walk_at (r := r) (row := row) (p := p + 1) (s := (ral r s b).1)).1
      have : (walk r p s (b :: row)).at_ - p = ((walk r (p + 1) (ral r s b).1 row).at_ - (p + 1)) + 1 := by rw [walk_on e]; dsimp only; omega
      rw [this, List.take_succ_cons, walk_on e, walk_on e, walk_take (row := row)]
end M
namespace M
theorem cap_last {r : Rl} (h : capR r = none) : lastR r = none := by
  cases r with
  | pt => rfl
  | un a b c i => rfl
  | ul a b c i l => cases h
theorem now_inn {r : Rl} (h : capR r = none) (z o : Int) : now r z o = innR r := by unfold now; rw [cap_last h]
theorem off_none {r : Rl} (h : capR r = none) (m : Int) : off r m = max 0 (m - (toR r - 1)) := by unfold off; rw [if_pos h]
theorem off_some {r : Rl} (h : capR r ≠ none) (m : Int) : off r m = 0 := by unfold off; rw [if_neg h]
theorem now_cut (r : Rl) (z o m : Int) : now r (z - off r m) (o - off r m) = now r z o := by
  by_cases h : capR r = none
  · rw [now_inn h, now_inn h]
  · rw [off_some h]; simp
theorem cut_idem : ∀ (s : Sd) (r : Rl), cutS r (cutS r s) = cutS r s
  | .nil, r => rfl
  | .cn z o w, r => by
    simp only [cutS, now_cut, cut_idem w]
    by_cases h : capR r = none
    · simp only [off_none h]
      congr 1 <;> omega
    · simp only [off_some h]
      congr 1 <;> omega
/-- the stand is of the rule, whatever it has come to -/
def Shp : Rl → Sd → Prop
  | _, .nil => True
  | r, .cn z o w => r ≠ .pt ∧ 0 ≤ z ∧ 0 ≤ o ∧ Shp (now r z o) w
theorem Live.shp : ∀ {s : Sd} {r : Rl}, Live r s → Shp r s
  | .nil, r, _ => trivial
  | .cn z o w, r, ⟨h1, h2, h3, _, h4⟩ => ⟨h1, h2, h3, Live.shp h4⟩
theorem Live.nil_iff {s : Sd} {r : Rl} (h : Live r s) : s = .nil ↔ r = .pt := by
  cases s with
  | nil => exact ⟨fun _ => h, fun _ => rfl⟩
  | cn z o w => exact ⟨fun e => (by cases e), fun e => absurd e h.1⟩
theorem bump_nonneg {z o : Int} (b : Bool) (hz : 0 ≤ z) (ho : 0 ≤ o) : 0 ≤ bumpZ z b ∧ 0 ≤ bumpO o b := by
  cases b <;> simp only [bumpZ, bumpO, if_true, if_false, Bool.false_eq_true] <;> omega
theorem ral_shp {s : Sd} {r : Rl} {b : Bool} (hok : ok r) (h : Live r s) : Shp r (ral r s b).1 ∧ (s = .nil → (ral r s b).1 = .nil) ∧ (r ≠ .pt → (ral r s b).1 ≠ .nil) := by
  cases s with
  | nil =>
    have : r = .pt := h
    subst this
    exact ⟨trivial, fun _ => rfl, fun e => absurd rfl e⟩
  | cn z o w =>
    obtain ⟨hn, z0, o0, nw, lw⟩ := h
    have hb := bump_nonneg b z0 o0
    refine ⟨?_, fun e => (by cases e), fun _ => ?_⟩
    · cases e : (ral r (.cn z o w) b).2 with
      | false => exact (live_ral hok (s := .cn z o w) ⟨hn, z0, o0, nw, lw⟩ e).shp
      | true =>
        rw [ral_unit hn] at e ⊢
        unfold stepU at e ⊢
        split at e
        · rename_i c
          rw [if_pos c]
          split at e
          · rename_i c2
            rw [if_pos c2]
            exact ⟨hn, hb.1, hb.2, trivial⟩
          · simp at e
        · simp at e
    · rw [ral_unit hn]
      unfold stepU
      split
      · split <;> (intro e; cases e)
      · intro e; cases e
theorem cut_nil {s : Sd} {r : Rl} : cutS r s = .nil ↔ s = .nil := by
  cases s with
  | nil => exact ⟨fun _ => rfl, fun _ => rfl⟩
  | cn z o w => exact ⟨fun e => (by cases e), fun e => (by cases e)⟩
theorem cut_live : ∀ {s : Sd} {r : Rl}, ok r → Live r s → Live r (cutS r s)
  | .nil, r, _, h => h
  | .cn z o w, r, hok, ⟨hn, z0, o0, ⟨n1, n2, n3⟩, lw⟩ => by
    obtain ⟨⟨t1, _⟩, ⟨l1, _⟩, _⟩ := ok_unit hok hn
    have ih := cut_live (ok_now hok z o) lw
    simp only [cutS]
    by_cases h : capR r = none
    · refine ⟨hn, ?_, ?_, ⟨fun c e => (by rw [h] at e; cases e), ?_, ?_⟩, by rw [now_cut]; exact ih⟩ <;> rw [off_none h] <;> omega
    · refine ⟨hn, ?_, ?_, ⟨fun c e => ?_, ?_, ?_⟩, by rw [now_cut]; exact ih⟩
      · rw [off_some h]; omega
      · rw [off_some h]; omega
      · have := n1 c e; rw [off_some h]; omega
      · rw [off_some h]; omega
      · rw [off_some h]; omega
theorem shp_cut : ∀ {s : Sd} {r : Rl}, ok r → Shp r s → Shp r (cutS r s)
  | .nil, r, _, h => h
  | .cn z o w, r, hok, ⟨hn, z0, o0, lw⟩ => by
    obtain ⟨⟨t1, _⟩, _⟩ := ok_unit hok hn
    have ih := shp_cut (ok_now hok z o) lw
    simp only [cutS]
    refine ⟨hn, ?_, ?_, by rw [now_cut]; exact ih⟩
    · by_cases h : capR r = none
      · rw [off_none h]; omega
      · rw [off_some h]; omega
    · by_cases h : capR r = none
      · rw [off_none h]; omega
      · rw [off_some h]; omega
/-- of two stands that are cut to one, each rally does the same -/
theorem one_future {b : Bool} : ∀ {s t : Sd} {r : Rl}, ok r → Live r s → Live r t → cutS r s = cutS r t → (ral r s b).2 = (ral r t b).2 ∧ cutS r (ral r s b).1 = cutS r (ral r t b).1
  | .nil, t, r, _, h, _, e => by
    have := cut_nil.mp e.symm
    subst this
    exact ⟨rfl, rfl⟩
  | .cn z o w, .nil, r, _, _, _, e => by cases e
  | .cn z o w, .cn z' o' w', r, hok, ⟨hn, z0, o0, n1, lw⟩, ⟨_, z0', o0', n1', lw'⟩, e => by
    simp only [cutS, Sd.cn.injEq] at e
    obtain ⟨e1, e2, e3⟩ := e
    have hnow : now r z' o' = now r z o := by rw [← now_cut r z' o' (min z' o'), ← e1, ← e2, now_cut]
    rw [hnow] at e3 lw'
    have ih := one_future (b := b) (ok_now hok z o) lw lw' e3
    rw [ral_unit hn, ral_unit hn, hnow]
    obtain ⟨i1, i2⟩ := ih
    obtain ⟨⟨t1, _⟩, ⟨l1, _⟩, _⟩ := ok_unit hok hn
    unfold stepU
    rw [← i1]
    by_cases c : (ral (now r z o) w b).2 = true
    · rw [if_pos c, if_pos c]
      by_cases h : capR r = none
      · rw [off_none h, off_none h] at e1 e2
        have hw : won r (bumpZ z b) (bumpO o b) = won r (bumpZ z' b) (bumpO o' b) := by
          have : won r (bumpZ z b) (bumpO o b) = true ↔ won r (bumpZ z' b) (bumpO o' b) = true := by
            rw [won_iff, won_iff, h]
            simp only [reduceCtorEq, false_or]
            cases b <;> simp only [bumpZ, bumpO, if_true, if_false, Bool.false_eq_true] <;> omega
          cases x1 : won r (bumpZ z b) (bumpO o b) <;> cases x2 : won r (bumpZ z' b) (bumpO o' b) <;> simp_all
        have hc : bumpZ z b - off r (min (bumpZ z b) (bumpO o b)) = bumpZ z' b - off r (min (bumpZ z' b) (bumpO o' b)) ∧ bumpO o b - off r (min (bumpZ z b) (bumpO o b)) = bumpO o' b - off r (min (bumpZ z' b) (bumpO o' b)) := by
          rw [off_none h, off_none h]
          cases b <;> simp only [bumpZ, bumpO, if_true, if_false, Bool.false_eq_true] <;> omega
        rw [← hw]
        by_cases c2 : won r (bumpZ z b) (bumpO o b) = true
        · rw [if_pos c2, if_pos c2]
          refine ⟨rfl, ?_⟩
          simp only [cutS, hc.1, hc.2]
        · rw [if_neg c2, if_neg c2]
          refine ⟨rfl, ?_⟩
          simp only [cutS, hc.1, hc.2, now_inn h]
      · rw [off_some h, off_some h] at e1 e2
        have e1' : z = z' := by omega
        have e2' : o = o' := by omega
        subst e1' e2'
        exact ⟨rfl, rfl⟩
    · rw [if_neg c, if_neg c]
      refine ⟨rfl, ?_⟩
      simp only [cutS, e1, e2, hnow, i2]
/-! the ends of units -/
theorem walk_app {r : Rl} {row2 : List Bool} : ∀ {row : List Bool} {p : Nat} {s : Sd}, (walk r p s row).side = none → walk r p s (row ++ row2) = ⟨(walk r (p + row.length) (walk r p s row).sd row2).sd, (walk r (p + row.length) (walk r p s row).sd row2).side, (walk r (p + row.length) (walk r p s row).sd row2).at_, (walk r p s row).ends ++ (walk r (p + row.length) (walk r p s row).sd row2).ends⟩
  | [], p, s, _ => by simp [walk_nil]
  | b :: row, p, s, h => by
    cases e : (ral r s b).2 with
    | true => rw [walk_won e] at h; cases h
    | false =>
      rw [walk_on e] at h
      have ih := walk_app (row2 := row2) (row := row) (p := p + 1) (s := (ral r s b).1) h
      rw [List.cons_append, walk_on e, walk_on e, ih]
      simp only [List.length_cons, List.append_assoc]
      rw [show p + 1 + row.length = p + (row.length + 1) by omega]
theorem ends_le {r : Rl} : ∀ {row : List Bool} {p : Nat} {s : Sd} {e : Nat}, e ∈ (walk r p s row).ends → e ≤ (walk r p s row).at_
  | [], p, s, e, h => by simp [walk_nil] at h
  | b :: row, p, s, e, h => by
    cases e1 : (ral r s b).2 with
    | true =>
      rw [walk_won e1] at h ⊢
      have := List.eq_of_mem_replicate h
      simp only
      omega
    | false =>
      rw [walk_on e1] at h ⊢
      simp only [List.mem_append] at h
      rcases h with h | h
      · have := List.eq_of_mem_replicate h
        have := (walk_at (r := r) (row := row) (p := p + 1) (s := (ral r s b).1)).1
        simp only
        omega
      · exact ends_le (row := row) h
theorem count_end {r : Rl} {row : List Bool} {s : Sd} {b : Bool} (h : (walk r 0 s row).side = none) : ((walk r 0 s (row ++ [b])).ends.filter (fun e => decide (e = row.length + 1))).length = stk r (walk r 0 s row).sd b := by
  rw [walk_app h]
  have h1 : (walk r (0 + row.length) (walk r 0 s row).sd [b]).ends = List.replicate (stk r (walk r 0 s row).sd b) (row.length + 1) := by
    cases e : (ral r (walk r 0 s row).sd b).2 with
    | true => rw [walk_won e]; simp
    | false => rw [walk_on e]; simp [walk_nil]
  simp only [h1, List.filter_append, List.length_append]
  have h2 : (walk r 0 s row).ends.filter (fun e => decide (e = row.length + 1)) = [] := by
    rw [List.filter_eq_nil_iff]
    intro e he
    have := ends_le he
    have := (walk_at (r := r) (row := row) (p := 0) (s := s)).2.1
    simp; omega
  rw [h2]
  simp [List.filter_replicate]
/-- what is left of a row that is cut at its end -/
theorem side_take {r : Rl} {row : List Bool} {s : Sd} {k : Nat} (h : k < (walk r 0 s row).at_ ∨ ((walk r 0 s row).side = none ∧ k ≤ (walk r 0 s row).at_)) : (walk r 0 s (row.take k)).side = none := by
  by_cases c : k < (walk r 0 s row).at_
  · exact (walk_step (r := r) (row := row) (p := 0) (s := s) (k := k) (by omega)).2.1
  · rcases h with h | ⟨h1, h2⟩
    · exact absurd h c
    · have : k = (walk r 0 s row).at_ - 0 := by omega
      rw [this, walk_take]
      exact h1
end M
namespace M
open PySem
/-- a side's row on a lane -/
structure Lr where
  d : Int
  b : Int
  u : Int
  n : Int
  a : Int
  x : Int
  t : Int
deriving DecidableEq
def earned (ball up : Int) : Int := if up > 0 then 0 else if ball = 1 then 2 else 1
def frameB (pins frames : Int) (r : Lr) (k : Int) : Lr :=
  if r.u - k > 0 ∧ r.b + 1 = 1 then ⟨r.d, r.b + 1, r.u - k, r.a, 0, 0, r.t + k * r.n + k⟩
  else if earned (r.b + 1) (r.u - k) > 0 ∧ r.d = frames - 1 then ⟨r.d, 0, pins, r.a + (if earned (r.b + 1) (r.u - k) > 0 then 1 else 0), (if earned (r.b + 1) (r.u - k) = 2 then 1 else 0), earned (r.b + 1) (r.u - k), r.t + k * r.n + k⟩
  else ⟨r.d + 1, 0, pins, r.a + (if earned (r.b + 1) (r.u - k) > 0 then 1 else 0), (if earned (r.b + 1) (r.u - k) = 2 then 1 else 0), 0, r.t + k * r.n + k⟩
def extraB (pins : Int) (r : Lr) (k : Int) : Lr :=
  if r.x - 1 = 0 then ⟨r.d + 1, r.b, pins, r.a, 0, 0, r.t + k * r.n⟩
  else ⟨r.d, r.b, if r.u - k = 0 then pins else r.u - k, r.a, 0, r.x - 1, r.t + k * r.n⟩
def ballB (pins frames : Int) (r : Lr) (k : Int) : Lr := if r.x = 0 then frameB pins frames r k else extraB pins r k
/-- the rows behind a ball, whose turn it is, whether the lane is over -/
def rowsB (pins frames : Int) (rows : List Lr) (side : Nat) (k : Int) : List Lr := match rows[side]? with
  | none => rows
  | some r => rows.set side (ballB pins frames r k)
def sideB (pins frames : Int) (rows : List Lr) (side : Nat) (k : Int) : Nat := match rows[side]? with
  | none => side
  | some r => if (ballB pins frames r k).d > r.d then (side + 1) % rows.length else side
def overB (frames : Int) (rows : List Lr) : Bool := rows.all fun r => decide (r.d = frames)
def encR (r : Lr) : PyData := .tuple [.int r.d, .int r.b, .int r.u, .int r.n, .int r.a, .int r.x, .int r.t]
def encLs (rows : List Lr) (side : Nat) : PyData := .tuple [.tuple (rows.map encR), .int side]
/-- the pins that are up are from 0 to 20, and not more than there are -/
def Up (pins : Int) (r : Lr) : Prop := 0 ≤ r.u ∧ r.u ≤ pins
theorem up_ball {pins frames : Int} {r : Lr} {k : Int} (hp : 0 ≤ pins) (h : Up pins r) (h0 : 0 ≤ k) (h1 : k ≤ r.u) : Up pins (ballB pins frames r k) := by
  obtain ⟨a, b⟩ := h
  unfold ballB
  split
  · unfold frameB
    split
    · exact ⟨by show 0 ≤ r.u - k; omega, by show r.u - k ≤ pins; omega⟩
    · split
      · exact ⟨hp, Int.le_refl _⟩
      · exact ⟨hp, Int.le_refl _⟩
  · unfold extraB
    split
    · exact ⟨hp, Int.le_refl _⟩
    · refine ⟨?_, ?_⟩
      · show 0 ≤ (if r.u - k = 0 then pins else r.u - k)
        split <;> omega
      · show (if r.u - k = 0 then pins else r.u - k) ≤ pins
        split <;> omega
theorem rowsB_len {pins frames : Int} {rows : List Lr} {side : Nat} {k : Int} : (rowsB pins frames rows side k).length = rows.length := by
  unfold rowsB
  split
  · rfl
  · rw [List.length_set]
theorem rowsB_up {pins frames : Int} {rows : List Lr} {side : Nat} {k : Int} {r : Lr} (hp : 0 ≤ pins) (hr : rows[side]? = some r) (h : ∀ q ∈ rows, Up pins q) (h0 : 0 ≤ k) (h1 : k ≤ r.u) : ∀ q ∈ rowsB pins frames rows side k, Up pins q := by
  intro q hq
  unfold rowsB at hq
  rw [hr] at hq
  rcases List.mem_or_eq_of_mem_set hq with z | z
  · exact h q z
  · subst z
    exact up_ball hp (h r (List.mem_of_getElem? hr)) h0 h1
theorem sideB_lt {pins frames : Int} {rows : List Lr} {side : Nat} {k : Int} (h : side < rows.length) : sideB pins frames rows side k < rows.length := by
  unfold sideB
  split
  · exact h
  · split
    · exact Nat.mod_lt _ (by omega)
    · exact h
theorem eqv_ls : ∀ (ds : List PyData), (∀ d ∈ ds, PyData.eqv d d = true) → PyData.eqvAll ds ds = true
  | [], _ => by simp [PyData.eqvAll]
  | d :: ds, h => by
    simp only [PyData.eqvAll, h d (List.mem_cons_self ..), eqv_ls ds fun x hx => h x (List.mem_cons_of_mem _ hx)]
    rfl
theorem eqv_encR (r : Lr) : PyData.eqv (encR r) (encR r) = true := by simp [encR, PyData.eqv, PyData.eqvAll]
theorem eqv_encLs (rows : List Lr) (side : Nat) : PyData.eqv (encLs rows side) (encLs rows side) = true := by
  have : PyData.eqvAll (rows.map encR) (rows.map encR) = true := eqv_ls _ fun d hd => by
    obtain ⟨r, _, rfl⟩ := List.mem_map.mp hd
    exact eqv_encR r
  simp [encLs, PyData.eqv, PyData.eqvAll, this]
theorem dep_encR (r : Lr) : (encR r).depth = 1 := by simp [encR, PyData.depth, PyData.depthAll]
theorem dep_encLs (rows : List Lr) (side : Nat) : (encLs rows side).depth ≤ 3 := by
  have h : PyData.depthAll (rows.map encR) ≤ 1 := by
    induction rows with
    | nil => simp [PyData.depthAll]
    | cons r rows ih => simp only [List.map_cons, PyData.depthAll, dep_encR]; omega
  simp only [encLs, PyData.depth, PyData.depthAll]
  omega
end M
namespace L2
open PySem PySem.Spec PyProof.Rows M
/-! ### rules as values: no list within, so any tuple-keeping heap keeps them -/
def Tk (K : PySem.W.Frag) (H H' : Hp) : Prop := ∀ a xs, SqT K H a xs → SqT K H' a xs
theorem Tk.refl {K : PySem.W.Frag} (H : Hp) : Tk K H H := fun _ _ h => h
theorem Tk.trans {K : PySem.W.Frag} {H H1 H2 : Hp} (a : Tk K H H1) (b : Tk K H1 H2) : Tk K H H2 := fun c xs h => b c xs (a c xs h)
theorem Ext.tk {K : PySem.W.Frag} {t : Addr} {H H' : Hp} (e : Ext t H H') : Tk K H H' := fun _ _ h => e.sqT h
theorem Same.tk {K : PySem.W.Frag} {H H' : Hp} (e : Same H H') : Tk K H H' := (Same.ext (t := 0) e).tk
/-- a change at one place that holds no tuple -/
theorem Tk.upd {K : PySem.W.Frag} {H : Hp} {a : Addr} {o : HO} (h : ∀ xs, ¬ Rd H a (.tup xs)) : Tk K H (upd H a o) := fun b xs q => by
  by_cases e : b = a
  · subst e
    rcases q with q | q
    · exact absurd q (h xs)
    · exact .inr q
  · rcases q with (q | ⟨u, q⟩) | q
    · exact .inl (.inl (by rw [upd_ne e]; exact q))
    · exact .inl (.inr ⟨u, by rw [upd_ne e]; exact q⟩)
    · exact .inr q
theorem Tk.updL {K : PySem.W.Frag} {H : Hp} {a : Addr} {ys : List V} {o : HO} (h : H a = some (.lst ys)) : Tk K H (L2.upd H a o) := Tk.upd fun xs q => by
  rcases q with q | ⟨u, q⟩
  · rw [h] at q; cases q
  · rw [h] at q; cases q
theorem Tk.new {K : PySem.W.Frag} {H : Hp} {a : Addr} {o : HO} (h : H a = none) : Tk K H (L2.upd H a o) := Tk.upd fun xs q => by
  rcases q with q | ⟨u, q⟩
  · rw [h] at q; cases q
  · rw [h] at q; cases q
/-! data without a list -/
mutual
def noL : PyData → Bool
  | .list _ => false
  | .dict _ => false
  | .tuple ds => noLs ds
  | _ => true
def noLs : List PyData → Bool
  | [] => true
  | d :: ds => noL d && noLs ds
end
mutual
theorem Dt.tk {K : PySem.W.Frag} {t t' : Addr} {H H' : Hp} (e : Tk K H H') : ∀ (d : PyData) (v : V), noL d = true → Dt K t H d v → Dt K t' H' d v
  | .none, _, _, h => by simp only [Dt] at h ⊢; exact h
  | .bool _, _, _, h => by simp only [Dt] at h ⊢; exact h
  | .int _, _, _, h => by simp only [Dt] at h ⊢; exact h
  | .str _, _, _, h => by simp only [Dt] at h ⊢; exact h
  | .tuple ds, v, n, h => by
    simp only [noL] at n
    simp only [Dt] at h ⊢
    obtain ⟨a, xs, h1, h2, h3⟩ := h
    exact ⟨a, xs, h1, e _ _ h2, DtL.tk e ds xs n h3⟩
  | .list ds, v, n, h => by simp [noL] at n
  | .dict _, _, n, h => by simp [noL] at n
theorem DtL.tk {K : PySem.W.Frag} {t t' : Addr} {H H' : Hp} (e : Tk K H H') : ∀ (ds : List PyData) (vs : List V), noLs ds = true → DtL K t H ds vs → DtL K t' H' ds vs
  | [], _, _, h => by simp only [DtL] at h ⊢; exact h
  | d :: ds, vs, n, h => by
    simp only [noLs, Bool.and_eq_true] at n
    simp only [DtL] at h ⊢
    obtain ⟨v, r, h1, h2, h3⟩ := h
    exact ⟨v, r, h1, Dt.tk e d v n.1 h2, DtL.tk e ds r n.2 h3⟩
end
theorem noL_cap (c : Option Int) : noL (capD c) = true := by cases c <;> rfl
theorem noL_enc : ∀ r : Rl, noL (enc r) = true
  | .pt => rfl
  | .un to lead cap i => by simp only [enc, noL, noLs, noL_enc i, noL_cap]; rfl
  | .ul to lead cap i l => by simp only [enc, noL, noLs, noL_enc i, noL_enc l]; rfl
theorem noLs_enc : ∀ rs : List Rl, noLs (rs.map enc) = true
  | [] => rfl
  | r :: rs => by simp only [List.map_cons, noLs, noL_enc r, noLs_enc rs]; rfl
def RlV (K : PySem.W.Frag) (H : Hp) (r : Rl) (v : V) : Prop := Dt K 0 H (enc r) v
def RlL (K : PySem.W.Frag) (H : Hp) (rs : List Rl) (vs : List V) : Prop := DtL K 0 H (rs.map enc) vs
section
variable {K : PySem.W.Frag} {H H' : Hp} {r : Rl} {rs qs : List Rl} {v : V} {vs us : List V} {t : Addr}
theorem RlV.of (h : Dt K t H (enc r) v) : RlV K H r v := Dt.tk (.refl H) _ _ (noL_enc r) h
theorem RlV.dt (h : RlV K H r v) : Dt K t H (enc r) v := Dt.tk (.refl H) _ _ (noL_enc r) h
theorem RlV.tk (h : RlV K H r v) (e : Tk K H H') : RlV K H' r v := Dt.tk e _ _ (noL_enc r) h
theorem RlV.same (h : RlV K H r v) (e : Same H H') : RlV K H' r v := h.tk e.tk
theorem RlL.of (h : DtL K t H (rs.map enc) vs) : RlL K H rs vs := DtL.tk (.refl H) _ _ (noLs_enc rs) h
theorem RlL.dt (h : RlL K H rs vs) : DtL K t H (rs.map enc) vs := DtL.tk (.refl H) _ _ (noLs_enc rs) h
theorem RlL.tk (h : RlL K H rs vs) (e : Tk K H H') : RlL K H' rs vs := DtL.tk e _ _ (noLs_enc rs) h
theorem RlL.same (h : RlL K H rs vs) (e : Same H H') : RlL K H' rs vs := h.tk e.tk
theorem RlL.nil : RlL K H [] [] := by simp [RlL, DtL]
theorem RlL.one (h : RlV K H r v) : RlL K H [r] [v] := by
  simp only [RlL, List.map_cons, List.map_nil, DtL]
  exact ⟨v, [], rfl, h, rfl⟩
theorem RlL.app : ∀ {rs : List Rl} {vs : List V}, RlL K H rs vs → RlL K H qs us → RlL K H (rs ++ qs) (vs ++ us)
  | [], vs, h, q => by simp only [RlL, List.map_nil, DtL] at h; subst h; exact q
  | r :: rs, vs, h, q => by
    simp only [RlL, List.map_cons, DtL] at h
    obtain ⟨v, s, rfl, h1, h2⟩ := h
    have := RlL.app (rs := rs) (vs := s) h2 q
    simp only [RlL, List.cons_append, List.map_cons, DtL]
    exact ⟨v, _, rfl, h1, this⟩
theorem RlL.len (h : RlL K H rs vs) : rs.length = vs.length := by
  have := DtL.len h
  rwa [List.length_map] at this
theorem RlL.get {i : Nat} (h : RlL K H rs vs) (e : vs[i]? = some v) : ∃ r, rs[i]? = some r ∧ RlV K H r v := by
  have hi : i < rs.length := by rw [h.len]; exact (List.getElem?_eq_some_iff.mp e).1
  have e1 : rs[i]? = some rs[i] := List.getElem?_eq_getElem hi
  obtain ⟨u, e2, d⟩ := DtL.get (i := i) h (by rw [List.getElem?_map, e1]; rfl)
  rw [e] at e2
  cases e2
  exact ⟨_, e1, d⟩
theorem RlL.mem (h : RlL K H rs vs) (e : v ∈ vs) : ∃ r, r ∈ rs ∧ RlV K H r v := by
  obtain ⟨i, hi⟩ := List.mem_iff_getElem?.mp e
  obtain ⟨r, e1, d⟩ := h.get hi
  exact ⟨r, List.mem_of_getElem? e1, d⟩
end
/-- a comprehension over a list of rules that tells rules -/
theorem comp_rl {K : PySem.W.Frag} {σ : St} {H : Hp} {Q : VK} {te : TE} {tt : TT} {ta : TE} {a : Addr} {xs : List V} {rs : List Rl} (g : Rl → Option Rl)
    (hta : ∀ R : VK, R (.ref a) H → ta σ H R) (hs : SqL K H a xs) (hz : xs.length ≤ 1000) (hr : RlL K H rs xs)
    (test : ∀ r x H', r ∈ rs → Same H H' → RlV K H' r x → ∀ Q' : Bool → Hp → Prop, (∀ H'', Same H' H'' → Q' (g r).isSome H'') → tt (some x :: σ) H' Q')
    (elt : ∀ r x r' H', r ∈ rs → g r = some r' → Same H H' → RlV K H' r x → ∀ Q' : VK, (∀ y H'', Same H' H'' → RlV K H'' r' y → Q' y H'') → te (some x :: σ) H' Q')
    (q : ∀ D ys H', Same H H' → H D = none → H' D = some (.lst ys) → RlL K H' (rs.filterMap g) ys → Q (.ref D) H') : tComp (iList K ta) tt te σ H Q := by
  unfold tComp iList
  refine hta _ ⟨a, rfl, ⟨xs, hs⟩, fun D hD => ⟨fun i m H' => m = xs.length - i ∧ i ≤ xs.length ∧ Same H H' ∧ ∃ ys, H' D = some (.lst ys) ∧ ys.length ≤ i ∧ RlL K H' ((rs.take i).filterMap g) ys,
    ⟨_, rfl, Nat.zero_le _, fun b o h => by rw [upd_ne (ne_of_none h hD)]; exact h, [], upd_same, Nat.zero_le _, .nil⟩, ?_⟩⟩
  rintro i m H' ⟨rfl, hi, S, ys, hD', hl, hR⟩
  have hs' := S.seq hs
  have hlen := hr.len
  by_cases c : i = xs.length
  · refine .inl ⟨⟨xs, hs', by omega⟩, q D ys H' S hD hD' ?_⟩
    rw [List.take_of_length_le (by omega)] at hR
    exact hR
  · have hx : xs[i]? = some xs[i] := List.getElem?_eq_getElem (by omega)
    refine .inr ⟨⟨xs, _, hs', hx⟩, ?_⟩
    rintro x' H'' ⟨rfl, hx'⟩
    have e := hx' xs hs'
    obtain ⟨r, er, rv⟩ := hr.get e
    have htk : rs.take (i + 1) = rs.take i ++ [r] := by
      rw [List.take_succ, er]; rfl
    refine test r x' H'' (List.mem_of_getElem? er) S (rv.same S) _ fun H2 S2 => ?_
    cases eg : g r with
    | none =>
      rw [show (none : Option Rl).isSome = false from rfl, if_neg Bool.false_ne_true]
      refine ⟨_, by omega, rfl, by omega, S.trans S2, ys, S2 _ _ hD', by omega, ?_⟩
      rw [htk, List.filterMap_append]
      simp only [List.filterMap_cons, eg, List.filterMap_nil, List.append_nil]
      exact hR.same S2
    | some r' =>
      rw [show (some r').isSome = true from rfl, if_pos rfl]
      refine elt r x' r' H2 (List.mem_of_getElem? er) eg (S.trans S2) (rv.same (S.trans S2)) _ fun y H3 S3 ry => ?_
      have h3 := S3 _ _ (S2 _ _ hD')
      refine ⟨ys, h3, small1000 (by omega), _, by omega, rfl, by omega, fun b o h => ?_, _, upd_same, by rw [List.length_append]; simp only [List.length_singleton]; omega, ?_⟩
      · rw [upd_ne (ne_of_none h hD)]
        exact S3 _ _ (S2 _ _ (S _ _ h))
      · rw [htk, List.filterMap_append]
        simp only [List.filterMap_cons, eg, List.filterMap_nil]
        exact (RlL.app (hR.same (S2.trans S3)) (.one ry)).tk (.updL h3)
/-- the scope of a comprehension that takes nothing from around it -/
def plainComp (N : List Str) (x : Str) (scope : Scope) : Bool :=
  decide (scope.kind = .function) && scope.names.all (fun p => decide (p.2 = .local) || decide (p.2 = .globalImplicit))
    && scope.names.all (fun p => !decide (p.2 = .local) || decide (scope.names.lookup p.1 = some .local))
    && decide (scope.names.lookup x = some .local) && decide ((x :: N).Nodup)
    && N.all (fun y => decide (scope.names.lookup y = none) || decide (scope.names.lookup y = some .globalImplicit))
theorem relabel_plain {scope : Scope} {env : Env} (h : ∀ p ∈ scope.names, p.2 ≠ .free) : (relabel scope env).names = scope.names := by
  unfold relabel
  show scope.names.map _ = _
  have : ∀ l : List (Str × NameKind), (∀ p ∈ l, p.2 ≠ .free) → l.map (fun (n, k) => if (k == .free && env.scope.kind == .function && env.kindOf n == some .cell) then (n, NameKind.cell) else (n, k)) = l := by
    intro l
    induction l with
    | nil => intro _; rfl
    | cons p l ih =>
      intro hl
      obtain ⟨n, k⟩ := p
      have hk : k ≠ .free := hl _ (List.mem_cons_self ..)
      rw [List.map_cons, ih fun p hp => hl p (List.mem_cons_of_mem _ hp)]
      have : (k == NameKind.free) = false := by simpa using hk
      simp [this]
  exact this _ h
theorem compPlain {X : Cx} {N : List Str} {x : Str} {scope : Scope} (hN : X.N = N) (h : plainComp N x scope = true) (hc : closureFor scope X.env = pure []) : CompScope X (x :: N) x scope [] := by
  simp only [plainComp, Bool.and_eq_true, decide_eq_true_eq, List.all_eq_true, Bool.or_eq_true, Bool.not_eq_true', decide_eq_false_iff_not] at h
  obtain ⟨⟨⟨⟨⟨h1, h2⟩, h3⟩, h4⟩, h5⟩, h6⟩ := h
  have nf : ∀ p ∈ scope.names, p.2 ≠ .free := fun p hp z => by rcases h2 p hp with e | e <;> rw [z] at e <;> cases e
  have rl := relabel_plain (env := X.env) nf
  have lk : ∀ (l : List (Str × NameKind)), (∀ p ∈ l, p.2 = .local ∨ p.2 = .globalImplicit) → ∀ y k, l.lookup y = some k → k = .local ∨ k = .globalImplicit := by
    intro l
    induction l with
    | nil => intro _ y k e; cases e
    | cons p l ih =>
      intro hl y k e
      obtain ⟨n, kk⟩ := p
      rw [List.lookup_cons] at e
      split at e
      · cases e; exact hl _ (List.mem_cons_self ..)
      · exact ih (fun p hp => hl p (List.mem_cons_of_mem _ hp)) y k e
  refine ⟨hc, fun y hy z => ?_, h1, fun y hy e => ?_, h4, h5, rfl, by rw [hN]; rfl, fun j y e v => ?_, fun y c e => (by cases e), fun y e => ?_, rfl⟩
  · rcases h2 y hy with e | e <;> rw [z] at e <;> cases e
  · rcases h3 y hy with q | q
    · exact absurd e q
    · exact q
  · exfalso
    have hy : y ∈ N := List.mem_of_getElem? (by simpa using e)
    have q := h6 y hy
    unfold Vis at v
    rw [rl] at v
    rcases q with q | q <;> rw [q] at v <;> rcases v with v | v | v <;> cases v
  · exfalso
    rw [rl] at e
    rcases e with e | e <;> rcases lk _ h2 y _ e with z | z <;> cases z
/-- the scope of a comprehension that takes the names fr from around it -/
def capComp (N fr : List Str) (x : Str) (scope osc : Scope) : Bool :=
  decide (scope.kind = .function) && decide (osc.kind = .function)
    && scope.names.all (fun p => decide (p.2 = .local) || decide (p.2 = .globalImplicit) || (decide (p.2 = .free) && decide (p.1 ∈ fr) && decide (osc.names.lookup p.1 = some .cell)))
    && scope.names.all (fun p => !decide (p.2 = .local) || decide (scope.names.lookup p.1 = some .local))
    && decide (scope.names.lookup x = some .local) && decide ((x :: N).Nodup) && decide (x ∉ fr)
    && N.all (fun y => !decide (scope.names.lookup y = some .local))
theorem relabel_lookup {scope : Scope} {env : Env} (y : Str) : (relabel scope env).names.lookup y = (scope.names.lookup y).map fun k => if (k == NameKind.free && env.scope.kind == .function && env.kindOf y == some .cell) = true then NameKind.cell else k := by
  unfold relabel
  show List.lookup y (scope.names.map _) = _
  induction scope.names with
  | nil => rfl
  | cons p l ih =>
    obtain ⟨n, k⟩ := p
    by_cases e : y = n
    · subst e
      have h1 : (y == y) = true := beq_self_eq_true y
      rw [List.map_cons, List.lookup_cons, List.lookup_cons, h1]
      by_cases c : (k == NameKind.free && env.scope.kind == .function && env.kindOf y == some .cell) = true
      · rw [if_pos c]; simp only [h1, Option.map_some]; rw [if_pos c]
      · rw [if_neg c]; simp only [h1, Option.map_some]; rw [if_neg c]
    · have h1 : (y == n) = false := beq_eq_false_iff_ne.mpr e
      rw [List.map_cons, List.lookup_cons, List.lookup_cons, h1]
      by_cases c : (k == NameKind.free && env.scope.kind == .function && env.kindOf n == some .cell) = true
      · rw [if_pos c]; simp only [h1]; exact ih
      · rw [if_neg c]; simp only [h1]; exact ih
theorem lookup_mem {α : Type} : ∀ {l : List (Str × α)} {y : Str} {c : α}, l.lookup y = some c → (y, c) ∈ l
  | [], _, _, h => by cases h
  | (n, k) :: l, y, c, h => by
    rw [List.lookup_cons] at h
    split at h
    · rename_i e
      cases h
      have : y = n := by simpa using e
      subst this
      exact List.mem_cons_self ..
    · exact List.mem_cons_of_mem _ (lookup_mem h)
theorem mem_lookup {α : Type} : ∀ {l : List (Str × α)} {y : Str}, y ∈ l.map (·.1) → ∃ c, l.lookup y = some c
  | [], _, h => by simp at h
  | (n, k) :: l, y, h => by
    rw [List.lookup_cons]
    split
    · exact ⟨k, rfl⟩
    · rename_i e
      have : y ≠ n := by simpa using e
      simp only [List.map_cons, List.mem_cons] at h
      rcases h with h | h
      · exact absurd h this
      · exact mem_lookup h
theorem compCap {X : Cx} {N fr : List Str} {x : Str} {scope osc : Scope} {cl : List (Str × Addr)} (hN : X.N = N) (ho : X.env.scope = osc) (h : capComp N fr x scope osc = true) (hc : closureFor scope X.env = pure cl)
    (hf : cl.map (·.1) = fr) (hcl : ∀ p ∈ cl, X.env.cells.lookup p.1 = some p.2) : CompScope X (x :: N) x scope cl := by
  simp only [capComp, Bool.and_eq_true, decide_eq_true_eq, List.all_eq_true, Bool.or_eq_true, Bool.not_eq_true', decide_eq_false_iff_not] at h
  obtain ⟨⟨⟨⟨⟨⟨⟨h1, h0⟩, h2⟩, h3⟩, h4⟩, h5⟩, h7⟩, h6⟩ := h
  subst ho
  have rl := relabel_lookup (scope := scope) (env := X.env)
  have fr_of : ∀ y, scope.names.lookup y = some .free → y ∈ fr ∧ X.env.kindOf y = some .cell := fun y e => by
    rcases h2 _ (lookup_mem e) with (z | z) | z
    · cases z
    · cases z
    · exact ⟨z.1.2, z.2⟩
  have vis : ∀ y k, (relabel scope X.env).names.lookup y = some k → (k = .local ∧ scope.names.lookup y = some .local) ∨ (k = .globalImplicit) ∨ (k = .cell ∧ scope.names.lookup y = some .free) := fun y k e => by
    rw [rl y] at e
    cases e0 : scope.names.lookup y with
    | none => rw [e0] at e; cases e
    | some k0 =>
      rw [e0] at e
      simp only [Option.map_some, Option.some.injEq] at e
      rcases h2 _ (lookup_mem e0) with (z | z) | z
      · have z' : k0 = .local := z
        subst z'
        left
        exact ⟨by rw [← e]; rfl, rfl⟩
      · have z' : k0 = .globalImplicit := z
        subst z'
        right; left
        rw [← e]; rfl
      · have z' : k0 = .free := z.1.1
        subst z'
        right; right
        refine ⟨?_, rfl⟩
        rw [← e, if_pos]
        have hk : X.env.kindOf y = some .cell := z.2
        rw [hk, h0]
        rfl
  refine ⟨hc, fun y hy z => ?_, h1, fun y hy e => ?_, h4, h5, rfl, by rw [hN]; rfl, fun j y e v => ?_, fun y c e => hcl _ (lookup_mem e), fun y e => ?_, ?_⟩
  · rcases h2 y hy with (e | e) | e
    · rw [z] at e; cases e
    · rw [z] at e; cases e
    · rw [z] at e; cases e.1.1
  · rcases h3 y hy with q | q
    · exact absurd e q
    · exact q
  · have e' : N[j]? = some y := by simpa using e
    have hy : y ∈ N := List.mem_of_getElem? e'
    have key : scope.names.lookup y = some .free ∧ (relabel scope X.env).names.lookup y = some .cell := by
      rcases v with v | v | v <;> rcases vis y _ v with z | z | z
      · exact absurd z.2 (h6 y hy)
      · cases z
      · cases z.1
      · cases z.1
      · cases z
      · exact ⟨z.2, v⟩
      · cases z.1
      · cases z
      · cases z.1
    obtain ⟨k1, k2⟩ := key
    obtain ⟨f1, f2⟩ := fr_of y k1
    obtain ⟨c, hcc⟩ := mem_lookup (l := cl) (y := y) (by rw [hf]; exact f1)
    exact ⟨by rw [hN]; exact e', f2, .inr (.inl f2), .inl k2, hcc.trans (hcl _ (lookup_mem hcc)).symm⟩
  · have : scope.names.lookup y = some .free := by
      rcases e with e | e <;> rcases vis y _ e with z | z | z
      · cases z.1
      · cases z
      · exact z.2
      · cases z.1
      · cases z
      · cases z.1
    exact mem_lookup (by rw [hf]; exact (fr_of y this).1)
  · cases e : cl.lookup x with
    | none => rfl
    | some c => exact absurd (by rw [← hf]; exact List.mem_map_of_mem (lookup_mem e)) h7
end L2
namespace L2
open PySem PySem.Spec PyProof.Rows M
/-! ### what the laws' own tape, draws and rules promise -/
section
variable (K : PySem.W.Frag) (ns : List Int)
def spTape : Sp := fun vs H Q _ => ∃ a, vs = [.ref a] ∧ SqL K H a (ns.map V.int) ∧ ∀ t H', Tape K ns t H' → Q (.ref t) H'
def spDraw : Sp := fun vs H Q _ => ∃ t m, vs = [.ref t, .int m] ∧ 0 < m ∧ m < 1073741824 ∧ Tape K ns t H ∧ ∀ (r : Int) (H' : Hp), 0 ≤ r → r < m → Cur K ns t H H' → Q (.int r) H'
def spRule (n : Nat) : Sp := fun vs H Q _ => ∃ t dp th, vs = [.ref t, .int dp, .int th] ∧ 0 ≤ dp ∧ dp < n ∧ 0 ≤ th ∧ Tape K ns t H ∧ ∀ rl r H', ok rl → depth rl ≤ dp.toNat → size rl ≤ U dp.toNat th.toNat → Cur K ns t H H' → Dt K t H' (enc rl) r → Q r H'
def spUnit (n : Nat) : Sp := fun vs H Q _ => ∃ t dp th, vs = [.ref t, .int dp, .int th] ∧ 0 < dp ∧ dp < n ∧ 0 ≤ th ∧ Tape K ns t H ∧ ∀ rl r H', ok rl → depth rl ≤ dp.toNat → size rl ≤ U dp.toNat th.toNat → Cur K ns t H H' → Dt K t H' (enc rl) r → Q r H'
def spAny : Sp := fun vs H Q _ => ∃ t, vs = [.ref t] ∧ Tape K ns t H ∧ ∀ rl r H', ok rl → depth rl ≤ 4 → size rl ≤ 7 → Cur K ns t H H' → Dt K t H' (enc rl) r → Q r H'
def spLaw : Sp := fun vs H Q _ => ∃ (a : Addr) (ns : List Int), vs = [.ref a] ∧ SqL K H a (ns.map V.int) ∧ ns.length ≤ 63 ∧ ∀ H', Q (.bl true) H'
end
section
variable {K : PySem.W.Frag} {ns : List Int} {t : Addr} {H : Hp} {Q : VK} {E : XK}
theorem draw_of {m : Int} (T : Tape K ns t H) (h : ∀ (r : Int) (H' : Hp), 0 ≤ r → r < m → Cur K ns t H H' → Q (.int r) H') (h0 : 0 < m := by decide) (h1 : m < 1073741824 := by decide) : spDraw K ns [.ref t, .int m] H Q E := ⟨t, m, rfl, h0, h1, T, h⟩
end
theorem at0 {ns : List Int} (h : 0 < (ns.map V.int).length) : ∃ n : Int, atI (ns.map V.int) 0 = some (.int n) := by
  cases ns with
  | nil => simp at h
  | cons n r => exact ⟨n, atI_nat (j := 0) rfl⟩
theorem atMod {ns : List Int} (i : Int) (h : 0 < (ns.map V.int).length) : ∃ n : Int, atI (ns.map V.int) (i % ((ns.map V.int).length : Nat)) = some (.int n) := by
  have h1 := Int.emod_nonneg i (show (((ns.map V.int).length : Nat) : Int) ≠ 0 by omega)
  have h2 := Int.emod_lt_of_pos i (show (0 : Int) < ((ns.map V.int).length : Nat) by omega)
  generalize i % (((ns.map V.int).length : Nat) : Int) = j at h1 h2
  rw [List.length_map] at h2
  have hj : j.toNat < ns.length := by omega
  have e : (ns.map V.int)[j.toNat]? = some (.int ns[j.toNat]) := by rw [List.getElem?_map, List.getElem?_eq_getElem hj]; rfl
  have z := atI_nat e
  rw [show ((j.toNat : Nat) : Int) = j by omega] at z
  exact ⟨_, z⟩
theorem small6 {xs : List V} (h : xs.length ≤ 1000) : xs.length ≤ sizeLine := Nat.le_of_lt (small1000 h)
theorem smallA {xs ys : List V} (h : xs.length + ys.length ≤ 1000) : xs.length + ys.length ≤ sizeLine := Nat.le_of_lt (small1000 h)
theorem cmul_l {i j : Int} (h1 : -1000000 ≤ i) (h2 : i ≤ 10000000) : CMul i j := .inl ⟨by omega, by omega⟩
theorem list6 {α : Type} {l : List α} (h : l.length = 6) : ∃ a b c d e f, l = [a, b, c, d, e, f] := match l, h with
  | [a, b, c, d, e, f], _ => ⟨a, b, c, d, e, f, rfl⟩
theorem six_of {K : PySem.W.Frag} {t : Addr} {H : Hp} {ds : List PyData} {xs : List V} (q : DtL K t H ds xs) (h : xs.length = 6) : ∃ d0 d1 d2 d3 d4 d5 v0 v1 v2 v3 v4 v5, ds = [d0, d1, d2, d3, d4, d5] ∧ xs = [v0, v1, v2, v3, v4, v5] ∧ Dt K t H d0 v0 ∧ Dt K t H d1 v1 ∧ Dt K t H d2 v2 ∧ Dt K t H d3 v3 ∧ Dt K t H d4 v4 ∧ Dt K t H d5 v5 := by
  obtain ⟨v0, v1, v2, v3, v4, v5, rfl⟩ := list6 h
  obtain ⟨d0, d1, d2, d3, d4, d5, rfl⟩ := list6 (q.len.trans h)
  simp only [DtL] at q
  obtain ⟨_, _, e, h0, _, _, e1, h1, _, _, e2, h2, _, _, e3, h3, _, _, e4, h4, _, _, e5, h5, e6⟩ := q
  cases e; cases e1; cases e2; cases e3; cases e4; cases e5; cases e6
  exact ⟨_, _, _, _, _, _, _, _, _, _, _, _, rfl, rfl, h0, h1, h2, h3, h4, h5⟩
theorem dt_non {K : PySem.W.Frag} {t : Addr} {H : Hp} {d : PyData} {v : V} (h : Dt K t H d v) : decide (v = .non) = isN d := by
  cases d with
  | none => simp only [Dt] at h; subst h; rfl
  | bool b => simp only [Dt] at h; subst h; rfl
  | int b => simp only [Dt] at h; subst h; rfl
  | str b => simp only [Dt] at h; obtain ⟨h, _⟩ := h; subst h; rfl
  | tuple b => simp only [Dt] at h; obtain ⟨_, _, h, _⟩ := h; subst h; rfl
  | list b => simp only [Dt] at h; obtain ⟨_, _, h, _⟩ := h; subst h; rfl
  | dict b => simp [Dt] at h
theorem dep_pt : pointD.depth = 1 := by decide +kernel
theorem pt_dt {K : PySem.W.Frag} {t p : Addr} {H : Hp} (h : SqT K H p [.str "point"]) : Dt K t H pointD (.ref p) := .tup h (.cons (dstr "point") .nil)
theorem enc_tup {K : PySem.W.Frag} {t : Addr} {H : Hp} {rl : Rl} {v : V} (h : Dt K t H (enc rl) v) (hn : rl ≠ .pt) : ∃ (a : Addr) (to lead : Int) (v3 v4 v5 : V) (d3 d4 d5 : PyData), v = .ref a ∧ SqT K H a [.str "unit", .int to, .int lead, v3, v4, v5] ∧ enc rl = unitD (.int to) (.int lead) d3 d4 d5 ∧ Dt K t H d3 v3 ∧ Dt K t H d4 v4 ∧ Dt K t H d5 v5 := by
  have key : ∀ (to lead : Int) (d3 d4 d5 : PyData), enc rl = unitD (.int to) (.int lead) d3 d4 d5 → ∃ (a : Addr) (to lead : Int) (v3 v4 v5 : V) (d3 d4 d5 : PyData), v = .ref a ∧ SqT K H a [.str "unit", .int to, .int lead, v3, v4, v5] ∧ enc rl = unitD (.int to) (.int lead) d3 d4 d5 ∧ Dt K t H d3 v3 ∧ Dt K t H d4 v4 ∧ Dt K t H d5 v5 := by
    intro to lead d3 d4 d5 e
    rw [e] at h
    obtain ⟨a, xs, rfl, hs, hx⟩ := h.tup_inv
    have hl : xs.length = 6 := hx.len.symm
    obtain ⟨_, _, _, _, _, _, v0, v1, v2, v3, v4, v5, e', rfl, h0, h1, h2, h3, h4, h5⟩ := six_of hx hl
    cases e'
    simp only [Dt] at h0 h1 h2
    obtain ⟨rfl, _⟩ := h0
    subst h1 h2
    exact ⟨a, to, lead, v3, v4, v5, d3, d4, d5, rfl, hs, e, h3, h4, h5⟩
  cases rl with
  | pt => exact absurd rfl hn
  | un to lead cap i => exact key to lead _ _ _ rfl
  | ul to lead cap i l => exact key to lead _ _ _ rfl
theorem eqv_enc_pt (rl : Rl) : PyData.eqv (enc rl) pointD = true ↔ rl = .pt := by
  cases rl with
  | pt => exact ⟨fun _ => rfl, fun _ => rfl⟩
  | un _ _ _ _ => exact ⟨fun h => (by rw [enc, eqv_unit] at h; cases h), fun h => (by cases h)⟩
  | ul _ _ _ _ _ => exact ⟨fun h => (by rw [enc, eqv_unit] at h; cases h), fun h => (by cases h)⟩
theorem same_new {H : Hp} {p : Addr} (h : H p = none) (o : HO) : Same H (upd H p o) := fun b u q => by rw [upd_ne (ne_of_none q h)]; exact q
theorem Same.dt {K : PySem.W.Frag} {t : Addr} {H H' : Hp} {d : PyData} {v : V} (h : Dt K t H d v) (e : Same H H') : Dt K t H' d v := h.on e.ext
theorem Same.sqT {K : PySem.W.Frag} {H H' : Hp} {a : Addr} {xs : List V} (h : SqT K H a xs) (e : Same H H') : SqT K H' a xs := (Same.ext (t := 0) e).sqT h
theorem atMem {xs : List V} {i : Int} (h0 : 0 ≤ i) (h1 : i < xs.length) : ∃ v, atI xs i = some v ∧ v ∈ xs := by
  have hi : i.toNat < xs.length := by omega
  have z := atI_nat (List.getElem?_eq_getElem hi)
  rw [show ((i.toNat : Nat) : Int) = i by omega] at z
  exact ⟨_, z, List.getElem_mem hi⟩
def optI : Option Int → V
  | none => .non
  | some c => .int c
theorem dt_cap {K : PySem.W.Frag} {t : Addr} {H : Hp} (cap : Option Int) : Dt K t H (capD cap) (optI cap) := by
  cases cap with
  | none => exact .non
  | some c => exact .int c
/-! rules with the fragment by name: within a comprehension -/
section
variable {X : Cx} {K : PySem.W.Frag} {k : Nat}
theorem ixK_tup (h : X.K = K) : IxR X (rIxT K) := h ▸ ix_tup
theorem ixK_list (h : X.K = K) : IxR X (rIxL K) := h ▸ ix_list
theorem ixK_seq (h : X.K = K) : IxR X (rIx K) := h ▸ ix_seq
theorem slK_tup (h : X.K = K) : SlR X (rSlT K) := h ▸ sl_tup
theorem slK_list (h : X.K = K) : SlR X (rSlL K) := h ▸ sl_list
theorem opK_eqD (h : X.K = K) (hr : Room k X.A) : OpR X (compareOp .Eq) (rEqD K false) := h ▸ op_eqD hr
theorem opK_neD (h : X.K = K) (hr : Room k X.A) : OpR X (compareOp .NotEq) (rEqD K true) := h ▸ op_neD hr
theorem opK_in (h : X.K = K) : OpR X (compareOp .In) (rIn K false) := h ▸ op_in_seq
theorem opK_notIn (h : X.K = K) : OpR X (compareOp .NotIn) (rIn K true) := h ▸ op_notIn_seq
theorem callK_isi (h : X.K = K) : CallR X (.builtin "isinstance") (rIsi K) := h ▸ call_isi
theorem callK_len (h : X.K = K) : CallR X (.builtin "len") (rLenS K) := h ▸ call_lenS
theorem callK_list (h : X.K = K) : CallR X (.type "list") (rListOf K) := h ▸ call_listS
end
end L2
namespace L2
open PySem PySem.Spec PyProof.Rows
/-! ### texts -/
def rLeS : R2 := fun x y H Q => ∃ a b, x = .str a ∧ y = .str b ∧ Q (.bl (!decide (b.cps.toList < a.cps.toList))) H
theorem op_leS {X : Cx} : OpR X (compareOp .LtE) rLeS := by
  intro pins s σ H x y v u Q I rx ry h
  obtain ⟨a, b, rfl, rfl, q⟩ := h
  obtain ⟨t, rfl⟩ := rx
  obtain ⟨t', rfl⟩ := ry
  exact PySem.P.le_str ⟨.bl _, H, I, rfl, q⟩
/-- a list of texts as values -/
def strVs (us : List Value) : List (Str × Tok) := us.map fun u => match u with | .str x t => (x, t) | _ => (Str.empty, 0)
theorem vals_strs : ∀ {xs : List Str} {us : List Value}, Vals (xs.map V.str) us → strValues (strVs us) = us ∧ (strVs us).map (·.1) = xs
  | [], us, r => by cases r; exact ⟨rfl, rfl⟩
  | x :: xs, us, r => by
    cases r with
    | cons r1 r2 =>
      obtain ⟨t, rfl⟩ := r1
      obtain ⟨e1, e2⟩ := vals_strs r2
      refine ⟨?_, ?_⟩
      · show Value.str x t :: strValues (strVs _) = _
        rw [e1]
      · show x :: (strVs _).map (·.1) = _
        rw [e2]
def rJoin (K : PySem.W.Frag) : V → List V → Hp → VK → Prop := fun x vs H Q => ∃ sep l ws, x = .str sep ∧ vs = [.ref l] ∧ SqL K H l (ws.map V.str) ∧ JoinOk sep ws = true ∧ Q (.str (Txt.join sep ws)) H
theorem mt_join {X : Cx} : MtR X "str.join" (rJoin X.K) := by
  intro pins s σ H x vs v us Q I rx rv h
  obtain ⟨sep, l, ws, rfl, rfl, hl, hok, q⟩ := h
  obtain ⟨t, rfl⟩ := rx
  obtain ⟨u, rfl, ru⟩ := rv.one
  cases ru
  obtain ⟨its, r, pl, hz⟩ := I.list hl
  obtain ⟨e1, e2⟩ := vals_strs r
  have hI : s.heap.IsList l (strValues (strVs its)).toArray := by rw [e1]; exact pl.isList
  exact SC.join hI e2 hok fun t' k => ⟨.str _, H, I.tok _, ⟨_, rfl⟩, q⟩
theorem strValues_vals : ∀ l : List (Str × Tok), Vals ((l.map (·.1)).map V.str) (strValues l)
  | [] => .nil
  | p :: r => .cons ⟨p.2, rfl⟩ (strValues_vals r)
def rSplit : V → List V → Hp → VK → Prop := fun x vs H Q => ∃ a b, x = .str a ∧ vs = [.str b] ∧ (b.length == 0) = false ∧ a.length + 2 ≤ sizeLine ∧ ∀ l, H l = none → Q (.ref l) (upd H l (.lst ((Txt.split a b).map V.str)))
theorem split_len (x y : Str) (h : x.length + 2 ≤ sizeLine) : (Txt.split x y).length ≤ sizeLine := by
  unfold Txt.split
  split
  · show 1 ≤ sizeLine; omega
  · split
    · show 1 ≤ sizeLine; omega
    · have e1 := StrLaws.occ_length_le x y 0 x.length (x.length + 1)
      rw [length_partsBetween]; omega
theorem mt_split {X : Cx} : MtR X "str.split" rSplit := by
  intro pins s σ H x vs v us Q I rx rv h
  obtain ⟨a, b, rfl, rfl, hb, hz, q⟩ := h
  obtain ⟨t, rfl⟩ := rx
  obtain ⟨u, rfl, ru⟩ := rv.one
  obtain ⟨t', rfl⟩ := ru
  have fin : ∀ (l : List (Str × Tok)) (k : Nat), l.map (·.1) = Txt.split a b → EP X pins σ Q (.ref s.heap.objs.size) { s with heap := s.heap.push { cls := .type "list", data := .seq (strValues l).toArray }, toks := k } := fun l k e => by
    have hv := strValues_vals l
    rw [e] at hv
    exact ⟨.ref _, _, I.lnew (t' := k) hv (by rw [List.length_map]; exact split_len a b hz), rfl, q _ I.fresh⟩
  have hn : (Builtin.Str.partsBetween a (Builtin.Str.occurrences a b 0 a.length (a.length + 1)) b.length).length ≤ sizeLine := by
    have e1 := StrLaws.occ_length_le a b 0 a.length (a.length + 1)
    rw [length_partsBetween]; omega
  cases h1 : (decide (a.length < b.length) || decide (Builtin.Str.strKind a < Builtin.Str.strKind b))
  · cases hf : (Builtin.Str.occurrences a b 0 a.length (a.length + 1)).isEmpty
    · refine call_meets F.slot_str_split (typeIs_str _ _ _) F.entry_str_split (F.args_str_split_2 _ _) (meets_str_split_sep a b t t' h1 hb hf (by omega) hn) ?_
      show wants _ _ _ { s with toks := _, heap := s.heap.push { cls := .type "list", data := .seq (strsFrom s.toks (Builtin.Str.partsBetween a (Builtin.Str.occurrences a b 0 a.length (a.length + 1)) b.length)).toArray } }
      rw [strsFrom_eq]
      exact fin (numbered s.toks _) _ ((numbered_texts _ _).trans ((if_neg (ne_true_of_eq_false h1)).trans (if_neg (ne_true_of_eq_false hf))).symm)
    · exact call_meets F.slot_str_split (typeIs_str _ _ _) F.entry_str_split (F.args_str_split_2 _ _) (meets_str_split_not_found a b t t' h1 hb hf)
        (fin [(a, t)] s.toks ((if_neg (ne_true_of_eq_false h1)).trans (if_pos hf)).symm)
  · exact call_meets F.slot_str_split (typeIs_str _ _ _) F.entry_str_split (F.args_str_split_2 _ _) (meets_str_split_cannot_occur a b t t' h1)
      (fin [(a, t)] s.toks (if_pos h1).symm)
/-- all of a list of truths -/
def rAllB (K : PySem.W.Frag) : List V → Hp → VK → Prop := fun xs H Q => ∃ (l : Addr) (bs : List Bool), xs = [.ref l] ∧ SqL K H l (bs.map V.bl) ∧ Q (.bl (bs.all id)) H
theorem vals_bools : ∀ {bs : List Bool} {us : List Value}, Vals (bs.map V.bl) us → us = bs.map Value.bool
  | [], us, r => by cases r; rfl
  | b :: bs, us, r => by
    cases r with
    | cons r1 r2 =>
      cases r1
      rw [vals_bools r2]
      rfl
theorem call_allB {X : Cx} (hc : X.calm = true) : CallR X (.builtin "all") (rAllB X.K) := by
  intro pins s σ H xs us Q I r h
  obtain ⟨l, bs, rfl, hl, q⟩ := h
  obtain ⟨u, rfl, ru⟩ := vals1 r
  cases ru
  obtain ⟨its, rv, pl, hz⟩ := I.list hl
  have e := vals_bools rv
  subst e
  have hI := pl.isList
  have hlt : l < s.heap.objs.size := by obtain ⟨_, e, _⟩ := hI; exact Heap.lt_size e
  refine call_all_walk (wpAny_pyIter_list hI ?_)
  refine ⟨s.heap.objs.size, [s.heap.objs.size, l], [s.heap.objs.size], (bs.map Value.bool).toArray.size, _, _, fun i => (bs[i]?).getD true, rfl, Walks.list (A := X.A.in1) (I.ok.hd hc) _ l (Nat.ne_of_lt hlt) (bs.map Value.bool).toArray,
    ⟨⟨_, Heap.get?_push_size _ rfl, rfl, rfl⟩, hI.push _⟩, fun i v s' Q' E' hP hQ => ?_, fun h' tk hk => ?_⟩
  · have hP' : (bs.map Value.bool)[i]? = some v := by simpa using hP
    rw [List.getElem?_map] at hP'
    cases e : bs[i]? with
    | none => rw [e] at hP'; cases hP'
    | some b =>
      rw [e] at hP'
      cases hP'
      simp only [e, Option.getD_some] at hQ
      exact wpAny_truthy_bool hQ
  · have e : ((List.range (bs.map Value.bool).toArray.size).all fun i => (bs[i]?).getD true) = bs.all id := by
      rw [List.size_toArray, List.length_map]
      exact PyProof.Rows.LSm.range_all bs
    rw [e]
    refine ⟨.bl _, H, I.kept (t' := tk) (fun b o q => hk b o (fun hm => ?_) (Heap.get?_push_of_some _ q)), rfl, q⟩
    rw [List.mem_singleton.mp hm] at q
    exact Nat.lt_irrefl _ (Heap.lt_size q)
/-- int of a text -/
def rIntT : List V → Hp → VK → Prop := fun xs H Q => ∃ x n, xs = [.str x] ∧ PySem.intText? x = some n ∧ x.length ≤ 640 ∧ Q (.int n) H
theorem call_intT {X : Cx} : CallR X (.type "int") rIntT := by
  intro pins s σ H xs us Q I r h
  obtain ⟨x, n, rfl, hn, hl, q⟩ := h
  obtain ⟨u, rfl, t, rfl⟩ := vals1 r
  exact PySem.W.KIN.call_text hn hl ⟨.int n, H, I.tok _, ⟨_, rfl⟩, q⟩
/-- the signs of a text, one by one -/
def Its (x : Str) : It := ⟨fun i _ => i < x.cps.size, fun i H v H' => H' = H ∧ ∃ c, x.cps[i]? = some c ∧ v = .str ⟨#[c]⟩, fun i _ => x.cps.size ≤ i⟩
theorem turn_ascii {P : Program} {w : World} {K : PySem.W.Frag} {tg : Expr} (x : Str) (t : Tok) (it : Addr) : Turn P w K tg (Its x) [it] it (fun i h => h.IsStrIter it "str_ascii_iterator" x t i) where
  mem := by simp
  obj := fun i h st b hb => by
    have e : b = it := by simpa using hb
    subst e
    obtain ⟨o, e, c, d⟩ := st
    exact ⟨o, e, fun v z => by rw [d] at z; cases z⟩
  keep := fun i h h' st k => by
    obtain ⟨o, e, c, d⟩ := st
    exact ⟨o, k it (by simp) o e, c, d⟩
  item := by
    intro X hP hw hK hc i pins s σ H E I hf st hg
    subst hP hw hK
    have hg' : i < x.cps.size := hg
    obtain ⟨f0, f1, f2, f3, f4, f5⟩ := hf it (by simp)
    refine wpAny_pyNext_ascii_item st (c := x.cps[i]) (by simp [hg']) fun h' st' sb => ?_
    have I1 : Inv X pins σ H { s with heap := h', toks := s.toks + 1 } := I.turned (t' := s.toks + 1) (fun b o hb e => sb.extBut b o hb e) f0 f1 f3 f4 f5
    obtain ⟨o, e, c, d⟩ := id st'
    exact ⟨_, rfl, go_of (s := { s with heap := h', toks := s.toks + 1 }) e c d (by decide) ⟨.str ⟨#[x.cps[i]]⟩, H, I1, ⟨_, rfl⟩, ⟨rfl, _, by simp [hg'], rfl⟩, st', fun b hb => (hf b hb).1⟩⟩
  done := by
    intro X hP hw hK hc i pins s σ H E I hf st hg
    subst hP hw hK
    have hg' : x.cps.size ≤ i := hg
    obtain ⟨f0, f1, f2, f3, f4, f5⟩ := hf it (by simp)
    exact wpAny_pyNext_ascii_end (I.ok.hd hc) st (by simp [hg']) fun h' eb => ⟨rfl, I.turned (t' := s.toks) (fun b o hb e => eb b o hb e) f0 f1 f3 f4 f5⟩
  self := fun _ _ _ _ _ st h => wpAny_pyIter_striter_ascii st h
def iStr (tl : TE) : TI := fun σ H R => tl σ H fun v H1 => ∃ x, v = .str x ∧ x.cps.all (· < 128) = true ∧ R (Its x) H1
theorem pi_str {X : Cx} {tg l : Expr} {tl : TE} (hl : PE X l tl) : PI X tg l (iStr tl) := by
  intro pins s σ H R I h
  refine thn (hl pins s σ H _ I h) fun v s1 ⟨z, H1, I1, r1, q1⟩ => ?_
  obtain ⟨x, e, ha, q⟩ := q1
  subst e
  obtain ⟨t, rfl⟩ := r1
  refine wpAny_pyIter_ascii ha ?_
  refine ⟨s1.heap.objs.size, [s1.heap.objs.size], _, _, H1, rfl, I1.kept (t' := s1.toks) fun b o e => Heap.get?_push_of_some _ e, turn_ascii x t _, ⟨_, Heap.get?_push_size _ rfl, rfl, rfl⟩, fun b hb => ?_, q⟩
  have e : b = s1.heap.objs.size := by simpa using hb
  subst e
  exact I1.fpOk (Nat.le_refl _) (I1.hok.fresh (Nat.le_refl _))
/-- str of an int -/
def rStrI : List V → Hp → VK → Prop := fun xs H Q => ∃ i, xs = [.int i] ∧ i.natAbs.log2 < 1920 ∧ Q (.str (M.numS i)) H
theorem call_strI {X : Cx} : CallR X (.type "str") rStrI := call_str_int
theorem strI_of {i : Int} {H : Hp} {Q : VK} (h : i.natAbs.log2 < 1920) (q : Q (.str (M.numS i)) H) : rStrI [.int i] H Q := ⟨i, rfl, h, q⟩
theorem bt_all : bootBuiltins "all" = some (.builtin "all") := by decide +kernel
/-- a comprehension over the signs of a text -/
theorem comp_str {σ : St} {H : Hp} {Q : VK} {te ta : TE} {x : Str} (f : Nat → V) (hta : ∀ R : VK, R (.str x) H → ta σ H R) (ha : x.cps.all (· < 128) = true) (hz : x.cps.size ≤ 1000)
    (elt : ∀ c H', c ∈ x.cps.toList → Same H H' → ∀ Q' : VK, (∀ H'', Same H' H'' → Q' (f c) H'') → te (some (.str ⟨#[c]⟩) :: σ) H' Q')
    (q : ∀ D H', Same H H' → H D = none → H' D = some (.lst (x.cps.toList.map f)) → Q (.ref D) H') : tComp (iStr ta) tTrue te σ H Q := by
  unfold tComp iStr
  refine hta _ ⟨x, rfl, ha, fun D hD => ⟨fun i m H' => m = x.cps.size - i ∧ i ≤ x.cps.size ∧ Same H H' ∧ H' D = some (.lst ((x.cps.toList.take i).map f)),
    ⟨_, rfl, Nat.zero_le _, fun b o h => by rw [upd_ne (ne_of_none h hD)]; exact h, upd_same⟩, ?_⟩⟩
  rintro i m H' ⟨rfl, hi, S, hD'⟩
  by_cases c : i = x.cps.size
  · refine .inl ⟨Nat.le_of_eq c.symm, q D H' S hD ?_⟩
    rw [List.take_of_length_le (by rw [Array.length_toList]; omega)] at hD'
    exact hD'
  · have hlt : i < x.cps.size := by omega
    refine .inr ⟨hlt, ?_⟩
    rintro x' H'' ⟨rfl, c', hc, rfl⟩
    have hc2 : x.cps.toList[i]? = some c' := by rw [Array.getElem?_toList]; exact hc
    unfold tTrue
    dsimp only
    rw [if_pos rfl]
    refine elt c' H'' (List.mem_of_getElem? hc2) S _ fun H3 S3 => ?_
    have h3 := S3 _ _ hD'
    refine ⟨_, h3, small1000 (by rw [List.length_map, List.length_take]; omega), _, by omega, rfl, by omega, fun b o h => ?_, ?_⟩
    · rw [upd_ne (ne_of_none h hD)]
      exact S3 _ _ (S _ _ h)
    · rw [upd_same, List.take_succ, hc2]
      simp
/-- a comprehension over range(m) -/
theorem comp_rng {σ : St} {H : Hp} {Q : VK} {te : TE} {ta : TA} {m : Nat} (f : Nat → V) (hta : ∀ R : List V → Hp → Prop, R [.int m] H → ta σ H R) (hz : m ≤ 1000)
    (elt : ∀ i H', i < m → Same H H' → ∀ Q' : VK, (∀ H'', Same H' H'' → Q' (f i) H'') → te (some (.int (0 + i)) :: σ) H' Q')
    (q : ∀ D H', Same H H' → H D = none → H' D = some (.lst ((List.range m).map f)) → Q (.ref D) H') : tComp (iRng1 ta) tTrue te σ H Q := by
  unfold tComp iRng1
  refine hta _ ⟨m, rfl, by omega, by omega, fun D hD => ⟨fun i n H' => n = m - i ∧ i ≤ m ∧ Same H H' ∧ H' D = some (.lst ((List.range i).map f)),
    ⟨_, rfl, Nat.zero_le _, fun b o h => by rw [upd_ne (ne_of_none h hD)]; exact h, upd_same⟩, ?_⟩⟩
  have em : ((m : Int)).toNat = m := by omega
  rw [em]
  rintro i n H' ⟨rfl, hi, S, hD'⟩
  by_cases c : i = m
  · subst c
    exact .inl ⟨Nat.le_refl _, q D H' S hD hD'⟩
  · have hlt : i < m := by omega
    refine .inr ⟨hlt, ?_⟩
    rintro x' H'' ⟨rfl, rfl⟩
    unfold tTrue
    dsimp only
    rw [if_pos rfl]
    refine elt i H'' hlt S _ fun H3 S3 => ?_
    have h3 := S3 _ _ hD'
    refine ⟨_, h3, small1000 (by rw [List.length_map, List.length_range]; omega), _, by omega, rfl, by omega, fun b o h => ?_, ?_⟩
    · rw [upd_ne (ne_of_none h hD)]
      exact S3 _ _ (S _ _ h)
    · rw [upd_same, List.range_succ, List.map_append]
      rfl
end L2
namespace M
open PySem
def encS : Sd → PyData
  | .nil => .tuple []
  | .cn z o w => .tuple [.int z, .int o, encS w]
theorem eqv_encS (s : Sd) : PyData.eqv (encS s) (.tuple []) = true ↔ s = .nil := by
  cases s with
  | nil => exact ⟨fun _ => rfl, fun _ => rfl⟩
  | cn z o w => exact ⟨fun h => (by simp [encS, PyData.eqv, PyData.eqvAll] at h), fun h => (by cases h)⟩
def lastE : Option Rl → PyData
  | none => .none
  | some l => enc l
def sideI : Bool → Int
  | true => 1
  | false => 0
mutual
/-- tuples of ints (and of truths, where bb) -/
def fl (bb : Bool) : PyData → Bool
  | .int _ => true
  | .bool _ => bb
  | .tuple ds => decide (ds.length ≤ 100) && fls bb ds
  | _ => false
def fls (bb : Bool) : List PyData → Bool
  | [] => true
  | d :: ds => fl bb d && fls bb ds
end
theorem fls_mem {bb : Bool} : ∀ {ds : List PyData} {d : PyData}, fls bb ds = true → d ∈ ds → fl bb d = true
  | [], d, _, m => by simp at m
  | e :: ds, d, h, m => by
    simp only [fls, Bool.and_eq_true] at h
    rcases List.mem_cons.mp m with rfl | m
    · exact h.1
    · exact fls_mem h.2 m
theorem depAll_mem : ∀ {ds : List PyData} {d : PyData}, d ∈ ds → d.depth ≤ PyData.depthAll ds
  | [], d, m => by simp at m
  | e :: ds, d, m => by
    simp only [PyData.depthAll]
    rcases List.mem_cons.mp m with rfl | m
    · omega
    · have := depAll_mem m; omega
theorem fl_encS (bb : Bool) : ∀ s : Sd, fl bb (encS s) = true
  | .nil => by simp [encS, fl, fls]
  | .cn z o w => by simp [encS, fl, fls, fl_encS bb w]
def lenS : Sd → Nat
  | .nil => 0
  | .cn _ _ w => lenS w + 1
theorem dep_encS : ∀ s : Sd, (encS s).depth = lenS s + 1
  | .nil => by simp [encS, PyData.depth, PyData.depthAll, lenS]
  | .cn z o w => by simp [encS, PyData.depth, PyData.depthAll, lenS, dep_encS w]
theorem len_shp : ∀ {s : Sd} {r : Rl}, Shp r s → lenS s ≤ depth r
  | .nil, r, _ => Nat.zero_le _
  | .cn z o w, r, ⟨hn, _, _, h⟩ => by
    have := len_shp h
    have := depth_now hn z o
    simp only [lenS]
    omega
theorem eqv_refl_S : ∀ s : Sd, PyData.eqv (encS s) (encS s) = true
  | .nil => rfl
  | .cn z o w => by simp [encS, PyData.eqv, PyData.eqvAll, eqv_refl_S w]
theorem eqv_cap (m : Int) (c : Option Int) : PyData.eqv (.int m) (capD c) = decide (c = some m) := by
  cases c with
  | none => simp [capD, PyData.eqv]
  | some c =>
    simp only [capD, PyData.eqv, Option.some.injEq]
    rw [Bool.eq_iff_iff]
    simp only [beq_iff_eq, decide_eq_true_eq]
    exact eq_comm
theorem eqv_cap' (m : Int) (c : Option Int) : PyData.eqv (capD c) (.int m) = decide (c = some m) := by
  cases c with
  | none => simp [capD, PyData.eqv]
  | some c =>
    simp only [capD, PyData.eqv, Option.some.injEq]
    rw [Bool.eq_iff_iff]
    simp
def wk (rl : Rl) (row : List Bool) (k : Nat) : Sd := (walk rl 0 (begn rl) (row.take k)).sd
def wks (rl : Rl) (row : List Bool) (n : Nat) : List Sd := (List.range n).map (wk rl row)
theorem wks_succ (rl : Rl) (row : List Bool) (n : Nat) : wks rl row (n + 1) = wks rl row n ++ [wk rl row n] := by
  unfold wks
  rw [List.range_succ, List.map_append]
  rfl
theorem wks_at {rl : Rl} {row : List Bool} {n i : Nat} (h : i < n) : (wks rl row n)[i]? = some (wk rl row i) := by
  unfold wks
  rw [List.getElem?_map, List.getElem?_range h]
  rfl
theorem wks_len (rl : Rl) (row : List Bool) (n : Nat) : (wks rl row n).length = n := by unfold wks; simp
theorem wk_shp {rl : Rl} (hok : ok rl) {row : List Bool} {k : Nat} (ha : (walk rl 0 (begn rl) row).at_ = row.length) (hk : k ≤ row.length) : Shp rl (wk rl row k) := by
  cases k with
  | zero =>
    show Shp rl (walk rl 0 (begn rl) (row.take 0)).sd
    rw [List.take_zero, walk_nil]
    exact (live0 hok).shp
  | succ k =>
    obtain ⟨_, h1, _, h3, _⟩ := walk_step (r := rl) (row := row) (p := 0) (s := begn rl) (k := k) (by omega)
    have := (ral_shp (b := row[k]) hok (walk_live hok (live0 hok) h1)).1
    rw [h3] at this
    exact this
theorem wk_live {rl : Rl} (hok : ok rl) {row : List Bool} {k : Nat} (h : (walk rl 0 (begn rl) (row.take k)).side = none) : Live rl (wk rl row k) := walk_live hok (live0 hok) h
theorem wk_ne {rl : Rl} (hok : ok rl) {row : List Bool} {k : Nat} (hk : k ≤ (walk rl 0 (begn rl) row).at_) (hn : rl ≠ .pt) : wk rl row k ≠ .nil := by
  cases k with
  | zero =>
    show (walk rl 0 (begn rl) (row.take 0)).sd ≠ .nil
    rw [List.take_zero, walk_nil]
    intro e
    exact hn ((live0 hok).nil_iff.mp e)
  | succ k =>
    obtain ⟨_, h1, _, h3, _⟩ := walk_step (r := rl) (row := row) (p := 0) (s := begn rl) (k := k) (by omega)
    have := (ral_shp (b := row[k]) hok (walk_live hok (live0 hok) h1)).2.2 hn
    rw [h3] at this
    exact this
theorem wk_shp' {rl : Rl} (hok : ok rl) {row : List Bool} {k : Nat} (hk : k ≤ (walk rl 0 (begn rl) row).at_) : Shp rl (wk rl row k) := by
  cases k with
  | zero =>
    show Shp rl (walk rl 0 (begn rl) (row.take 0)).sd
    rw [List.take_zero, walk_nil]
    exact (live0 hok).shp
  | succ k =>
    obtain ⟨_, h1, _, h3, _⟩ := walk_step (r := rl) (row := row) (p := 0) (s := begn rl) (k := k) (by omega)
    have := (ral_shp (b := row[k]) hok (walk_live hok (live0 hok) h1)).1
    rw [h3] at this
    exact this
theorem wk_step {rl : Rl} (hok : ok rl) {row : List Bool} {k : Nat} (hk : k < (walk rl 0 (begn rl) row).at_) : ∃ (h : k < row.length), Live rl (wk rl row k) ∧ ∃ b, ral rl (wk rl row k) row[k] = (wk rl row (k + 1), b) := by
  obtain ⟨h, h1, _, h3, _⟩ := walk_step (r := rl) (row := row) (p := 0) (s := begn rl) (k := k) (by omega)
  exact ⟨h, walk_live hok (live0 hok) h1, _, h3⟩
theorem dep_int (i : Int) : (PyData.int i).depth = 0 := by simp [PyData.depth]
theorem dep_nilT : (PyData.tuple []).depth = 1 := by simp [PyData.depth, PyData.depthAll]
theorem now_none {r : Rl} (h : lastR r = none) (z o : Int) : now r z o = innR r := by unfold now; rw [h]
theorem now_some {r l : Rl} (h : lastR r = some l) (z o : Int) : now r z o = if atCap (capR r) z o then l else innR r := by unfold now; rw [h]
theorem cap_of_last {r l : Rl} (h : lastR r = some l) : ∃ c, capR r = some c := by
  cases e : capR r with
  | none => rw [cap_last e] at h; cases h
  | some c => exact ⟨c, rfl⟩
end M
namespace L2
open PySem PySem.Spec PyProof.Rows M
theorem noL_encS : ∀ s : Sd, noL (encS s) = true
  | .nil => rfl
  | .cn z o w => by simp only [encS, noL, noLs, noL_encS w]; rfl
def LastE (K : PySem.W.Frag) (H : Hp) : Option Rl → V → Prop
  | none, v => v = .non
  | some l, v => RlV K H l v
theorem LastE.tk {K : PySem.W.Frag} {H H' : Hp} {l : Option Rl} {v : V} (h : LastE K H l v) (e : Tk K H H') : LastE K H' l v := by
  cases l with
  | none => exact h
  | some l => exact RlV.tk (H := H) h e
theorem LastE.is {K : PySem.W.Frag} {H : Hp} {l : Option Rl} {v : V} (h : LastE K H l v) : decide (v = .non) = l.isNone := by
  cases l with
  | none => rw [show v = .non from h]; rfl
  | some l =>
    have := dt_non (show Dt K 0 H (enc l) v from h)
    rw [isN_enc] at this
    exact this
theorem LastE.yes {K : PySem.W.Frag} {H : Hp} {v : V} {r : Rl} (h : LastE K H (some r) v) : v ≠ .non := by
  have := h.is
  simpa using this
def StV (K : PySem.W.Frag) (H : Hp) (s : Sd) (v : V) : Prop := Dt K 0 H (encS s) v
section
variable {K : PySem.W.Frag} {H H' : Hp} {s w : Sd} {z o : Int} {v : V} {t a p : Addr} {rl : Rl}
theorem StV.of (h : Dt K t H (encS s) v) : StV K H s v := Dt.tk (.refl H) _ _ (noL_encS s) h
theorem StV.dt (h : StV K H s v) : Dt K t H (encS s) v := Dt.tk (.refl H) _ _ (noL_encS s) h
theorem StV.tk (h : StV K H s v) (e : Tk K H H') : StV K H' s v := Dt.tk e _ _ (noL_encS s) h
theorem StV.same (h : StV K H s v) (e : Same H H') : StV K H' s v := h.tk e.tk
theorem st_nil (h : SqT K H a []) : StV K H .nil (.ref a) := .of (t := 0) (.tup h .nil)
theorem st_cn (h : SqT K H a [.int z, .int o, v]) (q : StV K H w v) : StV K H (.cn z o w) (.ref a) := .of (t := 0) (.tup h (.cons (.int _) (.cons (.int _) (.cons q .nil))))
theorem StV.inv (h : StV K H (.cn z o w) v) : ∃ a u, v = .ref a ∧ SqT K H a [.int z, .int o, u] ∧ StV K H w u := by
  unfold StV at h
  simp only [encS] at h
  obtain ⟨a, xs, rfl, hs, hx⟩ := h.tup_inv
  simp only [DtL] at hx
  obtain ⟨v0, r0, rfl, h0, v1, r1, rfl, h1, v2, r2, rfl, h2, rfl⟩ := hx
  simp only [Dt] at h0 h1
  subst h0 h1
  exact ⟨a, v2, rfl, hs, h2⟩
theorem StV.inv0 (h : StV K H .nil v) : ∃ a, v = .ref a ∧ SqT K H a [] := by
  unfold StV at h
  simp only [encS] at h
  obtain ⟨a, xs, rfl, hs, hx⟩ := h.tup_inv
  simp only [DtL] at hx
  subst hx
  exact ⟨a, rfl, hs⟩
theorem rl_acc (h : RlV K H rl v) (hn : rl ≠ .pt) : ∃ (a : Addr) (v4 v5 : V), v = .ref a ∧ SqT K H a [.str "unit", .int (toR rl), .int (leadR rl), optI (capR rl), v4, v5] ∧ RlV K H (innR rl) v4 ∧ LastE K H (lastR rl) v5 := by
  have key : ∀ (to lead : Int) (cap : Option Int) (i : Rl) (l : Option Rl), enc rl = unitD (.int to) (.int lead) (capD cap) (enc i) (lastE l) → ∃ (a : Addr) (v4 v5 : V), v = .ref a ∧ SqT K H a [.str "unit", .int to, .int lead, optI cap, v4, v5] ∧ RlV K H i v4 ∧ LastE K H l v5 := by
    intro to lead cap i l e
    unfold RlV at h
    rw [e] at h
    obtain ⟨a, xs, rfl, hs, hx⟩ := h.tup_inv
    have hl : xs.length = 6 := hx.len.symm
    obtain ⟨_, _, _, _, _, _, v0, v1, v2, v3, v4, v5, e', rfl, h0, h1, h2, h3, h4, h5⟩ := six_of hx hl
    cases e'
    simp only [Dt] at h0 h1 h2
    obtain ⟨rfl, _⟩ := h0
    subst h1 h2
    have e3 : v3 = optI cap := by
      cases cap with
      | none => simp only [capD, Dt] at h3; exact h3
      | some c => simp only [capD, Dt] at h3; exact h3
    subst e3
    refine ⟨a, v4, v5, rfl, hs, h4, ?_⟩
    cases l with
    | none => simp only [lastE, Dt] at h5; exact h5
    | some l => exact h5
  cases rl with
  | pt => exact absurd rfl hn
  | un to lead cap i => exact key to lead cap i none rfl
  | ul to lead cap i l => exact key to lead (some cap) i (some l) rfl
theorem ext_same {e : Addr} {H1 : Hp} (S : Same H H1) (he : H e = none) (x : Ext e H1 H') : Same H H' := fun b u h => x b u (fun z => absurd z (ne_of_none h he)) (S b u h)
theorem same_at {H1 : Hp} {o : HO} (x : Same H H1) (hc : H p = none) : Same H (upd H1 p o) := fun b u h => by rw [upd_ne (ne_of_none h hc)]; exact x b u h
theorem ext_upd {e c : Addr} {H1 : Hp} {o : HO} (x : Ext e H H1) (hc : H c = none) : Ext e H (upd H1 c o) := fun b u n h => by rw [upd_ne (ne_of_none h hc)]; exact x b u n h
theorem setL_of {S : Hp → Prop} {xs ys : List V} {i : Int} {j : Nat} {y : V} (h : H p = some (.lst xs)) (hj : ixN xs.length i = some j) (hy : xs.set j y = ys) (q : S (upd H p (.lst ys))) : ∃ xs, H p = some (.lst xs) ∧ ∃ j, ixN xs.length i = some j ∧ S (upd H p (.lst (xs.set j y))) := ⟨xs, h, j, hj, by rw [hy]; exact q⟩
/-- () -/
theorem eq_nil {Q : VK} (h : StV K H s v) (hp : H p = none) (q : Q (.bl (decide (s = .nil))) (upd H p (.tup []))) : rEqD K false v (.ref p) (upd H p (.tup [])) Q := by
  refine eqF_of (t := 0) (h.same (same_new hp _)) (.tup (.of upd_same) .nil) (depR dep_nilT) ?_
  have : PyData.eqv (encS s) (.tuple []) = decide (s = .nil) := by
    rw [Bool.eq_iff_iff, eqv_encS]; simp
  rw [this]
  exact q
theorem ne_nilS {Q : VK} (h : StV K H s v) (hp : H p = none) (q : Q (.bl (!decide (s = .nil))) (upd H p (.tup []))) : rEqD K true v (.ref p) (upd H p (.tup [])) Q := by
  refine neD_of (t := 0) (h.same (same_new hp _)) (.tup (.of upd_same) .nil) (depR dep_nilT) ?_
  have : PyData.eqv (encS s) (.tuple []) = decide (s = .nil) := by
    rw [Bool.eq_iff_iff, eqv_encS]; simp
  rw [this]
  exact q
end
/-! readings -/
def rAbs : List V → Hp → VK → Prop := fun xs H Q => ∃ i, xs = [.int i] ∧ Q (.int (if i < 0 then -i else i)) H
theorem call_absN {X : Cx} : CallR X (.builtin "abs") rAbs := call_abs
theorem bt_abs : bootBuiltins "abs" = some (.builtin "abs") := by decide +kernel
section
variable {D : Ends} {σ : St} {H : Hp} {K : PySem.W.Frag} {ta te : TE} {g : TG} {gs : TGs} {Q : VK} {v : V} {vs : List V} {G : St → Hp → Prop} {n i : Nat} {ti : TIp}
theorem r_abs {j : Int} : rAbs [.int j] H Q = Q (.int (if j < 0 then -j else j)) H := by
  unfold rAbs
  exact propext ⟨fun ⟨a, h1, h⟩ => by cases h1; exact h, fun h => ⟨j, rfl, h⟩⟩
theorem r_neB {i j : Bool} : rNe (.bl i) (.bl j) H Q = Q (.bl (!(i == j))) H := by
  unfold rNe
  rw [dec_bl]
  exact propext ⟨fun h => h.2, fun h => ⟨rfl, h⟩⟩
theorem r_gtup : gTup K n gs v σ H G = ∃ a xs, v = .ref a ∧ SqT K H a xs ∧ xs.length = n ∧ gs xs σ H G := rfl
theorem r_gcons : gCons g gs (v :: vs) σ H G = g v σ H fun σ' H' => gs vs σ' H' G := by
  unfold gCons
  exact propext ⟨fun ⟨a, b, h1, h⟩ => by cases h1; exact h, fun h => ⟨v, vs, rfl, h⟩⟩
theorem r_gnil : gNil [] σ H G = G σ H := by
  unfold gNil
  exact propext ⟨fun h => h.2, fun h => ⟨rfl, h⟩⟩
theorem r_augN : tAug i te ti D σ H = ∃ x, σ[i]? = some (some x) ∧ te σ H fun y H1 => ti x y H1 fun z H2 => D.nx (σ.set i (some z)) H2 := rfl
theorem r_ipI {f : Int → Int → Int} {j l : Int} : ipI f (.int j) (.int l) H Q = Q (.int (f j l)) H := by
  unfold ipI
  exact propext ⟨fun ⟨a, b, h1, h2, h⟩ => by cases h1; cases h2; exact h, fun h => ⟨j, l, rfl, rfl, h⟩⟩
end
/-- a comprehension over range(m) -/
theorem comp_rg {σ : St} {H : Hp} {Q : VK} {te : TE} {ta : TA} {m : Nat} (f : Nat → V) (hta : ∀ R : List V → Hp → Prop, R [.int m] H → ta σ H R) (hz : m ≤ 1000)
    (elt : ∀ i H', i < m → Same H H' → ∀ Q' : VK, (∀ H'', Same H' H'' → Q' (f i) H'') → te (some (.int (0 + i)) :: σ) H' Q')
    (q : ∀ D H', Same H H' → H D = none → H' D = some (.lst ((List.range m).map f)) → Q (.ref D) H') : tComp (iRng1 ta) tTrue te σ H Q := by
  unfold tComp iRng1
  refine hta _ ⟨m, rfl, by omega, by omega, fun D hD => ⟨fun i n H' => n = m - i ∧ i ≤ m ∧ Same H H' ∧ H' D = some (.lst ((List.range i).map f)),
    ⟨_, rfl, Nat.zero_le _, fun b o h => by rw [upd_ne (ne_of_none h hD)]; exact h, upd_same⟩, ?_⟩⟩
  have em : ((m : Int)).toNat = m := by omega
  rw [em]
  rintro i n H' ⟨rfl, hi, S, hD'⟩
  by_cases c : i = m
  · subst c
    exact .inl ⟨Nat.le_refl _, q D H' S hD hD'⟩
  · have hlt : i < m := by omega
    refine .inr ⟨hlt, ?_⟩
    rintro x' H'' ⟨rfl, rfl⟩
    unfold tTrue
    dsimp only
    rw [if_pos rfl]
    refine elt i H'' hlt S _ fun H3 S3 => ?_
    have h3 := S3 _ _ hD'
    refine ⟨_, h3, small1000 (by rw [List.length_map, List.length_range]; omega), _, by omega, rfl, by omega, fun b o h => ?_, ?_⟩
    · rw [upd_ne (ne_of_none h hD)]
      exact S3 _ _ (S _ _ h)
    · rw [upd_same, List.range_succ, List.map_append]
      rfl
/-- the scope of a comprehension that takes names from around it and hides one: N' is N with a blank there -/
def capCompB (N N' fr : List Str) (x : Str) (scope osc : Scope) : Bool :=
  decide (scope.kind = .function) && decide (osc.kind = .function)
    && scope.names.all (fun p => decide (p.2 = .local) || decide (p.2 = .globalImplicit) || (decide (p.2 = .free) && decide (p.1 ∈ fr) && decide (osc.names.lookup p.1 = some .cell)))
    && scope.names.all (fun p => !decide (p.2 = .local) || decide (scope.names.lookup p.1 = some .local))
    && decide (scope.names.lookup x = some .local) && decide ((x :: N').Nodup) && decide (x ∉ fr)
    && N'.all (fun y => !decide (scope.names.lookup y = some .local)) && decide (N'.length = N.length)
    && (N'.zip N).all (fun p => decide (p.1 = p.2) || decide (scope.names.lookup p.1 = none))
theorem compCapB {X : Cx} {N N' fr : List Str} {x : Str} {scope osc : Scope} {cl : List (Str × Addr)} (hN : X.N = N) (ho : X.env.scope = osc) (h : capCompB N N' fr x scope osc = true) (hc : closureFor scope X.env = pure cl)
    (hf : cl.map (·.1) = fr) (hcl : ∀ p ∈ cl, X.env.cells.lookup p.1 = some p.2) : CompScope X (x :: N') x scope cl := by
  simp only [capCompB, Bool.and_eq_true, decide_eq_true_eq, List.all_eq_true, Bool.or_eq_true, Bool.not_eq_true', decide_eq_false_iff_not] at h
  obtain ⟨⟨⟨⟨⟨⟨⟨⟨⟨h1, h0⟩, h2⟩, h3⟩, h4⟩, h5⟩, h7⟩, h6⟩, h8⟩, h9⟩ := h
  subst ho
  have rl := relabel_lookup (scope := scope) (env := X.env)
  have fr_of : ∀ y, scope.names.lookup y = some .free → y ∈ fr ∧ X.env.kindOf y = some .cell := fun y e => by
    rcases h2 _ (lookup_mem e) with (z | z) | z
    · cases z
    · cases z
    · exact ⟨z.1.2, z.2⟩
  have vis : ∀ y k, (relabel scope X.env).names.lookup y = some k → (k = .local ∧ scope.names.lookup y = some .local) ∨ (k = .globalImplicit) ∨ (k = .cell ∧ scope.names.lookup y = some .free) := fun y k e => by
    rw [rl y] at e
    cases e0 : scope.names.lookup y with
    | none => rw [e0] at e; cases e
    | some k0 =>
      rw [e0] at e
      simp only [Option.map_some, Option.some.injEq] at e
      rcases h2 _ (lookup_mem e0) with (z | z) | z
      · have z' : k0 = .local := z
        subst z'
        left
        exact ⟨by rw [← e]; rfl, rfl⟩
      · have z' : k0 = .globalImplicit := z
        subst z'
        right; left
        rw [← e]; rfl
      · have z' : k0 = .free := z.1.1
        subst z'
        right; right
        refine ⟨?_, rfl⟩
        rw [← e, if_pos]
        have hk : X.env.kindOf y = some .cell := z.2
        rw [hk, h0]
        rfl
  refine ⟨hc, fun y hy z => ?_, h1, fun y hy e => ?_, h4, h5, rfl, by rw [hN, List.length_cons, h8], fun j y e v => ?_, fun y c e => hcl _ (lookup_mem e), fun y e => ?_, ?_⟩
  · rcases h2 y hy with (e | e) | e
    · rw [z] at e; cases e
    · rw [z] at e; cases e
    · rw [z] at e; cases e.1.1
  · rcases h3 y hy with q | q
    · exact absurd e q
    · exact q
  · have e' : N'[j]? = some y := by simpa using e
    have hy : y ∈ N' := List.mem_of_getElem? e'
    have key : scope.names.lookup y = some .free ∧ (relabel scope X.env).names.lookup y = some .cell := by
      rcases v with v | v | v <;> rcases vis y _ v with z | z | z
      · exact absurd z.2 (h6 y hy)
      · cases z
      · cases z.1
      · cases z.1
      · cases z
      · exact ⟨z.2, v⟩
      · cases z.1
      · cases z
      · cases z.1
    obtain ⟨k1, k2⟩ := key
    obtain ⟨f1, f2⟩ := fr_of y k1
    obtain ⟨c, hcc⟩ := mem_lookup (l := cl) (y := y) (by rw [hf]; exact f1)
    have hj : j < N.length := by rw [← h8]; exact (List.getElem?_eq_some_iff.mp e').1
    have hz : (N'.zip N)[j]? = some (y, N[j]) := by rw [List.getElem?_zip_eq_some]; exact ⟨e', List.getElem?_eq_getElem hj⟩
    have eN : N[j]? = some y := by
      rcases h9 _ (List.mem_of_getElem? hz) with q | q
      · rw [List.getElem?_eq_getElem hj]
        exact congrArg some (show y = N[j] from q).symm
      · have q' : scope.names.lookup y = none := q
        rw [k1] at q'
        cases q'
    exact ⟨by rw [hN]; exact eN, f2, .inr (.inl f2), .inl k2, hcc.trans (hcl _ (lookup_mem hcc)).symm⟩
  · have : scope.names.lookup y = some .free := by
      rcases e with e | e <;> rcases vis y _ e with z | z | z
      · cases z.1
      · cases z
      · exact z.2
      · cases z.1
      · cases z
      · cases z.1
    exact mem_lookup (by rw [hf]; exact (fr_of y this).1)
  · cases e : cl.lookup x with
    | none => rfl
    | some c => exact absurd (by rw [← hf]; exact List.mem_map_of_mem (lookup_mem e)) h7
/-! the tape, its script by name -/
def TapeS (K : PySem.W.Frag) (ns : List Int) (t sc : Addr) (H : Hp) : Prop := ∃ (sp cr wy : Int), H t = some (.lst [.ref sc, .int sp, .int cr, .int wy]) ∧ ScL K t H sc (ns.map V.int)
structure CurS (K : PySem.W.Frag) (ns : List Int) (t sc : Addr) (H₀ H : Hp) : Prop where
  tape : TapeS K ns t sc H
  ext : Ext t H₀ H
section
variable {K : PySem.W.Frag} {ns : List Int} {t sc p : Addr} {H₀ H H' : Hp}
theorem Tape.s (h : Tape K ns t H) : ∃ sc, TapeS K ns t sc H := h
theorem TapeS.tape (h : TapeS K ns t sc H) : Tape K ns t H := ⟨sc, h⟩
theorem CurS.cur (c : CurS K ns t sc H₀ H) : Cur K ns t H₀ H := ⟨c.tape.tape, c.ext⟩
theorem TapeS.keep {o : HO} (h0 : TapeS K ns t sc H₀) (hp : H₀ p = none) (h : TapeS K ns t sc H) : TapeS K ns t sc (upd H p o) := by
  obtain ⟨_, _, _, e0, l0⟩ := h0
  have nt : p ≠ t := (ne_of_none e0 hp).symm
  obtain ⟨sp, cr, wy, e, l⟩ := h
  refine ⟨sp, cr, wy, by rw [upd_ne nt.symm]; exact e, ?_⟩
  have mv : sc ≠ p → ScL K t (upd H p o) sc (ns.map V.int) := fun ne => by
    rcases l with ⟨l1, l2⟩ | l
    · refine .inl ⟨l1, ?_⟩
      rcases l2 with (q | ⟨u, q⟩) | q
      · exact .inl (.inl (by rw [upd_ne ne]; exact q))
      · exact .inl (.inr ⟨u, by rw [upd_ne ne]; exact q⟩)
      · exact .inr q
    · exact .inr l
  rcases l0 with ⟨_, (q | ⟨u, q⟩) | q⟩ | l0
  · exact mv (ne_of_none q hp)
  · exact mv (ne_of_none q hp)
  · exact .inr fun _ => .inr q
  · exact .inr l0
theorem CurS.keep {o : HO} (h0 : TapeS K ns t sc H₀) (hp : H₀ p = none) (c : CurS K ns t sc H₀ H) : CurS K ns t sc H₀ (upd H p o) :=
  ⟨TapeS.keep h0 hp c.tape, fun b u n q => by rw [upd_ne (ne_of_none q hp)]; exact c.ext b u n q⟩
theorem CurS.then (c : CurS K ns t sc H₀ H) (d : CurS K ns t sc H H') : CurS K ns t sc H₀ H' := ⟨d.tape, c.ext.trans d.ext⟩
theorem TapeS.cur (h : TapeS K ns t sc H) : CurS K ns t sc H H := ⟨h, .refl H⟩
end
/-! promises -/
section
variable (K : PySem.W.Frag) (ns : List Int)
def spDrawS : Sp := fun vs H Q _ => ∃ t sc m, vs = [.ref t, .int m] ∧ 0 < m ∧ m < 1073741824 ∧ TapeS K ns t sc H ∧ ∀ (r : Int) (H' : Hp), 0 ≤ r → r < m → CurS K ns t sc H H' → Q (.int r) H'
def spNow : Sp := fun vs H Q _ => ∃ rl v z o, vs = [v, .int z, .int o] ∧ RlV K H rl v ∧ rl ≠ .pt ∧ ∀ v', RlV K H (now rl z o) v' → Q v' H
def spBegun (n : Nat) : Sp := fun vs H Q _ => ∃ rl v, vs = [v] ∧ RlV K H rl v ∧ depth rl < n ∧ ∀ r H', Same H H' → StV K H' (begn rl) r → Q r H'
def spBegunIn (n : Nat) : Sp := fun vs H Q _ => ∃ rl v z o, vs = [v, .int z, .int o] ∧ RlV K H rl v ∧ rl ≠ .pt ∧ depth rl < n ∧ ∀ r H', Same H H' → StV K H' (.cn z o (begn (now rl z o))) r → Q r H'
def spIsWon : Sp := fun vs H Q _ => ∃ rl v z o, vs = [v, .int z, .int o] ∧ RlV K H rl v ∧ rl ≠ .pt ∧ Q (.bl (won rl z o)) H
def spRal (n : Nat) : Sp := fun vs H Q _ => ∃ rl v s sv b, vs = [v, sv, .int (sideI b)] ∧ RlV K H rl v ∧ StV K H s sv ∧ ok rl ∧ Live rl s ∧ depth rl < n ∧ ∀ p sv' H', Same H H' → SqT K H' p [sv', .bl (ral rl s b).2] → StV K H' (ral rl s b).1 sv' → Q (.ref p) H'
def spCutOff : Sp := fun vs H Q _ => ∃ rl v m, vs = [v, .int m] ∧ RlV K H rl v ∧ rl ≠ .pt ∧ Q (.int (off rl m)) H
def spCut (n : Nat) : Sp := fun vs H Q _ => ∃ rl v s sv, vs = [v, sv] ∧ RlV K H rl v ∧ StV K H s sv ∧ Shp rl s ∧ depth rl < n ∧ ∀ r H', Same H H' → StV K H' (cutS rl s) r → Q r H'
def spStk (n : Nat) : Sp := fun vs H Q _ => ∃ rl v s sv b, vs = [v, sv, .int (sideI b)] ∧ RlV K H rl v ∧ StV K H s sv ∧ ok rl ∧ Live rl s ∧ depth rl < n ∧ ∀ H', Same H H' → Q (.int (stk rl s b)) H'
def spLawWon : Sp := fun vs H Q _ => ∃ rl v x y, vs = [v, .int x, .int y] ∧ RlV K H rl v ∧ rl ≠ .pt ∧ Q (.bl (lawWon rl x y)) H
def sideV (b : Bool) : V := .int (sideI b)
def optB : Option Bool → V
  | none => .non
  | some b => .int (sideI b)
def natV (n : Nat) : V := .int n
def spPlayed (n : Nat) : Sp := fun vs H Q _ => ∃ rl v a e, ∃ (row : List Bool), ∃ (at0 : Nat), ∃ (es : List V), vs = [v, .ref a, .int at0, .ref e] ∧ RlV K H rl v ∧ ok rl ∧ depth rl < n ∧ a ≠ e ∧ SqL K H a (row.map sideV) ∧ at0 ≤ row.length ∧ row.length ≤ 100 ∧ H e = some (.lst es) ∧ es.length + depth rl * (row.length - at0) ≤ 900 ∧
  ∀ p sv H' o, o = walk rl at0 (begn rl) (row.drop at0) → Ext e H H' → SqT K H' p [optB o.side, sv, .int o.at_] → StV K H' o.sd sv → H' e = some (.lst (es ++ o.ends.map natV)) → Q (.ref p) H'
def spRow : Sp := fun vs H Q _ => ∃ t m, vs = [.ref t, .int m] ∧ 0 ≤ m ∧ m ≤ 60 ∧ Tape K ns t H ∧ ∀ a (row : List Bool) H', (row.length : Int) = m → Cur K ns t H H' → H a = none → H' a = some (.lst (row.map sideV)) → Q (.ref a) H'
def spAlk (bb : Bool) (n : Nat) : Sp := fun vs H Q _ => ∃ t d x y, vs = [x, y] ∧ Dt K t H d x ∧ Dt K t H d y ∧ fl bb d = true ∧ d.depth < n ∧ ∀ H', Same H H' → Q (.bl true) H'
end
theorem drawS_of {K : PySem.W.Frag} {ns : List Int} {t sc : Addr} {H : Hp} {Q : VK} {E : XK} {m : Int} (T : TapeS K ns t sc H) (h : ∀ (r : Int) (H' : Hp), 0 ≤ r → r < m → CurS K ns t sc H H' → Q (.int r) H') (h0 : 0 < m := by decide) (h1 : m < 1073741824 := by decide) : spDrawS K ns [.ref t, .int m] H Q E := ⟨t, sc, m, rfl, h0, h1, T, h⟩
/-- draws, one for each turn of a comprehension -/
theorem comp_draw {K : PySem.W.Frag} {ns : List Int} {t sc : Addr} {σ : St} {H : Hp} {Q : VK} {te : TE} {ta : TA} {m : Nat} (Pr : V → Prop) (hta : ∀ R : List V → Hp → Prop, R [.int m] H → ta σ H R) (hz : m ≤ 1000) (T : TapeS K ns t sc H)
    (elt : ∀ i H', i < m → CurS K ns t sc H H' → ∀ Q' : VK, (∀ y H'', Pr y → CurS K ns t sc H' H'' → Q' y H'') → te (some (.int (0 + i)) :: σ) H' Q')
    (q : ∀ D ys H', CurS K ns t sc H H' → H D = none → H' D = some (.lst ys) → ys.length = m → (∀ y ∈ ys, Pr y) → Q (.ref D) H') : tComp (iRng1 ta) tTrue te σ H Q := by
  unfold tComp iRng1
  refine hta _ ⟨m, rfl, by omega, by omega, fun D hD => ⟨fun i n H' => n = m - i ∧ i ≤ m ∧ CurS K ns t sc H H' ∧ ∃ ys, H' D = some (.lst ys) ∧ ys.length = i ∧ ∀ y ∈ ys, Pr y,
    ⟨_, rfl, Nat.zero_le _, T.cur.keep T hD, [], upd_same, rfl, fun y hy => by simp at hy⟩, ?_⟩⟩
  have em : ((m : Int)).toNat = m := by omega
  rw [em]
  have nDt : D ≠ t := T.tape.ne hD
  rintro i n H' ⟨rfl, hi, C, ys, hD', hl, hP⟩
  by_cases c : i = m
  · exact .inl ⟨Nat.le_of_eq c.symm, q D ys H' C hD hD' (by omega) hP⟩
  · have hlt : i < m := by omega
    refine .inr ⟨hlt, ?_⟩
    rintro x' H'' ⟨rfl, rfl⟩
    unfold tTrue
    dsimp only
    rw [if_pos rfl]
    refine elt i H'' hlt C _ fun y H3 hy C3 => ?_
    have h3 := C3.ext _ _ (fun z => absurd z nDt) hD'
    refine ⟨_, h3, small1000 (by omega), _, by omega, rfl, by omega, (C.then C3).keep T hD, ys ++ [y], upd_same, by simp [hl], fun u hu => ?_⟩
    rcases List.mem_append.mp hu with h | h
    · exact hP u h
    · simp only [List.mem_singleton] at h; subst h; exact hy
theorem cutV_take {xs : List V} {k : Nat} : cutV xs none (some (k : Int)) = xs.take k := by
  unfold cutV
  have h1 : HT.sIx xs.length 0 none = 0 := rfl
  have h2 : HT.sIx xs.length xs.length (some (k : Int)) = min k xs.length := by
    show (if ((k : Nat) : Int) < 0 then (((k : Nat) : Int) + (xs.length : Int)).toNat else min ((k : Nat) : Int).toNat xs.length) = _
    rw [if_neg (by omega)]
    simp
  rw [h1, h2, List.drop_zero, Nat.sub_zero]
  rcases Nat.le_total k xs.length with h | h
  · rw [Nat.min_eq_left h]
  · rw [Nat.min_eq_right h, List.take_of_length_le h, List.take_of_length_le (Nat.le_refl _)]
theorem cutV_init {xs : List V} : cutV xs none (some (-1)) = xs.take (xs.length - 1) := by
  unfold cutV
  have h1 : HT.sIx xs.length 0 none = 0 := rfl
  have h2 : HT.sIx xs.length xs.length (some (-1)) = xs.length - 1 := by
    show (if (-1 : Int) < 0 then ((-1 : Int) + (xs.length : Int)).toNat else min (-1 : Int).toNat xs.length) = _
    rw [if_pos (by decide)]
    omega
  rw [h1, h2, List.drop_zero, Nat.sub_zero]
/-- a comprehension that leaves some out -/
theorem comp_flt {K : PySem.W.Frag} {σ : St} {H : Hp} {Q : VK} {te : TE} {tt : TT} {ta : TE} {a : Addr} {xs : List V} (f : V → Bool)
    (hta : ∀ R : VK, R (.ref a) H → ta σ H R) (hs : SqL K H a xs) (hz : xs.length ≤ 1000)
    (test : ∀ x H', x ∈ xs → Same H H' → ∀ Q' : Bool → Hp → Prop, (∀ H'', Same H' H'' → Q' (f x) H'') → tt (some x :: σ) H' Q')
    (elt : ∀ x H', x ∈ xs → Same H H' → ∀ Q' : VK, Q' x H' → te (some x :: σ) H' Q')
    (q : ∀ D H', Same H H' → H D = none → H' D = some (.lst (xs.filter f)) → Q (.ref D) H') : tComp (iList K ta) tt te σ H Q := by
  unfold tComp iList
  refine hta _ ⟨a, rfl, ⟨xs, hs⟩, fun D hD => ⟨fun i m H' => m = xs.length - i ∧ i ≤ xs.length ∧ Same H H' ∧ H' D = some (.lst ((xs.take i).filter f)),
    ⟨_, rfl, Nat.zero_le _, fun b o h => by rw [upd_ne (ne_of_none h hD)]; exact h, by rw [upd_same, List.take_zero]; rfl⟩, ?_⟩⟩
  rintro i m H' ⟨rfl, hi, S, hD'⟩
  have hs' := S.seq hs
  by_cases c : i = xs.length
  · refine .inl ⟨⟨xs, hs', by omega⟩, q D H' S hD ?_⟩
    rw [List.take_of_length_le (by omega)] at hD'
    exact hD'
  · have hx : xs[i]? = some xs[i] := List.getElem?_eq_getElem (by omega)
    refine .inr ⟨⟨xs, _, hs', hx⟩, ?_⟩
    rintro x' H'' ⟨rfl, hx'⟩
    have e := hx' xs hs'
    have htk : xs.take (i + 1) = xs.take i ++ [x'] := by rw [List.take_succ, e]; rfl
    refine test x' H'' (List.mem_of_getElem? e) S _ fun H2 S2 => ?_
    cases eg : f x' with
    | false =>
      rw [if_neg Bool.false_ne_true]
      refine ⟨_, by omega, rfl, by omega, S.trans S2, ?_⟩
      rw [htk, List.filter_append]
      simp only [List.filter_cons, eg, Bool.false_eq_true, if_false, List.filter_nil, List.append_nil]
      exact S2 _ _ hD'
    | true =>
      rw [if_pos rfl]
      refine elt x' H2 (List.mem_of_getElem? e) (S.trans S2) _ ?_
      have h3 := S2 _ _ hD'
      have hl := List.length_filter_le f (xs.take i)
      have hl2 : (xs.take i).length ≤ xs.length := by rw [List.length_take]; omega
      refine ⟨_, h3, small1000 (by omega), _, by omega, rfl, by omega, fun b o h => ?_, ?_⟩
      · rw [upd_ne (ne_of_none h hD)]
        exact S2 _ _ (S _ _ h)
      · rw [upd_same, htk, List.filter_append]
        simp [List.filter_cons, eg]
theorem take_side {row : List Bool} {k : Nat} : (row.map sideV).take k = (row.take k).map sideV := by rw [List.map_take]
theorem nats_of {n m : Nat} : ∀ {ys : List V}, (∀ y ∈ ys, ∃ j : Nat, y = natV j ∧ j ≤ m) → ys.length = n → ∃ ks : List Nat, ys = ks.map natV ∧ ks.length = n ∧ ∀ x ∈ ks, x ≤ m
  | [], _, h => ⟨[], rfl, h, fun x hx => by simp at hx⟩
  | y :: ys, hy, h => by
    obtain ⟨j, rfl, hj⟩ := hy y (List.mem_cons_self ..)
    obtain ⟨ks, rfl, hl, hk⟩ := nats_of (n := ys.length) (ys := ys) (fun z hz => hy z (List.mem_cons_of_mem _ hz)) rfl
    refine ⟨j :: ks, rfl, by simp only [List.length_cons, List.length_map] at *; omega, fun x hx => ?_⟩
    rcases List.mem_cons.mp hx with rfl | hx
    · exact hj
    · exact hk x hx
/-! lists of stands -/
def StL (K : PySem.W.Frag) (H : Hp) (ss : List Sd) (vs : List V) : Prop := DtL K 0 H (ss.map encS) vs
section
variable {K : PySem.W.Frag} {H H' : Hp} {ss qs : List Sd} {s : Sd} {v : V} {vs us : List V} {t : Addr}
theorem noLs_encS : ∀ rs : List Sd, noLs (rs.map encS) = true
  | [] => rfl
  | r :: rs => by simp only [List.map_cons, noLs, noL_encS r, noLs_encS rs]; rfl
theorem StL.dt (h : StL K H ss vs) : DtL K t H (ss.map encS) vs := DtL.tk (.refl H) _ _ (noLs_encS ss) h
theorem StL.tk (h : StL K H ss vs) (e : Tk K H H') : StL K H' ss vs := DtL.tk e _ _ (noLs_encS ss) h
theorem StL.same (h : StL K H ss vs) (e : Same H H') : StL K H' ss vs := h.tk e.tk
theorem StL.nil : StL K H [] [] := by simp [StL, DtL]
theorem StL.one (h : StV K H s v) : StL K H [s] [v] := by
  simp only [StL, List.map_cons, List.map_nil, DtL]
  exact ⟨v, [], rfl, h, rfl⟩
theorem StL.app : ∀ {ss : List Sd} {vs : List V}, StL K H ss vs → StL K H qs us → StL K H (ss ++ qs) (vs ++ us)
  | [], vs, h, q => by simp only [StL, List.map_nil, DtL] at h; subst h; exact q
  | r :: rs, vs, h, q => by
    simp only [StL, List.map_cons, DtL] at h
    obtain ⟨v, s, rfl, h1, h2⟩ := h
    have := StL.app (ss := rs) (vs := s) h2 q
    simp only [StL, List.cons_append, List.map_cons, DtL]
    exact ⟨v, _, rfl, h1, this⟩
theorem StL.len (h : StL K H ss vs) : ss.length = vs.length := by
  have := DtL.len h
  rwa [List.length_map] at this
theorem StL.at {i : Nat} (h : StL K H ss vs) (e : ss[i]? = some s) : ∃ v, vs[i]? = some v ∧ StV K H s v := DtL.get (i := i) h (by rw [List.getElem?_map, e]; rfl)
theorem eqvAll_S : ∀ ss : List Sd, PyData.eqvAll (ss.map encS) (ss.map encS) = true
  | [] => by simp [PyData.eqvAll]
  | s :: ss => by simp only [List.map_cons, PyData.eqvAll, eqv_refl_S s, eqvAll_S ss]; rfl
theorem depAll_S {n : Nat} : ∀ ss : List Sd, (∀ s ∈ ss, lenS s ≤ n) → PyData.depthAll (ss.map encS) ≤ n + 1
  | [], _ => by simp [PyData.depthAll]
  | s :: ss, h => by
    have := depAll_S ss fun x hx => h x (List.mem_cons_of_mem _ hx)
    have := h s (List.mem_cons_self ..)
    simp only [List.map_cons, PyData.depthAll, dep_encS]
    omega
end
end L2
namespace L2
open PySem PySem.Spec PySem.Calls PyProof.Rows
/-! ### an exception of an own class in flight -/
/-- it has left the callee's frame: all that lay in the heap when it was raised, the frames aside, stays as it was (B); H' is that heap's abstract one -/
def CX1 (P : Program) (w : World) : CXT := fun outer H s E e s' => ∃ (ea t C : Addr) (B : Heap) (H' : Hp), e = .ref ea ∧ s'.os = s.os ∧ AllBare s'.gens ∧ Heap.FlyingW B outer ea (.ref C) (.ref t) s'.heap ∧
  (∀ h : Heap, B.StaysIn h → s'.heap.UpToSlots h → Un (frs outer) [] H H' s.heap h ∧ HOk P w H' h ∧ h.FunFrames B outer) ∧ (∀ b o, H' b = some o → ∃ u, B.get? b = some u) ∧ (∀ b o, s.heap.get? b = some o → b ∈ frs outer ∨ ∃ u, B.get? b = some u) ∧ E (.ref C) none H'
theorem un_up {fs : List Addr} {L : Addr} {H0 H H' : Hp} {h0 h1 h2 : Heap} (a : Un fs [] H0 H h0 h1) (b : Un (L :: fs) [] H H' h1 h2) (hL : ∀ c o, h0.get? c = some o → c ≠ L) : Un fs [] H0 H' h0 h2 where
  keep := fun c o q n hc hx => b.keep c o (a.keep c o q n hc hx) (a.free c o q n hx) (fun z => (List.mem_cons.mp z).elim (hL c o q) hc) hx
  slot := fun c o q n hc hx => by
    obtain ⟨sl, e1⟩ := a.slot c o q n hc hx
    obtain ⟨sl', e2⟩ := b.slot c _ e1 (a.free c o q n hx) (List.mem_cons_of_mem _ hc) hx
    exact ⟨sl', e2⟩
  free := fun c o q n hx => by
    obtain ⟨o', e1⟩ := a.there c o q hx
    exact b.free c o' e1 (a.free c o q n hx) hx
  there := fun c o q hx => by
    obtain ⟨o', e1⟩ := a.there c o q hx
    exact b.there c o' e1 hx
  tups := fun c xs q => b.tups c xs (a.tups c xs q)
  frzs := fun c o u q => b.frzs c o u (a.frzs c o u q)
  tbls := fun c ps q => by
    obtain ⟨m1, e1⟩ := a.tbls c ps q
    obtain ⟨m2, e2⟩ := b.tbls c _ e1
    exact ⟨m1 ++ m2, by rw [e2, Array.append_assoc]⟩
theorem ok_got {P : Program} {w : World} {H : Hp} {h : Heap} {a : Addr} {o : HO} (x : ObjOk P w H h a o) : ∃ u, h.get? a = some u := by
  cases o with
  | lst xs => exact ⟨_, x.2.choose_spec.choose_spec.2⟩
  | tup xs =>
    obtain ⟨_, _, _, ob, e, _⟩ := x
    exact ⟨_, e⟩
  | dK kvs =>
    obtain ⟨_, _, _, _, ob, _, _, e, _⟩ := x
    exact ⟨_, e⟩
  | dT kvs =>
    obtain ⟨_, _, _, _, ob, _, _, e, _⟩ := x
    exact ⟨_, e⟩
  | set S n =>
    obtain ⟨ob, _, _, _, e, _⟩ := x
    exact ⟨_, e⟩
  | ins C dx fs =>
    obtain ⟨_, _, _, e, _⟩ := x
    exact ⟨_, e⟩
  | own y => exact x
  | xd fs =>
    obtain ⟨_, ⟨_, _, _, e, _⟩, _⟩ := x
    exact ⟨_, e⟩
  | rng lo hi =>
    obtain ⟨_, _, _, e⟩ := x
    exact ⟨_, e⟩
  | frz ob u => exact ⟨_, x.1⟩
  | tbl ps => exact ⟨_, x⟩
  | met f y => exact ⟨_, x⟩
  | ext φ => exact x.2.1
section
variable {P : Program} {w : World} {K : PySem.W.Frag} {mg : Str → Option Value} {base : Heap} {N : List Str} {qual : Str} {scope : Scope} {f : Addr} {cd : Value} {A : Around} {outer : List Env} {s0 : Shared} {H0 : Hp} {E : XK}
/-- an exception that was just made leaves the frame -/
theorem xe_raise {pins : List (Addr × Obj)} {σ : St} {H : Hp} {s : Shared} {h1 : Heap} {ea C : Addr} {args : List Value} (I : Inv (cxOf (CX1 P w) P w K mg base N qual scope f cd A outer s0 H0 E) pins σ H s) (hx : Heap.MadeExcOf s.heap h1 ea (.ref C) args) (hE : E (.ref C) none H) :
    (cxOf (CX1 P w) P w K mg base N qual scope f cd A outer s0 H0 E).xe (.ref ea) { s with heap := h1 } := by
  show wpAny (model P w) (A.deeper (envOfC qual scope s0.heap.objs.size f cd)) (leaving (envOfC qual scope s0.heap.objs.size f cd) (.ref ea)) _ _ _
  have hfr := I.ok.frames
  have hst := I.stack
  have hin : ∀ env ∈ (envOfC qual scope s0.heap.objs.size f cd :: outer), ∀ b, env.frame = some b → b ∈ frs (envOfC qual scope s0.heap.objs.size f cd :: outer) := fun env he b hb => List.mem_filterMap.mpr ⟨env, he, hb⟩
  have hfrs : frs (envOfC qual scope s0.heap.objs.size f cd :: outer) = s0.heap.objs.size :: frs outer := rfl
  have hsf := I.stkFree
  refine wpAny_leaves_madeW (base := PySem.W.hideAll s.heap (frs (envOfC qual scope s0.heap.objs.size f cd :: outer))) hfr rfl (fun b o q => PySem.W.of_hideAll _ q) (PySem.W.funFrames_hide hst hin) hx fun h' t fl tup tn ups => ?_
  have mem_fr : ∀ b ∈ frs (envOfC qual scope s0.heap.objs.size f cd :: outer), ∃ o, s.heap.get? b = some o ∧ ∀ vs, o.data ≠ .fields vs := fun b hb => (hst.mem hb).2
  refine ⟨ea, t, C, _, H, rfl, I.os, I.bare, fl, fun h hB hup => ?_, fun b o e => ?_, fun b o e => ?_, hE⟩
  · have kb : ∀ b o, s.heap.get? b = some o → b ∉ frs (envOfC qual scope s0.heap.objs.size f cd :: outer) → h.get? b = some o := fun b o q n => hB b o (PySem.W.hideAll_get _ q n)
    have sl : ∀ b o, s.heap.get? b = some o → b ∈ frs (envOfC qual scope s0.heap.objs.size f cd :: outer) → ∃ sl, h.get? b = some { o with slots := sl } := fun b o q hb => by
      obtain ⟨o', e', nf⟩ := mem_fr b hb
      rw [q] at e'
      cases e'
      obtain ⟨s1, e1⟩ := ups b o (hx.keeps b o q) nf
      obtain ⟨s2, e2⟩ := hup b _ e1 nf
      exact ⟨s2, e2⟩
    have u := I.base
    refine ⟨⟨fun b o q n hb hx' => ?_, fun b o q n hb hx' => ?_, u.free, fun b o q hx' => ?_, u.tups, u.frzs, u.tbls⟩, fun a o e => ?_, ?_⟩
    · refine kb b o (u.keep b o q n hb hx') fun z => ?_
      rw [hfrs] at z
      rcases List.mem_cons.mp z with z | z
      · have := Heap.lt_size q
        rw [z] at this
        exact absurd this (Nat.lt_irrefl _)
      · exact hb z
    · obtain ⟨s1, e1⟩ := u.slot b o q n hb hx'
      obtain ⟨s2, e2⟩ := sl b _ e1 (by rw [hfrs]; exact List.mem_cons_of_mem _ hb)
      exact ⟨s2, e2⟩
    · obtain ⟨o', e1⟩ := u.there b o q hx'
      by_cases hb : b ∈ frs (envOfC qual scope s0.heap.objs.size f cd :: outer)
      · obtain ⟨s2, e2⟩ := sl b _ e1 hb
        exact ⟨_, e2⟩
      · exact ⟨_, kb b o' e1 hb⟩
    · refine (I.hok a o e).stay (fun b u' hb q => kb b u' q fun z => ?_) (fun _ z => z) fun _ _ z => z
      have hn := hsf b z
      rcases hb with rfl | hb
      · rw [e] at hn; cases hn
      · rw [hb] at hn; cases hn
    · obtain ⟨_, _, hs⟩ := PySem.W.funFrames_hide hst hin
      refine hs.of_keeps fun b o hb hnf => ?_
      by_cases hb' : b ∈ frs (envOfC qual scope s0.heap.objs.size f cd :: outer)
      · obtain ⟨s2, e2⟩ := sl b o hb hb'
        exact ⟨_, e2, rfl⟩
      · exact ⟨o, kb b o hb hb', rfl⟩
  · obtain ⟨u', q⟩ := ok_got (I.hok b o e)
    refine ⟨u', PySem.W.hideAll_get _ q fun z => ?_⟩
    have hn := hsf b z
    rw [e] at hn; cases hn
  · obtain ⟨o', e1⟩ := I.base.there b o e (by intro z; cases z)
    by_cases hb : b ∈ frs (envOfC qual scope s0.heap.objs.size f cd :: outer)
    · rw [hfrs] at hb
      rcases List.mem_cons.mp hb with z | z
      · have := Heap.lt_size e
        rw [z] at this
        exact absurd this (Nat.lt_irrefl _)
      · exact .inl z
    · exact .inr ⟨o', PySem.W.hideAll_get _ e1 hb⟩
/-- an exception of a callee goes on -/
theorem pass1 : Passes (CX1 P w) (cxOf (CX1 P w) P w K mg base N qual scope f cd A outer s0 H0 E) E := by
  rintro pins σ H s e s' I ⟨ea, t, C, B, H', rfl, os, bare, fl, k1, k2, k3, hE⟩
  show wpAny (model P w) (A.deeper (envOfC qual scope s0.heap.objs.size f cd)) (leaving (envOfC qual scope s0.heap.objs.size f cd) (.ref ea)) _ _ _
  refine wpAny_leaves_onW I.ok.frames rfl fl fun h' fl' ups => ?_
  have k3' : ∀ b o, s0.heap.get? b = some o → b ∈ frs outer ∨ ∃ u, B.get? b = some u := fun b o q => by
    obtain ⟨o', e1⟩ := I.base.there b o q (by intro z; cases z)
    rcases k3 b o' e1 with z | z
    · rcases List.mem_cons.mp z with z | z
      · have := Heap.lt_size q
        rw [z] at this
        exact absurd this (Nat.lt_irrefl _)
      · exact .inl z
    · exact .inr z
  refine ⟨ea, t, C, B, H', rfl, os.trans I.os, bare, fl', fun h hB hup => ?_, k2, k3', hE⟩
  obtain ⟨u, hok, ff⟩ := k1 h hB (ups.trans hup)
  obtain ⟨_, _, ff'⟩ := ff
  exact ⟨un_up I.base u fun c o q z => by
    have := Heap.lt_size q
    rw [z] at this
    exact absurd this (Nat.lt_irrefl _), hok, ff'⟩
end
end L2
namespace L2
open PySem PySem.Spec PySem.Calls PyProof.Rows
theorem ps_nox {X : Cx} {st : Stmt} {t : TS} (h : PS X.nox st t) : PS X st t := fun pins s σ H D I hw =>
  wpAny_mono (h pins s σ H D (I.wish _) hw) (fun _ _ q => q.unwish) fun _ _ z => False.elim z
theorem pa_nox {X : Cx} {es : List Expr} {t : TA} (h : PA X.nox es t) : PA X es t := fun pos pins s σ H Q I hw =>
  wpAny_mono (h pos pins s σ H Q (I.wish _) hw) (fun _ _ ⟨v, H', I', r, q⟩ => ⟨v, H', I'.unwish, r, q⟩) fun _ _ z => False.elim z
/-! ### own classes of errors under ValueError -/
abbrev veTail : List Value := [.type "ValueError", .type "Exception", .type "BaseException", .type "object"]
/-- the class at C is an own error's -/
def OwnE (K : PySem.W.Frag) (C : Addr) : Prop := ∀ h : Heap, K.In h → ∃ (bm : List Value) (N : Addr) (nm qn : Str) (bs : List Value) (hdct : Bool) (sn : List Str) (sub : List Value) (ab : Bool) (col : Option Bool) (dd : Option Addr) (k0 k1 k2 k3 k5 : Option Value) (mN : Str → Option Value),
  h.get? C = some (excClassObj nm qn C N bs bm hdct sn sub ab col dd k0 k1 k2 k3 k5 "ValueError.__new__") ∧ h.Ns N mN ∧ mN "__init__" = none ∧ OwnTail h veTail bm
/-- raise C(e) -/
def tRaise (t : TA) (R : Hp → Prop) : TS := fun _ σ H => t σ H fun vs H1 => vs.length ≤ sizeLine ∧ R H1
theorem ps_raise {X : Cx} {x : Str} {C : Addr} {np cpos pos : Pos} {e : Expr} {es : List Expr} {t : TA} {R : Hp → Prop} (O : OwnE X.K C) (hg : Gl X x) (hm : X.mg x = some (.ref C)) (hc : X.calm = true) (ha : PA X (e :: es) t)
    (hxe : ∀ pins σ H s h1 ea args, Inv X pins σ H s → Heap.MadeExcOf s.heap h1 ea (.ref C) args → R H → X.xe (.ref ea) { s with heap := h1 })
    (hu : (e :: es).all unst = true := by rfl) (hdb : (x == ("__debug__" : Str)) = false := by decide) : PS X (.Raise (some (.Call (.Name x np) (e :: es) [] cpos)) none pos) (tRaise t R) := by
  intro pins s σ H D I h
  obtain ⟨bm, N, nm, qn, bs, hdct, sn, sub, ab, col, dd, k0, k1, k2, k3, k5, mN, hC, hN, hni, TL⟩ := O X.base I.mod.kin
  refine wpAny_Raise_call_subT (C := C) (nm := nm) (q := qn) (N := N) (bs := bs) (bm := bm) (hdct := hdct) (sn := sn) (sub := sub)
    (ab := ab) (col := col) (dd := dd) (k0 := k0) (k1 := k1) (k2 := k2) (k3 := k3) (k5 := k5) PySem.F.excBase_ValueError (mN := mN) (TL.hasType (b := true) (by decide)) (I.ok.hd hc) (star_any hu) hni (ld_glob I hg hm ⟨rfl, ?_⟩ hdb)
  have q := ha cpos pins s σ H _ I h
  rw [star_un (all_hd hu)] at q ⊢
  refine Calls.evalArgs_plain (thn q fun us s1 ⟨vs, H1, I1, r, hz, hR⟩ => ?_)
  exact ⟨rfl, by rw [← r.length]; exact hz, I1.bk _ _ hC, hN.keeps I1.bk, TL.keeps I1.bk, fun h' ea hx => hxe pins σ H1 s1 h' ea us I1 hx hR⟩
/-! ### defs that may raise -/
structure Dx (P : Program) (w : World) (K : PySem.W.Frag) (mg : Str → Option Value) (base : Heap) (k : Nat) (x : Str) (ps : List Str) (sp : Sp) : Prop where
  ex : ∃ (f : Addr) (fd : FuncData), FnOk P w K mg base (CX1 P w) k f fd ps sp ∧ Binds K fd ps [] ∧ PySem.W.keepIn K (.ref f) = true ∧ mg x = some (.ref f)
theorem Dx.mono {P : Program} {w : World} {K : PySem.W.Frag} {mg : Str → Option Value} {base : Heap} {j k : Nat} {x : Str} {ps : List Str} {sp : Sp} (D : Dx P w K mg base j x ps sp) (h : j ≤ k) : Dx P w K mg base k x ps sp := by
  obtain ⟨f, fd, a, b, c, d⟩ := D.ex
  exact ⟨f, fd, a.mono h, b, c, d⟩
theorem Df.okx {P : Program} {w : World} {K : PySem.W.Frag} {mg : Str → Option Value} {base : Heap} {x : Str} {st : Stmt} {N ps : List Str} {k : Nat} {sp : Sp} (F : Df K mg x st ps) (S : FnScope N ps (defScope st))
    (len : ∀ vs H Q E, sp vs H Q E → vs.length = ps.length)
    (hbody : ∀ (f : Addr) (cdv : Value) (A : Around) (outer : List Env) (s : Shared) (H : Hp) (vs : List V) (Q : VK) (E : XK), Room k (A.deeper (envOfC x (defScope st) s.heap.objs.size f cdv)) → sp vs H Q E →
      ∃ (t : TS) (σ : St), PSs (cxOf (CX1 P w) P w K mg base N x (defScope st) f cdv A outer s H E) (defBody st) t ∧ start N vs = σ ∧ t { nx := fun _ H' => Q .non H', rt := Q } σ H) : Dx P w K mg base (k + 1) x ps sp := by
  obtain ⟨f, fd, F1, b, m⟩ := F.ex
  refine ⟨f, fd, ?_, b, F1.kp, m⟩
  obtain ⟨oc, od, kV, doc, pm, an, cdv, ct, osl, rfl, lk, hcd⟩ := F1.ex
  refine fn_of lk hcd S len fun A outer s H vs Q E hr hsp => ?_
  obtain ⟨t, σ, h1, rfl, h2⟩ := hbody f cdv A outer s H vs Q E hr hsp
  exact ⟨t, h1, h2⟩
/-- a def that cannot raise is one that may -/
theorem Dn.dx {P : Program} {w : World} {K : PySem.W.Frag} {mg : Str → Option Value} {base : Heap} {k : Nat} {x : Str} {ps : List Str} {sp : Sp} (D : Dn P w K mg base k x ps sp) : Dx P w K mg base k x ps sp := by
  obtain ⟨f, fd, a, b, c, d⟩ := D.ex
  refine ⟨f, fd, ⟨a.len, fun A outer s H args us vs Q E hr he hb hv hs => codeAny_mono (a.run A outer s H args us vs Q E hr he hb hv hs) fun r s' hq => ?_⟩, b, c, d⟩
  cases r with
  | error e => exact False.elim hq
  | ok fl => cases fl <;> exact hq
section
variable {X : Cx} {k : Nat} {x : Str} {ps : List Str} {sp : Sp} {e : Expr} {es : List Expr} {t : TA} {p pos : Pos}
/-- a call whose exception goes on to the caller -/
theorem pe_callP {E : XK} (D : Dx X.prog X.w X.K X.mg X.base k x ps sp) (hp : Passes (CX1 X.prog X.w) X E) (hr : Room k X.A) (hg : Gl X x) (ha : PA X (e :: es) t) (h : (e :: es).all unst = true := by rfl) (hdb : (x == ("__debug__" : Str)) = false := by decide) :
    PE X (.Call (.Name x p) (e :: es) [] pos) (tCall sp [] E t) := by
  obtain ⟨f, fd, a, b, c, d⟩ := D.ex
  exact pe_call a hr hg d c b .nil hp ha hdb (star_un (all_hd h)) (star_any (all_tl h))
/-- within try: the pins stand in the context, an exception lies as CX1 says, by the slots' values then -/
def Xt (X : Cx) (pn : List (Addr × Obj)) (Ef : St → XK) : Cx := ({ X with pn := pn } : Cx).wish fun ev s' => ∃ pins σ H s, Inv { X with pn := pn } pins σ H s ∧ CX1 X.prog X.w X.stack H s (Ef σ) ev s'
def tCallX (sp : Sp) (Ef : St → XK) (t : TA) : TE := fun σ H Q => t σ H fun vs H1 => sp vs H1 Q (Ef σ)
theorem pe_callX {pn : List (Addr × Obj)} {Ef : St → XK} (D : Dx X.prog X.w X.K X.mg X.base k x ps sp) (hr : Room k X.A) (hg : Gl X x) (ha : PA (Xt X pn Ef) (e :: es) t) (h : (e :: es).all unst = true := by rfl) (hdb : (x == ("__debug__" : Str)) = false := by decide) :
    PE (Xt X pn Ef) (.Call (.Name x p) (e :: es) [] pos) (tCallX sp Ef t) := by
  obtain ⟨f, fd, F, b, c, d⟩ := D.ex
  intro pins s σ H Q I hw
  refine wpAny_Call_Name_kw (ld_glob I hg d ?_ hdb)
  refine PySem.W.callWith_K (h₀ := X.base) I.ok.mod.kin c (thn (ha pos pins s σ H _ I hw) fun us s1 ⟨vs, H1, I1, r, q⟩ => ⟨I1.kIn, ?_⟩) (star_un (all_hd h)) (star_any (all_tl h))
  have hl : us.length = ps.length := by rw [← r.length]; exact F.len _ _ _ _ q
  have bb := b s1 us I1.kIn (by rw [List.append_nil]; exact hl)
  rw [List.append_nil] at bb
  refine wpAny_call (codeAny_mono (F.run X.A X.stack s1 H1 ⟨us, []⟩ us vs Q (Ef σ) hr I1.env0 bb r q) fun rr s' hq => ?_)
  cases rr with
  | error ev => exact ⟨pins, σ, H1, s1, I1.unwish, hq⟩
  | ok fl =>
    cases fl with
    | ret u => exact I1.after hq
    | next => exact False.elim hq
    | brk => exact False.elim hq
    | cont => exact False.elim hq
end
end L2
namespace L2
open PySem PySem.Spec PySem.Calls PyProof.Rows
/-- an error's object: its class -/
def excO (a C : Addr) : HO := .ext fun h => ∃ oe vs, h.get? a = some oe ∧ oe.cls = .ref C ∧ oe.data = .fields vs
theorem excO_ok {P : Program} {w : World} {H : Hp} {h : Heap} {a C : Addr} {oe : Obj} {vs : Array Value} (e : h.get? a = some oe) (c : oe.cls = .ref C) (d : oe.data = .fields vs) : ObjOk P w H h a (excO a C) :=
  ⟨⟨oe, vs, e, c, d⟩, ⟨oe, e⟩, fun h1 h2 ⟨o1, v1, e1, c1, d1⟩ k => ⟨o1, v1, k _ e1, c1, d1⟩⟩
/-- a thing that lies there is tracked from now on -/
theorem inv_track {X : Cx} {pins : List (Addr × Obj)} {σ : St} {H : Hp} {s : Shared} {a : Addr} {o : HO} (I : Inv X pins σ H s) (hn : H a = none) (h0 : X.s₀.heap.get? a = none) (hL : a ≠ X.env.locals)
    (hc : ∀ x c, X.env.cells.lookup x = some c → c ≠ a) (hp : ∀ p ∈ X.pn ++ pins, p.1 ≠ a) (new : ObjOk X.prog X.w (upd H a o) s.heap a o) : Inv X pins σ (upd H a o) s := by
  have ne : ∀ b u, H b = some u → b ≠ a := fun b u e => ne_of_none e hn
  have ne0 : ∀ b u, X.s₀.heap.get? b = some u → b ≠ a := fun b u e z => by rw [z, h0] at e; cases e
  have u := I.base
  refine ⟨I.ok, I.os, I.bare, ⟨u.keep, u.slot, fun b ob e n hx => by rw [upd_ne (ne0 b ob e)]; exact u.free b ob e n hx, u.there, fun b xs e => ?_, fun b ob v e => ?_, fun b ps e => ?_⟩, I.loc, I.cell, by rw [upd_ne hL.symm]; exact I.free,
    fun x c e => by rw [upd_ne (hc x c e)]; exact I.freeC x c e, fun p hp' => ?_, fun b v e => ?_, I.len⟩
  · have := u.tups b xs e
    rw [upd_ne (ne b _ this)]; exact this
  · have := u.frzs b ob v e
    rw [upd_ne (ne b _ this)]; exact this
  · obtain ⟨m, this⟩ := u.tbls b ps e
    exact ⟨m, by rw [upd_ne (ne b _ this)]; exact this⟩
  · obtain ⟨q1, q2, q3⟩ := I.pin p hp'
    exact ⟨q1, by rw [upd_ne (hp p hp')]; exact q2, q3⟩
  · by_cases z : b = a
    · subst z
      rw [upd_same] at e
      cases e
      exact new
    · rw [upd_ne z] at e
      exact (I.hok b v e).stay (fun _ _ _ q => q) (fun c q => by rw [upd_ne (ne c _ q)]; exact q) fun c xs q => by rw [upd_ne (ne c _ q)]; exact q
/-- except D, where D is the error's own class or one above it -/
theorem excM_own {M : Model} {A : Around} {E : Value → Shared → Prop} {s : Shared} {e C D : Addr} {oe : Obj} {K : PySem.W.Frag} {Q : Bool → Shared → Prop} (X : K.In s.heap) (OD : OwnE K D) (hsub : PySem.W.subIn K (.ref C) (.ref D) = some true)
    (he : s.heap.get? e = some oe) (hcls : oe.cls = .ref C) (hq : Q true s) : wpAny M A (excMatches (.ref e) (.ref D)) Q E s := by
  obtain ⟨bm', N', nm', qn', bs', hdct', sn', sub', ab', col', dd', k0', k1', k2', k3', k5', mN', hD, _, _, TL'⟩ := OD s.heap X
  have hcB : (Value.ref D :: bm').contains (.type "BaseException") = true := by rw [List.contains_cons, TL'.hasType (b := true) (X := "BaseException") (by decide), Bool.or_true]
  have f := tc_notTuple
  have L := PySem.W.looks_subIn (M := M) X hsub
  obtain ⟨h, g, d, t, os⟩ := s
  unfold excMatches
  repeat (first | (with_reducible refine wpAny_loadPart_at he ?_; rw [hcls]) | with_reducible refine wpAny_loadPart_at hD ?_ | with_reducible refine PySem.W.Looks.at L ?_ | (with_reducible refine wpAny_isSubtype_exc hD ?_; rw [hcB]) | wp_step)
  exact hq
end L2
namespace L2
open PySem PySem.Spec PySem.Calls PyProof.Rows
/-- behind the suite of except .. as n: the name goes -/
theorem name_gone {X : Cx} {pins : List (Addr × Obj)} {σ : St} {H : Hp} {s : Shared} {M : Model} {A : Around} {E : Value → Shared → Prop} {n : Str} {i : Nat} {pos : Pos} {Q : Unit → Shared → Prop} (I : Inv X pins σ H s) (hN : X.N.Nodup) (hi : X.N[i]? = some n) (hlo : X.env.kindOf n = some .local)
    (h : ∀ s', Inv X pins (σ.set i none) H s' → Q () s') : wpAny M A (do bindName X.env n .none; unbindBehindTheSuite X.env n pos) Q E s := by
  obtain ⟨m, hn, hl⟩ := I.loc
  have hk := I.ok.kind
  refine wpAny_nameGoes_keeps hlo hn (by rw [hk]; rfl) fun h' v hns hsb => h _ ?_
  have kp : ∀ b o, b ≠ X.env.locals → s.heap.get? b = some o → h'.get? b = some o := fun b o nb e => hsb.extBut b o nb e
  have n0 : ∀ b o, X.s₀.heap.get? b = some o → b ≠ X.env.locals := fun b o e => Nat.ne_of_lt (Nat.lt_of_lt_of_le (Heap.lt_size e) I.ok.above)
  have nt : ∀ b u, H b = some u → b ≠ X.env.locals := fun b u e => ne_of_none e I.free
  have u := I.base
  refine ⟨I.ok, I.os, I.bare, ⟨fun b o e q hb hx => kp b o (n0 b o e) (u.keep b o e q hb hx), fun b o e q hb hx => ?_, u.free, fun b o e hx => ?_, u.tups, u.frzs, u.tbls⟩, ⟨_, hns, fun j y v' e1 e2 e3 => ?_⟩, fun x c e => ?_, I.free, I.freeC, fun p hp => ?_, fun b o e => ?_, by rw [List.length_set]; exact I.len⟩
  · obtain ⟨sl, e1⟩ := u.slot b o e q hb hx
    exact ⟨sl, kp b _ (n0 b o e) e1⟩
  · obtain ⟨o', e1⟩ := u.there b o e hx
    exact ⟨o', kp b o' (n0 b o e) e1⟩
  · have hj : j ≠ i := fun z => by
      subst z
      rw [List.getElem?_set_self' ] at e2
      cases q : σ[j]? with
      | none => rw [q] at e2; cases e2
      | some w => rw [q] at e2; cases e2
    rw [List.getElem?_set_ne (Ne.symm hj)] at e2
    have hy : y ≠ n := fun z => hj (nodup_ix hN (z ▸ e1) hi)
    obtain ⟨u', r, l⟩ := hl j y v' e1 e2 e3
    refine ⟨u', r, ?_⟩
    rcases l with ⟨l1, l2⟩ | ⟨l1, c, l2, o, l3, l4⟩
    · exact .inl ⟨l1, by show (if y = n then v else m y) = some u'; rw [if_neg hy]; exact l2⟩
    · exact .inr ⟨l1, c, l2, o, kp c o (I.cne y c l2) l3, l4⟩
  · obtain ⟨v', o, e1, e2⟩ := I.cell x c e
    exact ⟨v', o, kp c o (I.cne x c e) e1, e2⟩
  · obtain ⟨q1, q2, q3, q4⟩ := I.pin p hp
    exact ⟨kp p.1 p.2 q3 q1, q2, q3, q4⟩
  · refine (I.hok b o e).stay (fun c v' hc q => kp c v' ?_ q) (fun _ q => q) fun _ _ q => q
    rcases hc with z | z
    · rw [z]; exact nt b o e
    · exact nt c _ z
/-- the suite's context: the error is being handled -/
def Xh (X : Cx) (pn : List (Addr × Obj)) (ea : Addr) : Cx := { X with A := X.A.mark (some (.ref ea)), calm := false, pn := pn, xe := fun _ _ => False }
theorem inv_h {X : Cx} {pn pins : List (Addr × Obj)} {ea : Addr} {σ : St} {H : Hp} {s : Shared} (I : Inv { X with pn := pn } pins σ H s) : Inv (Xh X pn ea) pins σ H s :=
  have ok := I.ok
  ⟨⟨ok.mod, ok.kind, ok.glob, ok.blt, ok.above, ok.inj, ok.has, ok.cab, (fun z => nomatch z), ok.frames, ok.stk, ok.exf, ok.bs, ok.bsz, ok.noex, ok.exfs, ok.funs, ok.frf⟩, I.os, I.bare, I.base, I.loc, I.cell, I.free, I.freeC, I.pin, I.hok, I.len⟩
theorem inv_back {X : Cx} {pins pins' : List (Addr × Obj)} {ea : Addr} {σ : St} {H : Hp} {s : Shared} (ok : X.Ok) (I : Inv (Xh X (X.pn ++ pins) ea) pins' σ H s) : Inv X pins σ H s :=
  ⟨ok, I.os, I.bare, I.base, I.loc, I.cell, I.free, I.freeC, fun p hp => I.pin p (List.mem_append_left _ hp), I.hok, I.len⟩
theorem inv_pn {X : Cx} {pins : List (Addr × Obj)} {σ : St} {H : Hp} {s : Shared} (I : Inv X pins σ H s) : Inv { X with pn := X.pn ++ pins } [] σ H s :=
  have ok := I.ok
  ⟨⟨ok.mod, ok.kind, ok.glob, ok.blt, ok.above, ok.inj, ok.has, ok.cab, ok.hd, ok.frames, ok.stk, ok.exf, ok.bs, ok.bsz, ok.noex, ok.exfs, ok.funs, ok.frf⟩, I.os, I.bare, I.base, I.loc, I.cell, I.free, I.freeC, fun p hp => I.pin p (by rw [List.append_nil] at hp; exact hp), I.hok, I.len⟩
theorem inv_np {X : Cx} {pins pins' : List (Addr × Obj)} {σ : St} {H : Hp} {s : Shared} (ok : X.Ok) (I : Inv { X with pn := X.pn ++ pins } pins' σ H s) : Inv X pins σ H s :=
  ⟨ok, I.os, I.bare, I.base, I.loc, I.cell, I.free, I.freeC, fun p hp => I.pin p (List.mem_append_left _ hp), I.hok, I.len⟩
/-- try: body  except D as n: suite -/
def tTry (Sub : Addr → Prop) (i : Nat) (tb : (St → XK) → TS) (ts : TS) : TS := fun D σ H =>
  tb (fun σ' cls _ H' => ∃ C, cls = .ref C ∧ Sub C ∧ ∀ ea, H' ea = none → ts { D with nx := fun σ2 H2 => D.nx (σ2.set i none) H2, bk := fun σ2 H2 => D.bk (σ2.set i none) H2, ct := fun σ2 H2 => D.ct (σ2.set i none) H2 } (σ'.set i (some (.ref ea))) (upd H' ea (excO ea C))) D σ H
theorem ps_try {X : Cx} {body : List Stmt} {np hpos pos : Pos} {y n : Str} {DC : Addr} {b0 : Stmt} {suite : List Stmt} {i : Nat} {Sub : Addr → Prop} {tb : (St → XK) → TS} {ts : TS}
    (hst : X.stack = X.env :: X.outer) (hfr : X.env.frame = some X.env.locals) (hex : X.ex = []) (hgD : Gl X y) (hmD : X.mg y = some (.ref DC)) (OD : OwnE X.K DC) (hSub : ∀ C, Sub C → PySem.W.subIn X.K (.ref C) (.ref DC) = some true)
    (hN : X.N.Nodup) (hi : X.N[i]? = some n) (hlo : X.env.kindOf n = some .local) (hfn : X.fn n = true ∨ X.env.scope.names.lookup n = some .local) (hb : ∀ pn Ef, PSs (Xt X pn Ef) body (tb Ef)) (hs : ∀ pn ea, PSs (Xh X pn ea) (b0 :: suite) ts) (hdb : (y == ("__debug__" : Str)) = false := by decide) :
    PS X (.Try body [.ExceptHandler (some (.Name y np)) (some n) (b0 :: suite) hpos] [] [] pos) (tTry Sub i tb ts) := by
  intro pins s σ H D I h
  have ok := I.ok
  have Ip := inv_pn I
  refine wpAny_Try_except (wpAny_mono (hb (X.pn ++ pins) _ [] s σ H D (Ip.wish _) h) (fun f s1 q => ?_) fun e s1 q => ?_)
  · have q' : SP { X with pn := X.pn ++ pins } [] D f s1 := q.unwish
    cases f with
    | next =>
      obtain ⟨σ', H', I', q2⟩ := q'
      exact (pss_nil (X := X)) pins s1 σ' H' D (inv_np ok I') q2
    | brk => obtain ⟨σ', H', I', q2⟩ := q'; exact ⟨σ', H', inv_np ok I', q2⟩
    | cont => obtain ⟨σ', H', I', q2⟩ := q'; exact ⟨σ', H', inv_np ok I', q2⟩
    | ret u => obtain ⟨v, σ', H', I', r, q2⟩ := q'; exact ⟨v, σ', H', inv_np ok I', r, q2⟩
  · obtain ⟨pins', σ', H1, s', I', ea, t, C, B, H', rfl, os, bare, fl, k1, k2, k3, C', eC, hS, hts⟩ := q
    cases eC
    have I2 : ∀ hh, B.StaysIn hh → s1.heap.UpToSlots hh → Inv { X with pn := X.pn ++ pins } pins' σ' H' { s1 with heap := hh } := fun hh a b => by
      obtain ⟨u, hok, _⟩ := k1 hh a b
      exact I'.call' (ch := []) os u hok bare fun b z => absurd z (by simp)
    rw [hst] at fl
    refine wpAny_looks_onW (by have := ok.frames; rw [hst] at this; exact this) hfr fl fun h4 held4 up4 => ?_
    refine wpAny_landsW held4 fun h5 fl5 up5 => ?_
    have I5 := I2 h5 fl5.1 (up4.trans up5)
    have I5h := inv_h (ea := ea) I5
    refine wpAny_handleBy_cons (codeAny_handlers_test ?_) (by intro q; cases q)
    refine ld_glob I5h hgD hmD ?_ hdb
    obtain ⟨oe, ws, hoe, hoec, hoed, hoe0⟩ := fl5.first
    refine excM_own I5.kIn OD (hSub C hS) hoe hoec ?_
    refine codeAny_handlers_suite_as ?_
    refine lands_againW fl5 fun h6 fl6 up6 => ?_
    have I6 := I2 h6 fl6.1 ((up4.trans up5).trans up6)
    obtain ⟨oe6, ws6, hoe6, hoec6, hoed6, _⟩ := fl6.first
    have hnB : B.get? ea = none := fl6.2.1
    have hnH : H' ea = none := by
      cases q : H' ea with
      | none => rfl
      | some o =>
        obtain ⟨u, e1⟩ := k2 ea o q
        rw [hnB] at e1; cases e1
    have nfr : ea ∉ frs X.stack := fun z => by
      rw [hst] at z
      obtain ⟨_, o, ho, hnf⟩ := fl6.2.2.1.mem z
      rw [hoe6] at ho
      cases ho
      exact hnf _ hoed6
    have nin : s'.heap.get? ea = none := by
      cases q : s'.heap.get? ea with
      | none => rfl
      | some o =>
        rcases k3 ea o q with z | ⟨u, z⟩
        · exact absurd z nfr
        · rw [hnB] at z; cases z
    have n0 : X.s₀.heap.get? ea = none := by
      cases q : X.s₀.heap.get? ea with
      | none => rfl
      | some o =>
        obtain ⟨o', e1⟩ := I'.base.there ea o q (by show ea ∉ X.ex; rw [hex]; simp)
        rw [nin] at e1; cases e1
    have nL : ea ≠ X.env.locals := fun z => by
      obtain ⟨m, ⟨o, _, _, ho, _⟩, _⟩ := I'.loc
      have ho' : s'.heap.get? X.env.locals = some o := ho
      rw [← z, nin] at ho'
      cases ho'
    have nC : ∀ x c, X.env.cells.lookup x = some c → c ≠ ea := fun x c e z => by
      obtain ⟨v, o, ho, _⟩ := I'.cell x c e
      rw [z, nin] at ho
      cases ho
    have nP : ∀ p ∈ (X.pn ++ pins) ++ pins', p.1 ≠ ea := fun p hp z => by
      have := (I'.pin p hp).1
      rw [z, nin] at this
      cases this
    have I7 := inv_track (a := ea) (o := excO ea C) I6 hnH n0 nL nC nP (excO_ok hoe6 hoec6 hoed6)
    refine store_ok (X := Xh X (X.pn ++ pins) ea) (inv_h (ea := ea) I7) hN hi (.inl hlo) (v := .ref ea) (u := .ref ea) rfl (fun s7 I8 => ?_) hfn
    refine wpAny_mono (hs (X.pn ++ pins) ea pins' s7 _ _ _ I8 (hts ea hnH)) (fun f s8 q8 => ?_) (fun _ _ z => False.elim z)
    have gone : ∀ {σ9 : St} {H9 : Hp}, Inv (Xh X (X.pn ++ pins) ea) pins' σ9 H9 s8 → ∀ {Q : Unit → Shared → Prop} {E : Value → Shared → Prop}, (∀ s', Inv X pins (σ9.set i none) H9 s' → Q () s') → wpAny (model X.prog X.w) X.A (do bindName X.env n .none; unbindBehindTheSuite X.env n hpos) Q E s8 :=
      fun {σ9 H9} J {Q E} k => name_gone (inv_back ok J) hN hi hlo k
    cases f with
    | next =>
      obtain ⟨σ9, H9, I9, q9⟩ := q8
      exact gone I9 fun s' J => ⟨_, H9, J, q9⟩
    | brk =>
      obtain ⟨σ9, H9, I9, q9⟩ := q8
      exact gone I9 fun s' J => ⟨_, H9, J, q9⟩
    | cont =>
      obtain ⟨σ9, H9, I9, q9⟩ := q8
      exact gone I9 fun s' J => ⟨_, H9, J, q9⟩
    | ret u =>
      obtain ⟨v, σ9, H9, I9, r, q9⟩ := q8
      exact gone I9 fun s' J => ⟨v, _, H9, J, r, q9⟩
end L2
namespace L2
open PySem PySem.Spec PySem.Calls PyProof.Rows PySem.W
section
variable {prog : Program} {w : World} {A : Around} {E : Value → Shared → Prop} {h : Heap} {g : Array GenState} {d : Drawn} {t : Nat} {os : OsState} {a C : Addr} {o : Obj} {K : Frag}
theorem exc_type {M : Model} (hx : h.get? a = some o) (hc : o.cls = .ref C) : Looks M h (typeOf (.ref a)) (.ref C) := hc ▸ (Looks.ld hx).andThen .now
theorem exc_cls_get {R : Result → Shared → Prop} (X : K.In h) (hx : h.get? a = some o) (hc : o.cls = .ref C) (hm : mroIn K C (.type "object") = some true) (hq : R (.ok (.ret (.ref C))) ⟨h, g, d, t, os⟩) :
    codeAny (model prog w) A (.call (.builtin "getset_descriptor.__get__") ⟨[.builtin "object.__class__", .ref a, .ref C], []⟩) R ⟨h, g, d, t, os⟩ := by
  have hT5 : (⟨h, g, d, t, os⟩ : Shared).TypeIs (.builtin "object.__class__") "getset_descriptor" := F.typeOf_object_class
  have L0 := exc_type (M := model prog w) hx hc
  have L1 := looks_mroIn (M := model prog w) X hm
  refine codeAny_call_builtin F.slot_gs_get.plain F.entry_gs_get (F.slot_gs_get.check _ _ _ _ _ _ _ _ hT5 (F.args_gs_get _ _ _) ?_)
  have hO := F.owner_object_class
  repeat (any_goals (first | assumption | (with_reducible refine wpAny_loadPart_at hx ?_; rw [hc]) | (rw [hO]; with_reducible refine L1.at ?_) | with_reducible refine L1.at ?_ | wp_step))
  refine ⟨Code.quiet_builtin _ (by decide +kernel), codeAny_builtin F.entry_object_class ?_⟩
  repeat (any_goals (first | assumption | (with_reducible refine wpAny_loadPart_at hx ?_; rw [hc]) | wp_step))
/-- what is asked of an own error's class -/
structure ErrC (K : Frag) (C : Addr) : Prop where
  ga : findIn K (.ref C) "__getattribute__" = some (some (.builtin "BaseException.__getattribute__"))
  gt : findIn K (.ref C) "__getattr__" = some none
  cl : findIn K (.ref C) "__class__" = some (some (.builtin "object.__class__"))
  ob : mroIn K C (.type "object") = some true
  sb : subIn K (.ref C) (.type "BaseException") = some true
  lk : (clsIn K C).isSome = true
theorem exc_cls_entry {tk : Tok} {Q : Fin → Shared → Prop} (X : K.In h) (e : ErrC K C) (hx : h.get? a = some o) (hc : o.cls = .ref C) (hq : Q (.done (.ret (.ref C))) ⟨h, g, d, t, os⟩) :
    wpAny (model prog w) A (Builtin.«object.__getattribute__» ⟨[.ref a, .str "__class__" tk], []⟩) Q E ⟨h, g, d, t, os⟩ := by
  have hT5 : (⟨h, g, d, t, os⟩ : Shared).TypeIs (.builtin "object.__class__") "getset_descriptor" := F.typeOf_object_class
  have L4 := looks_findIn (M := model prog w) X e.cl
  have f5 := F.typeOf_object_class
  have f6 := F.slot_gs_get.lookup
  have f7 := F.slot_gs_set.lookup
  repeat (any_goals (first | assumption | (with_reducible refine wpAny_loadPart_at hx ?_; rw [hc]) | with_reducible refine L4.at ?_ | wp_step))
  refine exc_cls_get X hx hc e.ob ?_
  repeat (any_goals (first | assumption | wp_step))
theorem exc_check_ga {M : Model} {nameV : Value} {Q : Unit → Shared → Prop} (X : K.In h) (e : ErrC K C) (hx : h.get? a = some o) (hc : o.cls = .ref C) (hq : Q () ⟨h, g, d, t, os⟩) :
    wpAny M A (checkBuiltinCall "BaseException.__getattribute__" ⟨[.ref a, nameV], []⟩) Q E ⟨h, g, d, t, os⟩ := by
  have hk : builtinKind "BaseException.__getattribute__" = some .slot := by decide +kernel
  have hsplit : splitId "BaseException.__getattribute__" = some ("BaseException", "__getattribute__") := by decide +kernel
  have ha := F.args_bexc_ga (.ref a) nameV
  have L1 := looks_subIn (M := M) X e.sb
  simp only [checkBuiltinCall, hk, hsplit]
  refine wpAny_bind ?_
  unfold isInstance
  repeat (first | (with_reducible refine wpAny_loadPart_at hx ?_; rw [hc]) | with_reducible refine L1.at ?_ | wp_step)
  exact hq
theorem exc_cls_by {tk : Tok} {Q : Value → Shared → Prop} (FB : ExcAttrBase "ValueError" veTail) (X : K.In h) (e : ErrC K C) (hx : h.get? a = some o) (hc : o.cls = .ref C) (hq : Q (.ref C) ⟨h, g, d, t, os⟩) :
    wpAny (model prog w) A (getAttrBy (.ref a) (.str "__class__" tk) false) Q E ⟨h, g, d, t, os⟩ := by
  have L2 := looks_findIn (M := model prog w) X e.ga
  have L3 := looks_findIn (M := model prog w) X e.gt
  have f3 := FB.ga.bind (.ref a)
  have hx2 : (Value.builtin "BaseException.__getattribute__" == Value.builtin "object.__getattribute__") = false := by decide +kernel
  have hx1 : (onTheHeap (Value.ref C) && Value.builtin "BaseException.__getattribute__" == Value.builtin "object.__getattribute__") = false := by rw [hx2]; rfl
  repeat (any_goals (first | assumption | (with_reducible refine wpAny_loadPart_at hx ?_; rw [hc]) | with_reducible refine L2.at ?_ | with_reducible refine L3.at ?_ | wp_step))
  refine codeAny_call_builtin FB.ga.plain F.entry_bexc_ga (exc_check_ga X e hx hc (exc_cls_entry X e hx hc ?_))
  repeat (any_goals (first | assumption | wp_step))
theorem exc_cls_attr {Q : Option Value → Shared → Prop} (FB : ExcAttrBase "ValueError" veTail) (X : K.In h) (e : ErrC K C) (hx : h.get? a = some o) (hc : o.cls = .ref C) (hq : Q (some (.ref C)) ⟨h, g, d, t + 1, os⟩) :
    wpAny (model prog w) A (getAttr? (.ref a) "__class__") Q E ⟨h, g, d, t, os⟩ := by
  unfold getAttr? getAttrBy?
  repeat (any_goals (first | assumption | with_reducible apply exc_cls_by FB X e hx hc | wp_step))
def excAt (a C : Addr) (h : Heap) : Prop := ∃ oe vs, h.get? a = some oe ∧ oe.cls = .ref C ∧ oe.data = .fields vs
theorem kitx_exc (e : ErrC K C) : KitX K (.ref a) (.ref C) (excAt a C) where
  ty := fun _ _ _ ⟨_, _, h1, h2, _⟩ => exc_type h1 h2
  it := fun _ _ X _ => by
    obtain ⟨cd, hcd⟩ := Option.isSome_iff_exists.mp e.lk
    unfold clsIn at hcd
    split at hcd
    · rename_i ho
      intro A' Q' E' s' k q
      unfold isType loadHead
      exact wpAny_bind (wpAny_loadPart (k _ _ (X _ _ ho)) (wpAny_pure q))
    · cases hcd
  ne := fun h tp dd its n sl X htp => by
    refine Bool.eq_false_iff.mpr fun q => ?_
    have e1 : C = tp := Value.ref.inj (beq_iff_eq.mp q)
    subst e1
    obtain ⟨cd, hcd⟩ := Option.isSome_iff_exists.mp e.lk
    unfold clsIn at hcd
    split at hcd
    · rename_i ho
      have z := (X _ _ ho).symm.trans htp
      cases z
    · cases hcd
  ca := fun {_ _ _ _ _ s} X ⟨_, _, h1, h2, _⟩ k => by
    obtain ⟨h, g, d, t, os⟩ := s
    exact exc_cls_attr F.attrBase_ValueError X e h1 h2 k
end
/-- isinstance of an own error against a class: an own one, or a built-in one -/
def rIsE (K : PySem.W.Frag) : List V → Hp → VK → Prop := fun xs H Q => ∃ a C c cv b, xs = [.ref a, c] ∧ H a = some (excO a C) ∧ ErrC K C ∧ RelV c cv ∧ (∀ cv', RelV c cv' → cv' = cv) ∧ PySem.W.kitOne K (.ref C) cv = some b ∧ Q (.bl b) H
theorem call_isE {X : Cx} : CallR X (.builtin "isinstance") (rIsE X.K) := by
  intro pins s σ H xs us Q I r h
  obtain ⟨a, C, c, cv, b, rfl, hH, e, rc, ru, hk, q⟩ := h
  cases r with
  | cons r1 r2 =>
    cases r2 with
    | cons r3 r4 =>
      cases r4
      cases r1
      rw [ru _ r3]
      exact PySem.W.kia_one (kitx_exc e) I.kIn (I.hok a _ hH).1 hk (fun z => nomatch z) fun tk => ⟨.bl _, H, I.tok _, rfl, q⟩
theorem isE_ref {K : PySem.W.Frag} {a C D : Addr} {b : Bool} {H : Hp} {Q : VK} (hH : H a = some (excO a C)) (e : ErrC K C) (k : PySem.W.kitOne K (.ref C) (.ref D) = some b) (q : Q (.bl b) H) : rIsE K [.ref a, .ref D] H Q :=
  ⟨a, C, .ref D, .ref D, b, rfl, hH, e, rfl, fun _ r => r, k, q⟩
theorem isE_ty {K : PySem.W.Frag} {a C : Addr} {T : String} {b : Bool} {H : Hp} {Q : VK} (hH : H a = some (excO a C)) (e : ErrC K C) (k : PySem.W.kitOne K (.ref C) (.type T) = some b) (q : Q (.bl b) H) : rIsE K [.ref a, .ty T] H Q :=
  ⟨a, C, .ty T, .type T, b, rfl, hH, e, rfl, fun _ r => r, k, q⟩
end L2
namespace L2
open PySem PySem.Spec PySem.Calls PyProof.Rows
theorem vals_bl : ∀ {bs : List Bool} {its : List Value}, Vals (bs.map V.bl) its → its = bs.map Value.bool
  | [], its, h => by cases h; rfl
  | b :: bs, its, h => by
    cases h with
    | cons r t =>
      cases r
      rw [vals_bl t]
      rfl
section
variable {X : Cx}
/-- xs.count(True) of truths -/
def rCount : V → List V → Hp → VK → Prop := fun x vs H Q => ∃ l, ∃ bs : List Bool, x = .ref l ∧ vs = [.bl true] ∧ H l = some (.lst (bs.map .bl)) ∧ Q (.int (bs.count true : Nat)) H
theorem mt_count : MtM X "list.count" rCount := by
  intro pins s σ H x vs v us Q I rx rv h
  obtain ⟨l, bs, rfl, rfl, hH, q⟩ := h
  cases rx
  obtain ⟨u, rfl, ru⟩ := rv.one
  cases ru
  obtain ⟨z, its, n, r, hl, e⟩ := I.lstM hH
  obtain rfl := vals_bl r
  refine call_meets F.slot_list_count ⟨_, e, rfl⟩ F.entry_list_count (F.args_list_count_2 _ _) (SeqAt.list_countAt l _ n none #[] (.bool true) (eqU (.bl true))) ⟨e, fun w hw => mem_eqAt (x := .bl true) rfl rfl r (by simp [flatV]) w (by simpa using hw), ?_⟩
  have ec : (((bs.map Value.bool).toArray.toList).countP (eqU (.bl true)) : Nat) = bs.count true := by
    simp only [List.countP_map, List.count]
    congr 1
    try (funext b; cases b <;> rfl)
  rw [ec]
  exact ⟨.int _, H, I.tok _, ⟨_, rfl⟩, q⟩
/-- xs.index(True) of truths -/
def rIndex : V → List V → Hp → VK → Prop := fun x vs H Q => ∃ l, ∃ bs : List Bool, ∃ j : Nat, x = .ref l ∧ vs = [.bl true] ∧ H l = some (.lst (bs.map .bl)) ∧ bs[j]? = some true ∧ (∀ m, m < j → bs[m]? = some false) ∧ j < 1000 ∧ Q (.int j) H
theorem mt_index : MtM X "list.index" rIndex := by
  intro pins s σ H x vs v us Q I rx rv h
  obtain ⟨l, bs, j, rfl, rfl, hH, hj, hm, hs, q⟩ := h
  cases rx
  obtain ⟨u, rfl, ru⟩ := rv.one
  cases ru
  obtain ⟨z, its, n, r, hl, e⟩ := I.lstM hH
  obtain rfl := vals_bl r
  have hlt : j < bs.length := (List.getElem?_eq_some_iff.mp hj).1
  refine call_meets F.slot_list_index ⟨_, e, rfl⟩ F.entry_list_index (F.args_list_index_2 _ _) (SeqAt.list_indexAt l _ n none #[] (.bool true) (eqU (.bl true)) j (by simpa using hlt) (by omega) ?_ ?_) ⟨e, fun w hw => mem_eqAt (x := .bl true) rfl rfl r (by simp [flatV]) w (by simpa using hw), ?_⟩
  · have := (List.getElem?_eq_some_iff.mp hj).2
    simp [this]
    rfl
  · intro m hm1 hm2
    have := (List.getElem?_eq_some_iff.mp (hm m hm2)).2
    simp [this]
    rfl
  · exact ⟨.int _, H, I.tok _, ⟨_, rfl⟩, q⟩
end
/-! ### defs that are called while an error is handled -/
structure RoomH (k : Nat) (A : Around) : Prop where
  dp : A.depth + 3 * k + 5 < recursionLimit
  un : A.units + 16 * k + 200 < cLine
theorem Room.h {k : Nat} {A : Around} (r : Room k A) : RoomH k A := ⟨r.dp, r.un⟩
theorem RoomH.r {k : Nat} {A : Around} (r : RoomH k A) : Room k { A with handled := none } := ⟨rfl, r.dp, r.un⟩
/-- the context of such a def's body -/
def cxH (P : Program) (w : World) (K : PySem.W.Frag) (mg : Str → Option Value) (base : Heap) (N : List Str) (qual : Str) (scope : Scope) (f : Addr) (cd : Value) (A : Around) (outer : List Env) (s : Shared) (H : Hp) : Cx :=
  { cxOf CX0 P w K mg base N qual scope f cd A outer s H E0 with calm := false, xe := fun _ _ => False }
structure Dh (P : Program) (w : World) (K : PySem.W.Frag) (mg : Str → Option Value) (base : Heap) (k : Nat) (x : Str) (ps : List Str) (sp : Sp) : Prop where
  ex : ∃ (f : Addr) (fd : FuncData), (∀ vs H Q E, sp vs H Q E → vs.length = ps.length) ∧ (∀ (A : Around) (outer : List Env) (s : Shared) (H : Hp) (us : List Value) (vs : List V) (Q : VK), RoomH k A → Env0 P w K mg base A outer s H → BindsTo s fd ⟨us, []⟩ (ps.zip us) → Vals vs us → sp vs H Q E0 →
    codeAny (model P w) A (.call (.ref f) ⟨us, []⟩) (CR CX0 outer P w H s Q E0) s) ∧ Binds K fd ps [] ∧ PySem.W.keepIn K (.ref f) = true ∧ mg x = some (.ref f)
theorem Df.okh {P : Program} {w : World} {K : PySem.W.Frag} {mg : Str → Option Value} {base : Heap} {x : Str} {st : Stmt} {N ps : List Str} {k : Nat} {sp : Sp} (F : Df K mg x st ps) (S : FnScope N ps (defScope st))
    (len : ∀ vs H Q E, sp vs H Q E → vs.length = ps.length)
    (hbody : ∀ (f : Addr) (cdv : Value) (A : Around) (outer : List Env) (s : Shared) (H : Hp) (vs : List V) (Q : VK), RoomH k (A.deeper (envOfC x (defScope st) s.heap.objs.size f cdv)) → sp vs H Q E0 →
      ∃ (t : TS) (σ : St), PSs (cxH P w K mg base N x (defScope st) f cdv A outer s H) (defBody st) t ∧ start N vs = σ ∧ t { nx := fun _ H' => Q .non H', rt := Q } σ H) : Dh P w K mg base (k + 1) x ps sp := by
  obtain ⟨f, fd, F1, b, m⟩ := F.ex
  refine ⟨f, fd, len, fun A outer s H us vs Q hr e0 hb r hsp => ?_, b, F1.kp, m⟩
  obtain ⟨oc, od, kV, doc, pm, an, cdv, ct, osl, rfl, lk, hcd⟩ := F1.ex
  have hl := len _ _ _ _ hsp
  have KX : K.In s.heap := e0.mod.kin.keeps fun b o e => (e0.bs b o e).1
  have lim := e0.mod.nolimit.keeps fun b o e => (e0.bs b o e).1
  have kinds : ∀ y ∈ ps.zip us, (defScope st).names.lookup y.1 = some .local ∨ ((defScope st).names.lookup y.1 = some .cell ∧ ((cellsFrom (s.heap.objs.size + 1) (defScope st).names []).lookup y.1).isSome = true) := fun ⟨n, v⟩ hy =>
    (S.par n (List.of_mem_zip hy).1).elim .inl fun q => .inr ⟨q, PySem.W.cellsFrom_some _ _ _ (.inl q)⟩
  refine codeAny_call_function (by have := hr.dp; omega) (KX _ _ lk) rfl S.co S.gen rfl
    (PySem.W.codeRec_of KX hcd) (hb _ _ _ _ ?_)
  refine wpAny_newFunctionEnv_cells S.kind kinds
    fun env he s1 x1 => ?_
  subst he
  refine ⟨lim.keeps x1.toInCall.keep, codeAny_func ?_⟩
  obtain ⟨t, σ, ht, rfl, hq⟩ := hbody f cdv A outer s H vs Q ⟨by have := hr.dp; show A.depth + 1 + 3 * k + 5 < _; omega, by have := hr.un; show A.units + 3 + 16 * k + 200 < _; omega⟩ hsp
  have e1 : Env0 P w K mg base { A with handled := none } outer s H := ⟨e0.frames, e0.mod, e0.bs, e0.bsz, e0.funs, e0.frf, e0.hok, e0.bare⟩
  have I0 := inv_start (CX := CX0) (P := P) (w := w) (qual := x) (f := f) (cd := cdv) (A := { A with handled := none }) (E := E0) S rfl e1 hl r x1
  have I : Inv (cxH P w K mg base N x (defScope st) f cdv A outer s H) [] (start N vs) H s1 :=
    have ok := I0.ok
    ⟨⟨ok.mod, ok.kind, ok.glob, ok.blt, ok.above, ok.inj, ok.has, ok.cab, (fun z => nomatch z), ok.frames, ok.stk, ok.exf, ok.bs, ok.bsz, ok.noex, ok.exfs, ok.funs, ok.frf⟩, I0.os, I0.bare, I0.base, I0.loc, I0.cell, I0.free, I0.freeC, I0.pin, I0.hok, I0.len⟩
  refine wpAny_mono (ht [] s1 (start N vs) H _ I hq) (fun fl s' hs => ?_) fun e s' z => False.elim z
  cases fl with
  | ret u =>
    obtain ⟨v, σ', H', J, rv, q⟩ := hs
    exact ⟨v, H', J.os, J.bare, J.base, J.hok, rv, q⟩
  | next =>
    obtain ⟨σ', H', J, q⟩ := hs
    exact ⟨.non, H', J.os, J.bare, J.base, J.hok, rfl, q⟩
  | brk =>
    obtain ⟨_, _, _, q⟩ := hs
    exact False.elim q
  | cont =>
    obtain ⟨_, _, _, q⟩ := hs
    exact False.elim q
theorem pe_callH {X : Cx} {k : Nat} {x : Str} {ps : List Str} {sp : Sp} {e : Expr} {es : List Expr} {t : TA} {p pos : Pos} (D : Dh X.prog X.w X.K X.mg X.base k x ps sp) (hr : RoomH k X.A) (hg : Gl X x) (ha : PA X (e :: es) t) (h : (e :: es).all unst = true := by rfl) (hdb : (x == ("__debug__" : Str)) = false := by decide) :
    PE X (.Call (.Name x p) (e :: es) [] pos) (tCall sp [] E0 t) := by
  obtain ⟨f, fd, len, run, b, c, d⟩ := D.ex
  intro pins s σ H Q I hw
  refine wpAny_Call_Name_kw (ld_glob I hg d ?_ hdb)
  refine PySem.W.callWith_K (h₀ := X.base) I.ok.mod.kin c (thn (ha pos pins s σ H _ I hw) fun us s1 ⟨vs, H1, I1, r, q⟩ => ⟨I1.kIn, ?_⟩) (star_un (all_hd h)) (star_any (all_tl h))
  replace q : sp (vs ++ []) H1 Q E0 := q
  rw [List.append_nil] at q
  have hl : us.length = ps.length := by rw [← r.length]; exact len _ _ _ _ q
  have bb := b s1 us I1.kIn (by rw [List.append_nil]; exact hl)
  rw [List.append_nil] at bb
  refine wpAny_call (codeAny_mono (run X.A X.stack s1 H1 us vs Q hr I1.env0 bb r q) fun rr s' hq => ?_)
  cases rr with
  | error ev => exact False.elim hq
  | ok fl =>
    cases fl with
    | ret u => exact I1.after hq
    | next => exact False.elim hq
    | brk => exact False.elim hq
    | cont => exact False.elim hq
/-! ### what the text's classes of errors are -/
theorem ownE_of {K : PySem.W.Frag} {C : Addr} (q : PySem.W.excIn K C veTail "ValueError.__new__" = true) : OwnE K C := by
  intro h X
  unfold PySem.W.excIn at q
  split at q
  case h_2 => cases q
  rename_i dd cd sl ho
  split at q
  case h_2 => cases q
  rename_i C' bm k0 k1 k2 k3 n k5 hm hs
  simp only [Bool.and_eq_true, beq_iff_eq, Bool.not_eq_true'] at q
  have hsl : sl = #[k0, k1, k2, k3, some (.builtin n), k5] := by
    obtain ⟨l⟩ := sl
    exact congrArg Array.mk hs
  subst hsl
  have q6 := q.2
  have q5 := q.1.2
  have q4 := q.1.1.2
  have q3 := q.1.1.1.2
  have q2 := q.1.1.1.1.2
  have q1 := q.1.1.1.1.1
  obtain ⟨nm, bs, mro, ns, qn, hd, sn, sub, ab, col, del⟩ := cd
  dsimp only at hm q3 q5 q6
  subst hm q3 q1 q2
  exact ⟨bm, ns, nm, qn, bs, hd, sn, sub, ab, col, dd, k0, k1, k2, k3, k5, _, X _ _ ho, .of_isNs (PySem.W.isNs_of_in X q5), PySem.W.nsMap_none_of_in X q5 q6, PySem.W.tail_of_in X q4⟩
theorem kit_ref {K : PySem.W.Frag} {C D : Addr} {cd : ClassData} {b : Bool} (hc : PySem.W.clsIn K D = some cd) (ht : PySem.W.typeIn K (.ref D) = some (.type "type")) (hs : PySem.W.subIn K (.ref C) (.ref D) = some b) (he : C = D → b = true) : PySem.W.kitOne K (.ref C) (.ref D) = some b := by
  unfold PySem.W.kitOne
  by_cases z : C = D
  · rw [if_pos (by simp [z]), he z]
  · rw [if_neg (by simpa using z)]
    unfold PySem.W.kitCls
    dsimp only
    rw [hc, ht, if_pos (by simp)]
    exact hs
theorem kit_ve {K : PySem.W.Frag} {C : Addr} {b : Bool} (hs : PySem.W.subIn K (.ref C) (.type "ValueError") = some b) : PySem.W.kitOne K (.ref C) (.type "ValueError") = some b := by
  unfold PySem.W.kitOne
  rw [if_neg (by simp)]
  unfold PySem.W.kitCls
  dsimp only
  rw [if_pos (by decide +kernel)]
  exact hs
/-! readings -/
section
variable {D : Ends} {σ : St} {H : Hp} {K : PySem.W.Frag} {Q : VK} {t : TA}
theorem r_raise {R : Hp → Prop} : tRaise t R D σ H = t σ H fun vs H1 => vs.length ≤ sizeLine ∧ R H1 := rfl
theorem r_callX {sp : Sp} {Ef : St → XK} : tCallX sp Ef t σ H Q = t σ H fun vs H1 => sp vs H1 Q (Ef σ) := rfl
theorem bt_ValueError : bootBuiltins "ValueError" = some (.type "ValueError") := by decide +kernel
end
end L2
namespace L2
open PySem PySem.Spec PySem.Calls PyProof.Rows
section
variable {X : Cx}
/-- t + u, whatever they are -/
def rCatA (K : PySem.W.Frag) : R2 := fun x y H Q => ∃ a b xs ys, x = .ref a ∧ y = .ref b ∧ SqT K H a xs ∧ SqT K H b ys ∧ xs.length + ys.length ≤ sizeLine ∧ ∀ p H', Same H H' → SqT K H' p (xs ++ ys) → Q (.ref p) H'
theorem op_catA : OpR X (binaryOp .Add) (rCatA X.K) := by
  intro pins s σ H x y v u Q I rx ry h
  obtain ⟨a, b, xs, ys, rfl, rfl, ha, hb, hz, q⟩ := h
  by_cases hx : xs = []
  · subst hx
    cases rx
    cases ry
    obtain ⟨its, r1, p1, _⟩ := I.tuple ha
    obtain ⟨its2, r2, p2, _⟩ := I.tuple hb
    cases r1
    obtain ⟨⟨cls, dd, data, sl⟩, ho, hc, n, hd⟩ := id p1
    obtain ⟨⟨cls2, dd2, data2, sl2⟩, ho2, hc2, n2, hd2⟩ := id p2
    simp only at hc hd hc2 hd2
    subst hc hd hc2 hd2
    exact concat_meets ⟨_, ho, rfl⟩ ⟨_, ho2, rfl⟩ noFill_tuple_add seq_tuple_add PySem.F.slot_tuple_add PySem.F.entry_tuple_add (PySem.F.args_tuple_add_2 _ _)
      (tuple_addW0 a b _ _ n n2 dd dd2 sl sl2 (by simp)) ⟨ho, ho2, ⟨.ref b, H, I, rfl, q b H (.refl H) (by simpa using hb)⟩⟩
  · exact op_catT pins s σ H _ _ v u Q I rx ry ⟨a, b, xs, ys, rfl, rfl, ha, hb, hx, hz, fun z => q a H (.refl H) (by rw [z, List.append_nil]; exact ha), fun z p hp => q p _ (fun b o e => by rw [upd_ne (ne_of_none e hp)]; exact e) (.of upd_same)⟩
end
theorem noFill_tuple_mul : fillsNumberSlot (.type "tuple") "mul" = pure false :=
  PySem.fillsNumberSlot_seq (id := "tuple.__mul__") (r := some (.builtin "tuple.__rmul__")) PySem.F.slot_tuple_mul.lookup (by decide +kernel) PySem.F.slot_tuple_rmul.lookup (by decide +kernel)
theorem repeat_tuple : seqRepeat? (.type "tuple") = pure (some (.builtin "tuple.__mul__")) := by
  unfold seqRepeat?
  rw [PySem.seqSlot_of (T := "tuple") (name := "__mul__") (id := "tuple.__mul__") PySem.F.slot_tuple_mul.lookup (by decide +kernel)]
  rw [PySem.seqSlot_of (T := "tuple") (name := "__rmul__") (id := "tuple.__rmul__") PySem.F.slot_tuple_rmul.lookup (by decide +kernel)]
  rfl
theorem rmul_tuple (a : Int) (t : Tok) (l : Addr) (items : Array Value) (n : Nat) (dd : Option Addr) (sl : Array (Option Value)) :
    Meets (Builtin.«int.__rmul__» ⟨[.int a t, .ref l], []⟩) (fun _ R s => s.heap.get? l = some { cls := .type "tuple", dict := dd, data := .seq items n, slots := sl } ∧ R (.ok (.ret Value.notImplemented)) s) :=
  .of_wp fun prog w A R s h => by
    obtain ⟨hp, g, d, tk, os⟩ := s
    obtain ⟨hl, h⟩ := h
    wp_walk
    exact ⟨_, rfl, h⟩
theorem mul_tuple1 (t : Tok) (l : Addr) (items : Array Value) (n : Nat) (dd : Option Addr) (sl : Array (Option Value)) :
    Meets (Builtin.«tuple.__mul__» ⟨[.ref l, .int 1 t], []⟩) (fun _ R s => s.heap.get? l = some { cls := .type "tuple", dict := dd, data := .seq items n, slots := sl } ∧ R (.ok (.ret (.ref l))) s) :=
  .of_wp fun prog w A R s h => by
    obtain ⟨hp, g, d, tk, os⟩ := s
    obtain ⟨hl, h⟩ := h
    have f1 := AutoSeq1.idx_int
    have f2 := AutoSeq1.sub_tuple_tuple
    wp_walk using wpAny_loadPart' hl
    exact ⟨_, rfl, h⟩
theorem mul_tuple2 (t : Tok) (l : Addr) (v : Value) (n : Nat) (dd : Option Addr) (sl : Array (Option Value)) :
    Meets (Builtin.«tuple.__mul__» ⟨[.ref l, .int 2 t], []⟩) (fun _ R s => s.heap.get? l = some { cls := .type "tuple", dict := dd, data := .seq #[v] n, slots := sl } ∧ R (.ok (.ret (.ref s.heap.objs.size))) { s with heap := s.heap.push { cls := .type "tuple", data := .seq #[v, v] } }) :=
  .of_wp fun prog w A R s h => by
    obtain ⟨hp, g, d, tk, os⟩ := s
    obtain ⟨hl, h⟩ := h
    have f1 := AutoSeq1.idx_int
    have f2 := AutoSeq1.sub_tuple_tuple
    wp_walk using wpAny_loadPart' hl
    exact ⟨_, rfl, h⟩
theorem mul_tuple3 (t : Tok) (l : Addr) (v : Value) (n : Nat) (dd : Option Addr) (sl : Array (Option Value)) :
    Meets (Builtin.«tuple.__mul__» ⟨[.ref l, .int 3 t], []⟩) (fun _ R s => s.heap.get? l = some { cls := .type "tuple", dict := dd, data := .seq #[v] n, slots := sl } ∧ R (.ok (.ret (.ref s.heap.objs.size))) { s with heap := s.heap.push { cls := .type "tuple", data := .seq #[v, v, v] } }) :=
  .of_wp fun prog w A R s h => by
    obtain ⟨hp, g, d, tk, os⟩ := s
    obtain ⟨hl, h⟩ := h
    have f1 := AutoSeq1.idx_int
    have f2 := AutoSeq1.sub_tuple_tuple
    wp_walk using wpAny_loadPart' hl
    exact ⟨_, rfl, h⟩
/-- (x,) * k, k from 1 to 3 -/
def rRepT (K : PySem.W.Frag) : R2 := fun x y H Q => ∃ a, ∃ v : V, ∃ k : Nat, x = .ref a ∧ y = .int k ∧ 1 ≤ k ∧ k ≤ 3 ∧ SqT K H a [v] ∧ ∀ p H', Same H H' → SqT K H' p (List.replicate k v) → Q (.ref p) H'
theorem op_repT {X : Cx} : OpR X (binaryOp .Mult) (rRepT X.K) := by
  intro pins s σ H x y v u Q I rx ry h
  obtain ⟨a, vv, k, rfl, rfl, h1, h3, ha, q⟩ := h
  cases rx
  obtain ⟨t, rfl⟩ := ry
  obtain ⟨its, r, p1, _⟩ := I.tuple ha
  cases r with
  | cons r0 rr =>
  cases rr
  rename_i w0
  obtain ⟨⟨cls, dd, data, sl⟩, ho, hc, n, hd⟩ := id p1
  simp only at hc hd
  subst hc hd
  refine wpAny_binaryOp_repeat_ref (T := "tuple") (U := "int") (by decide) ⟨_, ho, rfl⟩ (fun s' => typeIs_int s' k t) noFill_tuple_mul PySem.F.fills_int_mul PySem.F.slot_int_rmul repeat_tuple PySem.F.slot_int_index.lookup
    (call_meets PySem.F.slot_int_rmul (typeIs_int s k t) PySem.F.entry_int_rmul (PySem.F.args_int_rmul_2 _ _) (rmul_tuple k t a _ n dd sl) ⟨ho, rfl, ⟨_, ho, rfl⟩, ?_⟩)
  have cs : k = 1 ∨ k = 2 ∨ k = 3 := by omega
  rcases cs with rfl | rfl | rfl
  · exact call_meets PySem.F.slot_tuple_mul ⟨_, ho, rfl⟩ PySem.F.entry_tuple_mul (PySem.F.args_tuple_mul_2 _ _) (mul_tuple1 t a _ n dd sl) ⟨ho, ⟨.ref a, H, I, rfl, q a H (.refl H) ha⟩⟩
  · refine call_meets PySem.F.slot_tuple_mul ⟨_, ho, rfl⟩ PySem.F.entry_tuple_mul (PySem.F.args_tuple_mul_2 _ _) (mul_tuple2 t a w0 n dd sl) ⟨ho, ?_⟩
    have hf : H s.heap.objs.size = none := I.hok.fresh (Nat.le_refl _)
    refine ⟨.ref s.heap.objs.size, upd H s.heap.objs.size (.tup [vv, vv]), I.laid (t' := s.toks) (fun b u e => Heap.get?_push_of_some _ e) (Nat.le_refl _) ⟨(by show 2 ≤ sizeLine; decide), [w0, w0], .cons r0 (.cons r0 .nil), IsTup.new _ _⟩, rfl, q _ _ (fun b o e => by rw [upd_ne (ne_of_none e hf)]; exact e) (.of upd_same)⟩
  · refine call_meets PySem.F.slot_tuple_mul ⟨_, ho, rfl⟩ PySem.F.entry_tuple_mul (PySem.F.args_tuple_mul_2 _ _) (mul_tuple3 t a w0 n dd sl) ⟨ho, ?_⟩
    have hf : H s.heap.objs.size = none := I.hok.fresh (Nat.le_refl _)
    refine ⟨.ref s.heap.objs.size, upd H s.heap.objs.size (.tup [vv, vv, vv]), I.laid (t' := s.toks) (fun b u e => Heap.get?_push_of_some _ e) (Nat.le_refl _) ⟨(by show 3 ≤ sizeLine; decide), [w0, w0, w0], .cons r0 (.cons r0 (.cons r0 .nil)), IsTup.new _ _⟩, rfl, q _ _ (fun b o e => by rw [upd_ne (ne_of_none e hf)]; exact e) (.of upd_same)⟩
/-- a comprehension over the things of a tuple, each told by a function of its place -/
theorem comp_tp {K : PySem.W.Frag} {σ : St} {H : Hp} {Q : VK} {te ta : TE} {a : Addr} {xs : List V} (f : Nat → V) (hta : ∀ R : VK, R (.ref a) H → ta σ H R) (hs : SqT K H a xs) (hz : xs.length ≤ 1000)
    (elt : ∀ i x H', xs[i]? = some x → Same H H' → ∀ Q' : VK, (∀ H'', Same H' H'' → Q' (f i) H'') → te (some x :: σ) H' Q')
    (q : ∀ D H', Same H H' → H D = none → H' D = some (.lst ((List.range xs.length).map f)) → Q (.ref D) H') : tComp (iTup K ta) tTrue te σ H Q := by
  unfold tComp iTup
  refine hta _ ⟨a, rfl, ⟨xs, hs⟩, fun D hD => ⟨fun i m H' => m = xs.length - i ∧ i ≤ xs.length ∧ Same H H' ∧ H' D = some (.lst ((List.range i).map f)),
    ⟨_, rfl, Nat.zero_le _, fun b o h => by rw [upd_ne (ne_of_none h hD)]; exact h, upd_same⟩, ?_⟩⟩
  rintro i m H' ⟨rfl, hi, S, hD'⟩
  have hs' : SqT K H' a xs := (Same.ext (t := 0) S).sqT hs
  by_cases c : i = xs.length
  · subst c
    exact .inl ⟨⟨xs, hs', Nat.le_refl _⟩, q D H' S hD hD'⟩
  · have hx : xs[i]? = some xs[i] := List.getElem?_eq_getElem (by omega)
    refine .inr ⟨⟨xs, _, hs', hx⟩, ?_⟩
    rintro x' H'' ⟨rfl, hx'⟩
    have e := hx' xs hs'
    unfold tTrue
    dsimp only
    rw [if_pos rfl]
    refine elt i x' H'' e S _ fun H3 S3 => ?_
    have h3 := S3 _ _ hD'
    refine ⟨_, h3, small1000 (by rw [List.length_map, List.length_range]; omega), _, by omega, rfl, by omega, fun b o h => ?_, ?_⟩
    · rw [upd_ne (ne_of_none h hD)]
      exact S3 _ _ (S _ _ h)
    · rw [upd_same, List.range_succ, List.map_append]
      rfl
end L2
namespace L2
open PySem PySem.Spec PyProof.Rows
section
variable {P : Program} {w : World} {K : PySem.W.Frag} {mg : Str → Option Value} {base : Heap} {N : List Str} {qual : Str} {scope : Scope} {f : Addr} {cd : Value} {A : Around} {outer : List Env} {s : Shared} {H : Hp} {X : Cx}
theorem r_KH : (cxH P w K mg base N qual scope f cd A outer s H).K = K := rfl
theorem r_Kt {pn : List (Addr × Obj)} {Ef : St → XK} : (Xt X pn Ef).K = X.K := rfl
theorem r_Kh {pn : List (Addr × Obj)} {ea : Addr} : (Xh X pn ea).K = X.K := rfl
theorem r_Kn {g : Value → Shared → Prop} : (X.wish g).K = X.K := rfl
theorem r_try {D : Ends} {σ : St} {Sub : Addr → Prop} {i : Nat} {tb : (St → XK) → TS} {ts : TS} : tTry Sub i tb ts D σ H =
  tb (fun σ' cls _ H' => ∃ C, cls = .ref C ∧ Sub C ∧ ∀ ea, H' ea = none → ts { D with nx := fun σ2 H2 => D.nx (σ2.set i none) H2, bk := fun σ2 H2 => D.bk (σ2.set i none) H2, ct := fun σ2 H2 => D.ct (σ2.set i none) H2 } (σ'.set i (some (.ref ea))) (upd H' ea (excO ea C))) D σ H := rfl
end
end L2
namespace L2
open PySem PySem.Spec PyProof.Rows M
theorem noL_encR (r : Lr) : noL (encR r) = true := rfl
theorem noLs_encR : ∀ rows : List Lr, noLs (rows.map encR) = true
  | [] => rfl
  | r :: rs => by simp only [List.map_cons, noLs, noL_encR r, noLs_encR rs]; rfl
theorem noL_encLs (rows : List Lr) (side : Nat) : noL (encLs rows side) = true := by simp only [encLs, noL, noLs, noLs_encR rows]; rfl
def RwV (K : PySem.W.Frag) (H : Hp) (r : Lr) (v : V) : Prop := Dt K 0 H (encR r) v
def LsV (K : PySem.W.Frag) (H : Hp) (rows : List Lr) (side : Nat) (v : V) : Prop := Dt K 0 H (encLs rows side) v
def RwL (K : PySem.W.Frag) (H : Hp) (rows : List Lr) (vs : List V) : Prop := DtL K 0 H (rows.map encR) vs
section
variable {K : PySem.W.Frag} {H H' : Hp} {r : Lr} {rows : List Lr} {side : Nat} {v : V} {vs : List V}
theorem RwV.tk (h : RwV K H r v) (e : Tk K H H') : RwV K H' r v := Dt.tk e _ _ (noL_encR r) h
theorem RwV.same (h : RwV K H r v) (e : Same H H') : RwV K H' r v := h.tk e.tk
theorem LsV.tk (h : LsV K H rows side v) (e : Tk K H H') : LsV K H' rows side v := Dt.tk e _ _ (noL_encLs rows side) h
theorem LsV.same (h : LsV K H rows side v) (e : Same H H') : LsV K H' rows side v := h.tk e.tk
theorem RwL.tk (h : RwL K H rows vs) (e : Tk K H H') : RwL K H' rows vs := DtL.tk e _ _ (noLs_encR rows) h
theorem RwL.same (h : RwL K H rows vs) (e : Same H H') : RwL K H' rows vs := h.tk e.tk
theorem rw_inv (h : RwV K H r v) : ∃ a, v = .ref a ∧ SqT K H a [.int r.d, .int r.b, .int r.u, .int r.n, .int r.a, .int r.x, .int r.t] := by
  unfold RwV encR at h
  obtain ⟨a, xs, rfl, hs, hx⟩ := h.tup_inv
  simp only [DtL, Dt] at hx
  obtain ⟨_, _, rfl, rfl, _, _, rfl, rfl, _, _, rfl, rfl, _, _, rfl, rfl, _, _, rfl, rfl, _, _, rfl, rfl, _, _, rfl, rfl, rfl⟩ := hx
  exact ⟨a, rfl, hs⟩
theorem rw_mk {a : Addr} (h : SqT K H a [.int r.d, .int r.b, .int r.u, .int r.n, .int r.a, .int r.x, .int r.t]) : RwV K H r (.ref a) :=
  .tup h (.cons (.int _) (.cons (.int _) (.cons (.int _) (.cons (.int _) (.cons (.int _) (.cons (.int _) (.cons (.int _) .nil)))))))
theorem ls_inv (h : LsV K H rows side v) : ∃ a ra vs, v = .ref a ∧ SqT K H a [.ref ra, .int side] ∧ SqT K H ra vs ∧ RwL K H rows vs := by
  unfold LsV encLs at h
  obtain ⟨a, xs, rfl, hs, hx⟩ := h.tup_inv
  simp only [DtL] at hx
  obtain ⟨v0, r0, rfl, h0, v1, r1, rfl, h1, rfl⟩ := hx
  simp only [Dt] at h1
  subst h1
  obtain ⟨ra, vs, rfl, h2, h3⟩ := Dt.tup_inv h0
  exact ⟨a, ra, vs, rfl, hs, h2, h3⟩
theorem ls_mk {a ra : Addr} (h : SqT K H a [.ref ra, .int side]) (h2 : SqT K H ra vs) (h3 : RwL K H rows vs) : LsV K H rows side (.ref a) := .tup h (.cons (.tup h2 h3) (.cons (.int _) .nil))
theorem RwL.len (h : RwL K H rows vs) : rows.length = vs.length := by
  have := DtL.len h
  rwa [List.length_map] at this
theorem RwL.at {i : Nat} (h : RwL K H rows vs) (e : rows[i]? = some r) : ∃ v, vs[i]? = some v ∧ RwV K H r v := DtL.get (i := i) h (by rw [List.getElem?_map, e]; rfl)
theorem RwL.set {i : Nat} (h : RwL K H rows vs) (hv : RwV K H r v) : RwL K H (rows.set i r) (vs.set i v) := by
  induction rows generalizing vs i with
  | nil =>
    simp only [RwL, List.map_nil, DtL] at h
    subst h
    simp [RwL, DtL]
  | cons q rows ih =>
    simp only [RwL, List.map_cons, DtL] at h
    obtain ⟨w, ws, rfl, h1, h2⟩ := h
    cases i with
    | zero => exact .cons hv h2
    | succ i => exact .cons h1 (ih (i := i) h2)
theorem RwL.rep {n : Nat} (hv : RwV K H r v) : RwL K H (List.replicate n r) (List.replicate n v) := by
  induction n with
  | zero => simp [RwL, DtL]
  | succ n ih => exact .cons hv ih
/-- rows[:i] + (v,) + rows[i + 1:] -/
theorem set_parts {i : Nat} (h : i < vs.length) : vs.take i ++ [v] ++ vs.drop (i + 1) = vs.set i v := by
  rw [List.set_eq_take_append_cons_drop, if_pos h, List.append_assoc]
  rfl
theorem cutV_drop {i : Nat} (h : i ≤ vs.length) : cutV vs (some (i : Int)) none = vs.drop i := by
  unfold cutV
  have h1 : HT.sIx vs.length 0 (some (i : Int)) = i := by
    show (if ((i : Nat) : Int) < 0 then (((i : Nat) : Int) + (vs.length : Int)).toNat else min ((i : Nat) : Int).toNat vs.length) = _
    rw [if_neg (by omega)]
    omega
  have h2 : HT.sIx vs.length vs.length none = vs.length := rfl
  rw [h1, h2, List.take_of_length_le (by rw [List.length_drop]; omega)]
end
end L2
local macro_rules | `(tactic| walk_at "rd") => `(tactic| try simp only [L2.r_next, L2.r_asg, L2.r_ret, L2.r_retN, L2.r_drop, L2.r_ifS, L2.r_name, L2.r_sub, L2.r_var, L2.r_c, L2.r_op, L2.r_un, L2.r_test, L2.r_tB, L2.r_and, L2.r_or, L2.r_not, L2.r_andV, L2.r_orV, L2.r_notV, L2.r_ifE, L2.r_chain, L2.r_nil, L2.r_cons, L2.r_tup, L2.r_lst, L2.r_call, L2.r_cb, L2.r_I, L2.r_I0, L2.r_eqI, L2.r_neI, L2.r_eqB, L2.r_ixL, L2.r_ixT, L2.r_setL, L2.r_sl, L2.r_noP, L2.r_bm, L2.r_part, L2.r_for, L2.r_rng1, L2.r_iL, L2.r_iT, L2.rU, L2.r_K, L2.r_min2, L2.r_max2, L2.r_neB, L2.r_eqS, L2.r_neS, L2.r_raise, L2.r_callX, L2.r_try, L2.r_KH, L2.r_Kt, L2.r_Kh, L2.r_Kn, L2.r_abs, L2.r_gtup, L2.r_gcons, L2.r_gnil, L2.r_augN, L2.r_ipI, L2.r_isNf, L2.r_isNt,
  List.getElem?_cons_zero, List.getElem?_cons_succ, List.set_cons_zero, List.set_cons_succ, Option.some.injEq, exists_eq_left', L2.V.int.injEq, L2.V.str.injEq, L2.V.bl.injEq, L2.V.ref.injEq, true_and, decide_eq_true_eq, List.cons_append, List.nil_append, List.append_nil, Bool.not_eq_true', decide_eq_false_iff_not, if_true, if_false, Bool.false_eq_true, Bool.true_eq_false, Bool.not_true, Bool.not_false, not_true_eq_false, not_false_eq_true])
local macro_rules | `(tactic| walk_at "st") => `(tactic| (walk_at "rd"; rw [L2.r_seq]; walk_at "rd"))
local macro_rules | `(tactic| walk_at "cl") => `(tactic| try simp only [L2.r_K, L2.r_KH, L2.r_Kt, L2.r_Kh, L2.r_Kn])
local macro_rules | `(tactic| walk_at "T") => `(tactic| rw [if_pos (by first | rfl | trivial)])
local macro_rules | `(tactic| walk_at "F") => `(tactic| rw [if_neg (by intro h; cases h)])

namespace My
open PySem L2 M
def top (i : Nat) : Stmt := PySem.Challenge.pw_tally_k39_pins_refused.main.body.getD i (.Pass ⟨0, 0, 0, 0⟩)
abbrev s_BadWord___init__ : Stmt := inClass (top 10) 0
theorem sc_BadWord___init__ : FnScope ["self", "at"] ["self", "at"] (defScope s_BadWord___init__) := ⟨rfl, rfl, rfl, by decide +kernel, rfl, by decide +kernel, by decide +kernel⟩
abbrev s_Falls___init__ : Stmt := inClass (top 11) 0
theorem sc_Falls___init__ : FnScope ["self", "at"] ["self", "at"] (defScope s_Falls___init__) := ⟨rfl, rfl, rfl, by decide +kernel, rfl, by decide +kernel, by decide +kernel⟩
abbrev s_is_whole : Stmt := top 13
theorem sc_is_whole : FnScope ["thing", "least", "most"] ["thing", "least", "most"] (defScope s_is_whole) := ⟨rfl, rfl, rfl, by decide +kernel, rfl, by decide +kernel, by decide +kernel⟩
abbrev s_lane_begun : Stmt := top 15
theorem sc_lane_begun : FnScope ["lane", "row"] ["lane"] (defScope s_lane_begun) := ⟨rfl, rfl, rfl, by decide +kernel, rfl, by decide +kernel, by decide +kernel⟩
abbrev s_lane_bowled : Stmt := top 16
theorem sc_lane_bowled : FnScope ["lane", "stand", "pins", "rows", "side", "row", "bowled"] ["lane", "stand", "pins"] (defScope s_lane_bowled) := ⟨rfl, rfl, rfl, by decide +kernel, rfl, by decide +kernel, by decide +kernel⟩
abbrev s_frame_ball : Stmt := top 17
theorem sc_frame_ball : FnScope ["lane", "row", "pins", "done", "ball", "up", "total", "earned", "next_times", "after_times"] ["lane", "row", "pins"] (defScope s_frame_ball) := ⟨rfl, rfl, rfl, by decide +kernel, rfl, by decide +kernel, by decide +kernel⟩
abbrev s_earned_by : Stmt := top 18
theorem sc_earned_by : FnScope ["ball", "up"] ["ball", "up"] (defScope s_earned_by) := ⟨rfl, rfl, rfl, by decide +kernel, rfl, by decide +kernel, by decide +kernel⟩
abbrev s_extra_ball : Stmt := top 19
theorem sc_extra_ball : FnScope ["lane", "row", "pins", "extra", "total", "up"] ["lane", "row", "pins"] (defScope s_extra_ball) := ⟨rfl, rfl, rfl, by decide +kernel, rfl, by decide +kernel, by decide +kernel⟩
abbrev s_is_over : Stmt := top 20
theorem sc_is_over : FnScope ["lane", "rows"] ["lane", "rows"] (defScope s_is_over) := ⟨rfl, rfl, rfl, by decide +kernel, rfl, by decide +kernel, by decide +kernel⟩
abbrev s_law_tape : Stmt := top 22
theorem sc_law_tape : FnScope ["_law_script", "_law_way"] ["_law_script"] (defScope s_law_tape) := ⟨rfl, rfl, rfl, by decide +kernel, rfl, by decide +kernel, by decide +kernel⟩
abbrev s_law_draw : Stmt := top 23
theorem sc_law_draw : FnScope ["_law_tape_here", "_law_many", "_law_script", "_law_spot", "_law_cell", "_law_left", "_law_mixed"] ["_law_tape_here", "_law_many"] (defScope s_law_draw) := ⟨rfl, rfl, rfl, by decide +kernel, rfl, by decide +kernel, by decide +kernel⟩
abbrev s_law_lane : Stmt := top 24
theorem sc_law_lane : FnScope ["_law_tape_here", "_law_pins", "_law_frames"] ["_law_tape_here"] (defScope s_law_lane) := ⟨rfl, rfl, rfl, by decide +kernel, rfl, by decide +kernel, by decide +kernel⟩
abbrev s_law_ball : Stmt := top 25
theorem sc_law_ball : FnScope ["_law_tape_here", "_law_up"] ["_law_tape_here", "_law_up"] (defScope s_law_ball) := ⟨rfl, rfl, rfl, by decide +kernel, rfl, by decide +kernel, by decide +kernel⟩
abbrev s_law_own : Stmt := top 26
theorem sc_law_own : FnScope ["_law_e", "_law_some", "_law_words"] ["_law_e"] (defScope s_law_own) := ⟨rfl, rfl, rfl, by decide +kernel, rfl, by decide +kernel, by decide +kernel⟩
abbrev s_law_refused : Stmt := top 27
theorem sc_law_refused : FnScope ["_law_lane_here", "_law_stand", "_law_thing", "_law_told", "_law_e"] ["_law_lane_here", "_law_stand", "_law_thing"] (defScope s_law_refused) := ⟨rfl, rfl, rfl, by decide +kernel, rfl, by decide +kernel, by decide +kernel⟩
abbrev s_law : Stmt := top 28
theorem sc_law : FnScope ["_law_script", "_law_tape_here", "_law_lane_here", "_law_stand", "_law_k", "_law_up", "_law_some", "_law_ball_here", "_law_due"] ["_law_script"] (defScope s_law) := ⟨rfl, rfl, rfl, by decide +kernel, rfl, by decide +kernel, by decide +kernel⟩
section
variable {P : Program} {w : World} {K : PySem.W.Frag} {mg : Str → Option Value} {base : Heap} {ns : List Int} {k : Nat}
theorem ok_law_tape (F : Df K mg "_law_tape" s_law_tape ["_law_script"]) (m_len : mg "len" = none) : Dn P w K mg base (k + 1) "_law_tape" ["_law_script"] (spTape K ns) := by
  refine F.ok sc_law_tape (fun vs H Q E h => ?_) (fun f cdv A outer s H vs Q E hr h => ?_)
  · obtain ⟨a, rfl, _⟩ := h; rfl
  obtain ⟨a, rfl, hs, q⟩ := h
  refine ⟨_, [some _, none], 
      (@pss_cons _ _ _ _ _ (@ps_set _ _ 1 _ _ _ _ sc_law_tape.nd rfl (Or.inl rfl) (@pe_int _ _ _ _) (by rfl) (by first | exact .inl rfl | exact .inr rfl | assumption)) 
      (@pss_cut _ _ _ _ _ (@ps_if _ _ _ _ _ _ _ _ (@pt_cmpR _ _ _ _ _ _ _ _ op_gt (@pe_callBu _ _ _ _ _ _ _ _ _ call_lenS rfl m_len PySem.boot_len (@pa_u _ _ _ _ _ (@pv _ 0 _ _ (by rfl) (by first | exact Or.inl rfl | exact Or.inr (Or.inl rfl) | exact Or.inr (Or.inr rfl)) (by decide) (by decide)) (@pa_nil _) (by rfl)) (by rfl) (by decide) (by decide)) (@pe_int _ _ _ _) (nomark _)) (@pss_one _ _ _ (@ps_set _ _ 1 _ _ _ _ sc_law_tape.nd rfl (Or.inl rfl) (@pe_op _ _ _ _ _ _ _ _ op_mod (@pe_ix _ _ _ _ _ _ _ ix_list (@pv _ 0 _ _ (by rfl) (by first | exact Or.inl rfl | exact Or.inr (Or.inl rfl) | exact Or.inr (Or.inr rfl)) (by decide) (by decide)) (@pe_int _ _ _ _) (fun _ _ => rfl)) (@pe_int _ _ _ _)) (by rfl) (by first | exact .inl rfl | exact .inr rfl | assumption))) (@pss_nil _)) (@pss_one _ _ _ (@ps_ret _ _ _ _ (@pe_lst _ _ _ _ (@pa_u _ _ _ _ _ (@pv _ 0 _ _ (by rfl) (by first | exact Or.inl rfl | exact Or.inr (Or.inl rfl) | exact Or.inr (Or.inr rfl)) (by decide) (by decide)) (@pa_u _ _ _ _ _ (@pe_int _ _ _ _) (@pa_u _ _ _ _ _ (@pe_int _ _ _ _) (@pa_u _ _ _ _ _ (@pv _ 1 _ _ (by rfl) (by first | exact Or.inl rfl | exact Or.inr (Or.inl rfl) | exact Or.inr (Or.inr rfl)) (by decide) (by decide)) (@pa_nil _) (by rfl)) (by rfl)) (by rfl)) (by rfl))))))), rfl, ?_⟩
  walk_at "cl"
  walk_at "st"
  refine r_cut (fun σ' H' => ∃ c : Int, σ' = [some (.ref a), some (.int c)] ∧ H' = H) (fun M hM => ?_) ?_
  · walk_at "rd"
    refine len_of hs ?_
    walk_at "rd"
    refine ite2 (fun c => ?_) (fun c => hM _ _ ⟨_, rfl, rfl⟩)
    obtain ⟨n, hn⟩ := at0 (ns := ns) (by omega)
    refine ⟨_, hs, _, hn, ?_⟩
    walk_at "rd"
    exact ⟨by decide, hM _ _ ⟨_, rfl, rfl⟩⟩
  · rintro _ _ ⟨c, rfl, rfl⟩
    walk_at "rd"
    exact ⟨small6 (by simp), fun p hp => q p _ ⟨a, 0, 0, c, upd_same, .of hs hp _⟩⟩
theorem ok_law_drawS (F : Df K mg "_law_draw" s_law_draw ["_law_tape_here", "_law_many"]) (m_len : mg "len" = none) : Dn P w K mg base (k + 1) "_law_draw" ["_law_tape_here", "_law_many"] (spDrawS K ns) := by
  refine F.ok sc_law_draw (fun vs H Q E h => ?_) (fun f cdv A outer s H vs Q E hr h => ?_)
  · obtain ⟨t, sc, m, rfl, _⟩ := h; rfl
  obtain ⟨t, sc, m, rfl, m0, m1, ⟨sp, cr, wy, ht, hc⟩, q⟩ := h
  refine ⟨_, [some _, some _, none, none, none, none, none], 
      (@pss_cons _ _ _ _ _ (@ps_set _ _ 2 _ _ _ _ sc_law_draw.nd rfl (Or.inl rfl) (@pe_ix _ _ _ _ _ _ _ ix_list (@pv _ 0 _ _ (by rfl) (by first | exact Or.inl rfl | exact Or.inr (Or.inl rfl) | exact Or.inr (Or.inr rfl)) (by decide) (by decide)) (@pe_int _ _ _ _) (fun _ _ => rfl)) (by rfl) (by first | exact .inl rfl | exact .inr rfl | assumption)) 
      (@pss_cons _ _ _ _ _ (@ps_set _ _ 3 _ _ _ _ sc_law_draw.nd rfl (Or.inl rfl) (@pe_ix _ _ _ _ _ _ _ ix_list (@pv _ 0 _ _ (by rfl) (by first | exact Or.inl rfl | exact Or.inr (Or.inl rfl) | exact Or.inr (Or.inr rfl)) (by decide) (by decide)) (@pe_int _ _ _ _) (fun _ _ => rfl)) (by rfl) (by first | exact .inl rfl | exact .inr rfl | assumption)) 
      (@pss_cons _ _ _ _ _ (@ps_asg _ _ _ _ _ _ (@pe_op _ _ _ _ _ _ _ _ op_add (@pv _ 3 _ _ (by rfl) (by first | exact Or.inl rfl | exact Or.inr (Or.inl rfl) | exact Or.inr (Or.inr rfl)) (by decide) (by decide)) (@pe_int _ _ _ _)) (@pg_sub _ _ _ _ _ _ _ (@pv _ 0 _ _ (by rfl) (by first | exact Or.inl rfl | exact Or.inr (Or.inl rfl) | exact Or.inr (Or.inr rfl)) (by decide) (by decide)) (@pe_int _ _ _ _) set_list (by intro _; rfl)) (by rfl) (by rfl) (by rfl)) 
      (@pss_cons _ _ _ _ _ (@ps_set _ _ 4 _ _ _ _ sc_law_draw.nd rfl (Or.inl rfl) (@pe_int _ _ _ _) (by rfl) (by first | exact .inl rfl | exact .inr rfl | assumption)) 
      (@pss_cut _ _ _ _ _ (@ps_if _ _ _ _ _ _ _ _ (@pt_cmpR _ _ _ _ _ _ _ _ op_gt (@pe_callBu _ _ _ _ _ _ _ _ _ call_lenS rfl m_len PySem.boot_len (@pa_u _ _ _ _ _ (@pv _ 2 _ _ (by rfl) (by first | exact Or.inl rfl | exact Or.inr (Or.inl rfl) | exact Or.inr (Or.inr rfl)) (by decide) (by decide)) (@pa_nil _) (by rfl)) (by rfl) (by decide) (by decide)) (@pe_int _ _ _ _) (nomark _)) (@pss_one _ _ _ (@ps_set _ _ 4 _ _ _ _ sc_law_draw.nd rfl (Or.inl rfl) (@pe_ix _ _ _ _ _ _ _ ix_list (@pv _ 2 _ _ (by rfl) (by first | exact Or.inl rfl | exact Or.inr (Or.inl rfl) | exact Or.inr (Or.inr rfl)) (by decide) (by decide)) (@pe_op _ _ _ _ _ _ _ _ op_mod (@pe_ifExp _ _ _ _ _ _ _ _ (@pt_cmpR _ _ _ _ _ _ _ _ op_eq (@pe_ix _ _ _ _ _ _ _ ix_list (@pv _ 0 _ _ (by rfl) (by first | exact Or.inl rfl | exact Or.inr (Or.inl rfl) | exact Or.inr (Or.inr rfl)) (by decide) (by decide)) (@pe_int _ _ _ _) (fun _ _ => rfl)) (@pe_int _ _ _ _) (nomark _)) (@pe_op _ _ _ _ _ _ _ _ op_fdiv (@pv _ 3 _ _ (by rfl) (by first | exact Or.inl rfl | exact Or.inr (Or.inl rfl) | exact Or.inr (Or.inr rfl)) (by decide) (by decide)) (@pe_int _ _ _ _)) (@pv _ 3 _ _ (by rfl) (by first | exact Or.inl rfl | exact Or.inr (Or.inl rfl) | exact Or.inr (Or.inr rfl)) (by decide) (by decide))) (@pe_callBu _ _ _ _ _ _ _ _ _ call_lenS rfl m_len PySem.boot_len (@pa_u _ _ _ _ _ (@pv _ 2 _ _ (by rfl) (by first | exact Or.inl rfl | exact Or.inr (Or.inl rfl) | exact Or.inr (Or.inr rfl)) (by decide) (by decide)) (@pa_nil _) (by rfl)) (by rfl) (by decide) (by decide))) (fun _ _ => rfl)) (by rfl) (by first | exact .inl rfl | exact .inr rfl | assumption))) (@pss_nil _)) 
      (@pss_cons _ _ _ _ _ (@ps_if _ _ _ _ _ _ _ _ (@pt_cmpR _ _ _ _ _ _ _ _ op_eq (@pe_ix _ _ _ _ _ _ _ ix_list (@pv _ 0 _ _ (by rfl) (by first | exact Or.inl rfl | exact Or.inr (Or.inl rfl) | exact Or.inr (Or.inr rfl)) (by decide) (by decide)) (@pe_int _ _ _ _) (fun _ _ => rfl)) (@pe_int _ _ _ _) (nomark _)) 
      (@pss_cut _ _ _ _ _ (@ps_if _ _ _ _ _ _ _ _ (@pt_cmpR _ _ _ _ _ _ _ _ op_eq (@pe_op _ _ _ _ _ _ _ _ op_mod (@pv _ 3 _ _ (by rfl) (by first | exact Or.inl rfl | exact Or.inr (Or.inl rfl) | exact Or.inr (Or.inr rfl)) (by decide) (by decide)) (@pe_int _ _ _ _)) (@pe_int _ _ _ _) (nomark _)) (@pss_one _ _ _ (@ps_asg _ _ _ _ _ _ (@pe_op _ _ _ _ _ _ _ _ op_fdiv (@pv _ 4 _ _ (by rfl) (by first | exact Or.inl rfl | exact Or.inr (Or.inl rfl) | exact Or.inr (Or.inr rfl)) (by decide) (by decide)) (@pe_int _ _ _ _)) (@pg_sub _ _ _ _ _ _ _ (@pv _ 0 _ _ (by rfl) (by first | exact Or.inl rfl | exact Or.inr (Or.inl rfl) | exact Or.inr (Or.inr rfl)) (by decide) (by decide)) (@pe_int _ _ _ _) set_list (by intro _; rfl)) (by rfl) (by rfl) (by rfl))) (@pss_nil _)) 
      (@pss_cons _ _ _ _ _ (@ps_set _ _ 5 _ _ _ _ sc_law_draw.nd rfl (Or.inl rfl) (@pe_ix _ _ _ _ _ _ _ ix_list (@pv _ 0 _ _ (by rfl) (by first | exact Or.inl rfl | exact Or.inr (Or.inl rfl) | exact Or.inr (Or.inr rfl)) (by decide) (by decide)) (@pe_int _ _ _ _) (fun _ _ => rfl)) (by rfl) (by first | exact .inl rfl | exact .inr rfl | assumption)) 
      (@pss_cons _ _ _ _ _ (@ps_asg _ _ _ _ _ _ (@pe_op _ _ _ _ _ _ _ _ op_fdiv (@pv _ 5 _ _ (by rfl) (by first | exact Or.inl rfl | exact Or.inr (Or.inl rfl) | exact Or.inr (Or.inr rfl)) (by decide) (by decide)) (@pv _ 1 _ _ (by rfl) (by first | exact Or.inl rfl | exact Or.inr (Or.inl rfl) | exact Or.inr (Or.inr rfl)) (by decide) (by decide))) (@pg_sub _ _ _ _ _ _ _ (@pv _ 0 _ _ (by rfl) (by first | exact Or.inl rfl | exact Or.inr (Or.inl rfl) | exact Or.inr (Or.inr rfl)) (by decide) (by decide)) (@pe_int _ _ _ _) set_list (by intro _; rfl)) (by rfl) (by rfl) (by rfl)) (@pss_one _ _ _ (@ps_ret _ _ _ _ (@pe_op _ _ _ _ _ _ _ _ op_mod (@pv _ 5 _ _ (by rfl) (by first | exact Or.inl rfl | exact Or.inr (Or.inl rfl) | exact Or.inr (Or.inr rfl)) (by decide) (by decide)) (@pv _ 1 _ _ (by rfl) (by first | exact Or.inl rfl | exact Or.inr (Or.inl rfl) | exact Or.inr (Or.inr rfl)) (by decide) (by decide)))))))) (@pss_nil _)) 
      (@pss_cons _ _ _ _ _ (@ps_set _ _ 6 _ _ _ _ sc_law_draw.nd rfl (Or.inl rfl) (@pe_op _ _ _ _ _ _ _ _ op_mod (@pe_op _ _ _ _ _ _ _ _ op_mul (@pe_op _ _ _ _ _ _ _ _ op_add (@pe_op _ _ _ _ _ _ _ _ op_mod (@pv _ 4 _ _ (by rfl) (by first | exact Or.inl rfl | exact Or.inr (Or.inl rfl) | exact Or.inr (Or.inr rfl)) (by decide) (by decide)) (@pe_int _ _ _ _)) (@pe_int _ _ _ _)) (@pe_op _ _ _ _ _ _ _ _ op_add (@pe_op _ _ _ _ _ _ _ _ op_add (@pe_op _ _ _ _ _ _ _ _ op_mul (@pe_op _ _ _ _ _ _ _ _ op_mod (@pv _ 3 _ _ (by rfl) (by first | exact Or.inl rfl | exact Or.inr (Or.inl rfl) | exact Or.inr (Or.inr rfl)) (by decide) (by decide)) (@pe_int _ _ _ _)) (@pe_int _ _ _ _)) (@pe_int _ _ _ _)) (@pv _ 3 _ _ (by rfl) (by first | exact Or.inl rfl | exact Or.inr (Or.inl rfl) | exact Or.inr (Or.inr rfl)) (by decide) (by decide)))) (@pe_int _ _ _ _)) (by rfl) (by first | exact .inl rfl | exact .inr rfl | assumption)) 
      (@pss_cons _ _ _ _ _ (@ps_set _ _ 6 _ _ _ _ sc_law_draw.nd rfl (Or.inl rfl) (@pe_op _ _ _ _ _ _ _ _ op_mod (@pe_op _ _ _ _ _ _ _ _ op_add (@pe_op _ _ _ _ _ _ _ _ op_add (@pe_op _ _ _ _ _ _ _ _ op_mul (@pv _ 6 _ _ (by rfl) (by first | exact Or.inl rfl | exact Or.inr (Or.inl rfl) | exact Or.inr (Or.inr rfl)) (by decide) (by decide)) (@pv _ 6 _ _ (by rfl) (by first | exact Or.inl rfl | exact Or.inr (Or.inl rfl) | exact Or.inr (Or.inr rfl)) (by decide) (by decide))) (@pe_op _ _ _ _ _ _ _ _ op_mul (@pe_int _ _ _ _) (@pv _ 6 _ _ (by rfl) (by first | exact Or.inl rfl | exact Or.inr (Or.inl rfl) | exact Or.inr (Or.inr rfl)) (by decide) (by decide)))) (@pv _ 3 _ _ (by rfl) (by first | exact Or.inl rfl | exact Or.inr (Or.inl rfl) | exact Or.inr (Or.inr rfl)) (by decide) (by decide))) (@pe_int _ _ _ _)) (by rfl) (by first | exact .inl rfl | exact .inr rfl | assumption)) (@pss_one _ _ _ (@ps_ret _ _ _ _ (@pe_op _ _ _ _ _ _ _ _ op_mod (@pe_op _ _ _ _ _ _ _ _ op_mod (@pe_op _ _ _ _ _ _ _ _ op_mul (@pv _ 6 _ _ (by rfl) (by first | exact Or.inl rfl | exact Or.inr (Or.inl rfl) | exact Or.inr (Or.inr rfl)) (by decide) (by decide)) (@pe_int _ _ _ _)) (@pe_int _ _ _ _)) (@pv _ 1 _ _ (by rfl) (by first | exact Or.inl rfl | exact Or.inr (Or.inl rfl) | exact Or.inr (Or.inr rfl)) (by decide) (by decide))))))))))))), rfl, ?_⟩
  walk_at "cl"
  walk_at "st"
  refine ⟨_, .of ht, _, rfl, ?_⟩
  walk_at "st"
  refine ⟨_, .of ht, _, rfl, ?_⟩
  walk_at "st"
  refine ⟨_, ht, _, rfl, ?_⟩
  have e1 : Ext t H (upd H t (HO.lst ([V.ref sc, V.int sp, V.int cr, V.int wy].set (Int.toNat 1) (V.int (sp + 1))))) := .at ht _
  have ht1 : (upd H t (HO.lst ([V.ref sc, V.int sp, V.int cr, V.int wy].set (Int.toNat 1) (V.int (sp + 1))))) t = some (HO.lst [V.ref sc, V.int (sp + 1), V.int cr, V.int wy]) := upd_same
  have hs1 := (hc.on e1).sq
  generalize upd H t (HO.lst ([V.ref sc, V.int sp, V.int cr, V.int wy].set (Int.toNat 1) (V.int (sp + 1)))) = H1 at e1 ht1 hs1 ⊢
  walk_at "st"
  refine r_cut (fun σ' H' => ∃ c : Int, σ' = [some (V.ref t), some (V.int m), some (V.ref sc), some (V.int sp), some (V.int c), none, none] ∧ H' = H1) (fun M hM => ?_) ?_
  · walk_at "rd"
    refine len_of hs1 ?_
    walk_at "rd"
    refine ite2 (fun c => ?_) (fun c => hM _ _ ⟨_, rfl, rfl⟩)
    refine ⟨_, .of ht1, _, rfl, ?_⟩
    walk_at "rd"
    refine ite2 (fun c1 => ⟨⟨by decide, by decide⟩, len_of hs1 ?_⟩) (fun c1 => len_of hs1 ?_)
    · walk_at "rd"
      obtain ⟨n, hn⟩ := atMod (ns := ns) (sp / 60) (by omega)
      exact ⟨by omega, _, hs1, _, hn, hM _ _ ⟨_, rfl, rfl⟩⟩
    · walk_at "rd"
      obtain ⟨n, hn⟩ := atMod (ns := ns) sp (by omega)
      exact ⟨by omega, _, hs1, _, hn, hM _ _ ⟨_, rfl, rfl⟩⟩
  · rintro _ _ ⟨c, rfl, rfl⟩
    walk_at "st"
    refine ⟨_, .of ht1, _, rfl, ?_⟩
    walk_at "rd"
    refine ite2 (fun c1 => ?_) (fun c1 => ?_)
    · refine r_cut (fun σ' H' => ∃ z : Int, σ' = [some (V.ref t), some (V.int m), some (V.ref sc), some (V.int sp), some (V.int c), none, none] ∧ H' t = some (HO.lst [V.ref sc, V.int (sp + 1), V.int z, V.int wy]) ∧ Ext t H H') (fun M hM => ?_) ?_
      · walk_at "rd"
        refine ⟨by decide, ite2 (fun c2 => ?_) (fun c2 => hM _ _ ⟨cr, rfl, ht1, e1⟩)⟩
        exact ⟨⟨by decide, by decide⟩, _, ht1, _, rfl, hM _ _ ⟨_, rfl, upd_same, e1.trans (.at ht1 _)⟩⟩
      · rintro _ H2 ⟨z, rfl, ht2, e2⟩
        walk_at "st"
        refine ⟨_, .of ht2, _, rfl, ?_⟩
        walk_at "st"
        refine ⟨⟨m0, m1⟩, _, ht2, _, rfl, m0, ?_⟩
        exact q _ _ (Int.emod_nonneg _ (by omega)) (Int.emod_lt_of_pos _ m0) ⟨⟨_, _, _, upd_same, hc.on (e2.trans (.at ht2 _))⟩, e2.trans (.at ht2 _)⟩
    · walk_at "st"
      have b1 := Int.emod_nonneg sp (show (997 : Int) ≠ 0 by decide)
      have b2 := Int.emod_lt_of_pos sp (show (0 : Int) < 997 by decide)
      have b3 := Int.emod_nonneg c (show (1000003 : Int) ≠ 0 by decide)
      have b4 := Int.emod_lt_of_pos c (show (0 : Int) < 1000003 by decide)
      refine ⟨by decide, by decide, cmul_l (by omega) (by omega), cmul_l (by omega) (by omega), by decide, ?_⟩
      generalize hx : (c % 1000003 + 1) * (sp % 997 * 7919 + 104729 + sp) % 1000033 = x
      have b5 : 0 ≤ x := by rw [← hx]; exact Int.emod_nonneg _ (by decide)
      have b6 : x < 1000033 := by rw [← hx]; exact Int.emod_lt_of_pos _ (by decide)
      walk_at "st"
      refine ⟨cmul_l (by omega) (by omega), cmul_l (by omega) (by omega), by decide, ?_⟩
      generalize hy : (x * x + 3 * x + sp) % 999983 = y
      have b7 : 0 ≤ y := by rw [← hy]; exact Int.emod_nonneg _ (by decide)
      have b8 : y < 999983 := by rw [← hy]; exact Int.emod_lt_of_pos _ (by decide)
      refine ⟨cmul_l (by omega) (by omega), by decide, m0, ?_⟩
      exact q _ _ (Int.emod_nonneg _ (by omega)) (Int.emod_lt_of_pos _ m0) ⟨⟨_, _, _, ht1, hc.on e1⟩, e1⟩
theorem ok_law_draw (F : Df K mg "_law_draw" s_law_draw ["_law_tape_here", "_law_many"]) (m_len : mg "len" = none) : Dn P w K mg base (k + 1) "_law_draw" ["_law_tape_here", "_law_many"] (spDraw K ns) :=
  (ok_law_drawS F m_len).imp fun vs H Q E ⟨t, m, e, m0, m1, ⟨sc, T⟩, q⟩ => ⟨t, sc, m, e, m0, m1, T, fun r H' a b c => q r H' a b c.cur⟩
end
end My
namespace My
open PySem L2 M
section
variable (K : PySem.W.Frag)
def whl (d : PyData) (lo hi : Int) : Bool := match d with
  | .int i => decide (lo ≤ i) && decide (i ≤ hi)
  | _ => false
def spWhole : Sp := fun vs H Q _ => ∃ t d v lo hi, vs = [v, .int lo, .int hi] ∧ Dt K t H d v ∧ Q (.bl (whl d lo hi)) H
def spEarned : Sp := fun vs H Q _ => ∃ b u, vs = [.int b, .int u] ∧ Q (.int (earned b u)) H
def spFrame : Sp := fun vs H Q _ => ∃ la s p f r rv k, vs = [.ref la, rv, .int k] ∧ SqT K H la [.int s, .int p, .int f] ∧ RwV K H r rv ∧ 0 ≤ k ∧ k ≤ 1000 ∧ ∀ a H', Same H H' → RwV K H' (frameB p f r k) (.ref a) → Q (.ref a) H'
def spExtra : Sp := fun vs H Q _ => ∃ la s p f r rv k, vs = [.ref la, rv, .int k] ∧ SqT K H la [.int s, .int p, .int f] ∧ RwV K H r rv ∧ 0 ≤ k ∧ k ≤ 1000 ∧ ∀ a H', Same H H' → RwV K H' (extraB p r k) (.ref a) → Q (.ref a) H'
def spOver : Sp := fun vs H Q _ => ∃ la ra s p f rows us, vs = [.ref la, .ref ra] ∧ SqT K H la [.int s, .int p, .int f] ∧ SqT K H ra us ∧ RwL K H rows us ∧ rows.length ≤ 3 ∧ ∀ H', Same H H' → Q (.bl (overB f rows)) H'
def spLBegun : Sp := fun vs H Q _ => ∃ (la : Addr) (s : Nat) (p f : Int), vs = [.ref la] ∧ SqT K H la [.int s, .int p, .int f] ∧ 1 ≤ s ∧ s ≤ 3 ∧ ∀ a H', Same H H' → LsV K H' (List.replicate s ⟨0, 0, p, 0, 0, 0, 0⟩) 0 (.ref a) → Q (.ref a) H'
def spBowl : Sp := fun vs H Q _ => ∃ (la : Addr) (s : Nat) (p f : Int) (rows : List Lr) (side : Nat) (r : Lr) (sv : V) (k : Int), vs = [.ref la, sv, .int k] ∧ SqT K H la [.int s, .int p, .int f] ∧ LsV K H rows side sv ∧ rows.length = s ∧ s ≤ 3 ∧ rows[side]? = some r ∧ 0 ≤ k ∧ k ≤ r.u ∧ k ≤ 1000 ∧
  ∀ a sv' H', Same H H' → SqT K H' a [sv', .bl (overB f (rowsB p f rows side k))] → LsV K H' (rowsB p f rows side k) (sideB p f rows side k) sv' → Q (.ref a) H'
def spBad (C : Addr) : Sp := fun vs H _ E => ∃ (la : Addr) (s : Nat) (p f : Int) (rows : List Lr) (side : Nat) (r : Lr) (sv v : V) (t : Addr) (d : PyData), vs = [.ref la, sv, v] ∧ SqT K H la [.int s, .int p, .int f] ∧ LsV K H rows side sv ∧ rows[side]? = some r ∧ Dt K t H d v ∧ whl d 0 r.u = false ∧ ∀ H', Same H H' → E (.ref C) none H'
end
section
variable {P : Program} {w : World} {K : PySem.W.Frag} {mg : Str → Option Value} {base : Heap} {ns : List Int} {k : Nat}
theorem iteA {a b X Y : Prop} [Decidable a] [Decidable b] (h1 : a ∧ b → X) (h2 : ¬ (a ∧ b) → Y) : if a then (if b then X else Y) else Y :=
  ite2 (fun ca => ite2 (fun cb => h1 ⟨ca, cb⟩) fun cb => h2 fun z => cb z.2) fun ca => h2 fun z => ca z.1
theorem ok_is_whole (F : Df K mg "is_whole" s_is_whole ["thing", "least", "most"]) (m_isinstance : mg "isinstance" = none) (m_int : mg "int" = none) (m_bool : mg "bool" = none) : Dn P w K mg base (k + 1) "is_whole" ["thing", "least", "most"] (spWhole K) := by
  refine F.ok sc_is_whole (fun vs H Q E h => ?_) (fun f cdv A outer s H vs Q E hr h => ?_)
  · obtain ⟨t, d, v, lo, hi, rfl, _⟩ := h; rfl
  obtain ⟨t, d, v, lo, hi, rfl, hd, q⟩ := h
  refine ⟨_, [some _, some _, some _], (@pss_one _ _ _ (@ps_ret _ _ _ _ (@pe_and _ _ _ _ _ _ _ (@pe_callBu _ _ _ _ _ _ _ _ _ call_isi rfl m_isinstance bt_isinstance (@pa_u _ _ _ _ _ (@pv _ 0 _ _ (by rfl) (by first | exact Or.inl rfl | exact Or.inr (Or.inl rfl) | exact Or.inr (Or.inr rfl)) (by decide) (by decide)) (@pa_u _ _ _ _ _ (@pe_bltn _ _ (.ty "int") _ _ rfl m_int bt_int rfl (by decide) (by decide)) (@pa_nil _) (by rfl)) (by rfl)) (by rfl) (by decide) (by decide)) (@pe_and _ _ _ _ _ _ _ (@pe_not _ _ _ _ (@pe_callBu _ _ _ _ _ _ _ _ _ call_isi rfl m_isinstance bt_isinstance (@pa_u _ _ _ _ _ (@pv _ 0 _ _ (by rfl) (by first | exact Or.inl rfl | exact Or.inr (Or.inl rfl) | exact Or.inr (Or.inr rfl)) (by decide) (by decide)) (@pa_u _ _ _ _ _ (@pe_bltn _ _ (.ty "bool") _ _ rfl m_bool bt_bool rfl (by decide) (by decide)) (@pa_nil _) (by rfl)) (by rfl)) (by rfl) (by decide) (by decide))) (@pe_one _ _ _ _ _ (@pe_chain _ _ _ _ _ _ _ _ _ _ _ _ op_le op_le (@pv _ 1 _ _ (by rfl) (by first | exact Or.inl rfl | exact Or.inr (Or.inl rfl) | exact Or.inr (Or.inr rfl)) (by decide) (by decide)) (@pv _ 0 _ _ (by rfl) (by first | exact Or.inl rfl | exact Or.inr (Or.inl rfl) | exact Or.inr (Or.inr rfl)) (by decide) (by decide)) (@pv _ 2 _ _ (by rfl) (by first | exact Or.inl rfl | exact Or.inr (Or.inl rfl) | exact Or.inr (Or.inr rfl)) (by decide) (by decide)) (by with_unfolding_all rfl))))))), rfl, ?_⟩
  walk_at "cl"
  walk_at "rd"
  refine isi_of hd ⟨_, rfl, ?_⟩
  cases d with
  | int i =>
    simp only [Dt] at hd
    subst hd
    walk_at "T"
    refine isi_of (t := t) (d := .int i) (.int i) ?_
    walk_at "rd"
    walk_at "T"
    simp only [whl] at q
    refine ite2 (fun c => ?_) (fun c => ?_)
    · rw [decide_eq_true c, Bool.true_and] at q
      exact q
    · rw [decide_eq_false c, Bool.false_and] at q
      exact q
  | bool b =>
    walk_at "T"
    refine isi_of hd ?_
    walk_at "rd"
    walk_at "F"
    exact q
  | none => exact iteF q
  | str x => exact iteF q
  | list x => exact iteF q
  | tuple x => exact iteF q
  | dict x => exact iteF q
theorem ok_earned_by (F : Df K mg "earned_by" s_earned_by ["ball", "up"]) : Dn P w K mg base (k + 1) "earned_by" ["ball", "up"] (spEarned) := by
  refine F.ok sc_earned_by (fun vs H Q E h => ?_) (fun f cdv A outer s H vs Q E hr h => ?_)
  · obtain ⟨b, u, rfl, _⟩ := h; rfl
  obtain ⟨b, u, rfl, q⟩ := h
  refine ⟨_, [some _, some _], 
      (@pss_cons _ _ _ _ _ (@ps_if _ _ _ _ _ _ _ _ (@pt_cmpR _ _ _ _ _ _ _ _ op_gt (@pv _ 1 _ _ (by rfl) (by first | exact Or.inl rfl | exact Or.inr (Or.inl rfl) | exact Or.inr (Or.inr rfl)) (by decide) (by decide)) (@pe_int _ _ _ _) (nomark _)) (@pss_one _ _ _ (@ps_ret _ _ _ _ (@pe_int _ _ _ _))) (@pss_nil _)) (@pss_one _ _ _ (@ps_ret _ _ _ _ (@pe_ifExp _ _ _ _ _ _ _ _ (@pt_cmpR _ _ _ _ _ _ _ _ op_eq (@pv _ 0 _ _ (by rfl) (by first | exact Or.inl rfl | exact Or.inr (Or.inl rfl) | exact Or.inr (Or.inr rfl)) (by decide) (by decide)) (@pe_int _ _ _ _) (nomark _)) (@pe_int _ _ _ _) (@pe_int _ _ _ _))))), rfl, ?_⟩
  walk_at "cl"
  unfold earned at q
  walk_at "st"
  refine ite2 (fun c => ?_) (fun c => ?_)
  · rw [if_pos c] at q
    exact q
  · rw [if_neg c] at q
    walk_at "rd"
    refine ite2 (fun c => ?_) (fun c => ?_)
    · rw [if_pos c] at q
      exact q
    · rw [if_neg c] at q
      exact q
theorem ok_frame_ball (F : Df K mg "frame_ball" s_frame_ball ["lane", "row", "pins"]) (d_earned_by : Dn P w K mg base k "earned_by" ["ball", "up"] (spEarned)) : Dn P w K mg base (k + 1) "frame_ball" ["lane", "row", "pins"] (spFrame K) := by
  refine F.ok sc_frame_ball (fun vs H Q E h => ?_) (fun f cdv A outer s H vs Q E hr h => ?_)
  · obtain ⟨la, s, p, f, r, rv, k, rfl, _⟩ := h; rfl
  obtain ⟨la, sd, p, f, r, rv, kk, rfl, hl, hr', k0, k1, q⟩ := h
  refine ⟨_, [some _, some _, some _, none, none, none, none, none, none, none], 
      (@pss_cons _ _ _ _ _ (@ps_set _ _ 3 _ _ _ _ sc_frame_ball.nd rfl (Or.inl rfl) (@pe_ix _ _ _ _ _ _ _ ix_tup (@pv _ 1 _ _ (by rfl) (by first | exact Or.inl rfl | exact Or.inr (Or.inl rfl) | exact Or.inr (Or.inr rfl)) (by decide) (by decide)) (@pe_int _ _ _ _) (fun _ _ => rfl)) (by rfl) (by first | exact .inl rfl | exact .inr rfl | assumption)) 
      (@pss_cons _ _ _ _ _ (@ps_set _ _ 4 _ _ _ _ sc_frame_ball.nd rfl (Or.inl rfl) (@pe_op _ _ _ _ _ _ _ _ op_add (@pe_ix _ _ _ _ _ _ _ ix_tup (@pv _ 1 _ _ (by rfl) (by first | exact Or.inl rfl | exact Or.inr (Or.inl rfl) | exact Or.inr (Or.inr rfl)) (by decide) (by decide)) (@pe_int _ _ _ _) (fun _ _ => rfl)) (@pe_int _ _ _ _)) (by rfl) (by first | exact .inl rfl | exact .inr rfl | assumption)) 
      (@pss_cons _ _ _ _ _ (@ps_set _ _ 5 _ _ _ _ sc_frame_ball.nd rfl (Or.inl rfl) (@pe_op _ _ _ _ _ _ _ _ op_sub (@pe_ix _ _ _ _ _ _ _ ix_tup (@pv _ 1 _ _ (by rfl) (by first | exact Or.inl rfl | exact Or.inr (Or.inl rfl) | exact Or.inr (Or.inr rfl)) (by decide) (by decide)) (@pe_int _ _ _ _) (fun _ _ => rfl)) (@pv _ 2 _ _ (by rfl) (by first | exact Or.inl rfl | exact Or.inr (Or.inl rfl) | exact Or.inr (Or.inr rfl)) (by decide) (by decide))) (by rfl) (by first | exact .inl rfl | exact .inr rfl | assumption)) 
      (@pss_cons _ _ _ _ _ (@ps_set _ _ 6 _ _ _ _ sc_frame_ball.nd rfl (Or.inl rfl) (@pe_op _ _ _ _ _ _ _ _ op_add (@pe_op _ _ _ _ _ _ _ _ op_add (@pe_ix _ _ _ _ _ _ _ ix_tup (@pv _ 1 _ _ (by rfl) (by first | exact Or.inl rfl | exact Or.inr (Or.inl rfl) | exact Or.inr (Or.inr rfl)) (by decide) (by decide)) (@pe_int _ _ _ _) (fun _ _ => rfl)) (@pe_op _ _ _ _ _ _ _ _ op_mul (@pv _ 2 _ _ (by rfl) (by first | exact Or.inl rfl | exact Or.inr (Or.inl rfl) | exact Or.inr (Or.inr rfl)) (by decide) (by decide)) (@pe_ix _ _ _ _ _ _ _ ix_tup (@pv _ 1 _ _ (by rfl) (by first | exact Or.inl rfl | exact Or.inr (Or.inl rfl) | exact Or.inr (Or.inr rfl)) (by decide) (by decide)) (@pe_int _ _ _ _) (fun _ _ => rfl)))) (@pv _ 2 _ _ (by rfl) (by first | exact Or.inl rfl | exact Or.inr (Or.inl rfl) | exact Or.inr (Or.inr rfl)) (by decide) (by decide))) (by rfl) (by first | exact .inl rfl | exact .inr rfl | assumption)) 
      (@pss_cons _ _ _ _ _ (@ps_if _ _ _ _ _ _ _ _ (@PW.pt _ _ _ (@pw_and _ _ _ _ _ _ _ (@pt_cmpR _ _ _ _ _ _ _ _ op_gt (@pv _ 5 _ _ (by rfl) (by first | exact Or.inl rfl | exact Or.inr (Or.inl rfl) | exact Or.inr (Or.inr rfl)) (by decide) (by decide)) (@pe_int _ _ _ _) (nomark _)) (@pw_and1 _ _ _ _ (@pt_cmpR _ _ _ _ _ _ _ _ op_eq (@pv _ 4 _ _ (by rfl) (by first | exact Or.inl rfl | exact Or.inr (Or.inl rfl) | exact Or.inr (Or.inr rfl)) (by decide) (by decide)) (@pe_int _ _ _ _) (nomark _))))) (@pss_one _ _ _ (@ps_ret _ _ _ _ (@pe_tup _ _ _ _ _ (@pa_u _ _ _ _ _ (@pv _ 3 _ _ (by rfl) (by first | exact Or.inl rfl | exact Or.inr (Or.inl rfl) | exact Or.inr (Or.inr rfl)) (by decide) (by decide)) (@pa_u _ _ _ _ _ (@pv _ 4 _ _ (by rfl) (by first | exact Or.inl rfl | exact Or.inr (Or.inl rfl) | exact Or.inr (Or.inr rfl)) (by decide) (by decide)) (@pa_u _ _ _ _ _ (@pv _ 5 _ _ (by rfl) (by first | exact Or.inl rfl | exact Or.inr (Or.inl rfl) | exact Or.inr (Or.inr rfl)) (by decide) (by decide)) (@pa_u _ _ _ _ _ (@pe_ix _ _ _ _ _ _ _ ix_tup (@pv _ 1 _ _ (by rfl) (by first | exact Or.inl rfl | exact Or.inr (Or.inl rfl) | exact Or.inr (Or.inr rfl)) (by decide) (by decide)) (@pe_int _ _ _ _) (fun _ _ => rfl)) (@pa_u _ _ _ _ _ (@pe_int _ _ _ _) (@pa_u _ _ _ _ _ (@pe_int _ _ _ _) (@pa_u _ _ _ _ _ (@pv _ 6 _ _ (by rfl) (by first | exact Or.inl rfl | exact Or.inr (Or.inl rfl) | exact Or.inr (Or.inr rfl)) (by decide) (by decide)) (@pa_nil _) (by rfl)) (by rfl)) (by rfl)) (by rfl)) (by rfl)) (by rfl)) (by rfl))))) (@pss_nil _)) 
      (@pss_cons _ _ _ _ _ (@ps_set _ _ 7 _ _ _ _ sc_frame_ball.nd rfl (Or.inl rfl) (@pe_callD _ _ _ _ _ _ _ _ _ _ d_earned_by hr rfl (@pa_u _ _ _ _ _ (@pv _ 4 _ _ (by rfl) (by first | exact Or.inl rfl | exact Or.inr (Or.inl rfl) | exact Or.inr (Or.inr rfl)) (by decide) (by decide)) (@pa_u _ _ _ _ _ (@pv _ 5 _ _ (by rfl) (by first | exact Or.inl rfl | exact Or.inr (Or.inl rfl) | exact Or.inr (Or.inr rfl)) (by decide) (by decide)) (@pa_nil _) (by rfl)) (by rfl)) (by rfl) (by decide)) (by rfl) (by first | exact .inl rfl | exact .inr rfl | assumption)) 
      (@pss_cut _ _ _ _ _ (@ps_set _ _ 8 _ _ _ _ sc_frame_ball.nd rfl (Or.inl rfl) (@pe_op _ _ _ _ _ _ _ _ op_add (@pe_ix _ _ _ _ _ _ _ ix_tup (@pv _ 1 _ _ (by rfl) (by first | exact Or.inl rfl | exact Or.inr (Or.inl rfl) | exact Or.inr (Or.inr rfl)) (by decide) (by decide)) (@pe_int _ _ _ _) (fun _ _ => rfl)) (@pe_ifExp _ _ _ _ _ _ _ _ (@pt_cmpR _ _ _ _ _ _ _ _ op_gt (@pv _ 7 _ _ (by rfl) (by first | exact Or.inl rfl | exact Or.inr (Or.inl rfl) | exact Or.inr (Or.inr rfl)) (by decide) (by decide)) (@pe_int _ _ _ _) (nomark _)) (@pe_int _ _ _ _) (@pe_int _ _ _ _))) (by rfl) (by first | exact .inl rfl | exact .inr rfl | assumption)) 
      (@pss_cut _ _ _ _ _ (@ps_set _ _ 9 _ _ _ _ sc_frame_ball.nd rfl (Or.inl rfl) (@pe_ifExp _ _ _ _ _ _ _ _ (@pt_cmpR _ _ _ _ _ _ _ _ op_eq (@pv _ 7 _ _ (by rfl) (by first | exact Or.inl rfl | exact Or.inr (Or.inl rfl) | exact Or.inr (Or.inr rfl)) (by decide) (by decide)) (@pe_int _ _ _ _) (nomark _)) (@pe_int _ _ _ _) (@pe_int _ _ _ _)) (by rfl) (by first | exact .inl rfl | exact .inr rfl | assumption)) 
      (@pss_cons _ _ _ _ _ (@ps_if _ _ _ _ _ _ _ _ (@PW.pt _ _ _ (@pw_and _ _ _ _ _ _ _ (@pt_cmpR _ _ _ _ _ _ _ _ op_gt (@pv _ 7 _ _ (by rfl) (by first | exact Or.inl rfl | exact Or.inr (Or.inl rfl) | exact Or.inr (Or.inr rfl)) (by decide) (by decide)) (@pe_int _ _ _ _) (nomark _)) (@pw_and1 _ _ _ _ (@pt_cmpR _ _ _ _ _ _ _ _ op_eq (@pv _ 3 _ _ (by rfl) (by first | exact Or.inl rfl | exact Or.inr (Or.inl rfl) | exact Or.inr (Or.inr rfl)) (by decide) (by decide)) (@pe_op _ _ _ _ _ _ _ _ op_sub (@pe_ix _ _ _ _ _ _ _ ix_tup (@pv _ 0 _ _ (by rfl) (by first | exact Or.inl rfl | exact Or.inr (Or.inl rfl) | exact Or.inr (Or.inr rfl)) (by decide) (by decide)) (@pe_int _ _ _ _) (fun _ _ => rfl)) (@pe_int _ _ _ _)) (nomark _))))) (@pss_one _ _ _ (@ps_ret _ _ _ _ (@pe_tup _ _ _ _ _ (@pa_u _ _ _ _ _ (@pv _ 3 _ _ (by rfl) (by first | exact Or.inl rfl | exact Or.inr (Or.inl rfl) | exact Or.inr (Or.inr rfl)) (by decide) (by decide)) (@pa_u _ _ _ _ _ (@pe_int _ _ _ _) (@pa_u _ _ _ _ _ (@pe_ix _ _ _ _ _ _ _ ix_tup (@pv _ 0 _ _ (by rfl) (by first | exact Or.inl rfl | exact Or.inr (Or.inl rfl) | exact Or.inr (Or.inr rfl)) (by decide) (by decide)) (@pe_int _ _ _ _) (fun _ _ => rfl)) (@pa_u _ _ _ _ _ (@pv _ 8 _ _ (by rfl) (by first | exact Or.inl rfl | exact Or.inr (Or.inl rfl) | exact Or.inr (Or.inr rfl)) (by decide) (by decide)) (@pa_u _ _ _ _ _ (@pv _ 9 _ _ (by rfl) (by first | exact Or.inl rfl | exact Or.inr (Or.inl rfl) | exact Or.inr (Or.inr rfl)) (by decide) (by decide)) (@pa_u _ _ _ _ _ (@pv _ 7 _ _ (by rfl) (by first | exact Or.inl rfl | exact Or.inr (Or.inl rfl) | exact Or.inr (Or.inr rfl)) (by decide) (by decide)) (@pa_u _ _ _ _ _ (@pv _ 6 _ _ (by rfl) (by first | exact Or.inl rfl | exact Or.inr (Or.inl rfl) | exact Or.inr (Or.inr rfl)) (by decide) (by decide)) (@pa_nil _) (by rfl)) (by rfl)) (by rfl)) (by rfl)) (by rfl)) (by rfl)) (by rfl))))) (@pss_nil _)) (@pss_one _ _ _ (@ps_ret _ _ _ _ (@pe_tup _ _ _ _ _ (@pa_u _ _ _ _ _ (@pe_op _ _ _ _ _ _ _ _ op_add (@pv _ 3 _ _ (by rfl) (by first | exact Or.inl rfl | exact Or.inr (Or.inl rfl) | exact Or.inr (Or.inr rfl)) (by decide) (by decide)) (@pe_int _ _ _ _)) (@pa_u _ _ _ _ _ (@pe_int _ _ _ _) (@pa_u _ _ _ _ _ (@pe_ix _ _ _ _ _ _ _ ix_tup (@pv _ 0 _ _ (by rfl) (by first | exact Or.inl rfl | exact Or.inr (Or.inl rfl) | exact Or.inr (Or.inr rfl)) (by decide) (by decide)) (@pe_int _ _ _ _) (fun _ _ => rfl)) (@pa_u _ _ _ _ _ (@pv _ 8 _ _ (by rfl) (by first | exact Or.inl rfl | exact Or.inr (Or.inl rfl) | exact Or.inr (Or.inr rfl)) (by decide) (by decide)) (@pa_u _ _ _ _ _ (@pv _ 9 _ _ (by rfl) (by first | exact Or.inl rfl | exact Or.inr (Or.inl rfl) | exact Or.inr (Or.inr rfl)) (by decide) (by decide)) (@pa_u _ _ _ _ _ (@pe_int _ _ _ _) (@pa_u _ _ _ _ _ (@pv _ 6 _ _ (by rfl) (by first | exact Or.inl rfl | exact Or.inr (Or.inl rfl) | exact Or.inr (Or.inr rfl)) (by decide) (by decide)) (@pa_nil _) (by rfl)) (by rfl)) (by rfl)) (by rfl)) (by rfl)) (by rfl)) (by rfl)))))))))))))), rfl, ?_⟩
  walk_at "cl"
  obtain ⟨ra, rfl, hs⟩ := rw_inv hr'
  unfold frameB at q
  walk_at "st"
  refine ⟨_, hs, _, rfl, ?_⟩
  walk_at "st"
  refine ⟨_, hs, _, rfl, ?_⟩
  walk_at "st"
  refine ⟨_, hs, _, rfl, ?_⟩
  walk_at "st"
  refine ⟨_, hs, _, rfl, ?_⟩
  walk_at "rd"
  refine ⟨_, hs, _, rfl, ?_⟩
  walk_at "rd"
  refine ⟨cmul_l (by omega) (by omega), ?_⟩
  walk_at "st"
  have fin : ∀ (x : Lr), (∀ a H', Same H H' → RwV K H' x (.ref a) → Q (.ref a) H') → ([V.int x.d, .int x.b, .int x.u, .int x.n, .int x.a, .int x.x, .int x.t] : List V).length ≤ sizeLine ∧ ∀ p, H p = none → Q (.ref p) (upd H p (.tup [V.int x.d, .int x.b, .int x.u, .int x.n, .int x.a, .int x.x, .int x.t])) := fun x hq =>
    ⟨small6 (by simp), fun p hp => hq _ _ (same_new hp _) (rw_mk (.of upd_same))⟩
  refine iteA (fun c => ?_) (fun c => ?_)
  · rw [if_pos c] at q
    refine ⟨_, hs, _, rfl, ?_⟩
    exact fin _ q
  rw [if_neg c] at q
  walk_at "st"
  refine ⟨_, _, rfl, ?_⟩
  generalize earned (r.b + 1) (r.u - kk) = en at q ⊢
  walk_at "rd"
  refine r_cut (fun σ' H' => σ' = [some (.ref la), some (.ref ra), some (.int kk), some (.int r.d), some (.int (r.b + 1)), some (.int (r.u - kk)), some (.int (r.t + kk * r.n + kk)), some (.int en), some (.int (r.a + if en > 0 then 1 else 0)), none] ∧ H' = H) (fun M hM => ?_) ?_
  · walk_at "rd"
    refine ⟨_, hs, _, rfl, ?_⟩
    walk_at "rd"
    refine ite2 (fun c => ?_) (fun c => ?_)
    · exact hM _ _ ⟨by rw [if_pos c], rfl⟩
    · exact hM _ _ ⟨by rw [if_neg c], rfl⟩
  rintro _ Hx ⟨rfl, eHx⟩
  rw [eHx]
  clear eHx Hx
  generalize (r.a + if en > 0 then 1 else 0) = nt at q ⊢
  walk_at "rd"
  refine r_cut (fun σ' H' => σ' = [some (.ref la), some (.ref ra), some (.int kk), some (.int r.d), some (.int (r.b + 1)), some (.int (r.u - kk)), some (.int (r.t + kk * r.n + kk)), some (.int en), some (.int nt), some (.int (if en = 2 then 1 else 0))] ∧ H' = H) (fun M hM => ?_) ?_
  · walk_at "rd"
    refine ite2 (fun c => ?_) (fun c => ?_)
    · exact hM _ _ ⟨by rw [if_pos c], rfl⟩
    · exact hM _ _ ⟨by rw [if_neg c], rfl⟩
  rintro _ Hx ⟨rfl, eHx⟩
  rw [eHx]
  clear eHx Hx
  generalize (if en = 2 then (1 : Int) else 0) = at' at q ⊢
  walk_at "st"
  refine ite2 (fun c1 => ?_) (fun c1 => ?_)
  · refine ⟨_, hl, _, rfl, ?_⟩
    walk_at "rd"
    refine ite2 (fun c2 => ?_) (fun c2 => ?_)
    · rw [if_pos ⟨c1, c2⟩] at q
      refine ⟨_, hl, _, rfl, ?_⟩
      exact fin _ q
    · rw [if_neg (fun z => c2 z.2)] at q
      walk_at "rd"
      refine ⟨_, hl, _, rfl, ?_⟩
      exact fin _ q
  · rw [if_neg (fun z => c1 z.1)] at q
    walk_at "rd"
    refine ⟨_, hl, _, rfl, ?_⟩
    exact fin _ q
theorem ok_extra_ball (F : Df K mg "extra_ball" s_extra_ball ["lane", "row", "pins"]) : Dn P w K mg base (k + 1) "extra_ball" ["lane", "row", "pins"] (spExtra K) := by
  refine F.ok sc_extra_ball (fun vs H Q E h => ?_) (fun f cdv A outer s H vs Q E hr h => ?_)
  · obtain ⟨la, s, p, f, r, rv, k, rfl, _⟩ := h; rfl
  obtain ⟨la, sd, p, f, r, rv, kk, rfl, hl, hr', k0, k1, q⟩ := h
  refine ⟨_, [some _, some _, some _, none, none, none], 
      (@pss_cons _ _ _ _ _ (@ps_set _ _ 3 _ _ _ _ sc_extra_ball.nd rfl (Or.inl rfl) (@pe_op _ _ _ _ _ _ _ _ op_sub (@pe_ix _ _ _ _ _ _ _ ix_tup (@pv _ 1 _ _ (by rfl) (by first | exact Or.inl rfl | exact Or.inr (Or.inl rfl) | exact Or.inr (Or.inr rfl)) (by decide) (by decide)) (@pe_int _ _ _ _) (fun _ _ => rfl)) (@pe_int _ _ _ _)) (by rfl) (by first | exact .inl rfl | exact .inr rfl | assumption)) 
      (@pss_cons _ _ _ _ _ (@ps_set _ _ 4 _ _ _ _ sc_extra_ball.nd rfl (Or.inl rfl) (@pe_op _ _ _ _ _ _ _ _ op_add (@pe_ix _ _ _ _ _ _ _ ix_tup (@pv _ 1 _ _ (by rfl) (by first | exact Or.inl rfl | exact Or.inr (Or.inl rfl) | exact Or.inr (Or.inr rfl)) (by decide) (by decide)) (@pe_int _ _ _ _) (fun _ _ => rfl)) (@pe_op _ _ _ _ _ _ _ _ op_mul (@pv _ 2 _ _ (by rfl) (by first | exact Or.inl rfl | exact Or.inr (Or.inl rfl) | exact Or.inr (Or.inr rfl)) (by decide) (by decide)) (@pe_ix _ _ _ _ _ _ _ ix_tup (@pv _ 1 _ _ (by rfl) (by first | exact Or.inl rfl | exact Or.inr (Or.inl rfl) | exact Or.inr (Or.inr rfl)) (by decide) (by decide)) (@pe_int _ _ _ _) (fun _ _ => rfl)))) (by rfl) (by first | exact .inl rfl | exact .inr rfl | assumption)) 
      (@pss_cons _ _ _ _ _ (@ps_if _ _ _ _ _ _ _ _ (@pt_cmpR _ _ _ _ _ _ _ _ op_eq (@pv _ 3 _ _ (by rfl) (by first | exact Or.inl rfl | exact Or.inr (Or.inl rfl) | exact Or.inr (Or.inr rfl)) (by decide) (by decide)) (@pe_int _ _ _ _) (nomark _)) (@pss_one _ _ _ (@ps_ret _ _ _ _ (@pe_tup _ _ _ _ _ (@pa_u _ _ _ _ _ (@pe_op _ _ _ _ _ _ _ _ op_add (@pe_ix _ _ _ _ _ _ _ ix_tup (@pv _ 1 _ _ (by rfl) (by first | exact Or.inl rfl | exact Or.inr (Or.inl rfl) | exact Or.inr (Or.inr rfl)) (by decide) (by decide)) (@pe_int _ _ _ _) (fun _ _ => rfl)) (@pe_int _ _ _ _)) (@pa_u _ _ _ _ _ (@pe_ix _ _ _ _ _ _ _ ix_tup (@pv _ 1 _ _ (by rfl) (by first | exact Or.inl rfl | exact Or.inr (Or.inl rfl) | exact Or.inr (Or.inr rfl)) (by decide) (by decide)) (@pe_int _ _ _ _) (fun _ _ => rfl)) (@pa_u _ _ _ _ _ (@pe_ix _ _ _ _ _ _ _ ix_tup (@pv _ 0 _ _ (by rfl) (by first | exact Or.inl rfl | exact Or.inr (Or.inl rfl) | exact Or.inr (Or.inr rfl)) (by decide) (by decide)) (@pe_int _ _ _ _) (fun _ _ => rfl)) (@pa_u _ _ _ _ _ (@pe_ix _ _ _ _ _ _ _ ix_tup (@pv _ 1 _ _ (by rfl) (by first | exact Or.inl rfl | exact Or.inr (Or.inl rfl) | exact Or.inr (Or.inr rfl)) (by decide) (by decide)) (@pe_int _ _ _ _) (fun _ _ => rfl)) (@pa_u _ _ _ _ _ (@pe_int _ _ _ _) (@pa_u _ _ _ _ _ (@pe_int _ _ _ _) (@pa_u _ _ _ _ _ (@pv _ 4 _ _ (by rfl) (by first | exact Or.inl rfl | exact Or.inr (Or.inl rfl) | exact Or.inr (Or.inr rfl)) (by decide) (by decide)) (@pa_nil _) (by rfl)) (by rfl)) (by rfl)) (by rfl)) (by rfl)) (by rfl)) (by rfl))))) (@pss_nil _)) 
      (@pss_cons _ _ _ _ _ (@ps_set _ _ 5 _ _ _ _ sc_extra_ball.nd rfl (Or.inl rfl) (@pe_op _ _ _ _ _ _ _ _ op_sub (@pe_ix _ _ _ _ _ _ _ ix_tup (@pv _ 1 _ _ (by rfl) (by first | exact Or.inl rfl | exact Or.inr (Or.inl rfl) | exact Or.inr (Or.inr rfl)) (by decide) (by decide)) (@pe_int _ _ _ _) (fun _ _ => rfl)) (@pv _ 2 _ _ (by rfl) (by first | exact Or.inl rfl | exact Or.inr (Or.inl rfl) | exact Or.inr (Or.inr rfl)) (by decide) (by decide))) (by rfl) (by first | exact .inl rfl | exact .inr rfl | assumption)) 
      (@pss_cut _ _ _ _ _ (@ps_if _ _ _ _ _ _ _ _ (@pt_cmpR _ _ _ _ _ _ _ _ op_eq (@pv _ 5 _ _ (by rfl) (by first | exact Or.inl rfl | exact Or.inr (Or.inl rfl) | exact Or.inr (Or.inr rfl)) (by decide) (by decide)) (@pe_int _ _ _ _) (nomark _)) (@pss_one _ _ _ (@ps_set _ _ 5 _ _ _ _ sc_extra_ball.nd rfl (Or.inl rfl) (@pe_ix _ _ _ _ _ _ _ ix_tup (@pv _ 0 _ _ (by rfl) (by first | exact Or.inl rfl | exact Or.inr (Or.inl rfl) | exact Or.inr (Or.inr rfl)) (by decide) (by decide)) (@pe_int _ _ _ _) (fun _ _ => rfl)) (by rfl) (by first | exact .inl rfl | exact .inr rfl | assumption))) (@pss_nil _)) (@pss_one _ _ _ (@ps_ret _ _ _ _ (@pe_tup _ _ _ _ _ (@pa_u _ _ _ _ _ (@pe_ix _ _ _ _ _ _ _ ix_tup (@pv _ 1 _ _ (by rfl) (by first | exact Or.inl rfl | exact Or.inr (Or.inl rfl) | exact Or.inr (Or.inr rfl)) (by decide) (by decide)) (@pe_int _ _ _ _) (fun _ _ => rfl)) (@pa_u _ _ _ _ _ (@pe_ix _ _ _ _ _ _ _ ix_tup (@pv _ 1 _ _ (by rfl) (by first | exact Or.inl rfl | exact Or.inr (Or.inl rfl) | exact Or.inr (Or.inr rfl)) (by decide) (by decide)) (@pe_int _ _ _ _) (fun _ _ => rfl)) (@pa_u _ _ _ _ _ (@pv _ 5 _ _ (by rfl) (by first | exact Or.inl rfl | exact Or.inr (Or.inl rfl) | exact Or.inr (Or.inr rfl)) (by decide) (by decide)) (@pa_u _ _ _ _ _ (@pe_ix _ _ _ _ _ _ _ ix_tup (@pv _ 1 _ _ (by rfl) (by first | exact Or.inl rfl | exact Or.inr (Or.inl rfl) | exact Or.inr (Or.inr rfl)) (by decide) (by decide)) (@pe_int _ _ _ _) (fun _ _ => rfl)) (@pa_u _ _ _ _ _ (@pe_int _ _ _ _) (@pa_u _ _ _ _ _ (@pv _ 3 _ _ (by rfl) (by first | exact Or.inl rfl | exact Or.inr (Or.inl rfl) | exact Or.inr (Or.inr rfl)) (by decide) (by decide)) (@pa_u _ _ _ _ _ (@pv _ 4 _ _ (by rfl) (by first | exact Or.inl rfl | exact Or.inr (Or.inl rfl) | exact Or.inr (Or.inr rfl)) (by decide) (by decide)) (@pa_nil _) (by rfl)) (by rfl)) (by rfl)) (by rfl)) (by rfl)) (by rfl)) (by rfl)))))))))), rfl, ?_⟩
  walk_at "cl"
  obtain ⟨ra, rfl, hs⟩ := rw_inv hr'
  unfold extraB at q
  walk_at "st"
  refine ⟨_, hs, _, rfl, ?_⟩
  walk_at "st"
  refine ⟨_, hs, _, rfl, ?_⟩
  walk_at "rd"
  refine ⟨_, hs, _, rfl, ?_⟩
  walk_at "rd"
  refine ⟨cmul_l (by omega) (by omega), ?_⟩
  walk_at "st"
  have fin : ∀ (x : Lr), (∀ a H', Same H H' → RwV K H' x (.ref a) → Q (.ref a) H') → ([V.int x.d, .int x.b, .int x.u, .int x.n, .int x.a, .int x.x, .int x.t] : List V).length ≤ sizeLine ∧ ∀ p, H p = none → Q (.ref p) (upd H p (.tup [V.int x.d, .int x.b, .int x.u, .int x.n, .int x.a, .int x.x, .int x.t])) := fun x hq =>
    ⟨small6 (by simp), fun p hp => hq _ _ (same_new hp _) (rw_mk (.of upd_same))⟩
  refine ite2 (fun c => ?_) (fun c => ?_)
  · rw [if_pos c] at q
    refine ⟨_, hs, _, rfl, ?_⟩
    walk_at "rd"
    refine ⟨_, hs, _, rfl, _, hl, _, rfl, _, hs, _, rfl, ?_⟩
    exact fin _ q
  · rw [if_neg c] at q
    walk_at "st"
    refine ⟨_, hs, _, rfl, ?_⟩
    walk_at "rd"
    refine r_cut (fun σ' H' => σ' = [some (.ref la), some (.ref ra), some (.int kk), some (.int (r.x - 1)), some (.int (r.t + kk * r.n)), some (.int (if r.u - kk = 0 then p else r.u - kk))] ∧ H' = H) (fun M hM => ?_) ?_
    · walk_at "rd"
      refine ite2 (fun c => ?_) (fun c => ?_)
      · refine ⟨_, hl, _, rfl, ?_⟩
        exact hM _ _ ⟨by rw [if_pos c], rfl⟩
      · exact hM _ _ ⟨by rw [if_neg c], rfl⟩
    rintro _ Hx ⟨rfl, eHx⟩
    rw [eHx]
    clear eHx Hx
    walk_at "rd"
    refine ⟨_, hs, _, rfl, _, hs, _, rfl, _, hs, _, rfl, ?_⟩
    exact fin _ q
theorem ok_is_over (F : Df K mg "is_over" s_is_over ["lane", "rows"]) (m_all : mg "all" = none) : Dn P w K mg base (k + 1) "is_over" ["lane", "rows"] (spOver K) := by
  refine F.ok sc_is_over (fun vs H Q E h => ?_) (fun f cdv A outer s H vs Q E hr h => ?_)
  · obtain ⟨la, ra, s, p, f, rows, us, rfl, _⟩ := h; rfl
  obtain ⟨la, ra, sd, p, f, rows, us, rfl, hl, hra, hrl, h3, q⟩ := h
  refine ⟨_, [some _, some _], (@pss_one _ _ _ (@ps_ret _ _ _ _ (@pe_callBu _ _ _ _ _ _ _ _ _ (call_allB rfl) rfl m_all bt_all (@pa_u _ _ _ _ _ (@pe_comp _ _ _ _ _ _ _ _ _ _ _ _ _ rfl (compCap (N := ["lane", "rows"]) (fr := ["lane"]) (osc := defScope s_is_over) rfl rfl (by decide +kernel) rfl rfl (by intro p hp; simp only [List.mem_cons, List.not_mem_nil, or_false] at hp; rcases hp with rfl <;> rfl)) (@pi_tup _ _ _ _ (@pv _ 1 _ _ (by rfl) (by first | exact Or.inl rfl | exact Or.inr (Or.inl rfl) | exact Or.inr (Or.inr rfl)) (by decide) (by decide))) (fun _ _ _ _ => (@pts_nil _)) (fun _ _ _ _ => (@pe_cmpR _ _ _ _ _ _ _ _ op_eq (@pe_ix _ _ _ _ _ _ _ (ixK_tup (K := K) rfl) (@pv _ 0 _ _ (by rfl) (by first | exact Or.inl rfl | exact Or.inr (Or.inl rfl) | exact Or.inr (Or.inr rfl)) (by decide) (by decide)) (@pe_int _ _ _ _) (fun _ _ => rfl)) (@pe_ix _ _ _ _ _ _ _ (ixK_tup (K := K) rfl) (@pv _ 1 _ _ (by rfl) (by first | exact Or.inl rfl | exact Or.inr (Or.inl rfl) | exact Or.inr (Or.inr rfl)) (by decide) (by decide)) (@pe_int _ _ _ _) (fun _ _ => rfl)) (nomark _))) (by intro _; rfl)) (@pa_nil _) (by rfl)) (by rfl) (by decide) (by decide)))), rfl, ?_⟩
  walk_at "cl"
  walk_at "rd"
  refine comp_tp (a := ra) (xs := us) (fun i => V.bl (match rows[i]? with | some r => decide (r.d = f) | none => true)) (fun R h => ⟨_, rfl, h⟩) hra (by have := hrl.len; omega) (fun i x H1 hx S1 Q' hq => ?_) (fun D H1 S1 hD hD' => ?_)
  · obtain ⟨hi, _⟩ := List.getElem?_eq_some_iff.mp hx
    have hi' : i < rows.length := by rw [hrl.len]; exact hi
    have hri : rows[i]? = some rows[i] := List.getElem?_eq_getElem hi'
    obtain ⟨v, hv, rv⟩ := hrl.at hri
    rw [hx] at hv
    cases hv
    obtain ⟨a, rfl, hs⟩ := rw_inv (rv.same S1)
    walk_at "rd"
    refine ⟨_, hs, _, rfl, _, Same.sqT hl S1, _, rfl, ?_⟩
    walk_at "rd"
    have := hq _ (.refl _)
    rw [hri] at this
    exact this
  · refine ⟨D, (List.range us.length).map (fun i => match rows[i]? with | some r => decide (r.d = f) | none => true), rfl, .of (by rw [hD', List.map_map]; rfl), ?_⟩
    have e : ((List.range us.length).map (fun i => match rows[i]? with | some r => decide (r.d = f) | none => true)) = rows.map fun r => decide (r.d = f) := by
      rw [← hrl.len]
      refine List.ext_getElem (by simp) fun i h1 h2 => ?_
      simp only [List.length_map] at h2
      simp [h2]
    rw [e, List.all_map]
    exact q _ S1
theorem ok_lane_begun (F : Df K mg "lane_begun" s_lane_begun ["lane"]) : Dn P w K mg base (k + 1) "lane_begun" ["lane"] (spLBegun K) := by
  refine F.ok sc_lane_begun (fun vs H Q E h => ?_) (fun f cdv A outer s H vs Q E hr h => ?_)
  · obtain ⟨la, s, p, f, rfl, _⟩ := h; rfl
  obtain ⟨la, sd, p, f, rfl, hl, h1, h3, q⟩ := h
  refine ⟨_, [some _, none], 
      (@pss_cons _ _ _ _ _ (@ps_set _ _ 1 _ _ _ _ sc_lane_begun.nd rfl (Or.inl rfl) (@pe_tup _ _ _ _ _ (@pa_u _ _ _ _ _ (@pe_int _ _ _ _) (@pa_u _ _ _ _ _ (@pe_int _ _ _ _) (@pa_u _ _ _ _ _ (@pe_ix _ _ _ _ _ _ _ ix_tup (@pv _ 0 _ _ (by rfl) (by first | exact Or.inl rfl | exact Or.inr (Or.inl rfl) | exact Or.inr (Or.inr rfl)) (by decide) (by decide)) (@pe_int _ _ _ _) (fun _ _ => rfl)) (@pa_u _ _ _ _ _ (@pe_int _ _ _ _) (@pa_u _ _ _ _ _ (@pe_int _ _ _ _) (@pa_u _ _ _ _ _ (@pe_int _ _ _ _) (@pa_u _ _ _ _ _ (@pe_int _ _ _ _) (@pa_nil _) (by rfl)) (by rfl)) (by rfl)) (by rfl)) (by rfl)) (by rfl)) (by rfl))) (by rfl) (by first | exact .inl rfl | exact .inr rfl | assumption)) (@pss_one _ _ _ (@ps_ret _ _ _ _ (@pe_tup _ _ _ _ _ (@pa_u _ _ _ _ _ (@pe_op _ _ _ _ _ _ _ _ op_repT (@pe_tup _ _ _ _ _ (@pa_u _ _ _ _ _ (@pv _ 1 _ _ (by rfl) (by first | exact Or.inl rfl | exact Or.inr (Or.inl rfl) | exact Or.inr (Or.inr rfl)) (by decide) (by decide)) (@pa_nil _) (by rfl))) (@pe_ix _ _ _ _ _ _ _ ix_tup (@pv _ 0 _ _ (by rfl) (by first | exact Or.inl rfl | exact Or.inr (Or.inl rfl) | exact Or.inr (Or.inr rfl)) (by decide) (by decide)) (@pe_int _ _ _ _) (fun _ _ => rfl))) (@pa_u _ _ _ _ _ (@pe_int _ _ _ _) (@pa_nil _) (by rfl)) (by rfl)))))), rfl, ?_⟩
  walk_at "cl"
  walk_at "st"
  refine ⟨_, hl, _, rfl, small6 (by simp), fun p1 hp1 => ?_⟩
  walk_at "rd"
  refine ⟨small6 (by simp), fun p2 hp2 => ?_⟩
  have s1 := same_new hp1 (.tup [V.int 0, V.int 0, V.int p, V.int 0, V.int 0, V.int 0, V.int 0])
  have s2 := same_new hp2 (.tup [V.ref p1])
  have r1 : RwV K (upd H p1 (HO.tup [V.int 0, V.int 0, V.int p, V.int 0, V.int 0, V.int 0, V.int 0])) ⟨0, 0, p, 0, 0, 0, 0⟩ (.ref p1) := rw_mk (.of upd_same)
  refine ⟨_, Same.sqT (Same.sqT hl s1) s2, _, rfl, p2, .ref p1, sd, rfl, rfl, h1, h3, .of upd_same, fun p3 H3 S3 h3' => ?_⟩
  refine ⟨small6 (by simp), fun p4 hp4 => ?_⟩
  have s4 := same_new hp4 (.tup [V.ref p3, V.int 0])
  exact q _ _ (((s1.trans s2).trans S3).trans s4) (ls_mk (.of upd_same) (Same.sqT h3' s4) (RwL.rep ((r1.same (s2.trans S3)).same s4)))
theorem ok_lane_bowled (F : Df K mg "lane_bowled" s_lane_bowled ["lane", "stand", "pins"]) (d_is_whole : Dn P w K mg base k "is_whole" ["thing", "least", "most"] (spWhole K)) (d_frame_ball : Dn P w K mg base k "frame_ball" ["lane", "row", "pins"] (spFrame K)) (d_extra_ball : Dn P w K mg base k "extra_ball" ["lane", "row", "pins"] (spExtra K)) (d_is_over : Dn P w K mg base k "is_over" ["lane", "rows"] (spOver K)) : Dn P w K mg base (k + 1) "lane_bowled" ["lane", "stand", "pins"] (spBowl K) := by
  refine F.ok sc_lane_bowled (fun vs H Q E h => ?_) (fun f cdv A outer s H vs Q E hr h => ?_)
  · obtain ⟨la, s, p, f, rows, side, r, sv, k, rfl, _⟩ := h; rfl
  obtain ⟨la, sd, p, f, rows, side, r, sv, kk, rfl, hl, hst, hrl, hs3, hrow, k0, k1, k2, q⟩ := h
  refine ⟨_, [some _, some _, some _, none, none, none, none], 
      (@pss_cons _ _ _ _ _ (@ps_set _ _ 3 _ _ _ _ sc_lane_bowled.nd rfl (Or.inl rfl) (@pe_ix _ _ _ _ _ _ _ ix_tup (@pv _ 1 _ _ (by rfl) (by first | exact Or.inl rfl | exact Or.inr (Or.inl rfl) | exact Or.inr (Or.inr rfl)) (by decide) (by decide)) (@pe_int _ _ _ _) (fun _ _ => rfl)) (by rfl) (by first | exact .inl rfl | exact .inr rfl | assumption)) 
      (@pss_cons _ _ _ _ _ (@ps_set _ _ 4 _ _ _ _ sc_lane_bowled.nd rfl (Or.inl rfl) (@pe_ix _ _ _ _ _ _ _ ix_tup (@pv _ 1 _ _ (by rfl) (by first | exact Or.inl rfl | exact Or.inr (Or.inl rfl) | exact Or.inr (Or.inr rfl)) (by decide) (by decide)) (@pe_int _ _ _ _) (fun _ _ => rfl)) (by rfl) (by first | exact .inl rfl | exact .inr rfl | assumption)) 
      (@pss_cons _ _ _ _ _ (@ps_set _ _ 5 _ _ _ _ sc_lane_bowled.nd rfl (Or.inl rfl) (@pe_ix _ _ _ _ _ _ _ ix_tup (@pv _ 3 _ _ (by rfl) (by first | exact Or.inl rfl | exact Or.inr (Or.inl rfl) | exact Or.inr (Or.inr rfl)) (by decide) (by decide)) (@pv _ 4 _ _ (by rfl) (by first | exact Or.inl rfl | exact Or.inr (Or.inl rfl) | exact Or.inr (Or.inr rfl)) (by decide) (by decide)) (fun _ _ => rfl)) (by rfl) (by first | exact .inl rfl | exact .inr rfl | assumption)) 
      (@pss_cons _ _ _ _ _ (@ps_if _ _ _ _ _ _ _ _ (@pt_not _ _ _ _ (@pt_val _ _ _ (@pe_callD _ _ _ _ _ _ _ _ _ _ d_is_whole hr rfl (@pa_u _ _ _ _ _ (@pv _ 2 _ _ (by rfl) (by first | exact Or.inl rfl | exact Or.inr (Or.inl rfl) | exact Or.inr (Or.inr rfl)) (by decide) (by decide)) (@pa_u _ _ _ _ _ (@pe_int _ _ _ _) (@pa_u _ _ _ _ _ (@pe_ix _ _ _ _ _ _ _ ix_tup (@pv _ 5 _ _ (by rfl) (by first | exact Or.inl rfl | exact Or.inr (Or.inl rfl) | exact Or.inr (Or.inr rfl)) (by decide) (by decide)) (@pe_int _ _ _ _) (fun _ _ => rfl)) (@pa_nil _) (by rfl)) (by rfl)) (by rfl)) (by rfl) (by decide)) (by intro _; rfl))) (@pss_one _ _ _ (@ps_never _ _)) (@pss_nil _)) 
      (@pss_cut _ _ _ _ _ (@ps_set _ _ 6 _ _ _ _ sc_lane_bowled.nd rfl (Or.inl rfl) (@pe_ifExp _ _ _ _ _ _ _ _ (@pt_cmpR _ _ _ _ _ _ _ _ op_eq (@pe_ix _ _ _ _ _ _ _ ix_tup (@pv _ 5 _ _ (by rfl) (by first | exact Or.inl rfl | exact Or.inr (Or.inl rfl) | exact Or.inr (Or.inr rfl)) (by decide) (by decide)) (@pe_int _ _ _ _) (fun _ _ => rfl)) (@pe_int _ _ _ _) (nomark _)) (@pe_callD _ _ _ _ _ _ _ _ _ _ d_frame_ball hr rfl (@pa_u _ _ _ _ _ (@pv _ 0 _ _ (by rfl) (by first | exact Or.inl rfl | exact Or.inr (Or.inl rfl) | exact Or.inr (Or.inr rfl)) (by decide) (by decide)) (@pa_u _ _ _ _ _ (@pv _ 5 _ _ (by rfl) (by first | exact Or.inl rfl | exact Or.inr (Or.inl rfl) | exact Or.inr (Or.inr rfl)) (by decide) (by decide)) (@pa_u _ _ _ _ _ (@pv _ 2 _ _ (by rfl) (by first | exact Or.inl rfl | exact Or.inr (Or.inl rfl) | exact Or.inr (Or.inr rfl)) (by decide) (by decide)) (@pa_nil _) (by rfl)) (by rfl)) (by rfl)) (by rfl) (by decide)) (@pe_callD _ _ _ _ _ _ _ _ _ _ d_extra_ball hr rfl (@pa_u _ _ _ _ _ (@pv _ 0 _ _ (by rfl) (by first | exact Or.inl rfl | exact Or.inr (Or.inl rfl) | exact Or.inr (Or.inr rfl)) (by decide) (by decide)) (@pa_u _ _ _ _ _ (@pv _ 5 _ _ (by rfl) (by first | exact Or.inl rfl | exact Or.inr (Or.inl rfl) | exact Or.inr (Or.inr rfl)) (by decide) (by decide)) (@pa_u _ _ _ _ _ (@pv _ 2 _ _ (by rfl) (by first | exact Or.inl rfl | exact Or.inr (Or.inl rfl) | exact Or.inr (Or.inr rfl)) (by decide) (by decide)) (@pa_nil _) (by rfl)) (by rfl)) (by rfl)) (by rfl) (by decide))) (by rfl) (by first | exact .inl rfl | exact .inr rfl | assumption)) 
      (@pss_cons _ _ _ _ _ (@ps_set _ _ 3 _ _ _ _ sc_lane_bowled.nd rfl (Or.inl rfl) (@pe_op _ _ _ _ _ _ _ _ op_catA (@pe_op _ _ _ _ _ _ _ _ op_catA (@pe_slice _ _ _ _ _ _ _ _ _ _ sl_tup (@pv _ 3 _ _ (by rfl) (by first | exact Or.inl rfl | exact Or.inr (Or.inl rfl) | exact Or.inr (Or.inr rfl)) (by decide) (by decide)) (@po_none _) (@po_some _ _ _ (@pv _ 4 _ _ (by rfl) (by first | exact Or.inl rfl | exact Or.inr (Or.inl rfl) | exact Or.inr (Or.inr rfl)) (by decide) (by decide)))) (@pe_tup _ _ _ _ _ (@pa_u _ _ _ _ _ (@pv _ 6 _ _ (by rfl) (by first | exact Or.inl rfl | exact Or.inr (Or.inl rfl) | exact Or.inr (Or.inr rfl)) (by decide) (by decide)) (@pa_nil _) (by rfl)))) (@pe_slice _ _ _ _ _ _ _ _ _ _ sl_tup (@pv _ 3 _ _ (by rfl) (by first | exact Or.inl rfl | exact Or.inr (Or.inl rfl) | exact Or.inr (Or.inr rfl)) (by decide) (by decide)) (@po_some _ _ _ (@pe_op _ _ _ _ _ _ _ _ op_add (@pv _ 4 _ _ (by rfl) (by first | exact Or.inl rfl | exact Or.inr (Or.inl rfl) | exact Or.inr (Or.inr rfl)) (by decide) (by decide)) (@pe_int _ _ _ _))) (@po_none _))) (by rfl) (by first | exact .inl rfl | exact .inr rfl | assumption)) 
      (@pss_cut _ _ _ _ _ (@ps_if _ _ _ _ _ _ _ _ (@pt_cmpR _ _ _ _ _ _ _ _ op_gt (@pe_ix _ _ _ _ _ _ _ ix_tup (@pv _ 6 _ _ (by rfl) (by first | exact Or.inl rfl | exact Or.inr (Or.inl rfl) | exact Or.inr (Or.inr rfl)) (by decide) (by decide)) (@pe_int _ _ _ _) (fun _ _ => rfl)) (@pe_ix _ _ _ _ _ _ _ ix_tup (@pv _ 5 _ _ (by rfl) (by first | exact Or.inl rfl | exact Or.inr (Or.inl rfl) | exact Or.inr (Or.inr rfl)) (by decide) (by decide)) (@pe_int _ _ _ _) (fun _ _ => rfl)) (nomark _)) (@pss_one _ _ _ (@ps_set _ _ 4 _ _ _ _ sc_lane_bowled.nd rfl (Or.inl rfl) (@pe_op _ _ _ _ _ _ _ _ op_mod (@pe_op _ _ _ _ _ _ _ _ op_add (@pv _ 4 _ _ (by rfl) (by first | exact Or.inl rfl | exact Or.inr (Or.inl rfl) | exact Or.inr (Or.inr rfl)) (by decide) (by decide)) (@pe_int _ _ _ _)) (@pe_ix _ _ _ _ _ _ _ ix_tup (@pv _ 0 _ _ (by rfl) (by first | exact Or.inl rfl | exact Or.inr (Or.inl rfl) | exact Or.inr (Or.inr rfl)) (by decide) (by decide)) (@pe_int _ _ _ _) (fun _ _ => rfl))) (by rfl) (by first | exact .inl rfl | exact .inr rfl | assumption))) (@pss_nil _)) (@pss_one _ _ _ (@ps_ret _ _ _ _ (@pe_tup _ _ _ _ _ (@pa_u _ _ _ _ _ (@pe_tup _ _ _ _ _ (@pa_u _ _ _ _ _ (@pv _ 3 _ _ (by rfl) (by first | exact Or.inl rfl | exact Or.inr (Or.inl rfl) | exact Or.inr (Or.inr rfl)) (by decide) (by decide)) (@pa_u _ _ _ _ _ (@pv _ 4 _ _ (by rfl) (by first | exact Or.inl rfl | exact Or.inr (Or.inl rfl) | exact Or.inr (Or.inr rfl)) (by decide) (by decide)) (@pa_nil _) (by rfl)) (by rfl))) (@pa_u _ _ _ _ _ (@pe_callD _ _ _ _ _ _ _ _ _ _ d_is_over hr rfl (@pa_u _ _ _ _ _ (@pv _ 0 _ _ (by rfl) (by first | exact Or.inl rfl | exact Or.inr (Or.inl rfl) | exact Or.inr (Or.inr rfl)) (by decide) (by decide)) (@pa_u _ _ _ _ _ (@pv _ 3 _ _ (by rfl) (by first | exact Or.inl rfl | exact Or.inr (Or.inl rfl) | exact Or.inr (Or.inr rfl)) (by decide) (by decide)) (@pa_nil _) (by rfl)) (by rfl)) (by rfl) (by decide)) (@pa_nil _) (by rfl)) (by rfl)))))))))))), rfl, ?_⟩
  walk_at "cl"
  obtain ⟨a, ra, us, rfl, hsa, hra, hru⟩ := ls_inv hst
  obtain ⟨rv, hrv, hrr⟩ := hru.at hrow
  obtain ⟨pa, rfl, hpa⟩ := rw_inv hrr
  walk_at "st"
  refine ⟨_, hsa, _, rfl, ?_⟩
  walk_at "st"
  refine ⟨_, hsa, _, rfl, ?_⟩
  walk_at "st"
  refine ⟨_, hra, _, atI_nat hrv, ?_⟩
  walk_at "st"
  refine ⟨_, hpa, _, rfl, ?_⟩
  refine ⟨0, .int kk, _, _, _, rfl, .int _, _, rfl, ?_⟩
  rw [if_neg (by simp [whl, k0, k1])]
  have hrs : rowsB p f rows side kk = rows.set side (ballB p f r kk) := by unfold rowsB; rw [hrow]
  have hsb : sideB p f rows side kk = if (ballB p f r kk).d > r.d then (side + 1) % rows.length else side := by unfold sideB; rw [hrow]
  have hsl : side < rows.length := (List.getElem?_eq_some_iff.mp hrow).1
  have hul := hru.len
  refine r_cut (fun σ' H' => ∃ b, σ' = [some (.ref la), some (.ref a), some (.int kk), some (.ref ra), some (.int side), some (.ref pa), some (.ref b)] ∧ Same H H' ∧ RwV K H' (ballB p f r kk) (.ref b)) (fun M hM => ?_) ?_
  · walk_at "rd"
    refine ⟨_, hpa, _, rfl, ?_⟩
    walk_at "rd"
    refine ite2 (fun c => ?_) (fun c => ?_)
    · refine ⟨la, _, p, f, r, _, kk, rfl, hl, hrr, k0, k2, fun b H' S' h' => hM _ _ ⟨b, rfl, S', ?_⟩⟩
      unfold ballB
      rw [if_pos c]
      exact h'
    · refine ⟨la, _, p, f, r, _, kk, rfl, hl, hrr, k0, k2, fun b H' S' h' => hM _ _ ⟨b, rfl, S', ?_⟩⟩
      unfold ballB
      rw [if_neg c]
      exact h'
  rintro _ H1 ⟨b, rfl, S1, hb⟩
  generalize ballB p f r kk = r' at hb hrs hsb
  rw [hrs, hsb] at q
  clear hrs hsb
  walk_at "st"
  refine ⟨ra, us, rfl, Same.sqT hra S1, ?_, fun p1 hp1 => ?_⟩
  · rintro ⟨_, z⟩
    replace z : (if ((side : Nat) : Int) < 0 then (((side : Nat) : Int) + (us.length : Int)).toNat else min ((side : Nat) : Int).toNat us.length) = us.length := z
    rw [if_neg (by omega)] at z
    omega
  rw [cutV_take]
  have s1 := same_new hp1 (.tup (us.take side))
  refine ⟨small6 (by simp), fun p2 hp2 => ?_⟩
  have s2 := same_new hp2 (.tup [V.ref b])
  have hlt : (us.take side).length ≤ 3 := by rw [List.length_take]; omega
  have hld : (us.drop (side + 1)).length ≤ 3 := by rw [List.length_drop]; omega
  refine ⟨p1, p2, us.take side, [.ref b], rfl, rfl, Same.sqT (.of upd_same) s2, .of upd_same, smallA (by simp; omega), fun p3 H3 S3 h3 => ?_⟩
  have SS3 := ((S1.trans s1).trans s2).trans S3
  refine ⟨ra, us, rfl, Same.sqT hra SS3, ?_, fun p4 hp4 => ?_⟩
  · rintro ⟨z, _⟩
    replace z : (if (((side : Nat) : Int) + 1) < 0 then ((((side : Nat) : Int) + 1) + (us.length : Int)).toNat else min (((side : Nat) : Int) + 1).toNat us.length) = 0 := z
    rw [if_neg (by omega)] at z
    omega
  rw [show ((side : Nat) : Int) + 1 = ((side + 1 : Nat) : Int) by omega, cutV_drop (by omega)]
  have s4 := same_new hp4 (.tup (us.drop (side + 1)))
  refine ⟨p3, p4, us.take side ++ [.ref b], us.drop (side + 1), rfl, rfl, Same.sqT h3 s4, .of upd_same, smallA (by rw [List.length_append]; simp only [List.length_cons, List.length_nil]; omega), fun p5 H5 S5 h5 => ?_⟩
  rw [set_parts (by omega)] at h5
  have SS5 := (SS3.trans s4).trans S5
  have hb5 : RwV K H5 r' (.ref b) := (((((hb.same s1).same s2).same S3).same s4).same S5)
  have hru5 : RwL K H5 (rows.set side r') (us.set side (.ref b)) := (hru.same SS5).set hb5
  obtain ⟨b', eb, hsb⟩ := rw_inv hb5
  cases eb
  walk_at "rd"
  refine r_cut (fun σ' H' => σ' = [some (.ref la), some (.ref a), some (.int kk), some (.ref p5), some (.int ((if r'.d > r.d then (side + 1) % rows.length else side : Nat) : Int)), some (.ref pa), some (.ref b)] ∧ H' = H5) (fun M hM => ?_) ?_
  · walk_at "rd"
    refine ⟨_, hsb, _, rfl, _, Same.sqT hpa SS5, _, rfl, ?_⟩
    walk_at "rd"
    refine ite2 (fun c => ?_) (fun c => ?_)
    · refine ⟨_, Same.sqT hl SS5, _, rfl, ?_⟩
      walk_at "rd"
      refine ⟨by omega, hM _ _ ⟨?_, rfl⟩⟩
      rw [if_pos c, hrl]
      rw [show ((((side + 1) % sd : Nat)) : Int) = ((side : Int) + 1) % (sd : Int) by rw [Int.natCast_emod]; rfl]
    · exact hM _ _ ⟨by rw [if_neg c], rfl⟩
  rintro _ Hx ⟨rfl, eHx⟩
  rw [eHx]
  clear eHx Hx
  generalize (if r'.d > r.d then (side + 1) % rows.length else side) = sn at q ⊢
  walk_at "rd"
  refine ⟨small6 (by simp), fun p6 hp6 => ?_⟩
  have s6 := same_new hp6 (.tup [V.ref p5, V.int (sn : Int)])
  refine ⟨la, p5, _, p, f, rows.set side r', _, rfl, Same.sqT (Same.sqT hl SS5) s6, Same.sqT h5 s6, hru5.same s6, by rw [List.length_set]; omega, fun H7 S7 => ?_⟩
  refine ⟨small6 (by simp), fun p8 hp8 => ?_⟩
  have s8 := same_new hp8 (.tup [V.ref p6, V.bl (overB f (rows.set side r'))])
  exact q _ (.ref p6) _ (((SS5.trans s6).trans S7).trans s8) (.of upd_same) (ls_mk (Same.sqT (Same.sqT (.of upd_same) S7) s8) (Same.sqT (Same.sqT (Same.sqT h5 s6) S7) s8) (((hru5.same s6).same S7).same s8))
theorem ox_lane_bowled {C_NoPins : Addr} (F : Df K mg "lane_bowled" s_lane_bowled ["lane", "stand", "pins"]) (mc_NoPins : mg "NoPins" = some (.ref C_NoPins)) (oe_NoPins : OwnE K C_NoPins) (d_is_whole : Dn P w K mg base k "is_whole" ["thing", "least", "most"] (spWhole K)) (d_frame_ball : Dn P w K mg base k "frame_ball" ["lane", "row", "pins"] (spFrame K)) (d_extra_ball : Dn P w K mg base k "extra_ball" ["lane", "row", "pins"] (spExtra K)) (d_is_over : Dn P w K mg base k "is_over" ["lane", "rows"] (spOver K)) : Dx P w K mg base (k + 1) "lane_bowled" ["lane", "stand", "pins"] (spBad K C_NoPins) := by
  refine F.okx sc_lane_bowled (fun vs H Q E h => ?_) (fun f cdv A outer s H vs Q E hr h => ?_)
  · obtain ⟨la, s, p, f, rows, side, r, sv, v, t, d, rfl, _⟩ := h; rfl
  obtain ⟨la, sd, p, f, rows, side, r, sv, v, t, d, rfl, hl, hst, hrow, hd, hbad, q⟩ := h
  refine ⟨_, [some _, some _, some _, none, none, none, none], 
      (@pss_cons _ _ _ _ _ (@ps_nox _ _ _ (@ps_set _ _ 3 _ _ _ _ sc_lane_bowled.nd rfl (Or.inl rfl) (@pe_ix _ _ _ _ _ _ _ ix_tup (@pv _ 1 _ _ (by rfl) (by first | exact Or.inl rfl | exact Or.inr (Or.inl rfl) | exact Or.inr (Or.inr rfl)) (by decide) (by decide)) (@pe_int _ _ _ _) (fun _ _ => rfl)) (by rfl) (by first | exact .inl rfl | exact .inr rfl | assumption))) 
      (@pss_cons _ _ _ _ _ (@ps_nox _ _ _ (@ps_set _ _ 4 _ _ _ _ sc_lane_bowled.nd rfl (Or.inl rfl) (@pe_ix _ _ _ _ _ _ _ ix_tup (@pv _ 1 _ _ (by rfl) (by first | exact Or.inl rfl | exact Or.inr (Or.inl rfl) | exact Or.inr (Or.inr rfl)) (by decide) (by decide)) (@pe_int _ _ _ _) (fun _ _ => rfl)) (by rfl) (by first | exact .inl rfl | exact .inr rfl | assumption))) 
      (@pss_cons _ _ _ _ _ (@ps_nox _ _ _ (@ps_set _ _ 5 _ _ _ _ sc_lane_bowled.nd rfl (Or.inl rfl) (@pe_ix _ _ _ _ _ _ _ ix_tup (@pv _ 3 _ _ (by rfl) (by first | exact Or.inl rfl | exact Or.inr (Or.inl rfl) | exact Or.inr (Or.inr rfl)) (by decide) (by decide)) (@pv _ 4 _ _ (by rfl) (by first | exact Or.inl rfl | exact Or.inr (Or.inl rfl) | exact Or.inr (Or.inr rfl)) (by decide) (by decide)) (fun _ _ => rfl)) (by rfl) (by first | exact .inl rfl | exact .inr rfl | assumption))) 
      (@pss_cons _ _ _ _ _ (@ps_if _ _ _ _ _ _ _ _ (@PT.nox _ _ _ (@pt_not _ _ _ _ (@pt_val _ _ _ (@pe_callD _ _ _ _ _ _ _ _ _ _ d_is_whole hr rfl (@pa_u _ _ _ _ _ (@pv _ 2 _ _ (by rfl) (by first | exact Or.inl rfl | exact Or.inr (Or.inl rfl) | exact Or.inr (Or.inr rfl)) (by decide) (by decide)) (@pa_u _ _ _ _ _ (@pe_int _ _ _ _) (@pa_u _ _ _ _ _ (@pe_ix _ _ _ _ _ _ _ ix_tup (@pv _ 5 _ _ (by rfl) (by first | exact Or.inl rfl | exact Or.inr (Or.inl rfl) | exact Or.inr (Or.inr rfl)) (by decide) (by decide)) (@pe_int _ _ _ _) (fun _ _ => rfl)) (@pa_nil _) (by rfl)) (by rfl)) (by rfl)) (by rfl) (by decide)) (by intro _; rfl)))) (@pss_one _ _ _ (@ps_raise _ _ _ _ _ _ _ _ _ _ oe_NoPins rfl mc_NoPins rfl (@pa_nox _ _ _ (@pa_u _ _ _ _ _ (@pe_str _ _ _ _) (@pa_nil _) (by rfl))) (fun _ _ _ _ _ _ _ I hx hR => xe_raise I hx hR) (by rfl) (by decide))) (@pss_nil _)) 
      (@pss_cut _ _ _ _ _ (@ps_nox _ _ _ (@ps_set _ _ 6 _ _ _ _ sc_lane_bowled.nd rfl (Or.inl rfl) (@pe_ifExp _ _ _ _ _ _ _ _ (@pt_cmpR _ _ _ _ _ _ _ _ op_eq (@pe_ix _ _ _ _ _ _ _ ix_tup (@pv _ 5 _ _ (by rfl) (by first | exact Or.inl rfl | exact Or.inr (Or.inl rfl) | exact Or.inr (Or.inr rfl)) (by decide) (by decide)) (@pe_int _ _ _ _) (fun _ _ => rfl)) (@pe_int _ _ _ _) (nomark _)) (@pe_callD _ _ _ _ _ _ _ _ _ _ d_frame_ball hr rfl (@pa_u _ _ _ _ _ (@pv _ 0 _ _ (by rfl) (by first | exact Or.inl rfl | exact Or.inr (Or.inl rfl) | exact Or.inr (Or.inr rfl)) (by decide) (by decide)) (@pa_u _ _ _ _ _ (@pv _ 5 _ _ (by rfl) (by first | exact Or.inl rfl | exact Or.inr (Or.inl rfl) | exact Or.inr (Or.inr rfl)) (by decide) (by decide)) (@pa_u _ _ _ _ _ (@pv _ 2 _ _ (by rfl) (by first | exact Or.inl rfl | exact Or.inr (Or.inl rfl) | exact Or.inr (Or.inr rfl)) (by decide) (by decide)) (@pa_nil _) (by rfl)) (by rfl)) (by rfl)) (by rfl) (by decide)) (@pe_callD _ _ _ _ _ _ _ _ _ _ d_extra_ball hr rfl (@pa_u _ _ _ _ _ (@pv _ 0 _ _ (by rfl) (by first | exact Or.inl rfl | exact Or.inr (Or.inl rfl) | exact Or.inr (Or.inr rfl)) (by decide) (by decide)) (@pa_u _ _ _ _ _ (@pv _ 5 _ _ (by rfl) (by first | exact Or.inl rfl | exact Or.inr (Or.inl rfl) | exact Or.inr (Or.inr rfl)) (by decide) (by decide)) (@pa_u _ _ _ _ _ (@pv _ 2 _ _ (by rfl) (by first | exact Or.inl rfl | exact Or.inr (Or.inl rfl) | exact Or.inr (Or.inr rfl)) (by decide) (by decide)) (@pa_nil _) (by rfl)) (by rfl)) (by rfl)) (by rfl) (by decide))) (by rfl) (by first | exact .inl rfl | exact .inr rfl | assumption))) 
      (@pss_cons _ _ _ _ _ (@ps_nox _ _ _ (@ps_set _ _ 3 _ _ _ _ sc_lane_bowled.nd rfl (Or.inl rfl) (@pe_op _ _ _ _ _ _ _ _ op_catA (@pe_op _ _ _ _ _ _ _ _ op_catA (@pe_slice _ _ _ _ _ _ _ _ _ _ sl_tup (@pv _ 3 _ _ (by rfl) (by first | exact Or.inl rfl | exact Or.inr (Or.inl rfl) | exact Or.inr (Or.inr rfl)) (by decide) (by decide)) (@po_none _) (@po_some _ _ _ (@pv _ 4 _ _ (by rfl) (by first | exact Or.inl rfl | exact Or.inr (Or.inl rfl) | exact Or.inr (Or.inr rfl)) (by decide) (by decide)))) (@pe_tup _ _ _ _ _ (@pa_u _ _ _ _ _ (@pv _ 6 _ _ (by rfl) (by first | exact Or.inl rfl | exact Or.inr (Or.inl rfl) | exact Or.inr (Or.inr rfl)) (by decide) (by decide)) (@pa_nil _) (by rfl)))) (@pe_slice _ _ _ _ _ _ _ _ _ _ sl_tup (@pv _ 3 _ _ (by rfl) (by first | exact Or.inl rfl | exact Or.inr (Or.inl rfl) | exact Or.inr (Or.inr rfl)) (by decide) (by decide)) (@po_some _ _ _ (@pe_op _ _ _ _ _ _ _ _ op_add (@pv _ 4 _ _ (by rfl) (by first | exact Or.inl rfl | exact Or.inr (Or.inl rfl) | exact Or.inr (Or.inr rfl)) (by decide) (by decide)) (@pe_int _ _ _ _))) (@po_none _))) (by rfl) (by first | exact .inl rfl | exact .inr rfl | assumption))) 
      (@pss_cut _ _ _ _ _ (@ps_nox _ _ _ (@ps_if _ _ _ _ _ _ _ _ (@pt_cmpR _ _ _ _ _ _ _ _ op_gt (@pe_ix _ _ _ _ _ _ _ ix_tup (@pv _ 6 _ _ (by rfl) (by first | exact Or.inl rfl | exact Or.inr (Or.inl rfl) | exact Or.inr (Or.inr rfl)) (by decide) (by decide)) (@pe_int _ _ _ _) (fun _ _ => rfl)) (@pe_ix _ _ _ _ _ _ _ ix_tup (@pv _ 5 _ _ (by rfl) (by first | exact Or.inl rfl | exact Or.inr (Or.inl rfl) | exact Or.inr (Or.inr rfl)) (by decide) (by decide)) (@pe_int _ _ _ _) (fun _ _ => rfl)) (nomark _)) (@pss_one _ _ _ (@ps_set _ _ 4 _ _ _ _ sc_lane_bowled.nd rfl (Or.inl rfl) (@pe_op _ _ _ _ _ _ _ _ op_mod (@pe_op _ _ _ _ _ _ _ _ op_add (@pv _ 4 _ _ (by rfl) (by first | exact Or.inl rfl | exact Or.inr (Or.inl rfl) | exact Or.inr (Or.inr rfl)) (by decide) (by decide)) (@pe_int _ _ _ _)) (@pe_ix _ _ _ _ _ _ _ ix_tup (@pv _ 0 _ _ (by rfl) (by first | exact Or.inl rfl | exact Or.inr (Or.inl rfl) | exact Or.inr (Or.inr rfl)) (by decide) (by decide)) (@pe_int _ _ _ _) (fun _ _ => rfl))) (by rfl) (by first | exact .inl rfl | exact .inr rfl | assumption))) (@pss_nil _))) (@pss_one _ _ _ (@ps_nox _ _ _ (@ps_ret _ _ _ _ (@pe_tup _ _ _ _ _ (@pa_u _ _ _ _ _ (@pe_tup _ _ _ _ _ (@pa_u _ _ _ _ _ (@pv _ 3 _ _ (by rfl) (by first | exact Or.inl rfl | exact Or.inr (Or.inl rfl) | exact Or.inr (Or.inr rfl)) (by decide) (by decide)) (@pa_u _ _ _ _ _ (@pv _ 4 _ _ (by rfl) (by first | exact Or.inl rfl | exact Or.inr (Or.inl rfl) | exact Or.inr (Or.inr rfl)) (by decide) (by decide)) (@pa_nil _) (by rfl)) (by rfl))) (@pa_u _ _ _ _ _ (@pe_callD _ _ _ _ _ _ _ _ _ _ d_is_over hr rfl (@pa_u _ _ _ _ _ (@pv _ 0 _ _ (by rfl) (by first | exact Or.inl rfl | exact Or.inr (Or.inl rfl) | exact Or.inr (Or.inr rfl)) (by decide) (by decide)) (@pa_u _ _ _ _ _ (@pv _ 3 _ _ (by rfl) (by first | exact Or.inl rfl | exact Or.inr (Or.inl rfl) | exact Or.inr (Or.inr rfl)) (by decide) (by decide)) (@pa_nil _) (by rfl)) (by rfl)) (by rfl) (by decide)) (@pa_nil _) (by rfl)) (by rfl))))))))))))), rfl, ?_⟩
  walk_at "cl"
  obtain ⟨a, ra, us, rfl, hsa, hra, hru⟩ := ls_inv hst
  obtain ⟨rv, hrv, hrr⟩ := hru.at hrow
  obtain ⟨pa, rfl, hpa⟩ := rw_inv hrr
  walk_at "st"
  refine ⟨_, hsa, _, rfl, ?_⟩
  walk_at "st"
  refine ⟨_, hsa, _, rfl, ?_⟩
  walk_at "st"
  refine ⟨_, hra, _, atI_nat hrv, ?_⟩
  walk_at "st"
  refine ⟨_, hpa, _, rfl, ?_⟩
  refine ⟨t, d, _, _, _, rfl, hd, _, rfl, ?_⟩
  rw [if_pos hbad]
  exact ⟨small6 (by simp), q _ (.refl _)⟩
end
end My
namespace My
open PySem L2 M
section
variable (K : PySem.W.Frag)
def spOwn (C : Addr) (u : Str) : Sp := fun vs H Q _ => ∃ ea, vs = [.ref ea] ∧ H ea = some (excO ea C) ∧ ∀ H', Same H H' → Q (.str u) H'
end
section
variable {P : Program} {w : World} {K : PySem.W.Frag} {mg : Str → Option Value} {base : Heap} {ns : List Int} {k : Nat}
theorem ok_law_own {C C_NoThrow C_NoPins C_NoSide C_Over C_NoGame C_NoDeed C_TooMany C_NoLine C_BadWord C_Falls : Addr} {b1 b2 b3 b4 b5 b6 b7 b8 b9 b10 : Bool} {j : Nat} {u : Str} (F : Df K mg "_law_own" s_law_own ["_law_e"]) (m_isinstance : mg "isinstance" = none) (m_ValueError : mg "ValueError" = none)
    (g_NoThrow : Gc mg "NoThrow" (.ref C_NoThrow)) (g_NoPins : Gc mg "NoPins" (.ref C_NoPins)) (g_NoSide : Gc mg "NoSide" (.ref C_NoSide)) (g_Over : Gc mg "Over" (.ref C_Over)) (g_NoGame : Gc mg "NoGame" (.ref C_NoGame)) (g_NoDeed : Gc mg "NoDeed" (.ref C_NoDeed)) (g_TooMany : Gc mg "TooMany" (.ref C_TooMany)) (g_NoLine : Gc mg "NoLine" (.ref C_NoLine)) (g_BadWord : Gc mg "BadWord" (.ref C_BadWord)) (g_Falls : Gc mg "Falls" (.ref C_Falls))
    (er : ErrC K C) (k1 : PySem.W.kitOne K (.ref C) (.ref C_NoThrow) = some b1) (k2 : PySem.W.kitOne K (.ref C) (.ref C_NoPins) = some b2) (k3 : PySem.W.kitOne K (.ref C) (.ref C_NoSide) = some b3) (k4 : PySem.W.kitOne K (.ref C) (.ref C_Over) = some b4) (k5 : PySem.W.kitOne K (.ref C) (.ref C_NoGame) = some b5) (k6 : PySem.W.kitOne K (.ref C) (.ref C_NoDeed) = some b6) (k7 : PySem.W.kitOne K (.ref C) (.ref C_TooMany) = some b7) (k8 : PySem.W.kitOne K (.ref C) (.ref C_NoLine) = some b8) (k9 : PySem.W.kitOne K (.ref C) (.ref C_BadWord) = some b9) (k10 : PySem.W.kitOne K (.ref C) (.ref C_Falls) = some b10)
    (kv : PySem.W.kitOne K (.ref C) (.type "ValueError") = some true) (hc : [b1, b2, b3, b4, b5, b6, b7, b8, b9, b10].count true = 1) (hj : [b1, b2, b3, b4, b5, b6, b7, b8, b9, b10][j]? = some true) (hm : ∀ m, m < j → [b1, b2, b3, b4, b5, b6, b7, b8, b9, b10][m]? = some false)
    (hu : (["throw", "pins", "side", "over", "game", "deed", "many", "line", "word", "falls"] : List Str)[j]? = some u) : Dh P w K mg base (k + 1) "_law_own" ["_law_e"] (spOwn C u) := by
  refine F.okh sc_law_own (fun vs H Q E h => ?_) (fun f cdv A outer s H vs Q hr h => ?_)
  · obtain ⟨ea, rfl, _⟩ := h; rfl
  obtain ⟨ea, rfl, he, q⟩ := h
  refine ⟨_, [some _, none, none], 
      (@pss_cons _ _ _ _ _ (@ps_set _ _ 1 _ _ _ _ sc_law_own.nd rfl (Or.inl rfl) (@pe_lst _ _ _ _ (@pa_u _ _ _ _ _ (@pe_callBu _ _ _ _ _ _ _ _ _ call_isE rfl m_isinstance bt_isinstance (@pa_u _ _ _ _ _ (@pv _ 0 _ _ (by rfl) (by first | exact Or.inl rfl | exact Or.inr (Or.inl rfl) | exact Or.inr (Or.inr rfl)) (by decide) (by decide)) (@pa_u _ _ _ _ _ (@pe_gc _ _ _ _ g_NoThrow rfl (by decide)) (@pa_nil _) (by rfl)) (by rfl)) (by rfl) (by decide) (by decide)) (@pa_u _ _ _ _ _ (@pe_callBu _ _ _ _ _ _ _ _ _ call_isE rfl m_isinstance bt_isinstance (@pa_u _ _ _ _ _ (@pv _ 0 _ _ (by rfl) (by first | exact Or.inl rfl | exact Or.inr (Or.inl rfl) | exact Or.inr (Or.inr rfl)) (by decide) (by decide)) (@pa_u _ _ _ _ _ (@pe_gc _ _ _ _ g_NoPins rfl (by decide)) (@pa_nil _) (by rfl)) (by rfl)) (by rfl) (by decide) (by decide)) (@pa_u _ _ _ _ _ (@pe_callBu _ _ _ _ _ _ _ _ _ call_isE rfl m_isinstance bt_isinstance (@pa_u _ _ _ _ _ (@pv _ 0 _ _ (by rfl) (by first | exact Or.inl rfl | exact Or.inr (Or.inl rfl) | exact Or.inr (Or.inr rfl)) (by decide) (by decide)) (@pa_u _ _ _ _ _ (@pe_gc _ _ _ _ g_NoSide rfl (by decide)) (@pa_nil _) (by rfl)) (by rfl)) (by rfl) (by decide) (by decide)) (@pa_u _ _ _ _ _ (@pe_callBu _ _ _ _ _ _ _ _ _ call_isE rfl m_isinstance bt_isinstance (@pa_u _ _ _ _ _ (@pv _ 0 _ _ (by rfl) (by first | exact Or.inl rfl | exact Or.inr (Or.inl rfl) | exact Or.inr (Or.inr rfl)) (by decide) (by decide)) (@pa_u _ _ _ _ _ (@pe_gc _ _ _ _ g_Over rfl (by decide)) (@pa_nil _) (by rfl)) (by rfl)) (by rfl) (by decide) (by decide)) (@pa_nil _) (by rfl)) (by rfl)) (by rfl)) (by rfl))) (by rfl) (by first | exact .inl rfl | exact .inr rfl | assumption)) 
      (@pss_cons _ _ _ _ _ (@ps_set _ _ 1 _ _ _ _ sc_law_own.nd rfl (Or.inl rfl) (@pe_op _ _ _ _ _ _ _ _ op_cat (@pv _ 1 _ _ (by rfl) (by first | exact Or.inl rfl | exact Or.inr (Or.inl rfl) | exact Or.inr (Or.inr rfl)) (by decide) (by decide)) (@pe_lst _ _ _ _ (@pa_u _ _ _ _ _ (@pe_callBu _ _ _ _ _ _ _ _ _ call_isE rfl m_isinstance bt_isinstance (@pa_u _ _ _ _ _ (@pv _ 0 _ _ (by rfl) (by first | exact Or.inl rfl | exact Or.inr (Or.inl rfl) | exact Or.inr (Or.inr rfl)) (by decide) (by decide)) (@pa_u _ _ _ _ _ (@pe_gc _ _ _ _ g_NoGame rfl (by decide)) (@pa_nil _) (by rfl)) (by rfl)) (by rfl) (by decide) (by decide)) (@pa_u _ _ _ _ _ (@pe_callBu _ _ _ _ _ _ _ _ _ call_isE rfl m_isinstance bt_isinstance (@pa_u _ _ _ _ _ (@pv _ 0 _ _ (by rfl) (by first | exact Or.inl rfl | exact Or.inr (Or.inl rfl) | exact Or.inr (Or.inr rfl)) (by decide) (by decide)) (@pa_u _ _ _ _ _ (@pe_gc _ _ _ _ g_NoDeed rfl (by decide)) (@pa_nil _) (by rfl)) (by rfl)) (by rfl) (by decide) (by decide)) (@pa_u _ _ _ _ _ (@pe_callBu _ _ _ _ _ _ _ _ _ call_isE rfl m_isinstance bt_isinstance (@pa_u _ _ _ _ _ (@pv _ 0 _ _ (by rfl) (by first | exact Or.inl rfl | exact Or.inr (Or.inl rfl) | exact Or.inr (Or.inr rfl)) (by decide) (by decide)) (@pa_u _ _ _ _ _ (@pe_gc _ _ _ _ g_TooMany rfl (by decide)) (@pa_nil _) (by rfl)) (by rfl)) (by rfl) (by decide) (by decide)) (@pa_u _ _ _ _ _ (@pe_callBu _ _ _ _ _ _ _ _ _ call_isE rfl m_isinstance bt_isinstance (@pa_u _ _ _ _ _ (@pv _ 0 _ _ (by rfl) (by first | exact Or.inl rfl | exact Or.inr (Or.inl rfl) | exact Or.inr (Or.inr rfl)) (by decide) (by decide)) (@pa_u _ _ _ _ _ (@pe_gc _ _ _ _ g_NoLine rfl (by decide)) (@pa_nil _) (by rfl)) (by rfl)) (by rfl) (by decide) (by decide)) (@pa_nil _) (by rfl)) (by rfl)) (by rfl)) (by rfl)))) (by rfl) (by first | exact .inl rfl | exact .inr rfl | assumption)) 
      (@pss_cons _ _ _ _ _ (@ps_set _ _ 1 _ _ _ _ sc_law_own.nd rfl (Or.inl rfl) (@pe_op _ _ _ _ _ _ _ _ op_cat (@pv _ 1 _ _ (by rfl) (by first | exact Or.inl rfl | exact Or.inr (Or.inl rfl) | exact Or.inr (Or.inr rfl)) (by decide) (by decide)) (@pe_lst _ _ _ _ (@pa_u _ _ _ _ _ (@pe_callBu _ _ _ _ _ _ _ _ _ call_isE rfl m_isinstance bt_isinstance (@pa_u _ _ _ _ _ (@pv _ 0 _ _ (by rfl) (by first | exact Or.inl rfl | exact Or.inr (Or.inl rfl) | exact Or.inr (Or.inr rfl)) (by decide) (by decide)) (@pa_u _ _ _ _ _ (@pe_gc _ _ _ _ g_BadWord rfl (by decide)) (@pa_nil _) (by rfl)) (by rfl)) (by rfl) (by decide) (by decide)) (@pa_u _ _ _ _ _ (@pe_callBu _ _ _ _ _ _ _ _ _ call_isE rfl m_isinstance bt_isinstance (@pa_u _ _ _ _ _ (@pv _ 0 _ _ (by rfl) (by first | exact Or.inl rfl | exact Or.inr (Or.inl rfl) | exact Or.inr (Or.inr rfl)) (by decide) (by decide)) (@pa_u _ _ _ _ _ (@pe_gc _ _ _ _ g_Falls rfl (by decide)) (@pa_nil _) (by rfl)) (by rfl)) (by rfl) (by decide) (by decide)) (@pa_nil _) (by rfl)) (by rfl)))) (by rfl) (by first | exact .inl rfl | exact .inr rfl | assumption)) 
      (@pss_cons _ _ _ _ _ (@ps_if _ _ _ _ _ _ _ _ (@PW.pt _ _ _ (@pw_or _ _ _ _ _ _ _ (@pt_not _ _ _ _ (@pt_val _ _ _ (@pe_callBu _ _ _ _ _ _ _ _ _ call_isE rfl m_isinstance bt_isinstance (@pa_u _ _ _ _ _ (@pv _ 0 _ _ (by rfl) (by first | exact Or.inl rfl | exact Or.inr (Or.inl rfl) | exact Or.inr (Or.inr rfl)) (by decide) (by decide)) (@pa_u _ _ _ _ _ (@pe_bltn _ _ (.ty "ValueError") _ _ rfl m_ValueError bt_ValueError rfl (by decide) (by decide)) (@pa_nil _) (by rfl)) (by rfl)) (by rfl) (by decide) (by decide)) (by intro _; rfl))) (@pw_or1 _ _ _ _ (@pt_cmpR _ _ _ _ _ _ _ _ op_ne (@pe_bm _ _ _ _ _ _ _ _ _ _ _ _ PySem.F.plainAttrs_list PySem.F.slot_list_count PySem.F.type_list_count mt_count (@pv _ 1 _ _ (by rfl) (by first | exact Or.inl rfl | exact Or.inr (Or.inl rfl) | exact Or.inr (Or.inr rfl)) (by decide) (by decide)) (@pa_u _ _ _ _ _ (@pe_bl _ _ _ _) (@pa_nil _) (by rfl)) (by rfl) (by rfl) (by rfl) (by rfl) (by rfl)) (@pe_int _ _ _ _) (nomark _))))) (@pss_one _ _ _ (@ps_ret _ _ _ _ (@pe_str _ _ _ _))) (@pss_nil _)) 
      (@pss_cons _ _ _ _ _ (@ps_set _ _ 2 _ _ _ _ sc_law_own.nd rfl (Or.inl rfl) (@pe_lst _ _ _ _ (@pa_u _ _ _ _ _ (@pe_str _ _ _ _) (@pa_u _ _ _ _ _ (@pe_str _ _ _ _) (@pa_u _ _ _ _ _ (@pe_str _ _ _ _) (@pa_u _ _ _ _ _ (@pe_str _ _ _ _) (@pa_u _ _ _ _ _ (@pe_str _ _ _ _) (@pa_u _ _ _ _ _ (@pe_str _ _ _ _) (@pa_u _ _ _ _ _ (@pe_str _ _ _ _) (@pa_u _ _ _ _ _ (@pe_str _ _ _ _) (@pa_u _ _ _ _ _ (@pe_str _ _ _ _) (@pa_u _ _ _ _ _ (@pe_str _ _ _ _) (@pa_nil _) (by rfl)) (by rfl)) (by rfl)) (by rfl)) (by rfl)) (by rfl)) (by rfl)) (by rfl)) (by rfl)) (by rfl))) (by rfl) (by first | exact .inl rfl | exact .inr rfl | assumption)) (@pss_one _ _ _ (@ps_ret _ _ _ _ (@pe_ix _ _ _ _ _ _ _ ix_list (@pv _ 2 _ _ (by rfl) (by first | exact Or.inl rfl | exact Or.inr (Or.inl rfl) | exact Or.inr (Or.inr rfl)) (by decide) (by decide)) (@pe_bm _ _ _ _ _ _ _ _ _ _ _ _ PySem.F.plainAttrs_list PySem.F.slot_list_index PySem.F.type_list_index mt_index (@pv _ 1 _ _ (by rfl) (by first | exact Or.inl rfl | exact Or.inr (Or.inl rfl) | exact Or.inr (Or.inr rfl)) (by decide) (by decide)) (@pa_u _ _ _ _ _ (@pe_bl _ _ _ _) (@pa_nil _) (by rfl)) (by rfl) (by rfl) (by rfl) (by rfl) (by rfl)) (fun _ _ => rfl))))))))), rfl, ?_⟩
  walk_at "cl"
  walk_at "st"
  refine isE_ref he er k1 (isE_ref he er k2 (isE_ref he er k3 (isE_ref he er k4 ?_)))
  refine ⟨small6 (by simp), fun p1 hp1 => ?_⟩
  have s1 := same_new hp1 (.lst [V.bl b1, V.bl b2, V.bl b3, V.bl b4])
  have l1 : (upd H p1 (HO.lst [V.bl b1, V.bl b2, V.bl b3, V.bl b4])) p1 = some (.lst [V.bl b1, V.bl b2, V.bl b3, V.bl b4]) := upd_same
  generalize upd H p1 (HO.lst [V.bl b1, V.bl b2, V.bl b3, V.bl b4]) = H1 at s1 l1 ⊢
  have he1 := s1 _ _ he
  walk_at "st"
  refine isE_ref he1 er k5 (isE_ref he1 er k6 (isE_ref he1 er k7 (isE_ref he1 er k8 ?_)))
  refine ⟨small6 (by simp), fun p2 hp2 => ?_⟩
  have s2 := same_new hp2 (.lst [V.bl b5, V.bl b6, V.bl b7, V.bl b8])
  refine cat_of (s2 _ _ l1) upd_same (smallA (by simp)) fun p3 hp3 => ?_
  have s3 := s2.trans (same_new hp3 (.lst ([V.bl b1, V.bl b2, V.bl b3, V.bl b4] ++ [V.bl b5, V.bl b6, V.bl b7, V.bl b8])))
  have l3 : (upd (upd H1 p2 (HO.lst [V.bl b5, V.bl b6, V.bl b7, V.bl b8])) p3 (.lst ([V.bl b1, V.bl b2, V.bl b3, V.bl b4] ++ [V.bl b5, V.bl b6, V.bl b7, V.bl b8]))) p3 = some (.lst [V.bl b1, V.bl b2, V.bl b3, V.bl b4, V.bl b5, V.bl b6, V.bl b7, V.bl b8]) := upd_same
  generalize upd (upd H1 p2 (HO.lst [V.bl b5, V.bl b6, V.bl b7, V.bl b8])) p3 (.lst ([V.bl b1, V.bl b2, V.bl b3, V.bl b4] ++ [V.bl b5, V.bl b6, V.bl b7, V.bl b8])) = H3 at s3 l3 ⊢
  have he3 := s3 _ _ he1
  walk_at "st"
  refine isE_ref he3 er k9 (isE_ref he3 er k10 ?_)
  refine ⟨small6 (by simp), fun p4 hp4 => ?_⟩
  have s4 := same_new hp4 (.lst [V.bl b9, V.bl b10])
  refine cat_of (s4 _ _ l3) upd_same (smallA (by simp)) fun p5 hp5 => ?_
  have s5 := s4.trans (same_new hp5 (.lst ([V.bl b1, V.bl b2, V.bl b3, V.bl b4, V.bl b5, V.bl b6, V.bl b7, V.bl b8] ++ [V.bl b9, V.bl b10])))
  have l5 : (upd (upd H3 p4 (HO.lst [V.bl b9, V.bl b10])) p5 (.lst ([V.bl b1, V.bl b2, V.bl b3, V.bl b4, V.bl b5, V.bl b6, V.bl b7, V.bl b8] ++ [V.bl b9, V.bl b10]))) p5 = some (.lst ([b1, b2, b3, b4, b5, b6, b7, b8, b9, b10].map V.bl)) := upd_same
  generalize upd (upd H3 p4 (HO.lst [V.bl b9, V.bl b10])) p5 (.lst ([V.bl b1, V.bl b2, V.bl b3, V.bl b4, V.bl b5, V.bl b6, V.bl b7, V.bl b8] ++ [V.bl b9, V.bl b10])) = H5 at s5 l5 ⊢
  have he5 := s5 _ _ he3
  have S5 := (s1.trans s3).trans s5
  generalize [b1, b2, b3, b4, b5, b6, b7, b8, b9, b10] = bs at hc hj hm l5
  walk_at "st"
  refine isE_ty he5 er kv ⟨_, rfl, ?_⟩
  walk_at "F"
  refine ⟨.inl ⟨rfl, _, .of l5⟩, p5, bs, rfl, rfl, l5, ?_⟩
  rw [hc]
  walk_at "rd"
  rw [if_neg (by decide)]
  have hj10 : j < 10 := by
    have := (List.getElem?_eq_some_iff.mp hu).1
    simpa using this
  walk_at "st"
  refine ⟨small6 (by simp), fun p6 hp6 => ?_⟩
  refine ⟨.inl ⟨rfl, _, .of (same_new hp6 _ _ _ l5)⟩, p5, bs, j, rfl, rfl, same_new hp6 _ _ _ l5, hj, hm, by omega, ?_⟩
  walk_at "rd"
  refine ⟨_, .of upd_same, .str u, atI_nat ?_, q _ (S5.trans (same_new hp6 _))⟩
  have : ∀ ws : List Str, ws[j]? = some u → (ws.map V.str)[j]? = some (.str u) := fun ws h => by rw [List.getElem?_map, h]; rfl
  exact this _ hu
end
end My
namespace My
open PySem L2 M
section
variable (K : PySem.W.Frag) (ns : List Int)
def spLane : Sp := fun vs H Q _ => ∃ t, vs = [.ref t] ∧ Tape K ns t H ∧ ∀ (la : Addr) (s : Nat) (p f : Int) H', 1 ≤ s → s ≤ 3 → 1 ≤ p → p ≤ 20 → 1 ≤ f → f ≤ 12 → Cur K ns t H H' → SqT K H' la [.int s, .int p, .int f] → Q (.ref la) H'
def spBall : Sp := fun vs H Q _ => ∃ t up, vs = [.ref t, .int up] ∧ Tape K ns t H ∧ 0 ≤ up ∧ up ≤ 20 ∧ ∀ k H', 0 ≤ k → k ≤ up → Cur K ns t H H' → Q (.int k) H'
end
section
variable {P : Program} {w : World} {K : PySem.W.Frag} {mg : Str → Option Value} {base : Heap} {ns : List Int} {k : Nat}
theorem ok_law_lane (F : Df K mg "_law_lane" s_law_lane ["_law_tape_here"]) (d_law_draw : Dn P w K mg base k "_law_draw" ["_law_tape_here", "_law_many"] (spDraw K ns)) : Dn P w K mg base (k + 1) "_law_lane" ["_law_tape_here"] (spLane K ns) := by
  refine F.ok sc_law_lane (fun vs H Q E h => ?_) (fun f cdv A outer s H vs Q E hr h => ?_)
  · obtain ⟨t, rfl, _⟩ := h; rfl
  obtain ⟨t, rfl, T, q⟩ := h
  refine ⟨_, [some _, none, none], 
      (@pss_cons _ _ _ _ _ (@ps_set _ _ 1 _ _ _ _ sc_law_lane.nd rfl (Or.inl rfl) (@pe_ix _ _ _ _ _ _ _ ix_list (@pe_lst _ _ _ _ (@pa_u _ _ _ _ _ (@pe_op _ _ _ _ _ _ _ _ op_add (@pe_int _ _ _ _) (@pe_callD _ _ _ _ _ _ _ _ _ _ d_law_draw hr rfl (@pa_u _ _ _ _ _ (@pv _ 0 _ _ (by rfl) (by first | exact Or.inl rfl | exact Or.inr (Or.inl rfl) | exact Or.inr (Or.inr rfl)) (by decide) (by decide)) (@pa_u _ _ _ _ _ (@pe_int _ _ _ _) (@pa_nil _) (by rfl)) (by rfl)) (by rfl) (by decide))) (@pa_u _ _ _ _ _ (@pe_int _ _ _ _) (@pa_u _ _ _ _ _ (@pe_op _ _ _ _ _ _ _ _ op_add (@pe_int _ _ _ _) (@pe_callD _ _ _ _ _ _ _ _ _ _ d_law_draw hr rfl (@pa_u _ _ _ _ _ (@pv _ 0 _ _ (by rfl) (by first | exact Or.inl rfl | exact Or.inr (Or.inl rfl) | exact Or.inr (Or.inr rfl)) (by decide) (by decide)) (@pa_u _ _ _ _ _ (@pe_int _ _ _ _) (@pa_nil _) (by rfl)) (by rfl)) (by rfl) (by decide))) (@pa_nil _) (by rfl)) (by rfl)) (by rfl))) (@pe_callD _ _ _ _ _ _ _ _ _ _ d_law_draw hr rfl (@pa_u _ _ _ _ _ (@pv _ 0 _ _ (by rfl) (by first | exact Or.inl rfl | exact Or.inr (Or.inl rfl) | exact Or.inr (Or.inr rfl)) (by decide) (by decide)) (@pa_u _ _ _ _ _ (@pe_int _ _ _ _) (@pa_nil _) (by rfl)) (by rfl)) (by rfl) (by decide)) (fun _ _ => rfl)) (by rfl) (by first | exact .inl rfl | exact .inr rfl | assumption)) 
      (@pss_cons _ _ _ _ _ (@ps_set _ _ 2 _ _ _ _ sc_law_lane.nd rfl (Or.inl rfl) (@pe_ix _ _ _ _ _ _ _ ix_list (@pe_lst _ _ _ _ (@pa_u _ _ _ _ _ (@pe_op _ _ _ _ _ _ _ _ op_add (@pe_int _ _ _ _) (@pe_callD _ _ _ _ _ _ _ _ _ _ d_law_draw hr rfl (@pa_u _ _ _ _ _ (@pv _ 0 _ _ (by rfl) (by first | exact Or.inl rfl | exact Or.inr (Or.inl rfl) | exact Or.inr (Or.inr rfl)) (by decide) (by decide)) (@pa_u _ _ _ _ _ (@pe_int _ _ _ _) (@pa_nil _) (by rfl)) (by rfl)) (by rfl) (by decide))) (@pa_u _ _ _ _ _ (@pe_op _ _ _ _ _ _ _ _ op_add (@pe_int _ _ _ _) (@pe_callD _ _ _ _ _ _ _ _ _ _ d_law_draw hr rfl (@pa_u _ _ _ _ _ (@pv _ 0 _ _ (by rfl) (by first | exact Or.inl rfl | exact Or.inr (Or.inl rfl) | exact Or.inr (Or.inr rfl)) (by decide) (by decide)) (@pa_u _ _ _ _ _ (@pe_int _ _ _ _) (@pa_nil _) (by rfl)) (by rfl)) (by rfl) (by decide))) (@pa_nil _) (by rfl)) (by rfl))) (@pe_callD _ _ _ _ _ _ _ _ _ _ d_law_draw hr rfl (@pa_u _ _ _ _ _ (@pv _ 0 _ _ (by rfl) (by first | exact Or.inl rfl | exact Or.inr (Or.inl rfl) | exact Or.inr (Or.inr rfl)) (by decide) (by decide)) (@pa_u _ _ _ _ _ (@pe_int _ _ _ _) (@pa_nil _) (by rfl)) (by rfl)) (by rfl) (by decide)) (fun _ _ => rfl)) (by rfl) (by first | exact .inl rfl | exact .inr rfl | assumption)) (@pss_one _ _ _ (@ps_ret _ _ _ _ (@pe_tup _ _ _ _ _ (@pa_u _ _ _ _ _ (@pe_op _ _ _ _ _ _ _ _ op_add (@pe_int _ _ _ _) (@pe_callD _ _ _ _ _ _ _ _ _ _ d_law_draw hr rfl (@pa_u _ _ _ _ _ (@pv _ 0 _ _ (by rfl) (by first | exact Or.inl rfl | exact Or.inr (Or.inl rfl) | exact Or.inr (Or.inr rfl)) (by decide) (by decide)) (@pa_u _ _ _ _ _ (@pe_int _ _ _ _) (@pa_nil _) (by rfl)) (by rfl)) (by rfl) (by decide))) (@pa_u _ _ _ _ _ (@pv _ 1 _ _ (by rfl) (by first | exact Or.inl rfl | exact Or.inr (Or.inl rfl) | exact Or.inr (Or.inr rfl)) (by decide) (by decide)) (@pa_u _ _ _ _ _ (@pv _ 2 _ _ (by rfl) (by first | exact Or.inl rfl | exact Or.inr (Or.inl rfl) | exact Or.inr (Or.inr rfl)) (by decide) (by decide)) (@pa_nil _) (by rfl)) (by rfl)) (by rfl))))))), rfl, ?_⟩
  walk_at "cl"
  walk_at "st"
  refine draw_of T fun r1 H1 r10 r11 c1 => ?_
  walk_at "rd"
  refine draw_of c1.tape fun r2 H2 r20 r21 c2 => ?_
  walk_at "rd"
  have C2 := c1.then c2
  refine ⟨small6 (by simp), fun p1 hp1 => draw_of (C2.tape.new hp1 _) fun r3 H3 r30 r31 c3 => ?_⟩
  have s3 : SqL K H3 p1 [V.int (1 + r1), V.int 10, V.int (1 + r2)] := c3.ext.sqL (C2.ne hp1) (.of upd_same)
  have C3 : Cur K ns t H H3 := (C2.new hp1 _).then c3
  walk_at "rd"
  obtain ⟨v3, hv3, m3⟩ := atMem (xs := [V.int (1 + r1), V.int 10, V.int (1 + r2)]) (i := r3) (by omega) (by simp; omega)
  obtain ⟨pn, rfl, pn0, pn1⟩ : ∃ k : Int, v3 = .int k ∧ 1 ≤ k ∧ k ≤ 20 := by
    simp at m3
    rcases m3 with rfl | rfl | rfl
    · exact ⟨_, rfl, by omega, by omega⟩
    · exact ⟨_, rfl, by decide, by decide⟩
    · exact ⟨_, rfl, by omega, by omega⟩
  refine ⟨_, s3, _, hv3, ?_⟩
  walk_at "st"
  refine draw_of C3.tape fun r4 H4 r40 r41 c4 => ?_
  walk_at "rd"
  refine draw_of c4.tape fun r5 H5 r50 r51 c5 => ?_
  walk_at "rd"
  have C5 := (C3.then c4).then c5
  refine ⟨small6 (by simp), fun p2 hp2 => draw_of (C5.tape.new hp2 _) fun r6 H6 r60 r61 c6 => ?_⟩
  have s6 : SqL K H6 p2 [V.int (1 + r4), V.int (1 + r5)] := c6.ext.sqL (C5.ne hp2) (.of upd_same)
  have C6 : Cur K ns t H H6 := (C5.new hp2 _).then c6
  walk_at "rd"
  obtain ⟨v6, hv6, m6⟩ := atMem (xs := [V.int (1 + r4), V.int (1 + r5)]) (i := r6) (by omega) (by simp; omega)
  obtain ⟨fr, rfl, fr0, fr1⟩ : ∃ k : Int, v6 = .int k ∧ 1 ≤ k ∧ k ≤ 12 := by
    simp at m6
    rcases m6 with rfl | rfl
    · exact ⟨_, rfl, by omega, by omega⟩
    · exact ⟨_, rfl, by omega, by omega⟩
  refine ⟨_, s6, _, hv6, ?_⟩
  walk_at "rd"
  refine draw_of C6.tape fun r7 H7 r70 r71 c7 => ?_
  walk_at "rd"
  have C7 := C6.then c7
  refine ⟨small6 (by simp), fun p3 hp3 => ?_⟩
  have e : (1 : Int) + r7 = ((1 + r7.toNat : Nat) : Int) := by omega
  rw [e]
  exact q p3 (1 + r7.toNat) pn fr _ (by omega) (by omega) pn0 pn1 fr0 fr1 (C7.new hp3 _) (.of upd_same)
theorem ok_law_ball (F : Df K mg "_law_ball" s_law_ball ["_law_tape_here", "_law_up"]) (m_max : mg "max" = none) (d_law_draw : Dn P w K mg base k "_law_draw" ["_law_tape_here", "_law_many"] (spDraw K ns)) : Dn P w K mg base (k + 1) "_law_ball" ["_law_tape_here", "_law_up"] (spBall K ns) := by
  refine F.ok sc_law_ball (fun vs H Q E h => ?_) (fun f cdv A outer s H vs Q E hr h => ?_)
  · obtain ⟨t, up, rfl, _⟩ := h; rfl
  obtain ⟨t, up, rfl, T, u0, u1, q⟩ := h
  refine ⟨_, [some _, some _], (@pss_one _ _ _ (@ps_ret _ _ _ _ (@pe_ix _ _ _ _ _ _ _ ix_list (@pe_lst _ _ _ _ (@pa_u _ _ _ _ _ (@pv _ 1 _ _ (by rfl) (by first | exact Or.inl rfl | exact Or.inr (Or.inl rfl) | exact Or.inr (Or.inr rfl)) (by decide) (by decide)) (@pa_u _ _ _ _ _ (@pv _ 1 _ _ (by rfl) (by first | exact Or.inl rfl | exact Or.inr (Or.inl rfl) | exact Or.inr (Or.inr rfl)) (by decide) (by decide)) (@pa_u _ _ _ _ _ (@pe_callD _ _ _ _ _ _ _ _ _ _ d_law_draw hr rfl (@pa_u _ _ _ _ _ (@pv _ 0 _ _ (by rfl) (by first | exact Or.inl rfl | exact Or.inr (Or.inl rfl) | exact Or.inr (Or.inr rfl)) (by decide) (by decide)) (@pa_u _ _ _ _ _ (@pe_op _ _ _ _ _ _ _ _ op_add (@pv _ 1 _ _ (by rfl) (by first | exact Or.inl rfl | exact Or.inr (Or.inl rfl) | exact Or.inr (Or.inr rfl)) (by decide) (by decide)) (@pe_int _ _ _ _)) (@pa_nil _) (by rfl)) (by rfl)) (by rfl) (by decide)) (@pa_u _ _ _ _ _ (@pe_callBu _ _ _ _ _ _ _ _ _ (call_maxS rfl) rfl m_max bt_max (@pa_u _ _ _ _ _ (@pe_int _ _ _ _) (@pa_u _ _ _ _ _ (@pe_op _ _ _ _ _ _ _ _ op_sub (@pv _ 1 _ _ (by rfl) (by first | exact Or.inl rfl | exact Or.inr (Or.inl rfl) | exact Or.inr (Or.inr rfl)) (by decide) (by decide)) (@pe_int _ _ _ _)) (@pa_nil _) (by rfl)) (by rfl)) (by rfl) (by decide) (by decide)) (@pa_u _ _ _ _ _ (@pe_int _ _ _ _) (@pa_nil _) (by rfl)) (by rfl)) (by rfl)) (by rfl)) (by rfl))) (@pe_callD _ _ _ _ _ _ _ _ _ _ d_law_draw hr rfl (@pa_u _ _ _ _ _ (@pv _ 0 _ _ (by rfl) (by first | exact Or.inl rfl | exact Or.inr (Or.inl rfl) | exact Or.inr (Or.inr rfl)) (by decide) (by decide)) (@pa_u _ _ _ _ _ (@pe_int _ _ _ _) (@pa_nil _) (by rfl)) (by rfl)) (by rfl) (by decide)) (fun _ _ => rfl)))), rfl, ?_⟩
  walk_at "cl"
  walk_at "rd"
  refine draw_of T (fun r1 H1 r10 r11 c1 => ?_) (by omega) (by omega)
  walk_at "rd"
  generalize hm : (if up - 1 > 0 then up - 1 else 0) = mx
  have hm' : 0 ≤ mx ∧ mx ≤ up := by rw [← hm]; split <;> omega
  refine ⟨small6 (by simp), fun p1 hp1 => draw_of (c1.tape.new hp1 _) fun r3 H3 r30 r31 c3 => ?_⟩
  have s3 : SqL K H3 p1 [V.int up, V.int up, V.int r1, V.int mx, V.int 0] := c3.ext.sqL (c1.ne hp1) (.of upd_same)
  have C3 : Cur K ns t H H3 := (c1.new hp1 _).then c3
  walk_at "rd"
  obtain ⟨v3, hv3, m3⟩ := atMem (xs := [V.int up, V.int up, V.int r1, V.int mx, V.int 0]) (i := r3) (by omega) (by simp; omega)
  obtain ⟨pn, rfl, pn0, pn1⟩ : ∃ k : Int, v3 = .int k ∧ 0 ≤ k ∧ k ≤ up := by
    simp at m3
    rcases m3 with rfl | rfl | rfl | rfl
    · exact ⟨_, rfl, by omega, by omega⟩
    · exact ⟨_, rfl, by omega, by omega⟩
    · exact ⟨_, rfl, by omega, by omega⟩
    · exact ⟨_, rfl, by omega, by omega⟩
  exact ⟨_, s3, _, hv3, q _ _ pn0 pn1 C3⟩
end
end My
namespace My
open PySem L2 M
section
variable (K : PySem.W.Frag)
def spRef : Sp := fun vs H Q _ => ∃ (la : Addr) (s : Nat) (p f : Int) (rows : List Lr) (side : Nat) (r : Lr) (sv v : V) (t : Addr) (d : PyData), vs = [.ref la, sv, v] ∧ SqT K H la [.int s, .int p, .int f] ∧ LsV K H rows side sv ∧ rows[side]? = some r ∧ Dt K t H d v ∧ whl d 0 r.u = false ∧ ∀ H', Same H H' → Q (.bl true) H'
end
section
variable {P : Program} {w : World} {K : PySem.W.Frag} {mg : Str → Option Value} {base : Heap} {ns : List Int} {k : Nat}
theorem ok_law_refused {C_NoPins C_ScoreError : Addr} (F : Df K mg "_law_refused" s_law_refused ["_law_lane_here", "_law_stand", "_law_thing"]) (mc_ScoreError : mg "ScoreError" = some (.ref C_ScoreError)) (oe_ScoreError : OwnE K C_ScoreError) (hSub : ∀ C, C = C_NoPins → PySem.W.subIn K (.ref C) (.ref C_ScoreError) = some true)
    (d_lane_bowled : Dx P w K mg base k "lane_bowled" ["lane", "stand", "pins"] (spBad K C_NoPins)) (d_law_own : Dh P w K mg base k "_law_own" ["_law_e"] (spOwn C_NoPins "pins")) : Dn P w K mg base (k + 1) "_law_refused" ["_law_lane_here", "_law_stand", "_law_thing"] (spRef K) := by
  refine F.ok sc_law_refused (fun vs H Q E h => ?_) (fun f cdv A outer s H vs Q E hr h => ?_)
  · obtain ⟨la, s, p, f, rows, side, r, sv, v, t, d, rfl, _⟩ := h; rfl
  obtain ⟨la, sd, p, f, rows, side, r, sv, v, t, d, rfl, hl, hst, hrow, hd, hbad, q⟩ := h
  refine ⟨_, [some _, some _, some _, none, none], 
      (@pss_cons _ _ _ _ _ (@ps_set _ _ 3 _ _ _ _ sc_law_refused.nd rfl (Or.inl rfl) (@pe_str _ _ _ _) (by rfl) (by first | exact .inl rfl | exact .inr rfl | assumption)) 
      (@pss_cons _ _ _ _ _ (@ps_try _ _ _ _ _ _ _ _ _ _ 4 _ _ _ rfl rfl rfl rfl mc_ScoreError oe_ScoreError hSub sc_law_refused.nd rfl rfl (Or.inl rfl) (fun _ _ => (@pss_one _ _ _ (@ps_expr _ _ _ _ (@pe_callX _ _ _ _ _ _ _ _ _ _ _ _ d_lane_bowled hr rfl (@pa_u _ _ _ _ _ (@pv _ 0 _ _ (by rfl) (by first | exact Or.inl rfl | exact Or.inr (Or.inl rfl) | exact Or.inr (Or.inr rfl)) (by decide) (by decide)) (@pa_u _ _ _ _ _ (@pv _ 1 _ _ (by rfl) (by first | exact Or.inl rfl | exact Or.inr (Or.inl rfl) | exact Or.inr (Or.inr rfl)) (by decide) (by decide)) (@pa_u _ _ _ _ _ (@pv _ 2 _ _ (by rfl) (by first | exact Or.inl rfl | exact Or.inr (Or.inl rfl) | exact Or.inr (Or.inr rfl)) (by decide) (by decide)) (@pa_nil _) (by rfl)) (by rfl)) (by rfl)) (by rfl) (by decide)) (by rfl)))) (fun _ _ => (@pss_one _ _ _ (@ps_set _ _ 3 _ _ _ _ sc_law_refused.nd rfl (Or.inl rfl) (@pe_callH _ _ _ _ _ _ _ _ _ _ d_law_own (RoomH.mk hr.dp hr.un) rfl (@pa_u _ _ _ _ _ (@pv _ 4 _ _ (by rfl) (by first | exact Or.inl rfl | exact Or.inr (Or.inl rfl) | exact Or.inr (Or.inr rfl)) (by decide) (by decide)) (@pa_nil _) (by rfl)) (by rfl) (by decide)) (by rfl) (by first | exact .inl rfl | exact .inr rfl | assumption)))) (by decide)) (@pss_one _ _ _ (@ps_ret _ _ _ _ (@pe_cmpR _ _ _ _ _ _ _ _ op_eq (@pv _ 3 _ _ (by rfl) (by first | exact Or.inl rfl | exact Or.inr (Or.inl rfl) | exact Or.inr (Or.inr rfl)) (by decide) (by decide)) (@pe_str _ _ _ _) (nomark _)))))), rfl, ?_⟩
  walk_at "cl"
  walk_at "st"
  walk_at "st"
  refine ⟨la, sd, p, f, rows, side, r, sv, v, t, d, rfl, hl, hst, hrow, hd, hbad, fun H1 S1 => ⟨C_NoPins, rfl, rfl, fun ea hea => ?_⟩⟩
  walk_at "rd"
  refine ⟨ea, rfl, upd_same, fun H2 S2 => ?_⟩
  walk_at "rd"
  exact q _ ((S1.trans (same_new hea _)).trans S2)
def thg (up : Int) : List PyData := [.int (up + 1), .int (up + 1), .int (-1), .int (10 ^ 30), .bool true, .bool false, .str "1", .none, .list [.int up], .tuple [.int up], .str "", .int (up + 20)]
theorem thg_bad {up : Int} (h0 : 0 ≤ up) (h1 : up ≤ 20) : ∀ d ∈ thg up, whl d 0 up = false := by
  intro d hd
  simp only [thg, List.mem_cons, List.not_mem_nil, or_false] at hd
  rcases hd with rfl | rfl | rfl | rfl | rfl | rfl | rfl | rfl | rfl | rfl | rfl | rfl <;> simp [whl] <;> omega
theorem ok_law {fa : Addr} {fd : FuncData} (F : Fun K "law" "law" s_law fa fd) (m_range : mg "range" = none) (d_law_tape : ∀ ns, Dn P w K mg base k "_law_tape" ["_law_script"] (spTape K ns)) (d_law_draw : ∀ ns, Dn P w K mg base k "_law_draw" ["_law_tape_here", "_law_many"] (spDraw K ns))
    (d_law_lane : ∀ ns, Dn P w K mg base k "_law_lane" ["_law_tape_here"] (spLane K ns)) (d_law_ball : ∀ ns, Dn P w K mg base k "_law_ball" ["_law_tape_here", "_law_up"] (spBall K ns)) (d_lane_begun : Dn P w K mg base k "lane_begun" ["lane"] (spLBegun K)) (d_lane_bowled : Dn P w K mg base k "lane_bowled" ["lane", "stand", "pins"] (spBowl K)) (d_law_refused : Dn P w K mg base k "_law_refused" ["_law_lane_here", "_law_stand", "_law_thing"] (spRef K)) : FnOk P w K mg base CX0 (k + 1) fa fd ["_law_script"] (spLaw K) := by
  refine F.okS sc_law (fun vs H Q E h => ?_) (fun cdv A outer s H vs Q E hr h => ?_)
  · obtain ⟨a, ns, rfl, _⟩ := h; rfl
  obtain ⟨a, ns, rfl, hs, _, q⟩ := h
  replace d_law_tape := d_law_tape ns
  replace d_law_draw := d_law_draw ns
  replace d_law_lane := d_law_lane ns
  replace d_law_ball := d_law_ball ns
  refine ⟨_, [some _, none, none, none, none, none, none, none, none], 
      (@pss_cons _ _ _ _ _ (@ps_set _ _ 1 _ _ _ _ sc_law.nd rfl (Or.inl rfl) (@pe_callD _ _ _ _ _ _ _ _ _ _ d_law_tape hr rfl (@pa_u _ _ _ _ _ (@pv _ 0 _ _ (by rfl) (by first | exact Or.inl rfl | exact Or.inr (Or.inl rfl) | exact Or.inr (Or.inr rfl)) (by decide) (by decide)) (@pa_nil _) (by rfl)) (by rfl) (by decide)) (by rfl) (by first | exact .inl rfl | exact .inr rfl | assumption)) 
      (@pss_cons _ _ _ _ _ (@ps_set _ _ 2 _ _ _ _ sc_law.nd rfl (Or.inl rfl) (@pe_callD _ _ _ _ _ _ _ _ _ _ d_law_lane hr rfl (@pa_u _ _ _ _ _ (@pv _ 1 _ _ (by rfl) (by first | exact Or.inl rfl | exact Or.inr (Or.inl rfl) | exact Or.inr (Or.inr rfl)) (by decide) (by decide)) (@pa_nil _) (by rfl)) (by rfl) (by decide)) (by rfl) (by first | exact .inl rfl | exact .inr rfl | assumption)) 
      (@pss_cons _ _ _ _ _ (@ps_set _ _ 3 _ _ _ _ sc_law.nd rfl (Or.inl rfl) (@pe_callD _ _ _ _ _ _ _ _ _ _ d_lane_begun hr rfl (@pa_u _ _ _ _ _ (@pv _ 2 _ _ (by rfl) (by first | exact Or.inl rfl | exact Or.inr (Or.inl rfl) | exact Or.inr (Or.inr rfl)) (by decide) (by decide)) (@pa_nil _) (by rfl)) (by rfl) (by decide)) (by rfl) (by first | exact .inl rfl | exact .inr rfl | assumption)) 
      (@pss_cons _ _ _ _ _ (@ps_for _ _ _ _ _ _ _ _ PassesOwn.never rfl (@pi_range1 _ _ _ _ _ _ rfl m_range (@pa_u _ _ _ _ _ (@pe_op _ _ _ _ _ _ _ _ op_add (@pe_int _ _ _ _) (@pe_callD _ _ _ _ _ _ _ _ _ _ d_law_draw hr rfl (@pa_u _ _ _ _ _ (@pv _ 1 _ _ (by rfl) (by first | exact Or.inl rfl | exact Or.inr (Or.inl rfl) | exact Or.inr (Or.inr rfl)) (by decide) (by decide)) (@pa_u _ _ _ _ _ (@pe_int _ _ _ _) (@pa_nil _) (by rfl)) (by rfl)) (by rfl) (by decide))) (@pa_nil _) (by rfl)) (by rfl)) (@pg_name _ _ 4 _ sc_law.nd rfl (Or.inl rfl) (by first | exact .inl rfl | exact .inr rfl | assumption)) 
      (@pss_cons _ _ _ _ _ (@ps_set _ _ 5 _ _ _ _ sc_law.nd rfl (Or.inl rfl) (@pe_ix _ _ _ _ _ _ _ ix_tup (@pe_ix _ _ _ _ _ _ _ ix_tup (@pe_ix _ _ _ _ _ _ _ ix_tup (@pv _ 3 _ _ (by rfl) (by first | exact Or.inl rfl | exact Or.inr (Or.inl rfl) | exact Or.inr (Or.inr rfl)) (by decide) (by decide)) (@pe_int _ _ _ _) (fun _ _ => rfl)) (@pe_ix _ _ _ _ _ _ _ ix_tup (@pv _ 3 _ _ (by rfl) (by first | exact Or.inl rfl | exact Or.inr (Or.inl rfl) | exact Or.inr (Or.inr rfl)) (by decide) (by decide)) (@pe_int _ _ _ _) (fun _ _ => rfl)) (fun _ _ => rfl)) (@pe_int _ _ _ _) (fun _ _ => rfl)) (by rfl) (by first | exact .inl rfl | exact .inr rfl | assumption)) 
      (@pss_cons _ _ _ _ _ (@ps_set _ _ 6 _ _ _ _ sc_law.nd rfl (Or.inl rfl) (@pe_lst _ _ _ _ (@pa_u _ _ _ _ _ (@pe_op _ _ _ _ _ _ _ _ op_add (@pv _ 5 _ _ (by rfl) (by first | exact Or.inl rfl | exact Or.inr (Or.inl rfl) | exact Or.inr (Or.inr rfl)) (by decide) (by decide)) (@pe_int _ _ _ _)) (@pa_u _ _ _ _ _ (@pe_op _ _ _ _ _ _ _ _ op_add (@pv _ 5 _ _ (by rfl) (by first | exact Or.inl rfl | exact Or.inr (Or.inl rfl) | exact Or.inr (Or.inr rfl)) (by decide) (by decide)) (@pe_int _ _ _ _)) (@pa_u _ _ _ _ _ (@pe_un _ _ _ _ _ _ un_neg (@pe_int _ _ _ _)) (@pa_u _ _ _ _ _ (@pe_op _ _ _ _ _ _ _ _ op_pow (@pe_int _ _ _ _) (@pe_int _ _ _ _)) (@pa_u _ _ _ _ _ (@pe_bl _ _ _ _) (@pa_u _ _ _ _ _ (@pe_bl _ _ _ _) (@pa_u _ _ _ _ _ (@pe_str _ _ _ _) (@pa_u _ _ _ _ _ (@pe_non _ _ _) (@pa_u _ _ _ _ _ (@pe_lst _ _ _ _ (@pa_u _ _ _ _ _ (@pv _ 5 _ _ (by rfl) (by first | exact Or.inl rfl | exact Or.inr (Or.inl rfl) | exact Or.inr (Or.inr rfl)) (by decide) (by decide)) (@pa_nil _) (by rfl))) (@pa_u _ _ _ _ _ (@pe_tup _ _ _ _ _ (@pa_u _ _ _ _ _ (@pv _ 5 _ _ (by rfl) (by first | exact Or.inl rfl | exact Or.inr (Or.inl rfl) | exact Or.inr (Or.inr rfl)) (by decide) (by decide)) (@pa_nil _) (by rfl))) (@pa_u _ _ _ _ _ (@pe_str _ _ _ _) (@pa_u _ _ _ _ _ (@pe_op _ _ _ _ _ _ _ _ op_add (@pv _ 5 _ _ (by rfl) (by first | exact Or.inl rfl | exact Or.inr (Or.inl rfl) | exact Or.inr (Or.inr rfl)) (by decide) (by decide)) (@pe_int _ _ _ _)) (@pa_nil _) (by rfl)) (by rfl)) (by rfl)) (by rfl)) (by rfl)) (by rfl)) (by rfl)) (by rfl)) (by rfl)) (by rfl)) (by rfl)) (by rfl))) (by rfl) (by first | exact .inl rfl | exact .inr rfl | assumption)) 
      (@pss_cons _ _ _ _ _ (@ps_set _ _ 7 _ _ _ _ sc_law.nd rfl (Or.inl rfl) (@pe_callD _ _ _ _ _ _ _ _ _ _ d_law_ball hr rfl (@pa_u _ _ _ _ _ (@pv _ 1 _ _ (by rfl) (by first | exact Or.inl rfl | exact Or.inr (Or.inl rfl) | exact Or.inr (Or.inr rfl)) (by decide) (by decide)) (@pa_u _ _ _ _ _ (@pv _ 5 _ _ (by rfl) (by first | exact Or.inl rfl | exact Or.inr (Or.inl rfl) | exact Or.inr (Or.inr rfl)) (by decide) (by decide)) (@pa_nil _) (by rfl)) (by rfl)) (by rfl) (by decide)) (by rfl) (by first | exact .inl rfl | exact .inr rfl | assumption)) 
      (@pss_cons _ _ _ _ _ (@ps_set _ _ 8 _ _ _ _ sc_law.nd rfl (Or.inl rfl) (@pe_callD _ _ _ _ _ _ _ _ _ _ d_lane_bowled hr rfl (@pa_u _ _ _ _ _ (@pv _ 2 _ _ (by rfl) (by first | exact Or.inl rfl | exact Or.inr (Or.inl rfl) | exact Or.inr (Or.inr rfl)) (by decide) (by decide)) (@pa_u _ _ _ _ _ (@pv _ 3 _ _ (by rfl) (by first | exact Or.inl rfl | exact Or.inr (Or.inl rfl) | exact Or.inr (Or.inr rfl)) (by decide) (by decide)) (@pa_u _ _ _ _ _ (@pv _ 7 _ _ (by rfl) (by first | exact Or.inl rfl | exact Or.inr (Or.inl rfl) | exact Or.inr (Or.inr rfl)) (by decide) (by decide)) (@pa_nil _) (by rfl)) (by rfl)) (by rfl)) (by rfl) (by decide)) (by rfl) (by first | exact .inl rfl | exact .inr rfl | assumption)) 
      (@pss_cons _ _ _ _ _ (@ps_if _ _ _ _ _ _ _ _ (@PW.pt _ _ _ (@pw_or _ _ _ _ _ _ _ (@pt_not _ _ _ _ (@pt_val _ _ _ (@pe_callD _ _ _ _ _ _ _ _ _ _ d_law_refused hr rfl (@pa_u _ _ _ _ _ (@pv _ 2 _ _ (by rfl) (by first | exact Or.inl rfl | exact Or.inr (Or.inl rfl) | exact Or.inr (Or.inr rfl)) (by decide) (by decide)) (@pa_u _ _ _ _ _ (@pv _ 3 _ _ (by rfl) (by first | exact Or.inl rfl | exact Or.inr (Or.inl rfl) | exact Or.inr (Or.inr rfl)) (by decide) (by decide)) (@pa_u _ _ _ _ _ (@pe_ix _ _ _ _ _ _ _ ix_list (@pv _ 6 _ _ (by rfl) (by first | exact Or.inl rfl | exact Or.inr (Or.inl rfl) | exact Or.inr (Or.inr rfl)) (by decide) (by decide)) (@pe_callD _ _ _ _ _ _ _ _ _ _ d_law_draw hr rfl (@pa_u _ _ _ _ _ (@pv _ 1 _ _ (by rfl) (by first | exact Or.inl rfl | exact Or.inr (Or.inl rfl) | exact Or.inr (Or.inr rfl)) (by decide) (by decide)) (@pa_u _ _ _ _ _ (@pe_int _ _ _ _) (@pa_nil _) (by rfl)) (by rfl)) (by rfl) (by decide)) (fun _ _ => rfl)) (@pa_nil _) (by rfl)) (by rfl)) (by rfl)) (by rfl) (by decide)) (by intro _; rfl))) (@pw_or1 _ _ _ _ (@pt_not _ _ _ _ (@pt_val _ _ _ (@pe_callD _ _ _ _ _ _ _ _ _ _ d_law_refused hr rfl (@pa_u _ _ _ _ _ (@pv _ 2 _ _ (by rfl) (by first | exact Or.inl rfl | exact Or.inr (Or.inl rfl) | exact Or.inr (Or.inr rfl)) (by decide) (by decide)) (@pa_u _ _ _ _ _ (@pv _ 3 _ _ (by rfl) (by first | exact Or.inl rfl | exact Or.inr (Or.inl rfl) | exact Or.inr (Or.inr rfl)) (by decide) (by decide)) (@pa_u _ _ _ _ _ (@pe_op _ _ _ _ _ _ _ _ op_add (@pv _ 5 _ _ (by rfl) (by first | exact Or.inl rfl | exact Or.inr (Or.inl rfl) | exact Or.inr (Or.inr rfl)) (by decide) (by decide)) (@pe_int _ _ _ _)) (@pa_nil _) (by rfl)) (by rfl)) (by rfl)) (by rfl) (by decide)) (by intro _; rfl)))))) (@pss_one _ _ _ (@ps_ret _ _ _ _ (@pe_bl _ _ _ _))) (@pss_nil _)) 
      (@pss_cons _ _ _ _ _ (@ps_if _ _ _ _ _ _ _ _ (@PW.pt _ _ _ (@pw_or _ _ _ _ _ _ _ (@pt_cmpR _ _ _ _ _ _ _ _ (op_neD hr) (@pe_callD _ _ _ _ _ _ _ _ _ _ d_lane_bowled hr rfl (@pa_u _ _ _ _ _ (@pv _ 2 _ _ (by rfl) (by first | exact Or.inl rfl | exact Or.inr (Or.inl rfl) | exact Or.inr (Or.inr rfl)) (by decide) (by decide)) (@pa_u _ _ _ _ _ (@pv _ 3 _ _ (by rfl) (by first | exact Or.inl rfl | exact Or.inr (Or.inl rfl) | exact Or.inr (Or.inr rfl)) (by decide) (by decide)) (@pa_u _ _ _ _ _ (@pv _ 7 _ _ (by rfl) (by first | exact Or.inl rfl | exact Or.inr (Or.inl rfl) | exact Or.inr (Or.inr rfl)) (by decide) (by decide)) (@pa_nil _) (by rfl)) (by rfl)) (by rfl)) (by rfl) (by decide)) (@pv _ 8 _ _ (by rfl) (by first | exact Or.inl rfl | exact Or.inr (Or.inl rfl) | exact Or.inr (Or.inr rfl)) (by decide) (by decide)) (nomark _)) (@pw_or1 _ _ _ _ (@pt_cmpR _ _ _ _ _ _ _ _ op_notIn_seq (@pe_ix _ _ _ _ _ _ _ ix_tup (@pe_callD _ _ _ _ _ _ _ _ _ _ d_lane_bowled hr rfl (@pa_u _ _ _ _ _ (@pv _ 2 _ _ (by rfl) (by first | exact Or.inl rfl | exact Or.inr (Or.inl rfl) | exact Or.inr (Or.inr rfl)) (by decide) (by decide)) (@pa_u _ _ _ _ _ (@pv _ 3 _ _ (by rfl) (by first | exact Or.inl rfl | exact Or.inr (Or.inl rfl) | exact Or.inr (Or.inr rfl)) (by decide) (by decide)) (@pa_u _ _ _ _ _ (@pv _ 5 _ _ (by rfl) (by first | exact Or.inl rfl | exact Or.inr (Or.inl rfl) | exact Or.inr (Or.inr rfl)) (by decide) (by decide)) (@pa_nil _) (by rfl)) (by rfl)) (by rfl)) (by rfl) (by decide)) (@pe_int _ _ _ _) (fun _ _ => rfl)) (@pe_tup _ _ _ _ _ (@pa_u _ _ _ _ _ (@pe_bl _ _ _ _) (@pa_u _ _ _ _ _ (@pe_bl _ _ _ _) (@pa_nil _) (by rfl)) (by rfl))) rfl)))) (@pss_one _ _ _ (@ps_ret _ _ _ _ (@pe_bl _ _ _ _))) (@pss_nil _)) 
      (@pss_cons _ _ _ _ _ (@ps_set _ _ 3 _ _ _ _ sc_law.nd rfl (Or.inl rfl) (@pe_ix _ _ _ _ _ _ _ ix_tup (@pv _ 8 _ _ (by rfl) (by first | exact Or.inl rfl | exact Or.inr (Or.inl rfl) | exact Or.inr (Or.inr rfl)) (by decide) (by decide)) (@pe_int _ _ _ _) (fun _ _ => rfl)) (by rfl) (by first | exact .inl rfl | exact .inr rfl | assumption)) (@pss_one _ _ _ (@ps_if _ _ _ _ _ _ _ _ (@pt_val _ _ _ (@pe_ix _ _ _ _ _ _ _ ix_tup (@pv _ 8 _ _ (by rfl) (by first | exact Or.inl rfl | exact Or.inr (Or.inl rfl) | exact Or.inr (Or.inr rfl)) (by decide) (by decide)) (@pe_int _ _ _ _) (fun _ _ => rfl)) (by intro _; rfl)) (@pss_one _ _ _ (@ps_set _ _ 3 _ _ _ _ sc_law.nd rfl (Or.inl rfl) (@pe_callD _ _ _ _ _ _ _ _ _ _ d_lane_begun hr rfl (@pa_u _ _ _ _ _ (@pv _ 2 _ _ (by rfl) (by first | exact Or.inl rfl | exact Or.inr (Or.inl rfl) | exact Or.inr (Or.inr rfl)) (by decide) (by decide)) (@pa_nil _) (by rfl)) (by rfl) (by decide)) (by rfl) (by first | exact .inl rfl | exact .inr rfl | assumption))) (@pss_nil _)))))))))) (by intro _; rfl)) (@pss_one _ _ _ (@ps_ret _ _ _ _ (@pe_bl _ _ _ _))))))), rfl, ?_⟩
  walk_at "cl"
  walk_at "st"
  refine ⟨a, rfl, hs, fun t H1 T => ?_⟩
  walk_at "st"
  refine ⟨t, rfl, T, fun la sd p f H2 sd0 sd1 p0 p1 f0 f1 c2 hla => ?_⟩
  walk_at "st"
  refine ⟨la, sd, p, f, rfl, hla, sd0, sd1, fun sa H3 S3 hst => ?_⟩
  have hla3 := Same.sqT hla S3
  have c3 := c2.same S3
  walk_at "st"
  refine draw_of c3.tape fun r4 H4 r40 r41 c4 => ?_
  walk_at "rd"
  refine ⟨_, rfl, by omega, by omega, rng_of (fun i σ' H' => ∃ (rows : List Lr) (side : Nat) (sv : V) (x4 x5 x6 x7 x8 : Option V), σ' = [some (.ref a), some (.ref t), some (.ref la), some sv, x4, x5, x6, x7, x8] ∧ Tape K ns t H' ∧ SqT K H' la [.int sd, .int p, .int f] ∧ LsV K H' rows side sv ∧ rows.length = sd ∧ side < sd ∧ ∀ q ∈ rows, Up p q) ⟨_, 0, _, _, _, _, _, _, rfl, c4.tape, c4.ext.sqT hla3, hst.tk c4.ext.tk, by simp, by omega, fun q hq => ?_⟩ ?_ ?_⟩
  · rw [List.eq_of_mem_replicate hq]
    exact ⟨by show 0 ≤ p; omega, Int.le_refl _⟩
  · rintro Pv hP i _ H5 hi ⟨rows, side, sv, x4, x5, x6, x7, x8, rfl, T5, hl5, hst5, hrl, hside, hup⟩
    obtain ⟨ba, ra, us, rfl, hsa, hra, hru⟩ := ls_inv hst5
    have hrow : rows[side]? = some rows[side] := List.getElem?_eq_getElem (by omega)
    obtain ⟨rv, hrv, hrr⟩ := hru.at hrow
    obtain ⟨pa, rfl, hpa⟩ := rw_inv hrr
    have hur := hup _ (List.mem_of_getElem? hrow)
    generalize rows[side] = r at hrow hrr hpa hur
    obtain ⟨u0, u1⟩ := hur
    walk_at "st"
    refine ⟨_, hsa, _, rfl, _, hsa, _, rfl, ?_⟩
    walk_at "rd"
    refine ⟨_, hra, _, atI_nat hrv, ?_⟩
    walk_at "rd"
    refine ⟨_, hpa, _, rfl, ?_⟩
    generalize hup' : r.u = up at u0 u1 hpa ⊢
    walk_at "st"
    refine ⟨⟨by decide, by decide, by decide⟩, small6 (by simp), fun q1 hq1 => ⟨small6 (by simp), fun q2 hq2 => ⟨small6 (by simp), fun q3 hq3 => ?_⟩⟩⟩
    have s1 := same_new hq1 (.lst [V.int up])
    have s2 := same_new hq2 (.tup [V.int up])
    have s3 := same_new hq3 (.lst [V.int (up + 1), V.int (up + 1), V.int (-1), V.int (10 ^ Int.toNat 30), V.bl true, V.bl false, V.str "1", V.non, V.ref q1, V.ref q2, V.str "", V.int (up + 20)])
    have S3 := (s1.trans s2).trans s3
    have T3 : Tape K ns t _ := T5.same S3
    have n1 : q1 ≠ t := T5.ne hq1
    have n3 : q3 ≠ t := (T5.same (s1.trans s2)).ne hq3
    have l3 : (upd (upd (upd H5 q1 (.lst [V.int up])) q2 (.tup [V.int up])) q3 (.lst [V.int (up + 1), V.int (up + 1), V.int (-1), V.int (10 ^ Int.toNat 30), V.bl true, V.bl false, V.str "1", V.non, V.ref q1, V.ref q2, V.str "", V.int (up + 20)])) q3 = some (.lst [V.int (up + 1), V.int (up + 1), V.int (-1), V.int (10 ^ Int.toNat 30), V.bl true, V.bl false, V.str "1", V.non, V.ref q1, V.ref q2, V.str "", V.int (up + 20)]) := upd_same
    have d3 : DtL K t (upd (upd (upd H5 q1 (.lst [V.int up])) q2 (.tup [V.int up])) q3 (.lst [V.int (up + 1), V.int (up + 1), V.int (-1), V.int (10 ^ Int.toNat 30), V.bl true, V.bl false, V.str "1", V.non, V.ref q1, V.ref q2, V.str "", V.int (up + 20)])) (thg up) [V.int (up + 1), V.int (up + 1), V.int (-1), V.int (10 ^ Int.toNat 30), V.bl true, V.bl false, V.str "1", V.non, V.ref q1, V.ref q2, V.str "", V.int (up + 20)] :=
      .cons (.int _) (.cons (.int _) (.cons (.int _) (.cons (.int _) (.cons (.bl _) (.cons (.bl _) (.cons (.str (by decide +kernel)) (.cons .non (.cons (.lst n1 (.of (s3 _ _ (s2 _ _ upd_same))) (.cons (.int _) .nil)) (.cons (.tup (.of (s3 _ _ upd_same)) (.cons (.int _) .nil)) (.cons (.str (by decide +kernel)) (.cons (.int _) .nil)))))))))))
    generalize upd (upd (upd H5 q1 (.lst [V.int up])) q2 (.tup [V.int up])) q3 (.lst [V.int (up + 1), V.int (up + 1), V.int (-1), V.int (10 ^ Int.toNat 30), V.bl true, V.bl false, V.str "1", V.non, V.ref q1, V.ref q2, V.str "", V.int (up + 20)]) = H6 at S3 T3 l3 d3 ⊢
    generalize hxs : [V.int (up + 1), V.int (up + 1), V.int (-1), V.int (10 ^ Int.toNat 30), V.bl true, V.bl false, V.str "1", V.non, V.ref q1, V.ref q2, V.str "", V.int (up + 20)] = xs at l3 d3
    clear s1 s2 s3 hxs
    walk_at "st"
    refine ⟨t, up, rfl, T3, u0, by omega, fun kk H7 k0 k1 c7 => ?_⟩
    have t7 : Tk K H5 H7 := S3.tk.trans c7.ext.tk
    have l7 : SqL K H7 q3 xs := c7.ext.sqL n3 (.of l3)
    have d7 := d3.on c7.ext
    have T7 := c7.tape
    clear c7 l3 d3 T3 S3
    have hl7 := t7 _ _ hl5
    have hst7 := hst5.tk t7
    walk_at "st"
    refine ⟨la, sd, p, f, rows, side, r, .ref ba, kk, rfl, hl7, hst7, hrl, sd1, hrow, k0, by omega, by omega, fun da dv H8 S8 hda hdv => ?_⟩
    walk_at "st"
    refine draw_of (T7.same S8) fun r9 H9 r90 r91 c9 => ?_
    have l9 : SqL K H9 q3 xs := c9.ext.sqL n3 (S8.seq l7)
    have d9 := (d7.on S8.ext).on c9.ext
    have t9 : Tk K H7 H9 := S8.tk.trans c9.ext.tk
    obtain ⟨v9, e9, hv9, hm9, hd9⟩ := menu (i := r9) d9 r90 (by simp [thg]; omega)
    walk_at "rd"
    refine ⟨_, l9, _, hv9, ?_⟩
    walk_at "rd"
    refine ⟨la, sd, p, f, rows, side, r, .ref ba, v9, t, e9, rfl, t9 _ _ hl7, hst7.tk t9, hrow, hd9, by rw [hup']; exact thg_bad u0 (by omega) _ (List.mem_of_getElem? hm9), fun H10 S10 => ?_⟩
    walk_at "rd"
    refine ⟨la, sd, p, f, rows, side, r, .ref ba, _, t, .int (up + 1), rfl, S10.tk _ _ (t9 _ _ hl7), (hst7.tk t9).tk S10.tk, hrow, .int _, by rw [hup']; simp [whl]; omega, fun H11 S11 => ?_⟩
    have t11 : Tk K H7 H11 := t9.trans (S10.tk.trans S11.tk)
    have t8 : Tk K H8 H11 := c9.ext.tk.trans (S10.tk.trans S11.tk)
    have T11 := (c9.tape.same S10).same S11
    have hl11 := t11 _ _ hl7
    have hst11 := hst7.tk t11
    have hda11 := t8 _ _ hda
    have hdv11 := hdv.tk t8
    clear t9 t8 S10 S11 c9 d9 d7 l9 l7 hd9 hv9 hm9 hl7 hst7 hda hdv S8 T7 hl5 hst5 T5
    walk_at "st"
    refine ⟨la, sd, p, f, rows, side, r, .ref ba, kk, rfl, hl11, hst11, hrl, sd1, hrow, k0, by omega, by omega, fun da2 dv2 H12 S12 hda2 hdv2 => ?_⟩
    refine ⟨0, .tuple [encLs (rowsB p f rows side kk) (sideB p f rows side kk), .bool (overB f (rowsB p f rows side kk))], .tuple [encLs (rowsB p f rows side kk) (sideB p f rows side kk), .bool (overB f (rowsB p f rows side kk))], .tup hda2 (.cons hdv2 (.cons (.bl _) .nil)), .tup (Same.sqT hda11 S12) (.cons (hdv11.same S12) (.cons (.bl _) .nil)), ?_, ?_⟩
    · have := dep_encLs (rowsB p f rows side kk) (sideB p f rows side kk)
      simp only [PyData.depth, PyData.depthAll, Nat.min_self]
      omega
    walk_at "rd"
    rw [show PyData.eqv (.tuple [encLs (rowsB p f rows side kk) (sideB p f rows side kk), .bool (overB f (rowsB p f rows side kk))]) (.tuple [encLs (rowsB p f rows side kk) (sideB p f rows side kk), .bool (overB f (rowsB p f rows side kk))]) = true by simp [PyData.eqv, PyData.eqvAll, eqv_encLs]]
    walk_at "rd"
    refine ⟨la, sd, p, f, rows, side, r, .ref ba, up, rfl, Same.sqT hl11 S12, hst11.same S12, hrl, sd1, hrow, u0, by omega, by omega, fun da3 dv3 H13 S13 hda3 hdv3 => ?_⟩
    walk_at "rd"
    refine ⟨_, hda3, _, rfl, small6 (by simp), fun q4 hq4 => ?_⟩
    have s4 := same_new hq4 (.tup [V.bl true, V.bl false])
    refine ⟨q4, _, rfl, .inr (.of upd_same), rfl, by simp [flatV], ?_⟩
    have hin : inV (V.bl (overB f (rowsB p f rows side up))) [V.bl true, V.bl false] = true := by cases overB f (rowsB p f rows side up) <;> rfl
    rw [hin]
    have S14 := (S12.trans S13).trans s4
    generalize upd H13 q4 (.tup [V.bl true, V.bl false]) = H14 at S14 s4 ⊢
    have hda14 := Same.sqT hda11 S14
    have hdv14 := hdv11.same S14
    have hl14 := Same.sqT hl11 S14
    have T14 := T11.same S14
    walk_at "st"
    refine ⟨_, hda14, _, rfl, ?_⟩
    walk_at "rd"
    refine ⟨_, hda14, _, rfl, _, rfl, ?_⟩
    refine ite2 (fun c => ?_) (fun c => ?_)
    · refine ⟨la, sd, p, f, rfl, hl14, sd0, sd1, fun sa2 H15 S15 hst15 => ?_⟩
      walk_at "rd"
      refine hP _ _ _ ⟨_, 0, _, _, _, _, _, _, rfl, T14.same S15, Same.sqT hl14 S15, hst15, by simp, by omega, fun q hq => ?_⟩
      rw [List.eq_of_mem_replicate hq]
      exact ⟨by show 0 ≤ p; omega, Int.le_refl _⟩
    · exact hP _ _ _ ⟨_, _, _, _, _, _, _, _, rfl, T14, hl14, hdv14, by rw [rowsB_len]; exact hrl, by have := sideB_lt (pins := p) (frames := f) (k := kk) (show side < rows.length by omega); omega, rowsB_up (by omega) hrow hup k0 (by omega)⟩
  · rintro _ H5 ⟨rows, side, sv, x4, x5, x6, x7, x8, rfl, _⟩
    walk_at "rd"
    exact q _
end
structure Txt (K : PySem.W.Frag) (mg : Str → Option Value) (C_ScoreError : Addr) (C_NoThrow : Addr) (C_NoPins : Addr) (C_NoSide : Addr) (C_Over : Addr) (C_NoGame : Addr) (C_NoDeed : Addr) (C_TooMany : Addr) (C_NoLine : Addr) (C_BadWord : Addr) (C_Falls : Addr) : Prop where
  F_is_whole : Df K mg "is_whole" s_is_whole ["thing", "least", "most"]
  F_lane_begun : Df K mg "lane_begun" s_lane_begun ["lane"]
  F_lane_bowled : Df K mg "lane_bowled" s_lane_bowled ["lane", "stand", "pins"]
  F_frame_ball : Df K mg "frame_ball" s_frame_ball ["lane", "row", "pins"]
  F_earned_by : Df K mg "earned_by" s_earned_by ["ball", "up"]
  F_extra_ball : Df K mg "extra_ball" s_extra_ball ["lane", "row", "pins"]
  F_is_over : Df K mg "is_over" s_is_over ["lane", "rows"]
  F_law_tape : Df K mg "_law_tape" s_law_tape ["_law_script"]
  F_law_draw : Df K mg "_law_draw" s_law_draw ["_law_tape_here", "_law_many"]
  F_law_lane : Df K mg "_law_lane" s_law_lane ["_law_tape_here"]
  F_law_ball : Df K mg "_law_ball" s_law_ball ["_law_tape_here", "_law_up"]
  F_law_own : Df K mg "_law_own" s_law_own ["_law_e"]
  F_law_refused : Df K mg "_law_refused" s_law_refused ["_law_lane_here", "_law_stand", "_law_thing"]
  m_ValueError : mg "ValueError" = none
  m_all : mg "all" = none
  m_bool : mg "bool" = none
  m_int : mg "int" = none
  m_isinstance : mg "isinstance" = none
  m_len : mg "len" = none
  m_max : mg "max" = none
  m_range : mg "range" = none
  mc_ScoreError : mg "ScoreError" = some (.ref C_ScoreError)
  oe_ScoreError : OwnE K C_ScoreError
  g_NoThrow : Gc mg "NoThrow" (.ref C_NoThrow)
  mc_NoPins : mg "NoPins" = some (.ref C_NoPins)
  g_NoPins : Gc mg "NoPins" (.ref C_NoPins)
  oe_NoPins : OwnE K C_NoPins
  er_NoPins : ErrC K C_NoPins
  sS_NoPins_ScoreError : PySem.W.subIn K (.ref C_NoPins) (.ref C_ScoreError) = some true
  ki_NoPins_NoThrow : PySem.W.kitOne K (.ref C_NoPins) (.ref C_NoThrow) = some false
  ki_NoPins_NoPins : PySem.W.kitOne K (.ref C_NoPins) (.ref C_NoPins) = some true
  ki_NoPins_NoSide : PySem.W.kitOne K (.ref C_NoPins) (.ref C_NoSide) = some false
  ki_NoPins_Over : PySem.W.kitOne K (.ref C_NoPins) (.ref C_Over) = some false
  ki_NoPins_NoGame : PySem.W.kitOne K (.ref C_NoPins) (.ref C_NoGame) = some false
  ki_NoPins_NoDeed : PySem.W.kitOne K (.ref C_NoPins) (.ref C_NoDeed) = some false
  ki_NoPins_TooMany : PySem.W.kitOne K (.ref C_NoPins) (.ref C_TooMany) = some false
  ki_NoPins_NoLine : PySem.W.kitOne K (.ref C_NoPins) (.ref C_NoLine) = some false
  ki_NoPins_BadWord : PySem.W.kitOne K (.ref C_NoPins) (.ref C_BadWord) = some false
  ki_NoPins_Falls : PySem.W.kitOne K (.ref C_NoPins) (.ref C_Falls) = some false
  kv_NoPins : PySem.W.kitOne K (.ref C_NoPins) (.type "ValueError") = some true
  g_NoSide : Gc mg "NoSide" (.ref C_NoSide)
  g_Over : Gc mg "Over" (.ref C_Over)
  g_NoGame : Gc mg "NoGame" (.ref C_NoGame)
  g_NoDeed : Gc mg "NoDeed" (.ref C_NoDeed)
  g_TooMany : Gc mg "TooMany" (.ref C_TooMany)
  g_NoLine : Gc mg "NoLine" (.ref C_NoLine)
  g_BadWord : Gc mg "BadWord" (.ref C_BadWord)
  g_Falls : Gc mg "Falls" (.ref C_Falls)
theorem txt_mk {K : PySem.W.Frag} {h : Heap} {mg : Str → Option Value} {fa : Addr} (X : K.In h) (G : h.Ns mainGlobals mg) (hfa : mg "law" = some (.ref fa))
    {f1 : Addr} {od1 an1 : Option Addr} {sl1 : Array (Option Value)} {oc1 kV1 dc1 pm1 cd1 ct1 : Value}
    {f2 : Addr} {od2 an2 : Option Addr} {sl2 : Array (Option Value)} {oc2 kV2 dc2 pm2 cd2 ct2 : Value}
    {f3 : Addr} {od3 an3 : Option Addr} {sl3 : Array (Option Value)} {oc3 kV3 dc3 pm3 cd3 ct3 : Value}
    {f4 : Addr} {od4 an4 : Option Addr} {sl4 : Array (Option Value)} {oc4 kV4 dc4 pm4 cd4 ct4 : Value}
    {f5 : Addr} {od5 an5 : Option Addr} {sl5 : Array (Option Value)} {oc5 kV5 dc5 pm5 cd5 ct5 : Value}
    {f6 : Addr} {od6 an6 : Option Addr} {sl6 : Array (Option Value)} {oc6 kV6 dc6 pm6 cd6 ct6 : Value}
    {f7 : Addr} {od7 an7 : Option Addr} {sl7 : Array (Option Value)} {oc7 kV7 dc7 pm7 cd7 ct7 : Value}
    {f8 : Addr} {od8 an8 : Option Addr} {sl8 : Array (Option Value)} {oc8 kV8 dc8 pm8 cd8 ct8 : Value}
    {f9 : Addr} {od9 an9 : Option Addr} {sl9 : Array (Option Value)} {oc9 kV9 dc9 pm9 cd9 ct9 : Value}
    {f10 : Addr} {od10 an10 : Option Addr} {sl10 : Array (Option Value)} {oc10 kV10 dc10 pm10 cd10 ct10 : Value}
    {f11 : Addr} {od11 an11 : Option Addr} {sl11 : Array (Option Value)} {oc11 kV11 dc11 pm11 cd11 ct11 : Value}
    {f12 : Addr} {od12 an12 : Option Addr} {sl12 : Array (Option Value)} {oc12 kV12 dc12 pm12 cd12 ct12 : Value}
    {f13 : Addr} {od13 an13 : Option Addr} {sl13 : Array (Option Value)} {oc13 kV13 dc13 pm13 cd13 ct13 : Value}
    {f14 : Addr} {od14 an14 : Option Addr} {sl14 : Array (Option Value)} {oc14 kV14 dc14 pm14 cd14 ct14 : Value}
    {C_ScoreError : Addr}
    {C_NoThrow : Addr}
    {C_NoPins : Addr}
    {C_NoSide : Addr}
    {C_Over : Addr}
    {C_NoGame : Addr}
    {C_NoDeed : Addr}
    {C_TooMany : Addr}
    {C_NoLine : Addr}
    {C_BadWord : Addr}
    {C_Falls : Addr}
    {cdNoThrow : ClassData}
    {cdNoPins : ClassData}
    {cdNoSide : ClassData}
    {cdOver : ClassData}
    {cdNoGame : ClassData}
    {cdNoDeed : ClassData}
    {cdTooMany : ClassData}
    {cdNoLine : ClassData}
    {cdBadWord : ClassData}
    {cdFalls : ClassData}
    (aX_ScoreError : PySem.W.nsIn K mainGlobals "ScoreError" = some (some (.ref C_ScoreError)))
    (aX_NoThrow : PySem.W.nsIn K mainGlobals "NoThrow" = some (some (.ref C_NoThrow)))
    (aX_NoPins : PySem.W.nsIn K mainGlobals "NoPins" = some (some (.ref C_NoPins)))
    (aX_NoSide : PySem.W.nsIn K mainGlobals "NoSide" = some (some (.ref C_NoSide)))
    (aX_Over : PySem.W.nsIn K mainGlobals "Over" = some (some (.ref C_Over)))
    (aX_NoGame : PySem.W.nsIn K mainGlobals "NoGame" = some (some (.ref C_NoGame)))
    (aX_NoDeed : PySem.W.nsIn K mainGlobals "NoDeed" = some (some (.ref C_NoDeed)))
    (aX_TooMany : PySem.W.nsIn K mainGlobals "TooMany" = some (some (.ref C_TooMany)))
    (aX_NoLine : PySem.W.nsIn K mainGlobals "NoLine" = some (some (.ref C_NoLine)))
    (aX_BadWord : PySem.W.nsIn K mainGlobals "BadWord" = some (some (.ref C_BadWord)))
    (aX_Falls : PySem.W.nsIn K mainGlobals "Falls" = some (some (.ref C_Falls)))
    (eX_ScoreError : PySem.W.excIn K C_ScoreError veTail "ValueError.__new__" = true)
    (cd_NoThrow : PySem.W.clsIn K C_NoThrow = some cdNoThrow) (ty_NoThrow : PySem.W.typeIn K (.ref C_NoThrow) = some (.type "type"))
    (eX_NoPins : PySem.W.excIn K C_NoPins veTail "ValueError.__new__" = true)
    (f1_NoPins : PySem.W.findIn K (.ref C_NoPins) "__getattribute__" = some (some (.builtin "BaseException.__getattribute__"))) (f2_NoPins : PySem.W.findIn K (.ref C_NoPins) "__getattr__" = some none) (f3_NoPins : PySem.W.findIn K (.ref C_NoPins) "__class__" = some (some (.builtin "object.__class__"))) (f4_NoPins : PySem.W.mroIn K C_NoPins (.type "object") = some true) (f5_NoPins : PySem.W.subIn K (.ref C_NoPins) (.type "BaseException") = some true)
    (cd_NoPins : PySem.W.clsIn K C_NoPins = some cdNoPins) (ty_NoPins : PySem.W.typeIn K (.ref C_NoPins) = some (.type "type"))
    (sS_NoPins_ScoreError : PySem.W.subIn K (.ref C_NoPins) (.ref C_ScoreError) = some true)
    (su_NoPins_NoThrow : PySem.W.subIn K (.ref C_NoPins) (.ref C_NoThrow) = some false)
    (ne_NoPins_NoThrow : C_NoPins ≠ C_NoThrow)
    (su_NoPins_NoPins : PySem.W.subIn K (.ref C_NoPins) (.ref C_NoPins) = some true)
    (su_NoPins_NoSide : PySem.W.subIn K (.ref C_NoPins) (.ref C_NoSide) = some false)
    (ne_NoPins_NoSide : C_NoPins ≠ C_NoSide)
    (su_NoPins_Over : PySem.W.subIn K (.ref C_NoPins) (.ref C_Over) = some false)
    (ne_NoPins_Over : C_NoPins ≠ C_Over)
    (su_NoPins_NoGame : PySem.W.subIn K (.ref C_NoPins) (.ref C_NoGame) = some false)
    (ne_NoPins_NoGame : C_NoPins ≠ C_NoGame)
    (su_NoPins_NoDeed : PySem.W.subIn K (.ref C_NoPins) (.ref C_NoDeed) = some false)
    (ne_NoPins_NoDeed : C_NoPins ≠ C_NoDeed)
    (su_NoPins_TooMany : PySem.W.subIn K (.ref C_NoPins) (.ref C_TooMany) = some false)
    (ne_NoPins_TooMany : C_NoPins ≠ C_TooMany)
    (su_NoPins_NoLine : PySem.W.subIn K (.ref C_NoPins) (.ref C_NoLine) = some false)
    (ne_NoPins_NoLine : C_NoPins ≠ C_NoLine)
    (su_NoPins_BadWord : PySem.W.subIn K (.ref C_NoPins) (.ref C_BadWord) = some false)
    (ne_NoPins_BadWord : C_NoPins ≠ C_BadWord)
    (su_NoPins_Falls : PySem.W.subIn K (.ref C_NoPins) (.ref C_Falls) = some false)
    (ne_NoPins_Falls : C_NoPins ≠ C_Falls)
    (sv_NoPins : PySem.W.subIn K (.ref C_NoPins) (.type "ValueError") = some true)
    (cd_NoSide : PySem.W.clsIn K C_NoSide = some cdNoSide) (ty_NoSide : PySem.W.typeIn K (.ref C_NoSide) = some (.type "type"))
    (cd_Over : PySem.W.clsIn K C_Over = some cdOver) (ty_Over : PySem.W.typeIn K (.ref C_Over) = some (.type "type"))
    (cd_NoGame : PySem.W.clsIn K C_NoGame = some cdNoGame) (ty_NoGame : PySem.W.typeIn K (.ref C_NoGame) = some (.type "type"))
    (cd_NoDeed : PySem.W.clsIn K C_NoDeed = some cdNoDeed) (ty_NoDeed : PySem.W.typeIn K (.ref C_NoDeed) = some (.type "type"))
    (cd_TooMany : PySem.W.clsIn K C_TooMany = some cdTooMany) (ty_TooMany : PySem.W.typeIn K (.ref C_TooMany) = some (.type "type"))
    (cd_NoLine : PySem.W.clsIn K C_NoLine = some cdNoLine) (ty_NoLine : PySem.W.typeIn K (.ref C_NoLine) = some (.type "type"))
    (cd_BadWord : PySem.W.clsIn K C_BadWord = some cdBadWord) (ty_BadWord : PySem.W.typeIn K (.ref C_BadWord) = some (.type "type"))
    (cd_Falls : PySem.W.clsIn K C_Falls = some cdFalls) (ty_Falls : PySem.W.typeIn K (.ref C_Falls) = some (.type "type"))
    (a1 : PySem.W.nsIn K mainGlobals "is_whole" = some (some (.ref f1))) (l1 : K.lookup f1 = some ⟨oc1, od1, .func (PySem.W.fnOf "is_whole" "is_whole" (defArgs s_is_whole) (defBody s_is_whole) (defScope s_is_whole) .none kV1 dc1 pm1 an1 cd1 ct1), sl1⟩) (c1 : PySem.W.codeIn K cd1 "is_whole" = true) (k1 : PySem.W.keepIn K (.ref f1) = true)
    (a2 : PySem.W.nsIn K mainGlobals "lane_begun" = some (some (.ref f2))) (l2 : K.lookup f2 = some ⟨oc2, od2, .func (PySem.W.fnOf "lane_begun" "lane_begun" (defArgs s_lane_begun) (defBody s_lane_begun) (defScope s_lane_begun) .none kV2 dc2 pm2 an2 cd2 ct2), sl2⟩) (c2 : PySem.W.codeIn K cd2 "lane_begun" = true) (k2 : PySem.W.keepIn K (.ref f2) = true)
    (a3 : PySem.W.nsIn K mainGlobals "lane_bowled" = some (some (.ref f3))) (l3 : K.lookup f3 = some ⟨oc3, od3, .func (PySem.W.fnOf "lane_bowled" "lane_bowled" (defArgs s_lane_bowled) (defBody s_lane_bowled) (defScope s_lane_bowled) .none kV3 dc3 pm3 an3 cd3 ct3), sl3⟩) (c3 : PySem.W.codeIn K cd3 "lane_bowled" = true) (k3 : PySem.W.keepIn K (.ref f3) = true)
    (a4 : PySem.W.nsIn K mainGlobals "frame_ball" = some (some (.ref f4))) (l4 : K.lookup f4 = some ⟨oc4, od4, .func (PySem.W.fnOf "frame_ball" "frame_ball" (defArgs s_frame_ball) (defBody s_frame_ball) (defScope s_frame_ball) .none kV4 dc4 pm4 an4 cd4 ct4), sl4⟩) (c4 : PySem.W.codeIn K cd4 "frame_ball" = true) (k4 : PySem.W.keepIn K (.ref f4) = true)
    (a5 : PySem.W.nsIn K mainGlobals "earned_by" = some (some (.ref f5))) (l5 : K.lookup f5 = some ⟨oc5, od5, .func (PySem.W.fnOf "earned_by" "earned_by" (defArgs s_earned_by) (defBody s_earned_by) (defScope s_earned_by) .none kV5 dc5 pm5 an5 cd5 ct5), sl5⟩) (c5 : PySem.W.codeIn K cd5 "earned_by" = true) (k5 : PySem.W.keepIn K (.ref f5) = true)
    (a6 : PySem.W.nsIn K mainGlobals "extra_ball" = some (some (.ref f6))) (l6 : K.lookup f6 = some ⟨oc6, od6, .func (PySem.W.fnOf "extra_ball" "extra_ball" (defArgs s_extra_ball) (defBody s_extra_ball) (defScope s_extra_ball) .none kV6 dc6 pm6 an6 cd6 ct6), sl6⟩) (c6 : PySem.W.codeIn K cd6 "extra_ball" = true) (k6 : PySem.W.keepIn K (.ref f6) = true)
    (a7 : PySem.W.nsIn K mainGlobals "is_over" = some (some (.ref f7))) (l7 : K.lookup f7 = some ⟨oc7, od7, .func (PySem.W.fnOf "is_over" "is_over" (defArgs s_is_over) (defBody s_is_over) (defScope s_is_over) .none kV7 dc7 pm7 an7 cd7 ct7), sl7⟩) (c7 : PySem.W.codeIn K cd7 "is_over" = true) (k7 : PySem.W.keepIn K (.ref f7) = true)
    (a8 : PySem.W.nsIn K mainGlobals "_law_tape" = some (some (.ref f8))) (l8 : K.lookup f8 = some ⟨oc8, od8, .func (PySem.W.fnOf "_law_tape" "_law_tape" (defArgs s_law_tape) (defBody s_law_tape) (defScope s_law_tape) .none kV8 dc8 pm8 an8 cd8 ct8), sl8⟩) (c8 : PySem.W.codeIn K cd8 "_law_tape" = true) (k8 : PySem.W.keepIn K (.ref f8) = true)
    (a9 : PySem.W.nsIn K mainGlobals "_law_draw" = some (some (.ref f9))) (l9 : K.lookup f9 = some ⟨oc9, od9, .func (PySem.W.fnOf "_law_draw" "_law_draw" (defArgs s_law_draw) (defBody s_law_draw) (defScope s_law_draw) .none kV9 dc9 pm9 an9 cd9 ct9), sl9⟩) (c9 : PySem.W.codeIn K cd9 "_law_draw" = true) (k9 : PySem.W.keepIn K (.ref f9) = true)
    (a10 : PySem.W.nsIn K mainGlobals "_law_lane" = some (some (.ref f10))) (l10 : K.lookup f10 = some ⟨oc10, od10, .func (PySem.W.fnOf "_law_lane" "_law_lane" (defArgs s_law_lane) (defBody s_law_lane) (defScope s_law_lane) .none kV10 dc10 pm10 an10 cd10 ct10), sl10⟩) (c10 : PySem.W.codeIn K cd10 "_law_lane" = true) (k10 : PySem.W.keepIn K (.ref f10) = true)
    (a11 : PySem.W.nsIn K mainGlobals "_law_ball" = some (some (.ref f11))) (l11 : K.lookup f11 = some ⟨oc11, od11, .func (PySem.W.fnOf "_law_ball" "_law_ball" (defArgs s_law_ball) (defBody s_law_ball) (defScope s_law_ball) .none kV11 dc11 pm11 an11 cd11 ct11), sl11⟩) (c11 : PySem.W.codeIn K cd11 "_law_ball" = true) (k11 : PySem.W.keepIn K (.ref f11) = true)
    (a12 : PySem.W.nsIn K mainGlobals "_law_own" = some (some (.ref f12))) (l12 : K.lookup f12 = some ⟨oc12, od12, .func (PySem.W.fnOf "_law_own" "_law_own" (defArgs s_law_own) (defBody s_law_own) (defScope s_law_own) .none kV12 dc12 pm12 an12 cd12 ct12), sl12⟩) (c12 : PySem.W.codeIn K cd12 "_law_own" = true) (k12 : PySem.W.keepIn K (.ref f12) = true)
    (a13 : PySem.W.nsIn K mainGlobals "_law_refused" = some (some (.ref f13))) (l13 : K.lookup f13 = some ⟨oc13, od13, .func (PySem.W.fnOf "_law_refused" "_law_refused" (defArgs s_law_refused) (defBody s_law_refused) (defScope s_law_refused) .none kV13 dc13 pm13 an13 cd13 ct13), sl13⟩) (c13 : PySem.W.codeIn K cd13 "_law_refused" = true) (k13 : PySem.W.keepIn K (.ref f13) = true)
    (a14 : PySem.W.nsIn K mainGlobals "law" = some (some (.ref f14))) (l14 : K.lookup f14 = some ⟨oc14, od14, .func (PySem.W.fnOf "law" "law" (defArgs s_law) (defBody s_law) (defScope s_law) .none kV14 dc14 pm14 an14 cd14 ct14), sl14⟩) (c14 : PySem.W.codeIn K cd14 "law" = true) (k14 : PySem.W.keepIn K (.ref f14) = true)
    (z_ValueError : PySem.W.nsIn K mainGlobals "ValueError" = some none)
    (z_all : PySem.W.nsIn K mainGlobals "all" = some none)
    (z_bool : PySem.W.nsIn K mainGlobals "bool" = some none)
    (z_int : PySem.W.nsIn K mainGlobals "int" = some none)
    (z_isinstance : PySem.W.nsIn K mainGlobals "isinstance" = some none)
    (z_len : PySem.W.nsIn K mainGlobals "len" = some none)
    (z_max : PySem.W.nsIn K mainGlobals "max" = some none)
    (z_range : PySem.W.nsIn K mainGlobals "range" = some none) :
    ∃ (fd : FuncData) (C_ScoreError : Addr) (C_NoThrow : Addr) (C_NoPins : Addr) (C_NoSide : Addr) (C_Over : Addr) (C_NoGame : Addr) (C_NoDeed : Addr) (C_TooMany : Addr) (C_NoLine : Addr) (C_BadWord : Addr) (C_Falls : Addr), (∀ (s : Shared) (v : Value), BindsTo s fd ⟨[v], []⟩ [("_law_script", v)]) ∧ Fun K "law" "law" s_law fa fd ∧ Txt K mg C_ScoreError C_NoThrow C_NoPins C_NoSide C_Over C_NoGame C_NoDeed C_TooMany C_NoLine C_BadWord C_Falls := by
  have e := hfa.symm.trans (PySem.W.mg_of X G a14)
  cases e
  exact ⟨_, _, _, _, _, _, _, _, _, _, _, _, fun s v => .of_eq rfl, fun_mk (st := s_law) l14 c14 k14, ⟨⟨⟨f1, _, fun_mk (st := s_is_whole) l1 c1 k1, (fun_mk (st := s_is_whole) l1 c1 k1).binds (ps := ["thing", "least", "most"]) fun _ _ _ _ _ _ us hl => match us, hl with | [_, _, _], _ => rfl, PySem.W.mg_of X G a1⟩⟩,
    ⟨⟨f2, _, fun_mk (st := s_lane_begun) l2 c2 k2, (fun_mk (st := s_lane_begun) l2 c2 k2).binds (ps := ["lane"]) fun _ _ _ _ _ _ us hl => match us, hl with | [_], _ => rfl, PySem.W.mg_of X G a2⟩⟩,
    ⟨⟨f3, _, fun_mk (st := s_lane_bowled) l3 c3 k3, (fun_mk (st := s_lane_bowled) l3 c3 k3).binds (ps := ["lane", "stand", "pins"]) fun _ _ _ _ _ _ us hl => match us, hl with | [_, _, _], _ => rfl, PySem.W.mg_of X G a3⟩⟩,
    ⟨⟨f4, _, fun_mk (st := s_frame_ball) l4 c4 k4, (fun_mk (st := s_frame_ball) l4 c4 k4).binds (ps := ["lane", "row", "pins"]) fun _ _ _ _ _ _ us hl => match us, hl with | [_, _, _], _ => rfl, PySem.W.mg_of X G a4⟩⟩,
    ⟨⟨f5, _, fun_mk (st := s_earned_by) l5 c5 k5, (fun_mk (st := s_earned_by) l5 c5 k5).binds (ps := ["ball", "up"]) fun _ _ _ _ _ _ us hl => match us, hl with | [_, _], _ => rfl, PySem.W.mg_of X G a5⟩⟩,
    ⟨⟨f6, _, fun_mk (st := s_extra_ball) l6 c6 k6, (fun_mk (st := s_extra_ball) l6 c6 k6).binds (ps := ["lane", "row", "pins"]) fun _ _ _ _ _ _ us hl => match us, hl with | [_, _, _], _ => rfl, PySem.W.mg_of X G a6⟩⟩,
    ⟨⟨f7, _, fun_mk (st := s_is_over) l7 c7 k7, (fun_mk (st := s_is_over) l7 c7 k7).binds (ps := ["lane", "rows"]) fun _ _ _ _ _ _ us hl => match us, hl with | [_, _], _ => rfl, PySem.W.mg_of X G a7⟩⟩,
    ⟨⟨f8, _, fun_mk (st := s_law_tape) l8 c8 k8, (fun_mk (st := s_law_tape) l8 c8 k8).binds (ps := ["_law_script"]) fun _ _ _ _ _ _ us hl => match us, hl with | [_], _ => rfl, PySem.W.mg_of X G a8⟩⟩,
    ⟨⟨f9, _, fun_mk (st := s_law_draw) l9 c9 k9, (fun_mk (st := s_law_draw) l9 c9 k9).binds (ps := ["_law_tape_here", "_law_many"]) fun _ _ _ _ _ _ us hl => match us, hl with | [_, _], _ => rfl, PySem.W.mg_of X G a9⟩⟩,
    ⟨⟨f10, _, fun_mk (st := s_law_lane) l10 c10 k10, (fun_mk (st := s_law_lane) l10 c10 k10).binds (ps := ["_law_tape_here"]) fun _ _ _ _ _ _ us hl => match us, hl with | [_], _ => rfl, PySem.W.mg_of X G a10⟩⟩,
    ⟨⟨f11, _, fun_mk (st := s_law_ball) l11 c11 k11, (fun_mk (st := s_law_ball) l11 c11 k11).binds (ps := ["_law_tape_here", "_law_up"]) fun _ _ _ _ _ _ us hl => match us, hl with | [_, _], _ => rfl, PySem.W.mg_of X G a11⟩⟩,
    ⟨⟨f12, _, fun_mk (st := s_law_own) l12 c12 k12, (fun_mk (st := s_law_own) l12 c12 k12).binds (ps := ["_law_e"]) fun _ _ _ _ _ _ us hl => match us, hl with | [_], _ => rfl, PySem.W.mg_of X G a12⟩⟩,
    ⟨⟨f13, _, fun_mk (st := s_law_refused) l13 c13 k13, (fun_mk (st := s_law_refused) l13 c13 k13).binds (ps := ["_law_lane_here", "_law_stand", "_law_thing"]) fun _ _ _ _ _ _ us hl => match us, hl with | [_, _, _], _ => rfl, PySem.W.mg_of X G a13⟩⟩,
    PySem.W.mg_none_of X G z_ValueError,
    PySem.W.mg_none_of X G z_all,
    PySem.W.mg_none_of X G z_bool,
    PySem.W.mg_none_of X G z_int,
    PySem.W.mg_none_of X G z_isinstance,
    PySem.W.mg_none_of X G z_len,
    PySem.W.mg_none_of X G z_max,
    PySem.W.mg_none_of X G z_range,
    PySem.W.mg_of X G aX_ScoreError,
    ownE_of eX_ScoreError,
    ⟨⟨_, PySem.W.mg_of X G aX_NoThrow, rfl⟩⟩,
    PySem.W.mg_of X G aX_NoPins,
    ⟨⟨_, PySem.W.mg_of X G aX_NoPins, rfl⟩⟩,
    ownE_of eX_NoPins,
    ⟨f1_NoPins, f2_NoPins, f3_NoPins, f4_NoPins, f5_NoPins, by rw [cd_NoPins]; rfl⟩,
    sS_NoPins_ScoreError,
    kit_ref cd_NoThrow ty_NoThrow su_NoPins_NoThrow (fun h => absurd h ne_NoPins_NoThrow),
    kit_ref cd_NoPins ty_NoPins su_NoPins_NoPins (fun _ => rfl),
    kit_ref cd_NoSide ty_NoSide su_NoPins_NoSide (fun h => absurd h ne_NoPins_NoSide),
    kit_ref cd_Over ty_Over su_NoPins_Over (fun h => absurd h ne_NoPins_Over),
    kit_ref cd_NoGame ty_NoGame su_NoPins_NoGame (fun h => absurd h ne_NoPins_NoGame),
    kit_ref cd_NoDeed ty_NoDeed su_NoPins_NoDeed (fun h => absurd h ne_NoPins_NoDeed),
    kit_ref cd_TooMany ty_TooMany su_NoPins_TooMany (fun h => absurd h ne_NoPins_TooMany),
    kit_ref cd_NoLine ty_NoLine su_NoPins_NoLine (fun h => absurd h ne_NoPins_NoLine),
    kit_ref cd_BadWord ty_BadWord su_NoPins_BadWord (fun h => absurd h ne_NoPins_BadWord),
    kit_ref cd_Falls ty_Falls su_NoPins_Falls (fun h => absurd h ne_NoPins_Falls),
    kit_ve sv_NoPins,
    ⟨⟨_, PySem.W.mg_of X G aX_NoSide, rfl⟩⟩,
    ⟨⟨_, PySem.W.mg_of X G aX_Over, rfl⟩⟩,
    ⟨⟨_, PySem.W.mg_of X G aX_NoGame, rfl⟩⟩,
    ⟨⟨_, PySem.W.mg_of X G aX_NoDeed, rfl⟩⟩,
    ⟨⟨_, PySem.W.mg_of X G aX_TooMany, rfl⟩⟩,
    ⟨⟨_, PySem.W.mg_of X G aX_NoLine, rfl⟩⟩,
    ⟨⟨_, PySem.W.mg_of X G aX_BadWord, rfl⟩⟩,
    ⟨⟨_, PySem.W.mg_of X G aX_Falls, rfl⟩⟩⟩⟩
section
variable {P : Program} {w : World} {K : PySem.W.Frag} {mg : Str → Option Value} {base : Heap}
theorem law_all {fa : Addr} {fd : FuncData} {C_ScoreError C_NoThrow C_NoPins C_NoSide C_Over C_NoGame C_NoDeed C_TooMany C_NoLine C_BadWord C_Falls : Addr} (F : Fun K "law" "law" s_law fa fd) (T : Txt K mg C_ScoreError C_NoThrow C_NoPins C_NoSide C_Over C_NoGame C_NoDeed C_TooMany C_NoLine C_BadWord C_Falls) : FnOk P w K mg base CX0 40 fa fd ["_law_script"] (spLaw K) := by
  have dd : ∀ ns, Dn P w K mg base 1 "_law_draw" ["_law_tape_here", "_law_many"] (spDraw K ns) := fun ns => ok_law_draw T.F_law_draw T.m_len
  have dw : Dn P w K mg base 2 "is_whole" ["thing", "least", "most"] (spWhole K) := ok_is_whole T.F_is_whole T.m_isinstance T.m_int T.m_bool
  have df : Dn P w K mg base 2 "frame_ball" ["lane", "row", "pins"] (spFrame K) := ok_frame_ball T.F_frame_ball (ok_earned_by (k := 0) T.F_earned_by)
  have de : Dn P w K mg base 2 "extra_ball" ["lane", "row", "pins"] (spExtra K) := ok_extra_ball T.F_extra_ball
  have dv : Dn P w K mg base 2 "is_over" ["lane", "rows"] (spOver K) := ok_is_over T.F_is_over T.m_all
  have db : Dn P w K mg base 3 "lane_bowled" ["lane", "stand", "pins"] (spBowl K) := ok_lane_bowled T.F_lane_bowled dw df de dv
  have dx : Dx P w K mg base 3 "lane_bowled" ["lane", "stand", "pins"] (spBad K C_NoPins) := ox_lane_bowled T.F_lane_bowled T.mc_NoPins T.oe_NoPins dw df de dv
  have dow : Dh P w K mg base 3 "_law_own" ["_law_e"] (spOwn C_NoPins "pins") := ok_law_own (C := C_NoPins) (j := 1) T.F_law_own T.m_isinstance T.m_ValueError T.g_NoThrow T.g_NoPins T.g_NoSide T.g_Over T.g_NoGame T.g_NoDeed T.g_TooMany T.g_NoLine T.g_BadWord T.g_Falls T.er_NoPins T.ki_NoPins_NoThrow T.ki_NoPins_NoPins T.ki_NoPins_NoSide T.ki_NoPins_Over T.ki_NoPins_NoGame T.ki_NoPins_NoDeed T.ki_NoPins_TooMany T.ki_NoPins_NoLine T.ki_NoPins_BadWord T.ki_NoPins_Falls T.kv_NoPins (by decide) rfl (by decide) rfl
  have dr : Dn P w K mg base 4 "_law_refused" ["_law_lane_here", "_law_stand", "_law_thing"] (spRef K) := ok_law_refused T.F_law_refused T.mc_ScoreError T.oe_ScoreError (fun C e => by rw [e]; exact T.sS_NoPins_ScoreError) dx dow
  exact ok_law (k := 39) F T.m_range (fun ns => (ok_law_tape T.F_law_tape T.m_len).mono (show 1 ≤ 39 by decide)) (fun ns => (dd ns).mono (by decide)) (fun ns => (ok_law_lane T.F_law_lane (dd ns)).mono (by decide)) (fun ns => (ok_law_ball T.F_law_ball T.m_max (dd ns)).mono (by decide)) ((ok_lane_begun (k := 0) T.F_lane_begun).mono (by decide)) (db.mono (by decide)) (dr.mono (by decide))
end
theorem walk {l : PySem.W.OpenLaw} {q : Program} {loose : List Str} {XP : (Str → Option Value) → Heap → Prop} {YP : World → Heap → Prop} {d : DefRec} {K : Params → PySem.W.Frag} (hn : l.most = some 63) (hdf : d.params.defaults = [])
    (hY : ∀ (w : World) (h : Heap), YP w h → (K w.params).In h)
    (F : ∀ (w : World) (mg : Str → Option Value) (fa : Addr) (h : Heap), (K w.params).In h → h.Ns mainGlobals mg → mg d.name = some (.ref fa) →
      ∃ (fd : FuncData) (C_ScoreError : Addr) (C_NoThrow : Addr) (C_NoPins : Addr) (C_NoSide : Addr) (C_Over : Addr) (C_NoGame : Addr) (C_NoDeed : Addr) (C_TooMany : Addr) (C_NoLine : Addr) (C_BadWord : Addr) (C_Falls : Addr), (∀ (s : Shared) (v : Value), BindsTo s fd ⟨[v], []⟩ [("_law_script", v)]) ∧ Fun (K w.params) "law" "law" s_law fa fd ∧ Txt (K w.params) mg C_ScoreError C_NoThrow C_NoPins C_NoSide C_Over C_NoGame C_NoDeed C_TooMany C_NoLine C_BadWord C_Falls) :
    PySem.W.WalkO q loose XP YP l.row.toRowW d [] (fun f vs => PySem.call f vs) :=
  L2.walk_of (n := 63) (k := 40) (x := "_law_script") (CX := fun _ => CX0) (sp := fun w => spLaw (K w.params)) hn (by decide) hdf ⟨rfl, by decide, by decide⟩ hY (fun w mg fa h X G e => by
    obtain ⟨fd, C_ScoreError, C_NoThrow, C_NoPins, C_NoSide, C_Over, C_NoGame, C_NoDeed, C_TooMany, C_NoLine, C_BadWord, C_Falls, b, Fl, T⟩ := F w mg fa h X G e
    exact ⟨fd, b, fun base _ _ => law_all Fl T⟩) (fun _ _ a ns hl _ hS => ⟨a, ns, rfl, hS, hl, fun _ => rfl⟩) fun _ _ _ _ _ z => z
end My
open PySem PySem.W PyProof.Rows
set_option maxRecDepth 100000 in
set_option maxHeartbeats 0 in
theorem PySem.Challenge.cw_tally_k39_pins_refused_holds : PySem.Challenge.rw_tally_k39_pins_refused.Holds := by
  w_on; o_law; k_head; (case hw => w_witness2)
  k_fill
  refine My.walk (l := PySem.Challenge.rw_tally_k39_pins_refused) rfl rfl (fun w h Y => PySem.W.kIn_of Y) ?F
  case F =>
    intro w mg fa h KX G hmg
    refine' My.txt_mk KX G hmg ?aX_ScoreError ?aX_NoThrow ?aX_NoPins ?aX_NoSide ?aX_Over ?aX_NoGame ?aX_NoDeed ?aX_TooMany ?aX_NoLine ?aX_BadWord ?aX_Falls ?eX_ScoreError ?cd_NoThrow ?ty_NoThrow ?eX_NoPins ?f1_NoPins ?f2_NoPins ?f3_NoPins ?f4_NoPins ?f5_NoPins ?cd_NoPins ?ty_NoPins ?sS_NoPins_ScoreError ?su_NoPins_NoThrow ?ne_NoPins_NoThrow ?su_NoPins_NoPins ?su_NoPins_NoSide ?ne_NoPins_NoSide ?su_NoPins_Over ?ne_NoPins_Over ?su_NoPins_NoGame ?ne_NoPins_NoGame ?su_NoPins_NoDeed ?ne_NoPins_NoDeed ?su_NoPins_TooMany ?ne_NoPins_TooMany ?su_NoPins_NoLine ?ne_NoPins_NoLine ?su_NoPins_BadWord ?ne_NoPins_BadWord ?su_NoPins_Falls ?ne_NoPins_Falls ?sv_NoPins ?cd_NoSide ?ty_NoSide ?cd_Over ?ty_Over ?cd_NoGame ?ty_NoGame ?cd_NoDeed ?ty_NoDeed ?cd_TooMany ?ty_TooMany ?cd_NoLine ?ty_NoLine ?cd_BadWord ?ty_BadWord ?cd_Falls ?ty_Falls ?a1 ?l1 ?c1 ?k1 ?a2 ?l2 ?c2 ?k2 ?a3 ?l3 ?c3 ?k3 ?a4 ?l4 ?c4 ?k4 ?a5 ?l5 ?c5 ?k5 ?a6 ?l6 ?c6 ?k6 ?a7 ?l7 ?c7 ?k7 ?a8 ?l8 ?c8 ?k8 ?a9 ?l9 ?c9 ?k9 ?a10 ?l10 ?c10 ?k10 ?a11 ?l11 ?c11 ?k11 ?a12 ?l12 ?c12 ?k12 ?a13 ?l13 ?c13 ?k13 ?a14 ?l14 ?c14 ?k14 ?z_ValueError ?z_all ?z_bool ?z_int ?z_isinstance ?z_len ?z_max ?z_range
    (case aX_ScoreError => k_is)
    (case aX_NoThrow => k_is)
    (case aX_NoPins => k_is)
    (case aX_NoSide => k_is)
    (case aX_Over => k_is)
    (case aX_NoGame => k_is)
    (case aX_NoDeed => k_is)
    (case aX_TooMany => k_is)
    (case aX_NoLine => k_is)
    (case aX_BadWord => k_is)
    (case aX_Falls => k_is)
    (case eX_ScoreError => k_exc)
    (case cd_NoThrow => k_is)
    (case ty_NoThrow => k_is)
    (case eX_NoPins => k_exc)
    (case f1_NoPins => k_is)
    (case f2_NoPins => k_is)
    (case f3_NoPins => k_is)
    (case f4_NoPins => k_is)
    (case f5_NoPins => k_is)
    (case cd_NoPins => k_is)
    (case ty_NoPins => k_is)
    (case sS_NoPins_ScoreError => k_is)
    (case su_NoPins_NoThrow => k_is)
    (case ne_NoPins_NoThrow => decide)
    (case su_NoPins_NoPins => k_is)
    (case su_NoPins_NoSide => k_is)
    (case ne_NoPins_NoSide => decide)
    (case su_NoPins_Over => k_is)
    (case ne_NoPins_Over => decide)
    (case su_NoPins_NoGame => k_is)
    (case ne_NoPins_NoGame => decide)
    (case su_NoPins_NoDeed => k_is)
    (case ne_NoPins_NoDeed => decide)
    (case su_NoPins_TooMany => k_is)
    (case ne_NoPins_TooMany => decide)
    (case su_NoPins_NoLine => k_is)
    (case ne_NoPins_NoLine => decide)
    (case su_NoPins_BadWord => k_is)
    (case ne_NoPins_BadWord => decide)
    (case su_NoPins_Falls => k_is)
    (case ne_NoPins_Falls => decide)
    (case sv_NoPins => k_is)
    (case cd_NoSide => k_is)
    (case ty_NoSide => k_is)
    (case cd_Over => k_is)
    (case ty_Over => k_is)
    (case cd_NoGame => k_is)
    (case ty_NoGame => k_is)
    (case cd_NoDeed => k_is)
    (case ty_NoDeed => k_is)
    (case cd_TooMany => k_is)
    (case ty_TooMany => k_is)
    (case cd_NoLine => k_is)
    (case ty_NoLine => k_is)
    (case cd_BadWord => k_is)
    (case ty_BadWord => k_is)
    (case cd_Falls => k_is)
    (case ty_Falls => k_is)
    (case a1 => k_is)
    (case l1 => k_is)
    (case c1 => k_is)
    (case k1 => k_is)
    (case a2 => k_is)
    (case l2 => k_is)
    (case c2 => k_is)
    (case k2 => k_is)
    (case a3 => k_is)
    (case l3 => k_is)
    (case c3 => k_is)
    (case k3 => k_is)
    (case a4 => k_is)
    (case l4 => k_is)
    (case c4 => k_is)
    (case k4 => k_is)
    (case a5 => k_is)
    (case l5 => k_is)
    (case c5 => k_is)
    (case k5 => k_is)
    (case a6 => k_is)
    (case l6 => k_is)
    (case c6 => k_is)
    (case k6 => k_is)
    (case a7 => k_is)
    (case l7 => k_is)
    (case c7 => k_is)
    (case k7 => k_is)
    (case a8 => k_is)
    (case l8 => k_is)
    (case c8 => k_is)
    (case k8 => k_is)
    (case a9 => k_is)
    (case l9 => k_is)
    (case c9 => k_is)
    (case k9 => k_is)
    (case a10 => k_is)
    (case l10 => k_is)
    (case c10 => k_is)
    (case k10 => k_is)
    (case a11 => k_is)
    (case l11 => k_is)
    (case c11 => k_is)
    (case k11 => k_is)
    (case a12 => k_is)
    (case l12 => k_is)
    (case c12 => k_is)
    (case k12 => k_is)
    (case a13 => k_is)
    (case l13 => k_is)
    (case c13 => k_is)
    (case k13 => k_is)
    (case a14 => k_is)
    (case l14 => k_is)
    (case c14 => k_is)
    (case k14 => k_is)
    (case z_ValueError => k_is)
    (case z_all => k_is)
    (case z_bool => k_is)
    (case z_int => k_is)
    (case z_isinstance => k_is)
    (case z_len => k_is)
    (case z_max => k_is)
    (case z_range => k_is)
