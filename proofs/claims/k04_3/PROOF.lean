import PyProof.Rows.All
import Wide.All
import OpenK.AllK
import Wide.FinOn
import Lean
import PyProof.EqAt
import PyProof.EqKinds
import PyProof.TupleCall
import PyProof.P3Eq
import PyProof.NeData
import PyProof.P3Statements
import PyProof.StrLawsChain
import PyProof.StrLawsTight
import PyProof.StrLawsReplace
import PyProof.FitsReplace
import KE.IntText
import PyProof.StrBlockL
import PyProof.StrLawsIdx
import PyProof.StrBlockI
import KE.KStrOpen
import PyProof.ReprRoads
import PyProof.StrLawsRepr
import PyProof.FitsInt
import KE.KIntText
import PyProof.ExcArgsOwn
import PyProof.ExcAttrAll.ValueError
import KE.KxWritten
import PyProof.ListRange
import PyProof.Rows.SetFrom
import PyProof.StrOps2
import PyProof.IsRules
import PyProof.SetRoads
import PyProof.StrBlock
import PyProof.InstStoreFacts
import PyProof.ExcInit
import PyProof.StationsW
import PyProof.ExcClass2
import KE.KIsAll
import PySem.Challenge.RW_tally_k04_what_writes_no_rule
set_option maxHeartbeats 4000000
set_option Elab.async false
set_option linter.all false
set_option maxRecDepth 100000
namespace L2
open PySem PySem.Spec PyProof.Rows
abbrev Key := Sum Int Str
def keyIs : Key → Value → Bool
  | .inl k, v => Value.isInt k v
  | .inr x, v => Value.isStrOf x v
def keyH (w : World) : Key → Int
  | .inl k => hashInt k
  | .inr x => hashStr w x
theorem keyIs_shape : ∀ {k : Key} {v : Value}, keyIs k v = true → (∃ i t, k = Sum.inl i ∧ v = Value.int i t) ∨ (∃ x t, k = Sum.inr x ∧ v = Value.str x t)
  | .inl i, v, h => by
    obtain ⟨t, e⟩ := Value.isInt_shape (k := i) (v := v) h
    exact .inl ⟨i, t, rfl, e⟩
  | .inr x, v, h => by
    obtain ⟨t, e⟩ := Value.isStrOf_shape (x := x) (v := v) h
    exact .inr ⟨x, t, rfl, e⟩
theorem key_ll (a b : Int) : decide ((Sum.inl a : Key) = Sum.inl b) = (a == b) := by
  by_cases e : a = b
  · subst e; simp
  · have h : ¬ (Sum.inl a : Key) = Sum.inl b := fun q => e (Sum.inl.inj q)
    rw [decide_eq_false h]
    exact (beq_eq_false_iff_ne.mpr e).symm
theorem key_rr (a b : Str) : decide ((Sum.inr a : Key) = Sum.inr b) = decide (a = b) := by
  by_cases e : a = b
  · subst e; simp
  · have h : ¬ (Sum.inr a : Key) = Sum.inr b := fun q => e (Sum.inr.inj q)
    rw [decide_eq_false h, decide_eq_false e]
theorem key_lr (a : Int) (b : Str) : decide ((Sum.inl a : Key) = Sum.inr b) = false := decide_eq_false (fun q => nomatch q)
theorem key_rl (a : Str) (b : Int) : decide ((Sum.inr a : Key) = Sum.inl b) = false := decide_eq_false (fun q => nomatch q)
def mixKind (prog : Program) (w : World) : PySem.KeyKind prog w Key where
  is := keyIs
  hash := keyH w
  inj := fun v a b ha hb => by
    rcases keyIs_shape ha with ⟨i, t, rfl, rfl⟩ | ⟨x, t, rfl, rfl⟩
    · rcases keyIs_shape hb with ⟨j, u, rfl, e⟩ | ⟨y, u, rfl, e⟩
      · injection e with e1 _; rw [e1]
      · exact nomatch e
    · rcases keyIs_shape hb with ⟨j, u, rfl, e⟩ | ⟨y, u, rfl, e⟩
      · exact nomatch e
      · injection e with e1 _; rw [e1]
  byValue := fun k v h => by
    rcases keyIs_shape h with ⟨i, t, rfl, rfl⟩ | ⟨x, t, rfl, rfl⟩ <;> rfl
  pyHash := fun hv h => by
    rcases keyIs_shape hv with ⟨i, t, rfl, rfl⟩ | ⟨x, t, rfl, rfl⟩
    · exact wpAny_pyHash_int h
    · exact wpAny_pyHash_str h
  eqBool := fun hu hv h => by
    rcases keyIs_shape hu with ⟨i, t, rfl, rfl⟩ | ⟨x, t, rfl, rfl⟩
    · rcases keyIs_shape hv with ⟨j, u, rfl, rfl⟩ | ⟨y, u, rfl, rfl⟩
      · rw [key_ll] at h; exact wpAny_eqBool_int h
      · rw [key_lr] at h; exact SeqAt.EqAt.int_str i t y u _ _ _ _ h
    · rcases keyIs_shape hv with ⟨j, u, rfl, rfl⟩ | ⟨y, u, rfl, rfl⟩
      · rw [key_rl] at h; exact SeqAt.EqAt.str_int x t j u _ _ _ _ h
      · rw [key_rr] at h; exact wpAny_eqBool_str h
  «strs» := fun k x t v h => by
    rcases keyIs_shape h with ⟨i, u, rfl, e⟩ | ⟨y, u, rfl, e⟩
    · exact nomatch e
    · injection e with e1 _
      subst e1
      cases v <;> rfl
end L2
namespace L2
open PySem PySem.Spec PyProof.Rows
inductive V where
  | non | bl (b : Bool) | int (i : Int) | str (x : Str) | byt (b : Array UInt8) | flt (b : UInt64) | ref (a : Addr) | ty (n : String)
  deriving DecidableEq
def RelV : V → Value → Prop
  | .non, u => u = Value.none
  | .bl b, u => u = Value.bool b
  | .int i, u => ∃ t, u = Value.int i t
  | .str x, u => ∃ t, u = Value.str x t
  | .byt b, u => ∃ t, u = Value.bytes b t
  | .flt b, u => ∃ t, u = Value.float b t
  | .ref a, u => u = Value.ref a
  | .ty n, u => u = Value.type n
abbrev Vals : List V → List Value → Prop := Paired RelV
theorem Vals.length {xs : List V} {us : List Value} (r : Vals xs us) : xs.length = us.length := Paired.length r
theorem Vals.get : ∀ {xs : List V} {us : List Value} {i : Nat} {x : V}, Vals xs us → xs[i]? = some x → ∃ u, us[i]? = some u ∧ RelV x u
  | _, _, _, _, .nil, e => by simp at e
  | _, _, 0, _, .cons r _, e => by simp at e; subst e; exact ⟨_, rfl, r⟩
  | _, _, i + 1, x, .cons _ t, e => by
    obtain ⟨u, h1, h2⟩ := Vals.get (i := i) (x := x) t (by simpa using e)
    exact ⟨u, by simpa using h1, h2⟩
theorem Vals.set {x : V} {u : Value} (r : RelV x u) : ∀ {xs : List V} {us : List Value} (i : Nat), Vals xs us → Vals (xs.set i x) (us.set i u)
  | _, _, _, .nil => .nil
  | _, _, 0, .cons _ t => .cons r t
  | _, _, i + 1, .cons q t => .cons q (Vals.set r i t)
theorem Vals.append : ∀ {xs ys : List V} {us ws : List Value}, Vals xs us → Vals ys ws → Vals (xs ++ ys) (us ++ ws)
  | _, _, _, _, .nil, s => s
  | _, _, _, _, .cons r t, s => .cons r (Vals.append t s)
theorem Vals.take : ∀ {xs : List V} {us : List Value} (n : Nat), Vals xs us → Vals (xs.take n) (us.take n)
  | _, _, 0, _ => .nil
  | _, _, _ + 1, .nil => .nil
  | _, _, n + 1, .cons r t => .cons r (Vals.take n t)
theorem Vals.drop : ∀ {xs : List V} {us : List Value} (n : Nat), Vals xs us → Vals (xs.drop n) (us.drop n)
  | _, _, 0, r => r
  | _, _, _ + 1, .nil => .nil
  | _, _, n + 1, .cons _ t => Vals.drop n t
def RelO : Option V → Option Value → Prop
  | some v, some u => RelV v u
  | none, none => True
  | _, _ => False
def KV {κ : Type} : List (κ × V) → List (κ × Value) → Prop := Paired fun (p : κ × V) (q : κ × Value) => p.1 = q.1 ∧ RelV p.2 q.2
def kV : Key → V
  | .inl i => .int i
  | .inr x => .str x
inductive HO where
  | lst (xs : List V)
  | tup (xs : List V)
  | dK (kvs : List (Key × V)) | dT (kvs : List (List Key × V))
  | set (S : Int → Bool) (n : Nat)
  | ins (C dx : Addr) (fs : List (Str × V))
  | own (x : Addr)
  | xd (fs : List (Str × V))
  | met (f x : Addr)
  | rng (lo hi : Int)
  | frz (o : Obj) (u : HO)
  | tbl (ps : Array Value)
  | ext (φ : Heap → Prop)
abbrev Hp := Addr → Option HO
def upd (H : Hp) (a : Addr) (o : HO) : Hp := fun b => if b = a then some o else H b
theorem upd_same {H : Hp} {a : Addr} {o : HO} : upd H a o a = some o := by unfold upd; rw [if_pos rfl]
theorem upd_ne {H : Hp} {a b : Addr} {o : HO} (h : b ≠ a) : upd H a o b = H b := by unfold upd; rw [if_neg h]
theorem ne_of {H : Hp} {a b : Addr} {o u : HO} (h : H a = some o) (h' : H b = some u) (d : o ≠ u) : a ≠ b := by
  intro e; subst e; rw [h] at h'; exact d (Option.some.inj h')
theorem ne_of_none {H : Hp} {a b : Addr} {o : HO} (h : H a = some o) (h' : H b = none) : a ≠ b := by
  intro e; subst e; rw [h] at h'; cases h'
section
variable (P : Program) (w : World)
def ObjOk (H : Hp) (h : Heap) (a : Addr) : HO → Prop
  | .lst xs => xs.length ≤ sizeLine ∧ ∃ (its : List Value) (n : Nat), Vals xs its ∧ h.get? a = some { cls := .type "list", data := .seq its.toArray n }
  | .tup xs => xs.length ≤ sizeLine ∧ ∃ its : List Value, Vals xs its ∧ IsTup h a its.toArray
  | .dK kvs => kvs.length ≤ sizeLine ∧ (a == sysModules) = false ∧ ∃ vs, KV kvs vs ∧ h.DictOf (mixKind P w) a vs
  | .dT kvs => kvs.length ≤ sizeLine ∧ (a == sysModules) = false ∧ ∃ xs : List (List Key × Addr × Value),
      Paired (fun (p : List Key × V) (q : List Key × Addr × Value) => p.1 = q.1 ∧ H q.2.1 = some (.tup (p.1.map kV)) ∧ RelV p.2 q.2.2) kvs xs ∧
      ∃ o es ep, h.get? a = some o ∧ o.ExactDict ∧ o.data = .dict es ep ∧ es.toList = xs.map (entryOfKey (tupleKind (mixKind P w))) ∧ (xs.map (·.1)).Nodup
  | .set S n => h.SetOf (intKind P w) a S n
  | .ins C dx fs => H dx = some (.own a) ∧ fs.length ≤ 1000 ∧ dx ≠ a ∧ h.get? a = some (PySem.W.instObj C dx) ∧
      ∃ mA, h.Ns1 dx mA ∧ (∀ f, RelO (fs.lookup f) (mA f)) ∧ PySem.Within mA (fs.map (·.1))
  | .own _ => ∃ o, h.get? a = some o
  | .xd fs => ∃ mA, h.Ns1 a mA ∧ ∀ f, RelO (fs.lookup f) (mA f)
  | .rng lo hi => ∃ t u v, h.get? a = some { cls := .type "range", data := .fields #[.int lo t, .int hi u, .int 1 v] }
  | .frz o u => h.get? a = some o ∧ ObjOk H h a u
  | .tbl ps => h.get? a = some { cls := .none, data := .fields ps }
  | .met f x => h.get? a = some (PySem.W.methodObj (.ref f) (.ref x))
  | .ext φ => φ h ∧ (∃ o, h.get? a = some o) ∧ ∀ h1 h2 : Heap, φ h1 → (∀ o, h1.get? a = some o → h2.get? a = some o) → φ h2
def HOk (H : Hp) (h : Heap) : Prop := ∀ a o, H a = some o → ObjOk P w H h a o
end
section
variable {P : Program} {w : World} {H H' : Hp} {h h' : Heap} {a : Addr} {o : HO}
theorem ObjOk.lt (x : ObjOk P w H h a o) : a < h.objs.size := by
  cases o with
  | lst xs => obtain ⟨_, _, _, _, e⟩ := x; exact Heap.lt_size e
  | tup xs => obtain ⟨_, _, _, p⟩ := x; exact p.lt
  | dK kvs => obtain ⟨_, _, _, _, o, _, _, e, _⟩ := x; exact Heap.lt_size e
  | dT kvs => obtain ⟨_, _, _, _, o, _, _, e, _⟩ := x; exact Heap.lt_size e
  | set S n => obtain ⟨o, _, _, _, e, _⟩ := x; exact Heap.lt_size e
  | ins C dx fs => obtain ⟨_, _, _, e, _⟩ := x; exact Heap.lt_size e
  | own y => obtain ⟨_, e⟩ := x; exact Heap.lt_size e
  | xd fs => obtain ⟨_, ⟨_, _, _, e, _⟩, _⟩ := x; exact Heap.lt_size e
  | rng lo hi => obtain ⟨_, _, _, e⟩ := x; exact Heap.lt_size e
  | frz ob u => obtain ⟨e, _⟩ := x; exact Heap.lt_size e
  | tbl ps => exact Heap.lt_size (show h.get? a = some _ from x)
  | met f y => exact Heap.lt_size (show h.get? a = some _ from x)
  | ext φ => obtain ⟨_, ⟨_, e⟩, _⟩ := x; exact Heap.lt_size e
theorem Paired.mapP {α β : Type} {F G : α → β → Prop} : ∀ {l₁ : List α} {l₂ : List β}, Paired F l₁ l₂ → (∀ a b, F a b → G a b) → Paired G l₁ l₂
  | _, _, .nil, _ => .nil
  | _, _, .cons r t, f => .cons (f _ _ r) (Paired.mapP t f)
theorem ObjOk.stay (x : ObjOk P w H h a o) (k : ∀ b u, (b = a ∨ H b = some (.own a)) → h.get? b = some u → h'.get? b = some u)
    (ho : ∀ b, H b = some (.own a) → H' b = some (.own a)) (ht : ∀ b xs, H b = some (.tup xs) → H' b = some (.tup xs)) : ObjOk P w H' h' a o := by
  induction o with
  | lst xs => obtain ⟨z, its, n, r, e⟩ := x; exact ⟨z, its, n, r, k _ _ (.inl rfl) e⟩
  | tup xs => obtain ⟨z, its, r, ob, e, c⟩ := x; exact ⟨z, its, r, ob, k _ _ (.inl rfl) e, c⟩
  | dK kvs => obtain ⟨z, y, vs, r, ob, es, ep, e, c⟩ := x; exact ⟨z, y, vs, r, ob, es, ep, k _ _ (.inl rfl) e, c⟩
  | dT kvs =>
    obtain ⟨z, y, xs, r, ob, es, ep, e, c⟩ := x
    exact ⟨z, y, xs, Paired.mapP r fun p q z => ⟨z.1, ht _ _ z.2.1, z.2.2⟩, ob, es, ep, k _ _ (.inl rfl) e, c⟩
  | set S n => obtain ⟨ob, es, ep, t, e, c⟩ := x; exact ⟨ob, es, ep, t, k _ _ (.inl rfl) e, c⟩
  | ins C dx fs =>
    obtain ⟨d, z, ne, e, mA, ⟨od, es, ep, e2, c⟩, r⟩ := x
    exact ⟨ho _ d, z, ne, k _ _ (.inl rfl) e, mA, ⟨od, es, ep, k _ _ (.inr d) e2, c⟩, r⟩
  | own y => obtain ⟨ob, e⟩ := x; exact ⟨ob, k _ _ (.inl rfl) e⟩
  | xd fs => obtain ⟨mA, ⟨od, es, ep, e, c⟩, r⟩ := x; exact ⟨mA, ⟨od, es, ep, k _ _ (.inl rfl) e, c⟩, r⟩
  | rng lo hi => obtain ⟨t, u, v, e⟩ := x; exact ⟨t, u, v, k _ _ (.inl rfl) e⟩
  | frz ob u ih => obtain ⟨e, q⟩ := x; exact ⟨k _ _ (.inl rfl) e, ih q⟩
  | tbl ps =>
    have e : h.get? a = some { cls := .none, data := .fields ps } := x
    show h'.get? a = some { cls := .none, data := .fields ps }
    exact k a _ (.inl rfl) e
  | met f y =>
    have e : h.get? a = some (PySem.W.methodObj (.ref f) (.ref y)) := x
    show h'.get? a = some (PySem.W.methodObj (.ref f) (.ref y))
    exact k a _ (.inl rfl) e
  | ext φ => obtain ⟨p, ⟨o, e⟩, st⟩ := x; exact ⟨st _ _ p fun o q => k _ _ (.inl rfl) q, ⟨o, k _ _ (.inl rfl) e⟩, st⟩
theorem HOk.lt (x : HOk P w H h) (e : H a = some o) : a < h.objs.size := (x a o e).lt
theorem HOk.fresh (x : HOk P w H h) (e : h.objs.size ≤ a) : H a = none := by
  cases q : H a with
  | none => rfl
  | some u => exact absurd (Nat.lt_of_lt_of_le (x.lt q) e) (Nat.lt_irrefl _)
theorem HOk.kept (x : HOk P w H h) (k : ∀ b u, h.get? b = some u → h'.get? b = some u) : HOk P w H h' := fun a o e =>
  (x a o e).stay (fun b u _ q => k b u q) (fun _ q => q) fun _ _ q => q
theorem HOk.laid (x : HOk P w H h) (k : ∀ b u, h.get? b = some u → h'.get? b = some u) (hp : h.objs.size ≤ a) (new : ObjOk P w (upd H a o) h' a o) : HOk P w (upd H a o) h' := fun b u e => by
  have hn := x.fresh hp
  by_cases hb : b = a
  · subst hb; rw [upd_same] at e; cases e; exact new
  · rw [upd_ne hb] at e
    exact (x b u e).stay (fun c v _ q => k c v q) (fun c q => by rw [upd_ne (ne_of_none q hn)]; exact q) fun c xs q => by rw [upd_ne (ne_of_none q hn)]; exact q
end
def Rd (H : Hp) (a : Addr) (u : HO) : Prop := H a = some u ∨ ∃ o, H a = some (.frz o u)
theorem Rd.ok {P : Program} {w : World} {H : Hp} {h : Heap} {a : Addr} {u : HO} (r : Rd H a u) (x : HOk P w H h) : ObjOk P w H h a u := by
  rcases r with r | ⟨o, r⟩
  · exact x a u r
  · obtain ⟨_, q⟩ := x a _ r
    exact q
def Mut : Option HO → Prop
  | some (.lst _) => True
  | some (.dK _) => True
  | some (.dT _) => True
  | some (.set _ _) => True
  | some (.ins _ _ _) => True
  | some (.ext _) => True
  | _ => False
section
variable {P : Program} {w : World} {H : Hp} {h h' : Heap} {x e : Addr} {o' : HO}
theorem HOk.write (ok : HOk P w H h) (mu : Mut (H x)) (he : e = x ∨ H e = some (.own x)) (k : ∀ b u, b ≠ e → h.get? b = some u → h'.get? b = some u) (heo : ∃ u, h'.get? e = some u)
    (new : ObjOk P w (upd H x o') h' x o') : HOk P w (upd H x o') h' := fun b u q => by
  have nown : ∀ c y, H c = some (.own y) → c ≠ x := fun c y r z => by subst z; rw [r] at mu; exact mu
  have ntup : ∀ c xs, H c = some (.tup xs) → c ≠ x := fun c xs r z => by subst z; rw [r] at mu; exact mu
  by_cases hb : b = x
  · subst hb; rw [upd_same] at q; cases q; exact new
  · rw [upd_ne hb] at q
    by_cases hbe : b = e
    · have q' : H b = some (.own x) := by
        rcases he with z | z
        · exact absurd (hbe.trans z) hb
        · rw [hbe]; exact z
      rw [q] at q'; cases q'
      obtain ⟨v, hv⟩ := heo
      exact ⟨v, by rw [hbe]; exact hv⟩
    · refine (ok b u q).stay (fun c v hc r => k c v ?_ r) (fun c r => by rw [upd_ne (nown c b r)]; exact r) fun c xs r => by rw [upd_ne (ntup c xs r)]; exact r
      rcases hc with rfl | hc
      · exact hbe
      · rintro rfl
        rcases he with z | z
        · exact nown c b hc z
        · rw [hc] at z; cases z; exact hb rfl
end
set_option genInjectivity false in
set_option genSizeOf false in
structure Un (fs ex : List Addr) (H H' : Hp) (h h' : Heap) : Prop where
  keep : ∀ b o, h.get? b = some o → H b = none → b ∉ fs → b ∉ ex → h'.get? b = some o
  slot : ∀ b o, h.get? b = some o → H b = none → b ∈ fs → b ∉ ex → ∃ sl, h'.get? b = some { o with slots := sl }
  free : ∀ b o, h.get? b = some o → H b = none → b ∉ ex → H' b = none
  there : ∀ b o, h.get? b = some o → b ∉ ex → ∃ o', h'.get? b = some o'
  tups : ∀ b xs, H b = some (.tup xs) → H' b = some (.tup xs)
  frzs : ∀ b o u, H b = some (.frz o u) → H' b = some (.frz o u)
  tbls : ∀ b ps, H b = some (.tbl ps) → ∃ more, H' b = some (.tbl (ps ++ more))
section
variable {fs fs' ex ex' : List Addr} {H H1 H2 : Hp} {h h1 h2 h' : Heap} {a x e : Addr} {o : HO}
theorem Un.any (u : Un fs ex H H1 h h1) {b : Addr} {ob : Obj} (q : h.get? b = some ob) (n : H b = none) (hx : b ∉ ex) : ∃ sl, h1.get? b = some { ob with slots := sl } := by
  by_cases hb : b ∈ fs
  · exact u.slot b ob q n hb hx
  · exact ⟨ob.slots, u.keep b ob q n hb hx⟩
theorem Un.trans (a : Un fs ex H H1 h h1) (b : Un fs ex H1 H2 h1 h2) : Un fs ex H H2 h h2 where
  keep := fun c ob q n hc hx => b.keep c ob (a.keep c ob q n hc hx) (a.free c ob q n hx) hc hx
  slot := fun c ob q n hc hx => by
    obtain ⟨sl, e1⟩ := a.slot c ob q n hc hx
    obtain ⟨sl', e2⟩ := b.slot c _ e1 (a.free c ob q n hx) hc hx
    exact ⟨sl', e2⟩
  free := fun c ob q n hx => by
    obtain ⟨o', e1⟩ := a.there c ob q hx
    exact b.free c o' e1 (a.free c ob q n hx) hx
  there := fun c ob q hx => by
    obtain ⟨o', e1⟩ := a.there c ob q hx
    exact b.there c o' e1 hx
  tups := fun c xs q => b.tups c xs (a.tups c xs q)
  frzs := fun c ob xs q => b.frzs c ob xs (a.frzs c ob xs q)
  tbls := fun c ps q => by
    obtain ⟨m1, e1⟩ := a.tbls c ps q
    obtain ⟨m2, e2⟩ := b.tbls c _ e1
    exact ⟨m1 ++ m2, by rw [e2, Array.append_assoc]⟩
theorem Un.kept (k : ∀ b u, h.get? b = some u → h'.get? b = some u) : Un fs ex H H h h' :=
  ⟨fun b ob q _ _ _ => k b ob q, fun b ob q _ _ _ => ⟨ob.slots, k b ob q⟩, fun _ _ _ n _ => n, fun b ob q _ => ⟨ob, k b ob q⟩, fun _ _ q => q, fun _ _ _ q => q, fun _ ps q => ⟨#[], by rw [q]; simp⟩⟩
theorem Un.refl : Un fs ex H H h h := Un.kept fun _ _ q => q
theorem Un.laid (k : ∀ b u, h.get? b = some u → h'.get? b = some u) (hp : h.objs.size ≤ a) (hn : H a = none) : Un fs ex H (upd H a o) h h' where
  keep := fun b u q _ _ _ => k b u q
  slot := fun b u q _ _ _ => ⟨u.slots, k b u q⟩
  free := fun b u q n _ => by rw [upd_ne (Nat.ne_of_lt (Nat.lt_of_lt_of_le (Heap.lt_size q) hp))]; exact n
  there := fun b u q _ => ⟨u, k b u q⟩
  tups := fun b xs q => by rw [upd_ne (ne_of_none q hn)]; exact q
  frzs := fun b u xs q => by rw [upd_ne (ne_of_none q hn)]; exact q
  tbls := fun b ps q => ⟨#[], by rw [upd_ne (ne_of_none q hn), q]; simp⟩
theorem Un.write (mu : Mut (H x)) (he : e = x ∨ H e = some (.own x)) (k : ∀ b u, b ≠ e → h.get? b = some u → h'.get? b = some u) (heo : ∃ u, h'.get? e = some u) : Un fs ex H (upd H x o) h h' := by
  have hx : ∀ b, H b = none → b ≠ x := fun b n z => by subst z; rw [n] at mu; exact mu
  have hb : ∀ b, H b = none → b ≠ e := fun b n z => by
    subst z
    rcases he with r | r
    · exact hx b n r
    · rw [n] at r; cases r
  have hm : ∀ b u, H b = some u → ¬ Mut (some u) → b ≠ x := fun b u q nm z => by subst z; rw [q] at mu; exact nm mu
  refine ⟨fun b u q n _ _ => k b u (hb b n) q, fun b u q n _ _ => ⟨u.slots, k b u (hb b n) q⟩, fun b u q n _ => by rw [upd_ne (hx b n)]; exact n, fun b u q _ => ?_,
    fun b xs q => by rw [upd_ne (hm b _ q fun z => z)]; exact q, fun b u xs q => by rw [upd_ne (hm b _ q fun z => z)]; exact q, fun b ps q => ⟨#[], by rw [upd_ne (hm b _ q fun z => z), q]; simp⟩⟩
  by_cases hbe : b = e
  · subst hbe; exact heo
  · exact ⟨u, k b u hbe q⟩
end
def trk (h : Heap) (H : Hp) : List Addr := (List.range h.objs.size).filter fun a => (H a).isSome
def hidT (h : Heap) (H : Hp) : Heap := PySem.W.hideAll h (trk h H)
theorem hidT_size (h : Heap) (H : Hp) : (hidT h H).objs.size = h.objs.size := PySem.W.hideAll_size _ _
theorem hidT_get {h : Heap} {H : Hp} {b : Addr} {o : Obj} (e : h.get? b = some o) (n : H b = none) : (hidT h H).get? b = some o :=
  PySem.W.hideAll_get _ e fun hm => by
    have q : (H b).isSome = true := (List.mem_filter.mp hm).2
    rw [n] at q; simp at q
theorem of_hidT {h : Heap} {H : Hp} {b : Addr} {o : Obj} (e : (hidT h H).get? b = some o) : h.get? b = some o ∧ H b = none := by
  have e' : h.get? b = some o := PySem.W.of_hideAll (trk h H) e
  refine ⟨e', ?_⟩
  cases q : H b with
  | none => rfl
  | some x =>
    have hm : b ∈ trk h H := List.mem_filter.mpr ⟨List.mem_range.mpr (Heap.lt_size e'), by simp [q]⟩
    have z : (hidT h H).get? b = none := PySem.W.hideAll_none (trk h H) hm
    rw [z] at e; cases e
def allNews (g h : Heap) (L : Addr) : List (Addr × Obj) := (List.range h.objs.size).filterMap fun a => if a = L ∨ (g.get? a).isSome = true then none else (h.get? a).map fun o => (a, o)
def rest (g h : Heap) (L d : Addr) : List (Addr × Obj) := (allNews g h L).filter fun p => decide (p.1 ≠ d)
end L2
namespace L2
open PySem PySem.Spec PyProof.Rows
set_option genInjectivity false in
set_option genSizeOf false in
structure Mod (K : PySem.W.Frag) (mg : Str → Option Value) (base : Heap) : Prop where
  kin : K.In base
  glob : base.Ns mainGlobals mg
  blt : ∃ mb, base.Ns builtinsNs mb ∧ ∀ x : Str, x ≠ "__name__" → mb x = bootBuiltins x
  nolimit : base.NoLimit
set_option genInjectivity false in
set_option genSizeOf false in
structure Cx where
  prog : Program
  w : World
  K : PySem.W.Frag
  mg : Str → Option Value
  base : Heap
  A : Around
  N : List Str
  s₀ : Shared
  H₀ : Hp
  env : Env
  outer : List Env
  stack : List Env
  ex : List Addr
  fn : Str → Bool
  calm : Bool
  pn : List (Addr × Obj)
  xe : Value → Shared → Prop
def frs (l : List Env) : List Addr := l.filterMap (·.frame)
abbrev Cx.fs (X : Cx) : List Addr := frs X.outer
def Vis (sc : Scope) (x : Str) : Prop := sc.names.lookup x = some .local ∨ sc.names.lookup x = some .cell ∨ sc.names.lookup x = some .free
def Loc (sc : Scope) (x : Str) : Prop := sc.names.lookup x = some .local ∨ sc.names.lookup x = some .cell
def Look (env : Env) (h : Heap) (m : Str → Option Value) (x : Str) (u : Value) : Prop :=
  (env.kindOf x = some .local ∧ m x = some u) ∨ ((env.kindOf x = some .cell ∨ env.kindOf x = some .free) ∧ ∃ c, env.cells.lookup x = some c ∧ h.IsCell c (some u))
set_option genInjectivity false in
set_option genSizeOf false in
structure Cx.Ok (X : Cx) : Prop where
  mod : Mod X.K X.mg X.base
  kind : X.env.scope.kind = .function
  glob : X.env.globals = mainGlobals
  blt : X.env.builtins = builtinsNs
  above : X.s₀.heap.objs.size ≤ X.env.locals
  inj : ∀ x y c, X.env.cells.lookup x = some c → X.env.cells.lookup y = some c → x = y
  has : ∀ x, (X.env.kindOf x = some .cell ∨ X.env.kindOf x = some .free) → ∃ c, X.env.cells.lookup x = some c
  cab : ∀ x c, X.fn x = true → X.env.cells.lookup x = some c → X.s₀.heap.objs.size ≤ c
  hd : X.calm = true → X.A.handled = none
  frames : X.A.frames = some X.stack
  stk : X.stack = X.outer ∨ (X.stack = X.env :: X.outer ∧ X.env.frame = some X.env.locals)
  exf : ∀ b ∈ X.ex, b ≠ X.env.locals ∧ ∀ x c, X.env.cells.lookup x = some c → c ≠ b
  bs : ∀ b o, X.base.get? b = some o → X.s₀.heap.get? b = some o ∧ X.H₀ b = none
  bsz : X.base.objs.size ≤ X.s₀.heap.objs.size
  noex : ∀ b o, X.base.get? b = some o → b ∉ X.ex
  exfs : ∀ b ∈ X.ex, b ∉ X.fs
  funs : X.s₀.heap.FunFrames X.base X.outer
  frf : ∀ b ∈ X.fs, X.H₀ b = none
set_option genInjectivity false in
set_option genSizeOf false in
structure Inv (X : Cx) (pins : List (Addr × Obj)) (σ : List (Option V)) (H : Hp) (s : Shared) : Prop where
  ok : X.Ok
  os : s.os = X.s₀.os
  bare : AllBare s.gens
  base : Un X.fs X.ex X.H₀ H X.s₀.heap s.heap
  loc : ∃ m, s.heap.Ns X.env.locals m ∧ ∀ (i : Nat) (x : Str) (v : V), X.N[i]? = some x → σ[i]? = some (some v) → Vis X.env.scope x → ∃ u, RelV v u ∧ Look X.env s.heap m x u
  cell : ∀ x c, X.env.cells.lookup x = some c → ∃ v, s.heap.IsCell c v
  free : H X.env.locals = none
  freeC : ∀ x c, X.env.cells.lookup x = some c → H c = none
  pin : ∀ p ∈ X.pn ++ pins, s.heap.get? p.1 = some p.2 ∧ H p.1 = none ∧ p.1 ≠ X.env.locals ∧ p.1 ∉ X.fs ∧ ∀ v, p.2.data ≠ .cell v
  hok : HOk X.prog X.w H s.heap
  len : σ.length = X.N.length
section
variable {X : Cx} {pins : List (Addr × Obj)} {σ : List (Option V)} {H H' : Hp} {s : Shared} {h' : Heap}
theorem Cx.Ok.nofr (ok : X.Ok) {b : Addr} {o : Obj} (e : X.base.get? b = some o) : b ∉ X.fs := fun hb => by
  have := (ok.funs.mem hb).1
  rw [e] at this; cases this
theorem Inv.bs (I : Inv X pins σ H s) : ∀ b o, X.base.get? b = some o → s.heap.get? b = some o ∧ H b = none := fun b o e =>
  ⟨I.base.keep b o (I.ok.bs b o e).1 (I.ok.bs b o e).2 (I.ok.nofr e) (I.ok.noex b o e), I.base.free b o (I.ok.bs b o e).1 (I.ok.bs b o e).2 (I.ok.noex b o e)⟩
theorem Inv.bk (I : Inv X pins σ H s) : ∀ b o, X.base.get? b = some o → s.heap.get? b = some o := fun b o e => (I.bs b o e).1
theorem Inv.mod (I : Inv X pins σ H s) : Mod X.K X.mg X.base := I.ok.mod
theorem Inv.kIn (I : Inv X pins σ H s) : X.K.In s.heap := I.ok.mod.kin.keeps I.bk
theorem Inv.lt (I : Inv X pins σ H s) : X.env.locals < s.heap.objs.size := let ⟨_, hn, _⟩ := I.loc; hn.lt
theorem Inv.sz (I : Inv X pins σ H s) : X.s₀.heap.objs.size ≤ s.heap.objs.size := Nat.le_trans I.ok.above (Nat.le_of_lt I.lt)
theorem Inv.nofs (I : Inv X pins σ H s) {a : Addr} (h : s.heap.objs.size ≤ a) : a ∉ X.fs := fun hb => by
  obtain ⟨_, o, ho, _⟩ := I.ok.funs.mem hb
  exact absurd (Nat.lt_of_lt_of_le (Heap.lt_size ho) (Nat.le_trans I.sz h)) (Nat.lt_irrefl _)
theorem Inv.cne (I : Inv X pins σ H s) : ∀ x c, X.env.cells.lookup x = some c → c ≠ X.env.locals := fun x c e z => by
  obtain ⟨v, o, ho, hd⟩ := I.cell x c e
  obtain ⟨m, ⟨o', es, ep, ho', hd', _⟩, _⟩ := I.loc
  rw [z, ho'] at ho; cases ho; rw [hd'] at hd; cases hd
theorem Inv.funs (I : Inv X pins σ H s) : s.heap.FunFrames X.base X.outer := by
  have all : ∀ (l : List Env), (∀ b ∈ frs l, b ∈ X.fs) → X.s₀.heap.FunFrames X.base l → s.heap.FunFrames X.base l := by
    intro l
    induction l with
    | nil => intro _ _; trivial
    | cons env r ih =>
      intro hs hl
      obtain ⟨hk, ⟨L, o, hf, hn, ho, hd⟩, hr⟩ := hl
      have hL : L ∈ X.fs := hs L (by unfold frs; rw [List.filterMap_cons, hf]; exact List.mem_cons_self)
      obtain ⟨sl, e⟩ := I.base.slot L o ho (I.ok.frf L hL) hL fun z => I.ok.exfs L z hL
      exact ⟨hk, ⟨L, _, hf, hn, e, hd⟩, ih (fun b hb => hs b (by unfold frs; rw [List.filterMap_cons, hf]; exact List.mem_cons_of_mem _ hb)) hr⟩
  exact all X.outer (fun _ hb => hb) I.ok.funs
theorem Inv.stack (I : Inv X pins σ H s) : s.heap.FunFrames X.base X.stack := by
  rcases I.ok.stk with e | ⟨e, hf⟩
  · rw [e]; exact I.funs
  · rw [e]
    obtain ⟨m, hn, _⟩ := I.loc
    refine .cons (by rw [I.ok.kind]; decide) hf hn ?_ I.funs
    exact Heap.get?_none_of_le (Nat.le_trans I.ok.bsz I.ok.above)
theorem Inv.stkSub (I : Inv X pins σ H s) : ∀ b ∈ frs X.stack, b ∈ X.env.locals :: X.fs := fun b hb => by
  rcases I.ok.stk with e | ⟨e, hf⟩
  · rw [e] at hb; exact List.mem_cons_of_mem _ hb
  · rw [e] at hb
    unfold frs at hb
    rw [List.filterMap_cons, hf] at hb
    exact hb
theorem Inv.stkFree (I : Inv X pins σ H s) : ∀ b ∈ frs X.stack, H b = none := fun b hb => by
  rcases List.mem_cons.mp (I.stkSub b hb) with e | hb
  · rw [e]; exact I.free
  · obtain ⟨_, o, ho, _⟩ := I.ok.funs.mem hb
    exact I.base.free b o ho (I.ok.frf b hb) fun z => I.ok.exfs b z hb
theorem Inv.step {g' : Array GenState} {t' : Nat} {d' : Drawn} {ch : List Addr} (I : Inv X pins σ H s)
    (hch : ∀ b ∈ ch, (b ∈ X.ex ∨ X.s₀.heap.objs.size ≤ b) ∧ b ≠ X.env.locals ∧ (∀ x c, X.env.cells.lookup x = some c → c ≠ b) ∧ ∀ p ∈ X.pn ++ pins, p.1 ≠ b)
    (keep : ∀ b o, b ≠ X.env.locals → b ∉ X.fs → b ∉ ch → s.heap.get? b = some o → H b = none → h'.get? b = some o)
    (slot : ∀ b o, b ≠ X.env.locals → b ∈ X.fs → b ∉ ch → s.heap.get? b = some o → H b = none → ∃ sl, h'.get? b = some { o with slots := sl }) (free : ∀ b o, b ∉ ch → s.heap.get? b = some o → H b = none → H' b = none)
    (there : ∀ b o, b ∉ ch → s.heap.get? b = some o → ∃ o', h'.get? b = some o')
    (tups : ∀ b xs, H b = some (.tup xs) → H' b = some (.tup xs)) (frzs : ∀ b o u, H b = some (.frz o u) → H' b = some (.frz o u)) (tbls : ∀ b ps, H b = some (.tbl ps) → ∃ more, H' b = some (.tbl (ps ++ more)))
    (ns : ∀ m, s.heap.Ns X.env.locals m → h'.Ns X.env.locals m) (hok : HOk X.prog X.w H' h') (hg : AllBare g') :
    Inv X pins σ H' { s with heap := h', gens := g', drawn := d', toks := t' } := by
  have neL : ∀ b o, X.s₀.heap.get? b = some o → b ≠ X.env.locals := fun b o e => Nat.ne_of_lt (Nat.lt_of_lt_of_le (Heap.lt_size e) I.ok.above)
  have neC : ∀ b o, X.s₀.heap.get? b = some o → b ∉ X.ex → b ∉ ch := fun b o e hx hb => by
    rcases (hch b hb).1 with z | z
    · exact hx z
    · exact absurd (Nat.lt_of_lt_of_le (Heap.lt_size e) z) (Nat.lt_irrefl _)
  have cellK : ∀ x c, X.env.cells.lookup x = some c → ∀ v, s.heap.IsCell c v → h'.IsCell c v := fun x c e v ⟨o, ho, hd⟩ => by
    have nch : c ∉ ch := fun z => (hch c z).2.2.1 x c e rfl
    by_cases hc : c ∈ X.fs
    · obtain ⟨sl, q⟩ := slot c o (I.cne x c e) hc nch ho (I.freeC x c e)
      exact ⟨_, q, hd⟩
    · exact ⟨o, keep c o (I.cne x c e) hc nch ho (I.freeC x c e), hd⟩
  refine ⟨I.ok, I.os, hg, ⟨fun b o e n hb hx => ?_, fun b o e n hb hx => ?_, fun b o e n hx => ?_, fun b o e hx => ?_, fun b xs e => tups b xs (I.base.tups b xs e), fun b o xs e => frzs b o xs (I.base.frzs b o xs e), fun b ps e => ?_⟩, ?_, fun x c e => ?_, ?_, fun x c e => ?_, fun p hp => ?_, hok, I.len⟩
  · exact keep b o (neL b o e) hb (neC b o e hx) (I.base.keep b o e n hb hx) (I.base.free b o e n hx)
  · obtain ⟨sl, e1⟩ := I.base.slot b o e n hb hx
    obtain ⟨sl', e2⟩ := slot b _ (neL b o e) hb (neC b o e hx) e1 (I.base.free b o e n hx)
    exact ⟨sl', e2⟩
  · obtain ⟨o', e1⟩ := I.base.there b o e hx
    exact free b o' (neC b o e hx) e1 (I.base.free b o e n hx)
  · obtain ⟨o', e1⟩ := I.base.there b o e hx
    exact there b o' (neC b o e hx) e1
  · obtain ⟨m1, e1⟩ := I.base.tbls b ps e
    obtain ⟨m2, e2⟩ := tbls b _ e1
    exact ⟨m1 ++ m2, by rw [e2, Array.append_assoc]⟩
  · obtain ⟨m, hn, hl⟩ := I.loc
    refine ⟨m, ns m hn, fun i x v e1 e2 e3 => ?_⟩
    obtain ⟨u, r, l⟩ := hl i x v e1 e2 e3
    refine ⟨u, r, ?_⟩
    rcases l with l | ⟨k, c, e, z⟩
    · exact .inl l
    · exact .inr ⟨k, c, e, cellK x c e _ z⟩
  · obtain ⟨v, z⟩ := I.cell x c e
    exact ⟨v, cellK x c e v z⟩
  · obtain ⟨m, ⟨o, _, _, ho, _⟩, _⟩ := I.loc
    exact free _ o (fun z => (hch _ z).2.1 rfl) ho I.free
  · obtain ⟨v, o, ho, hd⟩ := I.cell x c e
    exact free c o (fun z => (hch c z).2.2.1 x c e rfl) ho (I.freeC x c e)
  · obtain ⟨e, n, ne, nf, d⟩ := I.pin p hp
    have nch : p.1 ∉ ch := fun z => (hch p.1 z).2.2.2 p hp rfl
    exact ⟨keep p.1 p.2 ne nf nch e n, free p.1 p.2 nch e n, ne, nf, d⟩
theorem Inv.un {t' : Nat} (I : Inv X pins σ H s) (u : Un X.fs [] H H' s.heap h') (hok : HOk X.prog X.w H' h') : Inv X pins σ H' { s with heap := h', toks := t' } := by
  obtain ⟨m, ⟨o, es, ep, ho, r⟩, _⟩ := id I.loc
  obtain ⟨sl, hL⟩ := u.any ho I.free (by simp)
  exact I.step (g' := s.gens) (d' := s.drawn) (ch := []) (fun _ z => nomatch z) (fun b o _ hb _ e n => u.keep b o e n hb (by simp)) (fun b o _ hb _ e n => u.slot b o e n hb (by simp)) (fun b o _ e n => u.free b o e n (by simp)) (fun b o _ e => u.there b o e (by simp)) u.tups u.frzs u.tbls (fun m' hm => by
    obtain ⟨o', es', ep', ho', r'⟩ := hm
    rw [ho] at ho'; cases ho'
    exact ⟨_, es', ep', hL, r'⟩) hok I.bare
theorem Inv.call {g' : Array GenState} {t' : Nat} {d' : Drawn} {ch : List Addr} (I : Inv X pins σ H s) (u : Un (frs X.stack) ch H H' s.heap h') (hok : HOk X.prog X.w H' h') (hg : AllBare g')
    (hch : ∀ b ∈ ch, (b ∈ X.ex ∨ X.s₀.heap.objs.size ≤ b) ∧ b ≠ X.env.locals ∧ (∀ x c, X.env.cells.lookup x = some c → c ≠ b) ∧ ∀ p ∈ X.pn ++ pins, p.1 ≠ b) :
    Inv X pins σ H' { s with heap := h', gens := g', drawn := d', toks := t' } := by
  obtain ⟨m, ⟨o, es, ep, ho, r⟩, _⟩ := id I.loc
  obtain ⟨sl, hL⟩ := u.any ho I.free fun z => (hch _ z).2.1 rfl
  exact I.step (ch := ch) hch (fun b o hL hb hc e n => u.keep b o e n (fun z => (List.mem_cons.mp (I.stkSub b z)).elim hL hb) hc) (fun b o _ _ hc e n => u.any e n hc) (fun b o hc e n => u.free b o e n hc) (fun b o hc e => u.there b o e hc) u.tups u.frzs u.tbls (fun m' hm => by
    obtain ⟨o', es', ep', ho', r'⟩ := hm
    rw [ho] at ho'; cases ho'
    exact ⟨_, es', ep', hL, r'⟩) hok hg
theorem Inv.turned {t' : Nat} {it : Addr} (I : Inv X pins σ H s) (k : ∀ b o, b ≠ it → s.heap.get? b = some o → h'.get? b = some o) (hn : H it = none) (hL : it ≠ X.env.locals)
    (h1 : it ∈ X.ex ∨ X.s₀.heap.objs.size ≤ it) (h2 : ∀ x c, X.env.cells.lookup x = some c → c ≠ it) (h3 : ∀ p ∈ X.pn ++ pins, p.1 ≠ it) : Inv X pins σ H { s with heap := h', toks := t' } := by
  have nit : ∀ b u, H b = some u → b ≠ it := fun b u e z => by rw [z, hn] at e; cases e
  refine I.step (g' := s.gens) (d' := s.drawn) (ch := [it]) (fun b hb => ?_) (fun b o _ _ hc e _ => k b o (fun z => hc (by simp [z])) e) (fun b o _ _ hc e _ => ⟨o.slots, k b o (fun z => hc (by simp [z])) e⟩) (fun _ _ _ _ n => n)
    (fun b o hc e => ⟨o, k b o (fun z => hc (by simp [z])) e⟩) (fun _ _ e => e) (fun _ _ _ e => e) (fun b ps e => ⟨#[], by rw [e]; simp⟩) (fun m hm => ?_) (fun b u e => ?_) I.bare
  · have e : b = it := by simpa using hb
    subst e
    exact ⟨h1, hL, h2, h3⟩
  · obtain ⟨o, es, ep, ho, r⟩ := hm
    exact ⟨o, es, ep, k _ o (Ne.symm hL) ho, r⟩
  · refine (I.hok b u e).stay (fun c v hc q => k c v ?_ q) (fun _ q => q) fun _ _ q => q
    rcases hc with z | z
    · rw [z]; exact nit b u e
    · exact nit c _ z
theorem Inv.tok (I : Inv X pins σ H s) (t : Nat) : Inv X pins σ H { s with toks := t } := I.un (h' := s.heap) (t' := t) Un.refl I.hok
theorem Inv.kept {t' : Nat} (I : Inv X pins σ H s) (k : ∀ b u, s.heap.get? b = some u → h'.get? b = some u) : Inv X pins σ H { s with heap := h', toks := t' } := I.un (Un.kept k) (I.hok.kept k)
theorem Inv.laid {a : Addr} {o : HO} {t' : Nat} (I : Inv X pins σ H s) (k : ∀ b u, s.heap.get? b = some u → h'.get? b = some u) (hp : s.heap.objs.size ≤ a) (new : ObjOk X.prog X.w (upd H a o) h' a o) :
    Inv X pins σ (upd H a o) { s with heap := h', toks := t' } := I.un (Un.laid k hp (I.hok.fresh hp)) (I.hok.laid k hp new)
theorem Inv.write {x e : Addr} {o : HO} {t' : Nat} (I : Inv X pins σ H s) (mu : Mut (H x)) (he : e = x ∨ H e = some (.own x)) (k : ∀ b u, b ≠ e → s.heap.get? b = some u → h'.get? b = some u) (heo : ∃ u, h'.get? e = some u)
    (new : ObjOk X.prog X.w (upd H x o) h' x o) : Inv X pins σ (upd H x o) { s with heap := h', toks := t' } := I.un (Un.write mu he k heo) (I.hok.write mu he k heo new)
theorem Inv.pins_of {pins' : List (Addr × Obj)} (I : Inv X pins σ H s) (h : ∀ p ∈ pins', s.heap.get? p.1 = some p.2 ∧ H p.1 = none ∧ p.1 ≠ X.env.locals ∧ p.1 ∉ X.fs ∧ ∀ v, p.2.data ≠ .cell v) : Inv X pins' σ H s :=
  ⟨I.ok, I.os, I.bare, I.base, I.loc, I.cell, I.free, I.freeC, fun p hp => (List.mem_append.mp hp).elim (fun z => I.pin p (List.mem_append_left _ z)) (h p), I.hok, I.len⟩
theorem nodup_ix {N : List Str} (hN : N.Nodup) {i j : Nat} {x : Str} (a : N[i]? = some x) (b : N[j]? = some x) : i = j := by
  obtain ⟨h1, e1⟩ := List.getElem?_eq_some_iff.mp a
  obtain ⟨h2, e2⟩ := List.getElem?_eq_some_iff.mp b
  exact (List.getElem_inj hN).mp (e1.trans e2.symm)
theorem store_ok2 {M : Model} {A : Around} {E : Value → Shared → Prop} {i : Nat} {x : Str} {v : V} {u : Value} {Q : Unit → Shared → Prop} (I : Inv X pins σ H s) (hN : X.N.Nodup) (hi : X.N[i]? = some x) (hx : Loc X.env.scope x) (r : RelV v u)
    (h : ∀ s', Inv X pins (σ.set i (some v)) H s' → (∃ a, Heap.SameBut a s.heap s'.heap ∧ (a = X.env.locals ∨ X.env.cells.lookup x = some a)) → Q () s') (hf : X.fn x = true ∨ X.env.scope.names.lookup x = some .local := by first | exact .inl rfl | exact .inr rfl | assumption) : wpAny M A (storeName X.env x u) Q E s := by
  obtain ⟨m, hn, hl⟩ := id I.loc
  have hcls : (X.env.scope.kind == .class || (X.env.scope.kind == .module && X.env.locals != X.env.globals)) = false := by rw [I.ok.kind]; rfl
  have hiσ : i < σ.length := by rw [I.len]; exact (List.getElem?_eq_some_iff.mp hi).1
  have cne := I.cne
  have tracked : ∀ {a : Addr} {h' : Heap}, (∃ o, s.heap.get? a = some o ∧ H a = none) → Heap.SameBut a s.heap h' → HOk X.prog X.w H h' := fun {a h'} ha hs b ob e => by
    obtain ⟨_, _, hfree⟩ := ha
    refine (I.hok b ob e).stay (fun c w' hc q => (hs.2 c ?_).trans q) (fun _ q => q) fun _ _ q => q
    rintro rfl
    rcases hc with rfl | hc
    · rw [hfree] at e; cases e
    · rw [hfree] at hc; cases hc
  rcases hx with hk | hk
  · refine wpAny_storeName_local hk hn (fun h' hn' hs => ?_) hcls
    obtain ⟨oL, _, _, hoL, _⟩ := id hn
    refine h _ ⟨I.ok, I.os, I.bare, ⟨fun b o e n hb hx => ?_, fun b o e n hb hx => ?_, I.base.free, fun b o e hx => ?_, I.base.tups, I.base.frzs, I.base.tbls⟩, ⟨_, hn', fun j y v' e1 e2 e3 => ?_⟩, fun y c e => ?_, I.free, I.freeC, fun p hp => ?_, tracked ⟨oL, hoL, I.free⟩ hs, by simpa using I.len⟩ ⟨_, hs, .inl rfl⟩
    · exact (hs.2 b (Nat.ne_of_lt (Nat.lt_of_lt_of_le (Heap.lt_size e) I.ok.above))).trans (I.base.keep b o e n hb hx)
    · obtain ⟨sl, e1⟩ := I.base.slot b o e n hb hx
      exact ⟨sl, (hs.2 b (Nat.ne_of_lt (Nat.lt_of_lt_of_le (Heap.lt_size e) I.ok.above))).trans e1⟩
    · obtain ⟨o', e1⟩ := I.base.there b o e hx
      exact ⟨o', (hs.2 b (Nat.ne_of_lt (Nat.lt_of_lt_of_le (Heap.lt_size e) I.ok.above))).trans e1⟩
    · by_cases hj : j = i
      · subst hj
        rw [hi] at e1; cases e1
        rw [List.getElem?_set_self hiσ] at e2
        cases e2
        exact ⟨u, r, .inl ⟨hk, by simp⟩⟩
      · rw [List.getElem?_set_ne (Ne.symm hj)] at e2
        obtain ⟨u', r', q⟩ := hl j y v' e1 e2 e3
        refine ⟨u', r', ?_⟩
        rcases q with ⟨k, e⟩ | ⟨k, c, e, z⟩
        · refine .inl ⟨k, ?_⟩
          have : y ≠ x := fun e => hj (nodup_ix hN e1 (e ▸ hi))
          simp [this, e]
        · exact .inr ⟨k, c, e, z.sameBut hs (cne y c e)⟩
    · obtain ⟨w', z⟩ := I.cell y c e
      exact ⟨w', z.sameBut hs (cne y c e)⟩
    · obtain ⟨e, n, ne, nf, d⟩ := I.pin p hp
      exact ⟨(hs.2 p.1 ne).trans e, n, ne, nf, d⟩
  · have hfn : X.fn x = true := by
      rcases hf with z | z
      · exact z
      · rw [z] at hk; cases hk
    obtain ⟨c, hc⟩ := I.ok.has x (.inl hk)
    obtain ⟨w', z⟩ := I.cell x c hc
    refine wpAny_storeName_cell I.ok.kind hk hc z (fun h' hc' hs => ?_)
    obtain ⟨oc, hoc, hocd⟩ := id z
    refine h { s with heap := h' } ⟨I.ok, I.os, I.bare, ⟨fun b o e n hb hx => ?_, fun b o e n hb hx => ?_, I.base.free, fun b o e hx => ?_, I.base.tups, I.base.frzs, I.base.tbls⟩, ⟨m, hn.sameBut hs (Ne.symm (cne x c hc)), fun j y v' e1 e2 e3 => ?_⟩, fun y c' e => ?_, I.free, I.freeC, fun p hp => ?_, tracked ⟨oc, hoc, I.freeC x c hc⟩ hs, by simpa using I.len⟩ ⟨c, hs, .inr hc⟩
    · exact (hs.2 b (Nat.ne_of_lt (Nat.lt_of_lt_of_le (Heap.lt_size e) (I.ok.cab x c hfn hc)))).trans (I.base.keep b o e n hb hx)
    · obtain ⟨sl, e1⟩ := I.base.slot b o e n hb hx
      exact ⟨sl, (hs.2 b (Nat.ne_of_lt (Nat.lt_of_lt_of_le (Heap.lt_size e) (I.ok.cab x c hfn hc)))).trans e1⟩
    · obtain ⟨o', e1⟩ := I.base.there b o e hx
      exact ⟨o', (hs.2 b (Nat.ne_of_lt (Nat.lt_of_lt_of_le (Heap.lt_size e) (I.ok.cab x c hfn hc)))).trans e1⟩
    · by_cases hj : j = i
      · subst hj
        rw [hi] at e1; cases e1
        rw [List.getElem?_set_self hiσ] at e2
        cases e2
        exact ⟨u, r, .inr ⟨.inl hk, c, hc, hc'⟩⟩
      · rw [List.getElem?_set_ne (Ne.symm hj)] at e2
        obtain ⟨u', r', q⟩ := hl j y v' e1 e2 e3
        refine ⟨u', r', ?_⟩
        rcases q with q | ⟨k, c', e, z'⟩
        · exact .inl q
        · refine .inr ⟨k, c', e, z'.sameBut hs ?_⟩
          rintro rfl
          exact hj (nodup_ix hN e1 (I.ok.inj _ _ _ e hc ▸ hi))
    · by_cases hcc : c' = c
      · subst hcc; exact ⟨_, hc'⟩
      · obtain ⟨w2, z2⟩ := I.cell y c' e
        exact ⟨w2, z2.sameBut hs hcc⟩
    · obtain ⟨e, n, ne, nf, d⟩ := I.pin p hp
      refine ⟨(hs.2 p.1 ?_).trans e, n, ne, nf, d⟩
      intro q
      rw [q, hoc] at e
      have q' : oc = p.2 := Option.some.inj e
      exact d w' (by rw [← q']; exact hocd)
theorem store_ok {M : Model} {A : Around} {E : Value → Shared → Prop} {i : Nat} {x : Str} {v : V} {u : Value} {Q : Unit → Shared → Prop} (I : Inv X pins σ H s) (hN : X.N.Nodup) (hi : X.N[i]? = some x) (hx : Loc X.env.scope x) (r : RelV v u)
    (h : ∀ s', Inv X pins (σ.set i (some v)) H s' → Q () s') (hf : X.fn x = true ∨ X.env.scope.names.lookup x = some .local := by first | exact .inl rfl | exact .inr rfl | assumption) : wpAny M A (storeName X.env x u) Q E s :=
  store_ok2 I hN hi hx r (fun s' I' _ => h s' I') hf
theorem Inv.call' {s' : Shared} {ch : List Addr} (I : Inv X pins σ H s) (ho : s'.os = s.os) (u : Un (frs X.stack) ch H H' s.heap s'.heap) (hok : HOk X.prog X.w H' s'.heap) (hg : AllBare s'.gens)
    (hch : ∀ b ∈ ch, (b ∈ X.ex ∨ X.s₀.heap.objs.size ≤ b) ∧ b ≠ X.env.locals ∧ (∀ x c, X.env.cells.lookup x = some c → c ≠ b) ∧ ∀ p ∈ X.pn ++ pins, p.1 ≠ b) : Inv X pins σ H' s' := by
  obtain ⟨h', g', d', t', o'⟩ := s'
  have e : o' = s.os := ho
  subst e
  exact I.call (g' := g') (t' := t') (d' := d') u hok hg hch
end
abbrev XK := Value → Option Addr → Hp → Prop
abbrev St := List (Option V)
abbrev VK := V → Hp → Prop
abbrev TE := St → Hp → VK → Prop
abbrev TT := St → Hp → (Bool → Hp → Prop) → Prop
abbrev TA := St → Hp → (List V → Hp → Prop) → Prop
set_option genInjectivity false in
set_option genSizeOf false in
structure Ends where
  nx : St → Hp → Prop
  rt : VK
  bk : St → Hp → Prop := fun _ _ => False
  ct : St → Hp → Prop := fun _ _ => False
abbrev TS := Ends → St → Hp → Prop
def EP (X : Cx) (pins : List (Addr × Obj)) (σ : St) (Q : VK) (u : Value) (s' : Shared) : Prop := ∃ v H', Inv X pins σ H' s' ∧ RelV v u ∧ Q v H'
def TP (X : Cx) (pins : List (Addr × Obj)) (σ : St) (Q : Bool → Hp → Prop) (b : Bool) (s' : Shared) : Prop := ∃ H', Inv X pins σ H' s' ∧ Q b H'
def AP (X : Cx) (pins : List (Addr × Obj)) (σ : St) (Q : List V → Hp → Prop) (us : List Value) (s' : Shared) : Prop := ∃ vs H', Inv X pins σ H' s' ∧ Vals vs us ∧ Q vs H'
def SP (X : Cx) (pins : List (Addr × Obj)) (D : Ends) (f : Flow) (s' : Shared) : Prop :=
  match f with
  | .next => ∃ σ' H', Inv X pins σ' H' s' ∧ D.nx σ' H'
  | .brk => ∃ σ' H', Inv X pins σ' H' s' ∧ D.bk σ' H'
  | .cont => ∃ σ' H', Inv X pins σ' H' s' ∧ D.ct σ' H'
  | .ret u => ∃ v σ' H', Inv X pins σ' H' s' ∧ RelV v u ∧ D.rt v H'
def PE (X : Cx) (e : Expr) (t : TE) : Prop :=
  ∀ (pins : List (Addr × Obj)) (s : Shared) (σ : St) (H : Hp) (Q : VK), Inv X pins σ H s → t σ H Q → wpAny (model X.prog X.w) X.A (eval e X.env) (EP X pins σ Q) X.xe s
def PT (X : Cx) (e : Expr) (t : TT) : Prop :=
  ∀ (pins : List (Addr × Obj)) (s : Shared) (σ : St) (H : Hp) (Q : Bool → Hp → Prop), Inv X pins σ H s → t σ H Q → wpAny (model X.prog X.w) X.A (isTrue e X.env (eval e X.env)) (TP X pins σ Q) X.xe s
def PW (X : Cx) (e : Expr) (t : TT) : Prop :=
  ∀ (whole : Sem Value) (pins : List (Addr × Obj)) (s : Shared) (σ : St) (H : Hp) (Q : Bool → Hp → Prop), Inv X pins σ H s → t σ H Q → wpAny (model X.prog X.w) X.A (isTrue e X.env whole) (TP X pins σ Q) X.xe s
theorem PW.pt {X : Cx} {e : Expr} {t : TT} (h : PW X e t) : PT X e t := h _
def PA (X : Cx) (es : List Expr) (t : TA) : Prop :=
  ∀ (pos : Pos) (pins : List (Addr × Obj)) (s : Shared) (σ : St) (H : Hp) (Q : List V → Hp → Prop), Inv X pins σ H s → t σ H Q → wpAny (model X.prog X.w) X.A (spliced (backTo pos (starEach es X.env))) (AP X pins σ Q) X.xe s
def PS (X : Cx) (st : Stmt) (t : TS) : Prop :=
  ∀ (pins : List (Addr × Obj)) (s : Shared) (σ : St) (H : Hp) (D : Ends), Inv X pins σ H s → t D σ H → wpAny (model X.prog X.w) X.A (exec st X.env) (SP X pins D) X.xe s
def PSs (X : Cx) (st : List Stmt) (t : TS) : Prop :=
  ∀ (pins : List (Addr × Obj)) (s : Shared) (σ : St) (H : Hp) (D : Ends), Inv X pins σ H s → t D σ H → wpAny (model X.prog X.w) X.A (execs st X.env) (SP X pins D) X.xe s
theorem thn {α : Type} {t : Sem α} {Q Q' : α → Shared → Prop} {M : Model} {A : Around} {E : Value → Shared → Prop} {s : Shared} (h : wpAny M A t Q E s) (hQ : ∀ a s, Q a s → Q' a s) : wpAny M A t Q' E s := wpAny_mono h hQ fun _ _ x => x
end L2
namespace L2
open PySem PySem.Spec PyProof.Rows
section
variable {X : Cx}
def tVar (i : Nat) : TE := fun σ H Q => match σ[i]? with
  | some (some v) => Q v H
  | _ => False
theorem tVar_inv {i : Nat} {σ : St} {H : Hp} {Q : VK} (h : tVar i σ H Q) : ∃ v, σ[i]? = some (some v) ∧ Q v H := by
  unfold tVar at h
  split at h
  · exact ⟨_, by assumption, h⟩
  · exact h.elim
def tC (v : V) : TE := fun _ H Q => Q v H
theorem pe_var {i : Nat} {x : Str} {pos : Pos} (hN : X.N[i]? = some x) (hv : Vis X.env.scope x) (hd : (x == ("__debug__" : Str)) = false := by decide) (hcd : (x == ("__classdict__" : Str)) = false := by decide) : PE X (.Name x pos) (tVar i) := by
  intro pins s σ H Q I h
  obtain ⟨v, e, h⟩ := tVar_inv h
  obtain ⟨m, hn, hl⟩ := I.loc
  obtain ⟨u, r, l⟩ := hl i x v hN e hv
  have fin : EP X pins σ Q u s := ⟨v, H, I, r, h⟩
  rcases l with ⟨hk, hm⟩ | ⟨hk, c, hc, hcell⟩
  · exact wpAny_Name (wpAny_loadName_local I.ok.kind hk hn hm fin) hd
  · rcases hk with hk | hk
    · exact wpAny_Name (wpAny_loadName_cell I.ok.kind hk hc hcell fin) hd
    · exact wpAny_Name (wpAny_loadName_free I.ok.kind hk hc hcell fin hcd) hd
theorem pe_int {i j pos} : PE X (.Constant (.int i) j pos) (tC (.int i)) := fun _ _ _ H _ I h => wpAny_Constant_int ⟨.int i, H, I.tok _, ⟨_, rfl⟩, h⟩
theorem pe_bl {b j pos} : PE X (.Constant (.bool b) j pos) (tC (.bl b)) := fun _ _ _ H _ I h => Constant_bool ⟨.bl b, H, I, rfl, h⟩
theorem pe_non {j pos} : PE X (.Constant .none j pos) (tC .non) := fun _ _ _ H _ I h => Constant_none ⟨.non, H, I, rfl, h⟩
theorem pe_str {x j pos} : PE X (.Constant (.str x) j pos) (tC (.str x)) := fun _ _ _ H _ I h => Calls.Constant_str ⟨.str x, H, I.tok _, ⟨_, rfl⟩, h⟩
def Gl (X : Cx) (x : Str) : Prop := X.env.kindOf x = some .globalImplicit
theorem ld_glob {E : Value → Shared → Prop} {pins : List (Addr × Obj)} {s : Shared} {σ : St} {H : Hp} {x : Str} {u : Value} {pos : Pos} {Q : Value → Shared → Prop} (I : Inv X pins σ H s) (hg : Gl X x) (hm : X.mg x = some u) (h : Q u s)
    (hd : (x == ("__debug__" : Str)) = false := by decide) : wpAny (model X.prog X.w) X.A (eval (.Name x pos) X.env) Q E s :=
  Calls.Name_function_global I.ok.kind hg (Calls.loadGlobal_global (by rw [I.ok.glob]; exact I.mod.glob.keeps I.bk) hm h) hd
theorem ld_blt {E : Value → Shared → Prop} {pins : List (Addr × Obj)} {s : Shared} {σ : St} {H : Hp} {x : Str} {u : Value} {pos : Pos} {Q : Value → Shared → Prop} (I : Inv X pins σ H s) (hg : Gl X x) (hm : X.mg x = none) (hv : bootBuiltins x = some u) (h : Q u s)
    (hn : x ≠ "__name__" := by decide) (hd : (x == ("__debug__" : Str)) = false := by decide) : wpAny (model X.prog X.w) X.A (eval (.Name x pos) X.env) Q E s := by
  obtain ⟨mb, h1, h2⟩ := I.mod.blt
  exact Calls.Name_function_global I.ok.kind hg (Calls.loadGlobal_builtin (by rw [I.ok.glob]; exact I.mod.glob.keeps I.bk) hm (by rw [I.ok.blt]; exact h1.keeps I.bk) ((h2 x hn).trans hv) h) hd
theorem pe_glob {x : Str} {v : V} {u : Value} {pos : Pos} (hg : Gl X x) (hm : X.mg x = some u) (r : RelV v u) (hd : (x == ("__debug__" : Str)) = false := by decide) : PE X (.Name x pos) (tC v) :=
  fun _ _ _ H _ I h => ld_glob I hg hm ⟨v, H, I, r, h⟩ hd
theorem pe_bltn {x : Str} {v : V} {u : Value} {pos : Pos} (hg : Gl X x) (hm : X.mg x = none) (hv : bootBuiltins x = some u) (r : RelV v u) (hn : x ≠ "__name__" := by decide) (hd : (x == ("__debug__" : Str)) = false := by decide) : PE X (.Name x pos) (tC v) :=
  fun _ _ _ H _ I h => ld_blt I hg hm hv ⟨v, H, I, r, h⟩ hn hd
variable {a b : Expr} {ta tb : TE} {pos : Pos}
def tB (t : TE) : TT := fun σ H Q => t σ H fun x H1 => ∃ c, x = .bl c ∧ Q c H1
theorem pt_val {e : Expr} {t : TE} (h : PE X e t) (he : ∀ whole, isTrue e X.env whole = (do let v ← whole; standAt e.pos; holding [v] (truthy v)) := by intro _; rfl) : PT X e (tB t) := by
  intro pins s σ H Q I hw
  refine isTrue_plain (thn (h pins s σ H _ I hw) fun v s1 ⟨x, H1, I1, r1, q1⟩ => ?_) (he _)
  obtain ⟨d, rfl, q⟩ := q1
  cases r1
  exact wpAny_truthy_bool ⟨H1, I1, q⟩
variable {tA tB' : TT} {rest : List Expr}
def tAnd (t u : TT) : TT := fun σ H Q => t σ H fun c H1 => if c = true then u σ H1 Q else Q false H1
def tOr (t u : TT) : TT := fun σ H Q => t σ H fun c H1 => if c = true then Q true H1 else u σ H1 Q
def tNot (t : TT) : TT := fun σ H Q => t σ H fun c H1 => Q (!c) H1
theorem pw_and1 (ha : PT X a tA) : PW X (.BoolOp .And [a] pos) tA := by
  intro wh pins s σ H Q I h
  refine isTrue_and (thn (ha pins s σ H Q I h) fun c s1 e => ?_)
  cases c with
  | true => exact isTrue_and_nil e
  | false => exact e
theorem pw_or1 (ha : PT X a tA) : PW X (.BoolOp .Or [a] pos) tA := by
  intro wh pins s σ H Q I h
  refine isTrue_or (thn (ha pins s σ H Q I h) fun c s1 e => ?_)
  cases c with
  | false => exact isTrue_or_nil e
  | true => exact e
theorem pw_and (ha : PT X a tA) (hb : PW X (.BoolOp .And (b :: rest) pos) tB') : PW X (.BoolOp .And (a :: b :: rest) pos) (tAnd tA tB') := by
  intro wh pins s σ H Q I h
  refine isTrue_and (thn (ha pins s σ H _ I h) fun c s1 ⟨H1, I1, q1⟩ => ?_)
  cases c with
  | true => exact hb wh pins s1 σ H1 Q I1 q1
  | false => exact ⟨H1, I1, q1⟩
theorem pw_or (ha : PT X a tA) (hb : PW X (.BoolOp .Or (b :: rest) pos) tB') : PW X (.BoolOp .Or (a :: b :: rest) pos) (tOr tA tB') := by
  intro wh pins s σ H Q I h
  refine isTrue_or (thn (ha pins s σ H _ I h) fun c s1 ⟨H1, I1, q1⟩ => ?_)
  cases c with
  | true => exact ⟨H1, I1, q1⟩
  | false => exact hb wh pins s1 σ H1 Q I1 q1
theorem pt_not (ha : PT X a tA) : PT X (.UnaryOp .Not a pos) (tNot tA) := by
  intro pins s σ H Q I h
  exact isTrue_not (ha pins s σ H (fun c H1 => Q (!c) H1) I h)
def tAndV (ta tb : TE) : TE := fun σ H Q => ta σ H fun x H1 => ∃ c, x = .bl c ∧ if c = true then tb σ H1 Q else Q (.bl false) H1
def tOrV (ta tb : TE) : TE := fun σ H Q => ta σ H fun x H1 => ∃ c, x = .bl c ∧ if c = true then Q (.bl true) H1 else tb σ H1 Q
def tNotV (ta : TE) : TE := fun σ H Q => ta σ H fun x H1 => ∃ c, x = .bl c ∧ Q (.bl (!c)) H1
def tIf (t : TT) (ta tb : TE) : TE := fun σ H Q => t σ H fun c H1 => if c = true then ta σ H1 Q else tb σ H1 Q
theorem pe_ifExp {c : Expr} (hc : PT X c tA) (ha : PE X a ta) (hb : PE X b tb) : PE X (.IfExp c a b pos) (tIf tA ta tb) := by
  intro pins s σ H Q I h
  refine wpAny_IfExp (thn (hc pins s σ H _ I h) fun d s1 ⟨H1, I1, q1⟩ => ?_)
  cases d with
  | true => exact ha pins s1 σ H1 Q I1 q1
  | false => exact hb pins s1 σ H1 Q I1 q1
end
end L2
namespace L2
open PySem PySem.Spec PyProof.Rows
def SqL (K : PySem.W.Frag) (H : Hp) (a : Addr) (xs : List V) : Prop :=
  Rd H a (.lst xs) ∨
    ∃ (o : Obj) (its : Array Value) (n : Nat), K.lookup a = some o ∧ o.cls = .type "list" ∧ o.dict = none ∧ o.data = .seq its n ∧ its.size ≤ sizeLine ∧ Vals xs its.toList
def SqT (K : PySem.W.Frag) (H : Hp) (a : Addr) (xs : List V) : Prop :=
  Rd H a (.tup xs) ∨
    ∃ (o : Obj) (its : Array Value) (n : Nat), K.lookup a = some o ∧ o.cls = .type "tuple" ∧ o.data = .seq its n ∧ its.size ≤ sizeLine ∧ Vals xs its.toList
def absV : Value → Option V
  | .none => some .non
  | .bool b => some (.bl b)
  | .int i _ => some (.int i)
  | .str x _ => some (.str x)
  | .bytes b _ => some (.byt b)
  | .float b _ => some (.flt b)
  | .ref a => some (.ref a)
  | .type n => some (.ty n)
  | _ => none
theorem RelV.abs {x : V} {u : Value} (r : RelV x u) : absV u = some x := by
  cases x with
  | non => cases r; rfl
  | bl _ => cases r; rfl
  | int _ => obtain ⟨t, rfl⟩ := r; rfl
  | str _ => obtain ⟨t, rfl⟩ := r; rfl
  | byt _ => obtain ⟨t, rfl⟩ := r; rfl
  | flt _ => obtain ⟨t, rfl⟩ := r; rfl
  | ref _ => cases r; rfl
  | ty _ => cases r; rfl
theorem RelV.inj {x y : V} {u : Value} (r : RelV x u) (q : RelV y u) : x = y := Option.some.inj (r.abs.symm.trans q.abs)
theorem Vals.inj : ∀ {xs ys : List V} {us : List Value}, Vals xs us → Vals ys us → xs = ys
  | _, _, _, .nil, .nil => rfl
  | _, _, _, .cons r t, .cons r' t' => by rw [r.inj r', Vals.inj t t']
section
variable {X : Cx} {pins : List (Addr × Obj)} {σ : St} {H : Hp} {s : Shared} {a : Addr} {xs ys : List V}
theorem SqL.of {K : PySem.W.Frag} (h : H a = some (.lst xs)) : SqL K H a xs := .inl (.inl h)
theorem SqT.of {K : PySem.W.Frag} (h : H a = some (.tup xs)) : SqT K H a xs := .inl (.inl h)
theorem Inv.list (I : Inv X pins σ H s) (h : SqL X.K H a xs) : ∃ its : List Value, Vals xs its ∧ PlainL s.heap a its.toArray ∧ xs.length ≤ sizeLine := by
  rcases h with h | ⟨o, its, n, hk, hc, hd, hs, hz, r⟩
  · obtain ⟨z, its, n, r, e⟩ := h.ok I.hok
    exact ⟨its, r, ⟨_, n, e, rfl, rfl, rfl⟩, z⟩
  · refine ⟨its.toList, r, ⟨o, n, I.kIn a o hk, hc, hd, by simpa using hs⟩, ?_⟩
    have e := r.length
    simp only [Array.length_toList] at e
    omega
theorem Inv.tuple (I : Inv X pins σ H s) (h : SqT X.K H a xs) : ∃ its : List Value, Vals xs its ∧ IsTup s.heap a its.toArray ∧ xs.length ≤ sizeLine := by
  rcases h with h | ⟨o, its, n, hk, hc, hs, hz, r⟩
  · obtain ⟨z, its, r, p⟩ := h.ok I.hok
    exact ⟨its, r, p, z⟩
  · refine ⟨its.toList, r, ⟨o, I.kIn a o hk, hc, n, by simpa using hs⟩, ?_⟩
    have e := r.length
    simp only [Array.length_toList] at e
    omega
theorem Inv.list_inj (I : Inv X pins σ H s) (h : SqL X.K H a xs) (h' : SqL X.K H a ys) : xs = ys := by
  obtain ⟨its, r, ⟨o, n, e, _, _, d⟩, _⟩ := I.list h
  obtain ⟨its', r', ⟨o', n', e', _, _, d'⟩, _⟩ := I.list h'
  rw [e] at e'; cases e'
  rw [d] at d'
  injection d' with d1 _
  have : its = its' := by simpa using congrArg Array.toList d1
  subst this
  exact r.inj r'
theorem Inv.tuple_inj (I : Inv X pins σ H s) (h : SqT X.K H a xs) (h' : SqT X.K H a ys) : xs = ys := by
  obtain ⟨its, r, ⟨o, e, _, n, d⟩, _⟩ := I.tuple h
  obtain ⟨its', r', ⟨o', e', _, n', d'⟩, _⟩ := I.tuple h'
  rw [e] at e'; cases e'
  rw [d] at d'
  injection d' with d1 _
  have : its = its' := by simpa using congrArg Array.toList d1
  subst this
  exact r.inj r'
end
abbrev Cx.wish (X : Cx) (E : Value → Shared → Prop) : Cx := { X with xe := E }
abbrev Cx.nox (X : Cx) : Cx := X.wish fun _ _ => False
theorem Cx.Ok.wish {X : Cx} (ok : X.Ok) (E : Value → Shared → Prop) : (X.wish E).Ok :=
  ⟨ok.mod, ok.kind, ok.glob, ok.blt, ok.above, ok.inj, ok.has, ok.cab, ok.hd, ok.frames, ok.stk, ok.exf, ok.bs, ok.bsz, ok.noex, ok.exfs, ok.funs, ok.frf⟩
theorem Cx.Ok.unwish {X : Cx} {E : Value → Shared → Prop} (ok : (X.wish E).Ok) : X.Ok :=
  ⟨ok.mod, ok.kind, ok.glob, ok.blt, ok.above, ok.inj, ok.has, ok.cab, ok.hd, ok.frames, ok.stk, ok.exf, ok.bs, ok.bsz, ok.noex, ok.exfs, ok.funs, ok.frf⟩
section
variable {X : Cx} {pins : List (Addr × Obj)} {σ : St} {H : Hp} {s : Shared} {E : Value → Shared → Prop}
theorem Inv.wish (I : Inv X pins σ H s) (E : Value → Shared → Prop) : Inv (X.wish E) pins σ H s := ⟨I.ok.wish E, I.os, I.bare, I.base, I.loc, I.cell, I.free, I.freeC, I.pin, I.hok, I.len⟩
theorem Inv.unwish (I : Inv (X.wish E) pins σ H s) : Inv X pins σ H s := ⟨I.ok.unwish, I.os, I.bare, I.base, I.loc, I.cell, I.free, I.freeC, I.pin, I.hok, I.len⟩
theorem SP.unwish {D : Ends} {f : Flow} {s' : Shared} (h : SP (X.wish E) pins D f s') : SP X pins D f s' := by
  cases f with
  | next => obtain ⟨σ', H', I, q⟩ := h; exact ⟨σ', H', I.unwish, q⟩
  | brk => obtain ⟨σ', H', I, q⟩ := h; exact ⟨σ', H', I.unwish, q⟩
  | cont => obtain ⟨σ', H', I, q⟩ := h; exact ⟨σ', H', I.unwish, q⟩
  | ret u => obtain ⟨v, σ', H', I, r, q⟩ := h; exact ⟨v, σ', H', I.unwish, r, q⟩
theorem PE.nox {e : Expr} {t : TE} (h : PE X.nox e t) : PE X e t := fun pins s σ H Q I hw =>
  wpAny_mono (h pins s σ H Q (I.wish _) hw) (fun _ _ ⟨v, H', I', r, q⟩ => ⟨v, H', I'.unwish, r, q⟩) fun _ _ z => False.elim z
theorem PT.nox {e : Expr} {t : TT} (h : PT X.nox e t) : PT X e t := fun pins s σ H Q I hw =>
  wpAny_mono (h pins s σ H Q (I.wish _) hw) (fun _ _ ⟨H', I', q⟩ => ⟨H', I'.unwish, q⟩) fun _ _ z => False.elim z
theorem PSs.nox {st : List Stmt} {t : TS} (h : PSs X.nox st t) : PSs X st t := fun pins s σ H D I hw =>
  wpAny_mono (h pins s σ H D (I.wish _) hw) (fun _ _ q => q.unwish) fun _ _ z => False.elim z
end
section
variable {X : Cx} {st : Stmt} {rest : List Stmt} {t u : TS} {e : Expr} {te : TE} {pos : Pos}
def tNext : TS := fun D σ H => D.nx σ H
def tSeq (t u : TS) : TS := fun D σ H => t { D with nx := u D } σ H
theorem pss_nil : PSs X [] tNext := fun _ _ σ H _ I h => wpAny_execs_nil ⟨σ, H, I, h⟩
theorem pss_cons (h1 : PS X st t) (h2 : PSs X rest u) : PSs X (st :: rest) (tSeq t u) := by
  intro pins s σ H D I h
  refine wpAny_execs_cons (thn (h1 pins s σ H { D with nx := u D } I h) fun f s1 q => ?_)
  cases f with
  | next =>
    obtain ⟨σ', H', I', q⟩ := q
    exact h2 pins s1 σ' H' D I' q
  | ret v => exact q
  | brk => exact q
  | cont => exact q
theorem pss_one (h1 : PS X st t) : PSs X [st] t := by
  intro pins s σ H D I h
  refine wpAny_execs_cons (thn (h1 pins s σ H D I h) fun f s1 q => ?_)
  cases f with
  | next => exact wpAny_execs_nil q
  | ret v => exact q
  | brk => exact q
  | cont => exact q
theorem Inv.quiet {pins : List (Addr × Obj)} {σ : St} {H : Hp} {s : Shared} (I : Inv X pins σ H s) : interactive X.env = false := by simp [interactive, I.ok.kind]
def tDrop (te : TE) : TS := fun D σ H => te σ H fun _ H1 => D.nx σ H1
theorem ps_expr (he : PE X e te) (hs : swapsWith e none pos.line X.env = pure false := by rfl) : PS X (.Expr e pos) (tDrop te) := by
  intro pins s σ H D I h
  exact wpAny_Expr_any (thn (he pins s σ H _ I h) fun v s1 ⟨x, H1, I1, r1, q1⟩ => ⟨σ, H1, I1, q1⟩) I.quiet hs
def tRet (te : TE) : TS := fun D σ H => te σ H D.rt
theorem ps_ret (he : PE X e te) : PS X (.Return (some e) pos) (tRet te) := by
  intro pins s σ H D I h
  exact wpAny_Return_some (thn (he pins s σ H _ I h) fun v s1 ⟨x, H1, I1, r1, q1⟩ => ⟨x, σ, H1, I1, r1, q1⟩)
def tRetN : TS := fun D _ H => D.rt .non H
def tIfS (c : TT) (t u : TS) : TS := fun D σ H => c σ H fun b H1 => if b = true then t D σ H1 else u D σ H1
theorem ps_if {c : Expr} {a b : List Stmt} {tc : TT} (hc : PT X c tc) (ha : PSs X a t) (hb : PSs X b u) : PS X (.If c a b pos) (tIfS tc t u) := by
  intro pins s σ H D I h
  refine wpAny_If (thn (hc pins s σ H _ I h) fun d s1 ⟨H1, I1, q1⟩ => ?_)
  cases d with
  | true => exact ha pins s1 σ H1 D I1 q1
  | false => exact hb pins s1 σ H1 D I1 q1
end
abbrev TG := V → St → Hp → (St → Hp → Prop) → Prop
abbrev TGs := List V → St → Hp → (St → Hp → Prop) → Prop
def PG (X : Cx) (target : Expr) (t : TG) : Prop :=
  ∀ (pins : List (Addr × Obj)) (s : Shared) (σ : St) (H : Hp) (v : V) (u : Value) (Q : St → Hp → Prop), Inv X pins σ H s → RelV v u → t v σ H Q →
    wpAny (model X.prog X.w) X.A (assign target X.env u) (fun _ s' => ∃ σ' H', Inv X pins σ' H' s' ∧ Q σ' H') X.xe s
def PGs (X : Cx) (ts : List Expr) (t : TGs) : Prop :=
  ∀ (pins : List (Addr × Obj)) (s : Shared) (σ : St) (H : Hp) (vs : List V) (us : List Value) (Q : St → Hp → Prop), Inv X pins σ H s → Vals vs us → t vs σ H Q →
    wpAny (model X.prog X.w) X.A (assignInOrder ((assignEach ts X.env).map (·.2)) us) (fun _ s' => ∃ σ' H', Inv X pins σ' H' s' ∧ Q σ' H') X.xe s
abbrev TSet := V → V → V → Hp → (Hp → Prop) → Prop
def PSet (X : Cx) (t : TSet) : Prop :=
  ∀ (pins : List (Addr × Obj)) (s : Shared) (σ : St) (H : Hp) (o i v : V) (ov iv u : Value) (Q : Hp → Prop), Inv X pins σ H s → RelV o ov → RelV i iv → RelV v u → t o i v H Q →
    wpAny (model X.prog X.w) X.A (setItem ov iv u) (fun _ s' => ∃ H', Inv X pins σ H' s' ∧ Q H') X.xe s
abbrev TIp := V → V → Hp → VK → Prop
section
variable {X : Cx} {pos : Pos}
def gName (i : Nat) : TG := fun v σ H Q => Q (σ.set i (some v)) H
theorem pg_name {i : Nat} {x : Str} (hN : X.N.Nodup) (hi : X.N[i]? = some x) (hx : Loc X.env.scope x) (hf : X.fn x = true ∨ X.env.scope.names.lookup x = some .local := by first | exact .inl rfl | exact .inr rfl | assumption) : PG X (.Name x pos) (gName i) := by
  intro pins s σ H v u Q I r h
  exact wpAny_assign_Name (store_ok I hN hi hx r (fun s' I' => ⟨_, H, I', h⟩) hf)
def gNil : TGs := fun vs σ H Q => vs = [] ∧ Q σ H
def gCons (t : TG) (u : TGs) : TGs := fun vs σ H Q => ∃ v r, vs = v :: r ∧ t v σ H fun σ' H' => u r σ' H' Q
theorem pgs_nil : PGs X [] gNil := by
  intro pins s σ H vs us Q I r h
  obtain ⟨e, h⟩ := h
  subst e
  cases r
  exact assignInOrder_nil ⟨σ, H, I, h⟩
theorem pgs_cons {e : Expr} {es : List Expr} {t : TG} {u : TGs} (h1 : PG X e t) (h2 : PGs X es u)
    (hs : (assignEach (e :: es) X.env).map (·.2) = assign e X.env :: (assignEach es X.env).map (·.2) := by rfl) : PGs X (e :: es) (gCons t u) := by
  intro pins s σ H vs us Q I r h
  obtain ⟨v, vr, e1, h⟩ := h
  subst e1
  cases r with
  | cons r rr =>
    rw [hs]
    refine assignInOrder_cons (thn (h1 pins s σ H _ _ _ I r h) fun _ s1 ⟨σ1, H1, I1, q1⟩ => ?_)
    exact h2 pins s1 σ1 H1 _ _ Q I1 rr q1
def gTup (K : PySem.W.Frag) (n : Nat) (t : TGs) : TG := fun v σ H Q => ∃ a xs, v = .ref a ∧ SqT K H a xs ∧ xs.length = n ∧ t xs σ H Q
theorem pg_tup {es : List Expr} {k : Nat} {t : TGs} {n : Nat} (hc : X.calm = true) (h : PGs X es t)
    (hn : (assignEach es X.env).length = n := by rfl) (hst : (assignEach es X.env).findIdx? (·.1) = none := by rfl) : PG X (.Tuple es k pos) (gTup X.K n t) := by
  intro pins s σ H v u Q I r hw
  obtain ⟨a, xs, e1, hq, hl, hw⟩ := hw
  subst e1
  cases r
  obtain ⟨its, rv, ht, hz⟩ := I.tuple hq
  refine assign_Tuple_tuple (I.ok.hd hc) ht (by simp [hn, ← hl, rv.length]) hst fun h' hx => ?_
  have I1 : Inv X pins σ H { s with heap := h' } := I.kept (t' := s.toks) fun b o e => hx b o (Nat.ne_of_lt (Heap.lt_size e)) e
  exact h pins _ σ H xs _ Q I1 (by simpa using rv) hw
def gSub (to ti : TE) (t : TSet) : TG := fun v σ H Q => to σ H fun o H1 => ti σ H1 fun i H2 => t o i v H2 fun H3 => Q σ H3
theorem pg_sub {o i : Expr} {to ti : TE} {t : TSet} (ho : PE X o to) (hi : PE X i ti) (hs : PSet X t)
    (ha : ∀ v, assign (.Subscript o i pos) X.env v = (do
      let ov ← holding [v] (eval o X.env)
      let iv ← holding [v, ov] (eval i X.env)
      standAt pos
      holding [v, ov, iv] (setItem ov iv v)
      release [v, ov, iv] []) := by intro _; rfl) : PG X (.Subscript o i pos) (gSub to ti t) := by
  intro pins s σ H v u Q I r h
  rw [ha]
  refine wpAny_bind (wpAny_holding (thn (ho pins s σ H _ I h) fun ov s1 ⟨x, H1, I1, r1, q1⟩ => ?_))
  refine wpAny_bind (wpAny_holding (thn (hi pins s1 σ H1 _ I1 q1) fun iv s2 ⟨y, H2, I2, r2, q2⟩ => ?_))
  refine wpAny_bind (wpAny_standAt (wpAny_bind (wpAny_holding (thn (hs pins s2 σ H2 x y v ov iv u _ I2 r1 r2 r q2) fun _ s3 ⟨H3, I3, q3⟩ => ?_))))
  exact wpAny_release ⟨σ, H3, I3, q3⟩
def tAsg (te : TE) (g : TG) : TS := fun D σ H => te σ H fun x H1 => g x σ H1 D.nx
theorem ps_asg {tg e : Expr} {te : TE} {g : TG} (he : PE X e te) (hg : PG X tg g) (hs : swapsWithSole [tg] e pos.line X.env = pure false := by rfl) (hw : swappedStores [tg] e X.env = pure none := by rfl)
    (h1 : (assignEach [tg] X.env).map (·.2) = [assign tg X.env] := by rfl) : PS X (.Assign [tg] e pos) (tAsg te g) := by
  intro pins s σ H D I h
  refine wpAny_Assign_stores (thn (he pins s σ H _ I h) fun v s1 ⟨x, H1, I1, r1, q1⟩ => ?_) hs hw
  rw [h1]
  exact thn (hg pins s1 σ H1 x v _ I1 r1 q1) fun _ s2 q => q
theorem ps_set {i : Nat} {x : Str} {e : Expr} {te : TE} {pos' : Pos} (hN : X.N.Nodup) (hi : X.N[i]? = some x) (hx : Loc X.env.scope x) (he : PE X e te) (hs : swapsWith e (some (.Name x pos')) pos.line X.env = pure false := by rfl) (hf : X.fn x = true ∨ X.env.scope.names.lookup x = some .local := by first | exact .inl rfl | exact .inr rfl | assumption) :
    PS X (.Assign [.Name x pos'] e pos) (tAsg te (gName i)) := by
  intro pins s σ H D I h
  refine wpAny_Assign_Name (thn (he pins s σ H _ I h) fun v s1 ⟨y, H1, I1, r1, q1⟩ => ?_) hs
  exact store_ok I1 hN hi hx r1 (fun s2 I2 => ⟨_, H1, I2, q1⟩) hf
def tAug (i : Nat) (te : TE) (ti : TIp) : TS := fun D σ H => ∃ x, σ[i]? = some (some x) ∧ te σ H fun y H1 => ti x y H1 fun z H2 => D.nx (σ.set i (some z)) H2
end
section
variable {X : Cx} {pos : Pos}
end
set_option genInjectivity false in
set_option genSizeOf false in
structure It where
  go : Nat → Hp → Prop
  yld : Nat → Hp → V → Hp → Prop
  stop : Nat → Hp → Prop
def FpOk (X : Cx) (pins : List (Addr × Obj)) (H : Hp) (b : Addr) : Prop :=
  H b = none ∧ b ≠ X.env.locals ∧ b ∉ X.fs ∧ (b ∈ X.ex ∨ X.s₀.heap.objs.size ≤ b) ∧ (∀ x c, X.env.cells.lookup x = some c → c ≠ b) ∧ ∀ p ∈ X.pn ++ pins, p.1 ≠ b
theorem Inv.fpOk {X : Cx} {pins : List (Addr × Obj)} {σ : St} {H H' : Hp} {s : Shared} {b : Addr} (I : Inv X pins σ H s) (hb : s.heap.objs.size ≤ b) (hn : H' b = none) : FpOk X pins H' b := by
  refine ⟨hn, Nat.ne_of_gt (Nat.lt_of_lt_of_le I.lt hb), I.nofs hb, .inr (Nat.le_trans I.sz hb), fun x c e z => ?_, fun p hp z => ?_⟩
  · obtain ⟨v, q⟩ := I.cell x c e
    exact absurd (Nat.lt_of_lt_of_le q.lt (by rw [z]; exact hb)) (Nat.lt_irrefl _)
  · exact absurd (Nat.lt_of_lt_of_le (Heap.lt_size (I.pin p hp).1) (by rw [z]; exact hb)) (Nat.lt_irrefl _)
set_option genInjectivity false in
set_option genSizeOf false in
structure Turn (P : Program) (w : World) (K : PySem.W.Frag) (tg : Expr) (J : It) (fp : List Addr) (it : Addr) (tn : Nat → Heap → Prop) : Prop where
  mem : it ∈ fp
  obj : ∀ i h, tn i h → ∀ b ∈ fp, ∃ o, h.get? b = some o ∧ ∀ v, o.data ≠ .cell v
  keep : ∀ i h h', tn i h → (∀ b ∈ fp, ∀ o, h.get? b = some o → h'.get? b = some o) → tn i h'
  item : ∀ (X : Cx), X.prog = P → X.w = w → X.K = K → X.calm = true → ∀ (i : Nat) (pins : List (Addr × Obj)) (s : Shared) (σ : St) (H : Hp) (E : Value → Shared → Prop), Inv X pins σ H s → (∀ b ∈ fp, FpOk X pins H b) → tn i s.heap → J.go i H →
    wpAny (model P w) X.A (pyNext (.ref it)) (fun r s1 => ∃ u, r = some u ∧
      wpAny (model P w) X.A (letOwnedTupleGo tg (.ref it) u) (fun _ s2 => ∃ x H', Inv X pins σ H' s2 ∧ RelV x u ∧ J.yld i H x H' ∧ tn (i + 1) s2.heap ∧ ∀ b ∈ fp, H' b = none) E s1) E s
  done : ∀ (X : Cx), X.prog = P → X.w = w → X.K = K → X.calm = true → ∀ (i : Nat) (pins : List (Addr × Obj)) (s : Shared) (σ : St) (H : Hp) (E : Value → Shared → Prop), Inv X pins σ H s → (∀ b ∈ fp, FpOk X pins H b) → tn i s.heap → J.stop i H →
    wpAny (model P w) X.A (pyNext (.ref it)) (fun r s1 => r = none ∧ Inv X pins σ H s1) E s
  self : ∀ (A : Around) (i : Nat) (s : Shared) (Q : Value → Shared → Prop) (E : Value → Shared → Prop), tn i s.heap → Q (.ref it) s → wpAny (model P w) A (pyIter (.ref it)) Q E s
abbrev TI := St → Hp → (It → Hp → Prop) → Prop
def PIE (X : Cx) (pins : List (Addr × Obj)) (σ : St) (tg : Expr) (R : It → Hp → Prop) (itv : Value) (s2 : Shared) : Prop :=
  ∃ (it : Addr) (fp : List Addr) (tn : Nat → Heap → Prop) (J : It) (H' : Hp), itv = .ref it ∧ Inv X pins σ H' s2 ∧ Turn X.prog X.w X.K tg J fp it tn ∧ tn 0 s2.heap ∧ (∀ b ∈ fp, FpOk X pins H' b) ∧ R J H'
def PI (X : Cx) (tg iter : Expr) (wi : TI) : Prop :=
  ∀ (pins : List (Addr × Obj)) (s : Shared) (σ : St) (H : Hp) (R : It → Hp → Prop), Inv X pins σ H s → wi σ H R →
    wpAny (model X.prog X.w) X.A (eval iter X.env) (fun v s1 => wpAny (model X.prog X.w) X.A (pyIter v) (PIE X pins σ tg R) X.xe s1) X.xe s
theorem go_of {M : Model} {A : Around} {E : Value → Shared → Prop} {s : Shared} {tg : Expr} {it : Addr} {u : Value} {o : Obj} {n : String} {vs : Array Value} {Q : Unit → Shared → Prop} (ho : s.heap.get? it = some o) (hc : o.cls = .type n) (hd : o.data = .fields vs)
    (hn : ["enumerate", "zip", "dict_itemiterator", "dict_reverseitemiterator", "odict_iterator", "itertools.zip_longest", "itertools.pairwise"].contains n = false) (hQ : Q () s) : wpAny M A (letOwnedTupleGo tg (.ref it) u) Q E s := by
  unfold letOwnedTupleGo
  cases tg <;> first
    | exact wpAny_pure hQ
    | (cases u <;> first
        | exact wpAny_pure hQ
        | (refine wpAny_bind (wpAny_load ho ?_)
           rw [hc, hd]
           show wpAny M A (if (["enumerate", "zip", "dict_itemiterator", "dict_reverseitemiterator", "odict_iterator", "itertools.zip_longest", "itertools.pairwise"].contains n && vs[0]? == some (rawInt _)) = true then _ else _) Q E s
           rw [if_neg (by intro h; rw [hn, Bool.false_and] at h; cases h)]
           exact wpAny_pure hQ))
def Itl (K : PySem.W.Frag) (a : Addr) : It :=
  ⟨fun i H => ∃ xs x, SqL K H a xs ∧ xs[i]? = some x, fun i H x H' => H' = H ∧ ∀ xs, SqL K H a xs → xs[i]? = some x, fun i H => ∃ xs, SqL K H a xs ∧ xs.length ≤ i⟩
def Itt (K : PySem.W.Frag) (a : Addr) : It :=
  ⟨fun i H => ∃ xs x, SqT K H a xs ∧ xs[i]? = some x, fun i H x H' => H' = H ∧ ∀ xs, SqT K H a xs → xs[i]? = some x, fun i H => ∃ xs, SqT K H a xs ∧ xs.length ≤ i⟩
def Itr (lo : Int) (n : Nat) : It := ⟨fun i _ => i < n, fun i H x H' => H' = H ∧ x = .int (lo + i), fun i _ => n ≤ i⟩
theorem turn_list {P : Program} {w : World} {K : PySem.W.Frag} {tg : Expr} (a it : Addr) : Turn P w K tg (Itl K a) [it] it (fun i h => h.IsListIter it a i) where
  mem := by simp
  obj := fun i h st b hb => by
    have e : b = it := by simpa using hb
    subst e
    obtain ⟨o, e, c, d⟩ := st
    exact ⟨o, e, fun v z => by rw [d] at z; cases z⟩
  keep := fun i h h' st k => st.at fun o e => k it (by simp) o e
  item := by
    intro X hP hw hK hc i pins s σ H E I hf st hg
    subst hP hw hK
    obtain ⟨xs, x, hq, hx⟩ := hg
    obtain ⟨its, rv, p, hz⟩ := I.list hq
    obtain ⟨u, hu, ru⟩ := rv.get hx
    obtain ⟨f0, f1, f2, f3, f4, f5⟩ := hf it (by simp)
    refine wpAny_pyNext_list_item st p.isList (x := u) (by simpa using hu) fun h' st' sb => ?_
    have I1 : Inv X pins σ H { s with heap := h' } := I.turned (t' := s.toks) (fun b o hb e => (sb.2 b hb).trans e) f0 f1 f3 f4 f5
    obtain ⟨o, e, c, d⟩ := id st'
    exact ⟨u, rfl, go_of (s := { s with heap := h' }) e c d (by decide) ⟨x, H, I1, ru, ⟨rfl, fun ys hy => by rw [I.list_inj hy hq]; exact hx⟩, st', fun b hb => (hf b hb).1⟩⟩
  done := by
    intro X hP hw hK hc i pins s σ H E I hf st hg
    subst hP hw hK
    obtain ⟨xs, hq, hx⟩ := hg
    obtain ⟨its, rv, p, hz⟩ := I.list hq
    obtain ⟨f0, f1, f2, f3, f4, f5⟩ := hf it (by simp)
    have hl := rv.length
    exact wpAny_pyNext_list_end (I.ok.hd hc) st p.isList (by simp; omega) fun h' eb => ⟨rfl, I.turned (t' := s.toks) (fun b o hb e => eb b o hb e) f0 f1 f3 f4 f5⟩
  self := fun _ _ _ _ _ st h => wpAny_pyIter_listiter st h
theorem turn_tuple {P : Program} {w : World} {K : PySem.W.Frag} {tg : Expr} (a it : Addr) : Turn P w K tg (Itt K a) [it] it (fun i h => h.IsTupleIter it a i) where
  mem := by simp
  obj := fun i h st b hb => by
    have e : b = it := by simpa using hb
    subst e
    obtain ⟨o, e, c, d⟩ := st
    exact ⟨o, e, fun v z => by rw [d] at z; cases z⟩
  keep := fun i h h' st k => st.at fun o e => k it (by simp) o e
  item := by
    intro X hP hw hK hc i pins s σ H E I hf st hg
    subst hP hw hK
    obtain ⟨xs, x, hq, hx⟩ := hg
    obtain ⟨its, rv, p, hz⟩ := I.tuple hq
    obtain ⟨u, hu, ru⟩ := rv.get hx
    obtain ⟨f0, f1, f2, f3, f4, f5⟩ := hf it (by simp)
    refine wpAny_pyNext_tuple_item st (show s.heap.IsTuple a its.toArray from p) (x := u) (by simpa using hu) fun h' st' sb => ?_
    have I1 : Inv X pins σ H { s with heap := h' } := I.turned (t' := s.toks) (fun b o hb e => (sb.2 b hb).trans e) f0 f1 f3 f4 f5
    obtain ⟨o, e, c, d⟩ := id st'
    exact ⟨u, rfl, go_of (s := { s with heap := h' }) e c d (by decide) ⟨x, H, I1, ru, ⟨rfl, fun ys hy => by rw [I.tuple_inj hy hq]; exact hx⟩, st', fun b hb => (hf b hb).1⟩⟩
  done := by
    intro X hP hw hK hc i pins s σ H E I hf st hg
    subst hP hw hK
    obtain ⟨xs, hq, hx⟩ := hg
    obtain ⟨its, rv, p, hz⟩ := I.tuple hq
    obtain ⟨f0, f1, f2, f3, f4, f5⟩ := hf it (by simp)
    have hl := rv.length
    exact wpAny_pyNext_tuple_end (I.ok.hd hc) st (show s.heap.IsTuple a its.toArray from p) (by simp; omega) fun h' eb => ⟨rfl, I.turned (t' := s.toks) (fun b o hb e => eb b o hb e) f0 f1 f3 f4 f5⟩
  self := fun _ _ _ _ _ st h => wpAny_pyIter_tupleiter st h
theorem turn_range {P : Program} {w : World} {K : PySem.W.Frag} {tg : Expr} (it : Addr) (lo : Int) (n : Nat) : Turn P w K tg (Itr lo n) [it] it (fun i h => IsRangeIter h it (lo + (i : Nat) * 1) ((n : Int) - (i : Nat)) 1) where
  mem := by simp
  obj := fun i h st b hb => by
    have e : b = it := by simpa using hb
    subst e
    exact ⟨_, st, fun v z => by
      have z' : Data.fields _ = Data.cell v := z
      cases z'⟩
  keep := fun i h h' st k => k it (by simp) _ st
  item := by
    intro X hP hw hK hc i pins s σ H E I hf st hg
    subst hP hw hK
    obtain ⟨f0, f1, f2, f3, f4, f5⟩ := hf it (by simp)
    have W := Walks.range (prog := X.prog) (w := X.w) (I.ok.hd hc) it lo 1 n
    refine W.item i s _ _ hg st fun v h' tk hv st' kk => ?_
    obtain ⟨t, rfl⟩ := hv
    have I1 : Inv X pins σ H { s with heap := h', toks := tk } := I.turned (fun b o hb e => kk b o (by simpa using hb) e) f0 f1 f3 f4 f5
    refine ⟨_, rfl, go_of (s := { s with heap := h', toks := tk }) (n := "range_iterator") st' rfl rfl (by decide) ⟨.int (lo + i), H, I1, ⟨t, ?_⟩, ⟨rfl, rfl⟩, st', fun b hb => (hf b hb).1⟩⟩
    rw [Int.mul_one]
  done := by
    intro X hP hw hK hc i pins s σ H E I hf st hg
    subst hP hw hK
    obtain ⟨f0, f1, f2, f3, f4, f5⟩ := hf it (by simp)
    exact wpAny_pyNext_range_end (I.ok.hd hc) st (by have : n ≤ i := hg; omega) fun h' eb => ⟨rfl, I.turned (t' := s.toks) (fun b o hb e => eb b o hb e) f0 f1 f3 f4 f5⟩
  self := fun _ _ _ _ _ st h => wpAny_pyIter_rangeiter st h
end L2
namespace L2
open PySem PySem.Spec PyProof.Rows
section
variable {X : Cx} {tg : Expr}
def iList (K : PySem.W.Frag) (tl : TE) : TI := fun σ H R => tl σ H fun x H1 => ∃ a, x = .ref a ∧ (∃ xs, SqL K H1 a xs) ∧ R (Itl K a) H1
def iTup (K : PySem.W.Frag) (tl : TE) : TI := fun σ H R => tl σ H fun x H1 => ∃ a, x = .ref a ∧ (∃ xs, SqT K H1 a xs) ∧ R (Itt K a) H1
theorem pi_list {l : Expr} {tl : TE} (hl : PE X l tl) : PI X tg l (iList X.K tl) := by
  intro pins s σ H R I h
  refine thn (hl pins s σ H _ I h) fun v s1 ⟨x, H1, I1, r1, q1⟩ => ?_
  obtain ⟨a, e, ⟨xs, hq⟩, q⟩ := q1
  subst e
  cases r1
  obtain ⟨its, rv, p, hz⟩ := I1.list hq
  refine wpAny_pyIter_list p.isList ?_
  refine ⟨s1.heap.objs.size, [s1.heap.objs.size], _, _, H1, rfl, I1.kept (t' := s1.toks) fun b o e => Heap.get?_push_of_some _ e, turn_list a _, ⟨_, Heap.get?_push_size _ rfl, rfl, rfl⟩, fun b hb => ?_, q⟩
  have e : b = s1.heap.objs.size := by simpa using hb
  subst e
  exact I1.fpOk (Nat.le_refl _) (I1.hok.fresh (Nat.le_refl _))
theorem pi_tup {l : Expr} {tl : TE} (hl : PE X l tl) : PI X tg l (iTup X.K tl) := by
  intro pins s σ H R I h
  refine thn (hl pins s σ H _ I h) fun v s1 ⟨x, H1, I1, r1, q1⟩ => ?_
  obtain ⟨a, e, ⟨xs, hq⟩, q⟩ := q1
  subst e
  cases r1
  obtain ⟨its, rv, p, hz⟩ := I1.tuple hq
  refine wpAny_pyIter_tuple (show s1.heap.IsTuple a its.toArray from p) ?_
  refine ⟨s1.heap.objs.size, [s1.heap.objs.size], _, _, H1, rfl, I1.kept (t' := s1.toks) fun b o e => Heap.get?_push_of_some _ e, turn_tuple a _, ⟨_, Heap.get?_push_size _ rfl, rfl, rfl⟩, fun b hb => ?_, q⟩
  have e : b = s1.heap.objs.size := by simpa using hb
  subst e
  exact I1.fpOk (Nat.le_refl _) (I1.hok.fresh (Nat.le_refl _))
theorem range_it {pins : List (Addr × Obj)} {σ : St} {H : Hp} {s : Shared} {R : It → Hp → Prop} {E : Value → Shared → Prop} {lo hi : Int} {t u v : Tok} {tk : Nat} (I : Inv X pins σ H s) (h1 : -(2 ^ 62) ≤ lo) (h2 : lo < 2 ^ 62) (h3 : -(2 ^ 62) ≤ hi) (h4 : hi < 2 ^ 62)
    (q : R (Itr lo (hi - lo).toNat) H) : wpAny (model X.prog X.w) X.A (pyIter (.ref s.heap.objs.size)) (PIE X pins σ tg R) E { s with heap := s.heap.push { cls := .type "range", data := .fields #[.int lo t, .int hi u, .int 1 v] }, toks := tk } := by
  refine wpAny_pyIter_range (IsRange.new ..) (small_one h1 h2 h3 h4) ?_
  have I1 : Inv X pins σ H { s with heap := s.heap.push { cls := .type "range", data := .fields #[.int lo t, .int hi u, .int 1 v] }, toks := tk } := I.kept fun b o e => Heap.get?_push_of_some _ e
  refine ⟨(s.heap.push { cls := .type "range", data := .fields #[.int lo t, .int hi u, .int 1 v] }).objs.size, [(s.heap.push { cls := .type "range", data := .fields #[.int lo t, .int hi u, .int 1 v] }).objs.size], _, _, H, rfl,
    I1.kept (t' := tk) fun b o e => Heap.get?_push_of_some _ e, turn_range _ lo (hi - lo).toNat, ?_, fun b hb => ?_, q⟩
  · have e1 : lo + ((0 : Nat) : Int) * 1 = lo := by simp
    have e2 : (((hi - lo).toNat : Nat) : Int) - ((0 : Nat) : Int) = Builtin.Range.rangeSize lo hi 1 := by rw [rangeSize_one]; split <;> omega
    show IsRangeIter _ _ (lo + ((0 : Nat) : Int) * 1) ((((hi - lo).toNat : Nat) : Int) - ((0 : Nat) : Int)) 1
    rw [e1, e2]
    exact Heap.get?_push_size _ rfl
  · have e : b = (s.heap.push { cls := .type "range", data := .fields #[.int lo t, .int hi u, .int 1 v] }).objs.size := by simpa using hb
    subst e
    exact I1.fpOk (Nat.le_refl _) (I1.hok.fresh (Nat.le_refl _))
def iRng1 (ta : TA) : TI := fun σ H R => ta σ H fun vs H1 => ∃ j : Int, vs = [.int j] ∧ -(2 ^ 62) ≤ j ∧ j < 2 ^ 62 ∧ R (Itr 0 j.toNat) H1
def iRng2 (ta : TA) : TI := fun σ H R => ta σ H fun vs H1 => ∃ i j : Int, vs = [.int i, .int j] ∧ (-(2 ^ 62) ≤ i ∧ i < 2 ^ 62 ∧ -(2 ^ 62) ≤ j ∧ j < 2 ^ 62) ∧ R (Itr i (j - i).toNat) H1
theorem pi_range1 {a : Expr} {ta : TA} {p pos : Pos} (hg : Gl X "range") (hm : X.mg "range" = none) (ha : PA X [a] ta) (hs : starEach [a] X.env = [(false, eval a X.env)] := by rfl) : PI X tg (.Call (.Name "range" p) [a] [] pos) (iRng1 ta) := by
  intro pins s σ H R I h
  refine Call_ (ld_blt I hg hm boot_range (PyProof.Rows.callWith_type1 (thn (ha pos pins s σ H _ I h) fun us s1 ⟨vs, H1, I1, r1, q1⟩ => ?_) hs rfl))
  obtain ⟨j, e, q1, q2, q⟩ := q1
  subst e
  cases r1 with
  | cons r rr =>
    cases rr
    obtain ⟨t, rfl⟩ := r
    exact call_range_1 (range_it I1 (by omega) (by omega) q1 q2 (by simpa using q))
def tFor (wi : TI) (g : TG) (tb : TS) : TS := fun D σ H => wi σ H fun J H1 => ∃ W : Nat → Nat → St → Hp → Prop, (∃ m, W 0 m σ H1) ∧ ∀ i m σ H, W i m σ H →
  (J.stop i H ∧ D.nx σ H) ∨ (J.go i H ∧ ∃ N : St → Hp → Prop, (∀ σ' H', N σ' H' → ∃ m', m' < m ∧ W (i + 1) m' σ' H') ∧ ∀ x H', J.yld i H x H' → g x σ H' fun σ2 H2 => tb { D with nx := N, ct := N, bk := D.nx } σ2 H2)
def pinsAt (fp : List Addr) (h : Heap) : List (Addr × Obj) := fp.filterMap fun b => (h.get? b).map fun o => (b, o)
theorem mem_pinsAt {fp : List Addr} {h : Heap} {b : Addr} {o : Obj} (hb : b ∈ fp) (e : h.get? b = some o) : (b, o) ∈ pinsAt fp h := List.mem_filterMap.mpr ⟨b, hb, by rw [e]; rfl⟩
theorem of_pinsAt {fp : List Addr} {h : Heap} {p : Addr × Obj} (hp : p ∈ pinsAt fp h) : p.1 ∈ fp ∧ h.get? p.1 = some p.2 := by
  obtain ⟨b, hb, e⟩ := List.mem_filterMap.mp hp
  cases q : h.get? b with
  | none => rw [q] at e; cases e
  | some o =>
    rw [q] at e
    have e' : (b, o) = p := Option.some.inj e
    subst e'
    exact ⟨hb, q⟩
theorem Inv.pinned {pins : List (Addr × Obj)} {σ : St} {H : Hp} {s : Shared} {fp : List Addr} (I : Inv X pins σ H s) (hf : ∀ b ∈ fp, FpOk X pins H b) (ho : ∀ b ∈ fp, ∃ o, s.heap.get? b = some o ∧ ∀ v, o.data ≠ .cell v) : Inv X (pins ++ pinsAt fp s.heap) σ H s :=
  I.pins_of fun p hp => (List.mem_append.mp hp).elim (fun z => I.pin p (List.mem_append_right _ z)) fun z => by
    obtain ⟨hb, e⟩ := of_pinsAt z
    obtain ⟨f0, f1, f2, _⟩ := hf p.1 hb
    obtain ⟨o, e', d⟩ := ho p.1 hb
    rw [e] at e'; cases e'
    exact ⟨e, f0, f1, f2, d⟩
theorem Inv.unpinned {pins pl : List (Addr × Obj)} {σ : St} {H : Hp} {s : Shared} (I : Inv X (pins ++ pl) σ H s) : Inv X pins σ H s := I.pins_of fun p hp => I.pin p (List.mem_append_right _ (List.mem_append_left _ hp))
theorem ps_for {iter : Expr} {body : List Stmt} {wi : TI} {g : TG} {tb : TS} {pos : Pos} (hp : PassesOwn (model X.prog X.w) X.A X.env X.xe) (hc : X.calm = true) (hi : PI X tg iter wi) (hg : PG X tg g) (hb : PSs X body tb)
    (hs : ∀ x, foldedSetIterable iter X.env x = pure x := by intro _; rfl) : PS X (.For tg iter body [] pos) (tFor wi g tb) := by
  intro pins s σ H D I h
  refine wpAny_For (thn (hi pins s σ H _ I h) fun v s1 h1 => thn h1 fun itv s2 h2 => ?_) hs
  obtain ⟨it, fp, tn, J, H2, e, I2, T, st2, f2, W, ⟨m0, w0⟩, turn⟩ := h2
  subst e
  -- what stays true of the iterator's objects through the loop
  have stat : ∀ {H' : Hp}, (∀ b ∈ fp, H' b = none) → ∀ b ∈ fp, FpOk X pins H' b := fun hn b hb => ⟨hn b hb, (f2 b hb).2⟩
  refine codeAny_forLoop_any (fun n s' => ∃ i σ' H', Inv X pins σ' H' s' ∧ tn i s'.heap ∧ (∀ b ∈ fp, H' b = none) ∧ W i n σ' H') ?_ m0 ⟨0, σ, H2, I2, st2, fun b hb => (f2 b hb).1, w0⟩
  rintro n s3 ⟨i, σ3, H3, I3, st3, fr3, w3⟩
  rcases turn i n σ3 H3 w3 with ⟨stop, qn⟩ | ⟨go, N, hN, step⟩
  · refine wpAny_passesOwn hp (thn (T.done X rfl rfl rfl hc i pins s3 σ3 H3 X.xe I3 (stat fr3) st3 stop) fun r s4 ⟨hr, I4⟩ => ?_)
    subst hr
    exact wpAny_execs_nil ⟨σ3, H3, I4, qn⟩
  · refine wpAny_passesOwn hp (thn (T.item X rfl rfl rfl hc i pins s3 σ3 H3 X.xe I3 (stat fr3) st3 go) fun r s4 ⟨u, hr, h4⟩ => ?_)
    subst hr
    refine wpAny_passesOwn hp (thn h4 fun _ s5 ⟨x, H5, I5, r5, y5, st5, fr5⟩ => ?_)
    have I5' := I5.pinned (stat fr5) (T.obj _ _ st5)
    refine wpAny_passesOwn hp (thn (hg _ s5 σ3 H5 x u _ I5' r5 (step x H5 y5)) fun _ s6 ⟨σ6, H6, I6, q6⟩ => ?_)
    refine wpAny_passesOwn hp (thn (hb _ s6 σ6 H6 _ I6 q6) fun f s7 q7 => ?_)
    have again : ∀ {σ7 : St} {H7 : Hp}, Inv X (pins ++ pinsAt fp s5.heap) σ7 H7 s7 → N σ7 H7 → ∃ m, m < n ∧ ∃ i σ' H', Inv X pins σ' H' s7 ∧ tn i s7.heap ∧ (∀ b ∈ fp, H' b = none) ∧ W i m σ' H' := fun {σ7 H7} I7 n7 => by
      obtain ⟨m', hm, w7⟩ := hN σ7 H7 n7
      refine ⟨m', hm, i + 1, σ7, H7, I7.unpinned, T.keep _ _ _ st5 fun b hb o e => (I7.pin (b, o) (List.mem_append_right _ (List.mem_append_right _ (mem_pinsAt hb e)))).1, fun b hb => ?_, w7⟩
      obtain ⟨o, e, d⟩ := T.obj _ _ st5 b hb
      exact (I7.pin (b, o) (List.mem_append_right _ (List.mem_append_right _ (mem_pinsAt hb e)))).2.1
    cases f with
    | next => obtain ⟨σ7, H7, I7, n7⟩ := q7; exact again I7 n7
    | cont => obtain ⟨σ7, H7, I7, n7⟩ := q7; exact again I7 n7
    | brk => obtain ⟨σ7, H7, I7, q7⟩ := q7; exact ⟨σ7, H7, I7.unpinned, q7⟩
    | ret v => obtain ⟨x7, σ7, H7, I7, r7, q7⟩ := q7; exact ⟨x7, σ7, H7, I7.unpinned, r7, q7⟩
end
theorem for_list {K : PySem.W.Frag} {a : Addr} {xs : List V} {g : TG} {tb : TS} {D : Ends} {σ : St} {H : Hp} (Pv : Nat → St → Hp → Prop) (h0 : Pv 0 σ H) (hl : ∀ i σ H, i ≤ xs.length → Pv i σ H → SqL K H a xs)
    (hs : ∀ i x σ H, xs[i]? = some x → Pv i σ H → g x σ H fun σ2 H2 => tb { D with nx := Pv (i + 1), ct := Pv (i + 1), bk := D.nx } σ2 H2) (hd : ∀ σ H, Pv xs.length σ H → D.nx σ H) :
    ∃ W : Nat → Nat → St → Hp → Prop, (∃ m, W 0 m σ H) ∧ ∀ i m σ H, W i m σ H →
      ((Itl K a).stop i H ∧ D.nx σ H) ∨ ((Itl K a).go i H ∧ ∃ N : St → Hp → Prop, (∀ σ' H', N σ' H' → ∃ m', m' < m ∧ W (i + 1) m' σ' H') ∧ ∀ x H', (Itl K a).yld i H x H' → g x σ H' fun σ2 H2 => tb { D with nx := N, ct := N, bk := D.nx } σ2 H2) := by
  refine ⟨fun i m σ H => m = xs.length - i ∧ i ≤ xs.length ∧ Pv i σ H, ⟨xs.length, by simp, Nat.zero_le _, h0⟩, ?_⟩
  rintro i m σ H ⟨rfl, hi, p⟩
  have q := hl i σ H hi p
  by_cases hlt : i < xs.length
  · refine .inr ⟨⟨xs, xs[i], q, by simp [hlt]⟩, Pv (i + 1), fun σ' H' p' => ⟨xs.length - (i + 1), by omega, rfl, hlt, p'⟩, fun x H' y => ?_⟩
    obtain ⟨e, y⟩ := y
    subst e
    exact hs i x σ _ (y xs q) p
  · have e : i = xs.length := by omega
    subst e
    exact .inl ⟨⟨xs, q, Nat.le_refl _⟩, hd σ H p⟩
theorem for_tup {K : PySem.W.Frag} {a : Addr} {xs : List V} {g : TG} {tb : TS} {D : Ends} {σ : St} {H : Hp} (Pv : Nat → St → Hp → Prop) (h0 : Pv 0 σ H) (hl : ∀ i σ H, i ≤ xs.length → Pv i σ H → SqT K H a xs)
    (hs : ∀ i x σ H, xs[i]? = some x → Pv i σ H → g x σ H fun σ2 H2 => tb { D with nx := Pv (i + 1), ct := Pv (i + 1), bk := D.nx } σ2 H2) (hd : ∀ σ H, Pv xs.length σ H → D.nx σ H) :
    ∃ W : Nat → Nat → St → Hp → Prop, (∃ m, W 0 m σ H) ∧ ∀ i m σ H, W i m σ H →
      ((Itt K a).stop i H ∧ D.nx σ H) ∨ ((Itt K a).go i H ∧ ∃ N : St → Hp → Prop, (∀ σ' H', N σ' H' → ∃ m', m' < m ∧ W (i + 1) m' σ' H') ∧ ∀ x H', (Itt K a).yld i H x H' → g x σ H' fun σ2 H2 => tb { D with nx := N, ct := N, bk := D.nx } σ2 H2) := by
  refine ⟨fun i m σ H => m = xs.length - i ∧ i ≤ xs.length ∧ Pv i σ H, ⟨xs.length, by simp, Nat.zero_le _, h0⟩, ?_⟩
  rintro i m σ H ⟨rfl, hi, p⟩
  have q := hl i σ H hi p
  by_cases hlt : i < xs.length
  · refine .inr ⟨⟨xs, xs[i], q, by simp [hlt]⟩, Pv (i + 1), fun σ' H' p' => ⟨xs.length - (i + 1), by omega, rfl, hlt, p'⟩, fun x H' y => ?_⟩
    obtain ⟨e, y⟩ := y
    subst e
    exact hs i x σ _ (y xs q) p
  · have e : i = xs.length := by omega
    subst e
    exact .inl ⟨⟨xs, q, Nat.le_refl _⟩, hd σ H p⟩
theorem for_range {lo : Int} {n : Nat} {g : TG} {tb : TS} {D : Ends} {σ : St} {H : Hp} (Pv : Nat → St → Hp → Prop) (h0 : Pv 0 σ H)
    (hs : ∀ i σ H, i < n → Pv i σ H → g (.int (lo + i)) σ H fun σ2 H2 => tb { D with nx := Pv (i + 1), ct := Pv (i + 1), bk := D.nx } σ2 H2) (hd : ∀ σ H, Pv n σ H → D.nx σ H) :
    ∃ W : Nat → Nat → St → Hp → Prop, (∃ m, W 0 m σ H) ∧ ∀ i m σ H, W i m σ H →
      ((Itr lo n).stop i H ∧ D.nx σ H) ∨ ((Itr lo n).go i H ∧ ∃ N : St → Hp → Prop, (∀ σ' H', N σ' H' → ∃ m', m' < m ∧ W (i + 1) m' σ' H') ∧ ∀ x H', (Itr lo n).yld i H x H' → g x σ H' fun σ2 H2 => tb { D with nx := N, ct := N, bk := D.nx } σ2 H2) := by
  refine ⟨fun i m σ H => m = n - i ∧ i ≤ n ∧ Pv i σ H, ⟨n, by simp, Nat.zero_le _, h0⟩, ?_⟩
  rintro i m σ H ⟨rfl, hi, p⟩
  by_cases hlt : i < n
  · refine .inr ⟨hlt, Pv (i + 1), fun σ' H' p' => ⟨n - (i + 1), by omega, rfl, hlt, p'⟩, fun x H' y => ?_⟩
    obtain ⟨e, y⟩ := y
    subst e y
    exact hs i σ _ hlt p
  · have e : i = n := by omega
    subst e
    exact .inl ⟨Nat.le_refl _, hd σ H p⟩
end L2
namespace L2
open PySem PySem.Spec PyProof.Rows
abbrev R2 := V → V → Hp → VK → Prop
def OpR (X : Cx) (f : Value → Value → Sem Value) (r : R2) : Prop :=
  ∀ (pins : List (Addr × Obj)) (s : Shared) (σ : St) (H : Hp) (x y : V) (v u : Value) (Q : VK), Inv X pins σ H s → RelV x v → RelV y u → r x y H Q →
    wpAny (model X.prog X.w) X.A (f v u) (EP X pins σ Q) X.xe s
def CallR (X : Cx) (f : Value) (r : List V → Hp → VK → Prop) : Prop :=
  ∀ (pins : List (Addr × Obj)) (s : Shared) (σ : St) (H : Hp) (xs : List V) (us : List Value) (Q : VK), Inv X pins σ H s → Vals xs us → r xs H Q →
    wpAny (model X.prog X.w) X.A (call f us) (EP X pins σ Q) X.xe s
def tOp (r : R2) (ta tb : TE) : TE := fun σ H Q => ta σ H fun x H1 => tb σ H1 fun y H2 => r x y H2 Q
def tUn (r : V → Hp → VK → Prop) (ta : TE) : TE := fun σ H Q => ta σ H fun x H1 => r x H1 Q
def rI (C : Int → Int → Prop) (g : Int → Int → V) : R2 := fun x y H Q => match x, y with
  | .int i, .int j => C i j ∧ Q (g i j) H
  | _, _ => False
theorem rI_inv {C : Int → Int → Prop} {g : Int → Int → V} {x y : V} {H : Hp} {Q : VK} (h : rI C g x y H Q) : ∃ i j, x = .int i ∧ y = .int j ∧ C i j ∧ Q (g i j) H := by
  unfold rI at h
  split at h
  · exact ⟨_, _, rfl, rfl, h⟩
  · exact h.elim
def rI0 (g : Int → Int → V) : R2 := fun x y H Q => match x, y with
  | .int i, .int j => Q (g i j) H
  | _, _ => False
theorem rI0_inv {g : Int → Int → V} {x y : V} {H : Hp} {Q : VK} (h : rI0 g x y H Q) : ∃ i j, x = .int i ∧ y = .int j ∧ Q (g i j) H := by
  unfold rI0 at h
  split at h
  · exact ⟨_, _, rfl, rfl, h⟩
  · exact h.elim
def rU (g : Int → V) : V → Hp → VK → Prop := fun x H Q => ∃ i, x = .int i ∧ Q (g i) H
section
variable {X : Cx} {a b c : Expr} {ta tb tc : TE} {pos : Pos}
theorem binT (ha : PE X a ta) (hb : PE X b tb) {pins : List (Addr × Obj)} {s : Shared} {σ : St} {H : Hp} {R : V → V → Hp → Prop} (I : Inv X pins σ H s)
    (h : ta σ H fun x H1 => tb σ H1 fun y H2 => R x y H2) {Q : Value → Shared → Prop} {f : Value → Value → Sem Value}
    (hf : ∀ v u s2 x y H2, Inv X pins σ H2 s2 → RelV x v → RelV y u → R x y H2 → wpAny (model X.prog X.w) X.A (f v u) Q X.xe s2) :
    wpAny (model X.prog X.w) X.A (eval a X.env) (fun v s₁ => wpAny (model X.prog X.w) X.A (eval b X.env) (fun u s₂ => wpAny (model X.prog X.w) X.A (f v u) Q X.xe s₂) X.xe s₁) X.xe s := by
  refine thn (ha pins s σ H _ I h) fun v s1 ⟨x, H1, I1, r1, q1⟩ => ?_
  refine thn (hb pins s1 σ H1 _ I1 q1) fun u s2 ⟨y, H2, I2, r2, q2⟩ => ?_
  exact hf v u s2 x y H2 I2 r1 r2 q2
theorem pe_op {op : Operator} {r : R2} (ho : OpR X (binaryOp op) r) (ha : PE X a ta) (hb : PE X b tb) : PE X (.BinOp a op b pos) (tOp r ta tb) := by
  intro pins s σ H Q I h
  exact wpAny_BinOp (binT ha hb I h fun v u s2 x y H2 I2 rx ry q => ho pins s2 σ H2 x y v u Q I2 rx ry q)
theorem opI {f : Value → Value → Sem Value} {C : Int → Int → Prop} {g : Int → Int → Int}
    (rule : ∀ (i j : Int) (t u : Tok) (s : Shared) (Q : Value → Shared → Prop) (E : Value → Shared → Prop), C i j → Q (.int (g i j) s.toks) { s with toks := s.toks + 1 } → wpAny (model X.prog X.w) X.A (f (.int i t) (.int j u)) Q E s) :
    OpR X f (rI C fun i j => .int (g i j)) := by
  intro pins s σ H x y v u Q I rx ry h
  obtain ⟨i, j, rfl, rfl, hc, q⟩ := rI_inv h
  obtain ⟨t, rfl⟩ := rx
  obtain ⟨t', rfl⟩ := ry
  exact rule i j t t' s _ _ hc ⟨.int (g i j), H, I.tok _, ⟨_, rfl⟩, q⟩
theorem opI0 {f : Value → Value → Sem Value} {g : Int → Int → Int}
    (rule : ∀ (i j : Int) (t u : Tok) (s : Shared) (Q : Value → Shared → Prop) (E : Value → Shared → Prop), Q (.int (g i j) s.toks) { s with toks := s.toks + 1 } → wpAny (model X.prog X.w) X.A (f (.int i t) (.int j u)) Q E s) :
    OpR X f (rI0 fun i j => .int (g i j)) := by
  intro pins s σ H x y v u Q I rx ry h
  obtain ⟨i, j, rfl, rfl, q⟩ := rI0_inv h
  obtain ⟨t, rfl⟩ := rx
  obtain ⟨t', rfl⟩ := ry
  exact rule i j t t' s _ _ ⟨.int (g i j), H, I.tok _, ⟨_, rfl⟩, q⟩
theorem opB0 {f : Value → Value → Sem Value} {g : Int → Int → Bool}
    (rule : ∀ (i j : Int) (t u : Tok) (s : Shared) (Q : Value → Shared → Prop) (E : Value → Shared → Prop), Q (.bool (g i j)) s → wpAny (model X.prog X.w) X.A (f (.int i t) (.int j u)) Q E s) :
    OpR X f (rI0 fun i j => .bl (g i j)) := by
  intro pins s σ H x y v u Q I rx ry h
  obtain ⟨i, j, rfl, rfl, q⟩ := rI0_inv h
  obtain ⟨t, rfl⟩ := rx
  obtain ⟨t', rfl⟩ := ry
  exact rule i j t t' s _ _ ⟨.bl (g i j), H, I, rfl, q⟩
def CDiv (i j : Int) : Prop := 0 < j ∧ j < 1073741824
def CMul (i j : Int) : Prop := (-(2 ^ 64) < i ∧ i < 2 ^ 64) ∨ (-(2 ^ 64) < j ∧ j < 2 ^ 64)
theorem CMul.ok {i j : Int} (h : CMul i j) : IntMulOk i j := by
  rcases h with ⟨h1, h2⟩ | ⟨h1, h2⟩
  · exact .of_left (intBits_le_64 h1 h2)
  · exact .of_right (intBits_le_64 h1 h2)
theorem op_add : OpR X (binaryOp .Add) (rI0 fun i j => .int (i + j)) := opI0 fun _ _ _ _ _ _ _ q => add_int q
theorem op_sub : OpR X (binaryOp .Sub) (rI0 fun i j => .int (i - j)) := opI0 fun _ _ _ _ _ _ _ q => sub_int q
theorem op_mul : OpR X (binaryOp .Mult) (rI CMul fun i j => .int (i * j)) := opI fun _ _ _ _ _ _ _ hc q => mul_int q hc.ok
theorem op_fdiv : OpR X (binaryOp .FloorDiv) (rI CDiv fun i j => .int (i / j)) := opI fun i j _ _ _ _ _ hc q => by
  have h1 : (0 : Int) < j := hc.1
  have h2 : j < 1073741824 := hc.2
  exact floordiv_int (by omega) (by rw [Int.fdiv_eq_ediv_of_nonneg i (by omega)]; exact q) (.inl (PyProof.noPylong_small (by omega)))
theorem op_mod : OpR X (binaryOp .Mod) (rI (fun _ j => 0 < j) fun i j => .int (i % j)) := opI fun i j _ _ _ _ _ hc q => by
  have h1 : (0 : Int) < j := hc
  exact mod_int' (by omega) (by rw [Int.fmod_eq_emod_of_nonneg i (by omega)]; exact q)
end
def scal : V → V → Bool
  | .non, .non => true | .non, .int _ => true | .int _, .non => true | .non, .bl _ => true | .bl _, .non => true | .non, .str _ => true | .str _, .non => true
  | .int _, .int _ => true | .bl _, .bl _ => true | .str _, .str _ => true | .byt _, .byt _ => true
  | .int _, .str _ => true | .str _, .int _ => true | .bl _, .str _ => true | .str _, .bl _ => true
  | _, _ => false
def rEq : R2 := fun x y H Q => match x, y with
  | .int i, .int j => Q (.bl (decide (i = j))) H
  | .str i, .str j => Q (.bl (decide (i = j))) H
  | .bl i, .bl j => Q (.bl ((i == j))) H
  | x, y => scal x y = true ∧ Q (.bl (decide (x = y))) H
theorem rEq_inv {x y : V} {H : Hp} {Q : VK} (h : rEq x y H Q) : scal x y = true ∧ Q (.bl (decide (x = y))) H := by
  unfold rEq at h
  split at h
  · refine ⟨rfl, ?_⟩
    rename_i i j
    rw [show decide (V.int i = V.int j) = decide (i = j) from by simp]
    exact h
  · refine ⟨rfl, ?_⟩
    rename_i i j
    rw [show decide (V.str i = V.str j) = decide (i = j) from by simp]
    exact h
  · refine ⟨rfl, ?_⟩
    rename_i i j
    rw [show decide (V.bl i = V.bl j) = (i == j) from by cases i <;> cases j <;> rfl]
    exact h
  · exact h
def rNe : R2 := fun x y H Q => match x, y with
  | .int i, .int j => Q (.bl (!decide (i = j))) H
  | .str i, .str j => Q (.bl (!decide (i = j))) H
  | .bl i, .bl j => Q (.bl (!(i == j))) H
  | x, y => scal x y = true ∧ Q (.bl (!decide (x = y))) H
theorem rNe_inv {x y : V} {H : Hp} {Q : VK} (h : rNe x y H Q) : scal x y = true ∧ Q (.bl (!decide (x = y))) H := by
  unfold rNe at h
  split at h
  · refine ⟨rfl, ?_⟩
    rename_i i j
    rw [show decide (V.int i = V.int j) = decide (i = j) from by simp]
    exact h
  · refine ⟨rfl, ?_⟩
    rename_i i j
    rw [show decide (V.str i = V.str j) = decide (i = j) from by simp]
    exact h
  · refine ⟨rfl, ?_⟩
    rename_i i j
    rw [show decide (V.bl i = V.bl j) = (i == j) from by cases i <;> cases j <;> rfl]
    exact h
  · exact h
theorem dec_int {i j : Int} : decide (V.int i = V.int j) = (i == j) := by
  rw [Bool.eq_iff_iff]
  simp
theorem dec_bl {i j : Bool} : decide (V.bl i = V.bl j) = (i == j) := by
  rw [Bool.eq_iff_iff]
  simp
theorem dec_str {i j : Str} : decide (V.str i = V.str j) = (i == j) := by
  rw [Bool.eq_iff_iff]
  simp
theorem dec_byt {i j : Array UInt8} : decide (V.byt i = V.byt j) = (i.toList == j.toList) := by
  rw [Bool.eq_iff_iff]
  cases i
  cases j
  simp
section
variable {X : Cx} {a b c : Expr} {ta tb tc : TE} {pos : Pos}
theorem fin_bl {pins : List (Addr × Obj)} {σ : St} {H : Hp} {s : Shared} {Q : VK} {k k' : Bool} (I : Inv X pins σ H s) (q : Q (.bl k) H) (e : k = k') : EP X pins σ Q (.bool k') s := by
  subst e
  exact ⟨.bl k, H, I, rfl, q⟩
theorem op_eq : OpR X (compareOp .Eq) rEq := by
  intro pins s σ H x y v u Q I rx ry h
  obtain ⟨hs, q⟩ := rEq_inv h
  cases x with
  | non =>
    cases rx
    cases y with
    | non => cases ry; exact PySem.EqNone.eq_none_none (fin_bl I q (by simp))
    | bl j => cases ry; exact PySem.EqNone.eq_none_bool (fin_bl I q (by simp))
    | int j => obtain ⟨t', rfl⟩ := ry; exact PySem.EqNone.eq_none_int (fin_bl I q (by simp))
    | str j => obtain ⟨t', rfl⟩ := ry; exact PySem.EqNone.eq_none_str (fin_bl I q (by simp))
    | _ => exact absurd (show false = true from hs) Bool.false_ne_true
  | bl i =>
    cases rx
    cases y with
    | non => cases ry; exact PySem.EqNone.eq_bool_none (fin_bl I q (by simp))
    | bl j => cases ry; exact eq_bool (fin_bl I q dec_bl)
    | str j => obtain ⟨t', rfl⟩ := ry; exact PySem.EqMixed.eq_bool_str (fin_bl I q (by simp))
    | _ => exact absurd (show false = true from hs) Bool.false_ne_true
  | int i =>
    obtain ⟨t, rfl⟩ := rx
    cases y with
    | non => cases ry; exact PySem.EqNone.eq_int_none (fin_bl I q (by simp))
    | int j => obtain ⟨t', rfl⟩ := ry; exact eq_int (fin_bl I q dec_int)
    | str j => obtain ⟨t', rfl⟩ := ry; exact PySem.EqMixed.eq_int_str (fin_bl I q (by simp))
    | _ => exact absurd (show false = true from hs) Bool.false_ne_true
  | str i =>
    obtain ⟨t, rfl⟩ := rx
    cases y with
    | non => cases ry; exact PySem.EqNone.eq_str_none (fin_bl I q (by simp))
    | bl j => cases ry; exact PySem.EqMixed.eq_str_bool (fin_bl I q (by simp))
    | int j => obtain ⟨t', rfl⟩ := ry; exact PySem.EqMixed.eq_str_int (fin_bl I q (by simp))
    | str j => obtain ⟨t', rfl⟩ := ry; exact eq_str (fin_bl I q dec_str)
    | _ => exact absurd (show false = true from hs) Bool.false_ne_true
  | byt i =>
    obtain ⟨t, rfl⟩ := rx
    cases y with
    | byt j => obtain ⟨t', rfl⟩ := ry; exact PySem.W.eq_bytes (fin_bl I q dec_byt)
    | _ => exact absurd (show false = true from hs) Bool.false_ne_true
  | _ => cases y <;> exact absurd (show false = true from hs) Bool.false_ne_true
theorem op_ne : OpR X (compareOp .NotEq) rNe := by
  intro pins s σ H x y v u Q I rx ry h
  obtain ⟨hs, q⟩ := rNe_inv h
  cases x with
  | non =>
    cases rx
    cases y with
    | non => cases ry; exact PySem.EqNone.ne_none_none (fin_bl I q (by simp))
    | bl j => cases ry; exact PySem.EqNone.ne_none_bool (fin_bl I q (by simp))
    | int j => obtain ⟨t', rfl⟩ := ry; exact PySem.EqNone.ne_none_int (fin_bl I q (by simp))
    | str j => obtain ⟨t', rfl⟩ := ry; exact PySem.EqNone.ne_none_str (fin_bl I q (by simp))
    | _ => exact absurd (show false = true from hs) Bool.false_ne_true
  | bl i =>
    cases rx
    cases y with
    | non => cases ry; exact PySem.EqNone.ne_bool_none (fin_bl I q (by simp))
    | bl j => cases ry; exact ne_bool (fin_bl I q (congrArg not dec_bl))
    | str j => obtain ⟨t', rfl⟩ := ry; exact PySem.EqMixed.ne_bool_str (fin_bl I q (by simp))
    | _ => exact absurd (show false = true from hs) Bool.false_ne_true
  | int i =>
    obtain ⟨t, rfl⟩ := rx
    cases y with
    | non => cases ry; exact PySem.EqNone.ne_int_none (fin_bl I q (by simp))
    | int j => obtain ⟨t', rfl⟩ := ry; exact ne_int (fin_bl I q (congrArg not dec_int))
    | str j => obtain ⟨t', rfl⟩ := ry; exact PySem.EqMixed.ne_int_str (fin_bl I q (by simp))
    | _ => exact absurd (show false = true from hs) Bool.false_ne_true
  | str i =>
    obtain ⟨t, rfl⟩ := rx
    cases y with
    | non => cases ry; exact PySem.EqNone.ne_str_none (fin_bl I q (by simp))
    | bl j => cases ry; exact PySem.EqMixed.ne_str_bool (fin_bl I q (by simp))
    | int j => obtain ⟨t', rfl⟩ := ry; exact PySem.EqMixed.ne_str_int (fin_bl I q (by simp))
    | str j => obtain ⟨t', rfl⟩ := ry; exact ne_str (fin_bl I q (congrArg not dec_str))
    | _ => exact absurd (show false = true from hs) Bool.false_ne_true
  | byt i =>
    obtain ⟨t, rfl⟩ := rx
    cases y with
    | byt j => obtain ⟨t', rfl⟩ := ry; exact PySem.W.ne_bytes (fin_bl I q (congrArg not dec_byt))
    | _ => exact absurd (show false = true from hs) Bool.false_ne_true
  | _ => cases y <;> exact absurd (show false = true from hs) Bool.false_ne_true
theorem op_lt : OpR X (compareOp .Lt) (rI0 fun i j => .bl (decide (i < j))) := opB0 fun _ _ _ _ _ _ _ q => lt_int q
theorem op_le : OpR X (compareOp .LtE) (rI0 fun i j => .bl (decide (i ≤ j))) := opB0 fun _ _ _ _ _ _ _ q => le_int q
theorem op_gt : OpR X (compareOp .Gt) (rI0 fun i j => .bl (decide (j < i))) := opB0 fun _ _ _ _ _ _ _ q => gt_int q
theorem op_ge : OpR X (compareOp .GtE) (rI0 fun i j => .bl (decide (j ≤ i))) := opB0 fun _ _ _ _ _ _ _ q => ge_int q
theorem op_isN : OpR X (compareOp .Is) (fun x y H Q => y = .non ∧ Q (.bl (decide (x = .non))) H) := by
  intro pins s σ H x y v u Q I rx ry h
  obtain ⟨rfl, q⟩ := h
  cases ry
  refine is_none_gen (fin_bl I q ?_)
  cases x <;> first
    | (cases rx; rfl)
    | (obtain ⟨t, rfl⟩ := rx; rfl)
theorem op_notN : OpR X (compareOp .IsNot) (fun x y H Q => y = .non ∧ Q (.bl (!decide (x = .non))) H) := by
  intro pins s σ H x y v u Q I rx ry h
  obtain ⟨rfl, q⟩ := h
  cases ry
  refine isnot_none_gen (fin_bl I q ?_)
  cases x <;> first
    | (cases rx; rfl)
    | (obtain ⟨t, rfl⟩ := rx; rfl)
theorem nomark (b : Expr) {op : CmpOp} (h : op ≠ .In := by decide) (h2 : op ≠ .NotIn := by decide) : behindInMarks op b = false := by
  have e1 : (op == CmpOp.In) = false := by cases op <;> first | rfl | exact absurd rfl h
  have e2 : (op == CmpOp.NotIn) = false := by cases op <;> first | rfl | exact absurd rfl h2
  cases b <;> simp [behindInMarks, e1, e2]
def tTest (t : TE) : TT := fun σ H Q => t σ H fun x H' => ∃ k, x = .bl k ∧ Q k H'
theorem pt_cmpR {op : CmpOp} {r : R2} (ho : OpR X (compareOp op) r) (ha : PE X a ta) (hb : PE X b tb) (hm : behindInMarks op b = false) : PT X (.Compare a [op] [b] pos) (tTest (tOp r ta tb)) := by
  intro pins s σ H Q I h
  refine wpAny_isTrue_Compare1 (thn (ha pins s σ H _ I h) fun v s1 ⟨x, H1, I1, r1, q1⟩ => thn (hb pins s1 σ H1 _ I1 q1) fun u s2 ⟨y, H2, I2, r2, q2⟩ =>
    thn (ho pins s2 σ H2 x y v u _ I2 r1 r2 q2) fun c s3 ⟨z, H3, I3, r3, k, e, q3⟩ => ?_) hm
  subst e
  cases r3
  exact wpAny_truthy_bool ⟨H3, I3, q3⟩
def tChain (r r' : R2) (ta tb tc : TE) : TE := fun σ H Q => ta σ H fun x H1 => tb σ H1 fun y H2 => r x y H2 fun z H3 => ∃ k, z = .bl k ∧
  (if k = true then tc σ H3 fun w' H4 => r' y w' H4 Q else Q (.bl false) H3)
theorem pe_chain {op op' : CmpOp} {r r' : R2} (ho : OpR X (compareOp op) r) (ho' : OpR X (compareOp op') r') (ha : PE X a ta) (hb : PE X b tb) (hc : PE X c tc)
    (hm : lastMarks [op, op'] [b, c] = false := by with_unfolding_all rfl) : PE X (.Compare a [op, op'] [b, c] pos) (tChain r r' ta tb tc) := by
  intro pins s σ H Q I h
  refine Compare_chain (thn (ha pins s σ H _ I h) fun v s1 ⟨x, H1, I1, r1, q1⟩ => chain_link (thn (hb pins s1 σ H1 _ I1 q1) fun u s2 ⟨y, H2, I2, r2, q2⟩ =>
    thn (ho pins s2 σ H2 x y v u _ I2 r1 r2 q2) fun d s3 ⟨z, H3, I3, r3, k, e, q3⟩ => ?_)) hm
  subst e
  cases r3
  refine wpAny_truthy_bool ?_
  cases k with
  | false => exact ite_ff ⟨.bl false, H3, I3, rfl, q3⟩
  | true => exact ite_tt (chain_last (thn (hc pins s3 σ H3 _ I3 q3) fun w' s4 ⟨z', H4, I4, r4, q4⟩ => ho' pins s4 σ H4 y z' u w' Q I4 r2 r4 q4))
theorem pt_chain {op op' : CmpOp} {r r' : R2} (ho : OpR X (compareOp op) r) (ho' : OpR X (compareOp op') r') (ha : PE X a ta) (hb : PE X b tb) (hc : PE X c tc)
    (hm : lastMarks [op, op'] [b, c] = false := by with_unfolding_all rfl) : PT X (.Compare a [op, op'] [b, c] pos) (tTest (tChain r r' ta tb tc)) := by
  intro pins s σ H Q I h
  refine isTrue_chain (thn (ha pins s σ H _ I h) fun v s1 ⟨x, H1, I1, r1, q1⟩ => test_link (thn (hb pins s1 σ H1 _ I1 q1) fun u s2 ⟨y, H2, I2, r2, q2⟩ =>
    thn (ho pins s2 σ H2 x y v u _ I2 r1 r2 q2) fun d s3 ⟨z, H3, I3, r3, k, e, q3⟩ => ?_)) hm
  subst e
  cases r3
  refine wpAny_truthy_bool ?_
  cases k with
  | false =>
    obtain ⟨k', e', q'⟩ := q3
    cases e'
    exact ite_ff ⟨H3, I3, q'⟩
  | true =>
    refine ite_tt (test_last (thn (hc pins s3 σ H3 _ I3 q3) fun w' s4 ⟨z', H4, I4, r4, q4⟩ => thn (ho' pins s4 σ H4 y z' u w' _ I4 r2 r4 q4) fun d' s5 ⟨z2, H5, I5, r5, k2, e2, q5⟩ => ?_))
    subst e2
    cases r5
    exact wpAny_truthy_bool ⟨H5, I5, q5⟩
theorem line63 : (sizeLine : Nat) < 2 ^ 63 := by rw [sizeLine_eq]; decide
theorem vals1 {x : V} {us : List Value} (r : Vals [x] us) : ∃ u, us = [u] ∧ RelV x u := by
  cases r with
  | cons r1 r2 => cases r2; exact ⟨_, rfl, r1⟩
theorem vals2 {x y : V} {us : List Value} (r : Vals [x, y] us) : ∃ u w', us = [u, w'] ∧ RelV x u ∧ RelV y w' := by
  cases r with
  | cons r1 r2 =>
    cases r2 with
    | cons r3 r4 => cases r4; exact ⟨_, _, rfl, r1, r3⟩
theorem call_min2 (hc : X.calm = true) : CallR X (.builtin "min") (fun xs H Q => ∃ i j, xs = [.int i, .int j] ∧ Q (.int (if j < i then j else i)) H) := by
  intro pins s σ H xs us Q I r h
  obtain ⟨i, j, rfl, q⟩ := h
  obtain ⟨u, w', rfl, ⟨t, rfl⟩, ⟨t', rfl⟩⟩ := vals2 r
  refine min_two_ints (I.ok.hd hc) fun h' tk k => ⟨_, H, I.kept k, ?_, q⟩
  by_cases hj : j < i
  · rw [if_pos hj, if_pos hj]; exact ⟨_, rfl⟩
  · rw [if_neg hj, if_neg hj]; exact ⟨_, rfl⟩
theorem call_str_int : CallR X (.type "str") (fun xs H Q => ∃ i, xs = [.int i] ∧ i.natAbs.log2 < 1920 ∧ Q (.str (toString i)) H) := by
  intro pins s σ H xs us Q I r h
  obtain ⟨i, rfl, hz, q⟩ := h
  obtain ⟨u, rfl, t, rfl⟩ := vals1 r
  exact PySem.P.str_of_int hz ⟨.str _, H, I.tok _, ⟨_, rfl⟩, q⟩
end
end L2
namespace L2
open PySem PySem.Spec PyProof.Rows
set_option genInjectivity false in
set_option genSizeOf false in
structure ObjM (h : Heap) (x dx C : Addr) (mA : Str → Option Value) : Prop where
  obj : h.get? x = some (PySem.W.instObj C dx)
  ns : h.Ns1 dx mA
  ne : dx ≠ x
theorem lookIn_ns {h : Heap} {dx : Addr} {mA : Str → Option Value} (n : h.Ns1 dx mA) : ∃ od, h.get? dx = some od ∧ ∀ name, PySem.W.lookIn name od = some (mA name) := by
  obtain ⟨o, es, ep, ho, hd, hk, _, hm⟩ := n
  refine ⟨o, ho, fun name => ?_⟩
  have e := hm name
  unfold nsFind findBy at e
  rw [← Array.find?_toList] at e
  unfold PySem.W.lookIn
  rw [hd]
  dsimp only
  split
  · rename_i y q
    rw [q] at e
    exact congrArg some e
  · rename_i q
    rw [q] at e
    have a : es.toList.any (·.refKey) = false := by
      rw [List.any_eq_false]
      intro y hy
      obtain ⟨z, t, hkey⟩ := hk y (Array.mem_toList_iff.mp hy)
      simp [DictEntry.refKey, hkey]
    have a' : ¬ es.toList.any (·.refKey) = true := by rw [a]; exact Bool.false_ne_true
    rw [if_neg a']
    exact congrArg some e
theorem ObjM.look {h : Heap} {x dx C : Addr} {mA : Str → Option Value} (I : ObjM h x dx C mA) : ∃ od, PySem.W.InstAt h x (PySem.W.instObj C dx) C (some od) ∧ ∀ name, PySem.W.lookIn name od = some (mA name) :=
  let ⟨od, ho, hl⟩ := lookIn_ns I.ns
  ⟨od, ⟨I.obj, rfl, rfl, ho⟩, hl⟩
section
variable {prog : Program} {w : World} {A : Around} {E : Value → Shared → Prop} {s : Shared} {K : PySem.W.Frag} {x dx C f : Addr} {mA : Str → Option Value} {name : Str} {v : Value}
theorem get_map {expr : Bool} {Q : Value → Shared → Prop} (X : K.In s.heap) (I : ObjM s.heap x dx C mA) (hg : PySem.W.plainGet K C name = true) (hh : PySem.W.hasDictIn K C = true)
    (ha : PySem.W.findIn K (.ref C) name = some none) (hv : mA name = some v) (hv' : PySem.W.handedIn v = true) (h : Q v { s with toks := s.toks + 1 }) :
    wpAny (model prog w) A (getAttr (.ref x) name expr) Q E s := by
  obtain ⟨od, J, hl⟩ := I.look
  exact PySem.W.get_value X J (PySem.W.plainGet_of hg).1 (PySem.W.findObj_own hh ha rfl (by rw [hl, hv])) hv' h
theorem get_meth {pl : Sem Bool} {Q : Value × List Value → Shared → Prop} (X : K.In s.heap) (I : ObjM s.heap x dx C mA) (hg : PySem.W.plainGet K C name = true)
    (hf : PySem.W.findIn K (.ref C) name = some (some (.ref f))) (ht : PySem.W.isFn K (.ref f) = true) (hv : mA name = none) (h : Q (.ref f, [.ref x]) s) :
    wpAny (model prog w) A (getMethod (.ref x) name pl) Q E s := by
  obtain ⟨od, J, hl⟩ := I.look
  exact PySem.W.method_fn X J (PySem.W.plainGet_of hg).1 (PySem.W.plainGet_of hg).2 hf (beq_iff_eq.mp ht) (by show (PySem.W.lookIn name od).map (·.isSome) = some false; rw [hl, hv]; rfl) h
theorem set_map {ns : List Str} {Q : Unit → Shared → Prop} (X : K.In s.heap) (I : ObjM s.heap x dx C mA)
    (hs : PySem.W.findIn K (.ref C) "__setattr__" = some (some (.builtin "object.__setattr__"))) (hp : PySem.W.plainOver K C = true) (ht : PySem.W.takerIn K C name = some none) (hh : PySem.W.hasDictIn K C = true)
    (hw : PySem.Within mA ns) (hsz : ns.length ≤ sizeLine)
    (h : ∀ h', ObjM h' x dx C (fun y => if y = name then some v else mA y) → Heap.SameBut dx s.heap h' → Q () { s with heap := h', toks := s.toks + 2 }) :
    wpAny (model prog w) A (setAttr (.ref x) name v) Q E s := by
  obtain ⟨od, J, hl⟩ := I.look
  refine PySem.W.set_plain X J hs (PySem.W.osa_open (s := { s with toks := s.toks + 1 }) (r := none) X J hp ht fun b => ?_)
  obtain ⟨cd, hc, hd'⟩ := PySem.W.any_some hh
  have hx : s.heap.get? x = some ⟨.ref C, some dx, .plain, #[]⟩ := I.obj
  refine wpAny_bind (wpAny_pure (wpAny_bind (wpAny_bind (wpAny_loadPart hx (wpAny_bind (PySem.W.Looks.here (s := { s with toks := s.toks + 1 }) (PySem.W.looks_clsIn X hc) ?_))))))
  rw [hd']
  refine wpAny_pure (a := some dx) (wpAny_bind (wpAny_pure (wpAny_bind ?_)))
  refine wpAny_nsSet1 (s := { s with toks := s.toks + 1 }) I.ns fun h' hn2 hs2 => ?_
  obtain ⟨oD, esD, epD, hoD, hdD, hcD⟩ := hn2.count (PySem.Within.cons name v hw)
  refine wpAny_bind (wpAny_lookBehind hoD (by rw [hdD]; exact pastItsLine_dict (Nat.le_trans hcD (by rw [List.length_cons]; omega))) ?_)
  exact wpAny_pure (h _ ⟨(hs2.2 _ (Ne.symm I.ne)).trans I.obj, hn2, I.ne⟩ hs2)
theorem make_map {R : Result → Shared → Prop} {vs : List Value} {kw : List (Str × Value)} (X : K.In s.heap) (hm : PySem.W.makesIn K C = true)
    (hi : PySem.W.findIn K (.ref C) "__init__" = some (some (.ref f))) (hf : PySem.W.typeIn K (.ref f) = some (.type "function"))
    (h : codeAny (model prog w) (A.under (.builtin "type.__call__" ⟨.ref C :: vs, kw⟩)) (.call (.ref f) ⟨.ref (s.heap.objs.size + 1) :: vs, kw⟩) (PySem.W.InitBack (s.heap.objs.size + 1) R)
      { s with heap := (s.heap.push PySem.W.emptyDict).push (PySem.W.instObj C s.heap.objs.size) }) :
    codeAny (model prog w) A (.call (.ref C) ⟨vs, kw⟩) R s := by
  obtain ⟨hh, g, d, t, os⟩ := s
  exact PySem.W.make_core (PySem.W.makes_of X hm) (PySem.W.looks_findIn X hi) (fun self => PySem.W.bind_fn X self hf) (.inl rfl) h
end
def putF (f : Str) (v : V) : List (Str × V) → List (Str × V)
  | [] => [(f, v)]
  | (g, x) :: r => if g = f then (g, v) :: r else (g, x) :: putF f v r
theorem lookup_putF (f g : Str) (v : V) : ∀ fs : List (Str × V), (putF f v fs).lookup g = if g = f then some v else fs.lookup g
  | [] => by
    show List.lookup g [(f, v)] = _
    by_cases h : g = f
    · have hb : (g == f) = true := beq_iff_eq.mpr h
      simp only [List.lookup, hb, if_pos h]
    · have hb : (g == f) = false := beq_eq_false_iff_ne.mpr h
      simp only [List.lookup, hb, if_neg h]
  | (k, x) :: r => by
    have ih := lookup_putF f g v r
    rw [show putF f v ((k, x) :: r) = (if k = f then (k, v) :: r else (k, x) :: putF f v r) from rfl]
    by_cases hk : k = f
    · rw [if_pos hk]
      by_cases h : g = k
      · have hb : (g == k) = true := beq_iff_eq.mpr h
        simp only [List.lookup, hb, if_pos (h.trans hk)]
      · have hb : (g == k) = false := beq_eq_false_iff_ne.mpr h
        simp only [List.lookup, hb, if_neg (fun e : g = f => h (e.trans hk.symm))]
    · rw [if_neg hk]
      by_cases h : g = k
      · have hb : (g == k) = true := beq_iff_eq.mpr h
        simp only [List.lookup, hb, if_neg (fun e : g = f => hk (h.symm.trans e))]
      · have hb : (g == k) = false := beq_eq_false_iff_ne.mpr h
        simp only [List.lookup, hb]
        exact ih
theorem keys_putF (f : Str) (v : V) : ∀ fs : List (Str × V), f ∈ (putF f v fs).map (·.1) ∧ ∀ g, g ∈ fs.map (·.1) → g ∈ (putF f v fs).map (·.1)
  | [] => ⟨by simp [putF], fun g h => by simp at h⟩
  | (k, x) :: r => by
    obtain ⟨i1, i2⟩ := keys_putF f v r
    rw [show putF f v ((k, x) :: r) = (if k = f then (k, v) :: r else (k, x) :: putF f v r) from rfl]
    by_cases hk : k = f
    · rw [if_pos hk]
      subst hk
      exact ⟨by simp, fun g h => by simpa using h⟩
    · rw [if_neg hk]
      refine ⟨?_, fun g h => ?_⟩
      · rw [List.map_cons]
        exact List.mem_cons_of_mem _ i1
      · rw [List.map_cons] at h ⊢
        rcases List.mem_cons.mp h with e | e
        · exact List.mem_cons.mpr (.inl e)
        · exact List.mem_cons_of_mem _ (i2 g e)
theorem length_putF (f : Str) (v : V) : ∀ fs : List (Str × V), (putF f v fs).length ≤ fs.length + 1
  | [] => by simp [putF]
  | (k, x) :: r => by
    have ih := length_putF f v r
    rw [show putF f v ((k, x) :: r) = (if k = f then (k, v) :: r else (k, x) :: putF f v r) from rfl]
    by_cases hk : k = f
    · rw [if_pos hk, List.length_cons, List.length_cons]; omega
    · rw [if_neg hk, List.length_cons, List.length_cons]; omega
theorem RelO.some_of {v : V} {o : Option Value} (r : RelO (some v) o) : ∃ u, o = some u ∧ RelV v u := by
  cases o with
  | none => exact (show False from r).elim
  | some u => exact ⟨u, rfl, r⟩
theorem RelO.none_of {o : Option Value} (r : RelO none o) : o = none := by
  cases o with
  | none => rfl
  | some u => exact (show False from r).elim
theorem handed_of {v : V} {u : Value} (r : RelV v u) : PySem.W.handedIn u = true := by
  cases v with
  | non => cases (show u = Value.none from r); rfl
  | bl b => cases (show u = Value.bool b from r); rfl
  | int i => obtain ⟨t, e⟩ := (show ∃ t, u = Value.int i t from r); cases e; rfl
  | str x => obtain ⟨t, e⟩ := (show ∃ t, u = Value.str x t from r); cases e; rfl
  | byt b => obtain ⟨t, e⟩ := (show ∃ t, u = Value.bytes b t from r); cases e; rfl
  | flt b => obtain ⟨t, e⟩ := (show ∃ t, u = Value.float b t from r); cases e; rfl
  | ref a => cases (show u = Value.ref a from r); rfl
  | ty n => cases (show u = Value.type n from r); rfl
section
variable {P : Program} {w : World} {H H' : Hp} {h h' : Heap} {a C dx : Addr} {fs fs' : List (Str × V)}
theorem ins_get (hok : HOk P w H h) (e : H a = some (.ins C dx fs)) : ∃ mA, ObjM h a dx C mA ∧ (∀ f, RelO (fs.lookup f) (mA f)) ∧ PySem.Within mA (fs.map (·.1)) ∧ fs.length ≤ 1000 ∧ H dx = some (.own a) := by
  obtain ⟨d, z, ne, ob, mA, n, r, q⟩ := (show ObjOk P w H h a (.ins C dx fs) from hok a _ e)
  exact ⟨mA, ⟨ob, n, ne⟩, r, q, z, d⟩
end
set_option genInjectivity false in
set_option genSizeOf false in
structure Cls (K : PySem.W.Frag) (C : Addr) : Prop where
  pg : PySem.W.plainGet K C Str.empty = true
  hd : PySem.W.hasDictIn K C = true
  po : PySem.W.plainOver K C = true
  sa : PySem.W.findIn K (.ref C) "__setattr__" = some (some (.builtin "object.__setattr__"))
theorem Cls.get {K : PySem.W.Frag} {C : Addr} (c : Cls K C) (f : Str) : PySem.W.plainGet K C f = true := c.pg
def NoAttr (K : PySem.W.Frag) (C : Addr) (f : Str) : Prop := PySem.W.findIn K (.ref C) f = some none
theorem NoAttr.taker {K : PySem.W.Frag} {C : Addr} {f : Str} (n : NoAttr K C f) : PySem.W.takerIn K C f = some none := by
  unfold PySem.W.takerIn
  rw [show PySem.W.findIn K (.ref C) f = some none from n]
  rfl
set_option genInjectivity false in
set_option genSizeOf false in
structure Meth (K : PySem.W.Frag) (C : Addr) (m : Str) (f : Addr) : Prop where
  at_ : PySem.W.findIn K (.ref C) m = some (some (.ref f))
  fn : PySem.W.isFn K (.ref f) = true
  kp : PySem.W.keepIn K (.ref f) = true
section
variable {X : Cx} {pins : List (Addr × Obj)} {σ : St} {H : Hp} {s : Shared} {a C dx : Addr} {fs : List (Str × V)} {f : Str} {v : V} {A : Around} {E : Value → Shared → Prop}
theorem getattr_ok {b : Bool} {Q : Value → Shared → Prop} (I : Inv X pins σ H s) (e : H a = some (.ins C dx fs)) (c : Cls X.K C) (n : NoAttr X.K C f) (l : fs.lookup f = some v)
    (h : ∀ u s', Inv X pins σ H s' → RelV v u → Q u s') : wpAny (model X.prog X.w) A (getAttr (.ref a) f b) Q E s := by
  obtain ⟨mA, O, r, _, _, _⟩ := ins_get I.hok e
  obtain ⟨u, hu, ru⟩ := RelO.some_of (v := v) (o := mA f) (by rw [← l]; exact r f)
  exact get_map I.kIn O (c.get f) c.hd n hu (handed_of ru) (h u _ (I.tok _) ru)
theorem getmeth_ok {m : Str} {g : Addr} {pl : Sem Bool} {Q : Value × List Value → Shared → Prop} (I : Inv X pins σ H s) (e : H a = some (.ins C dx fs)) (c : Cls X.K C) (k : Meth X.K C m g) (l : fs.lookup m = none)
    (h : Q (.ref g, [.ref a]) s) : wpAny (model X.prog X.w) A (getMethod (.ref a) m pl) Q E s := by
  obtain ⟨mA, O, r, _, _, _⟩ := ins_get I.hok e
  have hn : mA m = none := RelO.none_of (by rw [← l]; exact r m)
  exact get_meth I.kIn O (c.get m) k.at_ k.fn hn h
theorem setattr_ok {y : V} {u : Value} {Q : Unit → Shared → Prop} (I : Inv X pins σ H s) (e : H a = some (.ins C dx fs)) (c : Cls X.K C) (n : NoAttr X.K C f) (hl : fs.length < 1000) (ry : RelV y u)
    (h : ∀ s', Inv X pins σ (upd H a (.ins C dx (putF f y fs))) s' → Q () s') : wpAny (model X.prog X.w) A (setAttr (.ref a) f u) Q E s := by
  obtain ⟨mA, O, r, wi, _, ho⟩ := ins_get I.hok e
  have hz : (fs.map (·.1)).length ≤ sizeLine := by rw [List.length_map, sizeLine_eq]; omega
  refine set_map I.kIn O c.sa c.po n.taker c.hd wi hz fun h' O' sb => h _ ?_
  have hd : ∃ o, h'.get? dx = some o := let ⟨o, _, _, e', _⟩ := O'.ns; ⟨o, e'⟩
  refine I.write (x := a) (e := dx) (by rw [e]; exact True.intro) (.inr ho) (fun b q hb z => (sb.2 b hb).trans z) hd ?_
  refine ⟨by rw [upd_ne O.ne]; exact ho, ?_, O.ne, O'.obj, _, O'.ns, fun g => ?_, fun g hg => ?_⟩
  · have := length_putF f y fs; omega
  · show RelO ((putF f y fs).lookup g) (if g = f then some u else mA g)
    rw [lookup_putF]
    by_cases q : g = f
    · rw [if_pos q, if_pos q]; exact ry
    · rw [if_neg q, if_neg q]; exact r g
  · by_cases q : g = f
    · rw [q]; exact (keys_putF f y fs).1
    · refine (keys_putF f y fs).2 g (wi g fun z => hg ?_)
      show (if g = f then some u else mA g) = none
      rw [if_neg q]; exact z
theorem Inv.made (I : Inv X pins σ H s) : Inv X pins σ (upd (upd H s.heap.objs.size (.own (s.heap.objs.size + 1))) (s.heap.objs.size + 1) (.ins C s.heap.objs.size []))
    { s with heap := (s.heap.push PySem.W.emptyDict).push (PySem.W.instObj C s.heap.objs.size) } := by
  have e1 : (s.heap.push PySem.W.emptyDict).get? s.heap.objs.size = some PySem.W.emptyDict := Heap.get?_push_size s.heap rfl
  have e2 : ((s.heap.push PySem.W.emptyDict).push (PySem.W.instObj C s.heap.objs.size)).get? (s.heap.objs.size + 1) = some (PySem.W.instObj C s.heap.objs.size) := by
    have := Heap.get?_push_size (s.heap.push PySem.W.emptyDict) (o := PySem.W.instObj C s.heap.objs.size) rfl
    rwa [Heap.size_push] at this
  have e3 : (s.heap.push PySem.W.emptyDict).Ns s.heap.objs.size (fun _ => none) := ⟨PySem.W.emptyDict, #[], _, e1, rfl, (fun e he => absurd he (by simp)), fun _ => rfl⟩
  have I1 := I.laid (a := s.heap.objs.size) (o := .own (s.heap.objs.size + 1)) (h' := s.heap.push PySem.W.emptyDict) (t' := s.toks) (fun b u q => Heap.get?_push_of_some _ q) (Nat.le_refl _) ⟨_, e1⟩
  refine I1.laid (a := s.heap.objs.size + 1) (o := .ins C s.heap.objs.size []) (t' := s.toks) (fun b u q => Heap.get?_push_of_some _ q) (Nat.le_of_eq (Heap.size_push _ _)) ?_
  have ne : s.heap.objs.size ≠ s.heap.objs.size + 1 := Nat.ne_of_lt (Nat.lt_succ_self _)
  refine ⟨by rw [upd_ne ne, upd_same], Nat.zero_le _, ne, e2, fun _ => none, (Heap.Ns1.of_empty e3).at fun o q => Heap.get?_push_of_some _ q, fun _ => True.intro, fun y hy => absurd rfl hy⟩
theorem attr_of {prog : Program} {w : World} {env : Env} {e : Expr} {f : Str} {pos : Pos} {s : Shared} {Q : Value → Shared → Prop} (hb : attributeBase e f env (eval e env) = eval e env)
    (h : wpAny (model prog w) A (eval e env) (fun o s₁ => wpAny (model prog w) A (getAttr o f true) Q E s₁) E s) : wpAny (model prog w) A (eval (.Attribute e f pos) env) Q E s :=
  Attribute_any_ h (by rw [arm_eval_Attribute, hb])
end
def tFld (K : PySem.W.Frag) (ta : TE) (f : Str) : TE := fun σ H Q => ta σ H fun x H1 => ∃ a C dx fs v, x = .ref a ∧ H1 a = some (.ins C dx fs) ∧ Cls K C ∧ NoAttr K C f ∧ fs.lookup f = some v ∧ Q v H1
def sFld (K : PySem.W.Frag) (ta tv : TE) (f : Str) : TS := fun D σ H => tv σ H fun y H1 => ta σ H1 fun x H2 => ∃ a C dx fs, x = .ref a ∧ H2 a = some (.ins C dx fs) ∧ Cls K C ∧ NoAttr K C f ∧ fs.length < 1000 ∧
  D.nx σ (upd H2 a (.ins C dx (putF f y fs)))
def InOp (X : Cx) (op : Operator) (rd : V → V → Hp → VK → Prop) : Prop :=
  ∀ (pins : List (Addr × Obj)) (s : Shared) (σ : St) (H : Hp) (x y : V) (u v : Value) (Q : VK), Inv X pins σ H s → RelV x u → RelV y v → rd x y H Q → wpAny (model X.prog X.w) X.A (inplaceOp op u v) (EP X pins σ Q) X.xe s
def sFldAug (K : PySem.W.Frag) (ta tv : TE) (rd : V → V → Hp → VK → Prop) (f : Str) : TS := fun D σ H => ta σ H fun x H1 => ∃ a C dx fs v, x = .ref a ∧ H1 a = some (.ins C dx fs) ∧ Cls K C ∧ NoAttr K C f ∧ fs.lookup f = some v ∧
  tv σ H1 fun y H2 => rd v y H2 fun z H3 => ∃ dx' fs', H3 a = some (.ins C dx' fs') ∧ fs'.length < 1000 ∧ D.nx σ (upd H3 a (.ins C dx' (putF f z fs')))
section
variable {X : Cx} {o e value : Expr} {f : Str} {pos pos' tpos : Pos} {ta tv : TE}
theorem pe_fld (he : PE X e ta) (hb : attributeBase e f X.env (eval e X.env) = eval e X.env) : PE X (.Attribute e f pos) (tFld X.K ta f) := by
  intro pins s σ H Q I h
  refine attr_of hb (thn (he pins s σ H _ I h) fun u s1 ⟨x, H1, I1, rx, a, C, dx, fs, v, ex, ea, c, n, l, q⟩ => ?_)
  subst ex
  obtain rfl : u = Value.ref a := rx
  exact getattr_ok I1 ea c n l fun u' s2 I2 ru => ⟨v, H1, I2, ru, q⟩
theorem ps_fld (ha : PE X o ta) (hv : PE X value tv) (hs : swapsWith value (some (.Attribute o f pos')) pos.line X.env = pure false) : PS X (.Assign [.Attribute o f pos'] value pos) (sFld X.K ta tv f) := by
  intro pins s σ H D I h
  refine plainObj_wpAny_Assign_Attribute (thn (hv pins s σ H _ I h) fun u s1 ⟨y, H1, I1, ry, q⟩ => thn (ha pins s1 σ H1 _ I1 q) fun ov s2 ⟨x, H2, I2, rx, a, C, dx, fs, ex, ea, c, n, l, q2⟩ => ?_) hs
  subst ex
  obtain rfl : ov = Value.ref a := rx
  exact setattr_ok I2 ea c n l ry fun s3 I3 => ⟨σ, _, I3, q2⟩
theorem ps_fldaug {op : Operator} {rd : V → V → Hp → VK → Prop} (ha : PE X o ta) (hv : PE X value tv) (hop : InOp X op rd) : PS X (.AugAssign (.Attribute o f tpos) op value pos) (sFldAug X.K ta tv rd f) := by
  intro pins s σ H D I h
  refine wpAny_AugAssign_AttributeAny (thn (ha pins s σ H _ I h) fun ov s1 ⟨x, H1, I1, rx, a, C, dx, fs, v, ex, ea, c, n, l, q⟩ => ?_)
  subst ex
  obtain rfl : ov = Value.ref a := rx
  refine getattr_ok I1 ea c n l fun u s2 I2 ru => thn (hv pins s2 σ H1 _ I2 q) fun w3 s3 ⟨y, H2, I3, ry, q3⟩ => thn (hop pins s3 σ H2 v y u w3 _ I3 ru ry q3) fun w4 s4 ⟨z, H3, I4, rz, dx', fs', ea', l', q4⟩ => ?_
  exact setattr_ok I4 ea' c n l' rz fun s5 I5 => ⟨σ, _, I5, q4⟩
def rAdd : V → V → Hp → VK → Prop := fun x y H Q => ∃ i j, x = .int i ∧ y = .int j ∧ Q (.int (i + j)) H
theorem in_add : InOp X .Add rAdd := by
  rintro pins s σ H x y u v Q I rx ry ⟨i, j, rfl, rfl, q⟩
  obtain ⟨t, rfl⟩ := (show ∃ t, u = Value.int i t from rx)
  obtain ⟨t', rfl⟩ := (show ∃ t', v = Value.int j t' from ry)
  exact PyProof.Rows.iadd_int ⟨.int (i + j), H, I.tok _, ⟨_, rfl⟩, q⟩
end
section
variable {X : Cx} {pins : List (Addr × Obj)} {σ : St} {H : Hp} {s : Shared} {A : Around} {E : Value → Shared → Prop} {Q : Value → Shared → Prop} {c : Value} {b : Bool}
end
end L2
namespace L2
open PySem PySem.Spec PyProof.Rows
set_option genInjectivity false in
set_option genSizeOf false in
structure Room (k : Nat) (A : Around) : Prop where
  hd : A.handled = none
  dp : A.depth + 3 * k + 5 < recursionLimit
  un : A.units + 16 * k + 200 < cLine
  gd : A.guards = some []
theorem Room.mono {j k : Nat} {A : Around} (r : Room k A) (h : j ≤ k) : Room j A := ⟨r.hd, by have := r.dp; omega, by have := r.un; omega, r.gd⟩
theorem Room.deeper {k : Nat} {A : Around} (r : Room (k + 1) A) (env : Env) : Room k (A.deeper env) :=
  ⟨r.hd, by have := r.dp; show A.depth + 1 + 3 * k + 5 < _; omega, by have := r.un; show A.units + 3 + 16 * k + 200 < _; omega, r.gd⟩
theorem make_depth {A : Around} {C : Addr} {us : List Value} {kw : List (Str × Value)} : (A.under (.builtin "type.__call__" ⟨.ref C :: us, kw⟩)).depth = A.depth + 1 := by
  first | rfl | simp [Around.under, Code.weight, Code.isCreation, Code.isGuard, Code.isCaller, Code.frames, Code.isFrame, guardIds]
theorem make_units {A : Around} {C : Addr} {us : List Value} {kw : List (Str × Value)} : (A.under (.builtin "type.__call__" ⟨.ref C :: us, kw⟩)).units = A.units + 1 := by
  first | rfl | simp [Around.under, Code.cUnits, Code.frames, Code.isFrame]
theorem make_guards {A : Around} {C : Addr} {us : List Value} {kw : List (Str × Value)} : (A.under (.builtin "type.__call__" ⟨.ref C :: us, kw⟩)).guards = A.guards := by
  show pushGuards (Code.guards (.builtin "type.__call__" ⟨.ref C :: us, kw⟩)) A.guards = A.guards
  rw [show Code.guards (.builtin "type.__call__" ⟨.ref C :: us, kw⟩) = [] from rfl]
  cases A.guards <;> rfl
theorem Room.make {k : Nat} {A : Around} (r : Room (k + 1) A) (C : Addr) (us : List Value) (kw : List (Str × Value)) : Room k (A.under (.builtin "type.__call__" ⟨.ref C :: us, kw⟩)) :=
  ⟨r.hd, by have := r.dp; rw [make_depth]; omega, by have := r.un; rw [make_units]; omega, by rw [make_guards]; exact r.gd⟩
theorem Room.depth {k : Nat} {A : Around} (r : Room k A) : A.depth < recursionLimit := by have := r.dp; omega
def tNil : TA := fun _ H Q => Q [] H
def tCons (ta : TE) (tr : TA) : TA := fun σ H Q => ta σ H fun x H1 => tr σ H1 fun xs H2 => Q (x :: xs) H2
section
variable {X : Cx} {e : Expr} {es : List Expr} {te : TE} {t : TA} {pos : Pos}
theorem pa_nil : PA X [] tNil := fun _ _ _ _ H Q I h => Calls.spliced_nil ⟨[], H, I, .nil, h⟩
theorem pa_cons (ha : PE X e te) (hr : PA X es t) (hs : starEach (e :: es) X.env = (false, eval e X.env) :: starEach es X.env := by rfl) : PA X (e :: es) (tCons te t) := by
  intro pos pins s σ H Q I h
  rw [hs]
  show wpAny _ _ (spliced ((false, eval e X.env) :: backTo pos (starEach es X.env))) _ _ s
  refine Calls.spliced_cons (thn (ha pins s σ H _ I h) fun u s1 ⟨x, H1, I1, r1, q1⟩ => ?_)
  exact thn (hr pos pins s1 σ H1 _ I1 q1) fun us s2 ⟨xs, H2, I2, r2, q2⟩ => ⟨x :: xs, H2, I2, .cons r1 r2, q2⟩
def tTup (t : TA) : TE := fun σ H Q => t σ H fun xs H1 => xs.length ≤ sizeLine ∧ ∀ p, H1 p = none → Q (.ref p) (upd H1 p (.tup xs))
def tLst (t : TA) : TE := fun σ H Q => t σ H fun xs H1 => xs.length ≤ sizeLine ∧ ∀ p, H1 p = none → Q (.ref p) (upd H1 p (.lst xs))
theorem pe_tup {x1} (h : PA X es t) : PE X (.Tuple es x1 pos) (tTup t) := by
  intro pins s σ H Q I hq
  refine wpAny_Tuple_spliced (thn (h pos pins s σ H _ I hq) fun us s1 ⟨xs, H1, I1, r, z, q⟩ => ⟨by rw [← r.length]; exact z, ?_⟩)
  have hf : H1 s1.heap.objs.size = none := I1.hok.fresh (Nat.le_refl _)
  refine ⟨.ref s1.heap.objs.size, upd H1 s1.heap.objs.size (.tup xs), I1.laid (t' := s1.toks) (fun b u e => Heap.get?_push_of_some _ e) (Nat.le_refl _) ?_, rfl, q _ hf⟩
  exact ⟨z, us, r, ⟨_, Heap.get?_push_size _ rfl, rfl, _, rfl⟩⟩
theorem pe_lst (h : PA X es t) : PE X (.List es pos) (tLst t) := by
  intro pins s σ H Q I hq
  refine wpAny_List_spliced (thn (h pos pins s σ H _ I hq) fun us s1 ⟨xs, H1, I1, r, z, q⟩ => ⟨by rw [← r.length]; exact z, ?_⟩)
  have hf : H1 s1.heap.objs.size = none := I1.hok.fresh (Nat.le_refl _)
  refine ⟨.ref s1.heap.objs.size, upd H1 s1.heap.objs.size (.lst xs), I1.laid (t' := s1.toks) (fun b u e => Heap.get?_push_of_some _ e) (Nat.le_refl _) ?_, rfl, q _ hf⟩
  exact ⟨z, us, 0, r, Heap.get?_push_size _ rfl⟩
end
abbrev Sp := List V → Hp → VK → XK → Prop
abbrev CXT := List Env → Hp → Shared → XK → Value → Shared → Prop
set_option genInjectivity false in
set_option genSizeOf false in
structure Env0 (P : Program) (w : World) (K : PySem.W.Frag) (mg : Str → Option Value) (base : Heap) (A : Around) (outer : List Env) (s : Shared) (H : Hp) : Prop where
  frames : A.frames = some outer
  mod : Mod K mg base
  bs : ∀ b o, base.get? b = some o → s.heap.get? b = some o ∧ H b = none
  bsz : base.objs.size ≤ s.heap.objs.size
  funs : s.heap.FunFrames base outer
  frf : ∀ b ∈ frs outer, H b = none
  hok : HOk P w H s.heap
  bare : AllBare s.gens
def CE (outer : List Env) (P : Program) (w : World) (H : Hp) (s : Shared) (Q : VK) (u : Value) (s' : Shared) : Prop :=
  ∃ v H', s'.os = s.os ∧ AllBare s'.gens ∧ Un (frs outer) [] H H' s.heap s'.heap ∧ HOk P w H' s'.heap ∧ RelV v u ∧ Q v H'
def CR (CX : CXT) (outer : List Env) (P : Program) (w : World) (H : Hp) (s : Shared) (Q : VK) (E : XK) (r : Result) (s' : Shared) : Prop :=
  match r with
  | .ok (.ret u) => CE outer P w H s Q u s'
  | .ok _ => False
  | .error e => CX outer H s E e s'
set_option genInjectivity false in
set_option genSizeOf false in
structure FnOk (P : Program) (w : World) (K : PySem.W.Frag) (mg : Str → Option Value) (base : Heap) (CX : CXT) (k : Nat) (f : Addr) (fd : FuncData) (ps : List Str) (sp : Sp) : Prop where
  len : ∀ vs H Q E, sp vs H Q E → vs.length = ps.length
  run : ∀ (A : Around) (outer : List Env) (s : Shared) (H : Hp) (args : Args) (us : List Value) (vs : List V) (Q : VK) (E : XK), Room k A → Env0 P w K mg base A outer s H → BindsTo s fd args (ps.zip us) → Vals vs us → sp vs H Q E →
    codeAny (model P w) A (.call (.ref f) args) (CR CX outer P w H s Q E) s
theorem FnOk.mono {P : Program} {w : World} {K : PySem.W.Frag} {mg : Str → Option Value} {base : Heap} {CX : CXT} {j k : Nat} {f : Addr} {fd : FuncData} {ps : List Str} {sp : Sp} (F : FnOk P w K mg base CX j f fd ps sp) (h : j ≤ k) :
    FnOk P w K mg base CX k f fd ps sp := ⟨F.len, fun A outer s H args us vs Q E hr => F.run A outer s H args us vs Q E (hr.mono h)⟩
theorem FnOk.imp {P : Program} {w : World} {K : PySem.W.Frag} {mg : Str → Option Value} {base : Heap} {CX : CXT} {k : Nat} {f : Addr} {fd : FuncData} {ps : List Str} {sp sp' : Sp} (F : FnOk P w K mg base CX k f fd ps sp)
    (h : ∀ vs H Q E, sp' vs H Q E → sp vs H Q E) : FnOk P w K mg base CX k f fd ps sp' :=
  ⟨fun vs H Q E q => F.len vs H Q E (h _ _ _ _ q), fun A outer s H args us vs Q E hr he hb hv hs => F.run A outer s H args us vs Q E hr he hb hv (h _ _ _ _ hs)⟩
theorem Env0.make {P : Program} {w : World} {K : PySem.W.Frag} {mg : Str → Option Value} {base : Heap} {A : Around} {outer : List Env} {s : Shared} {H : Hp} (e : Env0 P w K mg base A outer s H) (C : Addr) (us : List Value) (kw : List (Str × Value)) :
    Env0 P w K mg base (A.under (.builtin "type.__call__" ⟨.ref C :: us, kw⟩)) outer s H := ⟨by first | exact e.frames | (simpa [Around.under, Code.envs, Code.isFrame, pushEnvs] using e.frames), e.mod, e.bs, e.bsz, e.funs, e.frf, e.hok, e.bare⟩
section
variable {X : Cx} {pins : List (Addr × Obj)} {σ : St} {H : Hp} {s s' : Shared}
theorem Inv.env0 (I : Inv X pins σ H s) : Env0 X.prog X.w X.K X.mg X.base X.A X.stack s H :=
  ⟨I.ok.frames, I.ok.mod, I.bs, Nat.le_trans I.ok.bsz I.sz, I.stack, I.stkFree, I.hok, I.bare⟩
theorem Inv.after {Q : VK} {u : Value} (I : Inv X pins σ H s) (h : CE X.stack X.prog X.w H s Q u s') : EP X pins σ Q u s' := by
  obtain ⟨v, H', os, bare, un, hok, r, q⟩ := h
  obtain ⟨hh, g, d, t, os'⟩ := s'
  obtain rfl : os' = s.os := os
  exact ⟨v, H', I.call (h' := hh) (g' := g) (d' := d) (t' := t) (ch := []) un hok bare (fun b z => absurd z (by simp)), r, q⟩
end
def tCall (sp : Sp) (dvs : List V) (E : XK) (t : TA) : TE := fun σ H Q => t σ H fun vs H1 => sp (vs ++ dvs) H1 Q E
def tMeth (C : Addr) (m : Str) (sp : Sp) (dvs : List V) (E : XK) (ta : TE) (t : TA) : TE := fun σ H Q => ta σ H fun x H1 => ∃ a dx fs, x = .ref a ∧ H1 a = some (.ins C dx fs) ∧ fs.lookup m = none ∧
  t σ H1 fun vs H2 => sp (x :: (vs ++ dvs)) H2 Q E
def tMake (C : Addr) (sp : Sp) (dvs : List V) (E : XK) (t : TA) : TE := fun σ H Q => t σ H fun vs H1 => ∀ x dx, H1 x = none → H1 dx = none → dx ≠ x →
  sp (.ref x :: (vs ++ dvs)) (upd (upd H1 dx (.own x)) x (.ins C dx [])) (fun v H2 => v = .non ∧ Q (.ref x) H2) E
def Binds (K : PySem.W.Frag) (fd : FuncData) (ps : List Str) (ds : List Value) : Prop :=
  ∀ (s : Shared) (us : List Value), K.In s.heap → (us ++ ds).length = ps.length → BindsTo s fd ⟨us, []⟩ (ps.zip (us ++ ds))
theorem Binds.all {K : PySem.W.Frag} {fd : FuncData} {ps : List Str} (h : ∀ us : List Value, us.length = ps.length → bindArgs fd ⟨us, []⟩ = pure (ps.zip us)) : Binds K fd ps [] := fun s us _ hl => by
  rw [List.append_nil] at hl ⊢
  exact .of_eq (h us hl)
def Passes (CX : CXT) (X : Cx) (E : XK) : Prop := ∀ (pins : List (Addr × Obj)) (σ : St) (H : Hp) (s : Shared) (e : Value) (s' : Shared), Inv X pins σ H s → CX X.stack H s E e s' → X.xe e s'
section
variable {X : Cx} {CX : CXT} {k : Nat} {f C : Addr} {fd : FuncData} {ps : List Str} {sp : Sp} {dvs : List V} {ds : List Value} {E : XK} {x m : Str} {p pos apos : Pos} {e o : Expr} {es : List Expr} {ta : TE} {t : TA}
theorem run_fn {pins : List (Addr × Obj)} {σ : St} {H : Hp} {s : Shared} {Q : VK} {us : List Value} {vs : List V} (F : FnOk X.prog X.w X.K X.mg X.base CX k f fd ps sp) (hr : Room k X.A) (hb : Binds X.K fd ps ds) (hd : Vals dvs ds) (hx : Passes CX X E)
    (I : Inv X pins σ H s) (r : Vals vs us) (h : sp (vs ++ dvs) H Q E) : wpAny (model X.prog X.w) X.A (call (.ref f) us) (EP X pins σ Q) X.xe s := by
  have r2 : Vals (vs ++ dvs) (us ++ ds) := r.append hd
  have hl : (us ++ ds).length = ps.length := by rw [← r2.length]; exact F.len _ _ _ _ h
  refine wpAny_call (codeAny_mono (F.run X.A X.stack s H ⟨us, []⟩ (us ++ ds) (vs ++ dvs) Q E hr I.env0 (hb s us I.kIn hl) r2 h) fun r s' hq => ?_)
  cases r with
  | error e => exact hx pins σ H s e s' I hq
  | ok fl =>
    cases fl with
    | ret u => exact I.after hq
    | next => exact False.elim hq
    | brk => exact False.elim hq
    | cont => exact False.elim hq
theorem pe_call (F : FnOk X.prog X.w X.K X.mg X.base CX k f fd ps sp) (hr : Room k X.A) (hg : Gl X x) (hm : X.mg x = some (.ref f)) (hk : PySem.W.keepIn X.K (.ref f) = true) (hb : Binds X.K fd ps ds) (hd : Vals dvs ds) (hx : Passes CX X E)
    (ha : PA X (e :: es) t) (hdb : (x == ("__debug__" : Str)) = false := by decide) (he : starEach (e :: es) X.env = (false, eval e X.env) :: starEach es X.env := by rfl) (hpl : (backTo pos (starEach es X.env)).any (·.1) = false := by rfl) :
    PE X (.Call (.Name x p) (e :: es) [] pos) (tCall sp dvs E t) := by
  intro pins s σ H Q I h
  refine wpAny_Call_Name_kw (ld_glob I hg hm ?_ hdb)
  refine PySem.W.callWith_K (h₀ := X.base) I.ok.mod.kin hk (thn (ha pos pins s σ H _ I h) fun us s1 ⟨vs, H1, I1, r, q⟩ => ⟨I1.kIn, ?_⟩) he hpl
  exact run_fn F hr hb hd hx I1 r q
theorem pe_meth {pl : Sem Bool} (he : PE X o ta) (c : Cls X.K C) (hm : Meth X.K C m f) (F : FnOk X.prog X.w X.K X.mg X.base CX k f fd ps sp) (hr : Room k X.A) (hb : Binds X.K fd ps ds) (hd : Vals dvs ds) (hx : Passes CX X E) (ha : PA X (e :: es) t)
    (hst : starEach (e :: es) X.env = (false, eval e X.env) :: starEach es X.env := by rfl) (hpl : (backTo pos (starEach es X.env)).any (·.1) = false := by rfl)
    (ht : eval (.Call (.Attribute o m apos) (e :: es) [] pos) X.env = (do
      let ov ← eval o X.env
      standAt apos.atName
      let (f, first) ← holding [ov] (getMethod ov m pl)
      callWith pos f first (backTo pos (starEach (e :: es) X.env)) (backToKw pos (keywordEach [] X.env))) := by rfl) :
    PE X (.Call (.Attribute o m apos) (e :: es) [] pos) (tMeth C m sp dvs E ta t) := by
  intro pins s σ H Q I h
  refine PySem.W.methodCall_KW (pl := pl) (thn (he pins s σ H _ I h) fun u s1 ⟨x, H1, I1, rx, a, dx, fs, ex, ea, l, q⟩ => ?_) ht
  subst ex
  obtain rfl : u = Value.ref a := rx
  refine getmeth_ok I1 ea c hm l ?_
  refine PySem.W.callWith_K (first := [.ref a]) (h₀ := X.base) I.ok.mod.kin hm.kp (thn (ha pos pins s1 σ H1 _ I1 q) fun us s2 ⟨vs, H2, I2, r, q2⟩ => ⟨I2.kIn, ?_⟩) hst hpl
  exact run_fn (us := .ref a :: us) (vs := .ref a :: vs) F hr hb hd hx I2 (.cons rfl r) q2
theorem pe_meth0 {pl : Sem Bool} (he : PE X o ta) (c : Cls X.K C) (hm : Meth X.K C m f) (F : FnOk X.prog X.w X.K X.mg X.base CX k f fd ps sp) (hr : Room k X.A) (hb : Binds X.K fd ps ds) (hd : Vals dvs ds) (hx : Passes CX X E)
    (ht : eval (.Call (.Attribute o m apos) [] [] pos) X.env = (do
      let ov ← eval o X.env
      standAt apos.atName
      let (f, first) ← holding [ov] (getMethod ov m pl)
      callWith pos f first (backTo pos (starEach [] X.env)) (backToKw pos (keywordEach [] X.env))) := by rfl) :
    PE X (.Call (.Attribute o m apos) [] [] pos) (tMeth C m sp dvs E ta tNil) := by
  intro pins s σ H Q I h
  refine PySem.W.methodCall_KW (pl := pl) (thn (he pins s σ H _ I h) fun u s1 ⟨x, H1, I1, rx, a, dx, fs, ex, ea, l, q⟩ => ?_) ht
  subst ex
  obtain rfl : u = Value.ref a := rx
  refine getmeth_ok I1 ea c hm l ?_
  exact PySem.W.callWith_K0 (first := [.ref a]) I1.kIn hm.kp (run_fn (us := [.ref a]) (vs := [.ref a]) F hr hb hd hx I1 (.cons rfl .nil) q)
set_option genInjectivity false in
set_option genSizeOf false in
structure Mk (K : PySem.W.Frag) (C f : Addr) : Prop where
  makes : PySem.W.makesIn K C = true
  init : PySem.W.findIn K (.ref C) "__init__" = some (some (.ref f))
  fn : PySem.W.isFn K (.ref f) = true
  kp : PySem.W.keepIn K (.ref C) = true
theorem run_make {pins : List (Addr × Obj)} {σ : St} {H : Hp} {s : Shared} {Q : VK} {us : List Value} {vs : List V} (M : Mk X.K C f) (F : FnOk X.prog X.w X.K X.mg X.base CX k f fd ps sp) (hr : Room (k + 1) X.A) (hb : Binds X.K fd ps ds) (hd : Vals dvs ds)
    (hx : Passes CX X E) (I : Inv X pins σ H s) (r : Vals vs us)
    (h : ∀ x dx, H x = none → H dx = none → dx ≠ x → sp (.ref x :: (vs ++ dvs)) (upd (upd H dx (.own x)) x (.ins C dx [])) (fun v H2 => v = .non ∧ Q (.ref x) H2) E) :
    wpAny (model X.prog X.w) X.A (call (.ref C) us) (EP X pins σ Q) X.xe s := by
  have hq := h (s.heap.objs.size + 1) s.heap.objs.size (I.hok.fresh (Nat.le_succ _)) (I.hok.fresh (Nat.le_refl _)) (Nat.ne_of_lt (Nat.lt_succ_self _))
  have I2 := Inv.made (C := C) I
  have r2 : Vals (V.ref (s.heap.objs.size + 1) :: (vs ++ dvs)) (Value.ref (s.heap.objs.size + 1) :: (us ++ ds)) := .cons rfl (r.append hd)
  have hl : (Value.ref (s.heap.objs.size + 1) :: us ++ ds).length = ps.length := by
    have e := r2.length
    rw [F.len _ _ _ _ hq] at e
    exact e.symm
  refine wpAny_call (make_map (f := f) I.kIn M.makes M.init (beq_iff_eq.mp M.fn) (codeAny_mono (F.run _ X.stack _ _ ⟨Value.ref (s.heap.objs.size + 1) :: us, []⟩ (Value.ref (s.heap.objs.size + 1) :: (us ++ ds)) _ _ E (hr.make C us [])
    (I2.env0.make C us []) (hb _ (Value.ref (s.heap.objs.size + 1) :: us) I2.kIn hl) r2 hq) fun r s' hq' => ?_))
  cases r with
  | error e => exact hx pins σ _ _ e s' I2 hq'
  | ok fl =>
    cases fl with
    | ret u =>
      obtain ⟨v, H', I3, rv, ev, q3⟩ := I2.after hq'
      subst ev
      exact ⟨rv, ⟨V.ref (s.heap.objs.size + 1), H', I3, rfl, q3⟩⟩
    | next => exact False.elim hq'
    | brk => exact False.elim hq'
    | cont => exact False.elim hq'
theorem pe_make (M : Mk X.K C f) (F : FnOk X.prog X.w X.K X.mg X.base CX k f fd ps sp) (hr : Room (k + 1) X.A) (hg : Gl X x) (hm : X.mg x = some (.ref C)) (hb : Binds X.K fd ps ds) (hd : Vals dvs ds) (hx : Passes CX X E)
    (ha : PA X (e :: es) t) (hdb : (x == ("__debug__" : Str)) = false := by decide) (he : starEach (e :: es) X.env = (false, eval e X.env) :: starEach es X.env := by rfl) (hpl : (backTo pos (starEach es X.env)).any (·.1) = false := by rfl) :
    PE X (.Call (.Name x p) (e :: es) [] pos) (tMake C sp dvs E t) := by
  intro pins s σ H Q I h
  refine wpAny_Call_Name_kw (ld_glob I hg hm ?_ hdb)
  refine PySem.W.callWith_K (h₀ := X.base) I.ok.mod.kin M.kp (thn (ha pos pins s σ H _ I h) fun us s1 ⟨vs, H1, I1, r, q⟩ => ⟨I1.kIn, ?_⟩) he hpl
  exact run_make M F hr hb hd hx I1 r q
end
section
variable {X : Cx} {CX : CXT} {k : Nat} {f C : Addr} {fd : FuncData} {ps ks : List Str} {sp : Sp} {E : XK} {x m : Str} {p pos apos kpos : Pos} {e o : Expr} {es : List Expr} {kws : List Keyword} {te ta : TE} {t tk : TA} {nm : Option Str}
variable {g : List Value → List Value → List Value} {gV : List V → List V → List V}
end
set_option genInjectivity false in
set_option genSizeOf false in
structure FnScope (N P : List Str) (sc : Scope) : Prop where
  kind : sc.kind = .function
  co : sc.isCoroutine = false
  gen : sc.isGenerator = false
  nd : N.Nodup
  pre : N.take P.length = P
  par : ∀ x ∈ P, sc.names.lookup x = some .local ∨ sc.names.lookup x = some .cell
  nofree : ∀ y ∈ sc.names, y.2 ≠ .free
theorem bindL_out {kindOf : Str → Option NameKind} {x : Str} : ∀ {binds : List (Str × Value)} {m : Str → Option Value}, (∀ v, (x, v) ∉ binds) → bindL kindOf binds m x = m x
  | [], _, _ => rfl
  | (n, v) :: r, m, h => by
    unfold bindL
    rw [bindL_out fun w hw => h w (List.mem_cons_of_mem _ hw)]
    split
    · have : x ≠ n := by rintro rfl; exact h v List.mem_cons_self
      simp [this]
    · rfl
theorem bindC_out {kindOf : Str → Option NameKind} {x : Str} : ∀ {binds : List (Str × Value)} {m : Str → Option Value}, (∀ v, (x, v) ∉ binds) → bindC kindOf binds m x = m x
  | [], _, _ => rfl
  | (n, v) :: r, m, h => by
    unfold bindC
    rw [bindC_out fun w hw => h w (List.mem_cons_of_mem _ hw)]
    split
    · rfl
    · have : x ≠ n := by rintro rfl; exact h v List.mem_cons_self
      simp [this]
theorem bindL_get {kindOf : Str → Option NameKind} {x : Str} {v : Value} : ∀ {P : List Str} {vs : List Value} {i : Nat} {m : Str → Option Value}, P.Nodup → P[i]? = some x → vs[i]? = some v → kindOf x = some .local →
    bindL kindOf (P.zip vs) m x = some v
  | [], _, _, _, _, h, _, _ => by simp at h
  | _ :: _, [], _, _, _, _, h, _ => by simp at h
  | p :: P, w :: vs, 0, m, nd, h1, h2, hk => by
    simp at h1 h2; subst h1; subst h2
    show bindL kindOf ((p, w) :: P.zip vs) m p = _
    unfold bindL
    rw [bindL_out fun v hv => (List.nodup_cons.mp nd).1 (List.of_mem_zip hv).1, if_pos hk]
    simp
  | p :: P, w :: vs, i + 1, m, nd, h1, h2, hk => by
    show bindL kindOf ((p, w) :: P.zip vs) m x = _
    unfold bindL
    exact bindL_get (i := i) (List.nodup_cons.mp nd).2 (by simpa using h1) (by simpa using h2) hk
theorem bindC_get {kindOf : Str → Option NameKind} {x : Str} {v : Value} : ∀ {P : List Str} {vs : List Value} {i : Nat} {m : Str → Option Value}, P.Nodup → P[i]? = some x → vs[i]? = some v → kindOf x ≠ some .local →
    bindC kindOf (P.zip vs) m x = some v
  | [], _, _, _, _, h, _, _ => by simp at h
  | _ :: _, [], _, _, _, _, h, _ => by simp at h
  | p :: P, w :: vs, 0, m, nd, h1, h2, hk => by
    simp at h1 h2; subst h1; subst h2
    show bindC kindOf ((p, w) :: P.zip vs) m p = _
    unfold bindC
    rw [bindC_out fun v hv => (List.nodup_cons.mp nd).1 (List.of_mem_zip hv).1, if_neg hk]
    simp
  | p :: P, w :: vs, i + 1, m, nd, h1, h2, hk => by
    show bindC kindOf ((p, w) :: P.zip vs) m x = _
    unfold bindC
    exact bindC_get (i := i) (List.nodup_cons.mp nd).2 (by simpa using h1) (by simpa using h2) hk
def start (N : List Str) (vs : List V) : St := vs.map some ++ List.replicate (N.length - vs.length) none
def cxOf (CX : CXT) (P : Program) (w : World) (K : PySem.W.Frag) (mg : Str → Option Value) (base : Heap) (N : List Str) (qual : Str) (scope : Scope) (f : Addr) (cd : Value) (A : Around) (outer : List Env) (s : Shared) (H : Hp) (E : XK) : Cx where
  prog := P
  w := w
  K := K
  mg := mg
  base := base
  A := A.deeper (envOfC qual scope s.heap.objs.size f cd)
  N := N
  s₀ := s
  H₀ := H
  env := envOfC qual scope s.heap.objs.size f cd
  outer := outer
  stack := envOfC qual scope s.heap.objs.size f cd :: outer
  ex := []
  calm := true
  fn := fun _ => true
  pn := []
  xe := fun e s' => wpAny (model P w) (A.deeper (envOfC qual scope s.heap.objs.size f cd)) (leaving (envOfC qual scope s.heap.objs.size f cd) e) (fun _ s'' => CX outer H s E e s'') (fun e' s'' => CX outer H s E e' s'') s'
theorem cell_has {sc : Scope} {n : Nat} {x : Str} (h : sc.names.lookup x = some .cell) : ∃ c, (cellsFrom n sc.names []).lookup x = some c := by
  have q := PySem.W.cellsFrom_some sc.names n [] (.inl h)
  exact Option.isSome_iff_exists.mp q
theorem inv_start {CX : CXT} {P : Program} {w : World} {K : PySem.W.Frag} {mg : Str → Option Value} {base : Heap} {N ps : List Str} {qual : Str} {scope : Scope} {f : Addr} {cd : Value} {A : Around} {outer : List Env} {s s1 : Shared} {H : Hp} {E : XK} {us : List Value} {vs : List V}
    (S : FnScope N ps scope) (hd : A.handled = none) (e0 : Env0 P w K mg base A outer s H) (hl : vs.length = ps.length) (r : Vals vs us)
    (x : InCallC s s.heap.objs.size (bindL (envOfC qual scope s.heap.objs.size f cd).kindOf (ps.zip us) fun _ => none) (cellsFrom (s.heap.objs.size + 1) scope.names []) (bindC (envOfC qual scope s.heap.objs.size f cd).kindOf (ps.zip us) fun _ => none) s1) :
    Inv (cxOf CX P w K mg base N qual scope f cd A outer s H E) [] (start N vs) H s1 := by
  have hpl : ps.length ≤ N.length := by have := congrArg List.length S.pre; rw [List.length_take] at this; omega
  obtain ⟨h1, tk, rfl, hk⟩ := x.done
  have noA : ∀ b : Addr, b ∉ (cxOf CX P w K mg base N qual scope f cd A outer s H E).ex := fun b z => absurd (show b ∈ ([] : List Addr) from z) (by simp)
  refine ⟨⟨e0.mod, S.kind, rfl, rfl, Nat.le_refl _, fun y z c h1 h2 => ?_, fun y hy => ?_, fun y c _ h => ?_, fun _ => hd, Around.frames_deeper e0.frames, .inr ⟨rfl, rfl⟩, fun b z => absurd z (noA b), e0.bs, e0.bsz, fun b _ _ => noA b, fun b z => absurd z (noA b), e0.funs, e0.frf⟩,
    rfl, e0.bare, Un.kept hk, ⟨_, x.toInCall.ns, fun i y v h1 h2 h3 => ?_⟩, fun y c h => ⟨_, x.cell y c h⟩, e0.hok.fresh (Nat.le_refl _), fun y c h => ?_, fun p hp => absurd (show p ∈ ([] : List (Addr × Obj)) from hp) (by simp), e0.hok.kept hk, ?_⟩
  · exact name_of_addr x.apart (PySem.mem_of_lookup h1) (PySem.mem_of_lookup h2)
  · have hy : scope.names.lookup y = some .cell ∨ scope.names.lookup y = some .free := hy
    rcases hy with hy | hy
    · exact cell_has hy
    · exact absurd rfl (S.nofree _ (PySem.mem_of_lookup hy))
  · exact Nat.le_of_lt (x.above y c (PySem.mem_of_lookup h))
  · have hi : i < vs.length := by
      unfold start at h2
      by_cases hi : i < vs.length
      · exact hi
      · rw [List.getElem?_append_right (by simpa using hi)] at h2
        rw [List.getElem?_replicate] at h2
        split at h2 <;> cases h2
    have ha : vs[i]? = some v := by
      unfold start at h2
      rw [List.getElem?_append_left (by simpa using hi), List.getElem?_map] at h2
      cases e : vs[i]? with
      | none => rw [e] at h2; cases h2
      | some a => rw [e] at h2; cases h2; rfl
    obtain ⟨u, hu, rv⟩ := r.get ha
    have hp : ps[i]? = some y := by
      rw [← S.pre, List.getElem?_take_of_lt (by omega)]; exact h1
    have ndP : ps.Nodup := by rw [← S.pre]; exact S.nd.sublist (List.take_sublist _ _)
    refine ⟨u, rv, ?_⟩
    rcases S.par y (List.mem_of_getElem? hp) with k | k
    · exact .inl ⟨k, bindL_get ndP hp hu k⟩
    · obtain ⟨c, e⟩ := cell_has (n := s.heap.objs.size + 1) k
      refine .inr ⟨.inl k, c, e, ?_⟩
      have q := x.cell y c e
      rw [bindC_get ndP hp hu (by show scope.names.lookup y ≠ _; rw [k]; decide)] at q
      exact q
  · exact e0.hok.fresh (Nat.le_of_lt (x.above y c (PySem.mem_of_lookup h)))
  · unfold start
    show _ = N.length
    rw [List.length_append, List.length_map, List.length_replicate]
    omega
theorem fn_of {CX : CXT} {P : Program} {w : World} {K : PySem.W.Frag} {mg : Str → Option Value} {base : Heap} {k : Nat} {f : Addr} {name qual : Str} {params : Arguments} {body : List Stmt} {scope : Scope} {dV kV doc pm cdv ct oc : Value} {an od : Option Addr}
    {osl : Array (Option Value)} {N ps : List Str} {sp : Sp} (lk : K.lookup f = some ⟨oc, od, .func (PySem.W.fnOf name qual params body scope dV kV doc pm an cdv ct), osl⟩) (hcd : PySem.W.codeIn K cdv qual = true) (S : FnScope N ps scope)
    (len : ∀ vs H Q E, sp vs H Q E → vs.length = ps.length)
    (hbody : ∀ (A : Around) (outer : List Env) (s : Shared) (H : Hp) (vs : List V) (Q : VK) (E : XK), Room k (A.deeper (envOfC qual scope s.heap.objs.size f cdv)) → sp vs H Q E →
      ∃ t, PSs (cxOf CX P w K mg base N qual scope f cdv A outer s H E) body t ∧ t { nx := fun _ H' => Q .non H', rt := Q } (start N vs) H) :
    FnOk P w K mg base CX (k + 1) f (PySem.W.fnOf name qual params body scope dV kV doc pm an cdv ct) ps sp := by
  refine ⟨len, fun A outer s H args us vs Q E hr e0 hb r hsp => ?_⟩
  have hl := len _ _ _ _ hsp
  have KX : K.In s.heap := e0.mod.kin.keeps fun b o e => (e0.bs b o e).1
  have lim : s.heap.NoLimit := e0.mod.nolimit.keeps fun b o e => (e0.bs b o e).1
  have hkind : ∀ y ∈ ps.zip us, scope.names.lookup y.1 = some .local ∨ (scope.names.lookup y.1 = some .cell ∧ ((cellsFrom (s.heap.objs.size + 1) scope.names []).lookup y.1).isSome = true) := fun ⟨n, v⟩ hy => by
    rcases S.par n (List.of_mem_zip hy).1 with q | q
    · exact .inl q
    · exact .inr ⟨q, PySem.W.cellsFrom_some _ _ _ (.inl q)⟩
  refine codeAny_call_function hr.depth (KX _ _ lk) rfl S.co S.gen rfl (PySem.W.codeRec_of KX hcd) (hb _ _ _ _ ?_)
  refine wpAny_newFunctionEnv_cells S.kind hkind fun env he s1 x => ?_
  subst he
  refine ⟨lim.keeps x.toInCall.keep, codeAny_func ?_⟩
  obtain ⟨t, ht, hq⟩ := hbody A outer s H vs Q E (hr.deeper _) hsp
  have I : Inv (cxOf CX P w K mg base N qual scope f cdv A outer s H E) [] (start N vs) H s1 := inv_start S hr.hd e0 hl r x
  refine wpAny_mono (ht [] s1 (start N vs) H _ I hq) (fun fl s' hs => ?_) fun e s' hs => hs
  have fin : ∀ {σ' : St} {H' : Hp} {v : V} {u : Value}, Inv (cxOf CX P w K mg base N qual scope f cdv A outer s H E) [] σ' H' s' → RelV v u → Q v H' → CE outer P w H s Q u s' :=
    fun {σ' H' v u} J rv q => ⟨v, H', J.os, J.bare, J.base, J.hok, rv, q⟩
  cases fl with
  | ret u =>
    obtain ⟨v, σ', H', J, rv, q⟩ := hs
    exact fin J rv q
  | next =>
    obtain ⟨σ', H', J, q⟩ := hs
    exact fin (v := V.non) (u := Value.none) J rfl q
  | brk =>
    obtain ⟨_, _, _, q⟩ := hs
    exact False.elim q
  | cont =>
    obtain ⟨_, _, _, q⟩ := hs
    exact False.elim q
end L2
namespace L2
open PySem PySem.Spec PyProof.Rows
section
variable {X : Cx} {x : Str} {p pos : Pos} {e : Expr} {es : List Expr} {t : TA} {id T : String} {r : List V → Hp → VK → Prop}
def tCB (r : List V → Hp → VK → Prop) (t : TA) : TE := fun σ H Q => t σ H fun vs H1 => r vs H1 Q
theorem pe_callB (hc : CallR X (.builtin id) r) (hg : Gl X x) (hm : X.mg x = none) (hv : bootBuiltins x = some (.builtin id)) (ha : PA X (e :: es) t) (hn : x ≠ "__name__" := by decide) (hdb : (x == ("__debug__" : Str)) = false := by decide)
    (he : starEach (e :: es) X.env = (false, eval e X.env) :: starEach es X.env := by rfl) (hpl : (backTo pos (starEach es X.env)).any (·.1) = false := by rfl) : PE X (.Call (.Name x p) (e :: es) [] pos) (tCB r t) := by
  intro pins s σ H Q I h
  refine wpAny_Call_Name_kw (ld_blt I hg hm hv ?_ hn hdb)
  exact PyProof.Rows.callWith_builtin1 (thn (ha pos pins s σ H _ I h) fun us s1 ⟨vs, H1, I1, r1, q1⟩ => hc pins s1 σ H1 vs us Q I1 r1 q1) he hpl
theorem pe_callTy (hc : CallR X (.type T) r) (hg : Gl X x) (hm : X.mg x = none) (hv : bootBuiltins x = some (.type T)) (ha : PA X (e :: es) t) (hn : x ≠ "__name__" := by decide) (hdb : (x == ("__debug__" : Str)) = false := by decide)
    (he : starEach (e :: es) X.env = (false, eval e X.env) :: starEach es X.env := by rfl) (hpl : (backTo pos (starEach es X.env)).any (·.1) = false := by rfl) : PE X (.Call (.Name x p) (e :: es) [] pos) (tCB r t) := by
  intro pins s σ H Q I h
  refine wpAny_Call_Name_kw (ld_blt I hg hm hv ?_ hn hdb)
  exact PyProof.Rows.callWith_type1 (thn (ha pos pins s σ H _ I h) fun us s1 ⟨vs, H1, I1, r1, q1⟩ => hc pins s1 σ H1 vs us Q I1 r1 q1) he hpl
end
end L2
namespace HT
open PySem PyProof.Rows
section
open PySem.SeqAt
open PySem.AutoSeq1 (wpAny_loadPart')
open PySem.MeetsSeq PySem.MeetsSeq2 PySem.MeetsSeq3
end
section
variable {prog : Program} {w : World} {A : Around} {E : Value → Shared → Prop} {s : Shared}
theorem cat_tup {t b : Addr} {vs ws : List Value} {Q : Value → Shared → Prop} (ht : IsTup s.heap t vs.toArray) (hb : IsTup s.heap b ws.toArray) (hv : vs ≠ [])
    (h1 : ws = [] → Q (.ref t) s) (h2 : ws ≠ [] → Q (.ref s.heap.objs.size) { s with heap := s.heap.push { cls := .type "tuple", data := .seq (vs ++ ws).toArray } })
    (hsz : vs.length + ws.length ≤ sizeLine) : wpAny (model prog w) A (binaryOp .Add (.ref t) (.ref b)) Q E s := by
  obtain ⟨⟨cls, dd, data, sl⟩, ho, hc, n, hd⟩ := id ht
  obtain ⟨⟨cls2, dd2, data2, sl2⟩, ho2, hc2, n2, hd2⟩ := id hb
  simp only at hc hd hc2 hd2
  subst hc hd hc2 hd2
  have e : vs.toArray ++ ws.toArray = (vs ++ ws).toArray := by simp
  by_cases hw : ws = []
  · exact concat_meets ⟨_, ho, rfl⟩ ⟨_, ho2, rfl⟩ noFill_tuple_add seq_tuple_add PySem.F.slot_tuple_add PySem.F.entry_tuple_add (PySem.F.args_tuple_add_2 _ _)
      (tuple_addW1 t b vs.toArray ws.toArray n n2 dd dd2 sl sl2 (by simpa using hv) (by simp [hw])) ⟨ho, ho2, h1 hw⟩
  · refine concat_meets ⟨_, ho, rfl⟩ ⟨_, ho2, rfl⟩ noFill_tuple_add seq_tuple_add PySem.F.slot_tuple_add PySem.F.entry_tuple_add (PySem.F.args_tuple_add_2 _ _)
      (tuple_addW2 t b vs.toArray ws.toArray n n2 dd dd2 sl sl2 (by simpa using hv) (by simpa using hw) (by rw [List.size_toArray, List.size_toArray]; exact hsz)) ⟨ho, ho2, ?_⟩
    rw [e]
    exact h2 hw
def sIx (n d : Nat) : Option Int → Nat
  | none => d
  | some v => if v < 0 then (v + (n : Int)).toNat else min v.toNat n
theorem sIx_le (n d : Nat) (hd : d ≤ n) (o : Option Int) : sIx n d o ≤ n := by
  cases o with
  | none => exact hd
  | some v =>
    show (if v < 0 then (v + (n : Int)).toNat else min v.toNat n) ≤ n
    by_cases hv : v < 0
    · rw [if_pos hv]; omega
    · rw [if_neg hv]; exact Nat.min_le_right _ _
theorem clip_eq (v : Int) (n d : Nat) : (if v < 0 then max (v + (n : Int)) 0 else min v (n : Int)) = ((sIx n d (some v) : Nat) : Int) := by
  show (if v < 0 then max (v + (n : Int)) 0 else min v (n : Int)) = (((if v < 0 then (v + (n : Int)).toNat else min v.toNat n) : Nat) : Int)
  by_cases hv : v < 0
  · simp only [if_pos hv]; omega
  · simp only [if_neg hv]; omega
theorem adjust_gen (lo hi : Option Int) (n : Nat) : Builtin.Slice.sliceAdjust lo hi 1 (n : Int) = (((sIx n 0 lo : Nat) : Int), ((sIx n n hi : Nat) : Int)) := by
  have h1 : ¬ ((1 : Int) < 0) := by omega
  unfold Builtin.Slice.sliceAdjust
  simp only [h1, if_false]
  refine Prod.ext ?_ ?_
  · cases lo with
    | none => rfl
    | some v => exact clip_eq v n 0
  · cases hi with
    | none => rfl
    | some v => exact clip_eq v n n
theorem places_gen (i j : Nat) : Builtin.Slice.slicePlaces (i : Int) (j : Int) 1 = j - i := by
  unfold Builtin.Slice.slicePlaces
  have h1 : (1 : Int) > 0 := by omega
  simp only [h1, if_true, Int.ediv_one]
  split <;> omega
theorem slicePart_ {v : Value} {o : Option Int} {Q : Option Int → Shared → Prop} (p : IsPart v o) (h : Q o s) : wpAny (model prog w) A (Builtin.Slice.slicePartIndex v) Q E s := by
  cases p with
  | none => exact slicePart_none h
  | int i t => exact slicePart_int h
theorem sliceApplied_gen {sl : Addr} {vl vu : Value} {lo hi : Option Int} {n : Nat} {Q : Int × Int × Nat → Shared → Prop} (hs : s.heap.IsSliceOf sl vl vu .none) (pl : IsPart vl lo) (pu : IsPart vu hi)
    (h : Q (((sIx n 0 lo : Nat) : Int), 1, sIx n n hi - sIx n 0 lo) s) : wpAny (model prog w) A (Builtin.Slice.sliceApplied (.ref sl) (pure (n : Int))) Q E s := by
  obtain ⟨os, hos, hcs, hds⟩ := id hs
  unfold Builtin.Slice.sliceApplied Builtin.Slice.sliceFields
  refine wpAny_bind (wpAny_bind (wpAny_field hos hds (x := vl) rfl (wpAny_bind (wpAny_field hos hds (x := vu) rfl (wpAny_bind (wpAny_field hos hds (x := .none) rfl (wpAny_pure ?_)))))))
  refine wpAny_bind (slicePart_none ?_)
  show wpAny _ _ (if ((1 : Int) == 0) = true then _ else _) _ _ s
  rw [if_neg (by decide)]
  refine wpAny_bind (slicePart_ pl (wpAny_bind (slicePart_ pu (wpAny_bind (wpAny_pure ?_)))))
  show wpAny _ _ (match Builtin.Slice.sliceAdjust lo hi 1 (n : Int) with | (lo, hi) => pure (lo, (1 : Int), Builtin.Slice.slicePlaces lo hi 1)) _ _ s
  rw [adjust_gen lo hi n]
  show wpAny _ _ (pure (((sIx n 0 lo : Nat) : Int), (1 : Int), Builtin.Slice.slicePlaces ((sIx n 0 lo : Nat) : Int) ((sIx n n hi : Nat) : Int) 1)) _ _ s
  rw [places_gen]
  exact wpAny_pure h
theorem pick_gen (xs : Array Value) (i k : Nat) : ((List.range k).filterMap fun (m : Nat) => xs[((i : Int) + (m : Int) * 1).toNat]?).toArray = ((xs.toList.drop i).take k).toArray := by
  have e : (fun (m : Nat) => xs[((i : Int) + (m : Int) * 1).toNat]?) = fun m => xs[i + m]? := by
    funext m
    have : ((i : Int) + (m : Int) * 1).toNat = i + m := by omega
    rw [this]
  rw [e]
  have := pick_run xs i k
  rw [List.filterMap_map] at this
  have e2 : ((fun x => xs[x]?) ∘ fun x => i + x) = fun m => xs[i + m]? := rfl
  rw [e2] at this
  rw [this]
theorem getItem_tuple_cut {t sl : Addr} {items : Array Value} {vl vu : Value} {lo hi : Option Int} {Q : Value → Shared → Prop} (ht : IsTup s.heap t items) (hs : s.heap.IsSliceOf sl vl vu .none) (pl : IsPart vl lo) (pu : IsPart vu hi)
    (hw : ¬ (sIx items.size 0 lo = 0 ∧ sIx items.size items.size hi = items.size))
    (h : Q (.ref s.heap.objs.size) { s with heap := s.heap.push { cls := .type "tuple", data := .seq ((items.toList.drop (sIx items.size 0 lo)).take (sIx items.size items.size hi - sIx items.size 0 lo)).toArray } })
    (hsz : items.size ≤ sizeLine) : wpAny (model prog w) A (getItem (.ref t) (.ref sl)) Q E s := by
  have htake : sizeOk (.seq ((items.toList.drop (sIx items.size 0 lo)).take (sIx items.size items.size hi - sIx items.size 0 lo)).toArray) := by
    show ((items.toList.drop (sIx items.size 0 lo)).take (sIx items.size items.size hi - sIx items.size 0 lo)).toArray.size ≤ sizeLine
    rw [List.size_toArray, List.length_take, List.length_drop, Array.length_toList]
    omega
  have hj : sIx items.size items.size hi ≤ items.size := sIx_le _ _ (Nat.le_refl _) hi
  obtain ⟨os, hos, hcs, hds⟩ := id hs
  have hTs : s.TypeIs (.ref sl) "slice" := ⟨os, hos, hcs⟩
  unfold getItem
  try with_reducible refine wpAny_holding ?_
  first | refine wpAny_bind (wpAny_pure ?_) | skip
  refine wpAny_bind (wpAny_sequenceKey ht.typeIs (by decide) ?_)
  refine wpAny_bind (wpAny_callSpecial?_slot (name := Str.ofString "__getitem__") ht.typeIs PyProof.Rows.slot_tuple_getitem
    (wpAny_call_entry PyProof.Rows.slot_tuple_getitem ht.typeIs entry_tuple_getitem ?_ (args_tuple_getitem _ _)))
  show wpAny _ _ (Builtin.Tuple.tupleItemsOf (.ref t) >>= _) _ _ s
  refine wpAny_bind (tupleItemsOf_ ht ?_)
  refine wpAny_bind (wpAny_typeOf hTs ?_)
  rw [if_pos (by decide)]
  refine wpAny_bind (sliceApplied_gen hs pl pu ?_)
  have hno : ¬ ((((sIx items.size 0 lo : Nat) : Int) == 0 && (1 : Int) == 1 && (sIx items.size items.size hi - sIx items.size 0 lo) == items.size) = true) := by
    intro q
    rw [Bool.and_eq_true, Bool.and_eq_true] at q
    have q1 : ((sIx items.size 0 lo : Nat) : Int) = 0 := eq_of_beq q.1.1
    have q2 : sIx items.size items.size hi - sIx items.size 0 lo = items.size := eq_of_beq q.2
    exact hw ⟨by omega, by omega⟩
  show wpAny _ _ (if (((sIx items.size 0 lo : Nat) : Int) == 0 && (1 : Int) == 1 && (sIx items.size items.size hi - sIx items.size 0 lo) == items.size) = true then _ else _) _ _ s
  rw [if_neg hno, pick_gen]
  first
    | exact wpAny_bind (m := Builtin.Tuple.tupleExact _) (wpAny_newObj_type (wpAny_pure ⟨_, rfl, wpAny_pure h⟩) htake)
    | exact wpAny_bind (m := Builtin.Tuple.tupleExact _) (wpAny_newObj_type (wpAny_bind (wpAny_pure (wpAny_pure ⟨_, rfl, wpAny_pure h⟩))) htake)
    | exact wpAny_bind (wpAny_bind (m := Builtin.Tuple.tupleExact _) (wpAny_newObj_type (wpAny_pure (wpAny_pure ⟨_, rfl, wpAny_pure h⟩)) htake))
    | exact wpAny_bind (wpAny_bind (m := Builtin.Tuple.tupleExact _) (wpAny_newObj_type (wpAny_pure ⟨_, rfl, wpAny_pure h⟩) htake))
end
end HT
namespace L2
open PySem PySem.Spec PyProof.Rows
abbrev TO := St → Hp → (Option Int → Hp → Prop) → Prop
def PO (X : Cx) (e : Option Expr) (t : TO) : Prop :=
  ∀ (pins : List (Addr × Obj)) (s : Shared) (σ : St) (H : Hp) (Q : Option Int → Hp → Prop), Inv X pins σ H s → t σ H Q →
    wpAny (model X.prog X.w) X.A (evalPart e X.env) (fun u s' => ∃ o H', Inv X pins σ H' s' ∧ IsPart u o ∧ Q o H') X.xe s
def tNoPart : TO := fun _ H Q => Q none H
def tPart (t : TE) : TO := fun σ H Q => t σ H fun x H1 => ∃ i, x = .int i ∧ Q (some i) H1
section
variable {X : Cx} {e : Expr} {te : TE} {lo hi : Option Expr} {tl th : TO} {pos p2 : Pos}
theorem po_none : PO X none tNoPart := by
  intro pins s σ H Q I h
  rw [evalPart_none]
  exact wpAny_pure ⟨none, H, I, .none, h⟩
theorem po_some (h : PE X e te) : PO X (some e) (tPart te) := by
  intro pins s σ H Q I hw
  rw [evalPart_some]
  refine thn (h pins s σ H _ I hw) fun u s1 ⟨x, H1, I1, r1, q1⟩ => ?_
  obtain ⟨i, rfl, q⟩ := q1
  obtain ⟨t, rfl⟩ := r1
  exact ⟨some i, H1, I1, .int i t, q⟩
def SlR (X : Cx) (r : V → Option Int → Option Int → Hp → VK → Prop) : Prop :=
  ∀ (pins : List (Addr × Obj)) (s : Shared) (σ : St) (H : Hp) (x : V) (v vl vu : Value) (lo hi : Option Int) (sl : Addr) (Q : VK), Inv X pins σ H s → RelV x v → s.heap.IsSliceOf sl vl vu .none → IsPart vl lo → IsPart vu hi → r x lo hi H Q →
    ∃ T id, typeLookup (.type T) "__getitem__" = pure (some (.builtin id)) ∧ s.TypeIs v T ∧ wpAny (model X.prog X.w) X.A (getItem v (.ref sl)) (EP X pins σ Q) X.xe s
def tSl (r : V → Option Int → Option Int → Hp → VK → Prop) (te : TE) (tl th : TO) : TE := fun σ H Q => te σ H fun x H1 => tl σ H1 fun l H2 => th σ H2 fun u H3 => r x l u H3 Q
theorem pe_slice {r : V → Option Int → Option Int → Hp → VK → Prop} (hr : SlR X r) (he : PE X e te) (hl : PO X lo tl) (hu : PO X hi th) : PE X (.Subscript e (.Slice lo hi none p2) pos) (tSl r te tl th) := by
  intro pins s σ H Q I h
  refine Subscript_ (thn (he pins s σ H _ I h) fun v s1 ⟨x, H1, I1, r1, q1⟩ => ?_)
  refine wpAny_Slice (thn (hl pins s1 σ H1 _ I1 q1) fun vl s2 ⟨l, H2, I2, pl, q2⟩ => thn (hu pins s2 σ H2 _ I2 q2) fun vu s3 ⟨u, H3, I3, pu, q3⟩ => ?_)
  rw [evalPart_none]
  refine wpAny_pure ?_
  have I4 : Inv X pins σ H3 { s3 with heap := s3.heap.push { cls := .type "slice", data := .fields #[vl, vu, .none] } } := I3.kept (t' := s3.toks) fun b ob q => Heap.get?_push_of_some _ q
  obtain ⟨T, id, hT, ht, hg⟩ := hr pins { s3 with heap := s3.heap.push { cls := .type "slice", data := .fields #[vl, vu, .none] } } σ H3 x v vl vu l u s3.heap.objs.size Q I4 r1 (Heap.IsSliceOf.new ..) pl pu q3
  show wpAny (model X.prog X.w) X.A (subscriptTail e (.Slice lo hi none p2) v (.ref s3.heap.objs.size)) (EP X pins σ Q) X.xe { s3 with heap := s3.heap.push { cls := .type "slice", data := .fields #[vl, vu, .none] } }
  exact tail_any (ops := [.ref s3.heap.objs.size, v]) ht hT hg (by with_unfolding_all rfl)
def cutV (xs : List V) (lo hi : Option Int) : List V := (xs.drop (HT.sIx xs.length 0 lo)).take (HT.sIx xs.length xs.length hi - HT.sIx xs.length 0 lo)
theorem cutV_length (xs : List V) (lo hi : Option Int) : (cutV xs lo hi).length ≤ xs.length := by
  unfold cutV
  rw [List.length_take, List.length_drop]
  omega
def rSlT (K : PySem.W.Frag) : V → Option Int → Option Int → Hp → VK → Prop := fun x lo hi H Q => ∃ a xs, x = .ref a ∧ SqT K H a xs ∧
  ¬ (HT.sIx xs.length 0 lo = 0 ∧ HT.sIx xs.length xs.length hi = xs.length) ∧ ∀ p, H p = none → Q (.ref p) (upd H p (.tup (cutV xs lo hi)))
theorem sl_tup : SlR X (rSlT X.K) := by
  intro pins s σ H x v vl vu lo hi sl Q I rx hs pl pu h
  obtain ⟨a, xs, rfl, hx, hw, q⟩ := h
  cases rx
  obtain ⟨its, r, ht, hz⟩ := I.tuple hx
  have hlen : its.toArray.size = xs.length := by rw [List.size_toArray]; exact r.length.symm
  refine ⟨"tuple", _, PyProof.Rows.slot_tuple_getitem.lookup, ht.typeIs, ?_⟩
  refine HT.getItem_tuple_cut ht hs pl pu (by rw [hlen]; exact hw) ?_ (by rw [hlen]; exact hz)
  rw [hlen]
  refine ⟨.ref s.heap.objs.size, _, I.laid (t' := s.toks) (o := .tup (cutV xs lo hi)) (fun b ob q => Heap.get?_push_of_some _ q) (Nat.le_refl _) ?_, rfl, q _ (I.hok.fresh (Nat.le_refl _))⟩
  exact ⟨Nat.le_trans (cutV_length xs lo hi) hz, _, (r.drop (HT.sIx xs.length 0 lo)).take (HT.sIx xs.length xs.length hi - HT.sIx xs.length 0 lo), IsTup.new _ _⟩
def rCatT (K : PySem.W.Frag) : R2 := fun x y H Q => ∃ a b xs ys, x = .ref a ∧ y = .ref b ∧ SqT K H a xs ∧ SqT K H b ys ∧ xs ≠ [] ∧ xs.length + ys.length ≤ sizeLine ∧
  (ys = [] → Q (.ref a) H) ∧ (ys ≠ [] → ∀ p, H p = none → Q (.ref p) (upd H p (.tup (xs ++ ys))))
theorem Vals.nil_iff {xs : List V} {us : List Value} (r : Vals xs us) : us = [] ↔ xs = [] := by
  cases r with
  | nil => simp
  | cons _ _ => simp
theorem op_catT : OpR X (binaryOp .Add) (rCatT X.K) := by
  intro pins s σ H x y v u Q I rx ry h
  obtain ⟨a, b, xs, ys, rfl, rfl, ha, hb, hx, hz, q1, q2⟩ := h
  cases rx
  cases ry
  obtain ⟨its, r1, p1, _⟩ := I.tuple ha
  obtain ⟨its2, r2, p2, _⟩ := I.tuple hb
  refine HT.cat_tup p1 p2 (fun z => hx (r1.nil_iff.mp z)) (fun z => ⟨.ref a, H, I, rfl, q1 (r2.nil_iff.mp z)⟩) (fun z => ?_) (by rw [← r1.length, ← r2.length]; exact hz)
  refine ⟨.ref s.heap.objs.size, _, I.laid (t' := s.toks) (o := .tup (xs ++ ys)) (fun b ob q => Heap.get?_push_of_some _ q) (Nat.le_refl _) ?_, rfl, q2 (fun w => z (r2.nil_iff.mpr w)) _ (I.hok.fresh (Nat.le_refl _))⟩
  exact ⟨by rw [List.length_append]; exact hz, _, r1.append r2, IsTup.new _ _⟩
end
end L2
namespace L2
open PySem PySem.Spec PyProof.Rows
def ixN (n : Nat) (i : Int) : Option Nat := if 0 ≤ i then (if i < n then some i.toNat else none) else if -(n : Int) ≤ i then some (i + n).toNat else none
def atI {α : Type} (xs : List α) (i : Int) : Option α := (ixN xs.length i).bind fun j => xs[j]?
theorem ixN_seq {n : Nat} {i : Int} {j : Nat} (h : ixN n i = some j) : seqIndex? i n = some j ∧ j < n ∧ -(n : Int) ≤ i ∧ i < n := by
  unfold ixN at h
  by_cases h0 : 0 ≤ i
  · rw [if_pos h0] at h
    by_cases h1 : i < n
    · rw [if_pos h1] at h
      have e : i.toNat = j := Option.some.inj h
      exact ⟨by rw [seqIndex_of h0 h1, e], by omega, by omega, h1⟩
    · rw [if_neg h1] at h; cases h
  · rw [if_neg h0] at h
    by_cases h1 : -(n : Int) ≤ i
    · rw [if_pos h1] at h
      have e : (i + n).toNat = j := Option.some.inj h
      exact ⟨by rw [seqIndex_neg (by omega) h1, e], by omega, h1, by omega⟩
    · rw [if_neg h1] at h; cases h
theorem atI_get {α : Type} {xs : List α} {i : Int} {v : α} (h : atI xs i = some v) : ∃ j, seqIndex? i xs.length = some j ∧ xs[j]? = some v ∧ j < xs.length ∧ -(xs.length : Int) ≤ i ∧ i < xs.length := by
  unfold atI at h
  cases e : ixN xs.length i with
  | none => rw [e] at h; cases h
  | some j =>
    rw [e] at h
    obtain ⟨h1, h2, h3, h4⟩ := ixN_seq e
    exact ⟨j, h1, h, h2, h3, h4⟩
theorem atI_nat {α : Type} {xs : List α} {j : Nat} {v : α} (h : xs[j]? = some v) : atI xs (j : Int) = some v := by
  have hj : j < xs.length := (List.getElem?_eq_some_iff.mp h).1
  have e : ixN xs.length (j : Int) = some j := by
    unfold ixN
    rw [if_pos (by omega), if_pos (by omega)]; simp
  unfold atI; rw [e]; exact h
def PlainIx (b : Expr) : Prop := ∀ o i, subscripted b false o i = operate [o, i] (getItem o i)
def IxR (X : Cx) (r : R2) : Prop :=
  ∀ (value slice : Expr) (pins : List (Addr × Obj)) (s : Shared) (σ : St) (H : Hp) (x y : V) (v u : Value) (Q : VK), Inv X pins σ H s → RelV x v → RelV y u → r x y H Q →
    subscripted slice false v u = operate [v, u] (getItem v u) → wpAny (model X.prog X.w) X.A (subscriptTail value slice v u) (EP X pins σ Q) X.xe s
def MtR (X : Cx) (id : String) (r : V → List V → Hp → VK → Prop) : Prop :=
  ∀ (pins : List (Addr × Obj)) (s : Shared) (σ : St) (H : Hp) (x : V) (xs : List V) (v : Value) (us : List Value) (Q : VK), Inv X pins σ H s → RelV x v → Vals xs us → r x xs H Q →
    wpAny (model X.prog X.w) X.A (call (.builtin id) (v :: us)) (EP X pins σ Q) X.xe s
section
variable {X : Cx} {a b : Expr} {ta tb : TE} {pos : Pos}
theorem pe_ix {r : R2} (hr : IxR X r) (ha : PE X a ta) (hb : PE X b tb) (hs : PlainIx b) : PE X (.Subscript a b pos) (tOp r ta tb) := by
  intro pins s σ H Q I h
  exact Subscript_ (binT ha hb I h fun v u s2 x y H2 I2 rx ry q => hr a b pins s2 σ H2 x y v u Q I2 rx ry q (hs _ _))
def rIxL (K : PySem.W.Frag) : R2 := fun x y H Q => match x, y with
  | .ref p, .int i => ∃ xs, SqL K H p xs ∧ ∃ v, atI xs i = some v ∧ Q v H
  | _, _ => False
theorem rIxL_inv {K : PySem.W.Frag} {x y : V} {H : Hp} {Q : VK} (h : rIxL K x y H Q) : ∃ p xs i v, x = .ref p ∧ y = .int i ∧ SqL K H p xs ∧ atI xs i = some v ∧ Q v H := by
  unfold rIxL at h
  split at h
  · obtain ⟨xs, h1, v, h2, h3⟩ := h
    exact ⟨_, xs, _, v, rfl, rfl, h1, h2, h3⟩
  · exact h.elim
def rIxT (K : PySem.W.Frag) : R2 := fun x y H Q => match x, y with
  | .ref p, .int i => ∃ xs, SqT K H p xs ∧ ∃ v, atI xs i = some v ∧ Q v H
  | _, _ => False
theorem rIxT_inv {K : PySem.W.Frag} {x y : V} {H : Hp} {Q : VK} (h : rIxT K x y H Q) : ∃ p xs i v, x = .ref p ∧ y = .int i ∧ SqT K H p xs ∧ atI xs i = some v ∧ Q v H := by
  unfold rIxT at h
  split at h
  · obtain ⟨xs, h1, v, h2, h3⟩ := h
    exact ⟨_, xs, _, v, rfl, rfl, h1, h2, h3⟩
  · exact h.elim
def rIxS : R2 := fun x y H Q => ∃ z i c, x = .str z ∧ y = .int i ∧ z.length ≤ sizeLine ∧ atI z.cps.toList i = some c ∧ Q (.str ⟨#[c]⟩) H
theorem ix_list : IxR X (rIxL X.K) := by
  intro value slice pins s σ H x y v u Q I rx ry h hs
  obtain ⟨p, xs, i, z, rfl, rfl, hq, he, q⟩ := rIxL_inv h
  cases rx
  obtain ⟨t, rfl⟩ := ry
  obtain ⟨its, r, pl, hz⟩ := I.list hq
  obtain ⟨j, h1, h2, h3, h4, h5⟩ := atI_get he
  obtain ⟨w, ew, rw'⟩ := r.get h2
  have hl := r.length
  have hn := line63
  have fin : EP X pins σ Q w s := ⟨z, H, I, rw', q⟩
  by_cases h0 : 0 ≤ i
  · have hj : i.toNat = j := by
      rw [seqIndex_of h0 h5] at h1
      exact Option.some.inj h1
    exact item_listR pl.isList h0 (by omega) (by rw [hj]; simpa using ew) fin hs
  · have hj : (i + (its.toArray.size : Int)).toNat = j := by
      rw [seqIndex_neg (by omega) h4] at h1
      rw [List.size_toArray, ← hl]
      exact Option.some.inj h1
    exact subscriptTail_builtinR (x := w) pl.isList.typeIs slot_list_getitem.lookup
      (wpAny_getItem_list_neg (Q := fun r s' => r = w ∧ EP X pins σ Q r s') pl.isList (by omega) (by rw [List.size_toArray] <;> omega) (by omega) (by rw [hj]; simpa using ew) ⟨rfl, fin⟩) hs
theorem ix_tup : IxR X (rIxT X.K) := by
  intro value slice pins s σ H x y v u Q I rx ry h hs
  obtain ⟨p, xs, i, z, rfl, rfl, hq, he, q⟩ := rIxT_inv h
  cases rx
  obtain ⟨t, rfl⟩ := ry
  obtain ⟨its, r, pl, hz⟩ := I.tuple hq
  obtain ⟨j, h1, h2, h3, h4, h5⟩ := atI_get he
  obtain ⟨w, ew, rw'⟩ := r.get h2
  have hl := r.length
  have hn := line63
  have fin : EP X pins σ Q w s := ⟨z, H, I, rw', q⟩
  exact subscriptTail_builtinR (x := w) pl.typeIs slot_tuple_getitem.lookup
    (getItem_tuple (j := j) (Q := fun r s' => r = w ∧ EP X pins σ Q r s') pl (by omega) (by omega) (by rw [List.size_toArray, ← hl]; exact h1) (by simpa using ew) ⟨rfl, fin⟩) hs
theorem ix_str : IxR X rIxS := by
  intro value slice pins s σ H x y v u Q I rx ry h hs
  obtain ⟨z, i, c, rfl, rfl, hz, he, q⟩ := h
  obtain ⟨t, rfl⟩ := rx
  obtain ⟨t', rfl⟩ := ry
  obtain ⟨j, h1, h2, h3, h4, h5⟩ := atI_get he
  have hl : z.cps.toList.length = z.length := by simp [Str.length]
  rw [hl] at h1 h4 h5
  have hn := line63
  exact tail_any (typeIs_str s z t) slot_str_getitem.lookup (getItem_str (c := c) (by
    have e1 : decide (i < -(2 ^ 63 : Int)) = false := decide_eq_false (by omega)
    have e2 : decide (i ≥ 2 ^ 63) = false := decide_eq_false (by omega)
    rw [e1, e2, Bool.or_false]) (by rw [h1]; simpa using h2) ⟨.str ⟨#[c]⟩, H, I.tok _, ⟨_, rfl⟩, q⟩) hs
theorem mapSeq_set (its : List Value) (n j : Nat) (u : Value) : Obj.mapSeq (·.setIfInBounds j u) { cls := .type "list", data := .seq its.toArray n } = { cls := .type "list", data := .seq (its.set j u).toArray n } := by
  simp [Obj.mapSeq]
theorem Inv.lst {pins : List (Addr × Obj)} {σ : St} {H : Hp} {s : Shared} {p : Addr} {xs : List V} (I : Inv X pins σ H s) (h : H p = some (.lst xs)) :
    ∃ (its : List Value) (n : Nat), Vals xs its ∧ s.heap.get? p = some { cls := .type "list", data := .seq its.toArray n } ∧ xs.length ≤ sizeLine := by
  obtain ⟨z, its, n, r, e⟩ := I.hok p _ h
  exact ⟨its, n, r, e, z⟩
theorem Inv.lstUpd {pins : List (Addr × Obj)} {σ : St} {H : Hp} {s : Shared} {p : Addr} {xs ys : List V} {its its' : List Value} {n n' : Nat} {f : Obj → Obj} (I : Inv X pins σ H s) (h : H p = some (.lst xs))
    (ho : s.heap.get? p = some { cls := .type "list", data := .seq its.toArray n }) (hf : f { cls := .type "list", data := .seq its.toArray n } = { cls := .type "list", data := .seq its'.toArray n' }) (r : Vals ys its') (hz : ys.length ≤ sizeLine) (t : Nat) :
    Inv X pins σ (upd H p (.lst ys)) { s with heap := s.heap.update p f, toks := t } := by
  have e : (s.heap.update p f).get? p = some { cls := .type "list", data := .seq its'.toArray n' } := by
    rw [Heap.get?_update_self f ho (by rw [hf] <;> rfl), hf]
  refine I.write (x := p) (e := p) (by rw [h]; trivial) (.inl rfl) (fun b u hb q => (Heap.get?_update_other _ _ (Ne.symm hb)).trans q) ⟨_, e⟩ ?_
  exact ⟨hz, its', n', r, e⟩
def rSetL : V → V → V → Hp → (Hp → Prop) → Prop := fun o i v H Q => ∃ p xs k j, o = .ref p ∧ i = .int k ∧ H p = some (.lst xs) ∧ ixN xs.length k = some j ∧ Q (upd H p (.lst (xs.set j v)))
theorem set_list : PSet X rSetL := by
  intro pins s σ H o i v ov iv u Q I ro ri rv h
  obtain ⟨p, xs, k, j, rfl, rfl, hp, hj, q⟩ := h
  cases ro
  obtain ⟨t, rfl⟩ := ri
  obtain ⟨its, n, r, ho, hz⟩ := I.lst hp
  obtain ⟨h1, h2, h3, h4⟩ := ixN_seq hj
  have hl := r.length
  have hn := line63
  have I' : Inv X pins σ (upd H p (.lst (xs.set j v))) { s with heap := s.heap.update p (Obj.mapSeq (·.setIfInBounds j u)) } :=
    I.lstUpd hp ho (mapSeq_set its n j u) (r.set rv j) (by rw [List.length_set]; exact hz) s.toks
  by_cases h0 : 0 ≤ k
  · have hk : k.toNat = j := by
      rw [seqIndex_of h0 h4] at h1
      exact Option.some.inj h1
    exact PySem.W.ki_setAt ho h0 (by omega) (by rw [List.size_toArray, ← hl]; exact h4) (by rw [hk]; exact ⟨_, I', q⟩)
  · have hk : (k + (its.toArray.size : Int)).toNat = j := by
      rw [seqIndex_neg (by omega) h3] at h1
      rw [List.size_toArray, ← hl]
      exact Option.some.inj h1
    exact PySem.W.ki_setBack ho (by omega) (by rw [List.size_toArray, ← hl]; exact h3) (by omega) (by rw [hk]; exact ⟨_, I', q⟩)
theorem slice_bounds (lo hi : Option Int) (n : Nat) : (sliceBounds lo hi none n).1 = ((HT.sIx n 0 lo : Nat) : Int) ∧ (sliceBounds lo hi none n).2.1 = ((HT.sIx n n hi : Nat) : Int) ∧ (sliceBounds lo hi none n).2.2 = 1 := by
  refine ⟨?_, ?_, rfl⟩
  · cases lo with
    | none => simp [sliceBounds, HT.sIx]
    | some i =>
      simp only [sliceBounds, HT.sIx, Option.getD_none, show (1 : Int) > 0 by decide, if_true]
      by_cases h : i < 0
      · simp only [h, if_true] <;> omega
      · simp only [h, if_false] <;> omega
  · cases hi with
    | none => simp [sliceBounds, HT.sIx]
    | some i =>
      simp only [sliceBounds, HT.sIx, Option.getD_none, show (1 : Int) > 0 by decide, if_true]
      by_cases h : i < 0
      · simp only [h, if_true] <;> omega
      · simp only [h, if_false] <;> omega
theorem slicePick_cut (its : List Value) (lo hi : Option Int) : slicePick its.toArray lo hi none = ((its.drop (HT.sIx its.length 0 lo)).take (HT.sIx its.length its.length hi - HT.sIx its.length 0 lo)).toArray := by
  obtain ⟨h1, h2, h3⟩ := slice_bounds lo hi its.toArray.size
  unfold slicePick
  rw [h1, h2, h3]
  simp only [sliceRange_one, pick_run, List.size_toArray] <;> rfl
def rSlL (K : PySem.W.Frag) : V → Option Int → Option Int → Hp → VK → Prop := fun x lo hi H Q => ∃ a xs, x = .ref a ∧ SqL K H a xs ∧ ∀ p, H p = none → Q (.ref p) (upd H p (.lst (cutV xs lo hi)))
theorem sl_list : SlR X (rSlL X.K) := by
  intro pins s σ H x v vl vu lo hi sl Q I rx hs pl pu h
  obtain ⟨a, xs, rfl, hx, q⟩ := h
  cases rx
  obtain ⟨its, r, ht, hz⟩ := I.list hx
  have hlen := r.length
  refine ⟨"list", _, slot_list_getitem.lookup, ht.isList.typeIs, ?_⟩
  refine wpAny_getItem_list_slice ht.isList hs pl pu .none (by simp) ?_ (by rw [List.size_toArray] <;> omega)
  rw [slicePick_cut, ← hlen]
  refine ⟨.ref s.heap.objs.size, _, I.laid (t' := s.toks) (o := .lst (cutV xs lo hi)) (fun b ob q => Heap.get?_push_of_some _ q) (Nat.le_refl _) ?_, rfl, q _ (I.hok.fresh (Nat.le_refl _))⟩
  exact ⟨Nat.le_trans (cutV_length xs lo hi) hz, _, 0, (r.drop (HT.sIx xs.length 0 lo)).take (HT.sIx xs.length xs.length hi - HT.sIx xs.length 0 lo), Heap.get?_push_size _ rfl⟩
theorem call_len_seq : CallR X (.builtin "len") (fun xs H Q => ∃ p ys, xs = [.ref p] ∧ (SqL X.K H p ys ∨ SqT X.K H p ys) ∧ Q (.int ys.length) H) := by
  intro pins s σ H xs us Q I r h
  obtain ⟨p, ys, rfl, hq, q⟩ := h
  obtain ⟨u, rfl, rx⟩ := vals1 r
  cases rx
  have hn := line63
  rcases hq with hq | hq
  · obtain ⟨its, r', pl, hz⟩ := I.list hq
    have hlen := r'.length
    exact Calls.call_len_list pl.isList (by simp only [List.size_toArray] <;> omega) ⟨.int ys.length, H, I.tok _, ⟨s.toks + 1, by rw [List.size_toArray, hlen]⟩, q⟩
  · obtain ⟨its, r', pl, hz⟩ := I.tuple hq
    have hlen := r'.length
    exact len_tuple pl (by simp only [List.size_toArray] <;> omega) ⟨.int ys.length, H, I.tok _, ⟨s.toks + 1, by rw [List.size_toArray, hlen]⟩, q⟩
theorem call_len_str : CallR X (.builtin "len") (fun xs H Q => ∃ z, xs = [.str z] ∧ z.length ≤ sizeLine ∧ Q (.int z.length) H) := by
  intro pins s σ H xs us Q I r h
  obtain ⟨z, rfl, hz, q⟩ := h
  obtain ⟨u, rfl, t, rfl⟩ := vals1 r
  have hn := line63
  exact len_str (by omega) ⟨.int z.length, H, I.tok _, ⟨_, rfl⟩, q⟩
def tyV (K : PySem.W.Frag) (T : String) (x : V) (H : Hp) : Prop := match x with
  | .str _ => T = "str"
  | .int _ => T = "int"
  | .ref p => (T = "list" ∧ ∃ xs, SqL K H p xs) ∨ (T = "tuple" ∧ ∃ o, K.lookup p = some o ∧ o.cls = .type "tuple" ∧ o.dict = none) ∨
      (T = "dict" ∧ ((∃ kvs, H p = some (.dK kvs)) ∨ ∃ kvs, H p = some (.dT kvs))) ∨ (T = "set" ∧ ∃ S n, H p = some (.set S n))
  | _ => False
theorem tyV_is {pins : List (Addr × Obj)} {σ : St} {H : Hp} {s : Shared} {T : String} {x : V} {v : Value} (I : Inv X pins σ H s) (r : RelV x v) (ty : tyV X.K T x H) :
    s.TypeIs v T ∧ ∀ a, v = .ref a → ∃ ob, s.heap.get? a = some ob ∧ ob.dict = none := by
  cases x with
  | str z =>
    obtain ⟨t, rfl⟩ := r
    cases (show T = "str" from ty)
    exact ⟨typeIs_str s z t, fun _ e => nomatch e⟩
  | int i =>
    obtain ⟨t, rfl⟩ := r
    cases (show T = "int" from ty)
    exact ⟨typeIs_int s i t, fun _ e => nomatch e⟩
  | ref p =>
    cases r
    rcases ty with ⟨rfl, xs, hq⟩ | ⟨rfl, o, hk, hc, hd⟩ | ⟨rfl, hk⟩ | ⟨rfl, S, n, hk⟩
    · obtain ⟨its, _, pl, _⟩ := I.list hq
      refine ⟨pl.isList.typeIs, fun a e => ?_⟩
      cases e
      obtain ⟨o, n, e, c, hd, _⟩ := pl
      exact ⟨o, e, hd⟩
    · refine ⟨⟨o, I.kIn p o hk, hc⟩, fun a e => ?_⟩
      cases e
      exact ⟨o, I.kIn _ o hk, hd⟩
    · have z : ∃ o, s.heap.get? p = some o ∧ o.ExactDict := by
        rcases hk with ⟨kvs, hk⟩ | ⟨kvs, hk⟩
        · obtain ⟨_, _, _, _, o, _, _, e, ex, _⟩ := I.hok p _ hk
          exact ⟨o, e, ex⟩
        · obtain ⟨_, _, _, _, o, _, _, e, ex, _⟩ := I.hok p _ hk
          exact ⟨o, e, ex⟩
      obtain ⟨o, e, ex⟩ := z
      refine ⟨⟨o, e, ex.1⟩, fun a e2 => ?_⟩
      cases e2
      exact ⟨o, e, ex.2.1⟩
    · obtain ⟨o, _, _, _, e, ex, _⟩ := I.hok p _ hk
      refine ⟨⟨o, e, ex.1⟩, fun a e2 => ?_⟩
      cases e2
      exact ⟨o, e, ex.2.1⟩
  | _ => exact False.elim ty
def tBM (K : PySem.W.Frag) (T : String) (r : V → List V → Hp → VK → Prop) (to : TE) (t : TA) : TE := fun σ H Q => to σ H fun x H1 => tyV K T x H1 ∧ t σ H1 fun xs H2 => r x xs H2 Q
variable {o e : Expr} {es : List Expr} {to : TE} {t : TA} {name : Str} {apos cpos : Pos} {T id : String} {r : V → List V → Hp → VK → Prop}
theorem pe_bm (pa : PlainAttrs T) (slot : Slot T name id) (hty : typeOf (.builtin id) = pure (.type "method_descriptor")) (hm : MtR X id r) (ho : PE X o to) (ha : PA X (e :: es) t)
    (hbase : attributeBase o name X.env (eval o X.env) = eval o X.env := by rfl)
    (hfew : ((backTo cpos (starEach (e :: es) X.env)).all (fun x => !x.1) && (backToKw cpos (keywordEach [] X.env)).all (fun x => x.1.isSome)
      && decide ((e :: es).length + ([] : List Keyword).length + (if ([] : List Keyword).isEmpty then 0 else 1) < 30)) = true := by rfl)
    (hline : (apos.endLine == cpos.line) = true := by rfl) (hs : starEach (e :: es) X.env = (false, eval e X.env) :: starEach es X.env := by rfl) (hplain : (backTo cpos (starEach es X.env)).any (·.1) = false := by rfl) :
    PE X (.Call (.Attribute o name apos) (e :: es) [] cpos) (tBM X.K T r to t) := by
  intro pins s σ H Q I h
  refine wpAny_Call_method_late hbase hfew hline rfl (thn (ho pins s σ H _ I h) fun v s1 ⟨x, H1, I1, r1, ty, q1⟩ => ?_)
  obtain ⟨h1, h2⟩ := tyV_is I1 r1 ty
  refine ⟨T, id, pa, slot, hty, h1, h2, ?_⟩
  have hA := ha cpos pins s1 σ H1 _ I1 q1
  rw [hs] at hA ⊢
  refine Calls.callWith_builtin (by show (false || (backTo cpos (starEach es X.env)).any (·.1)) = false; rw [hplain] <;> rfl) (Calls.evalArgs_plain ?_)
  exact thn hA fun us s2 ⟨vs, H2, I2, r2, q2⟩ => hm pins s2 σ H2 x vs v us Q I2 r1 r2 q2
end
end L2
namespace L2
open PySem PySem.Spec PyProof.Rows
def MtM (X : Cx) (id : String) (r : V → List V → Hp → VK → Prop) : Prop :=
  ∀ (pins : List (Addr × Obj)) (s : Shared) (σ : St) (H : Hp) (x : V) (xs : List V) (v : Value) (us : List Value) (Q : VK), Inv X pins σ H s → RelV x v → Vals xs us → r x xs H Q →
    wpAny (model X.prog X.w) X.A (call (.builtin id) (v :: us)) (EP X pins σ Q) X.xe s
theorem Vals.one : ∀ {x : V} {us : List Value}, Vals [x] us → ∃ u, us = [u] ∧ RelV x u
  | _, _, .cons r .nil => ⟨_, rfl, r⟩
section
variable {X : Cx} {pins : List (Addr × Obj)} {σ : St} {H : Hp} {s : Shared} {l b : Addr} {xs ys zs : List V}
theorem Inv.lset {its its' : List Value} {n : Nat} {f : Array Value → Array Value} {t' : Nat} (I : Inv X pins σ H s) (hH : H l = some (.lst xs))
    (e : s.heap.get? l = some { cls := .type "list", data := .seq its.toArray n }) (hf : f its.toArray = its'.toArray) (hv : Vals ys its') (hz : ys.length ≤ sizeLine) :
    Inv X pins σ (upd H l (.lst ys)) { s with heap := s.heap.update l (Obj.mapSeq f), toks := t' } := by
  have q := PySem.IsL.update e f
  rw [hf] at q
  refine I.write (x := l) (e := l) (by rw [hH]; exact trivial) (.inl rfl) (fun b' u hb hu => (Heap.get?_update_other s.heap (Obj.mapSeq f) (Ne.symm hb)).trans hu) ⟨_, q⟩ ?_
  exact ⟨hz, its', _, hv, q⟩
theorem Inv.lnew {its : List Value} {t' : Nat} (I : Inv X pins σ H s) (hv : Vals ys its) (hz : ys.length ≤ sizeLine) :
    Inv X pins σ (upd H s.heap.objs.size (.lst ys)) { s with heap := s.heap.push { cls := .type "list", data := .seq its.toArray }, toks := t' } :=
  I.laid (fun _ _ q => Heap.get?_push_of_some _ q) (Nat.le_refl _) ⟨hz, its, 0, hv, Heap.get?_push_size _ rfl⟩
theorem Inv.fresh (I : Inv X pins σ H s) : H s.heap.objs.size = none := I.hok.fresh (Nat.le_refl _)
theorem Inv.lstM (I : Inv X pins σ H s) (hH : H l = some (.lst xs)) : xs.length ≤ sizeLine ∧ ∃ (its : List Value) (n : Nat), Vals xs its ∧ xs.length = its.length ∧ s.heap.get? l = some { cls := .type "list", data := .seq its.toArray n } := by
  obtain ⟨z, its, n, r, e⟩ := I.hok l _ hH
  exact ⟨z, its, n, r, r.length, e⟩
theorem notLongL {n : Nat} (h : n ≤ sizeLine) : Builtin.List.listTooLong n = false := by
  unfold Builtin.List.listTooLong
  exact decide_eq_false (by omega)
end
section
variable {X : Cx}
def rAppend : V → List V → Hp → VK → Prop := fun x vs H Q => ∃ l xs y, x = .ref l ∧ vs = [y] ∧ H l = some (.lst xs) ∧ xs.length < sizeLine ∧ Q .non (upd H l (.lst (xs ++ [y])))
theorem mt_append : MtM X "list.append" rAppend := by
  intro pins s σ H x vs v us Q I rx rv h
  obtain ⟨l, xs, y, rfl, rfl, hH, hz, q⟩ := h
  cases rx
  obtain ⟨u, rfl, ru⟩ := rv.one
  obtain ⟨z, its, n, r, hl, e⟩ := I.lstM hH
  refine call_meets F.slot_list_append ⟨_, e, rfl⟩ F.entry_list_append (F.args_list_append_2 _ _) (PySem.list_append l its.toArray n u (by rw [List.size_toArray]; omega)) ⟨e, ?_⟩
  refine ⟨.non, _, I.lset (its' := its ++ [u]) hH e (by simp) (r.append (.cons ru .nil)) ?_, rfl, q⟩
  rw [List.length_append, List.length_singleton]
  omega
def rExtend : V → List V → Hp → VK → Prop := fun x vs H Q => ∃ l b xs zs, x = .ref l ∧ vs = [.ref b] ∧ H l = some (.lst xs) ∧ H b = some (.lst zs) ∧ xs.length + zs.length ≤ sizeLine ∧ Q .non (upd H l (.lst (xs ++ zs)))
theorem mt_extend : MtM X "list.extend" rExtend := by
  intro pins s σ H x vs v us Q I rx rv h
  obtain ⟨l, b, xs, zs, rfl, rfl, hH, hB, hz, q⟩ := h
  cases rx
  obtain ⟨u, rfl, ru⟩ := rv.one
  cases ru
  obtain ⟨z, its, n, r, hl, e⟩ := I.lstM hH
  obtain ⟨z2, its2, n2, r2, hl2, e2⟩ := I.lstM hB
  have hsz : its.toArray.size + its2.toArray.size ≤ sizeLine := by rw [List.size_toArray, List.size_toArray]; omega
  have hlong : ¬ (!its.toArray.isEmpty && Builtin.List.listTooLong (its.toArray.size + its2.toArray.size)) = true := by
    rw [notLongL hsz, Bool.and_false]
    exact Bool.false_ne_true
  refine call_meets F.slot_list_extend ⟨_, e, rfl⟩ F.entry_list_extend (F.args_list_extend_2 _ _)
    (AutoSeq1.list_extend_list_list_0 l its.toArray n b its2.toArray n2 hlong (by rw [List.size_toArray]; omega) (by omega)) ⟨e, e2, ?_⟩
  refine ⟨.non, _, I.lset (its' := its ++ its2) hH e (by simp) (r.append r2) ?_, rfl, q⟩
  rw [List.length_append]
  omega
def rCat : R2 := fun x y H Q => ∃ l b xs zs, x = .ref l ∧ y = .ref b ∧ H l = some (.lst xs) ∧ H b = some (.lst zs) ∧ xs.length + zs.length ≤ sizeLine ∧ ∀ p, H p = none → Q (.ref p) (upd H p (.lst (xs ++ zs)))
theorem op_cat : OpR X (binaryOp .Add) rCat := by
  intro pins s σ H x y v u Q I rx ry h
  obtain ⟨l, b, xs, zs, rfl, rfl, hH, hB, hz, q⟩ := h
  cases rx
  cases ry
  obtain ⟨z, its, n, r, hl, e⟩ := I.lstM hH
  obtain ⟨z2, its2, n2, r2, hl2, e2⟩ := I.lstM hB
  refine PySem.P.add_list e e2 ?_ (by rw [List.size_toArray, List.size_toArray]; omega)
  have ea : its.toArray ++ its2.toArray = (its ++ its2).toArray := by simp
  rw [ea]
  exact ⟨.ref _, _, I.lnew (t' := s.toks) (r.append r2) (by rw [List.length_append]; omega), rfl, q _ I.fresh⟩
end
section
variable {prog : Program} {w : World} {A : Around} {E : Value → Shared → Prop} {s : Shared}
end
section
variable {X : Cx}
end
end L2
namespace Att
open PySem PySem.W PySem.Calls PyProof.Rows
theorem ints_of_wellAll {P : Params} {h : Heap} : ∀ (ns : List Int) (vs : List Value), WellAll P h vs (ns.map WData.int) → IntsAre vs ns := by
  intro ns
  induction ns with
  | nil =>
    intro vs w
    rw [List.map_nil] at w
    cases w
    exact .nil
  | cons n ns ih =>
    intro vs w
    rw [List.map_cons] at w
    cases w with
    | cons a b =>
      cases a
      exact .cons _ _ (ih _ b)
theorem script_of {l : OpenLaw} {n : Nat} (hn : l.most = some n) {P : Params} {h : Heap} {args : List WData} {vals : List Value}
    (hpre : l.row.toRowW.claim.pre args = true) (hwl : WellAll P h vals args) :
    ∃ a vs ns, vals = [Value.ref a] ∧ args = [WData.list (ns.map WData.int)] ∧ h.get? a = some { cls := .type "list", data := .seq vs.toArray } ∧ IntsAre vs ns ∧ ns.length ≤ n := by
  have hsh : WShape.hasAll [] args [.list .int] = true := (pre_splitW hpre).1
  have hc : l.pre.holds [] { args := args } = true := (pre_splitW hpre).2
  obtain ⟨d, r, rfl, h1, h2⟩ := hasAllW_cons hsh
  obtain rfl := hasAllW_nil h2
  obtain ⟨xs, rfl, h3⟩ := hasW_list h1
  obtain ⟨ns, rfl⟩ := items_int h3
  have hlen : ns.length ≤ n := by
    unfold OpenLaw.pre at hc
    have h4 : (WTm.not (.lt (.lit (.int (n : Int))) (.len (.arg 0)))).holds [] { args := [.list (ns.map .int)] } = true := by
      have h4 := (holds_andW hc).1
      rw [hn] at h4
      exact h4
    have h5 := condW_of h4 (w_not (w_lt w_lit (w_len_list (w_arg rfl))))
    rw [List.length_map] at h5
    refine Nat.le_of_not_lt fun q => ?_
    have q' : (n : Int) < ((ns.length : Nat) : Int) := by omega
    first
      | (rw [decide_eq_true q'] at h5; exact absurd h5 (by decide))
      | (simp at h5; omega)
  cases hwl with
  | cons w1 w2 =>
    cases w2
    cases w1 with
    | list ho hall => exact ⟨_, _, ns, rfl, rfl, ho, ints_of_wellAll ns _ hall, hlen⟩
theorem post_true (l : OpenLaw) (args : List WData) : l.row.toRowW.claim.post args (.bool true) args = true :=
  postW_of (r := l.row.toRowW) (X := (true == true))
    (show WShape.has [] (.bool true) .bool = true by first | rfl | decide | simp [WShape.has, WShape.arms, WShape.armsAll])
    (show (WTm.eq .res (.lit (.bool true))).value [] { args := args, res := some (.bool true), after := args } = some (.bool (true == true)) from w_eq_bool (w_res rfl) w_lit) rfl
theorem attach_call {l : OpenLaw} {n : Nat} {q : Program} {loose : List Str} {XP : (Str → Option Value) → Heap → Prop} {YP : World → Heap → Prop} {d : DefRec}
    (hn : l.most = some n) (hdf : d.params.defaults = [])
    (call : ∀ (w : World) (s₀ s₁ : Shared) (mg mb : Str → Option Value) (fa : Addr) (o : Obj) (pm cd doc : Value) (a : Addr) (vs : List Value) (ns : List Int),
      Ground q loose [] XP w s₀ mg mb s₁.heap → YP w s₁.heap →
      s₁.heap.get? fa = some o → o.data = .func (docDef d.name d.params d.body d.scope pm cd doc) → s₁.heap.CodeRec cd d.name → mg d.name = some (.ref fa) →
      s₁.heap.get? a = some { cls := .type "list", data := .seq vs.toArray } → IntsAre vs ns → ns.length ≤ n → s₁.gens = #[] →
      codeAny (model l.prog w) callerA (.call (.ref fa) ⟨[.ref a], []⟩) (fun r s' => r = .ok (.ret (.bool true)) ∧ OldK s₁.heap s'.heap ∧ s'.os = s₁.os ∧ AllBare s'.gens) s₁) :
    WalkO q loose XP YP l.row.toRowW d [] (fun f vs => PySem.call f vs) := by
  intro w s₀ s₁ mg mb G Y fa o pm cd doc dV kV ho hd hcd hD hmg hg args vals as hpre hlay hrd hwl hlo
  obtain rfl : dV = .none := Dflts.none hD hdf
  obtain rfl : kV = .none := Dflts.noKw hD
  obtain ⟨a, vs, ns, rfl, rfl, hobj, hints, hlen⟩ := script_of hn hpre hwl
  refine enter_call (codeAny_mono (call w s₀ s₁ mg mb fa o pm cd doc a vs ns G Y ho (fd_plain hd) hcd hmg hobj hints hlen hg) fun r s' hq => ?_)
  obtain ⟨rfl, h2, h3, h4⟩ := hq
  exact ⟨.inl ⟨.bool true, .bool true, [], rfl, fun _ => rfl, .bool true, post_true l _, fun _ => ⟨List.Pairwise.nil, fun _ hm => (nomatch hm)⟩⟩, h2, h3, h4⟩
section
variable {prog : Program} {w : World} {A : Around} {E : Value → Shared → Prop} {s : Shared} {K : Frag}
end
end Att
namespace L2
open PySem PySem.Spec PyProof.Rows
theorem vals_ints : ∀ {vs : List Value} {ns : List Int}, IntsAre vs ns → Vals (ns.map V.int) vs
  | _, _, .nil => .nil
  | _, _, .cons n t h => .cons ⟨t, rfl⟩ (vals_ints h)
def Only (H : Hp) : Prop := ∀ b, H b = none ∨ ∃ o xs, H b = some (.frz o (.lst xs))
theorem law_call {P : Program} {w : World} {K : PySem.W.Frag} {mg mb : Str → Option Value} {CX : CXT} {k : Nat} {fa a : Addr} {fd : FuncData} {x : Str} {sp : Sp} {s₁ : Shared} {vs : List Value} {ns : List Int}
    (KX : K.In s₁.heap) (hns : s₁.heap.Ns mainGlobals mg) (hb : s₁.heap.Ns builtinsNs mb) (hbb : ∀ x : Str, x ≠ "__name__" → mb x = bootBuiltins x) (hlim : s₁.heap.NoLimit) (hg : s₁.gens = #[])
    (ha : s₁.heap.get? a = some { cls := .type "list", data := .seq vs.toArray }) (hi : IntsAre vs ns) (hl : ns.length ≤ sizeLine) (hr : Room k callerA)
    (F : ∀ base : Heap, K.In base → base.Ns mainGlobals mg → FnOk P w K mg base CX k fa fd [x] sp) (hbind : ∀ (s : Shared) (u : Value), BindsTo s fd ⟨[u], []⟩ [(x, u)])
    (hsp : ∀ H : Hp, Only H → SqL K H a (ns.map V.int) → sp [.ref a] H (fun v _ => v = .bl true) fun _ _ _ => False)
    (hCX : ∀ H e s', CX [] H s₁ (fun _ _ _ => False) e s' → False) :
    codeAny (model P w) callerA (.call (.ref fa) ⟨[.ref a], []⟩) (fun r s' => r = .ok (.ret (.bool true)) ∧ OldK s₁.heap s'.heap ∧ s'.os = s₁.os ∧ AllBare s'.gens) s₁ := by
  have rv := vals_ints hi
  have lenV := hi.length
  -- from an abstract heap in which nothing but the script may be tracked
  have core : ∀ H : Hp, Only H → SqL K H a (ns.map V.int) → HOk P w H s₁.heap → (∀ b, H b ≠ none → b = a) → (H a ≠ none → K.lookup a = none) →
      codeAny (model P w) callerA (.call (.ref fa) ⟨[.ref a], []⟩) (fun r s' => r = .ok (.ret (.bool true)) ∧ OldK s₁.heap s'.heap ∧ s'.os = s₁.os ∧ AllBare s'.gens) s₁ := by
    intro H hO hS hok hA hK
    have base_of : ∀ {b : Addr} {o : Obj}, s₁.heap.get? b = some o → H b = none → (hidT s₁.heap H).get? b = some o := fun e n => hidT_get e n
    have noA : ∀ {b : Addr} {o : Obj} {es : Array DictEntry} {ep : Nat}, s₁.heap.get? b = some o → o.data = .dict es ep → H b = none := fun {b o es ep} e d => by
      cases q : H b with
      | none => rfl
      | some u =>
        have e' : b = a := hA b (by rw [q]; simp)
        subst e'
        rw [ha] at e; cases e
        have d' : Data.seq vs.toArray _ = Data.dict es ep := d
        cases d'
    have nsK : ∀ {b : Addr} {m : Str → Option Value}, s₁.heap.Ns b m → (hidT s₁.heap H).Ns b m := fun {b m} ⟨o, es, ep, e, d, r⟩ => ⟨o, es, ep, base_of e (noA e d), d, r⟩
    have hKb : K.In (hidT s₁.heap H) := fun b o e => base_of (KX b o e) (by
      cases q : H b with
      | none => rfl
      | some u =>
        have e' : b = a := hA b (by rw [q]; simp)
        subst e'
        rw [hK (by rw [q]; simp)] at e; cases e)
    have hM : Mod K mg (hidT s₁.heap H) := ⟨hKb, nsK hns, ⟨mb, nsK hb, hbb⟩, let ⟨mc, h1, h2⟩ := hlim; ⟨mc, nsK h1, h2⟩⟩
    have e0 : Env0 P w K mg (hidT s₁.heap H) callerA [] s₁ H := ⟨rfl, hM, fun b o e => of_hidT e, Nat.le_of_eq (hidT_size _ _), trivial, fun b hb => absurd (show b ∈ ([] : List Addr) from hb) (by simp), hok, .of_eq hg⟩
    refine codeAny_mono ((F _ hKb (nsK hns)).run callerA [] s₁ H ⟨[.ref a], []⟩ [.ref a] [.ref a] _ _ hr e0 (hbind s₁ (.ref a)) (.cons rfl .nil) (hsp H hO hS)) fun r s' h => ?_
    cases r with
    | error e => exact (hCX H e s' h).elim
    | ok fl =>
      cases fl with
      | next => exact False.elim h
      | brk => exact False.elim h
      | cont => exact False.elim h
      | ret u =>
        obtain ⟨v, H', os, bare, un, hok', r', q⟩ := h
        have q' : v = .bl true := q
        subst q'
        obtain rfl : u = Value.bool true := r'
        refine ⟨rfl, OldK.of_keep fun b o e => ?_, os, bare⟩
        cases q : H b with
        | none => exact un.keep b o e q (by intro z; exact absurd (show b ∈ ([] : List Addr) from z) (by simp)) (by simp)
        | some u =>
          rcases hO b with z | ⟨ob, xs, z⟩
          · rw [q] at z; cases z
          · have z2 := un.frzs b ob _ z
            obtain ⟨e1, _⟩ := hok b _ z
            obtain ⟨e2, _⟩ := hok' b _ z2
            rw [e] at e1; cases e1
            exact e2
  cases hk : K.lookup a with
  | some o =>
    -- the script is one of the module's own objects
    have e := KX a o hk
    rw [ha] at e
    cases e
    refine core (fun _ => none) (fun _ => .inl rfl) (.inr ⟨_, vs.toArray, _, hk, rfl, rfl, rfl, by rw [List.size_toArray, lenV]; exact hl, by simpa using rv⟩) (fun b u z => by have z' : (none : Option HO) = some u := z; cases z') (fun b z => absurd rfl z) fun z => absurd rfl z
  | none =>
    refine core (fun b => if b = a then some (.frz { cls := .type "list", data := .seq vs.toArray } (.lst (ns.map V.int))) else none) (fun b => ?_) (.inl (.inr ⟨{ cls := .type "list", data := .seq vs.toArray }, if_pos rfl⟩)) (fun b u z => ?_) (fun b z => ?_) fun _ => hk
    · by_cases hb : b = a
      · exact .inr ⟨_, _, if_pos hb⟩
      · exact .inl (if_neg hb)
    · by_cases hb : b = a
      · have z' := (if_pos hb).symm.trans z
        cases z'
        subst hb
        exact ⟨ha, by rw [List.length_map]; exact hl, vs, _, rv, ha⟩
      · have z' := (if_neg hb).symm.trans z
        cases z'
    · by_cases hb : b = a
      · exact hb
      · exact absurd (if_neg hb) z
end L2
namespace L2
open PySem PySem.Spec PyProof.Rows
theorem walk_of {l : PySem.W.OpenLaw} {n k : Nat} {q : Program} {loose : List Str} {XP : (Str → Option Value) → Heap → Prop} {YP : World → Heap → Prop} {d : DefRec} {K : Params → PySem.W.Frag} {CX : World → CXT} {sp : World → Sp} {x : Str}
    (hn : l.most = some n) (hn2 : n ≤ sizeLine) (hdf : d.params.defaults = []) (hr : Room k callerA)
    (hY : ∀ (w : World) (h : Heap), YP w h → (K w.params).In h)
    (F : ∀ (w : World) (mg : Str → Option Value) (fa : Addr) (h : Heap), (K w.params).In h → h.Ns mainGlobals mg → mg d.name = some (.ref fa) →
      ∃ fd : FuncData, (∀ (s : Shared) (u : Value), BindsTo s fd ⟨[u], []⟩ [(x, u)]) ∧
        ∀ base : Heap, (K w.params).In base → base.Ns mainGlobals mg → FnOk l.prog w (K w.params) mg base (CX w) k fa fd [x] (sp w))
    (hsp : ∀ (w : World) (H : Hp) (a : Addr) (ns : List Int), ns.length ≤ n → Only H → SqL (K w.params) H a (ns.map V.int) → sp w [.ref a] H (fun v _ => v = .bl true) fun _ _ _ => False)
    (hCX : ∀ (w : World) (H : Hp) (s : Shared) (e : Value) (s' : Shared), CX w [] H s (fun _ _ _ => False) e s' → False) :
    PySem.W.WalkO q loose XP YP l.row.toRowW d [] (fun f vs => PySem.call f vs) := by
  refine Att.attach_call hn hdf fun w s₀ s₁ mg mb fa o pm cd doc a vs ns G Y ho hd hcd hmg hobj hints hlen hg => ?_
  have KX := hY w _ Y
  obtain ⟨fd, hb, hF⟩ := F w mg fa _ KX G.T.g hmg
  exact law_call KX G.T.g G.T.b G.T.builtins G.T.nolimit hg hobj hints (Nat.le_trans hlen hn2) hr hF hb (fun H hO hS => hsp w H a ns hlen hO hS) fun H e s' => hCX w H s₁ e s'
end L2
namespace L2
open PySem PySem.Spec PyProof.Rows
def inClass (s : Stmt) (j : Nat) : Stmt := match s with
  | .ClassDef _ _ _ body _ _ _ _ _ _ _ => body.getD j (.Pass ⟨0, 0, 0, 0⟩)
  | _ => .Pass ⟨0, 0, 0, 0⟩
def defArgs (s : Stmt) : Arguments := match s with
  | .FunctionDef _ a _ _ _ _ _ _ _ _ => a
  | _ => { posonlyargs := [], args := [], vararg := none, kwonlyargs := [], kw_defaults := [], kwarg := none, defaults := [] }
def defBody (s : Stmt) : List Stmt := match s with
  | .FunctionDef _ _ b _ _ _ _ _ _ _ => b
  | _ => []
def defScope (s : Stmt) : Scope := match s with
  | .FunctionDef _ _ _ _ _ _ sc _ _ _ => sc
  | _ => { kind := .function, names := [], isGenerator := false, isCoroutine := false }
abbrev CX0 : CXT := fun _ _ _ _ _ _ => False
abbrev E0 : XK := fun _ _ _ => False
theorem pass0 {X : Cx} : Passes CX0 X E0 := fun _ _ _ _ _ _ _ h => h.elim
set_option genInjectivity false in
set_option genSizeOf false in
structure Fun (K : PySem.W.Frag) (x qual : Str) (st : Stmt) (f : Addr) (fd : FuncData) : Prop where
  ex : ∃ (oc : Value) (od : Option Addr) (kV doc pm : Value) (an : Option Addr) (cdv ct : Value) (osl : Array (Option Value)),
    fd = PySem.W.fnOf x qual (defArgs st) (defBody st) (defScope st) .none kV doc pm an cdv ct ∧ K.lookup f = some ⟨oc, od, .func fd, osl⟩ ∧ PySem.W.codeIn K cdv qual = true
  kp : PySem.W.keepIn K (.ref f) = true
section
variable {P : Program} {w : World} {K : PySem.W.Frag} {mg : Str → Option Value} {base : Heap}
theorem Fun.ok {x qual : Str} {st : Stmt} {f : Addr} {fd : FuncData} {N ps : List Str} {k : Nat} {sp : Sp} (F : Fun K x qual st f fd) (S : FnScope N ps (defScope st)) (len : ∀ vs H Q E, sp vs H Q E → vs.length = ps.length)
    (hbody : ∀ (cdv : Value) (A : Around) (outer : List Env) (s : Shared) (H : Hp) (vs : List V) (Q : VK) (E : XK), Room k (A.deeper (envOfC qual (defScope st) s.heap.objs.size f cdv)) → sp vs H Q E →
      ∃ t, PSs (cxOf CX0 P w K mg base N qual (defScope st) f cdv A outer s H E).nox (defBody st) t ∧ t { nx := fun _ H' => Q .non H', rt := Q } (start N vs) H) : FnOk P w K mg base CX0 (k + 1) f fd ps sp := by
  obtain ⟨oc, od, kV, doc, pm, an, cdv, ct, osl, rfl, lk, hcd⟩ := F.ex
  refine fn_of lk hcd S len fun A outer s H vs Q E hr hsp => ?_
  obtain ⟨t, h, q⟩ := hbody cdv A outer s H vs Q E hr hsp
  exact ⟨t, h.nox, q⟩
theorem Fun.binds {x qual : Str} {st : Stmt} {f : Addr} {fd : FuncData} {ps : List Str} (F : Fun K x qual st f fd)
    (h : ∀ (kV doc pm : Value) (an : Option Addr) (cdv ct : Value) (us : List Value), us.length = ps.length → bindArgs (PySem.W.fnOf x qual (defArgs st) (defBody st) (defScope st) .none kV doc pm an cdv ct) ⟨us, []⟩ = pure (ps.zip us)) : Binds K fd ps [] := by
  obtain ⟨oc, od, kV, doc, pm, an, cdv, ct, osl, rfl, lk, hcd⟩ := F.ex
  exact .all (h kV doc pm an cdv ct)
theorem fun_mk {x qual : Str} {st : Stmt} {f : Addr} {oc : Value} {od an : Option Addr} {osl : Array (Option Value)} {kV doc pm cdv ct : Value} (l : K.lookup f = some ⟨oc, od, .func (PySem.W.fnOf x qual (defArgs st) (defBody st) (defScope st) .none kV doc pm an cdv ct), osl⟩)
    (c : PySem.W.codeIn K cdv qual = true) (k : PySem.W.keepIn K (.ref f) = true) : Fun K x qual st f (PySem.W.fnOf x qual (defArgs st) (defBody st) (defScope st) .none kV doc pm an cdv ct) := ⟨⟨oc, od, kV, doc, pm, an, cdv, ct, osl, rfl, l, c⟩, k⟩
end
theorem small1000 {n : Nat} (h : n ≤ 1000) : n < sizeLine := Nat.lt_of_le_of_lt h (by decide)
section
variable {X : Cx}
theorem pv (i : Nat) {x : Str} {pos : Pos} (hN : X.N[i]? = some x := by rfl) (hv : Vis X.env.scope x := by first | exact Or.inl rfl | exact Or.inr (Or.inl rfl) | exact Or.inr (Or.inr rfl)) (hd : (x == ("__debug__" : Str)) = false := by decide)
    (hcd : (x == ("__classdict__" : Str)) = false := by decide) : PE X (.Name x pos) (tVar i) := pe_var hN hv hd hcd
end
theorem ite2 {c A B : Prop} [Decidable c] (h1 : c → A) (h2 : ¬ c → B) : if c then A else B := by
  by_cases h : c
  · rw [if_pos h]
    exact h1 h
  · rw [if_neg h]
    exact h2 h
def Same (H H' : Hp) : Prop := ∀ b o, H b = some o → H' b = some o
theorem Same.refl (H : Hp) : Same H H := fun _ _ h => h
theorem Same.trans {H H1 H2 : Hp} (a : Same H H1) (b : Same H1 H2) : Same H H2 := fun c o h => b c o (a c o h)
theorem Same.free {H H' : Hp} (e : Same H H') {l : Addr} (h : H' l = Option.none) : H l = Option.none := by
  cases q : H l with
  | none => rfl
  | some o =>
    rw [e l o q] at h
    cases h
end L2
namespace L2
open PySem PySem.Spec PyProof.Rows
set_option genInjectivity false in
set_option genSizeOf false in
structure Dn (P : Program) (w : World) (K : PySem.W.Frag) (mg : Str → Option Value) (base : Heap) (k : Nat) (x : Str) (ps : List Str) (sp : Sp) : Prop where
  ex : ∃ (f : Addr) (fd : FuncData), FnOk P w K mg base CX0 k f fd ps sp ∧ Binds K fd ps [] ∧ PySem.W.keepIn K (.ref f) = true ∧ mg x = some (.ref f)
theorem Dn.mono {P : Program} {w : World} {K : PySem.W.Frag} {mg : Str → Option Value} {base : Heap} {j k : Nat} {x : Str} {ps : List Str} {sp : Sp} (D : Dn P w K mg base j x ps sp) (h : j ≤ k) : Dn P w K mg base k x ps sp := by
  obtain ⟨f, fd, a, b, c, d⟩ := D.ex
  exact ⟨f, fd, a.mono h, b, c, d⟩
theorem Dn.imp {P : Program} {w : World} {K : PySem.W.Frag} {mg : Str → Option Value} {base : Heap} {k : Nat} {x : Str} {ps : List Str} {sp sp' : Sp} (D : Dn P w K mg base k x ps sp) (h : ∀ vs H Q E, sp' vs H Q E → sp vs H Q E) : Dn P w K mg base k x ps sp' := by
  obtain ⟨f, fd, a, b, c, d⟩ := D.ex
  exact ⟨f, fd, a.imp h, b, c, d⟩
def unst (e : Expr) : Bool := match e with
  | .Starred _ _ => false
  | _ => true
theorem star_un {e : Expr} {es : List Expr} {env : Env} (h : unst e = true) : starEach (e :: es) env = (false, eval e env) :: starEach es env := by
  cases e <;> first | rfl | cases h
theorem star_any {env : Env} {pos : Pos} : ∀ {es : List Expr}, es.all unst = true → (backTo pos (starEach es env)).any (·.1) = false
  | [], _ => rfl
  | e :: es, h => by
    rw [List.all_cons, Bool.and_eq_true] at h
    rw [star_un h.1]
    show (false || (backTo pos (starEach es env)).any (·.1)) = false
    rw [star_any h.2]
    rfl
theorem all_tl {e : Expr} {es : List Expr} (h : (e :: es).all unst = true) : es.all unst = true := by
  rw [List.all_cons, Bool.and_eq_true] at h; exact h.2
theorem all_hd {e : Expr} {es : List Expr} (h : (e :: es).all unst = true) : unst e = true := by
  rw [List.all_cons, Bool.and_eq_true] at h; exact h.1
theorem pa_u {X : Cx} {e : Expr} {es : List Expr} {te : TE} {t : TA} (ha : PE X e te) (hr : PA X es t) (h : unst e = true := by rfl) : PA X (e :: es) (tCons te t) := pa_cons ha hr (star_un h)
theorem pe_callBu {X : Cx} {x : Str} {p pos : Pos} {e : Expr} {es : List Expr} {t : TA} {id : String} {r : List V → Hp → VK → Prop} (hc : CallR X (.builtin id) r) (hg : Gl X x) (hm : X.mg x = none) (hv : bootBuiltins x = some (.builtin id)) (ha : PA X (e :: es) t)
    (h : (e :: es).all unst = true := by rfl) (hn : x ≠ "__name__" := by decide) (hdb : (x == ("__debug__" : Str)) = false := by decide) : PE X (.Call (.Name x p) (e :: es) [] pos) (tCB r t) :=
  pe_callB hc hg hm hv ha hn hdb (star_un (all_hd h)) (star_any (all_tl h))
theorem pe_callTu {X : Cx} {x : Str} {p pos : Pos} {e : Expr} {es : List Expr} {t : TA} {T : String} {r : List V → Hp → VK → Prop} (hc : CallR X (.type T) r) (hg : Gl X x) (hm : X.mg x = none) (hv : bootBuiltins x = some (.type T)) (ha : PA X (e :: es) t)
    (h : (e :: es).all unst = true := by rfl) (hn : x ≠ "__name__" := by decide) (hdb : (x == ("__debug__" : Str)) = false := by decide) : PE X (.Call (.Name x p) (e :: es) [] pos) (tCB r t) :=
  pe_callTy hc hg hm hv ha hn hdb (star_un (all_hd h)) (star_any (all_tl h))
theorem pe_callD {X : Cx} {k : Nat} {x : Str} {ps : List Str} {sp : Sp} {e : Expr} {es : List Expr} {t : TA} {p pos : Pos} (D : Dn X.prog X.w X.K X.mg X.base k x ps sp) (hr : Room k X.A) (hg : Gl X x)
    (ha : PA X (e :: es) t) (h : (e :: es).all unst = true := by rfl) (hdb : (x == ("__debug__" : Str)) = false := by decide) :
    PE X (.Call (.Name x p) (e :: es) [] pos) (tCall sp [] E0 t) := by
  obtain ⟨f, fd, a, b, c, d⟩ := D.ex
  exact pe_call a hr hg d c b .nil pass0 ha hdb (star_un (all_hd h)) (star_any (all_tl h))
set_option genInjectivity false in
set_option genSizeOf false in
structure Df (K : PySem.W.Frag) (mg : Str → Option Value) (x : Str) (st : Stmt) (ps : List Str) : Prop where
  ex : ∃ (f : Addr) (fd : FuncData), Fun K x x st f fd ∧ Binds K fd ps [] ∧ mg x = some (.ref f)
theorem Df.ok {P : Program} {w : World} {K : PySem.W.Frag} {mg : Str → Option Value} {base : Heap} {x : Str} {st : Stmt} {N ps : List Str} {k : Nat} {sp : Sp} (F : Df K mg x st ps) (S : FnScope N ps (defScope st))
    (len : ∀ vs H Q E, sp vs H Q E → vs.length = ps.length)
    (hbody : ∀ (f : Addr) (cdv : Value) (A : Around) (outer : List Env) (s : Shared) (H : Hp) (vs : List V) (Q : VK) (E : XK), Room k (A.deeper (envOfC x (defScope st) s.heap.objs.size f cdv)) → sp vs H Q E →
      ∃ (t : TS) (σ : St), PSs (cxOf CX0 P w K mg base N x (defScope st) f cdv A outer s H E).nox (defBody st) t ∧ start N vs = σ ∧ t { nx := fun _ H' => Q .non H', rt := Q } σ H) : Dn P w K mg base (k + 1) x ps sp := by
  obtain ⟨f, fd, F1, b, m⟩ := F.ex
  refine ⟨f, fd, F1.ok S len fun cdv A outer s H vs Q E hr h => ?_, b, F1.kp, m⟩
  obtain ⟨t, σ, h1, rfl, h2⟩ := hbody f cdv A outer s H vs Q E hr h
  exact ⟨t, h1, h2⟩
set_option genInjectivity false in
set_option genSizeOf false in
structure Gc (mg : Str → Option Value) (x : Str) (v : V) : Prop where
  ex : ∃ u, mg x = some u ∧ RelV v u
theorem pe_gc {X : Cx} {x : Str} {v : V} {pos : Pos} (h : Gc X.mg x v) (hg : Gl X x) (hd : (x == ("__debug__" : Str)) = false := by decide) : PE X (.Name x pos) (tC v) := by
  obtain ⟨u, a, b⟩ := h.ex
  exact pe_glob hg a b hd
mutual
def Dt (K : PySem.W.Frag) (t : Addr) (H : Hp) : PyData → V → Prop
  | .none, v => v = .non
  | .bool b, v => v = .bl b
  | .int i, v => v = .int i
  | .str x, v => v = .str x ∧ PyData.strOk x = true
  | .tuple ds, v => ∃ a xs, v = .ref a ∧ SqT K H a xs ∧ DtL K t H ds xs
  | .list ds, v => ∃ a xs, v = .ref a ∧ a ≠ t ∧ SqL K H a xs ∧ DtL K t H ds xs
  | .dict _, _ => False
def DtL (K : PySem.W.Frag) (t : Addr) (H : Hp) : List PyData → List V → Prop
  | [], vs => vs = []
  | d :: ds, vs => ∃ v r, vs = v :: r ∧ Dt K t H d v ∧ DtL K t H ds r
end
mutual
theorem Dt.lay {K : PySem.W.Frag} {t : Addr} {H : Hp} : ∀ (d : PyData) (v : V), Dt K t H d v → d.canLay0 = true
  | .none, _, _ => by simp [PyData.canLay0]
  | .bool _, _, _ => by simp [PyData.canLay0]
  | .int _, _, _ => by simp [PyData.canLay0]
  | .str x, _, h => by
    simp only [Dt] at h
    simpa [PyData.canLay0] using h.2
  | .tuple ds, v, h => by
    simp only [Dt] at h
    obtain ⟨a, xs, _, _, q⟩ := h
    simpa [PyData.canLay0] using DtL.lay ds xs q
  | .list ds, v, h => by
    simp only [Dt] at h
    obtain ⟨a, xs, _, _, _, q⟩ := h
    simpa [PyData.canLay0] using DtL.lay ds xs q
  | .dict _, _, h => by simp [Dt] at h
theorem DtL.lay {K : PySem.W.Frag} {t : Addr} {H : Hp} : ∀ (ds : List PyData) (vs : List V), DtL K t H ds vs → PyData.canLayAll0 ds = true
  | [], _, _ => by simp [PyData.canLayAll0]
  | d :: ds, vs, h => by
    simp only [DtL] at h
    obtain ⟨v, r, _, h1, h2⟩ := h
    simp [PyData.canLayAll0, Dt.lay d v h1, DtL.lay ds r h2]
end
mutual
theorem Dt.reads {X : Cx} {pins : List (Addr × Obj)} {σ : St} {H : Hp} {s : Shared} {t : Addr} (I : Inv X pins σ H s) : ∀ (d : PyData) (v : V) (u : Value), Dt X.K t H d v → RelV v u → ∃ as, Reads s.heap u d as
  | .none, v, u, h, r => by simp only [Dt] at h; subst h; cases r; exact ⟨_, .none⟩
  | .bool b, v, u, h, r => by simp only [Dt] at h; subst h; cases r; exact ⟨_, .bool b⟩
  | .int i, v, u, h, r => by simp only [Dt] at h; subst h; obtain ⟨tk, rfl⟩ := r; exact ⟨_, .int i tk⟩
  | .str x, v, u, h, r => by simp only [Dt] at h; obtain ⟨h, _⟩ := h; subst h; obtain ⟨tk, rfl⟩ := r; exact ⟨_, .str x tk⟩
  | .tuple ds, v, u, h, r => by
    simp only [Dt] at h
    obtain ⟨a, xs, rfl, hs, q⟩ := h
    cases r
    obtain ⟨its, rv, ⟨o, ho, hc, n, hd⟩, _⟩ := I.tuple hs
    obtain ⟨as, ra⟩ := DtL.reads I ds xs its q rv
    exact ⟨as, .tuple ho hc hd (by simpa using ra)⟩
  | .list ds, v, u, h, r => by
    simp only [Dt] at h
    obtain ⟨a, xs, rfl, _, hs, q⟩ := h
    cases r
    obtain ⟨its, rv, ⟨o, n, ho, hc, _, hd⟩, _⟩ := I.list hs
    obtain ⟨as, ra⟩ := DtL.reads I ds xs its q rv
    exact ⟨_, .list ho hc hd (by simpa using ra)⟩
  | .dict _, _, _, h, _ => by simp [Dt] at h
theorem DtL.reads {X : Cx} {pins : List (Addr × Obj)} {σ : St} {H : Hp} {s : Shared} {t : Addr} (I : Inv X pins σ H s) : ∀ (ds : List PyData) (vs : List V) (us : List Value), DtL X.K t H ds vs → Vals vs us → ∃ as, ReadsAll s.heap us ds as
  | [], vs, us, h, r => by simp only [DtL] at h; subst h; cases r; exact ⟨_, .nil⟩
  | d :: ds, vs, us, h, r => by
    simp only [DtL] at h
    obtain ⟨v, vr, rfl, h1, h2⟩ := h
    cases r with
    | cons r1 r2 =>
      obtain ⟨as, a1⟩ := Dt.reads I d v _ h1 r1
      obtain ⟨bs, a2⟩ := DtL.reads I ds vr _ h2 r2
      exact ⟨_, .cons a1 a2⟩
end
def rEqD (K : PySem.W.Frag) (n : Bool) : R2 := fun x y H Q => ∃ t d e, Dt K t H d x ∧ Dt K t H e y ∧ min d.depth e.depth ≤ 100 ∧ Q (.bl (if n then !PyData.eqv d e else PyData.eqv d e)) H
theorem op_eqD {X : Cx} {k : Nat} (hr : Room k X.A) : OpR X (compareOp .Eq) (rEqD X.K false) := by
  intro pins s σ H x y v u Q I rx ry h
  obtain ⟨t, d, e, hd, he, hm, q⟩ := h
  obtain ⟨as, r1⟩ := Dt.reads I d x v hd rx
  obtain ⟨bs, r2⟩ := Dt.reads I e y u he ry
  exact PySem.SeqAt.compareEq_reads r1 r2 (Dt.lay d x hd) (Dt.lay e y he) (by have := hr.un; omega) ⟨.bl _, H, I, rfl, q⟩
theorem op_neD {X : Cx} {k : Nat} (hr : Room k X.A) : OpR X (compareOp .NotEq) (rEqD X.K true) := by
  intro pins s σ H x y v u Q I rx ry h
  obtain ⟨t, d, e, hd, he, hm, q⟩ := h
  obtain ⟨as, r1⟩ := Dt.reads I d x v hd rx
  obtain ⟨bs, r2⟩ := Dt.reads I e y u he ry
  exact PySem.SeqAt.compareNe_reads r1 r2 (Dt.lay d x hd) (Dt.lay e y he) (by have := hr.un; omega) ⟨.bl _, H, I, rfl, q⟩
def tyD : PyData → String
  | .none => "NoneType"
  | .bool _ => "bool"
  | .int _ => "int"
  | .str _ => "str"
  | .tuple _ => "tuple"
  | .list _ => "list"
  | .dict _ => "dict"
def isiD (d : PyData) (T : String) : Bool := match d with
  | .none => false
  | .bool _ => T == "bool" || T == "int"
  | .int _ => T == "int"
  | .str _ => T == "str"
  | .tuple _ => T == "tuple"
  | .list _ => T == "list"
  | .dict _ => T == "dict"
def isiTs : List String := ["int", "bool", "str", "tuple", "list"]
theorem kit_isi {K : PySem.W.Frag} (d : PyData) {T : String} (h : T ∈ isiTs) : PySem.W.kitOne K (.type (tyD d)) (.type T) = some (isiD d T) := by
  simp only [isiTs, List.mem_cons, List.not_mem_nil, or_false] at h
  rcases h with rfl | rfl | rfl | rfl | rfl <;> cases d <;> with_unfolding_all rfl
theorem isi_dt {X : Cx} {pins : List (Addr × Obj)} {σ : St} {H : Hp} {s : Shared} {A : Around} {E : Value → Shared → Prop} {Q : Value → Shared → Prop} {t : Addr} {d : PyData} {x : V} {u : Value} {T : String}
    (I : Inv X pins σ H s) (rx : RelV x u) (hd : Dt X.K t H d x) (hT : T ∈ isiTs) (h : ∀ tk, Q (.bool (isiD d T)) { s with toks := tk }) : wpAny (model X.prog X.w) A (call (.builtin "isinstance") [u, .type T]) Q E s := by
  have e := kit_isi (K := X.K) d hT
  cases d with
  | none => simp only [Dt] at hd; subst hd; cases rx; exact PySem.W.kia_one PySem.W.kitx_none I.kIn True.intro e (fun z => nomatch z) h
  | bool b => simp only [Dt] at hd; subst hd; cases rx; exact PySem.W.kia_one PySem.W.kitx_bool I.kIn True.intro e (fun z => nomatch z) h
  | int i => simp only [Dt] at hd; subst hd; obtain ⟨tk, rfl⟩ := rx; exact PySem.W.kia_one PySem.W.kitx_int I.kIn True.intro e (fun z => nomatch z) h
  | str y => simp only [Dt] at hd; obtain ⟨hd, _⟩ := hd; subst hd; obtain ⟨tk, rfl⟩ := rx; exact PySem.W.kia_one PySem.W.kitx_str I.kIn True.intro e (fun z => nomatch z) h
  | tuple ds =>
    simp only [Dt] at hd
    obtain ⟨a, xs, rfl, hs, _⟩ := hd
    cases rx
    obtain ⟨its, _, ⟨o, ho, hc, _⟩, _⟩ := I.tuple hs
    exact PySem.W.kia_one PySem.W.kitx_tuple I.kIn ⟨o, ho, hc⟩ e (fun z => nomatch z) h
  | list ds =>
    simp only [Dt] at hd
    obtain ⟨a, xs, rfl, _, hs, _⟩ := hd
    cases rx
    obtain ⟨its, _, ⟨o, n, ho, hc, _⟩, _⟩ := I.list hs
    exact PySem.W.kia_one PySem.W.kitx_list I.kIn ⟨o, ho, hc⟩ e (fun z => nomatch z) h
  | dict _ => simp [Dt] at hd
def rIsi (K : PySem.W.Frag) : List V → Hp → VK → Prop := fun xs H Q => ∃ x T t d, xs = [x, .ty T] ∧ T ∈ isiTs ∧ Dt K t H d x ∧ Q (.bl (isiD d T)) H
theorem call_isi {X : Cx} : CallR X (.builtin "isinstance") (rIsi X.K) := by
  intro pins s σ H xs us Q I r h
  obtain ⟨x, T, t, d, rfl, hT, hd, q⟩ := h
  cases r with
  | cons r1 r2 =>
    cases r2 with
    | cons r3 r4 =>
      cases r4
      cases r3
      exact isi_dt I r1 hd hT fun tk => ⟨.bl _, H, I.tok _, rfl, q⟩
theorem bt_isinstance : bootBuiltins "isinstance" = some (.builtin "isinstance") := by decide +kernel
theorem bt_min : bootBuiltins "min" = some (.builtin "min") := by decide +kernel
theorem bt_int : bootBuiltins "int" = some (.type "int") := by decide +kernel
theorem bt_bool : bootBuiltins "bool" = some (.type "bool") := by decide +kernel
theorem bt_str : bootBuiltins "str" = some (.type "str") := by decide +kernel
theorem bt_tuple : bootBuiltins "tuple" = some (.type "tuple") := by decide +kernel
def Ext (t : Addr) (H H' : Hp) : Prop := ∀ b o, (b = t → ∀ xs, o ≠ .lst xs) → H b = some o → H' b = some o
theorem Ext.refl {t : Addr} (H : Hp) : Ext t H H := fun _ _ _ h => h
theorem Ext.trans {t : Addr} {H H1 H2 : Hp} (a : Ext t H H1) (b : Ext t H1 H2) : Ext t H H2 := fun c o n h => b c o n (a c o n h)
theorem Ext.new {t p : Addr} {H : Hp} (h : H p = none) (o : HO) : Ext t H (upd H p o) := fun b u _ q => by rw [upd_ne (ne_of_none q h)]; exact q
theorem Ext.at {t : Addr} {H : Hp} {xs : List V} (h : H t = some (.lst xs)) (o : HO) : Ext t H (upd H t o) := fun b u n q => by
  by_cases e : b = t
  · subst e; rw [h] at q; cases q; exact absurd rfl (n rfl xs)
  · rw [upd_ne e]; exact q
theorem Same.ext {t : Addr} {H H' : Hp} (h : Same H H') : Ext t H H' := fun b o _ q => h b o q
theorem Ext.sqT {K : PySem.W.Frag} {t a : Addr} {H H' : Hp} {xs : List V} (e : Ext t H H') (h : SqT K H a xs) : SqT K H' a xs := by
  rcases h with (h | ⟨o, h⟩) | h
  · exact .inl (.inl (e _ _ (fun _ _ z => nomatch z) h))
  · exact .inl (.inr ⟨o, e _ _ (fun _ _ z => nomatch z) h⟩)
  · exact .inr h
theorem Ext.sqL {K : PySem.W.Frag} {t a : Addr} {H H' : Hp} {xs : List V} (e : Ext t H H') (hn : a ≠ t) (h : SqL K H a xs) : SqL K H' a xs := by
  rcases h with (h | ⟨o, h⟩) | h
  · exact .inl (.inl (e _ _ (fun z => absurd z hn) h))
  · exact .inl (.inr ⟨o, e _ _ (fun z => absurd z hn) h⟩)
  · exact .inr h
mutual
theorem Dt.ext {K : PySem.W.Frag} {t : Addr} {H H' : Hp} (e : Ext t H H') : ∀ (d : PyData) (v : V), Dt K t H d v → Dt K t H' d v
  | .none, _, h => by simp only [Dt] at h ⊢; exact h
  | .bool _, _, h => by simp only [Dt] at h ⊢; exact h
  | .int _, _, h => by simp only [Dt] at h ⊢; exact h
  | .str _, _, h => by simp only [Dt] at h ⊢; exact h
  | .tuple ds, v, h => by
    simp only [Dt] at h ⊢
    obtain ⟨a, xs, h1, h2, h3⟩ := h
    exact ⟨a, xs, h1, e.sqT h2, DtL.ext e ds xs h3⟩
  | .list ds, v, h => by
    simp only [Dt] at h ⊢
    obtain ⟨a, xs, h1, h2, h3, h4⟩ := h
    exact ⟨a, xs, h1, h2, e.sqL h2 h3, DtL.ext e ds xs h4⟩
  | .dict _, _, h => by simp [Dt] at h
theorem DtL.ext {K : PySem.W.Frag} {t : Addr} {H H' : Hp} (e : Ext t H H') : ∀ (ds : List PyData) (vs : List V), DtL K t H ds vs → DtL K t H' ds vs
  | [], _, h => by simp only [DtL] at h ⊢; exact h
  | d :: ds, vs, h => by
    simp only [DtL] at h ⊢
    obtain ⟨v, r, h1, h2, h3⟩ := h
    exact ⟨v, r, h1, Dt.ext e d v h2, DtL.ext e ds r h3⟩
end
theorem Dt.on {K : PySem.W.Frag} {t : Addr} {H H' : Hp} {d : PyData} {v : V} (h : Dt K t H d v) (e : Ext t H H') : Dt K t H' d v := Dt.ext e d v h
theorem DtL.on {K : PySem.W.Frag} {t : Addr} {H H' : Hp} {d : List PyData} {v : List V} (h : DtL K t H d v) (e : Ext t H H') : DtL K t H' d v := DtL.ext e d v h
section
variable {K : PySem.W.Frag} {t p : Addr} {H : Hp}
theorem Dt.non : Dt K t H .none .non := by simp [Dt]
theorem Dt.bl (b : Bool) : Dt K t H (.bool b) (.bl b) := by simp [Dt]
theorem Dt.int (i : Int) : Dt K t H (.int i) (.int i) := by simp [Dt]
theorem Dt.str {x : Str} (h : PyData.strOk x = true) : Dt K t H (.str x) (.str x) := by simp [Dt, h]
theorem DtL.nil : DtL K t H [] [] := by simp [DtL]
theorem DtL.cons {d : PyData} {v : V} {ds : List PyData} {vs : List V} (h : Dt K t H d v) (q : DtL K t H ds vs) : DtL K t H (d :: ds) (v :: vs) := by
  simp only [DtL]
  exact ⟨v, vs, rfl, h, q⟩
theorem Dt.tup {a : Addr} {xs : List V} {ds : List PyData} (h : SqT K H a xs) (q : DtL K t H ds xs) : Dt K t H (.tuple ds) (.ref a) := by
  simp only [Dt]
  exact ⟨a, xs, rfl, h, q⟩
theorem Dt.newT {xs : List V} {ds : List PyData} (hp : H p = none) (q : DtL K t H ds xs) : Dt K t (upd H p (.tup xs)) (.tuple ds) (.ref p) :=
  .tup (.of upd_same) (q.on (.new hp _))
theorem Dt.tup_inv {ds : List PyData} {v : V} (h : Dt K t H (.tuple ds) v) : ∃ a xs, v = .ref a ∧ SqT K H a xs ∧ DtL K t H ds xs := by simpa only [Dt] using h
end
def ScL (K : PySem.W.Frag) (t : Addr) (H : Hp) (a : Addr) (xs : List V) : Prop := (a ≠ t ∧ SqL K H a xs) ∨ ∀ H', SqL K H' a xs
theorem ScL.sq {K : PySem.W.Frag} {t : Addr} {H : Hp} {a : Addr} {xs : List V} (h : ScL K t H a xs) : SqL K H a xs := h.elim (fun z => z.2) fun z => z H
theorem ScL.on {K : PySem.W.Frag} {t : Addr} {H H' : Hp} {a : Addr} {xs : List V} (h : ScL K t H a xs) (e : Ext t H H') : ScL K t H' a xs := h.elim (fun z => .inl ⟨z.1, e.sqL z.1 z.2⟩) .inr
theorem ScL.of {K : PySem.W.Frag} {t : Addr} {H : Hp} {a : Addr} {xs : List V} (h : SqL K H a xs) (hp : H t = none) (o : HO) : ScL K t (upd H t o) a xs := by
  rcases h with (h | ⟨u, h⟩) | h
  · exact .inl ⟨ne_of_none h hp, .inl (.inl (by rw [upd_ne (ne_of_none h hp)]; exact h))⟩
  · exact .inl ⟨ne_of_none h hp, .inl (.inr ⟨u, by rw [upd_ne (ne_of_none h hp)]; exact h⟩)⟩
  · exact .inr fun _ => .inr h
def Tape (K : PySem.W.Frag) (ns : List Int) (t : Addr) (H : Hp) : Prop :=
  ∃ (sc : Addr) (sp cr wy : Int), H t = some (.lst [.ref sc, .int sp, .int cr, .int wy]) ∧ ScL K t H sc (ns.map V.int)
set_option genInjectivity false in
set_option genSizeOf false in
structure Cur (K : PySem.W.Frag) (ns : List Int) (t : Addr) (H₀ H : Hp) : Prop where
  tape : Tape K ns t H
  ext : Ext t H₀ H
section
variable {K : PySem.W.Frag} {ns : List Int} {t p : Addr} {H₀ H H' : Hp}
theorem Tape.cur (h : Tape K ns t H) : Cur K ns t H H := ⟨h, .refl H⟩
theorem Tape.ne (h : Tape K ns t H) (hp : H p = none) : p ≠ t := by
  obtain ⟨_, _, _, _, e, _⟩ := h
  exact (ne_of_none e hp).symm
theorem Tape.new (h : Tape K ns t H) (hp : H p = none) (o : HO) : Tape K ns t (upd H p o) := by
  have n := h.ne hp
  obtain ⟨sc, sp, cr, wy, e, l⟩ := h
  exact ⟨sc, sp, cr, wy, by rw [upd_ne n.symm]; exact e, l.on (.new hp o)⟩
theorem Tape.same (h : Tape K ns t H) (e : Same H H') : Tape K ns t H' := by
  obtain ⟨sc, sp, cr, wy, e1, l⟩ := h
  exact ⟨sc, sp, cr, wy, e _ _ e1, l.on e.ext⟩
theorem Cur.same (c : Cur K ns t H₀ H) (e : Same H H') : Cur K ns t H₀ H' := ⟨c.tape.same e, c.ext.trans e.ext⟩
theorem Cur.new (c : Cur K ns t H₀ H) (hp : H p = none) (o : HO) : Cur K ns t H₀ (upd H p o) := ⟨c.tape.new hp o, c.ext.trans (.new hp o)⟩
theorem Cur.then (c : Cur K ns t H₀ H) (d : Cur K ns t H H') : Cur K ns t H₀ H' := ⟨d.tape, c.ext.trans d.ext⟩
theorem Cur.ne (c : Cur K ns t H₀ H) (hp : H p = none) : p ≠ t := c.tape.ne hp
end
end L2
namespace L2
open PySem PySem.Spec PyProof.Rows
theorem Df.void {P : Program} {w : World} {K : PySem.W.Frag} {mg : Str → Option Value} {base : Heap} {x : Str} {st : Stmt} {ps : List Str} {k : Nat} {sp : Sp} (F : Df K mg x st ps) (no : ∀ vs H Q E, ¬ sp vs H Q E) : Dn P w K mg base k x ps sp := by
  obtain ⟨f, fd, F1, b, m⟩ := F.ex
  exact ⟨f, fd, ⟨fun vs H Q E h => absurd h (no vs H Q E), fun A outer s H args us vs Q E _ _ _ _ h => absurd h (no vs H Q E)⟩, b, F1.kp, m⟩
end L2
namespace L2
open PySem PySem.Spec PyProof.Rows
theorem r_K {CX : CXT} {P : Program} {w : World} {K : PySem.W.Frag} {mg : Str → Option Value} {base : Heap} {N : List Str} {qual : Str} {scope : Scope} {f : Addr} {cd : Value} {A : Around} {outer : List Env} {s : Shared} {H : Hp} {E : XK} :
    (cxOf CX P w K mg base N qual scope f cd A outer s H E).K = K := rfl
def rLenS (K : PySem.W.Frag) : List V → Hp → VK → Prop := fun xs H Q => ∃ p ys, xs = [.ref p] ∧ (SqL K H p ys ∨ SqT K H p ys) ∧ Q (.int ys.length) H
theorem call_lenS {X : Cx} : CallR X (.builtin "len") (rLenS X.K) := call_len_seq
def rMin2 : List V → Hp → VK → Prop := fun xs H Q => ∃ i j, xs = [.int i, .int j] ∧ Q (.int (if j < i then j else i)) H
theorem call_minS {X : Cx} (hc : X.calm = true) : CallR X (.builtin "min") rMin2 := call_min2 hc
def rMax2 : List V → Hp → VK → Prop := fun xs H Q => ∃ i j, xs = [.int i, .int j] ∧ Q (.int (if j > i then j else i)) H
def rIsNn (n : Bool) : R2 := fun x y H Q => y = .non ∧ Q (.bl (if n then !decide (x = .non) else decide (x = .non))) H
theorem op_isNS {X : Cx} : OpR X (compareOp .Is) (rIsNn false) := op_isN
theorem op_notNS {X : Cx} : OpR X (compareOp .IsNot) (rIsNn true) := op_notN
end L2
namespace L2
open PySem PySem.Spec PyProof.Rows
def tCut (t u : TS) : TS := fun D σ H => ∃ M : St → Hp → Prop, t { D with nx := M } σ H ∧ ∀ σ' H', M σ' H' → u D σ' H'
theorem pss_cut {X : Cx} {st : Stmt} {rest : List Stmt} {t u : TS} (h1 : PS X st t) (h2 : PSs X rest u) : PSs X (st :: rest) (tCut t u) := by
  intro pins s σ H D I h
  obtain ⟨M, a, b⟩ := h
  refine wpAny_execs_cons (thn (h1 pins s σ H _ I a) fun f s1 q => ?_)
  cases f with
  | next => obtain ⟨σ1, H1, I1, q1⟩ := q; exact h2 pins s1 σ1 H1 D I1 (b _ _ q1)
  | brk => exact q
  | cont => exact q
  | ret v => exact q
theorem r_cut {D : Ends} {σ : St} {H : Hp} {t u : TS} (M : St → Hp → Prop) (a : ∀ M' : St → Hp → Prop, (∀ σ H, M σ H → M' σ H) → t { D with nx := M' } σ H) (b : ∀ σ' H', M σ' H' → u D σ' H') : tCut t u D σ H := ⟨M, a M fun _ _ h => h, b⟩
end L2
namespace L2
open PySem PySem.Spec PyProof.Rows
theorem Fun.okS {P : Program} {w : World} {K : PySem.W.Frag} {mg : Str → Option Value} {base : Heap} {x qual : Str} {st : Stmt} {f : Addr} {fd : FuncData} {N ps : List Str} {k : Nat} {sp : Sp} (F : Fun K x qual st f fd) (S : FnScope N ps (defScope st)) (len : ∀ vs H Q E, sp vs H Q E → vs.length = ps.length)
    (hbody : ∀ (cdv : Value) (A : Around) (outer : List Env) (s : Shared) (H : Hp) (vs : List V) (Q : VK) (E : XK), Room k (A.deeper (envOfC qual (defScope st) s.heap.objs.size f cdv)) → sp vs H Q E →
      ∃ (t : TS) (σ : St), PSs (cxOf CX0 P w K mg base N qual (defScope st) f cdv A outer s H E).nox (defBody st) t ∧ start N vs = σ ∧ t { nx := fun _ H' => Q .non H', rt := Q } σ H) : FnOk P w K mg base CX0 (k + 1) f fd ps sp :=
  F.ok S len fun cdv A outer s H vs Q E hr h => by
    obtain ⟨t, σ, h1, rfl, h2⟩ := hbody cdv A outer s H vs Q E hr h
    exact ⟨t, h1, h2⟩
end L2
namespace L2
open PySem PySem.Spec PyProof.Rows
section
variable {D : Ends} {σ : St} {H : Hp} {K : PySem.W.Frag} {ta tb tc te : TE} {t u : TS} {tt uu : TT} {tr : TA} {g : TG} {Q : VK} {B : Bool → Hp → Prop} {L : List V → Hp → Prop} {x y v : V} {r r' : R2} {G : St → Hp → Prop} {S : Hp → Prop}
theorem r_seq : tSeq t u D σ H = t { D with nx := u D } σ H := rfl
theorem r_next : tNext D σ H = D.nx σ H := rfl
theorem r_asg : tAsg te g D σ H = te σ H fun x H1 => g x σ H1 D.nx := rfl
theorem r_ret : tRet te D σ H = te σ H D.rt := rfl
theorem r_retN : tRetN D σ H = D.rt .non H := rfl
theorem r_drop : tDrop te D σ H = te σ H fun _ H1 => D.nx σ H1 := rfl
theorem r_ifS : tIfS tt t u D σ H = tt σ H fun b H1 => if b = true then t D σ H1 else u D σ H1 := rfl
theorem r_name {i : Nat} : gName i v σ H G = G (σ.set i (some v)) H := rfl
theorem r_sub {ts : TSet} : gSub ta tb ts v σ H G = ta σ H fun o H1 => tb σ H1 fun i H2 => ts o i v H2 fun H3 => G σ H3 := rfl
theorem r_var {v : V} : tVar 0 (some v :: σ) H Q = Q v H := rfl
theorem r_varS {i : Nat} {x : Option V} : tVar (i + 1) (x :: σ) H Q = tVar i σ H Q := rfl
theorem r_c : tC v σ H Q = Q v H := rfl
theorem r_op : tOp r ta tb σ H Q = ta σ H fun x H1 => tb σ H1 fun y H2 => r x y H2 Q := rfl
theorem r_un {p : V → Hp → VK → Prop} : tUn p ta σ H Q = ta σ H fun x H1 => p x H1 Q := rfl
theorem r_test : tTest te σ H B = te σ H fun x H' => ∃ k, x = .bl k ∧ B k H' := rfl
theorem r_tB : tB te σ H B = te σ H fun x H' => ∃ k, x = .bl k ∧ B k H' := rfl
theorem r_and : tAnd tt uu σ H B = tt σ H fun c H1 => if c = true then uu σ H1 B else B false H1 := rfl
theorem r_or : tOr tt uu σ H B = tt σ H fun c H1 => if c = true then B true H1 else uu σ H1 B := rfl
theorem r_not : tNot tt σ H B = tt σ H fun c H1 => B (!c) H1 := rfl
theorem r_andV : tAndV ta tb σ H Q = ta σ H fun x H1 => ∃ c, x = .bl c ∧ if c = true then tb σ H1 Q else Q (.bl false) H1 := rfl
theorem r_orV : tOrV ta tb σ H Q = ta σ H fun x H1 => ∃ c, x = .bl c ∧ if c = true then Q (.bl true) H1 else tb σ H1 Q := rfl
theorem r_notV : tNotV ta σ H Q = ta σ H fun x H1 => ∃ c, x = .bl c ∧ Q (.bl (!c)) H1 := rfl
theorem r_ifE : tIf tt ta tb σ H Q = tt σ H fun c H1 => if c = true then ta σ H1 Q else tb σ H1 Q := rfl
theorem r_chain : tChain r r' ta tb tc σ H Q = ta σ H fun x H1 => tb σ H1 fun y H2 => r x y H2 fun z H3 => ∃ k, z = .bl k ∧ (if k = true then tc σ H3 fun w' H4 => r' y w' H4 Q else Q (.bl false) H3) := rfl
theorem r_nil : tNil σ H L = L [] H := rfl
theorem r_cons : tCons ta tr σ H L = ta σ H fun x H1 => tr σ H1 fun xs H2 => L (x :: xs) H2 := rfl
theorem r_tup : tTup tr σ H Q = tr σ H fun xs H1 => xs.length ≤ sizeLine ∧ ∀ p, H1 p = none → Q (.ref p) (upd H1 p (.tup xs)) := rfl
theorem r_lst : tLst tr σ H Q = tr σ H fun xs H1 => xs.length ≤ sizeLine ∧ ∀ p, H1 p = none → Q (.ref p) (upd H1 p (.lst xs)) := rfl
theorem r_call {sp : Sp} {dvs : List V} {E : XK} : tCall sp dvs E tr σ H Q = tr σ H fun vs H1 => sp (vs ++ dvs) H1 Q E := rfl
theorem r_cb {p : List V → Hp → VK → Prop} : tCB p tr σ H Q = tr σ H fun vs H1 => p vs H1 Q := rfl
theorem r_I {C : Int → Int → Prop} {f : Int → Int → V} {i j : Int} : rI C f (.int i) (.int j) H Q = (C i j ∧ Q (f i j) H) := rfl
theorem r_I0 {f : Int → Int → V} {i j : Int} : rI0 f (.int i) (.int j) H Q = Q (f i j) H := rfl
theorem r_eqI {i j : Int} : rEq (.int i) (.int j) H Q = Q (.bl (decide (i = j))) H := rfl
theorem r_neI {i j : Int} : rNe (.int i) (.int j) H Q = Q (.bl (!decide (i = j))) H := rfl
theorem r_eqB {i j : Bool} : rEq (.bl i) (.bl j) H Q = Q (.bl (i == j)) H := rfl
theorem r_eqS {i j : Str} : rEq (.str i) (.str j) H Q = Q (.bl (decide (i = j))) H := rfl
theorem r_neS {i j : Str} : rNe (.str i) (.str j) H Q = Q (.bl (!decide (i = j))) H := rfl
theorem r_ixL {p : Addr} {i : Int} : rIxL K (.ref p) (.int i) H Q = ∃ xs, SqL K H p xs ∧ ∃ v, atI xs i = some v ∧ Q v H := rfl
theorem r_ixT {p : Addr} {i : Int} : rIxT K (.ref p) (.int i) H Q = ∃ xs, SqT K H p xs ∧ ∃ v, atI xs i = some v ∧ Q v H := rfl
theorem r_setL {p : Addr} {i : Int} : rSetL (.ref p) (.int i) v H S = ∃ xs, H p = some (.lst xs) ∧ ∃ j, ixN xs.length i = some j ∧ S (upd H p (.lst (xs.set j v))) := by
  unfold rSetL
  exact propext ⟨fun ⟨a, xs, b, j, h1, h2, h3, h4, h⟩ => by cases h1; cases h2; exact ⟨xs, h3, j, h4, h⟩, fun ⟨xs, h3, j, h4, h⟩ => ⟨p, xs, i, j, rfl, rfl, h3, h4, h⟩⟩
theorem r_sl {rs : V → Option Int → Option Int → Hp → VK → Prop} {tl th : TO} : tSl rs te tl th σ H Q = te σ H fun x H1 => tl σ H1 fun l H2 => th σ H2 fun u H3 => rs x l u H3 Q := rfl
theorem r_noP {O : Option Int → Hp → Prop} : tNoPart σ H O = O none H := rfl
theorem r_part {O : Option Int → Hp → Prop} : tPart te σ H O = te σ H fun x H1 => ∃ i, x = .int i ∧ O (some i) H1 := rfl
theorem r_bm {T : String} {rr : V → List V → Hp → VK → Prop} : tBM K T rr te tr σ H Q = te σ H fun x H1 => tyV K T x H1 ∧ tr σ H1 fun xs H2 => rr x xs H2 Q := rfl
def ForR (g : TG) (t : TS) (D : Ends) (σ : St) (J : It) (H1 : Hp) : Prop := ∃ W : Nat → Nat → St → Hp → Prop, (∃ m, W 0 m σ H1) ∧ ∀ i m σ H, W i m σ H →
  (J.stop i H ∧ D.nx σ H) ∨ (J.go i H ∧ ∃ N : St → Hp → Prop, (∀ σ' H', N σ' H' → ∃ m', m' < m ∧ W (i + 1) m' σ' H') ∧ ∀ x H', J.yld i H x H' → g x σ H' fun σ2 H2 => t { D with nx := N, ct := N, bk := D.nx } σ2 H2)
theorem r_for {wi : TI} : tFor wi g t D σ H = wi σ H fun J H1 => ForR g t D σ J H1 := rfl
theorem r_rng1 {R : It → Hp → Prop} : iRng1 tr σ H R = tr σ H fun vs H1 => ∃ j : Int, vs = [.int j] ∧ -(2 ^ 62) ≤ j ∧ j < 2 ^ 62 ∧ R (Itr 0 j.toNat) H1 := rfl
theorem r_iL {R : It → Hp → Prop} : iList K te σ H R = te σ H fun x H1 => ∃ a, x = .ref a ∧ (∃ xs, SqL K H1 a xs) ∧ R (Itl K a) H1 := rfl
theorem r_iT {R : It → Hp → Prop} : iTup K te σ H R = te σ H fun x H1 => ∃ a, x = .ref a ∧ (∃ xs, SqT K H1 a xs) ∧ R (Itt K a) H1 := rfl
theorem rng_of {j : Int} (Pv : Nat → St → Hp → Prop) (h0 : Pv 0 σ H)
    (hs : ∀ (Pv' : Nat → St → Hp → Prop), (∀ i σ H, Pv i σ H → Pv' i σ H) → ∀ i σ H, i < j.toNat → Pv i σ H → g (.int (0 + i)) σ H fun σ2 H2 => t { D with nx := Pv' (i + 1), ct := Pv' (i + 1), bk := D.nx } σ2 H2) (hd : ∀ σ H, Pv j.toNat σ H → D.nx σ H) :
    ForR g t D σ (Itr 0 j.toNat) H := for_range Pv h0 (fun i σ H a b => hs Pv (fun _ _ _ z => z) i σ H a b) hd
theorem lst_of {a : Addr} {xs : List V} (Pv : Nat → St → Hp → Prop) (h0 : Pv 0 σ H) (hl : ∀ i σ H, i ≤ xs.length → Pv i σ H → SqL K H a xs)
    (hs : ∀ (Pv' : Nat → St → Hp → Prop), (∀ i σ H, Pv i σ H → Pv' i σ H) → ∀ i x σ H, xs[i]? = some x → Pv i σ H → g x σ H fun σ2 H2 => t { D with nx := Pv' (i + 1), ct := Pv' (i + 1), bk := D.nx } σ2 H2) (hd : ∀ σ H, Pv xs.length σ H → D.nx σ H) :
    ForR g t D σ (Itl K a) H := for_list Pv h0 hl (fun i x σ H a b => hs Pv (fun _ _ _ z => z) i x σ H a b) hd
theorem tup_of {a : Addr} {xs : List V} (Pv : Nat → St → Hp → Prop) (h0 : Pv 0 σ H) (hl : ∀ i σ H, i ≤ xs.length → Pv i σ H → SqT K H a xs)
    (hs : ∀ (Pv' : Nat → St → Hp → Prop), (∀ i σ H, Pv i σ H → Pv' i σ H) → ∀ i x σ H, xs[i]? = some x → Pv i σ H → g x σ H fun σ2 H2 => t { D with nx := Pv' (i + 1), ct := Pv' (i + 1), bk := D.nx } σ2 H2) (hd : ∀ σ H, Pv xs.length σ H → D.nx σ H) :
    ForR g t D σ (Itt K a) H := for_tup Pv h0 hl (fun i x σ H a b => hs Pv (fun _ _ _ z => z) i x σ H a b) hd
end
end L2
namespace L2
open PySem PySem.Spec PyProof.Rows
section
variable {K : PySem.W.Frag} {H : Hp} {t : Addr} {Q : VK} {E : XK} {x y : V} {d e : PyData}
theorem isi_of {T : String} (hd : Dt K t H d x) (h : Q (.bl (isiD d T)) H) (hT : T ∈ isiTs := by decide) : rIsi K [x, .ty T] H Q := ⟨x, T, t, d, rfl, hT, hd, h⟩
theorem eqF_of (h1 : Dt K t H d x) (h2 : Dt K t H e y) (hm : min d.depth e.depth ≤ 100) (h : Q (.bl (PyData.eqv d e)) H) : rEqD K false x y H Q := ⟨t, d, e, h1, h2, hm, h⟩
theorem neD_of (h1 : Dt K t H d x) (h2 : Dt K t H e y) (hm : min d.depth e.depth ≤ 100) (h : Q (.bl (!PyData.eqv d e)) H) : rEqD K true x y H Q := ⟨t, d, e, h1, h2, hm, h⟩
theorem dstr (x : Str) (h : PyData.strOk x = true := by decide +kernel) : Dt K t H (.str x) (.str x) := .str h
theorem depR {d e : PyData} {n : Nat} (h : e.depth = n) (hn : n ≤ 100 := by decide) : min d.depth e.depth ≤ 100 := Nat.le_trans (Nat.min_le_right _ _) (by rw [h]; exact hn)
theorem len_of {p : Addr} {ys : List V} (h : SqL K H p ys) (q : Q (.int ys.length) H) : rLenS K [.ref p] H Q := ⟨p, ys, rfl, .inl h, q⟩
theorem cat_of {a b : Addr} {xs ys : List V} (h1 : H a = some (.lst xs)) (h2 : H b = some (.lst ys)) (hz : xs.length + ys.length ≤ sizeLine) (q : ∀ p, H p = none → Q (.ref p) (upd H p (.lst (xs ++ ys)))) : rCat (.ref a) (.ref b) H Q :=
  ⟨a, b, xs, ys, rfl, rfl, h1, h2, hz, q⟩
theorem r_min2 {i j : Int} : rMin2 [.int i, .int j] H Q = Q (.int (if j < i then j else i)) H := by
  unfold rMin2
  exact propext ⟨fun ⟨a, b, h1, h⟩ => by cases h1; exact h, fun h => ⟨i, j, rfl, h⟩⟩
theorem r_max2 {i j : Int} : rMax2 [.int i, .int j] H Q = Q (.int (if j > i then j else i)) H := by
  unfold rMax2
  exact propext ⟨fun ⟨a, b, h1, h⟩ => by cases h1; exact h, fun h => ⟨i, j, rfl, h⟩⟩
theorem r_isNf : rIsNn false x .non H Q = Q (.bl (decide (x = .non))) H := propext ⟨fun h => h.2, fun h => ⟨rfl, h⟩⟩
theorem r_isNt : rIsNn true x .non H Q = Q (.bl (!decide (x = .non))) H := propext ⟨fun h => h.2, fun h => ⟨rfl, h⟩⟩
theorem DtL.get : ∀ {ds : List PyData} {xs : List V} {i : Nat} {d : PyData}, DtL K t H ds xs → ds[i]? = some d → ∃ v, xs[i]? = some v ∧ Dt K t H d v
  | [], _, _, _, _, h => by simp at h
  | a :: r, xs, 0, d, q, h => by
    simp only [DtL] at q
    obtain ⟨v, s, rfl, h1, h2⟩ := q
    simp at h
    subst h
    exact ⟨v, rfl, h1⟩
  | a :: r, xs, i + 1, d, q, h => by
    simp only [DtL] at q
    obtain ⟨v, s, rfl, h1, h2⟩ := q
    obtain ⟨u, e1, e2⟩ := DtL.get (i := i) h2 (by simpa using h)
    exact ⟨u, by simpa using e1, e2⟩
theorem DtL.len {ds : List PyData} {xs : List V} (q : DtL K t H ds xs) : ds.length = xs.length := by
  induction ds generalizing xs with
  | nil => simp only [DtL] at q; subst q; rfl
  | cons a r ih =>
    simp only [DtL] at q
    obtain ⟨v, s, rfl, h1, h2⟩ := q
    simp [ih h2]
end
end L2
namespace L2
open PySem PySem.Spec PyProof.Rows
@[irreducible] def QA (X : Cx) (es : List Expr) (t : TA) : Prop := PA X es t
@[irreducible] def QS (X : Cx) (ss : List Stmt) (t : TS) : Prop := PSs X ss t
theorem QA.pa {X : Cx} {es : List Expr} {t : TA} (h : QA X es t) : PA X es t := by unfold QA at h; exact h
end L2
namespace L2
open PySem PySem.Spec PyProof.Rows
theorem comp_loop {prog : Program} {w : World} {A : Around} {R : Result → Shared → Prop} {s : Shared} {elt target iter : Expr} {ifs : List Expr} {scope : Scope} {pos : Pos} {it acc : Value} {env : Env} (I : Nat → Shared → Prop)
    (turn : ∀ n s, I n s → wpAny (model prog w) A (pyNext it) (fun r s₁ => match r with
      | none => R (.ok .next) s₁
      | some v => wpAny (model prog w) A (letOwnedTupleGo target it v) (fun _ s₁' => wpAny (model prog w) A (assign target env v) (fun _ s₂ =>
          wpAny (model prog w) A (forIn ifs true fun c r => if r = true then do let ok ← isTrue c env (eval c env); pure (ForInStep.yield ok) else pure (ForInStep.yield r)) (fun ok s₃ =>
            if ok = true then wpAny (model prog w) A (eval elt env) (fun x s₄ =>
              wpAny (model prog w) A (call (.builtin "list.append") [acc, x]) (fun _ s₅ => ∃ m, m < n ∧ I m s₅) (fun _ _ => False) s₄) (fun _ _ => False) s₃
            else ∃ m, m < n ∧ I m s₃) (fun _ _ => False) s₂) (fun _ _ => False) s₁') (fun _ _ => False) s₁) (fun _ _ => False) s)
    (n : Nat) (h : I n s) :
    codeAny (model prog w) A (.compLoop (.ListComp elt [⟨target, iter, ifs, 0⟩] scope pos) 0 it acc env) R s := by
  refine codeAny_loop rfl I (fun n s hI => ?_) n h
  show wpAny _ A ((compTurn (.ListComp elt [⟨target, iter, ifs, 0⟩] scope pos) 0 it acc env).onRaise (fun x => do noteFrame x env; theTreesLotGoes x)) _ _ s
  refine wpAny_noted ?_
  rw [compTurn_list]
  have nf : ∀ {α : Type} {t : Sem α} {Q : α → Shared → Prop} {E : Value → Shared → Prop} {s : Shared}, wpAny (model prog w) A t Q (fun _ _ => False) s → wpAny (model prog w) A t Q E s := fun h => wpAny_mono h (fun _ _ q => q) fun _ _ f => f.elim
  refine wpAny_bind (wpAny_standAt (wpAny_bind (wpAny_mono (turn n s hI) (fun r s₁ h₁ => ?_) fun _ _ h' => h'.elim)))
  cases r with
  | none => exact wpAny_pure h₁
  | some v =>
    refine wpAny_bind (wpAny_mono h₁ (fun _ s₁' h₁' => ?_) fun _ _ h' => h'.elim)
    refine wpAny_bind (wpAny_mono h₁' (fun _ s₂ h₂ => wpAny_bind (wpAny_mono h₂ (fun ok s₃ h₃ => ?_) fun _ _ h' => h'.elim)) fun _ _ h' => h'.elim)
    cases ok with
    | false => exact wpAny_pure ⟨rfl, h₃⟩
    | true =>
      exact wpAny_bind (wpAny_bind (wpAny_mono h₃ (fun x s₄ h₄ => wpAny_bind (wpAny_mono h₄ (fun _ s₅ h₅ => wpAny_pure (wpAny_pure ⟨rfl, h₅⟩)) fun _ _ h' => h'.elim)) fun _ _ h' => h'.elim))
def compCx (X : Cx) (N : List Str) (x : Str) (scope : Scope) (cl : List (Str × Addr)) (C : Addr) (s : Shared) (H : Hp) (fp : List Addr) : Cx :=
  { X with N := N, s₀ := s, H₀ := H, env := compEnvC scope cl C X.env, outer := X.stack, ex := fp, fn := fun y => decide (y = x), pn := [], xe := fun _ _ => False }
set_option genInjectivity false in
set_option genSizeOf false in
structure CompScope (X : Cx) (N : List Str) (x : Str) (scope : Scope) (cl : List (Str × Addr)) : Prop where
  clos : closureFor scope X.env = pure cl
  nocell : ∀ y ∈ scope.names, y.2 ≠ .cell
  kind : scope.kind = .function
  names : ∀ y ∈ scope.names, y.2 = .local → scope.names.lookup y.1 = some .local
  loc : scope.names.lookup x = some .local
  nd : N.Nodup
  hd : N[0]? = some x
  len : N.length = X.N.length + 1
  tl : ∀ j y, N[j + 1]? = some y → Vis (relabel scope X.env) y → X.N[j]? = some y ∧ X.env.kindOf y = some .cell ∧ Vis X.env.scope y ∧ ((relabel scope X.env).names.lookup y = some .cell ∨ (relabel scope X.env).names.lookup y = some .free) ∧ cl.lookup y = X.env.cells.lookup y
  sub : ∀ y c, cl.lookup y = some c → X.env.cells.lookup y = some c
  has : ∀ y, ((relabel scope X.env).names.lookup y = some .cell ∨ (relabel scope X.env).names.lookup y = some .free) → ∃ c, cl.lookup y = some c
  nox : cl.lookup x = none
def PTs (X : Cx) (ifs : List Expr) (t : TT) : Prop :=
  ∀ (pins : List (Addr × Obj)) (s : Shared) (σ : St) (H : Hp) (Q : Bool → Hp → Prop), Inv X pins σ H s → t σ H Q →
    wpAny (model X.prog X.w) X.A (forIn ifs true fun c r => if r = true then do let ok ← isTrue c X.env (eval c X.env); pure (ForInStep.yield ok) else pure (ForInStep.yield r)) (TP X pins σ Q) X.xe s
def tTrue : TT := fun _ H Q => Q true H
theorem pts_nil {X : Cx} : PTs X [] tTrue := fun _ _ _ H _ I h => wpAny_tests_nil ⟨H, I, h⟩
def tComp (wi : TI) (tt : TT) (te : TE) : TE := fun σ H Q => wi σ H fun J H1 => ∀ D, H1 D = none → ∃ W : Nat → Nat → Hp → Prop, (∃ m, W 0 m (upd H1 D (.lst []))) ∧ ∀ i m H, W i m H →
  (J.stop i H ∧ Q (.ref D) H) ∨ (J.go i H ∧ ∀ x H', J.yld i H x H' → tt (some x :: σ) H' fun b H2 =>
    if b = true then te (some x :: σ) H2 fun y H3 => ∃ ys, H3 D = some (.lst ys) ∧ ys.length < sizeLine ∧ ∃ m', m' < m ∧ W (i + 1) m' (upd H3 D (.lst (ys ++ [y])))
    else ∃ m', m' < m ∧ W (i + 1) m' H2)
section
variable {X : Cx} {pins : List (Addr × Obj)} {σ : St} {H : Hp} {s : Shared} {N : List Str} {x : Str} {scope : Scope} {cl : List (Str × Addr)} {fp : List Addr} {it : Addr} {tn : Nat → Heap → Prop} {J : It} {px : Pos}
theorem compOk (S : CompScope X N x scope cl) (I : Inv X pins σ H s) (hf : ∀ b ∈ fp, FpOk X pins H b) (hb : ∀ b ∈ fp, b < s.heap.objs.size) : (compCx X N x scope cl s.heap.objs.size s H fp).Ok where
  mod := I.ok.mod
  kind := S.kind
  glob := I.ok.glob
  blt := I.ok.blt
  above := Nat.le_refl _
  inj := fun y z c h1 h2 => I.ok.inj y z c (S.sub y c h1) (S.sub z c h2)
  has := fun y hy => S.has y hy
  cab := fun y c h1 h2 => by
    have e : y = x := of_decide_eq_true h1
    subst e
    have q : cl.lookup y = some c := h2
    rw [S.nox] at q; cases q
  hd := I.ok.hd
  frames := I.ok.frames
  stk := .inl rfl
  exf := fun b hb' => ⟨Nat.ne_of_lt (hb b hb'), fun y c h => (hf b hb').2.2.2.2.1 y c (S.sub y c h)⟩
  bs := I.bs
  bsz := Nat.le_trans I.ok.bsz I.sz
  noex := fun b o e hb' => by
    rcases (hf b hb').2.2.2.1 with z | z
    · exact I.ok.noex b o e z
    · exact absurd (Nat.lt_of_lt_of_le (Heap.lt_size e) (Nat.le_trans I.ok.bsz z)) (Nat.lt_irrefl _)
  exfs := fun b hb' hs => by
    rcases List.mem_cons.mp (I.stkSub b hs) with z | z
    · exact (hf b hb').2.1 z
    · exact (hf b hb').2.2.1 z
  funs := I.stack
  frf := I.stkFree
theorem compInv (S : CompScope X N x scope cl) (I : Inv X pins σ H s) (hf : ∀ b ∈ fp, FpOk X pins H b) (hb : ∀ b ∈ fp, b < s.heap.objs.size) {h' : Heap} {m : Str → Option Value} {tk : Nat} (hn : h'.Ns s.heap.objs.size m)
    (k : ∀ b u, s.heap.get? b = some u → h'.get? b = some u) : Inv (compCx X N x scope cl s.heap.objs.size s H fp) [] (none :: σ) H { s with heap := h', toks := tk } where
  ok := compOk S I hf hb
  os := rfl
  bare := I.bare
  base := Un.kept k
  loc := ⟨m, hn, fun i y v e1 e2 e3 => by
    cases i with
    | zero => simp at e2
    | succ j =>
      obtain ⟨a1, a2, a3, a4, a5⟩ := S.tl j y e1 e3
      obtain ⟨m0, hn0, hl0⟩ := I.loc
      obtain ⟨u, r, l⟩ := hl0 j y v a1 (by simpa using e2) a3
      rcases l with ⟨hk, _⟩ | ⟨_, c, hc, ⟨o, ho, hd⟩⟩
      · rw [a2] at hk; cases hk
      · exact ⟨u, r, .inr ⟨a4, c, a5.trans hc, o, k _ _ ho, hd⟩⟩⟩
  cell := fun y c e => by
    obtain ⟨v, o, ho, hd⟩ := I.cell y c (S.sub y c e)
    exact ⟨v, o, k _ _ ho, hd⟩
  free := I.hok.fresh (Nat.le_refl _)
  freeC := fun y c e => I.freeC y c (S.sub y c e)
  pin := fun p hp => absurd (show p ∈ ([] : List (Addr × Obj)) from hp) (by simp)
  hok := I.hok.kept k
  len := by
    show (none :: σ).length = N.length
    rw [S.len, ← I.len, List.length_cons]
theorem comp_block {elt iter : Expr} {ifs : List Expr} {pos : Pos} {te : TE} {tt : TT} {Q : V → Hp → Prop} {RR : Value → Addr → Result → Shared → Prop} {E : Value → Shared → Prop} (hc : X.calm = true) (S : CompScope X N x scope cl) (T : Turn X.prog X.w X.K (.Name x px) J fp it tn)
    (hts : ∀ C s H fp, PTs (compCx X N x scope cl C s H fp) ifs tt) (helt : ∀ C s H fp, PE (compCx X N x scope cl C s H fp) elt te)
    (I : Inv X pins σ H s) (t0 : tn 0 s.heap) (hf : ∀ b ∈ fp, FpOk X pins H b)
    (hq : ∀ D, H D = none → ∃ W : Nat → Nat → Hp → Prop, (∃ m, W 0 m (upd H D (.lst []))) ∧ ∀ i m H, W i m H →
      (J.stop i H ∧ Q (.ref D) H) ∨ (J.go i H ∧ ∀ x H', J.yld i H x H' → tt (some x :: σ) H' fun b H2 =>
        if b = true then te (some x :: σ) H2 fun y H3 => ∃ ys, H3 D = some (.lst ys) ∧ ys.length < sizeLine ∧ ∃ m', m' < m ∧ W (i + 1) m' (upd H3 D (.lst (ys ++ [y])))
        else ∃ m', m' < m ∧ W (i + 1) m' H2))
    (hRR : ∀ D C H' s', Inv X pins σ H' s' → Q (.ref D) H' → (∃ m, s'.heap.Ns C m) → H' C = none → C ≠ X.env.locals → X.s₀.heap.objs.size ≤ C → (∀ y c, X.env.cells.lookup y = some c → c ≠ C) → (∀ p ∈ X.pn ++ pins, p.1 ≠ C) → RR (.ref D) C (.ok .next) s') :
    wpAny (model X.prog X.w) X.A (newList []) (fun acc s₃ => wpAny (model X.prog X.w) X.A (newFunctionEnv scope X.env.globals cl [] X.env.qual none .none (some X.env)) (fun cenv s₄ =>
      codeAny (model X.prog X.w) X.A (.compStart (.ListComp elt [⟨.Name x px, iter, ifs, 0⟩] scope pos) 0 (.ref it) acc { cenv with scope := relabel scope X.env }) (RR acc cenv.locals) s₄) E s₃) E s := by
  have hD : H s.heap.objs.size = none := I.hok.fresh (Nat.le_refl _)
  obtain ⟨W, ⟨m0, w0⟩, turn⟩ := hq _ hD
  refine wpAny_newObj_type (wpAny_newFunctionEnv S.nocell (by intro y hy; simp at hy) (fun h₁ hns₁ hsb₁ => ?_) S.kind)
  dsimp only at hns₁ hsb₁ ⊢
  have I3 : Inv X pins σ (upd H s.heap.objs.size (.lst [])) { s with heap := s.heap.push { cls := .type "list", data := .seq ([] : List Value).toArray }, toks := s.toks } := I.lnew .nil (Nat.zero_le _)
  have fpLt : ∀ b ∈ fp, b < s.heap.objs.size := fun b hb => by
    obtain ⟨o, ho, _⟩ := T.obj _ _ t0 b hb
    exact Heap.lt_size ho
  have hf3 : ∀ b ∈ fp, FpOk X pins (upd H s.heap.objs.size (.lst [])) b := fun b hb => by
    refine ⟨?_, (hf b hb).2⟩
    rw [upd_ne (Nat.ne_of_lt (fpLt b hb))]
    exact (hf b hb).1
  generalize hH2 : s.heap.push { cls := .type "list", dict := none, data := .seq ([] : List Value).toArray } = G at hns₁ hsb₁ I3 ⊢
  have hG : G.objs.size = s.heap.objs.size + 1 := by rw [← hH2, Heap.size_push]
  have kG : ∀ b o, G.get? b = some o → h₁.get? b = some o := fun b o e => hsb₁.extBut b o (Nat.ne_of_lt (Heap.lt_size e)) (Heap.get?_push_of_some _ e)
  have ks : ∀ b o, s.heap.get? b = some o → h₁.get? b = some o := fun b o e => kG b o (hH2 ▸ Heap.get?_push_of_some _ e)
  have fpLt3 : ∀ b ∈ fp, b < G.objs.size := fun b hb => by rw [hG]; exact Nat.lt_succ_of_lt (fpLt b hb)
  have t1 : tn 0 h₁ := T.keep _ _ _ t0 fun b _ o e => ks b o e
  have I4 := compInv (tk := s.toks + ([] : List (Str × Value)).length) S I3 hf3 fpLt3 hns₁ kG
  generalize hX' : compCx X N x scope cl G.objs.size { s with heap := G, toks := s.toks } (upd H s.heap.objs.size (.lst [])) fp = X' at I4
  have e1 : X'.prog = X.prog := by rw [← hX']; rfl
  have e2 : X'.w = X.w := by rw [← hX']; rfl
  have e3 : X'.A = X.A := by rw [← hX']; rfl
  have e4 : X'.env = compEnvC scope cl G.objs.size X.env := by rw [← hX']; rfl
  have e5 : X'.calm = true := by rw [← hX']; exact hc
  have e6 : X'.xe = fun _ _ => False := by rw [← hX']; rfl
  have e7 : X'.K = X.K := by rw [← hX']; rfl
  have helt' : PE X' elt te := hX' ▸ helt _ _ _ _
  have hts' : PTs X' ifs tt := hX' ▸ hts _ _ _ _
  have hfp : ∀ {H' : Hp}, (∀ b ∈ fp, H' b = none) → ∀ b ∈ fp, FpOk X' [] H' b := fun {H'} hn b hb => by
    obtain ⟨f0, f1, f2, f3, f4, f5⟩ := hf3 b hb
    refine ⟨hn b hb, ?_, ?_, ?_, ?_, ?_⟩
    · rw [e4]; exact Nat.ne_of_lt (fpLt3 b hb)
    · subst hX'
      intro z
      rcases List.mem_cons.mp (I3.stkSub b z) with q | q
      · exact f1 q
      · exact f2 q
    · subst hX'; exact .inl hb
    · rw [e4]; exact fun y c q => f4 y c (S.sub y c q)
    · subst hX'
      intro p hp
      exact absurd (show p ∈ ([] : List (Addr × Obj)) from hp) (by simp)
  have nd' : X'.N.Nodup := by subst hX'; exact S.nd
  have hi' : X'.N[0]? = some x := by subst hX'; exact S.hd
  have hx' : X'.env.scope.names.lookup x = some .local := by rw [e4]; exact lookup_relabel_local S.loc
  have loop : ∀ s₅ : Shared, s₅ = { s with heap := h₁, toks := s.toks + ([] : List (Str × Value)).length } →
      codeAny (model X.prog X.w) X.A (.compLoop (.ListComp elt [⟨.Name x px, iter, ifs, 0⟩] scope pos) 0 (.ref it) (.ref s.heap.objs.size) (compEnvC scope cl G.objs.size X.env)) (RR (.ref s.heap.objs.size) G.objs.size) s₅ := by
    rintro s₅ rfl
    refine comp_loop (fun n s' => ∃ i v0 H', Inv X' [] (v0 :: σ) H' s' ∧ tn i s'.heap ∧ (∀ b ∈ fp, H' b = none) ∧ W i n H') ?_ m0 ⟨0, none, _, I4, t1, fun b hb => (hf3 b hb).1, w0⟩
    rintro n s6 ⟨i, v0, H6, I6, st6, fr6, w6⟩
    rcases turn i n H6 w6 with ⟨stop, qn⟩ | ⟨go, step⟩
    · have dn := T.done X' e1 e2 e7 e5 i [] s6 (v0 :: σ) H6 (fun _ _ => False) I6 (hfp fr6) st6 stop
      rw [e3] at dn
      refine thn dn fun r s7 ⟨hr, I7⟩ => ?_
      subst hr
      have u7 := I7.base
      have J7 : Inv X pins σ H6 s7 := by
        refine I3.call' (ch := fp) ?_ (by subst hX'; exact u7) (by subst hX'; exact I7.hok) I7.bare fun b hb => ?_
        · have := I7.os; subst hX'; exact this
        · obtain ⟨_, f1, _, f3, f4, f5⟩ := hf3 b hb
          exact ⟨f3, f1, f4, f5⟩
      refine hRR _ _ H6 s7 J7 qn ?_ ?_ ?_ ?_ ?_ ?_
      · obtain ⟨m, hm, _⟩ := I7.loc
        rw [e4] at hm
        exact ⟨m, hm⟩
      · have := I7.free
        rw [e4] at this
        exact this
      · exact Nat.ne_of_gt I3.lt
      · exact I3.sz
      · intro y c q
        obtain ⟨v, hv⟩ := I3.cell y c q
        exact Nat.ne_of_lt hv.lt
      · intro p hp
        exact Nat.ne_of_lt (Heap.lt_size (I3.pin p hp).1)
    · have itm := T.item X' e1 e2 e7 e5 i [] s6 (v0 :: σ) H6 (fun _ _ => False) I6 (hfp fr6) st6 go
      rw [e3] at itm
      refine thn itm fun r s7 ⟨u, hr, h7⟩ => ?_
      subst hr
      refine thn h7 fun _ s8 ⟨xv, H8, I8, r8, y8, st8, fr8⟩ => ?_
      have I8' := I8.pinned (hfp fr8) (T.obj _ _ st8)
      have sto : wpAny (model X.prog X.w) X.A (assign (.Name x px) X'.env u) (fun _ s9 => Inv X' ([] ++ pinsAt fp s8.heap) ((v0 :: σ).set 0 (some xv)) H8 s9) (fun _ _ => False) s8 :=
        wpAny_assign_Name (store_ok I8' nd' hi' (.inl hx') r8 (fun s9 I9 => I9) (.inr hx'))
      rw [e4] at sto
      refine thn sto fun _ s9 I9 => ?_
      have I9' : Inv X' ([] ++ pinsAt fp s8.heap) (some xv :: σ) H8 s9 := I9
      have tst := hts' _ s9 (some xv :: σ) H8 _ I9' (step xv H8 y8)
      rw [e1, e2, e3, e4, e6] at tst
      refine thn tst fun ok s10 ⟨H10, I10, q10⟩ => ?_
      have again : ∀ {s11 : Shared} {H11 : Hp}, Inv X' ([] ++ pinsAt fp s8.heap) (some xv :: σ) H11 s11 → (∃ m', m' < n ∧ W (i + 1) m' H11) → ∃ m, m < n ∧ ∃ i v0 H', Inv X' [] (v0 :: σ) H' s11 ∧ tn i s11.heap ∧ (∀ b ∈ fp, H' b = none) ∧ W i m H' := fun {s11 H11} J ⟨m', hm, w11⟩ => by
        have pp : ∀ b ∈ fp, ∀ o, s8.heap.get? b = some o → s11.heap.get? b = some o ∧ H11 b = none := fun b hb o e => by
          have := J.pin (b, o) (List.mem_append_right _ (List.mem_append_right _ (mem_pinsAt hb e)))
          exact ⟨this.1, this.2.1⟩
        refine ⟨m', hm, i + 1, some xv, H11, J.unpinned, T.keep _ _ _ st8 fun b hb o e => (pp b hb o e).1, fun b hb => ?_, w11⟩
        obtain ⟨o, e, d⟩ := T.obj _ _ st8 b hb
        exact (pp b hb o e).2
      cases ok with
      | false =>
        rw [if_neg Bool.false_ne_true] at q10 ⊢
        exact again I10 q10
      | true =>
        rw [if_pos rfl] at q10 ⊢
        have ev := helt' _ s10 (some xv :: σ) H10 _ I10 q10
        rw [e1, e2, e3, e4, e6] at ev
        refine thn ev fun y s11 ⟨yv, H11, I11, r11, ys, hys, hz, q11⟩ => ?_
        have ap := mt_append (X := X') _ s11 (some xv :: σ) H11 (.ref s.heap.objs.size) [yv] (.ref s.heap.objs.size) [y] (fun _ H' => ∃ m', m' < n ∧ W (i + 1) m' H') I11 rfl (.cons r11 .nil) ⟨_, ys, yv, rfl, rfl, hys, hz, q11⟩
        rw [e1, e2, e3, e6] at ap
        exact thn ap fun _ s12 ⟨_, H12, I12, _, q12⟩ => again I12 q12
  exact codeAny_compStart_list (loop _ rfl) (T.self _ 0 _ _ _ t1 (loop _ rfl))
theorem sameBut_keeps {C : Addr} {h h' : Heap} (hs : Heap.SameBut C h h') : ∀ b o, b ≠ C → h.get? b = some o → h'.get? b = some o := fun b o n e => hs.extBut b o n e
theorem pe_comp {elt iter : Expr} {ifs : List Expr} {pos : Pos} {wi : TI} {te : TE} {tt : TT} (hc : X.calm = true) (S : CompScope X N x scope cl) (hi : PI X (.Name x px) iter wi)
    (hts : ∀ C s H fp, PTs (compCx X N x scope cl C s H fp) ifs tt) (helt : ∀ C s H fp, PE (compCx X N x scope cl C s H fp) elt te) (hs : ∀ v, foldedSetIterable iter X.env v = pure v := by intro _; rfl) :
    PE X (.ListComp elt [⟨.Name x px, iter, ifs, 0⟩] scope pos) (tComp wi tt te) := by
  intro pins s σ H Q I h
  rw [eval_ListComp]
  refine wpAny_comprehension_free (use := none) rfl hs S.clos S.kind S.names (thn (hi pins s σ H _ I h) fun v s1 h1 => thn h1 fun itv s2 h2 => ?_)
  obtain ⟨it, fp, tn, J, H2, rfl, I2, T, st2, f2, hq⟩ := h2
  refine comp_block (RR := fun acc C => compPost (model X.prog X.w) X.A X.xe none (EP X pins σ Q) acc C) hc S T hts helt I2 st2 f2 hq fun D C H' s' I' q ⟨m, hm⟩ h1 h2 h3 h4 h5 => ?_
  exact ⟨m, hm, fun h' sb => ⟨.ref D, H', I'.turned (it := C) (t' := s'.toks) (sameBut_keeps sb) h1 h2.symm.symm (.inr h3) h4 h5, rfl, q⟩⟩
end
end L2
namespace M
open PySem
set_option genInjectivity false in
set_option genSizeOf false in
inductive Rl where
  | pt
  | un (to lead : Int) (cap : Option Int) (inner : Rl)
  | ul (to lead cap : Int) (inner last : Rl)
def capD : Option Int → PyData
  | none => .none
  | some c => .int c
abbrev pointD : PyData := .tuple [.str "point"]
abbrev unitD (to lead cap inner last : PyData) : PyData := .tuple [.str "unit", to, lead, cap, inner, last]
def enc : Rl → PyData
  | .pt => pointD
  | .un to lead cap i => unitD (.int to) (.int lead) (capD cap) (enc i) .none
  | .ul to lead cap i l => unitD (.int to) (.int lead) (.int cap) (enc i) (enc l)
def Bd (least i : Int) : Prop := least ≤ i ∧ i ≤ 99
def capOk (to : Int) : Option Int → Prop
  | none => True
  | some c => Bd to c
def ok : Rl → Prop
  | .pt => True
  | .un to lead cap i => Bd 1 to ∧ Bd 1 lead ∧ capOk to cap ∧ ok i
  | .ul to lead cap i l => Bd 1 to ∧ Bd 1 lead ∧ Bd to cap ∧ ok i ∧ ok l
def size : Rl → Nat
  | .pt => 0
  | .un _ _ _ i => 1 + size i
  | .ul _ _ _ i l => 1 + size i + size l
def depth : Rl → Nat
  | .pt => 0
  | .un _ _ _ i => depth i + 1
  | .ul _ _ _ i l => max (depth i) (depth l) + 1
def bnd (d : PyData) (least : Int) : Bool := match d with
  | .int i => decide (least ≤ i) && decide (i ≤ 99)
  | _ => false
def isN : PyData → Bool
  | .none => true
  | _ => false
def intOf : PyData → Int
  | .int i => i
  | _ => 0
def form (d : PyData) : Bool := match d with
  | .tuple [wd, to, lead, cap, _, last] =>
    PyData.eqv wd (.str "unit") && (bnd to 1 && (bnd lead 1 && (if isN cap then isN last else bnd cap (intOf to))))
  | _ => false
def unitsOf : Nat → PyData → Option Nat
  | room, d => if PyData.eqv d pointD then some 0 else match room with
    | 0 => none
    | r + 1 => if form d then (match d with
        | .tuple [_, _, _, _, i, l] => match unitsOf r i, (if isN l then some 0 else unitsOf r l) with
          | some a, some b => some (1 + a + b)
          | _, _ => none
        | _ => none) else none
theorem eqv_unit (a b c d e : PyData) : PyData.eqv (unitD a b c d e) pointD = false := by rfl
theorem isN_enc (r : Rl) : isN (enc r) = false := by cases r <;> rfl
def Bad (d : PyData) : Prop := ∀ room, unitsOf room d = none
def U : Nat → Nat → Nat
  | 0, _ => 0
  | d + 1, th => 1 + U d th + (if d ≤ th then U d th else 2 ^ th - 1)
theorem U_full : ∀ {d th : Nat}, d ≤ th → U d th = 2 ^ d - 1
  | 0, _, _ => rfl
  | d + 1, th, h => by
    have e := U_full (d := d) (th := th) (by omega)
    unfold U
    rw [if_pos (by omega), e]
    have : 2 ^ (d + 1) = 2 * 2 ^ d := by rw [Nat.pow_succ, Nat.mul_comm]
    have p : 0 < 2 ^ d := Nat.pos_of_ne_zero (by simp)
    omega
theorem U_min (d th : Nat) : U (min d th) th = (if d ≤ th then U d th else 2 ^ th - 1) := by
  by_cases h : d ≤ th
  · rw [if_pos h, Nat.min_eq_left h]
  · rw [if_neg h, Nat.min_eq_right (by omega), U_full (Nat.le_refl _)]
theorem U_succ (d th : Nat) : U (d + 1) th = 1 + U d th + U (min d th) th := by rw [U_min]; rfl
end M
namespace M
open PySem
def isPt : Rl → Bool
  | .pt => true
  | _ => false
def gNp (r : Rl) : Option Rl := if isPt r then none else some r
def lst : Rl → Option Rl
  | .ul _ _ _ _ l => some l
  | _ => none
def np (rs : List Rl) : List Rl := rs.filterMap gNp
end M
namespace M
open PySem
def glue (c : Nat) : List (List Nat) → List Nat
  | [] => []
  | [x] => x
  | x :: r => x ++ c :: glue c r
theorem app_inj (c : Nat) : ∀ {a b x y : List Nat}, c ∉ a → c ∉ b → a ++ c :: x = b ++ c :: y → a = b ∧ x = y
  | [], [], x, y, _, _, h => ⟨rfl, by simpa using h⟩
  | [], z :: b, x, y, _, hb, h => by simp at h; exact absurd h.1 (fun e => hb (by simp [e]))
  | z :: a, [], x, y, ha, _, h => by simp at h; exact absurd h.1.symm (fun e => ha (by simp [e]))
  | z :: a, u :: b, x, y, ha, hb, h => by
    simp only [List.cons_append, List.cons.injEq] at h
    obtain ⟨rfl, h⟩ := h
    obtain ⟨rfl, rfl⟩ := app_inj c (fun m => ha (List.mem_cons_of_mem _ m)) (fun m => hb (List.mem_cons_of_mem _ m)) h
    exact ⟨rfl, rfl⟩
theorem glue_inj (c : Nat) : ∀ {a b : List (List Nat)}, a ≠ [] → b ≠ [] → (∀ x ∈ a, c ∉ x) → (∀ x ∈ b, c ∉ x) → glue c a = glue c b → a = b
  | [], _, h, _, _, _, _ => absurd rfl h
  | _, [], _, h, _, _, _ => absurd rfl h
  | [x], [y], _, _, _, _, h => by simp only [glue] at h; rw [h]
  | [x], y :: z :: r, _, _, ha, _, h => by
    simp only [glue] at h
    exact absurd (by rw [h]; simp) (ha x (List.mem_cons_self ..))
  | x :: z :: r, [y], _, _, _, hb, h => by
    simp only [glue] at h
    exact absurd (by rw [← h]; simp) (hb y (List.mem_cons_self ..))
  | x :: z :: r, y :: u :: q, _, _, ha, hb, h => by
    have e1 : glue c (x :: z :: r) = x ++ c :: glue c (z :: r) := rfl
    have e2 : glue c (y :: u :: q) = y ++ c :: glue c (u :: q) := rfl
    rw [e1, e2] at h
    obtain ⟨rfl, h2⟩ := app_inj c (ha _ (List.mem_cons_self ..)) (hb _ (List.mem_cons_self ..)) h
    rw [glue_inj c (by simp) (by simp) (fun x m => ha x (List.mem_cons_of_mem _ m)) (fun x m => hb x (List.mem_cons_of_mem _ m)) h2]
theorem cps_app (x y : Str) : (x ++ y).cps.toList = x.cps.toList ++ y.cps.toList := by
  show (x.cps ++ y.cps).toList = _
  simp
theorem join_glue (c : Nat) : ∀ ws : List Str, (Str.join ⟨#[c]⟩ ws).cps.toList = glue c (ws.map (·.cps.toList))
  | [] => rfl
  | [x] => rfl
  | x :: y :: r => by
    have e : Str.join ⟨#[c]⟩ (x :: y :: r) = x ++ ⟨#[c]⟩ ++ Str.join ⟨#[c]⟩ (y :: r) := rfl
    rw [e, cps_app, cps_app, join_glue c (y :: r)]
    simp [glue]
theorem str_ext {x y : Str} (h : x.cps.toList = y.cps.toList) : x = y := by
  cases x; cases y
  simp only [Str.mk.injEq]
  exact Array.toList_inj.mp h
theorem strs_inj : ∀ {a b : List Str}, a.map (·.cps.toList) = b.map (·.cps.toList) → a = b
  | [], [], _ => rfl
  | [], _ :: _, h => by simp at h
  | _ :: _, [], h => by simp at h
  | x :: a, y :: b, h => by
    simp only [List.map_cons, List.cons.injEq] at h
    rw [str_ext h.1, strs_inj h.2]
theorem split_ne (x y : Str) : Txt.split x y ≠ [] := by
  intro h
  unfold Txt.split at h
  split at h
  · cases h
  · split at h
    · cases h
    · rename_i c
      have := congrArg List.length h
      rw [length_partsBetween] at this
      simp at this
theorem split_join (c : Nat) {ws : List Str} (hn : ws ≠ []) (hf : ∀ x ∈ ws, c ∉ x.cps.toList) : Txt.split (Str.join ⟨#[c]⟩ ws) ⟨#[c]⟩ = ws := by
  have e := StrLaws.join_split (Str.join ⟨#[c]⟩ ws) ⟨#[c]⟩
  have f := StrLaws.split_free (Str.join ⟨#[c]⟩ ws) c
  refine strs_inj (glue_inj c ?_ ?_ ?_ ?_ ?_)
  · have := split_ne (Str.join ⟨#[c]⟩ ws) ⟨#[c]⟩
    simpa using this
  · simpa using hn
  · intro x hx
    obtain ⟨p, hp, rfl⟩ := List.mem_map.mp hx
    exact f p hp
  · intro x hx
    obtain ⟨p, hp, rfl⟩ := List.mem_map.mp hx
    exact hf p hp
  · rw [← join_glue, ← join_glue, e]
end M
namespace M
open PySem
def numS (i : Int) : Str := Str.ofString (toString i)
def numOk (i : Int) (x : Str) : Bool := (x.length == 1 || x.length == 2) && x.cps.all (fun c => 48 ≤ c && c ≤ 57) && (x.cps.getD 0 0 != 48) && (PySem.intText? x == some i)
theorem num_ok : ∀ n : Nat, n < 99 → numOk ((n : Int) + 1) (numS ((n : Int) + 1)) = true := by decide +kernel
end M
namespace M
open PySem
def wPoint : Str := Str.ofString "point"
def wUnit : Str := Str.ofString "unit"
def wDash : Str := Str.ofString "-"
def capS : Option Int → Str
  | none => wDash
  | some c => numS c
def words : Rl → List Str
  | .pt => [wPoint]
  | .un to lead cap i => [wUnit, numS to, numS lead, capS cap] ++ words i ++ [wDash]
  | .ul to lead cap i l => [wUnit, numS to, numS lead, numS cap] ++ words i ++ words l
theorem words_pos : ∀ r, 0 < (words r).length
  | .pt => by simp [words]
  | .un _ _ _ _ => by simp [words]
  | .ul _ _ _ _ _ => by simp [words]
theorem words_ne (r : Rl) : words r ≠ [] := fun h => by have := words_pos r; rw [h] at this; simp at this
theorem words_len : ∀ r, (words r).length ≤ 6 * size r + 1
  | .pt => by simp [words, size]
  | .un _ _ _ i => by have := words_len i; simp only [words, size, List.length_append, List.length_cons, List.length_nil]; omega
  | .ul _ _ _ i l => by have := words_len i; have := words_len l; simp only [words, size, List.length_append, List.length_cons, List.length_nil]; omega
theorem num_facts {i : Int} (h : Bd 1 i) : ((numS i).length = 1 ∨ (numS i).length = 2) ∧ (∀ c ∈ (numS i).cps.toList, 48 ≤ c ∧ c ≤ 57) ∧ (numS i).cps.getD 0 0 ≠ 48 ∧ PySem.intText? (numS i) = some i := by
  have := num_ok (i - 1).toNat (by have := h.1; have := h.2; omega)
  rw [show (((i - 1).toNat : Nat) : Int) + 1 = i by have := h.1; omega] at this
  simp only [numOk, Bool.and_eq_true, Bool.or_eq_true, beq_iff_eq, bne_iff_ne, Array.all_eq_true_iff_forall_mem, decide_eq_true_eq] at this
  obtain ⟨⟨⟨h1, h2⟩, h3⟩, h4⟩ := this
  exact ⟨h1, fun c hc => h2 c (by simpa using hc), h3, h4⟩
theorem num_free {i : Int} (h : Bd 1 i) : 32 ∉ (numS i).cps.toList := fun m => by have := (num_facts h).2.1 32 m; omega
theorem Bd.one {to c : Int} (h1 : 1 ≤ to) (h : Bd to c) : Bd 1 c := ⟨by have := h.1; omega, h.2⟩
theorem cap_free {to : Int} {cap : Option Int} (h1 : 1 ≤ to) (h : capOk to cap) : 32 ∉ (capS cap).cps.toList := by
  cases cap with
  | none => decide +kernel
  | some c => exact num_free (Bd.one h1 h)
theorem words_free : ∀ {r : Rl}, ok r → ∀ x ∈ words r, 32 ∉ x.cps.toList
  | .pt, _, x, h => by simp only [words, List.mem_singleton] at h; subst h; decide +kernel
  | .un to lead cap i, ⟨h1, h2, h3, h4⟩, x, h => by
    simp only [words, List.mem_append, List.mem_cons, List.not_mem_nil, or_false] at h
    rcases h with ((rfl | rfl | rfl | rfl) | h) | rfl
    · decide +kernel
    · exact num_free h1
    · exact num_free h2
    · exact cap_free h1.1 h3
    · exact words_free h4 x h
    · decide +kernel
  | .ul to lead cap i l, ⟨h1, h2, h3, h4, h5⟩, x, h => by
    simp only [words, List.mem_append, List.mem_cons, List.not_mem_nil, or_false] at h
    rcases h with ((rfl | rfl | rfl | rfl) | h) | h
    · decide +kernel
    · exact num_free h1
    · exact num_free h2
    · exact num_free (Bd.one h1.1 h3)
    · exact words_free h4 x h
    · exact words_free h5 x h
def blank : Str := ⟨#[32]⟩
theorem blank_eq : Str.ofString " " = blank := by decide +kernel
def text (r : Rl) : Str := Str.join blank (words r)
theorem join_app (s : Str) : ∀ {a b : List Str}, a ≠ [] → b ≠ [] → Str.join s (a ++ b) = Str.join s a ++ s ++ Str.join s b
  | [], _, h, _ => absurd rfl h
  | [x], [], _, h => absurd rfl h
  | [x], y :: b, _, _ => rfl
  | x :: y :: a, b, _, hb => by
    have e := join_app s (a := y :: a) (b := b) (by simp) hb
    have e1 : Str.join s (x :: y :: a ++ b) = x ++ s ++ Str.join s (y :: a ++ b) := rfl
    have e2 : Str.join s (x :: y :: a) = x ++ s ++ Str.join s (y :: a) := rfl
    rw [e1, e, e2]
    apply str_ext
    simp only [cps_app, List.append_assoc]
theorem text_un (to lead : Int) (cap : Option Int) (i : Rl) : text (.un to lead cap i) = Str.join blank [wUnit, numS to, numS lead, capS cap, text i, wDash] := by
  show Str.join blank ([wUnit, numS to, numS lead, capS cap] ++ words i ++ [wDash]) = Str.join blank (([wUnit, numS to, numS lead, capS cap] ++ [text i]) ++ [wDash])
  rw [join_app _ (by simp) (by simp), join_app _ (by simp) (words_ne i), join_app _ (by simp) (by simp), join_app _ (by simp) (by simp)]
  rfl
theorem text_ul (to lead cap : Int) (i l : Rl) : text (.ul to lead cap i l) = Str.join blank [wUnit, numS to, numS lead, numS cap, text i, text l] := by
  show Str.join blank ([wUnit, numS to, numS lead, numS cap] ++ words i ++ words l) = Str.join blank (([wUnit, numS to, numS lead, numS cap] ++ [text i]) ++ [text l])
  rw [join_app _ (by simp) (words_ne l), join_app _ (by simp) (words_ne i), join_app _ (by simp) (by simp), join_app _ (by simp) (by simp)]
  rfl
theorem num_len {i : Int} (h : Bd 1 i) : (numS i).length ≤ 5 := by rcases (num_facts h).1 with e | e <;> omega
theorem cap_len {to : Int} {cap : Option Int} (h1 : 1 ≤ to) (h : capOk to cap) : (capS cap).length ≤ 5 := by
  cases cap with
  | none => decide +kernel
  | some c => exact num_len (Bd.one h1 h)
theorem words_short : ∀ {r : Rl}, ok r → ∀ x ∈ words r, x.length ≤ 5
  | .pt, _, x, h => by simp only [words, List.mem_singleton] at h; subst h; decide +kernel
  | .un to lead cap i, ⟨h1, h2, h3, h4⟩, x, h => by
    simp only [words, List.mem_append, List.mem_cons, List.not_mem_nil, or_false] at h
    rcases h with ((rfl | rfl | rfl | rfl) | h) | rfl
    · decide +kernel
    · exact num_len h1
    · exact num_len h2
    · exact cap_len h1.1 h3
    · exact words_short h4 x h
    · decide +kernel
  | .ul to lead cap i l, ⟨h1, h2, h3, h4, h5⟩, x, h => by
    simp only [words, List.mem_append, List.mem_cons, List.not_mem_nil, or_false] at h
    rcases h with ((rfl | rfl | rfl | rfl) | h) | h
    · decide +kernel
    · exact num_len h1
    · exact num_len h2
    · exact num_len (Bd.one h1.1 h3)
    · exact words_short h4 x h
    · exact words_short h5 x h
end M
namespace M
open PySem
theorem join_ok {ws : List Str} {n m : Nat} (h : ∀ x ∈ ws, x.length ≤ n) (hl : ws.length ≤ m) (hz : m * n + m ≤ 1000000) : JoinOk blank ws = true := by
  unfold JoinOk
  rw [Bool.not_eq_true']
  show decide (_ > sizeLine) = false
  rw [StrLaws.joinTotal]
  have h1 : ∀ l : List Str, (∀ x ∈ l, x.length ≤ n) → (l.map (·.length)).sum ≤ l.length * n := by
    intro l
    induction l with
    | nil => intro _; simp
    | cons x l ih =>
      intro hx
      have := ih fun y hy => hx y (List.mem_cons_of_mem _ hy)
      have := hx x (List.mem_cons_self ..)
      simp only [List.map_cons, List.sum_cons, List.length_cons, Nat.succ_mul]
      omega
  have h2 := h1 ws h
  have h3 : ws.length * n ≤ m * n := Nat.mul_le_mul_right n hl
  have h4 : blank.length = 1 := rfl
  rw [h4]
  apply decide_eq_false
  have : sizeLine = 16777216 := rfl
  omega
end M
namespace M
open PySem
def lastD : Option Rl → PyData
  | none => .none
  | some l => enc l
def lastW : Option Rl → List Str
  | none => [wDash]
  | some l => words l
def lastT : Option Rl → Str
  | none => wDash
  | some l => text l
def lastDp : Option Rl → Nat
  | none => 0
  | some l => depth l
def lastSz : Option Rl → Nat
  | none => 0
  | some l => size l
set_option genInjectivity false in
set_option genSizeOf false in
structure Vw (rl : Rl) (to lead : Int) (cap : Option Int) (i : Rl) (l : Option Rl) : Prop where
  enc : enc rl = unitD (.int to) (.int lead) (capD cap) (enc i) (lastD l)
  words : words rl = [wUnit, numS to, numS lead, capS cap] ++ words i ++ lastW l
  text : text rl = Str.join blank [wUnit, numS to, numS lead, capS cap, text i, lastT l]
  hto : Bd 1 to
  hlead : Bd 1 lead
  hcap : capOk to cap
  hi : ok i
  hl : ∀ r, l = some r → ok r
  cl : cap = none → l = none
  depth : depth rl = max (depth i) (lastDp l) + 1
  size : size rl = 1 + size i + lastSz l
theorem vw_of {rl : Rl} (h : ok rl) (hne : rl ≠ .pt) : ∃ to lead cap i l, Vw rl to lead cap i l := by
  cases rl with
  | pt => exact absurd rfl hne
  | un to lead cap i =>
    exact ⟨to, lead, cap, i, none, rfl, rfl, text_un .., h.1, h.2.1, h.2.2.1, h.2.2.2, fun r e => (by cases e), fun _ => rfl, by simp [M.depth, lastDp], by simp [M.size, lastSz]⟩
  | ul to lead cap i l =>
    exact ⟨to, lead, some cap, i, some l, rfl, rfl, text_ul .., h.1, h.2.1, h.2.2.1, h.2.2.2.1, fun r e => (by cases e; exact h.2.2.2.2), fun e => (by cases e), by simp [M.depth, lastDp], by simp [M.size, lastSz]⟩
theorem log_small {i : Int} (h : Bd 1 i) : i.natAbs.log2 < 1920 := by
  have := Nat.log2_le_self i.natAbs
  have := h.1
  have := h.2
  omega
end M
namespace M
set_option genInjectivity false in
set_option genSizeOf false in
inductive Sd where
  | nil
  | cn (z o : Int) (w : Sd)
deriving DecidableEq
def toR : Rl → Int
  | .pt => 1
  | .un t _ _ _ => t
  | .ul t _ _ _ _ => t
def leadR : Rl → Int
  | .pt => 1
  | .un _ t _ _ => t
  | .ul _ t _ _ _ => t
def capR : Rl → Option Int
  | .pt => none
  | .un _ _ c _ => c
  | .ul _ _ c _ _ => some c
def innR : Rl → Rl
  | .pt => .pt
  | .un _ _ _ i => i
  | .ul _ _ _ i _ => i
def lastR : Rl → Option Rl
  | .pt => none
  | .un _ _ _ _ => none
  | .ul _ _ _ _ l => some l
def atCap (c : Option Int) (z o : Int) : Bool := decide (c = some (z + 1)) && decide (c = some (o + 1))
def now (r : Rl) (z o : Int) : Rl := match lastR r with
  | none => innR r
  | some l => if atCap (capR r) z o then l else innR r
def won (r : Rl) (z o : Int) : Bool := decide (capR r = some (max z o)) || (decide (toR r ≤ max z o) && (decide (leadR r ≤ z - o) || decide (leadR r ≤ o - z)))
def begn : Rl → Sd
  | .pt => .nil
  | .un _ _ _ i => .cn 0 0 (begn i)
  | .ul _ _ c i l => .cn 0 0 (if atCap (some c) 0 0 then begn l else begn i)
def bumpZ (z : Int) (b : Bool) : Int := if b then z else z + 1
def bumpO (o : Int) (b : Bool) : Int := if b then o + 1 else o
def stepU (r : Rl) (z o : Int) (res : Sd × Bool) (b : Bool) : Sd × Bool :=
  if res.2 then (if won r (bumpZ z b) (bumpO o b) then (.cn (bumpZ z b) (bumpO o b) .nil, true) else (.cn (bumpZ z b) (bumpO o b) (begn (now r (bumpZ z b) (bumpO o b))), false)) else (.cn z o res.1, false)
def ral : Rl → Sd → Bool → Sd × Bool
  | .pt, _, _ => (.nil, true)
  | .un to lead cap i, .cn z o w, b => stepU (.un to lead cap i) z o (ral i w b) b
  | .ul to lead c i l, .cn z o w, b => stepU (.ul to lead c i l) z o (if atCap (some c) z o then ral l w b else ral i w b) b
  | _, .nil, _ => (.nil, false)
def stk : Rl → Sd → Bool → Nat
  | _, .nil, _ => 0
  | r, .cn z o w, b => stk (now r z o) w b + (if (ral r (.cn z o w) b).2 then 1 else 0)
set_option genInjectivity false in
set_option genSizeOf false in
structure Out where
  sd : Sd
  side : Option Bool
  at_ : Nat
  ends : List Nat
def walk (r : Rl) : Nat → Sd → List Bool → Out
  | p, s, [] => ⟨s, none, p, []⟩
  | p, s, b :: row =>
    if (ral r s b).2 then ⟨(ral r s b).1, some b, p + 1, List.replicate (stk r s b) (p + 1)⟩
    else ⟨(walk r (p + 1) (ral r s b).1 row).sd, (walk r (p + 1) (ral r s b).1 row).side, (walk r (p + 1) (ral r s b).1 row).at_, List.replicate (stk r s b) (p + 1) ++ (walk r (p + 1) (ral r s b).1 row).ends⟩
theorem walk_nil (r : Rl) (p : Nat) (s : Sd) : walk r p s [] = ⟨s, none, p, []⟩ := rfl
theorem walk_won {r : Rl} {p : Nat} {s : Sd} {b : Bool} {row : List Bool} (h : (ral r s b).2 = true) : walk r p s (b :: row) = ⟨(ral r s b).1, some b, p + 1, List.replicate (stk r s b) (p + 1)⟩ := by
  rw [walk, if_pos h]
theorem walk_on {r : Rl} {p : Nat} {s : Sd} {b : Bool} {row : List Bool} (h : (ral r s b).2 = false) : walk r p s (b :: row) = ⟨(walk r (p + 1) (ral r s b).1 row).sd, (walk r (p + 1) (ral r s b).1 row).side, (walk r (p + 1) (ral r s b).1 row).at_, List.replicate (stk r s b) (p + 1) ++ (walk r (p + 1) (ral r s b).1 row).ends⟩ := by
  rw [walk, if_neg (by rw [h]; simp)]
end M
namespace M
end M
namespace M
open PySem
def sgn (c : Nat) : Str := ⟨#[c]⟩
def asc (w : Str) : Prop := ∀ c ∈ w.cps.toList, c < 128
theorem len_toList (w : Str) : w.length = w.cps.toList.length := by simp [Str.length]
end M
namespace M
open PySem
mutual
def wtD : PyData → Nat
  | .none => 4
  | .bool _ => 5
  | .int _ => 81
  | .str x => 10 * x.length + 2
  | .list xs => wtL xs + 3
  | .tuple xs => wtL xs + 3
  | .dict _ => 0
def wtL : List PyData → Nat
  | [] => 0
  | x :: xs => wtD x + 2 + wtL xs
end
mutual
def okD : PyData → Bool
  | .none => true
  | .bool _ => true
  | .int i => decide (i.natAbs < 10 ^ 80)
  | .str x => x.cps.toList.all fun c => decide (c < 16 ^ 8)
  | .list xs => okL xs
  | .tuple xs => okL xs
  | .dict _ => false
def okL : List PyData → Bool
  | [] => true
  | x :: xs => okD x && okL xs
end
end M
namespace M
open PySem
def low (c : Nat) : Bool := decide (97 ≤ c) && decide (c ≤ 122)
def dig (c : Nat) : Bool := decide (48 ≤ c) && decide (c ≤ 57)
def ld (c : Nat) : Bool := low c || dig c
theorem all128 {f g : Nat → Bool} (h : (List.range 128).all (fun c => f c == g c) = true) : ∀ c, c < 128 → f c = g c := fun c hc => by
  have := List.all_eq_true.mp h c (List.mem_range.mpr hc)
  simpa using this
def leS (a b : Str) : Bool := !decide (b.cps.toList < a.cps.toList)
theorem le_dig : ∀ c, c < 128 → (leS "0" (sgn c) && leS (sgn c) "9") = dig c := all128 (by decide +kernel)
mutual
def smD : PyData → Bool
  | .none => true
  | .bool _ => true
  | .int i => decide (i.natAbs < 10 ^ 80)
  | .str x => (x.cps.toList.all fun c => decide (c < 128)) && decide (x.length ≤ 1000)
  | .list xs => decide (xs.length ≤ 1000) && smL xs
  | .tuple xs => decide (xs.length ≤ 1000) && smL xs
  | .dict _ => false
def smL : List PyData → Bool
  | [] => true
  | x :: xs => smD x && smL xs
end
end M
namespace M
open PySem
theorem num_int {i : Int} (h : 0 ≤ i) (h1 : i < 10 ^ 10) : PySem.intText? (numS i) = some i := PySem.W.KIN.num_reads h h1
theorem num_log {i : Int} (h : 0 ≤ i) (h1 : i < 10 ^ 10) : i.natAbs.log2 < 1920 := by
  by_cases z : i.natAbs = 0
  · rw [z]; decide
  · exact (Nat.log2_lt z).mpr (Nat.lt_of_lt_of_le (show i.natAbs < 2 ^ 40 by omega) (Nat.pow_le_pow_right (by decide) (by decide)))
end M
namespace M
open PySem
def wN : List Nat → Nat
  | [a] => if 49 ≤ a ∧ a ≤ 57 then a - 48 else 0
  | [a, b] => if (49 ≤ a ∧ a ≤ 57) ∧ 48 ≤ b ∧ b ≤ 57 then 10 * (a - 48) + (b - 48) else 0
  | _ => 0
def wNS (w : Str) : Nat := wN w.cps.toList
def Wok (w : Str) : Prop := w.length ≤ 20 ∧ 32 ∉ w.cps.toList ∧ ∀ c ∈ w.cps.toList, c < 128
theorem wN1 (a : Nat) : wN [a] = if 49 ≤ a ∧ a ≤ 57 then a - 48 else 0 := rfl
theorem wN2 (a b : Nat) : wN [a, b] = if (49 ≤ a ∧ a ≤ 57) ∧ 48 ≤ b ∧ b ≤ 57 then 10 * (a - 48) + (b - 48) else 0 := rfl
theorem wN_le : ∀ l : List Nat, wN l ≤ 99
  | [] => Nat.zero_le _
  | [a] => by rw [wN1]; split <;> omega
  | [a, b] => by rw [wN2]; split <;> omega
  | _ :: _ :: _ :: _ => Nat.zero_le _
theorem ten1 : ∀ i : Nat, i < 9 → numS ((i + 1 : Nat) : Int) = ⟨#[i + 49]⟩ := by decide +kernel
theorem ten2 : ∀ i : Nat, i < 9 → ∀ j : Nat, j < 10 → numS ((10 * (i + 1) + j : Nat) : Int) = ⟨#[i + 49, j + 48]⟩ := by decide +kernel
theorem str_of_list {w : Str} {l : List Nat} (h : w.cps.toList = l) : w = ⟨l.toArray⟩ := by
  obtain ⟨a⟩ := w
  simp only at h
  rw [← h, Array.toArray_toList]
theorem wN_num {w : Str} (h : wNS w ≠ 0) : w = numS (wNS w) := by
  unfold wNS at h ⊢
  match e : w.cps.toList with
  | [] => rw [e] at h; exact absurd rfl h
  | [a] =>
    rw [e, wN1] at h
    rw [wN1]
    by_cases c : 49 ≤ a ∧ a ≤ 57
    · rw [if_pos c, str_of_list e]
      have := ten1 (a - 49) (by omega)
      rw [show a - 49 + 1 = a - 48 by omega, show a - 49 + 49 = a by omega] at this
      rw [this]
    · rw [if_neg c] at h; exact absurd rfl h
  | [a, b] =>
    rw [e, wN2] at h
    rw [wN2]
    by_cases c : (49 ≤ a ∧ a ≤ 57) ∧ 48 ≤ b ∧ b ≤ 57
    · rw [if_pos c, str_of_list e]
      have := ten2 (a - 49) (by omega) (b - 48) (by omega)
      rw [show 10 * (a - 49 + 1) + (b - 48) = 10 * (a - 48) + (b - 48) by omega, show a - 49 + 49 = a by omega, show b - 48 + 48 = b by omega] at this
      rw [this]
    · rw [if_neg c] at h; exact absurd rfl h
  | a :: b :: c :: r => rw [e] at h; exact absurd rfl h
set_option genInjectivity false in
set_option genSizeOf false in
inductive Rr where
  | bad (at_ : Nat)
  | ok (r : Rl) (spot many : Nat)
def numQ (ws : List Str) (j : Nat) : Nat ⊕ Nat := match ws[j]? with
  | none => .inl ws.length
  | some w => if wNS w = 0 then .inl j else .inr (wNS w)
def capQ (ws : List Str) (j to : Nat) : Nat ⊕ Option Int := match ws[j]? with
  | none => .inl ws.length
  | some w => if w = wDash then .inr none else if wNS w < to then .inl j else .inr (some (wNS w))
def mkU (to lead : Int) (cap : Option Int) (i : Rl) : Option Rl → Rl
  | none => .un to lead cap i
  | some l => match cap with
    | none => .un to lead none i
    | some c => .ul to lead c i l
def tailQ (ws : List Str) (cap : Option Int) (rd : Nat → Nat → Rr) (sp m : Nat) : Nat ⊕ (Option Rl × Nat × Nat) := match ws[sp]? with
  | none => .inl ws.length
  | some w => if w = wDash then .inr (none, sp + 1, m) else match cap with
    | none => .inl sp
    | some _ => match rd sp m with
      | .bad b => .inl b
      | .ok l sp' m' => .inr (some l, sp', m')
def lastQ (ws : List Str) (to lead : Int) (cap : Option Int) (rd : Nat → Nat → Rr) : Rr → Rr
  | .bad b => .bad b
  | .ok i sp m => match tailQ ws cap rd sp m with
    | .inl b => .bad b
    | .inr (l, sp', m') => .ok (mkU to lead cap i l) sp' m'
def unitQ (ws : List Str) (rd : Nat → Nat → Rr) (j many : Nat) : Rr := match numQ ws j with
  | .inl b => .bad b
  | .inr to => match numQ ws (j + 1) with
    | .inl b => .bad b
    | .inr lead => match capQ ws (j + 2) to with
      | .inl b => .bad b
      | .inr cap => lastQ ws to lead cap rd (rd (j + 3) many)
def rdP (ws : List Str) : Nat → Nat → Nat → Rr
  | room, j, many => match ws[j]? with
    | none => .bad ws.length
    | some w => if w = wPoint then .ok .pt (j + 1) many else if w ≠ wUnit ∨ room = 0 ∨ many = 10 then .bad j else match room with
      | 0 => .bad j
      | r + 1 => unitQ ws (rdP ws r) (j + 1) (many + 1)
def rdA (ws : List Str) : Nat ⊕ Rl := match rdP ws 4 0 0 with
  | .bad b => .inl b
  | .ok r sp _ => if sp < ws.length then .inl sp else .inr r
theorem rdP_eq (ws : List Str) (room j many : Nat) : rdP ws room j many = match ws[j]? with
    | none => .bad ws.length
    | some w => if w = wPoint then .ok .pt (j + 1) many else if w ≠ wUnit ∨ room = 0 ∨ many = 10 then .bad j else match room with
      | 0 => .bad j
      | r + 1 => unitQ ws (rdP ws r) (j + 1) (many + 1) := by rw [M.rdP.eq_def]
theorem tail_le {ws : List Str} {cap : Option Int} {rd : Nat → Nat → Rr} {sp m : Nat} {l : Option Rl} {s' m' : Nat} (ih : ∀ j k r s m, rd j k = .ok r s m → s ≤ ws.length) (h : tailQ ws cap rd sp m = .inr (l, s', m')) : s' ≤ ws.length ∧ (cap = none → l = none) := by
  unfold tailQ at h
  split at h
  · cases h
  · rename_i w hw
    have := (List.getElem?_eq_some_iff.mp hw).1
    split at h
    · cases h; exact ⟨by omega, fun _ => rfl⟩
    · split at h
      · cases h
      · split at h
        · cases h
        · rename_i e; cases h; exact ⟨ih _ _ _ _ _ e, fun z => nomatch z⟩
theorem last_le {ws : List Str} {to lead : Int} {cap : Option Int} {rd : Nat → Nat → Rr} {x : Rr} {r : Rl} {s m : Nat} (ih : ∀ j k r s m, rd j k = .ok r s m → s ≤ ws.length) (h : lastQ ws to lead cap rd x = .ok r s m) : s ≤ ws.length := by
  cases x with
  | bad b => cases h
  | ok i sp k =>
    simp only [lastQ] at h
    split at h
    · cases h
    · rename_i e; cases h; exact (tail_le ih e).1
theorem unit_le {ws : List Str} {rd : Nat → Nat → Rr} {j k : Nat} {r : Rl} {s m : Nat} (ih : ∀ j k r s m, rd j k = .ok r s m → s ≤ ws.length) (h : unitQ ws rd j k = .ok r s m) : s ≤ ws.length := by
  unfold unitQ at h
  split at h
  · cases h
  · split at h
    · cases h
    · split at h
      · cases h
      · exact last_le ih h
theorem rdP_le {ws : List Str} (room : Nat) : ∀ (j k : Nat) (r : Rl) (s m : Nat), rdP ws room j k = .ok r s m → s ≤ ws.length := by
  induction room with
  | zero =>
    intro j k r s m h
    rw [rdP_eq] at h
    split at h
    · cases h
    · rename_i w hw
      have := (List.getElem?_eq_some_iff.mp hw).1
      split at h
      · cases h; omega
      · split at h <;> cases h
  | succ q ih =>
    intro j k r s m h
    rw [rdP_eq] at h
    split at h
    · cases h
    · rename_i w hw
      have := (List.getElem?_eq_some_iff.mp hw).1
      split at h
      · cases h; omega
      · split at h
        · cases h
        · exact unit_le ih h
theorem mkU_dp (to lead : Int) (cap : Option Int) (i : Rl) (l : Option Rl) (n : Nat) (hi : depth i ≤ n) (hl : ∀ x, l = some x → depth x ≤ n) : depth (mkU to lead cap i l) ≤ n + 1 := by
  cases l with
  | none => simp only [mkU, depth]; omega
  | some l =>
    have := hl l rfl
    cases cap with
    | none => simp only [mkU, depth]; omega
    | some c => simp only [mkU, depth]; omega
theorem tail_dp {ws : List Str} {cap : Option Int} {rd : Nat → Nat → Rr} {sp m n : Nat} {l : Option Rl} {s' m' : Nat} (ih : ∀ j k r s m, rd j k = .ok r s m → depth r ≤ n) (h : tailQ ws cap rd sp m = .inr (l, s', m')) : ∀ x, l = some x → depth x ≤ n := by
  unfold tailQ at h
  split at h
  · cases h
  · split at h
    · cases h; exact fun x z => nomatch z
    · split at h
      · cases h
      · split at h
        · cases h
        · rename_i e; cases h; intro x z; cases z; exact ih _ _ _ _ _ e
theorem last_dp {ws : List Str} {to lead : Int} {cap : Option Int} {rd : Nat → Nat → Rr} {x : Rr} {r : Rl} {s m n : Nat} (ih : ∀ j k r s m, rd j k = .ok r s m → depth r ≤ n) (hx : ∀ r s m, x = .ok r s m → depth r ≤ n) (h : lastQ ws to lead cap rd x = .ok r s m) : depth r ≤ n + 1 := by
  cases x with
  | bad b => cases h
  | ok i sp k =>
    simp only [lastQ] at h
    split at h
    · cases h
    · rename_i e; cases h; exact mkU_dp _ _ _ _ _ _ (hx _ _ _ rfl) (tail_dp ih e)
theorem unit_dp {ws : List Str} {rd : Nat → Nat → Rr} {j k : Nat} {r : Rl} {s m n : Nat} (ih : ∀ j k r s m, rd j k = .ok r s m → depth r ≤ n) (h : unitQ ws rd j k = .ok r s m) : depth r ≤ n + 1 := by
  unfold unitQ at h
  split at h
  · cases h
  · split at h
    · cases h
    · split at h
      · cases h
      · exact last_dp ih (fun r s m e => ih _ _ _ _ _ e) h
theorem rdP_dp {ws : List Str} (room : Nat) : ∀ (j k : Nat) (r : Rl) (s m : Nat), rdP ws room j k = .ok r s m → depth r ≤ room := by
  induction room with
  | zero =>
    intro j k r s m h
    rw [rdP_eq] at h
    split at h
    · cases h
    · split at h
      · cases h; exact Nat.zero_le _
      · split at h <;> cases h
  | succ q ih =>
    intro j k r s m h
    rw [rdP_eq] at h
    split at h
    · cases h
    · split at h
      · cases h; exact Nat.zero_le _
      · split at h
        · cases h
        · exact unit_dp ih h
def dueD : Nat ⊕ Rl → PyData
  | .inl b => .tuple [.str "bad", .int b]
  | .inr r => .tuple [.str "rule", enc r]
theorem eqv_rl : ∀ r : Rl, PyData.eqv (enc r) (enc r) = true
  | .pt => by simp [enc, PyData.eqv, PyData.eqvAll]
  | .un to lead cap i => by cases cap <;> simp [enc, unitD, capD, PyData.eqv, PyData.eqvAll, eqv_rl i]
  | .ul to lead cap i l => by simp [enc, unitD, PyData.eqv, PyData.eqvAll, eqv_rl i, eqv_rl l]
theorem eqv_due (x : Nat ⊕ Rl) : PyData.eqv (dueD x) (dueD x) = true := by
  cases x with
  | inl b => simp [dueD, PyData.eqv, PyData.eqvAll]
  | inr r => simp [dueD, PyData.eqv, PyData.eqvAll, eqv_rl r]
theorem enc_mkU {to lead : Int} {cap : Option Int} {i : Rl} {l : Option Rl} (h : cap = none → l = none) : enc (mkU to lead cap i l) = unitD (.int to) (.int lead) (capD cap) (enc i) (match l with | none => .none | some l => enc l) := by
  cases l with
  | none => rfl
  | some l =>
    cases cap with
    | none => cases h rfl
    | some c => rfl
end M
namespace L2
open PySem PySem.W
theorem walkX {q : Program} {loose : List Str} {XP : (Str → Option Value) → Heap → Prop} {ks : List Addr} {K : Params → Frag} {n t : Nat} {r : RowW} {d : DefRec} {kwd : List (Str × Expr)} {run : Value → List Value → Sem Value}
    (e : ∀ P, ks = (K P).map (·.1)) (wo : WalkO q loose XP (fun w h => (K w.params).In h) r d kwd run) : WalkX q loose XP (X.obsZ ks) (X.valZ K n t) r d kwd run :=
  fun w s₀ s₁ mg mb G y a o pm cd doc dV kV ho hd hcd hD hmg hg args vals as L hpre hlay hrd hwl hlo => wo w s₀ s₁ mg mb G (InK.keeps w s₀.heap s₁.heap (X.z_facts e y).2.1 L.keeps) a o pm cd doc dV kV ho hd hcd hD hmg hg args vals as hpre hlay hrd hwl hlo
end L2
namespace L2
end L2
namespace L2
open PySem PySem.Spec PyProof.Rows M
def Tk (K : PySem.W.Frag) (H H' : Hp) : Prop := ∀ a xs, SqT K H a xs → SqT K H' a xs
theorem Tk.refl {K : PySem.W.Frag} (H : Hp) : Tk K H H := fun _ _ h => h
theorem Tk.trans {K : PySem.W.Frag} {H H1 H2 : Hp} (a : Tk K H H1) (b : Tk K H1 H2) : Tk K H H2 := fun c xs h => b c xs (a c xs h)
theorem Ext.tk {K : PySem.W.Frag} {t : Addr} {H H' : Hp} (e : Ext t H H') : Tk K H H' := fun _ _ h => e.sqT h
theorem Same.tk {K : PySem.W.Frag} {H H' : Hp} (e : Same H H') : Tk K H H' := (Same.ext (t := 0) e).tk
theorem Tk.upd {K : PySem.W.Frag} {H : Hp} {a : Addr} {o : HO} (h : ∀ xs, ¬ Rd H a (.tup xs)) : Tk K H (upd H a o) := fun b xs q => by
  by_cases e : b = a
  · subst e
    rcases q with q | q
    · exact absurd q (h xs)
    · exact .inr q
  · rcases q with (q | ⟨u, q⟩) | q
    · exact .inl (.inl (by rw [upd_ne e]; exact q))
    · exact .inl (.inr ⟨u, by rw [upd_ne e]; exact q⟩)
    · exact .inr q
theorem Tk.updL {K : PySem.W.Frag} {H : Hp} {a : Addr} {ys : List V} {o : HO} (h : H a = some (.lst ys)) : Tk K H (L2.upd H a o) := Tk.upd fun xs q => by
  rcases q with q | ⟨u, q⟩
  · rw [h] at q; cases q
  · rw [h] at q; cases q
mutual
def noL : PyData → Bool
  | .list _ => false
  | .dict _ => false
  | .tuple ds => noLs ds
  | _ => true
def noLs : List PyData → Bool
  | [] => true
  | d :: ds => noL d && noLs ds
end
mutual
theorem Dt.tk {K : PySem.W.Frag} {t t' : Addr} {H H' : Hp} (e : Tk K H H') : ∀ (d : PyData) (v : V), noL d = true → Dt K t H d v → Dt K t' H' d v
  | .none, _, _, h => by simp only [Dt] at h ⊢; exact h
  | .bool _, _, _, h => by simp only [Dt] at h ⊢; exact h
  | .int _, _, _, h => by simp only [Dt] at h ⊢; exact h
  | .str _, _, _, h => by simp only [Dt] at h ⊢; exact h
  | .tuple ds, v, n, h => by
    simp only [noL] at n
    simp only [Dt] at h ⊢
    obtain ⟨a, xs, h1, h2, h3⟩ := h
    exact ⟨a, xs, h1, e _ _ h2, DtL.tk e ds xs n h3⟩
  | .list ds, v, n, h => by simp [noL] at n
  | .dict _, _, n, h => by simp [noL] at n
theorem DtL.tk {K : PySem.W.Frag} {t t' : Addr} {H H' : Hp} (e : Tk K H H') : ∀ (ds : List PyData) (vs : List V), noLs ds = true → DtL K t H ds vs → DtL K t' H' ds vs
  | [], _, _, h => by simp only [DtL] at h ⊢; exact h
  | d :: ds, vs, n, h => by
    simp only [noLs, Bool.and_eq_true] at n
    simp only [DtL] at h ⊢
    obtain ⟨v, r, h1, h2, h3⟩ := h
    exact ⟨v, r, h1, Dt.tk e d v n.1 h2, DtL.tk e ds r n.2 h3⟩
end
theorem noL_cap (c : Option Int) : noL (capD c) = true := by cases c <;> rfl
theorem noL_enc : ∀ r : Rl, noL (enc r) = true
  | .pt => rfl
  | .un to lead cap i => by simp only [enc, noL, noLs, noL_enc i, noL_cap]; rfl
  | .ul to lead cap i l => by simp only [enc, noL, noLs, noL_enc i, noL_enc l]; rfl
theorem noLs_enc : ∀ rs : List Rl, noLs (rs.map enc) = true
  | [] => rfl
  | r :: rs => by simp only [List.map_cons, noLs, noL_enc r, noLs_enc rs]; rfl
def RlV (K : PySem.W.Frag) (H : Hp) (r : Rl) (v : V) : Prop := Dt K 0 H (enc r) v
def RlL (K : PySem.W.Frag) (H : Hp) (rs : List Rl) (vs : List V) : Prop := DtL K 0 H (rs.map enc) vs
section
variable {K : PySem.W.Frag} {H H' : Hp} {r : Rl} {rs qs : List Rl} {v : V} {vs us : List V} {t : Addr}
theorem RlV.of (h : Dt K t H (enc r) v) : RlV K H r v := Dt.tk (.refl H) _ _ (noL_enc r) h
theorem RlV.tk (h : RlV K H r v) (e : Tk K H H') : RlV K H' r v := Dt.tk e _ _ (noL_enc r) h
theorem RlV.same (h : RlV K H r v) (e : Same H H') : RlV K H' r v := h.tk e.tk
theorem RlL.nil : RlL K H [] [] := by simp [RlL, DtL]
theorem RlL.len (h : RlL K H rs vs) : rs.length = vs.length := by
  have := DtL.len h
  rwa [List.length_map] at this
theorem RlL.get {i : Nat} (h : RlL K H rs vs) (e : vs[i]? = some v) : ∃ r, rs[i]? = some r ∧ RlV K H r v := by
  have hi : i < rs.length := by rw [h.len]; exact (List.getElem?_eq_some_iff.mp e).1
  have e1 : rs[i]? = some rs[i] := List.getElem?_eq_getElem hi
  obtain ⟨u, e2, d⟩ := DtL.get (i := i) h (by rw [List.getElem?_map, e1]; rfl)
  rw [e] at e2
  cases e2
  exact ⟨_, e1, d⟩
theorem RlL.mem (h : RlL K H rs vs) (e : v ∈ vs) : ∃ r, r ∈ rs ∧ RlV K H r v := by
  obtain ⟨i, hi⟩ := List.mem_iff_getElem?.mp e
  obtain ⟨r, e1, d⟩ := h.get hi
  exact ⟨r, List.mem_of_getElem? e1, d⟩
end
def plainComp (N : List Str) (x : Str) (scope : Scope) : Bool :=
  decide (scope.kind = .function) && scope.names.all (fun p => decide (p.2 = .local) || decide (p.2 = .globalImplicit))
    && scope.names.all (fun p => !decide (p.2 = .local) || decide (scope.names.lookup p.1 = some .local))
    && decide (scope.names.lookup x = some .local) && decide ((x :: N).Nodup)
    && N.all (fun y => decide (scope.names.lookup y = none) || decide (scope.names.lookup y = some .globalImplicit))
theorem relabel_plain {scope : Scope} {env : Env} (h : ∀ p ∈ scope.names, p.2 ≠ .free) : (relabel scope env).names = scope.names := by
  unfold relabel
  show scope.names.map _ = _
  have : ∀ l : List (Str × NameKind), (∀ p ∈ l, p.2 ≠ .free) → l.map (fun (n, k) => if (k == .free && env.scope.kind == .function && env.kindOf n == some .cell) then (n, NameKind.cell) else (n, k)) = l := by
    intro l
    induction l with
    | nil => intro _; rfl
    | cons p l ih =>
      intro hl
      obtain ⟨n, k⟩ := p
      have hk : k ≠ .free := hl _ (List.mem_cons_self ..)
      rw [List.map_cons, ih fun p hp => hl p (List.mem_cons_of_mem _ hp)]
      have : (k == NameKind.free) = false := by simpa using hk
      simp [this]
  exact this _ h
theorem compPlain {X : Cx} {N : List Str} {x : Str} {scope : Scope} (hN : X.N = N) (h : plainComp N x scope = true) (hc : closureFor scope X.env = pure []) : CompScope X (x :: N) x scope [] := by
  simp only [plainComp, Bool.and_eq_true, decide_eq_true_eq, List.all_eq_true, Bool.or_eq_true, Bool.not_eq_true', decide_eq_false_iff_not] at h
  obtain ⟨⟨⟨⟨⟨h1, h2⟩, h3⟩, h4⟩, h5⟩, h6⟩ := h
  have nf : ∀ p ∈ scope.names, p.2 ≠ .free := fun p hp z => by rcases h2 p hp with e | e <;> rw [z] at e <;> cases e
  have rl := relabel_plain (env := X.env) nf
  have lk : ∀ (l : List (Str × NameKind)), (∀ p ∈ l, p.2 = .local ∨ p.2 = .globalImplicit) → ∀ y k, l.lookup y = some k → k = .local ∨ k = .globalImplicit := by
    intro l
    induction l with
    | nil => intro _ y k e; cases e
    | cons p l ih =>
      intro hl y k e
      obtain ⟨n, kk⟩ := p
      rw [List.lookup_cons] at e
      split at e
      · cases e; exact hl _ (List.mem_cons_self ..)
      · exact ih (fun p hp => hl p (List.mem_cons_of_mem _ hp)) y k e
  refine ⟨hc, fun y hy z => ?_, h1, fun y hy e => ?_, h4, h5, rfl, by rw [hN]; rfl, fun j y e v => ?_, fun y c e => (by cases e), fun y e => ?_, rfl⟩
  · rcases h2 y hy with e | e <;> rw [z] at e <;> cases e
  · rcases h3 y hy with q | q
    · exact absurd e q
    · exact q
  · exfalso
    have hy : y ∈ N := List.mem_of_getElem? (by simpa using e)
    have q := h6 y hy
    unfold Vis at v
    rw [rl] at v
    rcases q with q | q <;> rw [q] at v <;> rcases v with v | v | v <;> cases v
  · exfalso
    rw [rl] at e
    rcases e with e | e <;> rcases lk _ h2 y _ e with z | z <;> cases z
end L2
namespace L2
open PySem PySem.Spec PyProof.Rows M
section
variable (K : PySem.W.Frag) (ns : List Int)
def spTape : Sp := fun vs H Q _ => ∃ a, vs = [.ref a] ∧ SqL K H a (ns.map V.int) ∧ ∀ t H', Tape K ns t H' → Q (.ref t) H'
def spDraw : Sp := fun vs H Q _ => ∃ t m, vs = [.ref t, .int m] ∧ 0 < m ∧ m < 1073741824 ∧ Tape K ns t H ∧ ∀ (r : Int) (H' : Hp), 0 ≤ r → r < m → Cur K ns t H H' → Q (.int r) H'
def spRule (n : Nat) : Sp := fun vs H Q _ => ∃ t dp th, vs = [.ref t, .int dp, .int th] ∧ 0 ≤ dp ∧ dp < n ∧ 0 ≤ th ∧ Tape K ns t H ∧ ∀ rl r H', ok rl → depth rl ≤ dp.toNat → size rl ≤ U dp.toNat th.toNat → Cur K ns t H H' → Dt K t H' (enc rl) r → Q r H'
def spUnit (n : Nat) : Sp := fun vs H Q _ => ∃ t dp th, vs = [.ref t, .int dp, .int th] ∧ 0 < dp ∧ dp < n ∧ 0 ≤ th ∧ Tape K ns t H ∧ ∀ rl r H', ok rl → depth rl ≤ dp.toNat → size rl ≤ U dp.toNat th.toNat → Cur K ns t H H' → Dt K t H' (enc rl) r → Q r H'
def spLaw : Sp := fun vs H Q _ => ∃ (a : Addr) (ns : List Int), vs = [.ref a] ∧ SqL K H a (ns.map V.int) ∧ ns.length ≤ 63 ∧ ∀ H', Q (.bl true) H'
end
section
variable {K : PySem.W.Frag} {ns : List Int} {t : Addr} {H : Hp} {Q : VK} {E : XK}
theorem draw_of {m : Int} (T : Tape K ns t H) (h : ∀ (r : Int) (H' : Hp), 0 ≤ r → r < m → Cur K ns t H H' → Q (.int r) H') (h0 : 0 < m := by decide) (h1 : m < 1073741824 := by decide) : spDraw K ns [.ref t, .int m] H Q E := ⟨t, m, rfl, h0, h1, T, h⟩
end
theorem at0 {ns : List Int} (h : 0 < (ns.map V.int).length) : ∃ n : Int, atI (ns.map V.int) 0 = some (.int n) := by
  cases ns with
  | nil => simp at h
  | cons n r => exact ⟨n, atI_nat (j := 0) rfl⟩
theorem atMod {ns : List Int} (i : Int) (h : 0 < (ns.map V.int).length) : ∃ n : Int, atI (ns.map V.int) (i % ((ns.map V.int).length : Nat)) = some (.int n) := by
  have h1 := Int.emod_nonneg i (show (((ns.map V.int).length : Nat) : Int) ≠ 0 by omega)
  have h2 := Int.emod_lt_of_pos i (show (0 : Int) < ((ns.map V.int).length : Nat) by omega)
  generalize i % (((ns.map V.int).length : Nat) : Int) = j at h1 h2
  rw [List.length_map] at h2
  have hj : j.toNat < ns.length := by omega
  have e : (ns.map V.int)[j.toNat]? = some (.int ns[j.toNat]) := by rw [List.getElem?_map, List.getElem?_eq_getElem hj]; rfl
  have z := atI_nat e
  rw [show ((j.toNat : Nat) : Int) = j by omega] at z
  exact ⟨_, z⟩
theorem small6 {xs : List V} (h : xs.length ≤ 1000) : xs.length ≤ sizeLine := Nat.le_of_lt (small1000 h)
theorem smallA {xs ys : List V} (h : xs.length + ys.length ≤ 1000) : xs.length + ys.length ≤ sizeLine := Nat.le_of_lt (small1000 h)
theorem cmul_l {i j : Int} (h1 : -1000000 ≤ i) (h2 : i ≤ 10000000) : CMul i j := .inl ⟨by omega, by omega⟩
theorem list6 {α : Type} {l : List α} (h : l.length = 6) : ∃ a b c d e f, l = [a, b, c, d, e, f] := match l, h with
  | [a, b, c, d, e, f], _ => ⟨a, b, c, d, e, f, rfl⟩
theorem dtl_hd {K : PySem.W.Frag} {t : Addr} {H : Hp} {d : PyData} {ds : List PyData} {v : V} {vs : List V} (h : DtL K t H (d :: ds) (v :: vs)) : Dt K t H d v ∧ DtL K t H ds vs := by
  simp only [DtL] at h
  obtain ⟨_, _, e, h1, h2⟩ := h
  cases e
  exact ⟨h1, h2⟩
theorem six_of {K : PySem.W.Frag} {t : Addr} {H : Hp} {ds : List PyData} {xs : List V} (q : DtL K t H ds xs) (h : xs.length = 6) : ∃ d0 d1 d2 d3 d4 d5 v0 v1 v2 v3 v4 v5, ds = [d0, d1, d2, d3, d4, d5] ∧ xs = [v0, v1, v2, v3, v4, v5] ∧ Dt K t H d0 v0 ∧ Dt K t H d1 v1 ∧ Dt K t H d2 v2 ∧ Dt K t H d3 v3 ∧ Dt K t H d4 v4 ∧ Dt K t H d5 v5 := by
  obtain ⟨v0, v1, v2, v3, v4, v5, rfl⟩ := list6 h
  obtain ⟨d0, d1, d2, d3, d4, d5, rfl⟩ := list6 (q.len.trans h)
  have a0 := dtl_hd q
  have a1 := dtl_hd a0.2
  have a2 := dtl_hd a1.2
  have a3 := dtl_hd a2.2
  have a4 := dtl_hd a3.2
  have a5 := dtl_hd a4.2
  exact ⟨_, _, _, _, _, _, _, _, _, _, _, _, rfl, rfl, a0.1, a1.1, a2.1, a3.1, a4.1, a5.1⟩
theorem dt_non {K : PySem.W.Frag} {t : Addr} {H : Hp} {d : PyData} {v : V} (h : Dt K t H d v) : decide (v = .non) = isN d := by
  cases d with
  | none => simp only [Dt] at h; subst h; rfl
  | bool b => simp only [Dt] at h; subst h; rfl
  | int b => simp only [Dt] at h; subst h; rfl
  | str b => simp only [Dt] at h; obtain ⟨h, _⟩ := h; subst h; rfl
  | tuple b => simp only [Dt] at h; obtain ⟨_, _, h, _⟩ := h; subst h; rfl
  | list b => simp only [Dt] at h; obtain ⟨_, _, h, _⟩ := h; subst h; rfl
  | dict b => simp [Dt] at h
theorem dep_pt : pointD.depth = 1 := by decide +kernel
theorem pt_dt {K : PySem.W.Frag} {t p : Addr} {H : Hp} (h : SqT K H p [.str "point"]) : Dt K t H pointD (.ref p) := .tup h (.cons (dstr "point") .nil)
theorem eqv_enc_pt (rl : Rl) : PyData.eqv (enc rl) pointD = true ↔ rl = .pt := by
  cases rl with
  | pt => exact ⟨fun _ => rfl, fun _ => rfl⟩
  | un _ _ _ _ => exact ⟨fun h => (by rw [enc, eqv_unit] at h; cases h), fun h => (by cases h)⟩
  | ul _ _ _ _ _ => exact ⟨fun h => (by rw [enc, eqv_unit] at h; cases h), fun h => (by cases h)⟩
theorem same_new {H : Hp} {p : Addr} (h : H p = none) (o : HO) : Same H (upd H p o) := fun b u q => by rw [upd_ne (ne_of_none q h)]; exact q
theorem Same.dt {K : PySem.W.Frag} {t : Addr} {H H' : Hp} {d : PyData} {v : V} (h : Dt K t H d v) (e : Same H H') : Dt K t H' d v := h.on e.ext
theorem Same.sqT {K : PySem.W.Frag} {H H' : Hp} {a : Addr} {xs : List V} (h : SqT K H a xs) (e : Same H H') : SqT K H' a xs := (Same.ext (t := 0) e).sqT h
theorem atMem {xs : List V} {i : Int} (h0 : 0 ≤ i) (h1 : i < xs.length) : ∃ v, atI xs i = some v ∧ v ∈ xs := by
  have hi : i.toNat < xs.length := by omega
  have z := atI_nat (List.getElem?_eq_getElem hi)
  rw [show ((i.toNat : Nat) : Int) = i by omega] at z
  exact ⟨_, z, List.getElem_mem hi⟩
def optI : Option Int → V
  | none => .non
  | some c => .int c
theorem dt_cap {K : PySem.W.Frag} {t : Addr} {H : Hp} (cap : Option Int) : Dt K t H (capD cap) (optI cap) := by
  cases cap with
  | none => exact .non
  | some c => exact .int c
section
variable {X : Cx} {K : PySem.W.Frag} {k : Nat}
end
end L2
namespace L2
open PySem PySem.Spec PyProof.Rows
def rLeS : R2 := fun x y H Q => ∃ a b, x = .str a ∧ y = .str b ∧ Q (.bl (!decide (b.cps.toList < a.cps.toList))) H
theorem op_leS {X : Cx} : OpR X (compareOp .LtE) rLeS := by
  intro pins s σ H x y v u Q I rx ry h
  obtain ⟨a, b, rfl, rfl, q⟩ := h
  obtain ⟨t, rfl⟩ := rx
  obtain ⟨t', rfl⟩ := ry
  exact PySem.P.le_str ⟨.bl _, H, I, rfl, q⟩
def strVs (us : List Value) : List (Str × Tok) := us.map fun u => match u with | .str x t => (x, t) | _ => (Str.empty, 0)
theorem vals_strs : ∀ {xs : List Str} {us : List Value}, Vals (xs.map V.str) us → strValues (strVs us) = us ∧ (strVs us).map (·.1) = xs
  | [], us, r => by cases r; exact ⟨rfl, rfl⟩
  | x :: xs, us, r => by
    cases r with
    | cons r1 r2 =>
      obtain ⟨t, rfl⟩ := r1
      obtain ⟨e1, e2⟩ := vals_strs r2
      refine ⟨?_, ?_⟩
      · show Value.str x t :: strValues (strVs _) = _
        rw [e1]
      · show x :: (strVs _).map (·.1) = _
        rw [e2]
def rJoin (K : PySem.W.Frag) : V → List V → Hp → VK → Prop := fun x vs H Q => ∃ sep l ws, x = .str sep ∧ vs = [.ref l] ∧ SqL K H l (ws.map V.str) ∧ JoinOk sep ws = true ∧ Q (.str (Txt.join sep ws)) H
theorem mt_join {X : Cx} : MtR X "str.join" (rJoin X.K) := by
  intro pins s σ H x vs v us Q I rx rv h
  obtain ⟨sep, l, ws, rfl, rfl, hl, hok, q⟩ := h
  obtain ⟨t, rfl⟩ := rx
  obtain ⟨u, rfl, ru⟩ := rv.one
  cases ru
  obtain ⟨its, r, pl, hz⟩ := I.list hl
  obtain ⟨e1, e2⟩ := vals_strs r
  have hI : s.heap.IsList l (strValues (strVs its)).toArray := by rw [e1]; exact pl.isList
  exact SC.join hI e2 hok fun t' k => ⟨.str _, H, I.tok _, ⟨_, rfl⟩, q⟩
theorem strValues_vals : ∀ l : List (Str × Tok), Vals ((l.map (·.1)).map V.str) (strValues l)
  | [] => .nil
  | p :: r => .cons ⟨p.2, rfl⟩ (strValues_vals r)
def rSplit : V → List V → Hp → VK → Prop := fun x vs H Q => ∃ a b, x = .str a ∧ vs = [.str b] ∧ (b.length == 0) = false ∧ a.length + 2 ≤ sizeLine ∧ ∀ l, H l = none → Q (.ref l) (upd H l (.lst ((Txt.split a b).map V.str)))
theorem split_len (x y : Str) (h : x.length + 2 ≤ sizeLine) : (Txt.split x y).length ≤ sizeLine := by
  unfold Txt.split
  split
  · show 1 ≤ sizeLine; omega
  · split
    · show 1 ≤ sizeLine; omega
    · have e1 := StrLaws.occ_length_le x y 0 x.length (x.length + 1)
      rw [length_partsBetween]; omega
theorem mt_split {X : Cx} : MtR X "str.split" rSplit := by
  intro pins s σ H x vs v us Q I rx rv h
  obtain ⟨a, b, rfl, rfl, hb, hz, q⟩ := h
  obtain ⟨t, rfl⟩ := rx
  obtain ⟨u, rfl, ru⟩ := rv.one
  obtain ⟨t', rfl⟩ := ru
  have fin : ∀ (l : List (Str × Tok)) (k : Nat), l.map (·.1) = Txt.split a b → EP X pins σ Q (.ref s.heap.objs.size) { s with heap := s.heap.push { cls := .type "list", data := .seq (strValues l).toArray }, toks := k } := fun l k e => by
    have hv := strValues_vals l
    rw [e] at hv
    exact ⟨.ref _, _, I.lnew (t' := k) hv (by rw [List.length_map]; exact split_len a b hz), rfl, q _ I.fresh⟩
  have hn : (Builtin.Str.partsBetween a (Builtin.Str.occurrences a b 0 a.length (a.length + 1)) b.length).length ≤ sizeLine := by
    have e1 := StrLaws.occ_length_le a b 0 a.length (a.length + 1)
    rw [length_partsBetween]; omega
  cases h1 : (decide (a.length < b.length) || decide (Builtin.Str.strKind a < Builtin.Str.strKind b))
  · cases hf : (Builtin.Str.occurrences a b 0 a.length (a.length + 1)).isEmpty
    · refine call_meets F.slot_str_split (typeIs_str _ _ _) F.entry_str_split (F.args_str_split_2 _ _) (meets_str_split_sep a b t t' h1 hb hf (by omega) hn) ?_
      show wants _ _ _ { s with toks := _, heap := s.heap.push { cls := .type "list", data := .seq (strsFrom s.toks (Builtin.Str.partsBetween a (Builtin.Str.occurrences a b 0 a.length (a.length + 1)) b.length)).toArray } }
      rw [strsFrom_eq]
      exact fin (numbered s.toks _) _ ((numbered_texts _ _).trans ((if_neg (ne_true_of_eq_false h1)).trans (if_neg (ne_true_of_eq_false hf))).symm)
    · exact call_meets F.slot_str_split (typeIs_str _ _ _) F.entry_str_split (F.args_str_split_2 _ _) (meets_str_split_not_found a b t t' h1 hb hf)
        (fin [(a, t)] s.toks ((if_neg (ne_true_of_eq_false h1)).trans (if_pos hf)).symm)
  · exact call_meets F.slot_str_split (typeIs_str _ _ _) F.entry_str_split (F.args_str_split_2 _ _) (meets_str_split_cannot_occur a b t t' h1)
      (fin [(a, t)] s.toks (if_pos h1).symm)
def rAllB (K : PySem.W.Frag) : List V → Hp → VK → Prop := fun xs H Q => ∃ (l : Addr) (bs : List Bool), xs = [.ref l] ∧ SqL K H l (bs.map V.bl) ∧ Q (.bl (bs.all id)) H
theorem vals_bools : ∀ {bs : List Bool} {us : List Value}, Vals (bs.map V.bl) us → us = bs.map Value.bool
  | [], us, r => by cases r; rfl
  | b :: bs, us, r => by
    cases r with
    | cons r1 r2 =>
      cases r1
      rw [vals_bools r2]
      rfl
theorem call_allB {X : Cx} (hc : X.calm = true) : CallR X (.builtin "all") (rAllB X.K) := by
  intro pins s σ H xs us Q I r h
  obtain ⟨l, bs, rfl, hl, q⟩ := h
  obtain ⟨u, rfl, ru⟩ := vals1 r
  cases ru
  obtain ⟨its, rv, pl, hz⟩ := I.list hl
  have e := vals_bools rv
  subst e
  have hI := pl.isList
  have hlt : l < s.heap.objs.size := by obtain ⟨_, e, _⟩ := hI; exact Heap.lt_size e
  refine call_all_walk (wpAny_pyIter_list hI ?_)
  refine ⟨s.heap.objs.size, [s.heap.objs.size, l], [s.heap.objs.size], (bs.map Value.bool).toArray.size, _, _, fun i => (bs[i]?).getD true, rfl, Walks.list (A := X.A.in1) (I.ok.hd hc) _ l (Nat.ne_of_lt hlt) (bs.map Value.bool).toArray,
    ⟨⟨_, Heap.get?_push_size _ rfl, rfl, rfl⟩, hI.push _⟩, fun i v s' Q' E' hP hQ => ?_, fun h' tk hk => ?_⟩
  · have hP' : (bs.map Value.bool)[i]? = some v := by simpa using hP
    rw [List.getElem?_map] at hP'
    cases e : bs[i]? with
    | none => rw [e] at hP'; cases hP'
    | some b =>
      rw [e] at hP'
      cases hP'
      simp only [e, Option.getD_some] at hQ
      exact wpAny_truthy_bool hQ
  · have e : ((List.range (bs.map Value.bool).toArray.size).all fun i => (bs[i]?).getD true) = bs.all id := by
      rw [List.size_toArray, List.length_map]
      exact PyProof.Rows.LSm.range_all bs
    rw [e]
    refine ⟨.bl _, H, I.kept (t' := tk) (fun b o q => hk b o (fun hm => ?_) (Heap.get?_push_of_some _ q)), rfl, q⟩
    rw [List.mem_singleton.mp hm] at q
    exact Nat.lt_irrefl _ (Heap.lt_size q)
def rIntT : List V → Hp → VK → Prop := fun xs H Q => ∃ x n, xs = [.str x] ∧ PySem.intText? x = some n ∧ x.length ≤ 640 ∧ Q (.int n) H
theorem call_intT {X : Cx} : CallR X (.type "int") rIntT := by
  intro pins s σ H xs us Q I r h
  obtain ⟨x, n, rfl, hn, hl, q⟩ := h
  obtain ⟨u, rfl, t, rfl⟩ := vals1 r
  exact PySem.W.KIN.call_text hn hl ⟨.int n, H, I.tok _, ⟨_, rfl⟩, q⟩
def Its (x : Str) : It := ⟨fun i _ => i < x.cps.size, fun i H v H' => H' = H ∧ ∃ c, x.cps[i]? = some c ∧ v = .str ⟨#[c]⟩, fun i _ => x.cps.size ≤ i⟩
theorem turn_ascii {P : Program} {w : World} {K : PySem.W.Frag} {tg : Expr} (x : Str) (t : Tok) (it : Addr) : Turn P w K tg (Its x) [it] it (fun i h => h.IsStrIter it "str_ascii_iterator" x t i) where
  mem := by simp
  obj := fun i h st b hb => by
    have e : b = it := by simpa using hb
    subst e
    obtain ⟨o, e, c, d⟩ := st
    exact ⟨o, e, fun v z => by rw [d] at z; cases z⟩
  keep := fun i h h' st k => by
    obtain ⟨o, e, c, d⟩ := st
    exact ⟨o, k it (by simp) o e, c, d⟩
  item := by
    intro X hP hw hK hc i pins s σ H E I hf st hg
    subst hP hw hK
    have hg' : i < x.cps.size := hg
    obtain ⟨f0, f1, f2, f3, f4, f5⟩ := hf it (by simp)
    refine wpAny_pyNext_ascii_item st (c := x.cps[i]) (by simp [hg']) fun h' st' sb => ?_
    have I1 : Inv X pins σ H { s with heap := h', toks := s.toks + 1 } := I.turned (t' := s.toks + 1) (fun b o hb e => sb.extBut b o hb e) f0 f1 f3 f4 f5
    obtain ⟨o, e, c, d⟩ := id st'
    exact ⟨_, rfl, go_of (s := { s with heap := h', toks := s.toks + 1 }) e c d (by decide) ⟨.str ⟨#[x.cps[i]]⟩, H, I1, ⟨_, rfl⟩, ⟨rfl, _, by simp [hg'], rfl⟩, st', fun b hb => (hf b hb).1⟩⟩
  done := by
    intro X hP hw hK hc i pins s σ H E I hf st hg
    subst hP hw hK
    have hg' : x.cps.size ≤ i := hg
    obtain ⟨f0, f1, f2, f3, f4, f5⟩ := hf it (by simp)
    exact wpAny_pyNext_ascii_end (I.ok.hd hc) st (by simp [hg']) fun h' eb => ⟨rfl, I.turned (t' := s.toks) (fun b o hb e => eb b o hb e) f0 f1 f3 f4 f5⟩
  self := fun _ _ _ _ _ st h => wpAny_pyIter_striter_ascii st h
def iStr (tl : TE) : TI := fun σ H R => tl σ H fun v H1 => ∃ x, v = .str x ∧ x.cps.all (· < 128) = true ∧ R (Its x) H1
theorem pi_str {X : Cx} {tg l : Expr} {tl : TE} (hl : PE X l tl) : PI X tg l (iStr tl) := by
  intro pins s σ H R I h
  refine thn (hl pins s σ H _ I h) fun v s1 ⟨z, H1, I1, r1, q1⟩ => ?_
  obtain ⟨x, e, ha, q⟩ := q1
  subst e
  obtain ⟨t, rfl⟩ := r1
  refine wpAny_pyIter_ascii ha ?_
  refine ⟨s1.heap.objs.size, [s1.heap.objs.size], _, _, H1, rfl, I1.kept (t' := s1.toks) fun b o e => Heap.get?_push_of_some _ e, turn_ascii x t _, ⟨_, Heap.get?_push_size _ rfl, rfl, rfl⟩, fun b hb => ?_, q⟩
  have e : b = s1.heap.objs.size := by simpa using hb
  subst e
  exact I1.fpOk (Nat.le_refl _) (I1.hok.fresh (Nat.le_refl _))
def rStrI : List V → Hp → VK → Prop := fun xs H Q => ∃ i, xs = [.int i] ∧ i.natAbs.log2 < 1920 ∧ Q (.str (M.numS i)) H
theorem call_strI {X : Cx} : CallR X (.type "str") rStrI := call_str_int
theorem strI_of {i : Int} {H : Hp} {Q : VK} (h : i.natAbs.log2 < 1920) (q : Q (.str (M.numS i)) H) : rStrI [.int i] H Q := ⟨i, rfl, h, q⟩
theorem bt_all : bootBuiltins "all" = some (.builtin "all") := by decide +kernel
theorem comp_str {σ : St} {H : Hp} {Q : VK} {te ta : TE} {x : Str} (f : Nat → V) (hta : ∀ R : VK, R (.str x) H → ta σ H R) (ha : x.cps.all (· < 128) = true) (hz : x.cps.size ≤ 1000)
    (elt : ∀ c H', c ∈ x.cps.toList → Same H H' → ∀ Q' : VK, (∀ H'', Same H' H'' → Q' (f c) H'') → te (some (.str ⟨#[c]⟩) :: σ) H' Q')
    (q : ∀ D H', Same H H' → H D = none → H' D = some (.lst (x.cps.toList.map f)) → Q (.ref D) H') : tComp (iStr ta) tTrue te σ H Q := by
  unfold tComp iStr
  refine hta _ ⟨x, rfl, ha, fun D hD => ⟨fun i m H' => m = x.cps.size - i ∧ i ≤ x.cps.size ∧ Same H H' ∧ H' D = some (.lst ((x.cps.toList.take i).map f)),
    ⟨_, rfl, Nat.zero_le _, fun b o h => by rw [upd_ne (ne_of_none h hD)]; exact h, upd_same⟩, ?_⟩⟩
  rintro i m H' ⟨rfl, hi, S, hD'⟩
  by_cases c : i = x.cps.size
  · refine .inl ⟨Nat.le_of_eq c.symm, q D H' S hD ?_⟩
    rw [List.take_of_length_le (by rw [Array.length_toList]; omega)] at hD'
    exact hD'
  · have hlt : i < x.cps.size := by omega
    refine .inr ⟨hlt, ?_⟩
    rintro x' H'' ⟨rfl, c', hc, rfl⟩
    have hc2 : x.cps.toList[i]? = some c' := by rw [Array.getElem?_toList]; exact hc
    unfold tTrue
    dsimp only
    rw [if_pos rfl]
    refine elt c' H'' (List.mem_of_getElem? hc2) S _ fun H3 S3 => ?_
    have h3 := S3 _ _ hD'
    refine ⟨_, h3, small1000 (by rw [List.length_map, List.length_take]; omega), _, by omega, rfl, by omega, fun b o h => ?_, ?_⟩
    · rw [upd_ne (ne_of_none h hD)]
      exact S3 _ _ (S _ _ h)
    · rw [upd_same, List.take_succ, hc2]
      simp
end L2
namespace L2
open PySem PySem.Spec PyProof.Rows
set_option genInjectivity false in
set_option genSizeOf false in
structure Mn (P : Program) (w : World) (K : PySem.W.Frag) (mg : Str → Option Value) (base : Heap) (k : Nat) (C : Addr) (m : Str) (ps : List Str) (sp : Sp) : Prop where
  ex : ∃ (f : Addr) (fd : FuncData), FnOk P w K mg base CX0 k f fd ps sp ∧ Binds K fd ps [] ∧ Meth K C m f
set_option genInjectivity false in
set_option genSizeOf false in
structure Dm (K : PySem.W.Frag) (C : Addr) (m qual : Str) (st : Stmt) (ps : List Str) : Prop where
  ex : ∃ (f : Addr) (fd : FuncData), Fun K m qual st f fd ∧ Binds K fd ps [] ∧ Meth K C m f
theorem Dm.ok {P : Program} {w : World} {K : PySem.W.Frag} {mg : Str → Option Value} {base : Heap} {C : Addr} {x qual : Str} {st : Stmt} {N ps : List Str} {k : Nat} {sp : Sp} (F : Dm K C x qual st ps) (S : FnScope N ps (defScope st))
    (len : ∀ vs H Q E, sp vs H Q E → vs.length = ps.length)
    (hbody : ∀ (f : Addr) (cdv : Value) (A : Around) (outer : List Env) (s : Shared) (H : Hp) (vs : List V) (Q : VK) (E : XK), Room k (A.deeper (envOfC qual (defScope st) s.heap.objs.size f cdv)) → sp vs H Q E →
      ∃ (t : TS) (σ : St), PSs (cxOf CX0 P w K mg base N qual (defScope st) f cdv A outer s H E).nox (defBody st) t ∧ start N vs = σ ∧ t { nx := fun _ H' => Q .non H', rt := Q } σ H) : Mn P w K mg base (k + 1) C x ps sp := by
  obtain ⟨f, fd, F1, b, m⟩ := F.ex
  refine ⟨f, fd, F1.ok S len fun cdv A outer s H vs Q E hr h => ?_, b, m⟩
  obtain ⟨t, σ, h1, rfl, h2⟩ := hbody f cdv A outer s H vs Q E hr h
  exact ⟨t, h1, h2⟩
set_option genInjectivity false in
set_option genSizeOf false in
structure Ci (K : PySem.W.Frag) (mg : Str → Option Value) (x qual : Str) (C : Addr) (st : Stmt) (ps : List Str) : Prop where
  ex : ∃ (f : Addr) (fd : FuncData), Fun K "__init__" qual st f fd ∧ Binds K fd ps [] ∧ Mk K C f
  mg : mg x = some (.ref C)
set_option genInjectivity false in
set_option genSizeOf false in
structure Cn (P : Program) (w : World) (K : PySem.W.Frag) (mg : Str → Option Value) (base : Heap) (k : Nat) (x : Str) (C : Addr) (ps : List Str) (sp : Sp) : Prop where
  ex : ∃ (f : Addr) (fd : FuncData), FnOk P w K mg base CX0 k f fd ps sp ∧ Binds K fd ps [] ∧ Mk K C f
  mg : mg x = some (.ref C)
theorem Cn.mono {P : Program} {w : World} {K : PySem.W.Frag} {mg : Str → Option Value} {base : Heap} {j k : Nat} {x : Str} {C : Addr} {ps : List Str} {sp : Sp} (D : Cn P w K mg base j x C ps sp) (h : j ≤ k) : Cn P w K mg base k x C ps sp := by
  obtain ⟨f, fd, a, b, c⟩ := D.ex
  exact ⟨⟨f, fd, a.mono h, b, c⟩, D.mg⟩
theorem Ci.ok {P : Program} {w : World} {K : PySem.W.Frag} {mg : Str → Option Value} {base : Heap} {C : Addr} {x qual : Str} {st : Stmt} {N ps : List Str} {k : Nat} {sp : Sp} (F : Ci K mg x qual C st ps) (S : FnScope N ps (defScope st))
    (len : ∀ vs H Q E, sp vs H Q E → vs.length = ps.length)
    (hbody : ∀ (f : Addr) (cdv : Value) (A : Around) (outer : List Env) (s : Shared) (H : Hp) (vs : List V) (Q : VK) (E : XK), Room k (A.deeper (envOfC qual (defScope st) s.heap.objs.size f cdv)) → sp vs H Q E →
      ∃ (t : TS) (σ : St), PSs (cxOf CX0 P w K mg base N qual (defScope st) f cdv A outer s H E).nox (defBody st) t ∧ start N vs = σ ∧ t { nx := fun _ H' => Q .non H', rt := Q } σ H) : Cn P w K mg base (k + 1) x C ps sp := by
  obtain ⟨f, fd, F1, b, m⟩ := F.ex
  refine ⟨⟨f, fd, F1.ok S len fun cdv A outer s H vs Q E hr h => ?_, b, m⟩, F.mg⟩
  obtain ⟨t, σ, h1, rfl, h2⟩ := hbody f cdv A outer s H vs Q E hr h
  exact ⟨t, h1, h2⟩
theorem pe_mkD {X : Cx} {k : Nat} {C : Addr} {x : Str} {ps : List Str} {sp : Sp} {e : Expr} {es : List Expr} {t : TA} {p pos : Pos} (D : Cn X.prog X.w X.K X.mg X.base k x C ps sp) (hr : Room (k + 1) X.A) (hg : Gl X x)
    (ha : PA X (e :: es) t) (h : (e :: es).all unst = true := by rfl) (hdb : (x == ("__debug__" : Str)) = false := by decide) : PE X (.Call (.Name x p) (e :: es) [] pos) (tMake C sp [] E0 t) := by
  obtain ⟨f, fd, a, b, d⟩ := D.ex
  exact pe_make d a hr hg D.mg b .nil pass0 ha hdb (star_un (all_hd h)) (star_any (all_tl h))
def FldR (K : PySem.W.Frag) (f : Str) (x : V) (H : Hp) (Q : VK) : Prop := ∃ a C dx fs v, x = .ref a ∧ H a = some (.ins C dx fs) ∧ Cls K C ∧ NoAttr K C f ∧ fs.lookup f = some v ∧ Q v H
def SetR (K : PySem.W.Frag) (f : Str) (x y : V) (H : Hp) (G : Hp → Prop) : Prop := ∃ a C dx fs, x = .ref a ∧ H a = some (.ins C dx fs) ∧ Cls K C ∧ NoAttr K C f ∧ fs.length < 1000 ∧ G (upd H a (.ins C dx (putF f y fs)))
section
variable {D : Ends} {σ : St} {H : Hp} {K : PySem.W.Frag} {ta tb : TE} {tr : TA} {Q : VK} {f m : Str} {sp : Sp} {C : Addr}
theorem r_fld : tFld K ta f σ H Q = ta σ H fun x H1 => FldR K f x H1 Q := rfl
theorem r_sfld : sFld K ta tb f D σ H = tb σ H fun y H1 => ta σ H1 fun x H2 => SetR K f x y H2 fun H3 => D.nx σ H3 := rfl
theorem r_make : tMake C sp [] E0 tr σ H Q = tr σ H fun vs H1 => ∀ x dx, H1 x = none → H1 dx = none → dx ≠ x → sp (.ref x :: (vs ++ [])) (upd (upd H1 dx (.own x)) x (.ins C dx [])) (fun v H2 => v = .non ∧ Q (.ref x) H2) E0 := rfl
def AugR (K : PySem.W.Frag) (f : Str) (tv : TE) (D : Ends) (σ : St) (x : V) (H : Hp) : Prop := ∃ a C dx fs v, x = .ref a ∧ H a = some (.ins C dx fs) ∧ Cls K C ∧ NoAttr K C f ∧ fs.lookup f = some v ∧
  tv σ H fun y H2 => rAdd v y H2 fun z H3 => ∃ dx' fs', H3 a = some (.ins C dx' fs') ∧ fs'.length < 1000 ∧ D.nx σ (upd H3 a (.ins C dx' (putF f z fs')))
theorem r_aug : sFldAug K ta tb rAdd f D σ H = ta σ H fun x H1 => AugR K f tb D σ x H1 := rfl
end
end L2
namespace L2
open PySem PySem.Spec PyProof.Rows M
def LastV (K : PySem.W.Frag) (H : Hp) : Option Rl → V → Prop
  | none, v => v = .non
  | some l, v => RlV K H l v
section
variable {K : PySem.W.Frag} {H H' : Hp} {l : Option Rl} {v : V}
theorem LastV.is (h : LastV K H l v) : decide (v = .non) = l.isNone := by
  cases l with
  | none => rw [show v = .non from h]; rfl
  | some l =>
    have := dt_non (show Dt K 0 H (enc l) v from h)
    rw [isN_enc] at this
    exact this
theorem LastV.no (h : LastV K H none v) : v = .non := h
theorem LastV.yes {r : Rl} (h : LastV K H (some r) v) : v ≠ .non := by
  have := h.is
  simpa using this
theorem rl_tup {rl i : Rl} {to lead : Int} {cap : Option Int} (h : RlV K H rl v) (w : Vw rl to lead cap i l) : ∃ (a : Addr) (v4 v5 : V), v = .ref a ∧ SqT K H a [.str "unit", .int to, .int lead, optI cap, v4, v5] ∧ RlV K H i v4 ∧ LastV K H l v5 := by
  unfold RlV at h
  rw [w.enc] at h
  obtain ⟨a, xs, rfl, hs, hx⟩ := h.tup_inv
  have hl : xs.length = 6 := hx.len.symm
  obtain ⟨_, _, _, _, _, _, v0, v1, v2, v3, v4, v5, e', rfl, h0, h1, h2, h3, h4, h5⟩ := six_of hx hl
  cases e'
  simp only [Dt] at h0 h1 h2
  obtain ⟨rfl, _⟩ := h0
  subst h1 h2
  have e3 : v3 = optI cap := by
    cases cap with
    | none => simp only [capD, Dt] at h3; exact h3
    | some c => simp only [capD, Dt] at h3; exact h3
  subst e3
  refine ⟨a, v4, v5, rfl, hs, h4, ?_⟩
  cases l with
  | none => simp only [lastD, Dt] at h5; exact h5
  | some l => exact h5
end
end L2
namespace M
open PySem
def encS : Sd → PyData
  | .nil => .tuple []
  | .cn z o w => .tuple [.int z, .int o, encS w]
mutual
def fl (bb : Bool) : PyData → Bool
  | .int _ => true
  | .bool _ => bb
  | .tuple ds => decide (ds.length ≤ 100) && fls bb ds
  | _ => false
def fls (bb : Bool) : List PyData → Bool
  | [] => true
  | d :: ds => fl bb d && fls bb ds
end
end M
namespace L2
open PySem PySem.Spec PyProof.Rows M
theorem noL_encS : ∀ s : Sd, noL (encS s) = true
  | .nil => rfl
  | .cn z o w => by simp only [encS, noL, noLs, noL_encS w]; rfl
def LastE (K : PySem.W.Frag) (H : Hp) : Option Rl → V → Prop
  | none, v => v = .non
  | some l, v => RlV K H l v
theorem LastE.is {K : PySem.W.Frag} {H : Hp} {l : Option Rl} {v : V} (h : LastE K H l v) : decide (v = .non) = l.isNone := by
  cases l with
  | none => rw [show v = .non from h]; rfl
  | some l =>
    have := dt_non (show Dt K 0 H (enc l) v from h)
    rw [isN_enc] at this
    exact this
theorem LastE.yes {K : PySem.W.Frag} {H : Hp} {v : V} {r : Rl} (h : LastE K H (some r) v) : v ≠ .non := by
  have := h.is
  simpa using this
def StV (K : PySem.W.Frag) (H : Hp) (s : Sd) (v : V) : Prop := Dt K 0 H (encS s) v
section
variable {K : PySem.W.Frag} {H H' : Hp} {s w : Sd} {z o : Int} {v : V} {t a p : Addr} {rl : Rl}
end
section
variable {D : Ends} {σ : St} {H : Hp} {K : PySem.W.Frag} {ta te : TE} {g : TG} {gs : TGs} {Q : VK} {v : V} {vs : List V} {G : St → Hp → Prop} {n i : Nat} {ti : TIp}
theorem r_gtup : gTup K n gs v σ H G = ∃ a xs, v = .ref a ∧ SqT K H a xs ∧ xs.length = n ∧ gs xs σ H G := rfl
theorem r_gcons : gCons g gs (v :: vs) σ H G = g v σ H fun σ' H' => gs vs σ' H' G := by
  unfold gCons
  exact propext ⟨fun ⟨a, b, h1, h⟩ => by cases h1; exact h, fun h => ⟨v, vs, rfl, h⟩⟩
theorem r_gnil : gNil [] σ H G = G σ H := by
  unfold gNil
  exact propext ⟨fun h => h.2, fun h => ⟨rfl, h⟩⟩
theorem r_augN : tAug i te ti D σ H = ∃ x, σ[i]? = some (some x) ∧ te σ H fun y H1 => ti x y H1 fun z H2 => D.nx (σ.set i (some z)) H2 := rfl
end
def TapeS (K : PySem.W.Frag) (ns : List Int) (t sc : Addr) (H : Hp) : Prop := ∃ (sp cr wy : Int), H t = some (.lst [.ref sc, .int sp, .int cr, .int wy]) ∧ ScL K t H sc (ns.map V.int)
set_option genInjectivity false in
set_option genSizeOf false in
structure CurS (K : PySem.W.Frag) (ns : List Int) (t sc : Addr) (H₀ H : Hp) : Prop where
  tape : TapeS K ns t sc H
  ext : Ext t H₀ H
section
variable {K : PySem.W.Frag} {ns : List Int} {t sc p : Addr} {H₀ H H' : Hp}
theorem Tape.s (h : Tape K ns t H) : ∃ sc, TapeS K ns t sc H := h
theorem TapeS.tape (h : TapeS K ns t sc H) : Tape K ns t H := ⟨sc, h⟩
theorem CurS.cur (c : CurS K ns t sc H₀ H) : Cur K ns t H₀ H := ⟨c.tape.tape, c.ext⟩
theorem TapeS.keep {o : HO} (h0 : TapeS K ns t sc H₀) (hp : H₀ p = none) (h : TapeS K ns t sc H) : TapeS K ns t sc (upd H p o) := by
  obtain ⟨_, _, _, e0, l0⟩ := h0
  have nt : p ≠ t := (ne_of_none e0 hp).symm
  obtain ⟨sp, cr, wy, e, l⟩ := h
  refine ⟨sp, cr, wy, by rw [upd_ne nt.symm]; exact e, ?_⟩
  have mv : sc ≠ p → ScL K t (upd H p o) sc (ns.map V.int) := fun ne => by
    rcases l with ⟨l1, l2⟩ | l
    · refine .inl ⟨l1, ?_⟩
      rcases l2 with (q | ⟨u, q⟩) | q
      · exact .inl (.inl (by rw [upd_ne ne]; exact q))
      · exact .inl (.inr ⟨u, by rw [upd_ne ne]; exact q⟩)
      · exact .inr q
    · exact .inr l
  rcases l0 with ⟨_, (q | ⟨u, q⟩) | q⟩ | l0
  · exact mv (ne_of_none q hp)
  · exact mv (ne_of_none q hp)
  · exact .inr fun _ => .inr q
  · exact .inr l0
theorem CurS.keep {o : HO} (h0 : TapeS K ns t sc H₀) (hp : H₀ p = none) (c : CurS K ns t sc H₀ H) : CurS K ns t sc H₀ (upd H p o) :=
  ⟨TapeS.keep h0 hp c.tape, fun b u n q => by rw [upd_ne (ne_of_none q hp)]; exact c.ext b u n q⟩
theorem CurS.then (c : CurS K ns t sc H₀ H) (d : CurS K ns t sc H H') : CurS K ns t sc H₀ H' := ⟨d.tape, c.ext.trans d.ext⟩
end
section
variable (K : PySem.W.Frag) (ns : List Int)
def spDrawS : Sp := fun vs H Q _ => ∃ t sc m, vs = [.ref t, .int m] ∧ 0 < m ∧ m < 1073741824 ∧ TapeS K ns t sc H ∧ ∀ (r : Int) (H' : Hp), 0 ≤ r → r < m → CurS K ns t sc H H' → Q (.int r) H'
end
theorem cutV_take {xs : List V} {k : Nat} : cutV xs none (some (k : Int)) = xs.take k := by
  unfold cutV
  have h1 : HT.sIx xs.length 0 none = 0 := rfl
  have h2 : HT.sIx xs.length xs.length (some (k : Int)) = min k xs.length := by
    show (if ((k : Nat) : Int) < 0 then (((k : Nat) : Int) + (xs.length : Int)).toNat else min ((k : Nat) : Int).toNat xs.length) = _
    rw [if_neg (by omega)]
    simp
  rw [h1, h2, List.drop_zero, Nat.sub_zero]
  rcases Nat.le_total k xs.length with h | h
  · rw [Nat.min_eq_left h]
  · rw [Nat.min_eq_right h, List.take_of_length_le h, List.take_of_length_le (Nat.le_refl _)]
def StL (K : PySem.W.Frag) (H : Hp) (ss : List Sd) (vs : List V) : Prop := DtL K 0 H (ss.map encS) vs
section
variable {K : PySem.W.Frag} {H H' : Hp} {ss qs : List Sd} {s : Sd} {v : V} {vs us : List V} {t : Addr}
theorem noLs_encS : ∀ rs : List Sd, noLs (rs.map encS) = true
  | [] => rfl
  | r :: rs => by simp only [List.map_cons, noLs, noL_encS r, noLs_encS rs]; rfl
theorem StL.nil : StL K H [] [] := by simp [StL, DtL]
theorem StL.len (h : StL K H ss vs) : ss.length = vs.length := by
  have := DtL.len h
  rwa [List.length_map] at this
theorem StL.at {i : Nat} (h : StL K H ss vs) (e : ss[i]? = some s) : ∃ v, vs[i]? = some v ∧ StV K H s v := DtL.get (i := i) h (by rw [List.getElem?_map, e]; rfl)
end
end L2
namespace L2
open PySem PySem.Spec PySem.Calls PyProof.Rows
def CX1 (P : Program) (w : World) : CXT := fun outer H s E e s' => ∃ (ea t C : Addr) (B : Heap) (H' : Hp), e = .ref ea ∧ s'.os = s.os ∧ AllBare s'.gens ∧ Heap.FlyingW B outer ea (.ref C) (.ref t) s'.heap ∧
  (∀ h : Heap, B.StaysIn h → s'.heap.UpToSlots h → Un (frs outer) [] H H' s.heap h ∧ HOk P w H' h ∧ h.FunFrames B outer) ∧ (∀ b o, H' b = some o → ∃ u, B.get? b = some u) ∧ (∀ b o, s.heap.get? b = some o → b ∈ frs outer ∨ ∃ u, B.get? b = some u) ∧ E (.ref C) none H'
theorem un_up {fs : List Addr} {L : Addr} {H0 H H' : Hp} {h0 h1 h2 : Heap} (a : Un fs [] H0 H h0 h1) (b : Un (L :: fs) [] H H' h1 h2) (hL : ∀ c o, h0.get? c = some o → c ≠ L) : Un fs [] H0 H' h0 h2 where
  keep := fun c o q n hc hx => b.keep c o (a.keep c o q n hc hx) (a.free c o q n hx) (fun z => (List.mem_cons.mp z).elim (hL c o q) hc) hx
  slot := fun c o q n hc hx => by
    obtain ⟨sl, e1⟩ := a.slot c o q n hc hx
    obtain ⟨sl', e2⟩ := b.slot c _ e1 (a.free c o q n hx) (List.mem_cons_of_mem _ hc) hx
    exact ⟨sl', e2⟩
  free := fun c o q n hx => by
    obtain ⟨o', e1⟩ := a.there c o q hx
    exact b.free c o' e1 (a.free c o q n hx) hx
  there := fun c o q hx => by
    obtain ⟨o', e1⟩ := a.there c o q hx
    exact b.there c o' e1 hx
  tups := fun c xs q => b.tups c xs (a.tups c xs q)
  frzs := fun c o u q => b.frzs c o u (a.frzs c o u q)
  tbls := fun c ps q => by
    obtain ⟨m1, e1⟩ := a.tbls c ps q
    obtain ⟨m2, e2⟩ := b.tbls c _ e1
    exact ⟨m1 ++ m2, by rw [e2, Array.append_assoc]⟩
theorem ok_got {P : Program} {w : World} {H : Hp} {h : Heap} {a : Addr} {o : HO} (x : ObjOk P w H h a o) : ∃ u, h.get? a = some u := by
  cases o with
  | lst xs => exact ⟨_, x.2.choose_spec.choose_spec.2⟩
  | tup xs =>
    obtain ⟨_, _, _, ob, e, _⟩ := x
    exact ⟨_, e⟩
  | dK kvs =>
    obtain ⟨_, _, _, _, ob, _, _, e, _⟩ := x
    exact ⟨_, e⟩
  | dT kvs =>
    obtain ⟨_, _, _, _, ob, _, _, e, _⟩ := x
    exact ⟨_, e⟩
  | set S n =>
    obtain ⟨ob, _, _, _, e, _⟩ := x
    exact ⟨_, e⟩
  | ins C dx fs =>
    obtain ⟨_, _, _, e, _⟩ := x
    exact ⟨_, e⟩
  | own y => exact x
  | xd fs =>
    obtain ⟨_, ⟨_, _, _, e, _⟩, _⟩ := x
    exact ⟨_, e⟩
  | rng lo hi =>
    obtain ⟨_, _, _, e⟩ := x
    exact ⟨_, e⟩
  | frz ob u => exact ⟨_, x.1⟩
  | tbl ps => exact ⟨_, x⟩
  | met f y => exact ⟨_, x⟩
  | ext φ => exact x.2.1
section
variable {P : Program} {w : World} {K : PySem.W.Frag} {mg : Str → Option Value} {base : Heap} {N : List Str} {qual : Str} {scope : Scope} {f : Addr} {cd : Value} {A : Around} {outer : List Env} {s0 : Shared} {H0 : Hp} {E : XK}
end
end L2
namespace L2
open PySem PySem.Spec PySem.Calls PyProof.Rows
abbrev veTail : List Value := [.type "ValueError", .type "Exception", .type "BaseException", .type "object"]
def OwnE (K : PySem.W.Frag) (C : Addr) : Prop := ∀ h : Heap, K.In h → ∃ (bm : List Value) (N : Addr) (nm qn : Str) (bs : List Value) (hdct : Bool) (sn : List Str) (sub : List Value) (ab : Bool) (col : Option Bool) (dd : Option Addr) (k0 k1 k2 k3 k5 : Option Value) (mN : Str → Option Value),
  h.get? C = some (excClassObj nm qn C N bs bm hdct sn sub ab col dd k0 k1 k2 k3 k5 "ValueError.__new__") ∧ h.Ns N mN ∧ mN "__init__" = none ∧ OwnTail h veTail bm
set_option genInjectivity false in
set_option genSizeOf false in
structure Dx (P : Program) (w : World) (K : PySem.W.Frag) (mg : Str → Option Value) (base : Heap) (k : Nat) (x : Str) (ps : List Str) (sp : Sp) : Prop where
  ex : ∃ (f : Addr) (fd : FuncData), FnOk P w K mg base (CX1 P w) k f fd ps sp ∧ Binds K fd ps [] ∧ PySem.W.keepIn K (.ref f) = true ∧ mg x = some (.ref f)
theorem Dn.dx {P : Program} {w : World} {K : PySem.W.Frag} {mg : Str → Option Value} {base : Heap} {k : Nat} {x : Str} {ps : List Str} {sp : Sp} (D : Dn P w K mg base k x ps sp) : Dx P w K mg base k x ps sp := by
  obtain ⟨f, fd, a, b, c, d⟩ := D.ex
  refine ⟨f, fd, ⟨a.len, fun A outer s H args us vs Q E hr he hb hv hs => codeAny_mono (a.run A outer s H args us vs Q E hr he hb hv hs) fun r s' hq => ?_⟩, b, c, d⟩
  cases r with
  | error e => exact False.elim hq
  | ok fl => cases fl <;> exact hq
section
variable {X : Cx} {k : Nat} {x : Str} {ps : List Str} {sp : Sp} {e : Expr} {es : List Expr} {t : TA} {p pos : Pos}
def Xt (X : Cx) (pn : List (Addr × Obj)) (Ef : St → XK) : Cx := ({ X with pn := pn } : Cx).wish fun ev s' => ∃ pins σ H s, Inv { X with pn := pn } pins σ H s ∧ CX1 X.prog X.w X.stack H s (Ef σ) ev s'
def tCallX (sp : Sp) (Ef : St → XK) (t : TA) : TE := fun σ H Q => t σ H fun vs H1 => sp vs H1 Q (Ef σ)
end
end L2
namespace L2
open PySem PySem.Spec PySem.Calls PyProof.Rows
theorem inv_track {X : Cx} {pins : List (Addr × Obj)} {σ : St} {H : Hp} {s : Shared} {a : Addr} {o : HO} (I : Inv X pins σ H s) (hn : H a = none) (h0 : X.s₀.heap.get? a = none) (hL : a ≠ X.env.locals)
    (hc : ∀ x c, X.env.cells.lookup x = some c → c ≠ a) (hp : ∀ p ∈ X.pn ++ pins, p.1 ≠ a) (new : ObjOk X.prog X.w (upd H a o) s.heap a o) : Inv X pins σ (upd H a o) s := by
  have ne : ∀ b u, H b = some u → b ≠ a := fun b u e => ne_of_none e hn
  have ne0 : ∀ b u, X.s₀.heap.get? b = some u → b ≠ a := fun b u e z => by rw [z, h0] at e; cases e
  have u := I.base
  refine ⟨I.ok, I.os, I.bare, ⟨u.keep, u.slot, fun b ob e n hx => by rw [upd_ne (ne0 b ob e)]; exact u.free b ob e n hx, u.there, fun b xs e => ?_, fun b ob v e => ?_, fun b ps e => ?_⟩, I.loc, I.cell, by rw [upd_ne hL.symm]; exact I.free,
    fun x c e => by rw [upd_ne (hc x c e)]; exact I.freeC x c e, fun p hp' => ?_, fun b v e => ?_, I.len⟩
  · have := u.tups b xs e
    rw [upd_ne (ne b _ this)]; exact this
  · have := u.frzs b ob v e
    rw [upd_ne (ne b _ this)]; exact this
  · obtain ⟨m, this⟩ := u.tbls b ps e
    exact ⟨m, by rw [upd_ne (ne b _ this)]; exact this⟩
  · obtain ⟨q1, q2, q3⟩ := I.pin p hp'
    exact ⟨q1, by rw [upd_ne (hp p hp')]; exact q2, q3⟩
  · by_cases z : b = a
    · subst z
      rw [upd_same] at e
      cases e
      exact new
    · rw [upd_ne z] at e
      exact (I.hok b v e).stay (fun _ _ _ q => q) (fun c q => by rw [upd_ne (ne c _ q)]; exact q) fun c xs q => by rw [upd_ne (ne c _ q)]; exact q
theorem excM_own {M : Model} {A : Around} {E : Value → Shared → Prop} {s : Shared} {e C D : Addr} {oe : Obj} {K : PySem.W.Frag} {Q : Bool → Shared → Prop} (X : K.In s.heap) (OD : OwnE K D) (hsub : PySem.W.subIn K (.ref C) (.ref D) = some true)
    (he : s.heap.get? e = some oe) (hcls : oe.cls = .ref C) (hq : Q true s) : wpAny M A (excMatches (.ref e) (.ref D)) Q E s := by
  obtain ⟨bm', N', nm', qn', bs', hdct', sn', sub', ab', col', dd', k0', k1', k2', k3', k5', mN', hD, _, _, TL'⟩ := OD s.heap X
  have hcB : (Value.ref D :: bm').contains (.type "BaseException") = true := by rw [List.contains_cons, TL'.hasType (b := true) (X := "BaseException") (by decide), Bool.or_true]
  have f := tc_notTuple
  have L := PySem.W.looks_subIn (M := M) X hsub
  obtain ⟨h, g, d, t, os⟩ := s
  unfold excMatches
  repeat (first | (with_reducible refine wpAny_loadPart_at he ?_; rw [hcls]) | with_reducible refine wpAny_loadPart_at hD ?_ | with_reducible refine PySem.W.Looks.at L ?_ | (with_reducible refine wpAny_isSubtype_exc hD ?_; rw [hcB]) | wp_step)
  exact hq
end L2
namespace L2
open PySem PySem.Spec PySem.Calls PyProof.Rows
theorem name_gone {X : Cx} {pins : List (Addr × Obj)} {σ : St} {H : Hp} {s : Shared} {M : Model} {A : Around} {E : Value → Shared → Prop} {n : Str} {i : Nat} {pos : Pos} {Q : Unit → Shared → Prop} (I : Inv X pins σ H s) (hN : X.N.Nodup) (hi : X.N[i]? = some n) (hlo : X.env.kindOf n = some .local)
    (h : ∀ s', Inv X pins (σ.set i none) H s' → Q () s') : wpAny M A (do bindName X.env n .none; unbindBehindTheSuite X.env n pos) Q E s := by
  obtain ⟨m, hn, hl⟩ := I.loc
  have hk := I.ok.kind
  refine wpAny_nameGoes_keeps hlo hn (by rw [hk]; rfl) fun h' v hns hsb => h _ ?_
  have kp : ∀ b o, b ≠ X.env.locals → s.heap.get? b = some o → h'.get? b = some o := fun b o nb e => hsb.extBut b o nb e
  have n0 : ∀ b o, X.s₀.heap.get? b = some o → b ≠ X.env.locals := fun b o e => Nat.ne_of_lt (Nat.lt_of_lt_of_le (Heap.lt_size e) I.ok.above)
  have nt : ∀ b u, H b = some u → b ≠ X.env.locals := fun b u e => ne_of_none e I.free
  have u := I.base
  refine ⟨I.ok, I.os, I.bare, ⟨fun b o e q hb hx => kp b o (n0 b o e) (u.keep b o e q hb hx), fun b o e q hb hx => ?_, u.free, fun b o e hx => ?_, u.tups, u.frzs, u.tbls⟩, ⟨_, hns, fun j y v' e1 e2 e3 => ?_⟩, fun x c e => ?_, I.free, I.freeC, fun p hp => ?_, fun b o e => ?_, by rw [List.length_set]; exact I.len⟩
  · obtain ⟨sl, e1⟩ := u.slot b o e q hb hx
    exact ⟨sl, kp b _ (n0 b o e) e1⟩
  · obtain ⟨o', e1⟩ := u.there b o e hx
    exact ⟨o', kp b o' (n0 b o e) e1⟩
  · have hj : j ≠ i := fun z => by
      subst z
      rw [List.getElem?_set_self' ] at e2
      cases q : σ[j]? with
      | none => rw [q] at e2; cases e2
      | some w => rw [q] at e2; cases e2
    rw [List.getElem?_set_ne (Ne.symm hj)] at e2
    have hy : y ≠ n := fun z => hj (nodup_ix hN (z ▸ e1) hi)
    obtain ⟨u', r, l⟩ := hl j y v' e1 e2 e3
    refine ⟨u', r, ?_⟩
    rcases l with ⟨l1, l2⟩ | ⟨l1, c, l2, o, l3, l4⟩
    · exact .inl ⟨l1, by show (if y = n then v else m y) = some u'; rw [if_neg hy]; exact l2⟩
    · exact .inr ⟨l1, c, l2, o, kp c o (I.cne y c l2) l3, l4⟩
  · obtain ⟨v', o, e1, e2⟩ := I.cell x c e
    exact ⟨v', o, kp c o (I.cne x c e) e1, e2⟩
  · obtain ⟨q1, q2, q3, q4⟩ := I.pin p hp
    exact ⟨kp p.1 p.2 q3 q1, q2, q3, q4⟩
  · refine (I.hok b o e).stay (fun c v' hc q => kp c v' ?_ q) (fun _ q => q) fun _ _ q => q
    rcases hc with z | z
    · rw [z]; exact nt b o e
    · exact nt c _ z
def Xh (X : Cx) (pn : List (Addr × Obj)) (ea : Addr) : Cx := { X with A := X.A.mark (some (.ref ea)), calm := false, pn := pn, xe := fun _ _ => False }
theorem inv_h {X : Cx} {pn pins : List (Addr × Obj)} {ea : Addr} {σ : St} {H : Hp} {s : Shared} (I : Inv { X with pn := pn } pins σ H s) : Inv (Xh X pn ea) pins σ H s :=
  have ok := I.ok
  ⟨⟨ok.mod, ok.kind, ok.glob, ok.blt, ok.above, ok.inj, ok.has, ok.cab, (fun z => nomatch z), ok.frames, ok.stk, ok.exf, ok.bs, ok.bsz, ok.noex, ok.exfs, ok.funs, ok.frf⟩, I.os, I.bare, I.base, I.loc, I.cell, I.free, I.freeC, I.pin, I.hok, I.len⟩
theorem inv_back {X : Cx} {pins pins' : List (Addr × Obj)} {ea : Addr} {σ : St} {H : Hp} {s : Shared} (ok : X.Ok) (I : Inv (Xh X (X.pn ++ pins) ea) pins' σ H s) : Inv X pins σ H s :=
  ⟨ok, I.os, I.bare, I.base, I.loc, I.cell, I.free, I.freeC, fun p hp => I.pin p (List.mem_append_left _ hp), I.hok, I.len⟩
theorem inv_pn {X : Cx} {pins : List (Addr × Obj)} {σ : St} {H : Hp} {s : Shared} (I : Inv X pins σ H s) : Inv { X with pn := X.pn ++ pins } [] σ H s :=
  have ok := I.ok
  ⟨⟨ok.mod, ok.kind, ok.glob, ok.blt, ok.above, ok.inj, ok.has, ok.cab, ok.hd, ok.frames, ok.stk, ok.exf, ok.bs, ok.bsz, ok.noex, ok.exfs, ok.funs, ok.frf⟩, I.os, I.bare, I.base, I.loc, I.cell, I.free, I.freeC, fun p hp => I.pin p (by rw [List.append_nil] at hp; exact hp), I.hok, I.len⟩
theorem inv_np {X : Cx} {pins pins' : List (Addr × Obj)} {σ : St} {H : Hp} {s : Shared} (ok : X.Ok) (I : Inv { X with pn := X.pn ++ pins } pins' σ H s) : Inv X pins σ H s :=
  ⟨ok, I.os, I.bare, I.base, I.loc, I.cell, I.free, I.freeC, fun p hp => I.pin p (List.mem_append_left _ hp), I.hok, I.len⟩
end L2
namespace L2
open PySem PySem.Spec PySem.Calls PyProof.Rows PySem.W
section
variable {prog : Program} {w : World} {A : Around} {E : Value → Shared → Prop} {h : Heap} {g : Array GenState} {d : Drawn} {t : Nat} {os : OsState} {a C : Addr} {o : Obj} {K : Frag}
theorem exc_type {M : Model} (hx : h.get? a = some o) (hc : o.cls = .ref C) : Looks M h (typeOf (.ref a)) (.ref C) := hc ▸ (Looks.ld hx).andThen .now
theorem exc_cls_get {R : Result → Shared → Prop} (X : K.In h) (hx : h.get? a = some o) (hc : o.cls = .ref C) (hm : mroIn K C (.type "object") = some true) (hq : R (.ok (.ret (.ref C))) ⟨h, g, d, t, os⟩) :
    codeAny (model prog w) A (.call (.builtin "getset_descriptor.__get__") ⟨[.builtin "object.__class__", .ref a, .ref C], []⟩) R ⟨h, g, d, t, os⟩ := by
  have hT5 : (⟨h, g, d, t, os⟩ : Shared).TypeIs (.builtin "object.__class__") "getset_descriptor" := F.typeOf_object_class
  have L0 := exc_type (M := model prog w) hx hc
  have L1 := looks_mroIn (M := model prog w) X hm
  refine codeAny_call_builtin F.slot_gs_get.plain F.entry_gs_get (F.slot_gs_get.check _ _ _ _ _ _ _ _ hT5 (F.args_gs_get _ _ _) ?_)
  have hO := F.owner_object_class
  repeat (any_goals (first | assumption | (with_reducible refine wpAny_loadPart_at hx ?_; rw [hc]) | (rw [hO]; with_reducible refine L1.at ?_) | with_reducible refine L1.at ?_ | wp_step))
  refine ⟨Code.quiet_builtin _ (by decide +kernel), codeAny_builtin F.entry_object_class ?_⟩
  repeat (any_goals (first | assumption | (with_reducible refine wpAny_loadPart_at hx ?_; rw [hc]) | wp_step))
set_option genInjectivity false in
set_option genSizeOf false in
structure ErrC (K : Frag) (C : Addr) : Prop where
  ga : findIn K (.ref C) "__getattribute__" = some (some (.builtin "BaseException.__getattribute__"))
  gt : findIn K (.ref C) "__getattr__" = some none
  cl : findIn K (.ref C) "__class__" = some (some (.builtin "object.__class__"))
  ob : mroIn K C (.type "object") = some true
  sb : subIn K (.ref C) (.type "BaseException") = some true
  lk : (clsIn K C).isSome = true
theorem exc_cls_entry {tk : Tok} {Q : Fin → Shared → Prop} (X : K.In h) (e : ErrC K C) (hx : h.get? a = some o) (hc : o.cls = .ref C) (hq : Q (.done (.ret (.ref C))) ⟨h, g, d, t, os⟩) :
    wpAny (model prog w) A (Builtin.«object.__getattribute__» ⟨[.ref a, .str "__class__" tk], []⟩) Q E ⟨h, g, d, t, os⟩ := by
  have hT5 : (⟨h, g, d, t, os⟩ : Shared).TypeIs (.builtin "object.__class__") "getset_descriptor" := F.typeOf_object_class
  have L4 := looks_findIn (M := model prog w) X e.cl
  have f5 := F.typeOf_object_class
  have f6 := F.slot_gs_get.lookup
  have f7 := F.slot_gs_set.lookup
  repeat (any_goals (first | assumption | (with_reducible refine wpAny_loadPart_at hx ?_; rw [hc]) | with_reducible refine L4.at ?_ | wp_step))
  refine exc_cls_get X hx hc e.ob ?_
  repeat (any_goals (first | assumption | wp_step))
theorem exc_check_ga {M : Model} {nameV : Value} {Q : Unit → Shared → Prop} (X : K.In h) (e : ErrC K C) (hx : h.get? a = some o) (hc : o.cls = .ref C) (hq : Q () ⟨h, g, d, t, os⟩) :
    wpAny M A (checkBuiltinCall "BaseException.__getattribute__" ⟨[.ref a, nameV], []⟩) Q E ⟨h, g, d, t, os⟩ := by
  have hk : builtinKind "BaseException.__getattribute__" = some .slot := by decide +kernel
  have hsplit : splitId "BaseException.__getattribute__" = some ("BaseException", "__getattribute__") := by decide +kernel
  have ha := F.args_bexc_ga (.ref a) nameV
  have L1 := looks_subIn (M := M) X e.sb
  simp only [checkBuiltinCall, hk, hsplit]
  refine wpAny_bind ?_
  unfold isInstance
  repeat (first | (with_reducible refine wpAny_loadPart_at hx ?_; rw [hc]) | with_reducible refine L1.at ?_ | wp_step)
  exact hq
theorem exc_cls_by {tk : Tok} {Q : Value → Shared → Prop} (FB : ExcAttrBase "ValueError" veTail) (X : K.In h) (e : ErrC K C) (hx : h.get? a = some o) (hc : o.cls = .ref C) (hq : Q (.ref C) ⟨h, g, d, t, os⟩) :
    wpAny (model prog w) A (getAttrBy (.ref a) (.str "__class__" tk) false) Q E ⟨h, g, d, t, os⟩ := by
  have L2 := looks_findIn (M := model prog w) X e.ga
  have L3 := looks_findIn (M := model prog w) X e.gt
  have f3 := FB.ga.bind (.ref a)
  have hx2 : (Value.builtin "BaseException.__getattribute__" == Value.builtin "object.__getattribute__") = false := by decide +kernel
  have hx1 : (onTheHeap (Value.ref C) && Value.builtin "BaseException.__getattribute__" == Value.builtin "object.__getattribute__") = false := by rw [hx2]; rfl
  repeat (any_goals (first | assumption | (with_reducible refine wpAny_loadPart_at hx ?_; rw [hc]) | with_reducible refine L2.at ?_ | with_reducible refine L3.at ?_ | wp_step))
  refine codeAny_call_builtin FB.ga.plain F.entry_bexc_ga (exc_check_ga X e hx hc (exc_cls_entry X e hx hc ?_))
  repeat (any_goals (first | assumption | wp_step))
theorem exc_cls_attr {Q : Option Value → Shared → Prop} (FB : ExcAttrBase "ValueError" veTail) (X : K.In h) (e : ErrC K C) (hx : h.get? a = some o) (hc : o.cls = .ref C) (hq : Q (some (.ref C)) ⟨h, g, d, t + 1, os⟩) :
    wpAny (model prog w) A (getAttr? (.ref a) "__class__") Q E ⟨h, g, d, t, os⟩ := by
  unfold getAttr? getAttrBy?
  repeat (any_goals (first | assumption | with_reducible apply exc_cls_by FB X e hx hc | wp_step))
def excAt (a C : Addr) (h : Heap) : Prop := ∃ oe vs, h.get? a = some oe ∧ oe.cls = .ref C ∧ oe.data = .fields vs
theorem kitx_exc (e : ErrC K C) : KitX K (.ref a) (.ref C) (excAt a C) where
  ty := fun _ _ _ ⟨_, _, h1, h2, _⟩ => exc_type h1 h2
  it := fun _ _ X _ => by
    obtain ⟨cd, hcd⟩ := Option.isSome_iff_exists.mp e.lk
    unfold clsIn at hcd
    split at hcd
    · rename_i ho
      intro A' Q' E' s' k q
      unfold isType loadHead
      exact wpAny_bind (wpAny_loadPart (k _ _ (X _ _ ho)) (wpAny_pure q))
    · cases hcd
  ne := fun h tp dd its n sl X htp => by
    refine Bool.eq_false_iff.mpr fun q => ?_
    have e1 : C = tp := Value.ref.inj (beq_iff_eq.mp q)
    subst e1
    obtain ⟨cd, hcd⟩ := Option.isSome_iff_exists.mp e.lk
    unfold clsIn at hcd
    split at hcd
    · rename_i ho
      have z := (X _ _ ho).symm.trans htp
      cases z
    · cases hcd
  ca := fun {_ _ _ _ _ s} X ⟨_, _, h1, h2, _⟩ k => by
    obtain ⟨h, g, d, t, os⟩ := s
    exact exc_cls_attr F.attrBase_ValueError X e h1 h2 k
end
end L2
namespace L2
open PySem PySem.Spec PySem.Calls PyProof.Rows
section
variable {X : Cx}
end
set_option genInjectivity false in
set_option genSizeOf false in
structure RoomH (k : Nat) (A : Around) : Prop where
  dp : A.depth + 3 * k + 5 < recursionLimit
  un : A.units + 16 * k + 200 < cLine
  gd : A.guards = some []
theorem Room.h {k : Nat} {A : Around} (r : Room k A) : RoomH k A := ⟨r.dp, r.un, r.gd⟩
theorem RoomH.r {k : Nat} {A : Around} (r : RoomH k A) : Room k { A with handled := none } := ⟨rfl, r.dp, r.un, r.gd⟩
def cxH (P : Program) (w : World) (K : PySem.W.Frag) (mg : Str → Option Value) (base : Heap) (N : List Str) (qual : Str) (scope : Scope) (f : Addr) (cd : Value) (A : Around) (outer : List Env) (s : Shared) (H : Hp) : Cx :=
  { cxOf CX0 P w K mg base N qual scope f cd A outer s H E0 with calm := false, xe := fun _ _ => False }
theorem kit_ref {K : PySem.W.Frag} {C D : Addr} {cd : ClassData} {b : Bool} (hc : PySem.W.clsIn K D = some cd) (ht : PySem.W.typeIn K (.ref D) = some (.type "type")) (hs : PySem.W.subIn K (.ref C) (.ref D) = some b) (he : C = D → b = true) : PySem.W.kitOne K (.ref C) (.ref D) = some b := by
  unfold PySem.W.kitOne
  by_cases z : C = D
  · rw [if_pos (by simp [z]), he z]
  · rw [if_neg (by simpa using z)]
    unfold PySem.W.kitCls
    dsimp only
    rw [hc, ht, if_pos (by simp)]
    exact hs
theorem kit_ve {K : PySem.W.Frag} {C : Addr} {b : Bool} (hs : PySem.W.subIn K (.ref C) (.type "ValueError") = some b) : PySem.W.kitOne K (.ref C) (.type "ValueError") = some b := by
  unfold PySem.W.kitOne
  rw [if_neg (by simp)]
  unfold PySem.W.kitCls
  dsimp only
  rw [if_pos (by decide +kernel)]
  exact hs
section
variable {D : Ends} {σ : St} {H : Hp} {K : PySem.W.Frag} {Q : VK} {t : TA}
theorem r_callX {sp : Sp} {Ef : St → XK} : tCallX sp Ef t σ H Q = t σ H fun vs H1 => sp vs H1 Q (Ef σ) := rfl
theorem bt_ValueError : bootBuiltins "ValueError" = some (.type "ValueError") := by decide +kernel
end
end L2
namespace L2
open PySem PySem.Spec PySem.Calls PyProof.Rows
section
variable {X : Cx}
def rCatA (K : PySem.W.Frag) : R2 := fun x y H Q => ∃ a b xs ys, x = .ref a ∧ y = .ref b ∧ SqT K H a xs ∧ SqT K H b ys ∧ xs.length + ys.length ≤ sizeLine ∧ ∀ p H', Same H H' → SqT K H' p (xs ++ ys) → Q (.ref p) H'
theorem op_catA : OpR X (binaryOp .Add) (rCatA X.K) := by
  intro pins s σ H x y v u Q I rx ry h
  obtain ⟨a, b, xs, ys, rfl, rfl, ha, hb, hz, q⟩ := h
  by_cases hx : xs = []
  · subst hx
    cases rx
    cases ry
    obtain ⟨its, r1, p1, _⟩ := I.tuple ha
    obtain ⟨its2, r2, p2, _⟩ := I.tuple hb
    cases r1
    obtain ⟨⟨cls, dd, data, sl⟩, ho, hc, n, hd⟩ := id p1
    obtain ⟨⟨cls2, dd2, data2, sl2⟩, ho2, hc2, n2, hd2⟩ := id p2
    simp only at hc hd hc2 hd2
    subst hc hd hc2 hd2
    exact concat_meets ⟨_, ho, rfl⟩ ⟨_, ho2, rfl⟩ noFill_tuple_add seq_tuple_add PySem.F.slot_tuple_add PySem.F.entry_tuple_add (PySem.F.args_tuple_add_2 _ _)
      (tuple_addW0 a b _ _ n n2 dd dd2 sl sl2 (by simp)) ⟨ho, ho2, ⟨.ref b, H, I, rfl, q b H (.refl H) (by simpa using hb)⟩⟩
  · exact op_catT pins s σ H _ _ v u Q I rx ry ⟨a, b, xs, ys, rfl, rfl, ha, hb, hx, hz, fun z => q a H (.refl H) (by rw [z, List.append_nil]; exact ha), fun z p hp => q p _ (fun b o e => by rw [upd_ne (ne_of_none e hp)]; exact e) (.of upd_same)⟩
end
end L2
namespace L2
open PySem PySem.Spec PyProof.Rows
section
variable {P : Program} {w : World} {K : PySem.W.Frag} {mg : Str → Option Value} {base : Heap} {N : List Str} {qual : Str} {scope : Scope} {f : Addr} {cd : Value} {A : Around} {outer : List Env} {s : Shared} {H : Hp} {X : Cx}
theorem r_KH : (cxH P w K mg base N qual scope f cd A outer s H).K = K := rfl
theorem r_Kt {pn : List (Addr × Obj)} {Ef : St → XK} : (Xt X pn Ef).K = X.K := rfl
theorem r_Kh {pn : List (Addr × Obj)} {ea : Addr} : (Xh X pn ea).K = X.K := rfl
theorem r_Kn {g : Value → Shared → Prop} : (X.wish g).K = X.K := rfl
end
end L2
namespace L2
open PySem PySem.Spec PySem.Calls PyProof.Rows
section
variable {X : Cx}
def rSlS : V → Option Int → Option Int → Hp → VK → Prop := fun x lo hi H Q => ∃ z, x = .str z ∧ z.length ≤ sizeLine ∧ Q (.str (Txt.slice z lo hi)) H
end
section
variable {H : Hp} {Q : VK}
theorem r_ixS {z : Str} {i : Int} : rIxS (.str z) (.int i) H Q = ∃ c, z.length ≤ sizeLine ∧ atI z.cps.toList i = some c ∧ Q (.str ⟨#[c]⟩) H := by
  unfold rIxS
  exact propext ⟨fun ⟨a, b, c, h1, h2, h⟩ => by cases h1; cases h2; exact ⟨c, h⟩, fun ⟨c, h⟩ => ⟨z, i, c, rfl, rfl, h⟩⟩
theorem r_slS {z : Str} {lo hi : Option Int} : rSlS (.str z) lo hi H Q = (z.length ≤ sizeLine ∧ Q (.str (Txt.slice z lo hi)) H) := by
  unfold rSlS
  exact propext ⟨fun ⟨a, h1, h⟩ => by cases h1; exact h, fun h => ⟨z, rfl, h⟩⟩
def rAddS : R2 := fun x y H Q => ∃ i j, x = .str i ∧ y = .str j ∧ i.length + j.length ≤ sizeLine ∧ Q (.str (i ++ j)) H
theorem r_addS {i j : Str} : rAddS (.str i) (.str j) H Q = (i.length + j.length ≤ sizeLine ∧ Q (.str (i ++ j)) H) := by
  unfold rAddS
  exact propext ⟨fun ⟨a, b, h1, h2, h⟩ => by cases h1; cases h2; exact h, fun h => ⟨i, j, rfl, rfl, h⟩⟩
end
section
variable {K : PySem.W.Frag} {σ : St} {H : Hp} {Q : VK} {te : TE} {ta : TA}
theorem r_rng2 {R : It → Hp → Prop} : iRng2 ta σ H R = ta σ H fun vs H1 => ∃ i j : Int, vs = [.int i, .int j] ∧ (-(2 ^ 62) ≤ i ∧ i < 2 ^ 62 ∧ -(2 ^ 62) ≤ j ∧ j < 2 ^ 62) ∧ R (Itr i (j - i).toNat) H1 := rfl
end
section
variable {X : Cx}
end
end L2
namespace L2
open PySem PySem.Spec PyProof.Rows
def All2 {α β : Type} (P : α → β → Prop) : List α → List β → Prop
  | [], [] => True
  | a :: as, b :: bs => P a b ∧ All2 P as bs
  | _, _ => False
theorem All2.len {α β : Type} {P : α → β → Prop} : ∀ {as : List α} {bs : List β}, All2 P as bs → as.length = bs.length
  | [], [], _ => rfl
  | _ :: as, _ :: bs, ⟨_, h2⟩ => by rw [List.length_cons, List.length_cons, All2.len h2]
  | [], _ :: _, z => z.elim
  | _ :: _, [], z => z.elim
theorem All2.eq {α β : Type} {f : α → β} : ∀ {as : List α} {bs : List β}, All2 (fun a b => b = f a) as bs → bs = as.map f
  | [], [], _ => rfl
  | a :: as, b :: bs, ⟨h1, h2⟩ => by rw [h1, All2.eq h2]; rfl
  | [], _ :: _, z => z.elim
  | _ :: _, [], z => z.elim
section
variable {K : PySem.W.Frag} {σ : St} {H : Hp} {Q : VK} {te : TE} {tt : TT}
end
theorem cutV_dropL {vs : List V} {i : Nat} (h : i ≤ vs.length) : cutV vs (some (i : Int)) none = vs.drop i := by
  unfold cutV
  have h1 : HT.sIx vs.length 0 (some (i : Int)) = i := by
    show (if ((i : Nat) : Int) < 0 then (((i : Nat) : Int) + (vs.length : Int)).toNat else min ((i : Nat) : Int).toNat vs.length) = _
    rw [if_neg (by omega)]
    omega
  have h2 : HT.sIx vs.length vs.length none = vs.length := rfl
  rw [h1, h2, List.take_of_length_le (by rw [List.length_drop]; omega)]
section
variable {K : PySem.W.Frag} {ns : List Int} {t sc p : Addr} {H₀ H H' : Hp}
theorem CurS.free (c : CurS K ns t sc H₀ H) (hp : H p = none) : H₀ p = none ∨ p = t := by
  by_cases z : p = t
  · exact .inr z
  · left
    cases q : H₀ p with
    | none => rfl
    | some o =>
      have := c.ext _ _ (fun z' => absurd z' z) q
      rw [hp] at this; cases this
theorem TapeS.ne (h : TapeS K ns t sc H) (hp : H p = none) : p ≠ t := fun z => by
  obtain ⟨_, _, _, e, _⟩ := h
  rw [z, e] at hp; cases hp
end
end L2
namespace L2
open PySem PySem.Spec PyProof.Rows
section
variable {K : PySem.W.Frag} {t : Addr} {H0 : Hp} {σ : St} {d : PyData} {ds : List PyData} {ta : TE} {tr : TA}
end
end L2
namespace L2
open PySem PySem.Spec PyProof.Rows
section
variable {prog : Program} {w : World} {A : Around} {I : Addr} {fp wr : List Addr} {G : Array GenState → Array GenState → Prop} {n : Nat} {P : Nat → Value → Prop} {St : Nat → Shared → Prop} {R : Result → Shared → Prop}
end
section
variable {prog : Program} {w : World} {A : Around} {E : Value → Shared → Prop} {s : Shared}
end
section
variable {X : Cx}
end
end L2
namespace L2
open PySem PySem.Spec PyProof.Rows
section
variable {H : Hp} {Q : VK}
theorem r_leS {a b : Str} : rLeS (.str a) (.str b) H Q = Q (.bl (M.leS a b)) H := by
  unfold rLeS
  exact propext ⟨fun ⟨a, b, h1, h2, h⟩ => by cases h1; cases h2; exact h, fun h => ⟨a, b, rfl, rfl, h⟩⟩
end
theorem comp_strB {σ : St} {H : Hp} {Q : VK} {te ta : TE} {x : Str} (f : Nat → Bool) (hta : ∀ R : VK, R (.str x) H → ta σ H R) (ha : x.cps.all (· < 128) = true) (hz : x.cps.size ≤ 1000)
    (elt : ∀ c H', c ∈ x.cps.toList → Same H H' → ∀ Q' : VK, (∀ H'', Same H' H'' → Q' (.bl (f c)) H'') → te (some (.str (M.sgn c)) :: σ) H' Q')
    (q : ∀ D H', Same H H' → H' D = some (.lst ((x.cps.toList.map f).map V.bl)) → Q (.ref D) H') : tComp (iStr ta) tTrue te σ H Q :=
  comp_str (fun c => .bl (f c)) hta ha hz elt fun D H' S _ h => q D H' S (by rw [h, List.map_map]; rfl)
end L2
namespace HT
open PySem PySem.Spec PyProof.Rows
section
variable {prog : Program} {w : World} {A : Around} {E : Value → Shared → Prop} {s : Shared}
theorem whole_tup {t sl : Addr} {its : Array Value} {vl vu : Value} {lo hi : Option Int} {Q : Value → Shared → Prop} (ht : IsTup s.heap t its) (hs : s.heap.IsSliceOf sl vl vu .none) (pl : IsPart vl lo) (pu : IsPart vu hi)
    (e0 : sIx its.size 0 lo = 0) (e1 : sIx its.size its.size hi = its.size) (h : Q (.ref t) s) : wpAny (model prog w) A (getItem (.ref t) (.ref sl)) Q E s := by
  obtain ⟨os, g1, g2, g3⟩ := id hs
  have ty : s.TypeIs (.ref sl) "slice" := ⟨os, g1, g2⟩
  unfold getItem
  try with_reducible refine wpAny_holding (?_)
  first | refine wpAny_bind (wpAny_pure (?_)) | skip
  refine wpAny_bind (wpAny_sequenceKey ht.typeIs (by decide) (?_))
  refine wpAny_bind (wpAny_callSpecial?_slot (name := Str.ofString "__getitem__") ht.typeIs PyProof.Rows.slot_tuple_getitem (wpAny_call_entry PyProof.Rows.slot_tuple_getitem ht.typeIs entry_tuple_getitem (?_) (args_tuple_getitem _ _)))
  show wpAny _ _ ((Builtin.Tuple.tupleItemsOf (.ref t)) >>= _) _ _ s
  refine wpAny_bind (tupleItemsOf_ ht (?_))
  refine wpAny_bind (wpAny_typeOf ty (?_))
  rw [if_pos (by decide)]
  refine wpAny_bind (sliceApplied_gen hs pl pu (?_))
  rw [e0, e1]
  have yes : (((0 : Nat) : Int) == 0 && (1 : Int) == 1 && (its.size - 0) == its.size) = true := by simp
  show wpAny _ _ (if (((0 : Nat) : Int) == 0 && (1 : Int) == 1 && (its.size - 0) == its.size) = true then _ else _) _ _ s
  rw [if_pos yes]
  obtain ⟨o, ho, hc, _⟩ := id ht
  have tt : s.TypeIs (.ref t) "tuple" := ⟨o, ho, hc⟩
  unfold Builtin.Tuple.tupleIsExact
  first
    | exact wpAny_bind (wpAny_bind (wpAny_typeOf tt (wpAny_pure (by rw [if_pos (by decide)]; exact wpAny_bind (wpAny_rule (wpAny_pure ⟨_, rfl, wpAny_pure h⟩))))))
    | exact wpAny_bind (wpAny_bind (wpAny_typeOf tt (wpAny_pure (wpAny_bind (wpAny_rule (wpAny_pure ⟨_, rfl, wpAny_pure h⟩))))))
    | skip
end
end HT
namespace L2
open PySem PySem.Spec PyProof.Rows
def rSlA (K : PySem.W.Frag) : V → Option Int → Option Int → Hp → VK → Prop := fun x lo hi H Q => ∃ a xs, x = .ref a ∧ SqT K H a xs ∧ ∀ p H', Same H H' → SqT K H' p (cutV xs lo hi) → Q (.ref p) H'
theorem sl_tupA {X : Cx} : SlR X (rSlA X.K) := by
  intro pins s σ H x v vl vu lo hi sl Q I rx hs pl pu h
  obtain ⟨a, xs, rfl, hx, q⟩ := h
  by_cases c : HT.sIx xs.length 0 lo = 0 ∧ HT.sIx xs.length xs.length hi = xs.length
  · cases rx
    obtain ⟨its, r, ht, hz⟩ := I.tuple hx
    have hlen : its.toArray.size = xs.length := by rw [List.size_toArray]; exact r.length.symm
    refine ⟨"tuple", _, PyProof.Rows.slot_tuple_getitem.lookup, ht.typeIs, HT.whole_tup ht hs pl pu (by rw [hlen]; exact c.1) (by rw [hlen]; exact c.2) ⟨.ref a, H, I, rfl, q a H (.refl H) ?_⟩⟩
    have e : cutV xs lo hi = xs := by
      unfold cutV
      rw [c.1, c.2]
      simp
    rw [e]
    exact hx
  · exact sl_tup pins s σ H _ v vl vu lo hi sl Q I rx hs pl pu ⟨a, xs, rfl, hx, c, fun p hp => q p _ (same_new hp _) (.of upd_same)⟩
theorem slA_tup {X : Cx} : SlR X (rSlA X.K) := sl_tupA
section
variable {K : PySem.W.Frag} {t : Addr} {H0 H : Hp} {σ : St} {d : PyData} {ds es : List PyData} {ta tb : TE} {tr : TA} {Q : VK}
end
section
open M
def Gd (W D : Nat) (d : PyData) : Prop := smD d = true ∧ wtD d ≤ W ∧ d.depth ≤ D
theorem gdl {W D n : Nat} : ∀ {ds : List PyData}, (∀ d ∈ ds, Gd W D d) → ds.length ≤ n → smL ds = true ∧ wtL ds ≤ n * (W + 2) ∧ PyData.depthAll ds ≤ D
  | [], _, _ => ⟨rfl, by simp only [wtL]; omega, by simp [PyData.depthAll]⟩
  | d :: ds, h, hn => by
    obtain ⟨m, rfl⟩ : ∃ m, n = m + 1 := ⟨n - 1, by simp at hn; omega⟩
    obtain ⟨i1, i2, i3⟩ := gdl (n := m) (fun e he => h e (List.mem_cons_of_mem _ he)) (by simp at hn; omega)
    obtain ⟨g1, g2, g3⟩ := h d (List.mem_cons_self ..)
    refine ⟨by simp only [smL, g1, i1]; rfl, ?_, ?_⟩
    · simp only [wtL]
      rw [Nat.add_mul]
      omega
    · simp only [PyData.depthAll]
      omega
theorem Gd.tup {W D n : Nat} {ds : List PyData} (h : ∀ d ∈ ds, Gd W D d) (hn : ds.length ≤ n) (hz : n ≤ 1000 := by omega) : Gd (n * (W + 2) + 3) (D + 1) (.tuple ds) := by
  obtain ⟨i1, i2, i3⟩ := gdl h hn
  refine ⟨?_, ?_, ?_⟩
  · simp only [smD, i1, Bool.and_true, decide_eq_true_eq]; omega
  · simp only [wtD]; omega
  · simp only [PyData.depth]; omega
theorem Gd.str {x : Str} {n : Nat} (h : asc x) (hn : x.length ≤ n) (hz : n ≤ 1000 := by omega) : Gd (10 * n + 2) 0 (.str x) := by
  refine ⟨?_, ?_, ?_⟩
  · simp only [smD, Bool.and_eq_true, List.all_eq_true, decide_eq_true_eq]
    exact ⟨h, by omega⟩
  · simp only [wtD]; omega
  · simp [PyData.depth]
theorem Gd.int {i : Int} (h : i.natAbs < 10 ^ 80) : Gd 81 0 (.int i) := ⟨by simp only [smD, decide_eq_true_eq]; exact h, by simp only [wtD]; omega, by simp [PyData.depth]⟩
theorem Gd.bl {b : Bool} : Gd 5 0 (.bool b) := ⟨rfl, by simp [wtD], by simp [PyData.depth]⟩
theorem Gd.non : Gd 4 0 .none := ⟨rfl, by simp [wtD], by simp [PyData.depth]⟩
end
end L2
namespace L2
open PySem PySem.Spec PyProof.Rows
def rNotInT : R2 := fun x y H Q => ∃ i j, x = .str i ∧ y = .str j ∧ Q (.bl (!Txt.contains j i)) H
theorem op_notInT {X : Cx} : OpR X (compareOp .NotIn) rNotInT := by
  intro pins s σ H x y v u Q I rx ry h
  obtain ⟨i, j, rfl, rfl, q⟩ := h
  obtain ⟨t, rfl⟩ := rx
  obtain ⟨t', rfl⟩ := ry
  exact PySem.SB.notContains ⟨.bl _, H, I, rfl, q⟩
theorem r_notInT {i j : Str} {H : Hp} {Q : VK} : rNotInT (.str i) (.str j) H Q = Q (.bl (!Txt.contains j i)) H := by
  refine propext ⟨fun ⟨_, _, e1, e2, q⟩ => ?_, fun q => ⟨_, _, rfl, rfl, q⟩⟩
  cases e1; cases e2; exact q
theorem str_of {g : TG} {t : TS} {D : Ends} {σ : St} {H : Hp} {x : Str} (Pv : Nat → St → Hp → Prop) (h0 : Pv 0 σ H)
    (hs : ∀ (Pv' : Nat → St → Hp → Prop), (∀ i σ H, Pv i σ H → Pv' i σ H) → ∀ i c σ H, x.cps.toList[i]? = some c → Pv i σ H → g (.str (M.sgn c)) σ H fun σ2 H2 => t { D with nx := Pv' (i + 1), ct := Pv' (i + 1), bk := D.nx } σ2 H2) (hd : ∀ σ H, Pv x.cps.size σ H → D.nx σ H) : ForR g t D σ (Its x) H := by
  refine ⟨fun i m σ H => m = x.cps.size - i ∧ i ≤ x.cps.size ∧ Pv i σ H, ⟨x.cps.size, by simp, Nat.zero_le _, h0⟩, ?_⟩
  rintro i m σ H ⟨rfl, hi, p⟩
  by_cases hlt : i < x.cps.size
  · refine .inr ⟨hlt, Pv (i + 1), fun σ' H' p' => ⟨x.cps.size - (i + 1), by omega, rfl, hlt, p'⟩, fun v H' y => ?_⟩
    obtain ⟨e, c, hc, rfl⟩ := y
    subst e
    exact hs Pv (fun _ _ _ z => z) i c σ _ (by rw [← hc]; simp) p
  · have e : i = x.cps.size := by omega
    subst e
    exact .inl ⟨Nat.le_refl _, hd σ H p⟩
theorem r_iS {te : TE} {σ : St} {H : Hp} {R : It → Hp → Prop} : iStr te σ H R = te σ H fun v H1 => ∃ x, v = .str x ∧ x.cps.all (· < 128) = true ∧ R (Its x) H1 := rfl
end L2
namespace L2
open PySem PySem.Spec PySem.Calls PyProof.Rows PySem.W
section
variable {prog : Program} {w : World} {A : Around} {E : Value → Shared → Prop} {h : Heap} {g : Array GenState} {d : Drawn} {t : Nat} {os : OsState} {a C : Addr} {o : Obj} {od : Option Obj} {K : Frag} {f : Str} {v : Value}
def ownThenVE : List Value → Bool
  | .ref _ :: l => ownThenVE l
  | l => l == veTail
theorem refuse_own (self : Value) : ∀ l : List Value, ownThenVE l = true → refuseLoop self "__setattr__" l = pure ()
  | .ref C :: l, q => by rw [refuseLoop_ref]; exact refuse_own self l q
  | [], q => by cases q
  | .type n :: l, q => by
    have e : Value.type n :: l = veTail := beq_iff_eq.mp q
    rw [e]
    exact PySem.F.store_ValueError.passes self
  | .none :: l, q => by cases (beq_iff_eq.mp q : Value.none :: l = veTail)
  | .bool b :: l, q => by cases (beq_iff_eq.mp q : Value.bool b :: l = veTail)
  | .int i t :: l, q => by cases (beq_iff_eq.mp q : Value.int i t :: l = veTail)
  | .str s t :: l, q => by cases (beq_iff_eq.mp q : Value.str s t :: l = veTail)
  | .bytes s t :: l, q => by cases (beq_iff_eq.mp q : Value.bytes s t :: l = veTail)
  | .float s t :: l, q => by cases (beq_iff_eq.mp q : Value.float s t :: l = veTail)
  | .builtin s :: l, q => by cases (beq_iff_eq.mp q : Value.builtin s :: l = veTail)
set_option genInjectivity false in
set_option genSizeOf false in
structure ErrA (K : Frag) (C : Addr) (f : Str) : Prop where
  sa : findIn K (.ref C) "__setattr__" = some (some (.builtin "object.__setattr__"))
  na : findIn K (.ref C) f = some none
  hd : hasDictIn K C = true
  ov : (clsIn K C).any (fun cd => ownThenVE cd.mro) = true
  ob : mroIn K C (.type "object") = some true
theorem exc_at_entry {tk : Tok} {Q : Fin → Shared → Prop} (X : K.In h) (I : InstAt h a o C od) (hf : findObj K C od f = some (.value v)) (hq : Q (.done (.ret v)) ⟨h, g, d, t, os⟩) :
    wpAny (model prog w) A (Builtin.«object.__getattribute__» ⟨[.ref a, .str f tk], []⟩) Q E ⟨h, g, d, t, os⟩ := by
  have L0 := I.type (M := model prog w)
  have L1 := looks_find (M := model prog w) X I hf
  unfold Builtin.«object.__getattribute__»
  repeat (any_goals (first | assumption | with_reducible refine L0.at ?_ | with_reducible refine L1.at ?_ | wp_step))
theorem exc_at_get {expr : Bool} {Q : Value → Shared → Prop} (X : K.In h) (e : ErrC K C) (I : InstAt h a o C od) (hf : findObj K C od f = some (.value v)) (hh : handedIn v = true) (hq : Q v ⟨h, g, d, t + 1, os⟩) :
    wpAny (model prog w) A (getAttr (.ref a) f expr) Q E ⟨h, g, d, t, os⟩ := by
  have hx := I.at_
  have hc := I.cls
  have L2 := looks_findIn (M := model prog w) X e.ga
  have L3 := looks_findIn (M := model prog w) X e.gt
  have FB := PySem.F.attrBase_ValueError
  have f3 := FB.ga.bind (.ref a)
  have hx2 : (Value.builtin "BaseException.__getattribute__" == Value.builtin "object.__getattribute__") = false := by decide +kernel
  have hx1 : (onTheHeap (Value.ref C) && Value.builtin "BaseException.__getattribute__" == Value.builtin "object.__getattribute__") = false := by rw [hx2]; rfl
  have hho := handedOut_of hh
  unfold getAttr getAttrBy
  repeat (any_goals (first | assumption | (with_reducible refine wpAny_loadPart_at hx ?_; rw [hc]) | with_reducible refine L2.at ?_ | with_reducible refine L3.at ?_ | wp_step))
  rw [if_neg (by cases expr <;> decide)]
  repeat (any_goals (first | assumption | (with_reducible refine wpAny_loadPart_at hx ?_; rw [hc]) | with_reducible refine L2.at ?_ | with_reducible refine L3.at ?_ | wp_step))
  refine codeAny_call_builtin FB.ga.plain F.entry_bexc_ga (exc_check_ga X e hx hc (exc_at_entry X I hf ?_))
  repeat (any_goals (first | assumption | wp_step))
theorem exc_at_set {s : Shared} {vs : Array Value} {sl : Array (Option Value)} {Q : Unit → Shared → Prop} (X : K.In s.heap) (c : ErrA K C f) (hx : s.heap.get? a = some ⟨.ref C, none, .fields vs, sl⟩)
    (k : ∀ h' t', h'.get? a = some ⟨.ref C, some s.heap.objs.size, .fields vs, sl⟩ → h'.Ns1 s.heap.objs.size (fun y => if y = f then some v else none) → (∀ b u, b ≠ a → s.heap.get? b = some u → h'.get? b = some u) → Q () { s with heap := h', toks := t' }) :
    wpAny (model prog w) A (setAttr (.ref a) f v) Q E s := by
  have SF := PySem.F.store_object
  have I : InstAt s.heap a ⟨.ref C, none, .fields vs, sl⟩ C none := ⟨hx, rfl, rfl, True.intro⟩
  obtain ⟨cd, hc, ho⟩ := any_some c.ov
  obtain ⟨cd', hc', hdd⟩ := any_some c.hd
  have ecd : cd' = cd := by rw [hc] at hc'; exact (Option.some.inj hc').symm
  subst ecd
  have sub : Looks (model prog w) s.heap (isInstance (.ref a) (.type "object")) true := I.type.andThen (looks_mroIn X c.ob)
  refine set_plain X I c.sa ?_
  refine codeAny_call_builtin SF.slot.plain SF.entry (@check_slot (model prog w) _ _ { s with toks := s.toks + 1 } "object.__setattr__" "object" "__setattr__" (.ref a) [.str f s.toks, v] [] _ SF.kind SF.split sub (SF.args (.ref a) (.str f s.toks) v) ?_)
  have hm : Looks (model prog w) s.heap (mroOf (.ref C)) cd'.mro := (looks_clsIn X hc).andThen .now
  rw [osa_eq, refuse_eq]
  refine wpAny_bind (wpAny_bind (I.type.here (s := { s with toks := s.toks + 1 }) (wpAny_bind (hm.here (s := { s with toks := s.toks + 1 }) ?_))))
  rw [refuse_own _ _ ho]
  refine wpAny_pure (wpAny_bind (I.type.here (s := { s with toks := s.toks + 1 }) (wpAny_bind ((looks_findIn X c.na).here (s := { s with toks := s.toks + 1 }) (wpAny_bind (wpAny_pure ?_))))))
  refine wpAny_bind (wpAny_pure (wpAny_bind (wpAny_bind (wpAny_loadPart (s := { s with toks := s.toks + 1 }) hx (wpAny_bind (Looks.here (s := { s with toks := s.toks + 1 }) (looks_clsIn X hc) ?_))))))
  rw [hdd]
  have ax : a ≠ s.heap.objs.size := Nat.ne_of_lt (Heap.lt_size hx)
  have hx1 : (s.heap.push { cls := .type "dict", data := .dict #[] }).get? a = some ⟨.ref C, none, .fields vs, sl⟩ := Heap.get?_push_of_some _ hx
  refine wpAny_bind (wpAny_alloc' ?_)
  refine wpAny_bind (wpAny_update' hx1 ?_)
  refine wpAny_pure ?_
  have gd : ((s.heap.push { cls := .type "dict", data := .dict #[] }).update a fun o => { cls := o.cls, dict := some s.heap.objs.size, data := o.data, slots := o.slots }).get? s.heap.objs.size = some { cls := .type "dict", data := .dict #[] } := (Heap.get?_update_ne _ _ _ _ ax.symm).trans (Heap.get?_push_at rfl rfl)
  have nd : ((s.heap.push { cls := .type "dict", data := .dict #[] }).update a fun o => { cls := o.cls, dict := some s.heap.objs.size, data := o.data, slots := o.slots }).Ns s.heap.objs.size (fun _ => none) := ⟨_, #[], _, gd, rfl, (fun e he => absurd he (by simp)), fun _ => rfl⟩
  refine wpAny_bind (wpAny_pure (wpAny_bind (wpAny_nsSet1 (Heap.Ns1.of_empty nd) fun h' hn hs => ?_)))
  obtain ⟨oD, eD, pD, h1, h2, h3⟩ := hn.count (Within.cons f v Within.nil)
  refine wpAny_bind (wpAny_lookBehind h1 (by rw [h2]; exact pastItsLine_dict (Nat.le_trans h3 (by rw [List.length_cons, List.length_nil, sizeLine_eq]; omega))) (wpAny_pure (k h' _ ?_ hn fun b u nb q => ?_)))
  · exact (hs.2 a ax).trans (Heap.get?_update_self _ hx1 rfl)
  · exact (hs.2 b (Nat.ne_of_lt (Heap.lt_size q))).trans ((Heap.get?_update_ne _ _ _ _ nb).trans (Heap.get?_push_of_some _ q))
end
end L2
namespace L2
open PySem PySem.Spec PySem.Calls PyProof.Rows
theorem dict_mapF (k : Array Value → Array Value) (o : Obj) : (o.mapFields k).dict = o.dict := by obtain ⟨c, d, dt, s⟩ := o; cases dt <;> rfl
def TrAt (h base : Heap) (e : Addr) (cls a0 : Value) (dc : Option Addr) (fl : Value) : Prop :=
  ∃ (oe : Obj) (vs : Array Value) (T : Addr) (oT : Obj) (ts : Array Value), (h.get? e = some oe ∧ oe.cls = cls ∧ oe.dict = dc ∧ oe.data = .fields vs) ∧ (vs[0]? = some a0 ∧ vs[1]? = some (.ref T)) ∧ (base.get? T = none ∧ T ≠ e) ∧ h.get? T = some oT ∧ oT.data = .fields ts ∧ ts[3]? = some fl
set_option genInjectivity false in
set_option genSizeOf false in
structure Fly (base : Heap) (l : List Env) (e : Addr) (cls a0 : Value) (dc : Option Addr) (fl : Value) (h : Heap) : Prop where
  st : base.StaysIn h
  nw : base.get? e = none
  ff : h.FunFrames base l
  tr : TrAt h base e cls a0 dc fl
theorem Fly.first {base h : Heap} {l : List Env} {e : Addr} {cls a0 : Value} {dc : Option Addr} {fl : Value} (x : Fly base l e cls a0 dc fl h) : ∃ oe vs, h.get? e = some oe ∧ oe.cls = cls ∧ oe.dict = dc ∧ oe.data = .fields vs ∧ vs[0]? = some a0 := by
  obtain ⟨_, _, _, oe, vs, _, _, _, ⟨h1, h2, h3, h4⟩, ⟨h5, _⟩, _⟩ := x
  exact ⟨oe, vs, h1, h2, h3, h4, h5⟩
section
variable {M : Model} {A : Around} {E : Value → Shared → Prop} {s : Shared} {base : Heap} {env : Env} {outer l : List Env} {L e : Addr} {cls a0 fl : Value} {dc : Option Addr}
theorem fly_entry {oe : Obj} {vs : Array Value} {head : Value} {b0 : Bool} {Q : Unit → Shared → Prop} (hfr : A.frames = some (env :: outer)) (hl : s.heap.FunFrames base (env :: outer)) (hf : env.frame = some L)
    (he : s.heap.get? e = some oe) (hkb : base.StaysIn s.heap) (hen : base.get? e = none) (hd : oe.data = .fields vs) (hsz : 1 < vs.size) (h0 : vs[0]? = some a0)
    (k : ∀ h', Fly base (env :: outer) e oe.cls a0 oe.dict (rawInt L) h' → s.heap.UpToSlots h' → Q () { s with heap := h' }) :
    wpAny M A (do let a ← frameOf env; let pl ← entryPlaceOf L b0; let b ← EntryCells.newEntry head a .none (rawInt L) .none pl; setField (.ref e) 1 b) Q E s := by
  have nfr : e ∉ (env :: outer).filterMap (·.frame) := fun z => by
    obtain ⟨_, o, ho, nf⟩ := hl.mem z
    rw [he] at ho
    cases ho
    exact nf vs hd
  refine wpAny_bind (wpAny_frameOf_fun hfr hl hf fun h1 q1 => wpAny_bind (wpAny_entryPlaceOf fun pl hpl => ?_))
  unfold EntryCells.newEntry newFields
  refine wpAny_bind (wpAny_newObj_type ?_ (hpl.sizeOk5 _ _ _ _ _))
  have e1 : h1.get? e = some oe := (q1.2.1 e nfr).trans he
  have b1 : base.StaysIn h1 := fun b o z => (q1.2.1 b fun hm => by rw [(hl.mem hm).1] at z; cases z).trans (hkb b o z)
  have te : h1.objs.size ≠ e := Nat.ne_of_gt (Heap.lt_size e1)
  have e2 := Heap.get?_push_of_some (h := h1) { cls := .type "traceback", dict := none, data := .fields ([head, .ref L, .none, rawInt L, .none] ++ (if pl.isEmpty then List.replicate 6 Value.none else pl)).toArray } e1
  refine wpAny_setField e2 hd hsz (k _ ?_ ?_)
  all_goals
    have d3 := Obj.data_mapFields hd (·.setIfInBounds 1 (Value.ref h1.objs.size))
    have e3 := Heap.get?_update_self (Obj.mapFields (·.setIfInBounds 1 (Value.ref h1.objs.size))) e2 (Obj.isFreed_of_fields d3)
    have kp : ∀ b o, b ≠ e → h1.get? b = some o → ((h1.push { cls := .type "traceback", dict := none, data := .fields ([head, .ref L, .none, rawInt L, .none] ++ (if pl.isEmpty then List.replicate 6 Value.none else pl)).toArray }).update e (Obj.mapFields (·.setIfInBounds 1 (Value.ref h1.objs.size)))).get? b = some o :=
      fun b o ne q => (Heap.get?_update_other _ _ (Ne.symm ne)).trans (Heap.get?_push_of_some _ q)
    have nr : ∀ b o, s.heap.get? b = some o → (∀ vs, o.data ≠ .fields vs) → b ≠ e := fun b o q nf z => by rw [z, he] at q; cases q; exact nf vs hd
  · refine ⟨fun b o z => kp b o (fun q => by rw [q, hen] at z; cases z) (b1 b o z), hen, hl.of_keeps fun b o q nf => ?_, ?_⟩
    · obtain ⟨sl, z⟩ := q1.2.2 b o q
      exact ⟨_, kp b _ (nr b o q nf) z, rfl⟩
    · refine ⟨_, _, h1.objs.size, _, _, ⟨e3, Obj.cls_mapFields _ _, dict_mapF _ _, d3⟩, ⟨?_, by simp [hsz]⟩, ⟨b1.fresh, te⟩, (Heap.get?_update_other _ _ (Ne.symm te)).trans (Heap.get?_push_size h1 rfl), rfl, ?_⟩
      · rw [Array.getElem?_setIfInBounds_ne (by decide)]; exact h0
      · first | (simp; done) | (rcases hpl with rfl | ⟨_, _, _, _, _, _, _, rfl⟩ <;> simp)
  · intro b o q nf
    obtain ⟨sl, z⟩ := q1.2.2 b o q
    exact ⟨sl, kp b _ (nr b o q nf) z⟩
theorem fly_note1 {oe : Obj} {vs : Array Value} {Q : Unit → Shared → Prop} (hfr : A.frames = some (env :: outer)) (hl : s.heap.FunFrames base (env :: outer)) (hf : env.frame = some L) (he : s.heap.get? e = some oe) (hkb : base.StaysIn s.heap) (hen : base.get? e = none)
    (hd : oe.data = .fields vs) (h1 : vs[1]? = some .none) (h0 : vs[0]? = some a0) (k : ∀ h', Fly base (env :: outer) e oe.cls a0 oe.dict (rawInt L) h' → s.heap.UpToSlots h' → Q () { s with heap := h' }) : wpAny M A (noteFrame (.ref e) env) Q E s := by
  unfold noteFrame
  simp only [hf]
  refine wpAny_bind (wpAny_field he hd h1 ?_)
  rw [if_neg (by decide)]
  exact fly_entry hfr hl hf he hkb hen hd (Array.getElem?_eq_some_iff.mp h1).1 h0 k
theorem fly_note {Q : Unit → Shared → Prop} (hfr : A.frames = some (env :: outer)) (hf : env.frame = some L) (x : Fly base (env :: outer) e cls a0 dc .none s.heap)
    (k : ∀ h', Fly base (env :: outer) e cls a0 dc (rawInt L) h' → s.heap.UpToSlots h' → Q () { s with heap := h' }) : wpAny M A (noteFrame (.ref e) env) Q E s := by
  obtain ⟨x1, x2, x3, oe, vs, T, oT, ts, ⟨he, hc, hdc, hd⟩, ⟨h0, h1⟩, ⟨nT, Te⟩, hT, dT, h3⟩ := x
  subst hc; subst hdc
  unfold noteFrame
  simp only [hf]
  refine wpAny_bind (wpAny_field he hd h1 ?_)
  rw [if_pos (by simp)]
  refine wpAny_bind (wpAny_field hT dT h3 ?_)
  rw [if_neg (by simp [rawInt])]
  refine wpAny_bind (wpAny_setField hT dT (Array.getElem?_eq_some_iff.mp h3).1 ?_)
  have ot : ∀ b, b ≠ T → (s.heap.update T (Obj.mapFields (·.setIfInBounds 3 Value.none))).get? b = s.heap.get? b := fun b nb => Heap.get?_update_other _ _ (Ne.symm nb)
  have nr : ∀ b o, s.heap.get? b = some o → (∀ vs, o.data ≠ .fields vs) → b ≠ T := fun b o q nf z => by rw [z, hT] at q; cases q; exact nf ts dT
  exact fly_entry hfr (x3.of_keeps fun b o q nf => ⟨o, (ot b (nr b o q nf)).trans q, rfl⟩) hf ((ot e (Ne.symm Te)).trans he) (fun b o z => (ot b fun q => by rw [q, nT] at z; cases z).trans (x1 b o z)) x2 hd (Array.getElem?_eq_some_iff.mp h1).1 h0
    fun h' f' u' => k h' f' fun b o q nf => u' b o ((ot b (nr b o q nf)).trans q) nf
theorem fly_land {Q : Unit → Shared → Prop} (x : Fly base l e cls a0 dc fl s.heap) (k : ∀ h', Fly base l e cls a0 dc .none h' → s.heap.UpToSlots h' → Q () { s with heap := h' }) : wpAny M A (setFlight (.ref e) none) Q E s := by
  obtain ⟨x1, x2, x3, oe, vs, T, oT, ts, ⟨he, hc, hdc, hd⟩, ⟨h0, h1⟩, ⟨nT, Te⟩, hT, dT, h3⟩ := x
  have z3 : 3 < ts.size := (Array.getElem?_eq_some_iff.mp h3).1
  have ot : ∀ b, b ≠ T → (s.heap.update T (Obj.mapFields (·.setIfInBounds 3 ((none : Option Addr).elim Value.none fun f => rawInt f)))).get? b = s.heap.get? b := fun b nb => Heap.get?_update_other _ _ (Ne.symm nb)
  have nr : ∀ b o, s.heap.get? b = some o → (∀ vs, o.data ≠ .fields vs) → b ≠ T := fun b o q nf z => by rw [z, hT] at q; cases q; exact nf ts dT
  unfold setFlight
  refine wpAny_bind (wpAny_field he hd h1 ?_)
  rw [if_pos (by simp)]
  refine wpAny_setField hT dT z3 (k _ ⟨fun b o z => (ot b fun q => by rw [q, nT] at z; cases z).trans (x1 b o z), x2, x3.of_keeps fun b o q nf => ⟨o, (ot b (nr b o q nf)).trans q, rfl⟩, ?_⟩ fun b o q nf => ⟨o.slots, (ot b (nr b o q nf)).trans q⟩)
  exact ⟨oe, vs, T, _, _, ⟨(ot e (Ne.symm Te)).trans he, hc, hdc, hd⟩, ⟨h0, h1⟩, ⟨nT, Te⟩, Heap.get?_update_self _ hT (Obj.isFreed_of_fields (Obj.data_mapFields dT _)), Obj.data_mapFields dT _, by simp [z3]⟩
theorem Fly.out {h : Heap} (x : Fly base (env :: l) e cls a0 dc fl h) : Fly base l e cls a0 dc fl h := by
  obtain ⟨x1, x2, ⟨_, _, x3⟩, x4⟩ := x
  exact ⟨x1, x2, x3, x4⟩
theorem fly_on {Q : Unit → Shared → Prop} (hfr : A.frames = some (env :: outer)) (hf : env.frame = some L) (x : Fly base (env :: outer) e cls a0 dc .none s.heap)
    (k : ∀ h', Fly base outer e cls a0 dc .none h' → s.heap.UpToSlots h' → Q () { s with heap := h' }) : wpAny M A (leaving env (.ref e)) Q E s := by
  unfold leaving
  exact wpAny_bind (fly_note hfr hf x fun h1 f1 u1 => fly_land f1 fun h2 f2 u2 => k h2 f2.out (u1.trans u2))
theorem fly_made {oe : Obj} {vs : Array Value} {Q : Unit → Shared → Prop} (hfr : A.frames = some (env :: outer)) (hl : s.heap.FunFrames base (env :: outer)) (hf : env.frame = some L) (he : s.heap.get? e = some oe) (hkb : base.StaysIn s.heap) (hen : base.get? e = none)
    (hd : oe.data = .fields vs) (h1 : vs[1]? = some .none) (h0 : vs[0]? = some a0) (k : ∀ h', Fly base outer e oe.cls a0 oe.dict .none h' → s.heap.UpToSlots h' → Q () { s with heap := h' }) : wpAny M A (leaving env (.ref e)) Q E s := by
  unfold leaving
  exact wpAny_bind (fly_note1 hfr hl hf he hkb hen hd h1 h0 fun h1 f1 u1 => fly_land f1 fun h2 f2 u2 => k h2 f2.out (u1.trans u2))
end
end L2
namespace L2
open PySem PySem.Spec PySem.Calls PyProof.Rows
section
variable {prog : Program} {w : World} {A : Around} {E : Value → Shared → Prop} {h : Heap} {g : Array GenState} {d : Drawn} {t : Nat} {os : OsState}
variable {nm q : Str} {C N : Addr} {bs bm bmB : List Value} {hdct : Bool} {sn : List Str} {sub : List Value} {ab : Bool} {col : Option Bool} {dd : Option Addr} {k0 k1 k2 k3 k5 : Option Value} {B newId initId : String}
theorem tcall_exc_i (F : ExcBaseFacts B newId initId bmB) (T : OwnTail h bmB bm) {mN : Str → Option Value} {rest : List Value} {fI : Addr} {oI : Obj} {Q : Fin → Shared → Prop} (hC : h.get? C = some (excClassObj nm q C N bs bm hdct sn sub ab col dd k0 k1 k2 k3 k5 newId)) (hn : h.Ns N mN)
    (hi : mN "__init__" = some (.ref fI)) (hf : h.get? fI = some oI) (hfc : oI.cls = .type "function") (hq : wpAny (model prog w) A (call (.ref fI) (.ref (h.objs.size + 1) :: rest)) (fun r s' => r = .none ∧ Q (.done (.ret (.ref (h.objs.size + 1)))) s') E ⟨(h.push { cls := .type "tuple", data := .seq rest.toArray }).push { cls := .ref C, data := .fields #[.ref h.objs.size, .none, .none, .none, .bool false, .none] }, g, d, t, os⟩)
    (hr : rest.length ≤ sizeLine) : wpAny (model prog w) A (Builtin.«type.__call__» ⟨.ref C :: rest, []⟩) Q E ⟨h, g, d, t, os⟩ := by
  repeat (first | with_reducible refine wpAny_loadPart_at hC ?_ | with_reducible refine wpAny_madeBy_exc hC ?_ | wp_step)
  refine codeAny_call_builtin_code (Code.quiet_builtin _ F.quiet) (wpAny_check_new_subT F T hC (codeAny_exc_new_subT F T hC ?_ hr))
  show wpAny _ _ _ _ _ _
  have kp : ∀ b o, h.get? b = some o → ((h.push { cls := .type "tuple", data := .seq rest.toArray }).push { cls := .ref C, data := .fields #[.ref h.objs.size, .none, .none, .none, .bool false, .none] }).get? b = some o := fun b o z => Heap.get?_push_of_some _ (Heap.get?_push_of_some _ z)
  have hC1 := kp _ _ hC
  have hf1 := kp _ _ hf
  have hn1 := hn.keeps kp
  have ge : ((h.push { cls := .type "tuple", data := .seq rest.toArray }).push { cls := .ref C, data := .fields #[.ref h.objs.size, .none, .none, .none, .bool false, .none] }).get? (h.objs.size + 1) = some { cls := .ref C, data := .fields #[.ref h.objs.size, .none, .none, .none, .bool false, .none] } := by heap_get
  have hcC : (Value.ref C :: bm).contains (.ref C) = true := by simp
  unfold isInstance
  repeat (first | with_reducible refine wpAny_loadPart_at ge ?_ | (with_reducible refine wpAny_isSubtype_exc hC1 ?_; rw [hcC]) | wp_step)
  show wpAny _ _ (typeLookup (.ref C) _) _ _ _
  refine wpAny_typeLookup_tail hC1 hn1 (T.keeps kp) F.mroIs F.init.lookup ?_
  rw [hi]
  refine wpAny_holding (wpAny_bind ?_)
  unfold bindSpecial
  refine wpAny_bind (wpAny_typeOf (T := "function") ⟨_, hf1, hfc⟩ ?_)
  rw [if_pos (by decide)]
  refine wpAny_pure (wpAny_bind (wpAny_mono hq (fun r s' ⟨e1, e2⟩ => ?_) fun _ _ x => x))
  subst e1
  wp_walk
  exact e2
theorem call_exc_i (F : ExcBaseFacts B newId initId bmB) (T : OwnTail h bmB bm) {mN : Str → Option Value} {rest : List Value} {fI : Addr} {oI : Obj} {Q : Value → Shared → Prop} (hC : h.get? C = some (excClassObj nm q C N bs bm hdct sn sub ab col dd k0 k1 k2 k3 k5 newId)) (hn : h.Ns N mN)
    (hi : mN "__init__" = some (.ref fI)) (hf : h.get? fI = some oI) (hfc : oI.cls = .type "function") (hq : wpAny (model prog w) (A.under (.builtin "type.__call__" ⟨.ref C :: rest, []⟩)) (call (.ref fI) (.ref (h.objs.size + 1) :: rest)) (fun r s' => r = .none ∧ Q (.ref (h.objs.size + 1)) s') E ⟨(h.push { cls := .type "tuple", data := .seq rest.toArray }).push { cls := .ref C, data := .fields #[.ref h.objs.size, .none, .none, .none, .bool false, .none] }, g, d, t, os⟩)
    (hr : rest.length ≤ sizeLine) : wpAny (model prog w) A (call (.ref C) rest) Q E ⟨h, g, d, t, os⟩ := by
  have f1 := tc_lookup
  have f2 := tc_bind (.ref C)
  have hT : (⟨h, g, d, t, os⟩ : Shared).TypeIs (.ref C) "type" := ⟨_, hC, rfl⟩
  refine wpAny_call (codeAny_of_tree (show wpAny _ _ (callAny (.ref C) _) _ _ _ from ?_))
  repeat (any_goals (first | assumption | with_reducible refine wpAny_loadPart_at hC ?_ | wp_step))
  exact ⟨rfl, codeAny_call_builtin_at (Code.quiet_builtin _ (by decide +kernel)) entry_typeCall (wpAny_check_type_call_sub hC (tcall_exc_i F T hC hn hi hf hfc hq hr))⟩
theorem raise_made {M : Model} {s : Shared} {x : Sem Value} {env : Env} {Q : Flow → Shared → Prop} (hb : bm.contains (.type "BaseException") = true) (hh : A.handled = none)
    (k : wpAny M A x (fun v s1 => ∃ e od t sl, v = .ref e ∧ s1.heap.get? C = some (excClassObj nm q C N bs bm hdct sn sub ab col dd k0 k1 k2 k3 k5 newId) ∧ s1.heap.get? e = some (⟨.ref C, od, .fields #[.ref t, .none, .none, .none, .bool false, .none], sl⟩ : Obj) ∧ E (.ref e) s1) E s) : wpAny M A (raiseStmt env (some x) none) Q E s := by
  have cB : (Value.ref C :: bm).contains (.type "BaseException") = true := by rw [List.contains_cons, hb, Bool.or_true]
  unfold raiseStmt
  refine wpAny_bind (wpAny_mono k (fun v s1 h1 => ?_) fun _ _ z => z)
  obtain ⟨e, od, t, sl, rfl, hC, he, hE⟩ := h1
  obtain ⟨hp, g, d, tk, os⟩ := s1
  repeat (first | with_reducible refine wpAny_loadPart_at he ?_ | with_reducible refine wpAny_loadPart_at hC ?_ | (with_reducible refine wpAny_isSubtype_exc hC ?_; rw [cB]) | wp_step)
  exact wpAny_raiseNew_none hh hE
end
end L2
namespace L2
open PySem PySem.Spec PySem.Calls PyProof.Rows
def excN (a C : Addr) (od : Option Addr) : HO := .ext fun h => ∃ t sl, h.get? a = some (⟨.ref C, od, .fields #[.ref t, .none, .none, .none, .bool false, .none], sl⟩ : Obj)
theorem excN_ok {P : Program} {w : World} {H : Hp} {h : Heap} {a C t : Addr} {od : Option Addr} {sl : Array (Option Value)} (e : h.get? a = some (⟨.ref C, od, .fields #[.ref t, .none, .none, .none, .bool false, .none], sl⟩ : Obj)) : ObjOk P w H h a (excN a C od) :=
  ⟨⟨t, sl, e⟩, ⟨_, e⟩, fun h1 h2 ⟨t1, s1, e1⟩ k => ⟨t1, s1, k _ e1⟩⟩
def del (H : Hp) (a : Addr) : Hp := fun b => if b = a then none else H b
theorem del_ne {H : Hp} {a b : Addr} (h : b ≠ a) : del H a b = H b := if_neg h
theorem del_some {H : Hp} {a b : Addr} {o : HO} (h : del H a b = some o) : b ≠ a ∧ H b = some o := by
  unfold del at h
  split at h
  · cases h
  · exact ⟨by assumption, h⟩
section
variable {X : Cx} {o value : Expr} {ta tv : TE} {f : Str} {pos pos' : Pos}
def sFldE (K : PySem.W.Frag) (ta tv : TE) (f : Str) : TS := fun D σ H => tv σ H fun y H1 => ta σ H1 fun x H2 => ∃ a C, x = .ref a ∧ H2 a = some (excN a C none) ∧ ErrA K C f ∧ ∀ d, H2 d = none → D.nx σ (upd (upd H2 a (excN a C (some d))) d (.xd [(f, y)]))
theorem ps_fldE (hex : X.ex = []) (ha : PE X o ta) (hv : PE X value tv) (hs : swapsWith value (some (.Attribute o f pos')) pos.line X.env = pure false) : PS X (.Assign [.Attribute o f pos'] value pos) (sFldE X.K ta tv f) := by
  intro pins s σ H D I h
  refine plainObj_wpAny_Assign_Attribute (thn (hv pins s σ H _ I h) fun u s1 ⟨y, H1, I1, ry, q⟩ => thn (ha pins s1 σ H1 _ I1 q) fun ov s2 ⟨x, H2, I2, rx, a, C, ex, ea, c, q2⟩ => ?_) hs
  subst ex
  obtain rfl : ov = Value.ref a := rx
  obtain ⟨t, sl, hx⟩ := (I2.hok a _ ea).1
  refine exc_at_set I2.kIn c hx fun h' t' ha' hn kp => ⟨σ, _, ?_, q2 s2.heap.objs.size (I2.hok.fresh (Nat.le_refl _))⟩
  have ax : a ≠ s2.heap.objs.size := Nat.ne_of_lt (Heap.lt_size hx)
  have I3 : Inv X pins σ (upd H2 a (excN a C (some s2.heap.objs.size))) { s2 with heap := h', toks := t' } := I2.write (x := a) (e := a) (by rw [ea]; exact True.intro) (.inl rfl) (fun b u nb q => kp b u nb q) ⟨_, ha'⟩ (excN_ok ha')
  have fr : ∀ b u, s2.heap.get? b = some u → b ≠ s2.heap.objs.size := fun b u q => Nat.ne_of_lt (Heap.lt_size q)
  refine inv_track I3 (by rw [upd_ne ax.symm]; exact I2.hok.fresh (Nat.le_refl _)) ?_ ?_ ?_ ?_ ?_
  · cases q : X.s₀.heap.get? s2.heap.objs.size with
    | none => rfl
    | some v =>
      obtain ⟨v', e1⟩ := I2.base.there _ v q (by rw [hex]; simp)
      exact absurd rfl (fr _ _ e1)
  · obtain ⟨m, ⟨ol, _, _, hol, _⟩, _⟩ := I2.loc
    exact fun z => fr _ _ hol z.symm
  · intro x c' e1 z
    obtain ⟨v, oc, hoc, _⟩ := I2.cell x c' e1
    exact fr _ _ hoc z
  · intro p hp z
    exact fr _ _ (I2.pin p hp).1 z
  · refine ⟨_, hn, fun g => ?_⟩
    show RelO (List.lookup g [(f, y)]) (if g = f then some u else none)
    by_cases q : g = f
    · subst q; simp only [List.lookup, beq_self_eq_true, if_true]; exact ry
    · rw [if_neg q, List.lookup, show (g == f) = false from beq_eq_false_iff_ne.mpr q]; exact True.intro
end
end L2
namespace L2
open PySem PySem.Spec PySem.Calls PyProof.Rows
def CX2 (P : Program) (w : World) : CXT := fun outer H s E e s' => ∃ (ea t C : Addr) (od : Option Addr) (B : Heap) (H' : Hp), e = .ref ea ∧ s'.os = s.os ∧ AllBare s'.gens ∧ Fly B outer ea (.ref C) (.ref t) od .none s'.heap ∧
  (∀ h : Heap, B.StaysIn h → s'.heap.UpToSlots h → Un (frs outer) [] H H' s.heap h ∧ HOk P w H' h ∧ h.FunFrames B outer) ∧ (∀ b o, H' b = some o → ∃ u, B.get? b = some u) ∧ (∀ b o, s.heap.get? b = some o → b ∈ frs outer ∨ ∃ u, B.get? b = some u) ∧ E (.ref C) od H'
section
variable {P : Program} {w : World} {K : PySem.W.Frag} {mg : Str → Option Value} {base : Heap} {N : List Str} {qual : Str} {scope : Scope} {f : Addr} {cd : Value} {A : Around} {outer : List Env} {s0 : Shared} {H0 : Hp} {E : XK}
theorem xe_raise2 {pins : List (Addr × Obj)} {σ : St} {H : Hp} {s : Shared} {ea C : Addr} {od : Option Addr} (I : Inv (cxOf (CX2 P w) P w K mg base N qual scope f cd A outer s0 H0 E) pins σ H s) (h0 : s0.heap.get? ea = none) (hx : H ea = some (excN ea C od)) (hE : E (.ref C) od (del H ea)) :
    (cxOf (CX2 P w) P w K mg base N qual scope f cd A outer s0 H0 E).xe (.ref ea) s := by
  show wpAny (model P w) (A.deeper (envOfC qual scope s0.heap.objs.size f cd)) (leaving (envOfC qual scope s0.heap.objs.size f cd) (.ref ea)) _ _ _
  obtain ⟨t, sl, he⟩ := (I.hok ea _ hx).1
  have hst := I.stack
  have hsf := I.stkFree
  have hfs : frs (envOfC qual scope s0.heap.objs.size f cd :: outer) = s0.heap.objs.size :: frs outer := rfl
  have hin : ∀ env ∈ (envOfC qual scope s0.heap.objs.size f cd :: outer), ∀ b, env.frame = some b → b ∈ ea :: frs (envOfC qual scope s0.heap.objs.size f cd :: outer) := fun env he b hb => List.mem_cons_of_mem _ (List.mem_filterMap.mpr ⟨env, he, hb⟩)
  have mf : ∀ b ∈ frs (envOfC qual scope s0.heap.objs.size f cd :: outer), ∃ o, s.heap.get? b = some o ∧ ∀ vs, o.data ≠ .fields vs := fun b hb => (hst.mem hb).2
  refine fly_made (base := PySem.W.hideAll s.heap (ea :: frs (envOfC qual scope s0.heap.objs.size f cd :: outer))) I.ok.frames (PySem.W.funFrames_hide hst hin) rfl he (fun b o q => PySem.W.of_hideAll _ q) (PySem.W.hideAll_none _ (List.mem_cons_self ..)) rfl rfl rfl fun h' fl ups => ?_
  have u := I.base
  refine ⟨ea, t, C, od, _, del H ea, rfl, I.os, I.bare, fl, fun h hB hup => ?_, fun b o e => ?_, fun b o e => ?_, hE⟩
  · have kb : ∀ b o, s.heap.get? b = some o → b ≠ ea → b ∉ frs (envOfC qual scope s0.heap.objs.size f cd :: outer) → h.get? b = some o := fun b o q n1 n2 => hB b o (PySem.W.hideAll_get _ q fun z => (List.mem_cons.mp z).elim n1 n2)
    have sl : ∀ b o, s.heap.get? b = some o → b ∈ frs (envOfC qual scope s0.heap.objs.size f cd :: outer) → ∃ sl, h.get? b = some { o with slots := sl } := fun b o q hb => by
      obtain ⟨o', e', nf⟩ := mf b hb
      rw [q] at e'
      cases e'
      obtain ⟨s1, e1⟩ := ups b o q nf
      obtain ⟨s2, e2⟩ := hup b _ e1 nf
      exact ⟨s2, e2⟩
    have ne : ∀ b o, s0.heap.get? b = some o → b ≠ ea := fun b o q z => by rw [z, h0] at q; cases q
    have nH : ∀ b o, H b = some o → (∀ φ, o ≠ .ext φ) → b ≠ ea := fun b o q n z => by rw [z, hx] at q; cases q; exact n _ rfl
    refine ⟨⟨fun b o q n hb hx' => ?_, fun b o q n hb hx' => ?_, fun b o q n hx' => ?_, fun b o q hx' => ?_, fun b xs q => ?_, fun b ob v q => ?_, fun b ps q => ?_⟩, fun a o e => ?_, ?_⟩
    · refine kb b o (u.keep b o q n hb hx') (ne b o q) fun z => ?_
      rw [hfs] at z
      rcases List.mem_cons.mp z with z | z
      · have := Heap.lt_size q
        rw [z] at this
        exact absurd this (Nat.lt_irrefl _)
      · exact hb z
    · obtain ⟨s1, e1⟩ := u.slot b o q n hb hx'
      obtain ⟨s2, e2⟩ := sl b _ e1 (by rw [hfs]; exact List.mem_cons_of_mem _ hb)
      exact ⟨s2, e2⟩
    · rw [del_ne (ne b o q)]; exact u.free b o q n hx'
    · obtain ⟨o', e1⟩ := u.there b o q hx'
      by_cases hb : b ∈ frs (envOfC qual scope s0.heap.objs.size f cd :: outer)
      · obtain ⟨s2, e2⟩ := sl b _ e1 hb
        exact ⟨_, e2⟩
      · exact ⟨_, kb b o' e1 (ne b o q) hb⟩
    · have := u.tups b xs q
      rw [del_ne (nH b _ this fun φ z => nomatch z)]; exact this
    · have := u.frzs b ob v q
      rw [del_ne (nH b _ this fun φ z => nomatch z)]; exact this
    · obtain ⟨m, this⟩ := u.tbls b ps q
      exact ⟨m, by rw [del_ne (nH b _ this fun φ z => nomatch z)]; exact this⟩
    · obtain ⟨na, e'⟩ := del_some e
      refine (I.hok a o e').stay (fun b u' hb q => kb b u' q ?_ fun z => ?_) (fun b z => by rw [del_ne (nH b _ z fun φ q => nomatch q)]; exact z) fun b xs z => by rw [del_ne (nH b _ z fun φ q => nomatch q)]; exact z
      · rcases hb with rfl | hb
        · exact na
        · exact nH b _ hb fun φ q => nomatch q
      · have hn := hsf b z
        rcases hb with rfl | hb
        · rw [e'] at hn; cases hn
        · rw [hb] at hn; cases hn
    · obtain ⟨_, _, hs⟩ := PySem.W.funFrames_hide hst hin
      refine hs.of_keeps fun b o hb hnf => ?_
      by_cases hb' : b ∈ frs (envOfC qual scope s0.heap.objs.size f cd :: outer)
      · obtain ⟨s2, e2⟩ := sl b o hb hb'
        exact ⟨_, e2, rfl⟩
      · exact ⟨o, kb b o hb (fun z => by rw [z, he] at hb; cases hb; exact hnf _ rfl) hb', rfl⟩
  · obtain ⟨na, e'⟩ := del_some e
    obtain ⟨u', q⟩ := ok_got (I.hok b o e')
    refine ⟨u', PySem.W.hideAll_get _ q fun z => (List.mem_cons.mp z).elim na fun z => ?_⟩
    have hn := hsf b z
    rw [e'] at hn; cases hn
  · obtain ⟨o', e1⟩ := u.there b o e (by intro z; cases z)
    by_cases hb : b ∈ frs (envOfC qual scope s0.heap.objs.size f cd :: outer)
    · rw [hfs] at hb
      rcases List.mem_cons.mp hb with z | z
      · have := Heap.lt_size e
        rw [z] at this
        exact absurd this (Nat.lt_irrefl _)
      · exact .inl z
    · exact .inr ⟨o', PySem.W.hideAll_get _ e1 fun z => (List.mem_cons.mp z).elim (fun q => by rw [q, h0] at e; cases e) hb⟩
theorem pass2 : Passes (CX2 P w) (cxOf (CX2 P w) P w K mg base N qual scope f cd A outer s0 H0 E) E := by
  rintro pins σ H s e s' I ⟨ea, t, C, od, B, H', rfl, os, bare, fl, k1, k2, k3, hE⟩
  show wpAny (model P w) (A.deeper (envOfC qual scope s0.heap.objs.size f cd)) (leaving (envOfC qual scope s0.heap.objs.size f cd) (.ref ea)) _ _ _
  refine fly_on I.ok.frames rfl fl fun h' fl' ups => ?_
  refine ⟨ea, t, C, od, B, H', rfl, os.trans I.os, bare, fl', fun h hB hup => ?_, k2, fun b o q => ?_, hE⟩
  · obtain ⟨u, hok, ff⟩ := k1 h hB (ups.trans hup)
    obtain ⟨_, _, ff'⟩ := ff
    exact ⟨un_up I.base u fun c o q z => by
      have := Heap.lt_size q
      rw [z] at this
      exact absurd this (Nat.lt_irrefl _), hok, ff'⟩
  · obtain ⟨o', e1⟩ := I.base.there b o q (by intro z; cases z)
    rcases k3 b o' e1 with z | z
    · rcases List.mem_cons.mp z with z | z
      · have := Heap.lt_size q
        rw [z] at this
        exact absurd this (Nat.lt_irrefl _)
      · exact .inl z
    · exact .inr z
end
end L2
namespace L2
open PySem PySem.Spec PySem.Calls PyProof.Rows
def excInX (K : PySem.W.Frag) (C : Addr) (fo : Option Value) : Bool := match K.lookup C with
  | some ⟨.type "type", _, .cls cd, sl⟩ => (match cd.mro, sl.toList with
    | .ref C' :: bm, [_, _, _, _, some (.builtin n), _] => C' == C && (n == "ValueError.__new__" && (!cd.hasDel && (PySem.W.tailIn K veTail bm && (PySem.W.nsOkIn K cd.ns && PySem.W.nsIn K cd.ns "__init__" == some fo))))
    | _, _ => false)
  | _ => false
def OwnX (K : PySem.W.Frag) (C : Addr) (fo : Option Value) : Prop := ∀ h : Heap, K.In h → ∃ (bm : List Value) (N : Addr) (nm qn : Str) (bs : List Value) (hdct : Bool) (sn : List Str) (sub : List Value) (ab : Bool) (col : Option Bool) (dd : Option Addr) (k0 k1 k2 k3 k5 : Option Value) (mN : Str → Option Value),
  h.get? C = some (excClassObj nm qn C N bs bm hdct sn sub ab col dd k0 k1 k2 k3 k5 "ValueError.__new__") ∧ h.Ns N mN ∧ mN "__init__" = fo ∧ OwnTail h veTail bm
def OwnI (K : PySem.W.Frag) (C f : Addr) : Prop := OwnX K C (some (.ref f))
theorem ns_is {K : PySem.W.Frag} {h : Heap} {N : Addr} {m : Str → Option Value} {n : Str} {fo : Option Value} (X : K.In h) (G : h.Ns N m) (e : PySem.W.nsIn K N n = some fo) : m n = fo := by
  cases fo with
  | none => exact PySem.W.ns_none_of X G e
  | some v =>
    obtain ⟨o, es, ep, ho, hd, _, hf⟩ := G
    unfold PySem.W.nsIn at e
    split at e
    · rename_i c d es' n' sl q
      have z := X _ _ q
      rw [ho] at z; cases z; cases hd
      split at e
      · rename_i en he
        cases e
        rw [← hf, nsFind, findBy, ← Array.find?_toList, he]
        rfl
      · split at e <;> cases e
    · cases e
theorem ownX_of {K : PySem.W.Frag} {C : Addr} {fo : Option Value} (q : excInX K C fo = true) : OwnX K C fo := by
  intro h X
  unfold excInX at q
  split at q
  case h_2 => cases q
  rename_i dd cd sl ho
  split at q
  case h_2 => cases q
  rename_i C' bm k0 k1 k2 k3 n k5 hm hs
  simp only [Bool.and_eq_true, beq_iff_eq, Bool.not_eq_true'] at q
  obtain ⟨q1, q2, q3, q4, q5, q6⟩ := q
  have hsl : sl = #[k0, k1, k2, k3, some (.builtin n), k5] := by
    obtain ⟨l⟩ := sl
    exact congrArg Array.mk hs
  subst hsl
  obtain ⟨nm, bs, mro, ns, qn, hd, sn, sub, ab, col, del⟩ := cd
  dsimp only at hm q3 q5 q6
  subst hm q3 q1 q2
  exact ⟨bm, ns, nm, qn, bs, hd, sn, sub, ab, col, dd, k0, k1, k2, k3, k5, _, X _ _ ho, .of_isNs (PySem.W.isNs_of_in X q5), ns_is X (.of_isNs (PySem.W.isNs_of_in X q5)) q6, PySem.W.tail_of_in X q4⟩
theorem ownE_x {K : PySem.W.Frag} {C : Addr} (q : excInX K C none = true) : OwnE K C := ownX_of q
set_option genInjectivity false in
set_option genSizeOf false in
structure Ei (K : PySem.W.Frag) (mg : Str → Option Value) (x qual : Str) (C : Addr) (st : Stmt) (ps : List Str) : Prop where
  ex : ∃ (f : Addr) (fd : FuncData), Fun K "__init__" qual st f fd ∧ Binds K fd ps [] ∧ OwnI K C f ∧ PySem.W.isFn K (.ref f) = true
  mg : mg x = some (.ref C)
set_option genInjectivity false in
set_option genSizeOf false in
structure Ez (P : Program) (w : World) (K : PySem.W.Frag) (mg : Str → Option Value) (base : Heap) (k : Nat) (x : Str) (C : Addr) (ps : List Str) (sp : Sp) : Prop where
  ex : ∃ (f : Addr) (fd : FuncData), FnOk P w K mg base CX0 k f fd ps sp ∧ Binds K fd ps [] ∧ OwnI K C f ∧ PySem.W.isFn K (.ref f) = true
  mg : mg x = some (.ref C)
theorem Ez.mono {P : Program} {w : World} {K : PySem.W.Frag} {mg : Str → Option Value} {base : Heap} {j k : Nat} {x : Str} {C : Addr} {ps : List Str} {sp : Sp} (D : Ez P w K mg base j x C ps sp) (h : j ≤ k) : Ez P w K mg base k x C ps sp := by
  obtain ⟨f, fd, a, b, c⟩ := D.ex
  exact ⟨⟨f, fd, a.mono h, b, c⟩, D.mg⟩
theorem Ei.ok {P : Program} {w : World} {K : PySem.W.Frag} {mg : Str → Option Value} {base : Heap} {C : Addr} {x qual : Str} {st : Stmt} {N ps : List Str} {k : Nat} {sp : Sp} (F : Ei K mg x qual C st ps) (S : FnScope N ps (defScope st)) (len : ∀ vs H Q E, sp vs H Q E → vs.length = ps.length)
    (hbody : ∀ (f : Addr) (cdv : Value) (A : Around) (outer : List Env) (s : Shared) (H : Hp) (vs : List V) (Q : VK) (E : XK), Room k (A.deeper (envOfC qual (defScope st) s.heap.objs.size f cdv)) → sp vs H Q E →
      ∃ (t : TS) (σ : St), PSs (cxOf CX0 P w K mg base N qual (defScope st) f cdv A outer s H E).nox (defBody st) t ∧ start N vs = σ ∧ t { nx := fun _ H' => Q .non H', rt := Q } σ H) : Ez P w K mg base (k + 1) x C ps sp := by
  obtain ⟨f, fd, F1, b, m⟩ := F.ex
  refine ⟨⟨f, fd, F1.okS S len fun cdv A outer s H vs Q E hr h => ?_, b, m⟩, F.mg⟩
  obtain ⟨t, σ, h1, rfl, h2⟩ := hbody f cdv A outer s H vs Q E hr h
  exact ⟨t, _, h1, rfl, h2⟩
def tRaise2 (C : Addr) (sp : Sp) (t : TA) (R : Option Addr → Hp → Prop) : TS := fun _ σ H => t σ H fun vs H1 => vs.length ≤ sizeLine ∧ ∀ a, H1 a = none → sp (.ref a :: vs) (upd H1 a (excN a C none)) (fun v H2 => v = .non ∧ ∃ od, H2 a = some (excN a C od) ∧ R od (del H2 a)) E0
theorem ps_raise2 {X : Cx} {x : Str} {C : Addr} {k : Nat} {ps : List Str} {sp : Sp} {np cpos pos : Pos} {e : Expr} {es : List Expr} {t : TA} {R : Option Addr → Hp → Prop} (Z : Ez X.prog X.w X.K X.mg X.base k x C ps sp) (hr : Room (k + 1) X.A) (hg : Gl X x) (hc : X.calm = true) (hex : X.ex = []) (ha : PA X (e :: es) t)
    (hxe : ∀ pins σ H s ea od, Inv X pins σ H s → X.s₀.heap.get? ea = none → H ea = some (excN ea C od) → R od (del H ea) → X.xe (.ref ea) s)
    (hu : (e :: es).all unst = true := by rfl) (hdb : (x == ("__debug__" : Str)) = false := by decide) : PS X (.Raise (some (.Call (.Name x np) (e :: es) [] cpos)) none pos) (tRaise2 C sp t R) := by
  intro pins s σ H D I h
  obtain ⟨f, fd, F, bd, O, hfn⟩ := Z.ex
  obtain ⟨bm, N, nm, qn, bs, hdct, sn, sub, ab, col, dd, k0, k1, k2, k3, k5, mN, hC, hN, hni, TL⟩ := O X.base I.mod.kin
  have hpl := star_any hu (env := X.env) (pos := cpos)
  rw [arm_exec_Raise]
  refine wpAny_bind (wpAny_standAt (raise_made (C := C) (nm := nm) (q := qn) (N := N) (bs := bs) (bm := bm) (hdct := hdct) (sn := sn) (sub := sub) (ab := ab) (col := col) (dd := dd) (k0 := k0) (k1 := k1) (k2 := k2) (k3 := k3) (k5 := k5) (newId := "ValueError.__new__") (TL.hasType (b := true) (by decide)) (I.ok.hd hc) (wpAny_bind (wpAny_mono (wpAny_Call_ofName (ld_glob I hg Z.mg ?_ hdb)) (fun v s3 h3 => wpAny_bind (wpAny_standAt (wpAny_pure h3))) fun _ _ z => z))))
  have q := ha cpos pins s σ H _ I h
  rw [star_un (all_hd hu)] at q hpl ⊢
  unfold callWith
  refine wpAny_bind (wpAny_holding (Calls.evalArgs_plain (thn q fun us s1 ⟨vs, H1, I1, r, hz, hR⟩ => wpAny_bind (wpAny_standAt ?_))))
  simp only [hpl]
  have hC1 := I1.bk _ _ hC
  have hK1 := I1.kIn
  obtain ⟨oI, lk, hfc⟩ : ∃ o, X.K.lookup f = some o ∧ o.cls = .type "function" := by
    have z := beq_iff_eq.mp hfn
    simp only [PySem.W.typeIn, Option.map_eq_some_iff] at z
    exact z
  have hf1 := hK1 _ _ lk
  have hN1 := hN.keeps I1.bk
  have T1 := TL.keeps I1.bk
  have hl : us.length ≤ sizeLine := by rw [← r.length]; exact hz
  have sz : s1.heap.objs.size ≤ s1.heap.objs.size + 1 := Nat.le_succ _
  have kp : ∀ b o, s1.heap.get? b = some o → ((s1.heap.push { cls := .type "tuple", data := .seq us.toArray }).push { cls := .ref C, data := .fields #[.ref s1.heap.objs.size, .none, .none, .none, .bool false, .none] }).get? b = some o := fun b o z => Heap.get?_push_of_some _ (Heap.get?_push_of_some _ z)
  have ge : ((s1.heap.push { cls := .type "tuple", data := .seq us.toArray }).push { cls := .ref C, data := .fields #[.ref s1.heap.objs.size, .none, .none, .none, .bool false, .none] }).get? (s1.heap.objs.size + 1) = some { cls := .ref C, data := .fields #[.ref s1.heap.objs.size, .none, .none, .none, .bool false, .none] } := by heap_get
  have hq := hR (s1.heap.objs.size + 1) (I1.hok.fresh sz)
  have I2 : Inv X pins σ (upd H1 (s1.heap.objs.size + 1) (excN (s1.heap.objs.size + 1) C none)) { s1 with heap := (s1.heap.push { cls := .type "tuple", data := .seq us.toArray }).push { cls := .ref C, data := .fields #[.ref s1.heap.objs.size, .none, .none, .none, .bool false, .none] } } :=
    I1.laid (a := s1.heap.objs.size + 1) (o := excN (s1.heap.objs.size + 1) C none) (t' := s1.toks) kp sz (excN_ok ge)
  have r2 : Vals (V.ref (s1.heap.objs.size + 1) :: vs) (Value.ref (s1.heap.objs.size + 1) :: us) := .cons rfl r
  have hl2 : (Value.ref (s1.heap.objs.size + 1) :: us ++ []).length = ps.length := by
    have z := r2.length
    rw [F.len _ _ _ _ hq] at z
    rw [List.append_nil]; exact z.symm
  have n0 : X.s₀.heap.get? (s1.heap.objs.size + 1) = none := by
    cases z : X.s₀.heap.get? (s1.heap.objs.size + 1) with
    | none => rfl
    | some v =>
      obtain ⟨v', e1⟩ := I1.base.there _ v z (by rw [hex]; simp)
      exact absurd (Heap.lt_size e1) (Nat.not_lt.mpr (Nat.le_succ _))
  have run := F.run (X.A.under (.builtin "type.__call__" ⟨.ref C :: us, []⟩)) X.stack _ _ ⟨Value.ref (s1.heap.objs.size + 1) :: us, []⟩ (Value.ref (s1.heap.objs.size + 1) :: us) _ _ E0 (hr.make C us []) (I2.env0.make C us []) (by have z := bd _ (Value.ref (s1.heap.objs.size + 1) :: us) I2.kIn hl2; rwa [List.append_nil] at z) r2 hq
  obtain ⟨hp, g, d, tk, os⟩ := s1
  refine wpAny_bind (wpAny_keeperOf_exc hC1 ?_)
  refine wpAny_bind (call_exc_i PySem.F.excBase_ValueError T1 hC1 hN1 hni hf1 hfc (wpAny_call (codeAny_mono run fun rr s' hq' => ?_)) hl)
  cases rr with
  | error ev => exact False.elim hq'
  | ok fl =>
    cases fl with
    | ret u =>
      obtain ⟨v, H', I3, rv, ev, od, hx, q3⟩ := I2.after hq'
      subst ev
      obtain ⟨t, sl, he⟩ := (I3.hok _ _ hx).1
      exact ⟨rv, wpAny_bind (wpAny_holding (wpAny_point (wpAny_pure ⟨_, od, t, sl, rfl, I3.bk _ _ hC, he, hxe pins σ H' s' _ od I3 n0 hx q3⟩)))⟩
    | next => exact False.elim hq'
    | brk => exact False.elim hq'
    | cont => exact False.elim hq'
end L2
namespace L2
open PySem PySem.Spec PySem.Calls PyProof.Rows
set_option genInjectivity false in
set_option genSizeOf false in
structure Dy (P : Program) (w : World) (K : PySem.W.Frag) (mg : Str → Option Value) (base : Heap) (k : Nat) (x : Str) (ps : List Str) (sp : Sp) : Prop where
  ex : ∃ (f : Addr) (fd : FuncData), FnOk P w K mg base (CX2 P w) k f fd ps sp ∧ Binds K fd ps [] ∧ PySem.W.keepIn K (.ref f) = true ∧ mg x = some (.ref f)
set_option genInjectivity false in
set_option genSizeOf false in
structure My2 (P : Program) (w : World) (K : PySem.W.Frag) (mg : Str → Option Value) (base : Heap) (k : Nat) (C : Addr) (m : Str) (ps : List Str) (sp : Sp) : Prop where
  ex : ∃ (f : Addr) (fd : FuncData), FnOk P w K mg base (CX2 P w) k f fd ps sp ∧ Binds K fd ps [] ∧ Meth K C m f
section
variable {P : Program} {w : World} {K : PySem.W.Frag} {mg : Str → Option Value} {base : Heap} {j k : Nat} {x m qual : Str} {C : Addr} {ps N : List Str} {sp : Sp} {st : Stmt}
theorem My2.mono (D : My2 P w K mg base j C m ps sp) (h : j ≤ k) : My2 P w K mg base k C m ps sp := by
  obtain ⟨f, fd, a, b, c⟩ := D.ex
  exact ⟨f, fd, a.mono h, b, c⟩
theorem Df.oky (F : Df K mg x st ps) (S : FnScope N ps (defScope st)) (len : ∀ vs H Q E, sp vs H Q E → vs.length = ps.length)
    (hbody : ∀ (f : Addr) (cdv : Value) (A : Around) (outer : List Env) (s : Shared) (H : Hp) (vs : List V) (Q : VK) (E : XK), Room k (A.deeper (envOfC x (defScope st) s.heap.objs.size f cdv)) → sp vs H Q E →
      ∃ (t : TS) (σ : St), PSs (cxOf (CX2 P w) P w K mg base N x (defScope st) f cdv A outer s H E) (defBody st) t ∧ start N vs = σ ∧ t { nx := fun _ H' => Q .non H', rt := Q } σ H) : Dy P w K mg base (k + 1) x ps sp := by
  obtain ⟨f, fd, F1, b, m⟩ := F.ex
  refine ⟨f, fd, ?_, b, F1.kp, m⟩
  obtain ⟨oc, od, kV, doc, pm, an, cdv, ct, osl, rfl, lk, hcd⟩ := F1.ex
  refine fn_of lk hcd S len fun A outer s H vs Q E hr hsp => ?_
  obtain ⟨t, σ, h1, rfl, h2⟩ := hbody f cdv A outer s H vs Q E hr hsp
  exact ⟨t, h1, h2⟩
theorem Dm.oky (F : Dm K C m qual st ps) (S : FnScope N ps (defScope st)) (len : ∀ vs H Q E, sp vs H Q E → vs.length = ps.length)
    (hbody : ∀ (f : Addr) (cdv : Value) (A : Around) (outer : List Env) (s : Shared) (H : Hp) (vs : List V) (Q : VK) (E : XK), Room k (A.deeper (envOfC qual (defScope st) s.heap.objs.size f cdv)) → sp vs H Q E →
      ∃ (t : TS) (σ : St), PSs (cxOf (CX2 P w) P w K mg base N qual (defScope st) f cdv A outer s H E) (defBody st) t ∧ start N vs = σ ∧ t { nx := fun _ H' => Q .non H', rt := Q } σ H) : My2 P w K mg base (k + 1) C m ps sp := by
  obtain ⟨f, fd, F1, b, mt⟩ := F.ex
  refine ⟨f, fd, ?_, b, mt⟩
  obtain ⟨oc, od, kV, doc, pm, an, cdv, ct, osl, rfl, lk, hcd⟩ := F1.ex
  refine fn_of lk hcd S len fun A outer s H vs Q E hr hsp => ?_
  obtain ⟨t, σ, h1, rfl, h2⟩ := hbody f cdv A outer s H vs Q E hr hsp
  exact ⟨t, h1, h2⟩
theorem Dm.void2 (F : Dm K C m qual st ps) (no : ∀ vs H Q E, ¬ sp vs H Q E) : My2 P w K mg base k C m ps sp := by
  obtain ⟨f, fd, F1, b, mt⟩ := F.ex
  exact ⟨f, fd, ⟨fun vs H Q E h => absurd h (no vs H Q E), fun A outer s H args us vs Q E _ _ _ _ h => absurd h (no vs H Q E)⟩, b, mt⟩
end
section
variable {X : Cx} {k : Nat} {x m : Str} {C : Addr} {ps : List Str} {sp : Sp} {o e : Expr} {es : List Expr} {ta : TE} {t : TA} {p pos apos : Pos} {E : XK}
theorem pe_mP2 {pl : Sem Bool} (he : PE X o ta) (c : Cls X.K C) (D : My2 X.prog X.w X.K X.mg X.base k C m ps sp) (hp : Passes (CX2 X.prog X.w) X E) (hr : Room k X.A) (ha : PA X (e :: es) t) (h : (e :: es).all unst = true := by rfl)
    (ht : eval (.Call (.Attribute o m apos) (e :: es) [] pos) X.env = (do
      let ov ← eval o X.env
      standAt apos.atName
      let (f, first) ← holding [ov] (getMethod ov m pl)
      callWith pos f first (backTo pos (starEach (e :: es) X.env)) (backToKw pos (keywordEach [] X.env))) := by rfl) : PE X (.Call (.Attribute o m apos) (e :: es) [] pos) (tMeth C m sp [] E ta t) := by
  obtain ⟨f, fd, a, b, d⟩ := D.ex
  exact pe_meth (pl := pl) he c d a hr b .nil hp ha (star_un (all_hd h)) (star_any (all_tl h)) ht
theorem pe_mP20 {pl : Sem Bool} (he : PE X o ta) (c : Cls X.K C) (D : My2 X.prog X.w X.K X.mg X.base k C m ps sp) (hp : Passes (CX2 X.prog X.w) X E) (hr : Room k X.A)
    (ht : eval (.Call (.Attribute o m apos) [] [] pos) X.env = (do
      let ov ← eval o X.env
      standAt apos.atName
      let (f, first) ← holding [ov] (getMethod ov m pl)
      callWith pos f first (backTo pos (starEach [] X.env)) (backToKw pos (keywordEach [] X.env))) := by rfl) : PE X (.Call (.Attribute o m apos) [] [] pos) (tMeth C m sp [] E ta tNil) := by
  obtain ⟨f, fd, a, b, d⟩ := D.ex
  exact pe_meth0 (pl := pl) he c d a hr b .nil hp ht
def excA (a C : Addr) (od : Option Addr) : HO := .ext fun h => ∃ oe vs, h.get? a = some oe ∧ oe.cls = .ref C ∧ oe.dict = od ∧ oe.data = .fields vs
theorem excA_ok {P : Program} {w : World} {H : Hp} {h : Heap} {a C : Addr} {od : Option Addr} {oe : Obj} {vs : Array Value} (e : h.get? a = some oe) (c : oe.cls = .ref C) (dc : oe.dict = od) (d : oe.data = .fields vs) : ObjOk P w H h a (excA a C od) :=
  ⟨⟨oe, vs, e, c, dc, d⟩, ⟨oe, e⟩, fun h1 h2 ⟨o1, v1, e1, c1, q1, d1⟩ k => ⟨o1, v1, k _ e1, c1, q1, d1⟩⟩
def Xt2 (X : Cx) (pn : List (Addr × Obj)) (Ef : St → XK) : Cx := ({ X with pn := pn } : Cx).wish fun ev s' => ∃ pins σ H s, Inv { X with pn := pn } pins σ H s ∧ CX2 X.prog X.w X.stack H s (Ef σ) ev s'
theorem pe_callX2 {pn : List (Addr × Obj)} {Ef : St → XK} (D : Dy X.prog X.w X.K X.mg X.base k x ps sp) (hr : Room k X.A) (hg : Gl X x) (ha : PA (Xt2 X pn Ef) (e :: es) t) (h : (e :: es).all unst = true := by rfl) (hdb : (x == ("__debug__" : Str)) = false := by decide) :
    PE (Xt2 X pn Ef) (.Call (.Name x p) (e :: es) [] pos) (tCallX sp Ef t) := by
  obtain ⟨f, fd, F, b, c, d⟩ := D.ex
  intro pins s σ H Q I hw
  refine wpAny_Call_Name_kw (ld_glob I hg d ?_ hdb)
  refine PySem.W.callWith_K (h₀ := X.base) I.ok.mod.kin c (thn (ha pos pins s σ H _ I hw) fun us s1 ⟨vs, H1, I1, r, q⟩ => ⟨I1.kIn, ?_⟩) (star_un (all_hd h)) (star_any (all_tl h))
  have hl : us.length = ps.length := by rw [← r.length]; exact F.len _ _ _ _ q
  have bb := b s1 us I1.kIn (by rw [List.append_nil]; exact hl)
  rw [List.append_nil] at bb
  refine wpAny_call (codeAny_mono (F.run X.A X.stack s1 H1 ⟨us, []⟩ us vs Q (Ef σ) hr I1.env0 bb r q) fun rr s' hq => ?_)
  cases rr with
  | error ev => exact ⟨pins, σ, H1, s1, I1.unwish, hq⟩
  | ok fl =>
    cases fl with
    | ret u => exact I1.after hq
    | next => exact False.elim hq
    | brk => exact False.elim hq
    | cont => exact False.elim hq
def tTry2 (Sub : Addr → Prop) (i : Nat) (tb : (St → XK) → TS) (ts : TS) : TS := fun D σ H =>
  tb (fun σ' cls od H' => ∃ C, cls = .ref C ∧ Sub C ∧ ∀ ea, H' ea = none → ts { D with nx := fun σ2 H2 => D.nx (σ2.set i none) H2, bk := fun σ2 H2 => D.bk (σ2.set i none) H2, ct := fun σ2 H2 => D.ct (σ2.set i none) H2 } (σ'.set i (some (.ref ea))) (upd H' ea (excA ea C od))) D σ H
theorem ps_try2 {body : List Stmt} {np hpos : Pos} {y n : Str} {DC : Addr} {b0 : Stmt} {suite : List Stmt} {i : Nat} {Sub : Addr → Prop} {tb : (St → XK) → TS} {ts : TS}
    (hst : X.stack = X.env :: X.outer) (hfr : X.env.frame = some X.env.locals) (hex : X.ex = []) (hgD : Gl X y) (hmD : X.mg y = some (.ref DC)) (OD : OwnE X.K DC) (hSub : ∀ C, Sub C → PySem.W.subIn X.K (.ref C) (.ref DC) = some true)
    (hN : X.N.Nodup) (hi : X.N[i]? = some n) (hlo : X.env.kindOf n = some .local) (hfn : X.fn n = true ∨ X.env.scope.names.lookup n = some .local) (hb : ∀ pn Ef, PSs (Xt2 X pn Ef) body (tb Ef)) (hs : ∀ pn ea, PSs (Xh X pn ea) (b0 :: suite) ts) (hdb : (y == ("__debug__" : Str)) = false := by decide) :
    PS X (.Try body [.ExceptHandler (some (.Name y np)) (some n) (b0 :: suite) hpos] [] [] pos) (tTry2 Sub i tb ts) := by
  intro pins s σ H D I h
  have ok := I.ok
  have Ip := inv_pn I
  refine wpAny_Try_except (wpAny_mono (hb (X.pn ++ pins) _ [] s σ H D (Ip.wish _) h) (fun f s1 q => ?_) fun e s1 q => ?_)
  · have q' : SP { X with pn := X.pn ++ pins } [] D f s1 := q.unwish
    cases f with
    | next =>
      obtain ⟨σ', H', I', q2⟩ := q'
      exact (pss_nil (X := X)) pins s1 σ' H' D (inv_np ok I') q2
    | brk => obtain ⟨σ', H', I', q2⟩ := q'; exact ⟨σ', H', inv_np ok I', q2⟩
    | cont => obtain ⟨σ', H', I', q2⟩ := q'; exact ⟨σ', H', inv_np ok I', q2⟩
    | ret u => obtain ⟨v, σ', H', I', r, q2⟩ := q'; exact ⟨v, σ', H', inv_np ok I', r, q2⟩
  · obtain ⟨pins', σ', H1, s', I', ea, t, C, od, B, H', rfl, os, bare, fl, k1, k2, k3, C', eC, hS, hts⟩ := q
    cases eC
    have I2 : ∀ hh, B.StaysIn hh → s1.heap.UpToSlots hh → Inv { X with pn := X.pn ++ pins } pins' σ' H' { s1 with heap := hh } := fun hh a b => by
      obtain ⟨u, hok, _⟩ := k1 hh a b
      exact I'.call' (ch := []) os u hok bare fun b z => absurd z (by simp)
    rw [hst] at fl
    refine fly_note (by have := ok.frames; rw [hst] at this; exact this) hfr fl fun h4 held4 up4 => ?_
    refine fly_land held4 fun h5 fl5 up5 => ?_
    have I5 := I2 h5 fl5.st (up4.trans up5)
    have I5h := inv_h (ea := ea) I5
    refine wpAny_handleBy_cons (codeAny_handlers_test ?_) (by intro q; cases q)
    refine ld_glob I5h hgD hmD ?_ hdb
    obtain ⟨oe, ws, hoe, hoec, _, hoed, _⟩ := fl5.first
    refine excM_own I5.kIn OD (hSub C hS) hoe hoec ?_
    refine codeAny_handlers_suite_as ?_
    refine fly_land fl5 fun h6 fl6 up6 => ?_
    have I6 := I2 h6 fl6.st ((up4.trans up5).trans up6)
    obtain ⟨oe6, ws6, hoe6, hoec6, hoec7, hoed6, _⟩ := fl6.first
    have hnB : B.get? ea = none := fl6.nw
    have hnH : H' ea = none := by
      cases q : H' ea with
      | none => rfl
      | some o =>
        obtain ⟨u, e1⟩ := k2 ea o q
        rw [hnB] at e1; cases e1
    have nfr : ea ∉ frs X.stack := fun z => by
      rw [hst] at z
      obtain ⟨_, o, ho, hnf⟩ := fl6.ff.mem z
      rw [hoe6] at ho
      cases ho
      exact hnf _ hoed6
    have nin : s'.heap.get? ea = none := by
      cases q : s'.heap.get? ea with
      | none => rfl
      | some o =>
        rcases k3 ea o q with z | ⟨u, z⟩
        · exact absurd z nfr
        · rw [hnB] at z; cases z
    have n0 : X.s₀.heap.get? ea = none := by
      cases q : X.s₀.heap.get? ea with
      | none => rfl
      | some o =>
        obtain ⟨o', e1⟩ := I'.base.there ea o q (by show ea ∉ X.ex; rw [hex]; simp)
        rw [nin] at e1; cases e1
    have nL : ea ≠ X.env.locals := fun z => by
      obtain ⟨m, ⟨o, _, _, ho, _⟩, _⟩ := I'.loc
      have ho' : s'.heap.get? X.env.locals = some o := ho
      rw [← z, nin] at ho'
      cases ho'
    have nC : ∀ x c, X.env.cells.lookup x = some c → c ≠ ea := fun x c e z => by
      obtain ⟨v, o, ho, _⟩ := I'.cell x c e
      rw [z, nin] at ho
      cases ho
    have nP : ∀ p ∈ (X.pn ++ pins) ++ pins', p.1 ≠ ea := fun p hp z => by
      have := (I'.pin p hp).1
      rw [z, nin] at this
      cases this
    have I7 := inv_track (a := ea) (o := excA ea C od) I6 hnH n0 nL nC nP (excA_ok hoe6 hoec6 hoec7 hoed6)
    refine store_ok (X := Xh X (X.pn ++ pins) ea) (inv_h (ea := ea) I7) hN hi (.inl hlo) (v := .ref ea) (u := .ref ea) rfl (fun s7 I8 => ?_) hfn
    refine wpAny_mono (hs (X.pn ++ pins) ea pins' s7 _ _ _ I8 (hts ea hnH)) (fun f s8 q8 => ?_) (fun _ _ z => False.elim z)
    have gone : ∀ {σ9 : St} {H9 : Hp}, Inv (Xh X (X.pn ++ pins) ea) pins' σ9 H9 s8 → ∀ {Q : Unit → Shared → Prop} {E : Value → Shared → Prop}, (∀ s', Inv X pins (σ9.set i none) H9 s' → Q () s') → wpAny (model X.prog X.w) X.A (do bindName X.env n .none; unbindBehindTheSuite X.env n hpos) Q E s8 :=
      fun {σ9 H9} J {Q E} k => name_gone (inv_back ok J) hN hi hlo k
    cases f with
    | next => obtain ⟨σ9, H9, I9, q9⟩ := q8; exact gone I9 fun s' J => ⟨_, H9, J, q9⟩
    | brk => obtain ⟨σ9, H9, I9, q9⟩ := q8; exact gone I9 fun s' J => ⟨_, H9, J, q9⟩
    | cont => obtain ⟨σ9, H9, I9, q9⟩ := q8; exact gone I9 fun s' J => ⟨_, H9, J, q9⟩
    | ret u => obtain ⟨v, σ9, H9, I9, r, q9⟩ := q8; exact gone I9 fun s' J => ⟨v, _, H9, J, r, q9⟩
def rIsE2 (K : PySem.W.Frag) : List V → Hp → VK → Prop := fun xs H Q => ∃ a C od c cv b, xs = [.ref a, c] ∧ H a = some (excA a C od) ∧ ErrC K C ∧ RelV c cv ∧ (∀ cv', RelV c cv' → cv' = cv) ∧ PySem.W.kitOne K (.ref C) cv = some b ∧ Q (.bl b) H
theorem call_isE2 : CallR X (.builtin "isinstance") (rIsE2 X.K) := by
  intro pins s σ H xs us Q I r h
  obtain ⟨a, C, od, c, cv, b, rfl, hH, e, rc, ru, hk, q⟩ := h
  cases r with
  | cons r1 r2 =>
    cases r2 with
    | cons r3 r4 =>
      cases r4
      cases r1
      rw [ru _ r3]
      obtain ⟨oe, vs, h1, h2, _, h3⟩ := (I.hok a _ hH).1
      exact PySem.W.kia_one (kitx_exc e) I.kIn ⟨oe, vs, h1, h2, h3⟩ hk (fun z => nomatch z) fun tk => ⟨.bl _, H, I.tok _, rfl, q⟩
def tFldE (K : PySem.W.Frag) (ta : TE) (f : Str) : TE := fun σ H Q => ta σ H fun x H1 => ∃ a C d fs v, x = .ref a ∧ H1 a = some (excA a C (some d)) ∧ H1 d = some (.xd fs) ∧ ErrC K C ∧ ErrA K C f ∧ fs.lookup f = some v ∧ Q v H1
theorem pe_fldE {f : Str} (he : PE X e ta) (hb : attributeBase e f X.env (eval e X.env) = eval e X.env) : PE X (.Attribute e f pos) (tFldE X.K ta f) := by
  intro pins s σ H Q I h
  refine attr_of hb (thn (he pins s σ H _ I h) fun u s1 ⟨x, H1, I1, rx, a, C, d, fs, v, ex, ea, ed, c, c2, l, q⟩ => ?_)
  subst ex
  obtain rfl : u = Value.ref a := rx
  obtain ⟨oe, vs, h1, h2, h3, h4⟩ := (I1.hok a _ ea).1
  obtain ⟨mA, hn, hr⟩ := (show ObjOk X.prog X.w H1 s1.heap d (.xd fs) from I1.hok d _ ed)
  obtain ⟨od, hod, hl⟩ := lookIn_ns hn
  obtain ⟨u', hu, ru⟩ := RelO.some_of (v := v) (o := mA f) (by rw [← l]; exact hr f)
  have II : PySem.W.InstAt s1.heap a oe C (some od) := ⟨h1, h2, by unfold PySem.W.notCls; rw [h4], by rw [h3]; exact hod⟩
  have hk := I1.kIn
  have ht := I1.tok (s1.toks + 1)
  obtain ⟨hp, g, dr, tk, os⟩ := s1
  exact exc_at_get hk c II (PySem.W.findObj_own c2.hd c2.na rfl (by rw [hl, hu])) (handed_of ru) ⟨v, H1, ht, ru, q⟩
def rIsT2 (K : PySem.W.Frag) : List V → Hp → VK → Prop := fun xs H Q => ∃ a C od tp, ∃ cs : List Addr, xs = [.ref a, .ref tp] ∧ H a = some (excA a C od) ∧ ErrC K C ∧ H tp = some (.tup (cs.map V.ref)) ∧ (∀ D ∈ cs, PySem.W.kitOne K (.ref C) (.ref D) = some false) ∧ Q (.bl false) H
theorem kit_none {K : PySem.W.Frag} {t : Value} : ∀ {l : List Value}, (∀ v ∈ l, PySem.W.kitOne K t v = some false) → PySem.W.kitAny K t l = some false
  | [], _ => rfl
  | v :: l, h => by
    unfold PySem.W.kitAny
    rw [h v (List.mem_cons_self ..)]
    exact kit_none fun u hu => h u (List.mem_cons_of_mem _ hu)
theorem vals_refs : ∀ {cs : List Addr} {us : List Value}, Vals (cs.map V.ref) us → us = cs.map Value.ref
  | [], _, r => by cases r; rfl
  | c :: cs, _, r => by
    cases r with
    | cons a b => rw [vals_refs b]; cases a; rfl
theorem call_isT2 : CallR X (.builtin "isinstance") (rIsT2 X.K) := by
  intro pins s σ H xs us Q I r h
  obtain ⟨a, C, od, tp, cs, rfl, hH, e, ht, hk, q⟩ := h
  cases r with
  | cons r1 r2 =>
    cases r2 with
    | cons r3 r4 =>
      cases r4
      cases r1
      cases r3
      obtain ⟨oe, vs, h1, h2, _, h3⟩ := (I.hok a _ hH).1
      obtain ⟨_, its, rv, ob, ho, hc, n, hd⟩ := I.hok tp _ ht
      obtain ⟨oc, od', odt, osl⟩ := ob
      cases (show oc = _ from hc)
      cases (show odt = _ from hd)
      exact PySem.W.kia_tup (kitx_exc e) I.kIn ⟨oe, vs, h1, h2, h3⟩ ho (kit_none fun v hv => by
        rw [vals_refs rv] at hv
        obtain ⟨D, hD, rfl⟩ := List.mem_map.mp hv
        exact hk D hD) (fun z => nomatch z) fun tk => ⟨.bl _, H, I.tok _, rfl, q⟩
theorem r_Kt2 {X : Cx} {pn : List (Addr × Obj)} {Ef : St → XK} : (Xt2 X pn Ef).K = X.K := rfl
variable {D : Ends} {σ : St} {H : Hp} {K : PySem.W.Frag} {Q : VK} {tv : TE} {f : Str}
def MthE (C : Addr) (m : Str) (sp : Sp) (E : XK) (x : V) (t : TA) (σ : St) (H : Hp) (Q : VK) : Prop := ∃ a dx fs, x = .ref a ∧ H a = some (.ins C dx fs) ∧ fs.lookup m = none ∧ t σ H fun vs H2 => sp (x :: (vs ++ [])) H2 Q E
theorem r_methE : tMeth C m sp [] E ta t σ H Q = ta σ H fun x H1 => MthE C m sp E x t σ H1 Q := rfl
theorem r_raise2 {R : Option Addr → Hp → Prop} : tRaise2 C sp t R D σ H = t σ H fun vs H1 => vs.length ≤ sizeLine ∧ ∀ a, H1 a = none → sp (.ref a :: vs) (upd H1 a (excN a C none)) (fun v H2 => v = .non ∧ ∃ od, H2 a = some (excN a C od) ∧ R od (del H2 a)) E0 := rfl
theorem r_fldE : tFldE K ta f σ H Q = ta σ H fun x H1 => ∃ a C d fs v, x = .ref a ∧ H1 a = some (excA a C (some d)) ∧ H1 d = some (.xd fs) ∧ ErrC K C ∧ ErrA K C f ∧ fs.lookup f = some v ∧ Q v H1 := rfl
theorem r_sfldE : sFldE K ta tv f D σ H = tv σ H fun y H1 => ta σ H1 fun x H2 => ∃ a C, x = .ref a ∧ H2 a = some (excN a C none) ∧ ErrA K C f ∧ ∀ d, H2 d = none → D.nx σ (upd (upd H2 a (excN a C (some d))) d (.xd [(f, y)])) := rfl
theorem r_try2 {Sub : Addr → Prop} {i : Nat} {tb : (St → XK) → TS} {ts : TS} : tTry2 Sub i tb ts D σ H = tb (fun σ' cls od H' => ∃ C, cls = .ref C ∧ Sub C ∧ ∀ ea, H' ea = none → ts { D with nx := fun σ2 H2 => D.nx (σ2.set i none) H2, bk := fun σ2 H2 => D.bk (σ2.set i none) H2, ct := fun σ2 H2 => D.ct (σ2.set i none) H2 } (σ'.set i (some (.ref ea))) (upd H' ea (excA ea C od))) D σ H := rfl
end
end L2
local macro_rules | `(tactic| walk_at "rd") => `(tactic| try simp only [L2.r_next, L2.r_rng2, L2.r_addS, L2.r_slS, L2.r_ixS, L2.r_leS, L2.r_Kn, L2.r_Kh, L2.r_Kt, L2.r_KH, L2.r_Kt2, L2.r_callX, L2.r_try2, L2.r_sfldE, L2.r_fldE, L2.r_raise2, L2.r_iS, L2.r_notInT, L2.r_gnil, L2.r_gcons, L2.r_gtup, L2.r_augN, L2.r_asg, L2.r_ret, L2.r_retN, L2.r_drop, L2.r_ifS, L2.r_name, L2.r_sub, L2.r_var, L2.r_varS, L2.r_c, L2.r_op, L2.r_un, L2.r_test, L2.r_tB, L2.r_and, L2.r_or, L2.r_not, L2.r_andV, L2.r_orV, L2.r_notV, L2.r_ifE, L2.r_chain, L2.r_nil, L2.r_cons, L2.r_tup, L2.r_lst, L2.r_call, L2.r_cb, L2.r_I, L2.r_I0, L2.r_eqI, L2.r_neI, L2.r_eqB, L2.r_ixL, L2.r_ixT, L2.r_setL, L2.r_sl, L2.r_noP, L2.r_eqS, L2.r_neS, L2.r_fld, L2.r_sfld, L2.r_methE, L2.r_make, L2.r_aug, L2.r_bm, L2.r_part, L2.r_for, L2.r_rng1, L2.r_iL, L2.r_iT, L2.rU, L2.r_K, L2.r_min2, L2.r_max2, L2.r_isNf, L2.r_isNt,
  List.getElem?_cons_zero, List.getElem?_cons_succ, List.set_cons_zero, List.set_cons_succ, Option.some.injEq, exists_eq_left', L2.V.int.injEq, L2.V.str.injEq, L2.V.bl.injEq, L2.V.ref.injEq, true_and, decide_eq_true_eq, List.cons_append, List.nil_append, List.append_nil, Bool.not_eq_true', decide_eq_false_iff_not, if_true, if_false, Bool.false_eq_true, Bool.true_eq_false, Bool.not_true, Bool.not_false, not_true_eq_false, not_false_eq_true])
local macro_rules | `(tactic| walk_at "st") => `(tactic| (walk_at "rd"; rw [L2.r_seq]; walk_at "rd"))
local macro_rules | `(tactic| walk_at "cl") => `(tactic| try simp only [L2.r_K, L2.r_KH, L2.r_Kt, L2.r_Kt2, L2.r_Kh, L2.r_Kn])
local macro_rules | `(tactic| walk_at "T") => `(tactic| rw [if_pos (by first | rfl | trivial)])
local macro_rules | `(tactic| walk_at "F") => `(tactic| rw [if_neg (by intro h; cases h)])
namespace My
open PySem L2 M
def top (i : Nat) : Stmt := PySem.Challenge.pw_tally_k04_what_writes_no_rule.main.body.getD i (.Pass ⟨0, 0, 0, 0⟩)
abbrev s_BadWord___init__ : Stmt := inClass (top 10) 0
theorem sc_BadWord___init__ : FnScope ["self", "at"] ["self", "at"] (defScope s_BadWord___init__) := ⟨rfl, rfl, rfl, by decide +kernel, rfl, by decide +kernel, by decide +kernel⟩
abbrev s_writes_whole : Stmt := top 13
theorem sc_writes_whole : FnScope ["word", "least", "most"] ["word", "least", "most"] (defScope s_writes_whole) := ⟨rfl, rfl, rfl, by decide +kernel, rfl, by decide +kernel, by decide +kernel⟩
abbrev s_read_rule : Stmt := top 19
theorem sc_read_rule : FnScope ["text", "reader", "rule"] ["text"] (defScope s_read_rule) := ⟨rfl, rfl, rfl, by decide +kernel, rfl, by decide +kernel, by decide +kernel⟩
abbrev s_RuleReader___init__ : Stmt := inClass (top 20) 0
theorem sc_RuleReader___init__ : FnScope ["self", "words"] ["self", "words"] (defScope s_RuleReader___init__) := ⟨rfl, rfl, rfl, by decide +kernel, rfl, by decide +kernel, by decide +kernel⟩
abbrev s_RuleReader_refuse_more : Stmt := inClass (top 20) 1
theorem sc_RuleReader_refuse_more : FnScope ["self"] ["self"] (defScope s_RuleReader_refuse_more) := ⟨rfl, rfl, rfl, by decide +kernel, rfl, by decide +kernel, by decide +kernel⟩
abbrev s_RuleReader_word_here : Stmt := inClass (top 20) 2
theorem sc_RuleReader_word_here : FnScope ["self"] ["self"] (defScope s_RuleReader_word_here) := ⟨rfl, rfl, rfl, by decide +kernel, rfl, by decide +kernel, by decide +kernel⟩
abbrev s_RuleReader_read_part : Stmt := inClass (top 20) 3
theorem sc_RuleReader_read_part : FnScope ["self", "room", "word"] ["self", "room"] (defScope s_RuleReader_read_part) := ⟨rfl, rfl, rfl, by decide +kernel, rfl, by decide +kernel, by decide +kernel⟩
abbrev s_RuleReader_read_unit : Stmt := inClass (top 20) 4
theorem sc_RuleReader_read_unit : FnScope ["self", "room", "to", "lead", "cap", "inner", "last"] ["self", "room"] (defScope s_RuleReader_read_unit) := ⟨rfl, rfl, rfl, by decide +kernel, rfl, by decide +kernel, by decide +kernel⟩
abbrev s_RuleReader_read_number : Stmt := inClass (top 20) 5
theorem sc_RuleReader_read_number : FnScope ["self", "least", "word"] ["self", "least"] (defScope s_RuleReader_read_number) := ⟨rfl, rfl, rfl, by decide +kernel, rfl, by decide +kernel, by decide +kernel⟩
abbrev s_RuleReader_read_cap : Stmt := inClass (top 20) 6
theorem sc_RuleReader_read_cap : FnScope ["self", "to"] ["self", "to"] (defScope s_RuleReader_read_cap) := ⟨rfl, rfl, rfl, by decide +kernel, rfl, by decide +kernel, by decide +kernel⟩
abbrev s_RuleReader_read_last : Stmt := inClass (top 20) 7
theorem sc_RuleReader_read_last : FnScope ["self", "cap", "room"] ["self", "cap", "room"] (defScope s_RuleReader_read_last) := ⟨rfl, rfl, rfl, by decide +kernel, rfl, by decide +kernel, by decide +kernel⟩
abbrev s_law_tape : Stmt := top 22
theorem sc_law_tape : FnScope ["_law_script", "_law_way"] ["_law_script"] (defScope s_law_tape) := ⟨rfl, rfl, rfl, by decide +kernel, rfl, by decide +kernel, by decide +kernel⟩
abbrev s_law_draw : Stmt := top 23
theorem sc_law_draw : FnScope ["_law_tape_here", "_law_many", "_law_script", "_law_spot", "_law_cell", "_law_left", "_law_mixed"] ["_law_tape_here", "_law_many"] (defScope s_law_draw) := ⟨rfl, rfl, rfl, by decide +kernel, rfl, by decide +kernel, by decide +kernel⟩
abbrev s_law_unit : Stmt := top 24
theorem sc_law_unit : FnScope ["_law_tape_here", "_law_deep", "_law_thin", "_law_to", "_law_lead", "_law_cap", "_law_last", "_law_inner"] ["_law_tape_here", "_law_deep", "_law_thin"] (defScope s_law_unit) := ⟨rfl, rfl, rfl, by decide +kernel, rfl, by decide +kernel, by decide +kernel⟩
abbrev s_law_rule : Stmt := top 25
theorem sc_law_rule : FnScope ["_law_tape_here", "_law_deep", "_law_thin"] ["_law_tape_here", "_law_deep", "_law_thin"] (defScope s_law_rule) := ⟨rfl, rfl, rfl, by decide +kernel, rfl, by decide +kernel, by decide +kernel⟩
abbrev s_law_any_rule : Stmt := top 26
theorem sc_law_any_rule : FnScope ["_law_tape_here", "_law_way"] ["_law_tape_here"] (defScope s_law_any_rule) := ⟨rfl, rfl, rfl, by decide +kernel, rfl, by decide +kernel, by decide +kernel⟩
abbrev s_law_full : Stmt := top 27
theorem sc_law_full : FnScope ["_law_tape_here", "_law_many", "_law_deep", "_law_left", "_law_inner", "_law_last"] ["_law_tape_here", "_law_many", "_law_deep"] (defScope s_law_full) := ⟨rfl, rfl, rfl, by decide +kernel, rfl, by decide +kernel, by decide +kernel⟩
abbrev s_law_words : Stmt := top 28
theorem sc_law_words : FnScope ["_law_rule_here", "_law_words_here", "_law_one"] ["_law_rule_here"] (defScope s_law_words) := ⟨rfl, rfl, rfl, by decide +kernel, rfl, by decide +kernel, by decide +kernel⟩
abbrev s_law_bent : Stmt := top 29
theorem sc_law_bent : FnScope ["_law_tape_here", "_law_words_here", "_law_odd", "_law_word", "_law_at", "_law_way"] ["_law_tape_here", "_law_words_here"] (defScope s_law_bent) := ⟨rfl, rfl, rfl, by decide +kernel, rfl, by decide +kernel, by decide +kernel⟩
abbrev s_law_number : Stmt := top 30
theorem sc_law_number : FnScope ["_law_word", "_law_sign"] ["_law_word"] (defScope s_law_number) := ⟨rfl, rfl, rfl, by decide +kernel, rfl, by decide +kernel, by decide +kernel⟩
abbrev s_law_read : Stmt := top 31
theorem sc_law_read : FnScope ["_law_words_here", "_law_at", "_law_deep", "_law_many", "_law_k", "_law_numbers", "_law_cap", "_law_inner", "_law_spot", "_law_last"] ["_law_words_here", "_law_at", "_law_deep", "_law_many"] (defScope s_law_read) := ⟨rfl, rfl, rfl, by decide +kernel, rfl, by decide +kernel, by decide +kernel⟩
abbrev s_law_told : Stmt := top 32
theorem sc_law_told : FnScope ["_law_text", "_law_told_here", "_law_caught", "e"] ["_law_text"] (defScope s_law_told) := ⟨rfl, rfl, rfl, by decide +kernel, rfl, by decide +kernel, by decide +kernel⟩
abbrev s_law : Stmt := top 33
theorem sc_law : FnScope ["_law_script", "_law_tape_here", "_law_words_here", "_law_k", "_law_bent_here", "_law_more", "_law_rule_here", "_law_spot", "_law_many", "_law_due", "_law_found"] ["_law_script"] (defScope s_law) := ⟨rfl, rfl, rfl, by decide +kernel, rfl, by decide +kernel, by decide +kernel⟩
section
variable {P : Program} {w : World} {K : PySem.W.Frag} {mg : Str → Option Value} {base : Heap} {ns : List Int} {k : Nat}
theorem ok_law_tape (F : Df K mg "_law_tape" s_law_tape ["_law_script"]) (m_len : mg "len" = none) : Dn P w K mg base (k + 1) "_law_tape" ["_law_script"] (spTape K ns) := by
  refine F.ok sc_law_tape (fun vs H Q E h => ?_) (fun f cdv A outer s H vs Q E hr h => ?_)
  · obtain ⟨a, rfl, _⟩ := h; rfl
  obtain ⟨a, rfl, hs, q⟩ := h
  refine ⟨_, [some _, none], 
      (@pss_cons _ _ _ _ _ (@ps_set _ _ 1 _ _ _ _ sc_law_tape.nd rfl (Or.inl rfl) (@pe_int _ _ _ _) (by rfl) (by first | exact .inl rfl | exact .inr rfl | assumption)) 
      (@pss_cut _ _ _ _ _ (@ps_if _ _ _ _ _ _ _ _ (@pt_cmpR _ _ _ _ _ _ _ _ op_gt (@pe_callBu _ _ _ _ _ _ _ _ _ call_lenS rfl m_len PySem.boot_len (@pa_u _ _ _ _ _ (@pv _ 0 _ _ (by rfl) (by first | exact Or.inl rfl | exact Or.inr (Or.inl rfl) | exact Or.inr (Or.inr rfl)) (by decide) (by decide)) (@pa_nil _) (by rfl)) (by rfl) (by decide) (by decide)) (@pe_int _ _ _ _) (nomark _)) (@pss_one _ _ _ (@ps_set _ _ 1 _ _ _ _ sc_law_tape.nd rfl (Or.inl rfl) (@pe_op _ _ _ _ _ _ _ _ op_mod (@pe_ix _ _ _ _ _ _ _ ix_list (@pv _ 0 _ _ (by rfl) (by first | exact Or.inl rfl | exact Or.inr (Or.inl rfl) | exact Or.inr (Or.inr rfl)) (by decide) (by decide)) (@pe_int _ _ _ _) (fun _ _ => rfl)) (@pe_int _ _ _ _)) (by rfl) (by first | exact .inl rfl | exact .inr rfl | assumption))) (@pss_nil _)) (@pss_one _ _ _ (@ps_ret _ _ _ _ (@pe_lst _ _ _ _ (@pa_u _ _ _ _ _ (@pv _ 0 _ _ (by rfl) (by first | exact Or.inl rfl | exact Or.inr (Or.inl rfl) | exact Or.inr (Or.inr rfl)) (by decide) (by decide)) (@pa_u _ _ _ _ _ (@pe_int _ _ _ _) (@pa_u _ _ _ _ _ (@pe_int _ _ _ _) (@pa_u _ _ _ _ _ (@pv _ 1 _ _ (by rfl) (by first | exact Or.inl rfl | exact Or.inr (Or.inl rfl) | exact Or.inr (Or.inr rfl)) (by decide) (by decide)) (@pa_nil _) (by rfl)) (by rfl)) (by rfl)) (by rfl))))))), rfl, ?_⟩
  walk_at "cl"
  walk_at "st"
  refine r_cut (fun σ' H' => ∃ c : Int, σ' = [some (.ref a), some (.int c)] ∧ H' = H) (fun M hM => ?_) ?_
  · walk_at "rd"
    refine len_of hs ?_
    walk_at "rd"
    refine ite2 (fun c => ?_) (fun c => hM _ _ ⟨_, rfl, rfl⟩)
    obtain ⟨n, hn⟩ := at0 (ns := ns) (by omega)
    refine ⟨_, hs, _, hn, ?_⟩
    walk_at "rd"
    exact ⟨by decide, hM _ _ ⟨_, rfl, rfl⟩⟩
  · rintro _ _ ⟨c, rfl, rfl⟩
    walk_at "rd"
    exact ⟨small6 (by simp), fun p hp => q p _ ⟨a, 0, 0, c, upd_same, .of hs hp _⟩⟩
theorem ok_law_drawS (F : Df K mg "_law_draw" s_law_draw ["_law_tape_here", "_law_many"]) (m_len : mg "len" = none) : Dn P w K mg base (k + 1) "_law_draw" ["_law_tape_here", "_law_many"] (spDrawS K ns) := by
  refine F.ok sc_law_draw (fun vs H Q E h => ?_) (fun f cdv A outer s H vs Q E hr h => ?_)
  · obtain ⟨t, sc, m, rfl, _⟩ := h; rfl
  obtain ⟨t, sc, m, rfl, m0, m1, ⟨sp, cr, wy, ht, hc⟩, q⟩ := h
  refine ⟨_, [some _, some _, none, none, none, none, none], 
      (@pss_cons _ _ _ _ _ (@ps_set _ _ 2 _ _ _ _ sc_law_draw.nd rfl (Or.inl rfl) (@pe_ix _ _ _ _ _ _ _ ix_list (@pv _ 0 _ _ (by rfl) (by first | exact Or.inl rfl | exact Or.inr (Or.inl rfl) | exact Or.inr (Or.inr rfl)) (by decide) (by decide)) (@pe_int _ _ _ _) (fun _ _ => rfl)) (by rfl) (by first | exact .inl rfl | exact .inr rfl | assumption)) 
      (@pss_cons _ _ _ _ _ (@ps_set _ _ 3 _ _ _ _ sc_law_draw.nd rfl (Or.inl rfl) (@pe_ix _ _ _ _ _ _ _ ix_list (@pv _ 0 _ _ (by rfl) (by first | exact Or.inl rfl | exact Or.inr (Or.inl rfl) | exact Or.inr (Or.inr rfl)) (by decide) (by decide)) (@pe_int _ _ _ _) (fun _ _ => rfl)) (by rfl) (by first | exact .inl rfl | exact .inr rfl | assumption)) 
      (@pss_cons _ _ _ _ _ (@ps_asg _ _ _ _ _ _ (@pe_op _ _ _ _ _ _ _ _ op_add (@pv _ 3 _ _ (by rfl) (by first | exact Or.inl rfl | exact Or.inr (Or.inl rfl) | exact Or.inr (Or.inr rfl)) (by decide) (by decide)) (@pe_int _ _ _ _)) (@pg_sub _ _ _ _ _ _ _ (@pv _ 0 _ _ (by rfl) (by first | exact Or.inl rfl | exact Or.inr (Or.inl rfl) | exact Or.inr (Or.inr rfl)) (by decide) (by decide)) (@pe_int _ _ _ _) set_list (by intro _; rfl)) (by rfl) (by rfl) (by rfl)) 
      (@pss_cons _ _ _ _ _ (@ps_set _ _ 4 _ _ _ _ sc_law_draw.nd rfl (Or.inl rfl) (@pe_int _ _ _ _) (by rfl) (by first | exact .inl rfl | exact .inr rfl | assumption)) 
      (@pss_cut _ _ _ _ _ (@ps_if _ _ _ _ _ _ _ _ (@pt_cmpR _ _ _ _ _ _ _ _ op_gt (@pe_callBu _ _ _ _ _ _ _ _ _ call_lenS rfl m_len PySem.boot_len (@pa_u _ _ _ _ _ (@pv _ 2 _ _ (by rfl) (by first | exact Or.inl rfl | exact Or.inr (Or.inl rfl) | exact Or.inr (Or.inr rfl)) (by decide) (by decide)) (@pa_nil _) (by rfl)) (by rfl) (by decide) (by decide)) (@pe_int _ _ _ _) (nomark _)) (@pss_one _ _ _ (@ps_set _ _ 4 _ _ _ _ sc_law_draw.nd rfl (Or.inl rfl) (@pe_ix _ _ _ _ _ _ _ ix_list (@pv _ 2 _ _ (by rfl) (by first | exact Or.inl rfl | exact Or.inr (Or.inl rfl) | exact Or.inr (Or.inr rfl)) (by decide) (by decide)) (@pe_op _ _ _ _ _ _ _ _ op_mod (@pe_ifExp _ _ _ _ _ _ _ _ (@pt_cmpR _ _ _ _ _ _ _ _ op_eq (@pe_ix _ _ _ _ _ _ _ ix_list (@pv _ 0 _ _ (by rfl) (by first | exact Or.inl rfl | exact Or.inr (Or.inl rfl) | exact Or.inr (Or.inr rfl)) (by decide) (by decide)) (@pe_int _ _ _ _) (fun _ _ => rfl)) (@pe_int _ _ _ _) (nomark _)) (@pe_op _ _ _ _ _ _ _ _ op_fdiv (@pv _ 3 _ _ (by rfl) (by first | exact Or.inl rfl | exact Or.inr (Or.inl rfl) | exact Or.inr (Or.inr rfl)) (by decide) (by decide)) (@pe_int _ _ _ _)) (@pv _ 3 _ _ (by rfl) (by first | exact Or.inl rfl | exact Or.inr (Or.inl rfl) | exact Or.inr (Or.inr rfl)) (by decide) (by decide))) (@pe_callBu _ _ _ _ _ _ _ _ _ call_lenS rfl m_len PySem.boot_len (@pa_u _ _ _ _ _ (@pv _ 2 _ _ (by rfl) (by first | exact Or.inl rfl | exact Or.inr (Or.inl rfl) | exact Or.inr (Or.inr rfl)) (by decide) (by decide)) (@pa_nil _) (by rfl)) (by rfl) (by decide) (by decide))) (fun _ _ => rfl)) (by rfl) (by first | exact .inl rfl | exact .inr rfl | assumption))) (@pss_nil _)) 
      (@pss_cons _ _ _ _ _ (@ps_if _ _ _ _ _ _ _ _ (@pt_cmpR _ _ _ _ _ _ _ _ op_eq (@pe_ix _ _ _ _ _ _ _ ix_list (@pv _ 0 _ _ (by rfl) (by first | exact Or.inl rfl | exact Or.inr (Or.inl rfl) | exact Or.inr (Or.inr rfl)) (by decide) (by decide)) (@pe_int _ _ _ _) (fun _ _ => rfl)) (@pe_int _ _ _ _) (nomark _)) 
      (@pss_cut _ _ _ _ _ (@ps_if _ _ _ _ _ _ _ _ (@pt_cmpR _ _ _ _ _ _ _ _ op_eq (@pe_op _ _ _ _ _ _ _ _ op_mod (@pv _ 3 _ _ (by rfl) (by first | exact Or.inl rfl | exact Or.inr (Or.inl rfl) | exact Or.inr (Or.inr rfl)) (by decide) (by decide)) (@pe_int _ _ _ _)) (@pe_int _ _ _ _) (nomark _)) (@pss_one _ _ _ (@ps_asg _ _ _ _ _ _ (@pe_op _ _ _ _ _ _ _ _ op_fdiv (@pv _ 4 _ _ (by rfl) (by first | exact Or.inl rfl | exact Or.inr (Or.inl rfl) | exact Or.inr (Or.inr rfl)) (by decide) (by decide)) (@pe_int _ _ _ _)) (@pg_sub _ _ _ _ _ _ _ (@pv _ 0 _ _ (by rfl) (by first | exact Or.inl rfl | exact Or.inr (Or.inl rfl) | exact Or.inr (Or.inr rfl)) (by decide) (by decide)) (@pe_int _ _ _ _) set_list (by intro _; rfl)) (by rfl) (by rfl) (by rfl))) (@pss_nil _)) 
      (@pss_cons _ _ _ _ _ (@ps_set _ _ 5 _ _ _ _ sc_law_draw.nd rfl (Or.inl rfl) (@pe_ix _ _ _ _ _ _ _ ix_list (@pv _ 0 _ _ (by rfl) (by first | exact Or.inl rfl | exact Or.inr (Or.inl rfl) | exact Or.inr (Or.inr rfl)) (by decide) (by decide)) (@pe_int _ _ _ _) (fun _ _ => rfl)) (by rfl) (by first | exact .inl rfl | exact .inr rfl | assumption)) 
      (@pss_cons _ _ _ _ _ (@ps_asg _ _ _ _ _ _ (@pe_op _ _ _ _ _ _ _ _ op_fdiv (@pv _ 5 _ _ (by rfl) (by first | exact Or.inl rfl | exact Or.inr (Or.inl rfl) | exact Or.inr (Or.inr rfl)) (by decide) (by decide)) (@pv _ 1 _ _ (by rfl) (by first | exact Or.inl rfl | exact Or.inr (Or.inl rfl) | exact Or.inr (Or.inr rfl)) (by decide) (by decide))) (@pg_sub _ _ _ _ _ _ _ (@pv _ 0 _ _ (by rfl) (by first | exact Or.inl rfl | exact Or.inr (Or.inl rfl) | exact Or.inr (Or.inr rfl)) (by decide) (by decide)) (@pe_int _ _ _ _) set_list (by intro _; rfl)) (by rfl) (by rfl) (by rfl)) (@pss_one _ _ _ (@ps_ret _ _ _ _ (@pe_op _ _ _ _ _ _ _ _ op_mod (@pv _ 5 _ _ (by rfl) (by first | exact Or.inl rfl | exact Or.inr (Or.inl rfl) | exact Or.inr (Or.inr rfl)) (by decide) (by decide)) (@pv _ 1 _ _ (by rfl) (by first | exact Or.inl rfl | exact Or.inr (Or.inl rfl) | exact Or.inr (Or.inr rfl)) (by decide) (by decide)))))))) (@pss_nil _)) 
      (@pss_cons _ _ _ _ _ (@ps_set _ _ 6 _ _ _ _ sc_law_draw.nd rfl (Or.inl rfl) (@pe_op _ _ _ _ _ _ _ _ op_mod (@pe_op _ _ _ _ _ _ _ _ op_mul (@pe_op _ _ _ _ _ _ _ _ op_add (@pe_op _ _ _ _ _ _ _ _ op_mod (@pv _ 4 _ _ (by rfl) (by first | exact Or.inl rfl | exact Or.inr (Or.inl rfl) | exact Or.inr (Or.inr rfl)) (by decide) (by decide)) (@pe_int _ _ _ _)) (@pe_int _ _ _ _)) (@pe_op _ _ _ _ _ _ _ _ op_add (@pe_op _ _ _ _ _ _ _ _ op_add (@pe_op _ _ _ _ _ _ _ _ op_mul (@pe_op _ _ _ _ _ _ _ _ op_mod (@pv _ 3 _ _ (by rfl) (by first | exact Or.inl rfl | exact Or.inr (Or.inl rfl) | exact Or.inr (Or.inr rfl)) (by decide) (by decide)) (@pe_int _ _ _ _)) (@pe_int _ _ _ _)) (@pe_int _ _ _ _)) (@pv _ 3 _ _ (by rfl) (by first | exact Or.inl rfl | exact Or.inr (Or.inl rfl) | exact Or.inr (Or.inr rfl)) (by decide) (by decide)))) (@pe_int _ _ _ _)) (by rfl) (by first | exact .inl rfl | exact .inr rfl | assumption)) 
      (@pss_cons _ _ _ _ _ (@ps_set _ _ 6 _ _ _ _ sc_law_draw.nd rfl (Or.inl rfl) (@pe_op _ _ _ _ _ _ _ _ op_mod (@pe_op _ _ _ _ _ _ _ _ op_add (@pe_op _ _ _ _ _ _ _ _ op_add (@pe_op _ _ _ _ _ _ _ _ op_mul (@pv _ 6 _ _ (by rfl) (by first | exact Or.inl rfl | exact Or.inr (Or.inl rfl) | exact Or.inr (Or.inr rfl)) (by decide) (by decide)) (@pv _ 6 _ _ (by rfl) (by first | exact Or.inl rfl | exact Or.inr (Or.inl rfl) | exact Or.inr (Or.inr rfl)) (by decide) (by decide))) (@pe_op _ _ _ _ _ _ _ _ op_mul (@pe_int _ _ _ _) (@pv _ 6 _ _ (by rfl) (by first | exact Or.inl rfl | exact Or.inr (Or.inl rfl) | exact Or.inr (Or.inr rfl)) (by decide) (by decide)))) (@pv _ 3 _ _ (by rfl) (by first | exact Or.inl rfl | exact Or.inr (Or.inl rfl) | exact Or.inr (Or.inr rfl)) (by decide) (by decide))) (@pe_int _ _ _ _)) (by rfl) (by first | exact .inl rfl | exact .inr rfl | assumption)) (@pss_one _ _ _ (@ps_ret _ _ _ _ (@pe_op _ _ _ _ _ _ _ _ op_mod (@pe_op _ _ _ _ _ _ _ _ op_mod (@pe_op _ _ _ _ _ _ _ _ op_mul (@pv _ 6 _ _ (by rfl) (by first | exact Or.inl rfl | exact Or.inr (Or.inl rfl) | exact Or.inr (Or.inr rfl)) (by decide) (by decide)) (@pe_int _ _ _ _)) (@pe_int _ _ _ _)) (@pv _ 1 _ _ (by rfl) (by first | exact Or.inl rfl | exact Or.inr (Or.inl rfl) | exact Or.inr (Or.inr rfl)) (by decide) (by decide))))))))))))), rfl, ?_⟩
  walk_at "cl"
  walk_at "st"
  refine ⟨_, .of ht, _, rfl, ?_⟩
  walk_at "st"
  refine ⟨_, .of ht, _, rfl, ?_⟩
  walk_at "st"
  refine ⟨_, ht, _, rfl, ?_⟩
  have e1 : Ext t H (upd H t (HO.lst ([V.ref sc, V.int sp, V.int cr, V.int wy].set (Int.toNat 1) (V.int (sp + 1))))) := .at ht _
  have ht1 : (upd H t (HO.lst ([V.ref sc, V.int sp, V.int cr, V.int wy].set (Int.toNat 1) (V.int (sp + 1))))) t = some (HO.lst [V.ref sc, V.int (sp + 1), V.int cr, V.int wy]) := upd_same
  have hs1 := (hc.on e1).sq
  generalize upd H t (HO.lst ([V.ref sc, V.int sp, V.int cr, V.int wy].set (Int.toNat 1) (V.int (sp + 1)))) = H1 at e1 ht1 hs1 ⊢
  walk_at "st"
  refine r_cut (fun σ' H' => ∃ c : Int, σ' = [some (V.ref t), some (V.int m), some (V.ref sc), some (V.int sp), some (V.int c), none, none] ∧ H' = H1) (fun M hM => ?_) ?_
  · walk_at "rd"
    refine len_of hs1 ?_
    walk_at "rd"
    refine ite2 (fun c => ?_) (fun c => hM _ _ ⟨_, rfl, rfl⟩)
    refine ⟨_, .of ht1, _, rfl, ?_⟩
    walk_at "rd"
    refine ite2 (fun c1 => ⟨⟨by decide, by decide⟩, len_of hs1 ?_⟩) (fun c1 => len_of hs1 ?_)
    · walk_at "rd"
      obtain ⟨n, hn⟩ := atMod (ns := ns) (sp / 60) (by omega)
      exact ⟨by omega, _, hs1, _, hn, hM _ _ ⟨_, rfl, rfl⟩⟩
    · walk_at "rd"
      obtain ⟨n, hn⟩ := atMod (ns := ns) sp (by omega)
      exact ⟨by omega, _, hs1, _, hn, hM _ _ ⟨_, rfl, rfl⟩⟩
  · rintro _ _ ⟨c, rfl, rfl⟩
    walk_at "st"
    refine ⟨_, .of ht1, _, rfl, ?_⟩
    walk_at "rd"
    refine ite2 (fun c1 => ?_) (fun c1 => ?_)
    · refine r_cut (fun σ' H' => ∃ z : Int, σ' = [some (V.ref t), some (V.int m), some (V.ref sc), some (V.int sp), some (V.int c), none, none] ∧ H' t = some (HO.lst [V.ref sc, V.int (sp + 1), V.int z, V.int wy]) ∧ Ext t H H') (fun M hM => ?_) ?_
      · walk_at "rd"
        refine ⟨by decide, ite2 (fun c2 => ?_) (fun c2 => hM _ _ ⟨cr, rfl, ht1, e1⟩)⟩
        exact ⟨⟨by decide, by decide⟩, _, ht1, _, rfl, hM _ _ ⟨_, rfl, upd_same, e1.trans (.at ht1 _)⟩⟩
      · rintro _ H2 ⟨z, rfl, ht2, e2⟩
        walk_at "st"
        refine ⟨_, .of ht2, _, rfl, ?_⟩
        walk_at "st"
        refine ⟨⟨m0, m1⟩, _, ht2, _, rfl, m0, ?_⟩
        exact q _ _ (Int.emod_nonneg _ (by omega)) (Int.emod_lt_of_pos _ m0) ⟨⟨_, _, _, upd_same, hc.on (e2.trans (.at ht2 _))⟩, e2.trans (.at ht2 _)⟩
    · walk_at "st"
      have b1 := Int.emod_nonneg sp (show (997 : Int) ≠ 0 by decide)
      have b2 := Int.emod_lt_of_pos sp (show (0 : Int) < 997 by decide)
      have b3 := Int.emod_nonneg c (show (1000003 : Int) ≠ 0 by decide)
      have b4 := Int.emod_lt_of_pos c (show (0 : Int) < 1000003 by decide)
      refine ⟨by decide, by decide, cmul_l (by omega) (by omega), cmul_l (by omega) (by omega), by decide, ?_⟩
      generalize hx : (c % 1000003 + 1) * (sp % 997 * 7919 + 104729 + sp) % 1000033 = x
      have b5 : 0 ≤ x := by rw [← hx]; exact Int.emod_nonneg _ (by decide)
      have b6 : x < 1000033 := by rw [← hx]; exact Int.emod_lt_of_pos _ (by decide)
      walk_at "st"
      refine ⟨cmul_l (by omega) (by omega), cmul_l (by omega) (by omega), by decide, ?_⟩
      generalize hy : (x * x + 3 * x + sp) % 999983 = y
      have b7 : 0 ≤ y := by rw [← hy]; exact Int.emod_nonneg _ (by decide)
      have b8 : y < 999983 := by rw [← hy]; exact Int.emod_lt_of_pos _ (by decide)
      refine ⟨cmul_l (by omega) (by omega), by decide, m0, ?_⟩
      exact q _ _ (Int.emod_nonneg _ (by omega)) (Int.emod_lt_of_pos _ m0) ⟨⟨_, _, _, ht1, hc.on e1⟩, e1⟩
theorem ok_law_draw (F : Df K mg "_law_draw" s_law_draw ["_law_tape_here", "_law_many"]) (m_len : mg "len" = none) : Dn P w K mg base (k + 1) "_law_draw" ["_law_tape_here", "_law_many"] (spDraw K ns) :=
  (ok_law_drawS F m_len).imp fun vs H Q E ⟨t, m, e, m0, m1, ⟨sc, T⟩, q⟩ => ⟨t, sc, m, e, m0, m1, T, fun r H' a b c => q r H' a b c.cur⟩
end
end My
namespace My
open PySem L2 M
section
variable {P : Program} {w : World} {K : PySem.W.Frag} {mg : Str → Option Value} {base : Heap} {ns : List Int} {k : Nat}
theorem ok_law_unit {n : Nat} (F : Df K mg "_law_unit" s_law_unit ["_law_tape_here", "_law_deep", "_law_thin"]) (m_min : mg "min" = none) (d_law_draw : Dn P w K mg base k "_law_draw" ["_law_tape_here", "_law_many"] (spDraw K ns))
    (d_law_rule : Dn P w K mg base k "_law_rule" ["_law_tape_here", "_law_deep", "_law_thin"] (spRule K ns n)) : Dn P w K mg base (k + 1) "_law_unit" ["_law_tape_here", "_law_deep", "_law_thin"] (spUnit K ns (n + 1)) := by
  refine F.ok sc_law_unit (fun vs H Q E h => ?_) (fun f cdv A outer s H vs Q E hr h => ?_)
  · obtain ⟨t, dp, th, rfl, _⟩ := h; rfl
  obtain ⟨t, dp, th, rfl, dp0, dpn, th0, T, q⟩ := h
  refine ⟨_, [some _, some _, some _, none, none, none, none, none], 
      (@pss_cons _ _ _ _ _ (@ps_set _ _ 3 _ _ _ _ sc_law_unit.nd rfl (Or.inl rfl) (@pe_op _ _ _ _ _ _ _ _ op_add (@pe_int _ _ _ _) (@pe_callD _ _ _ _ _ _ _ _ _ _ d_law_draw hr rfl (@pa_u _ _ _ _ _ (@pv _ 0 _ _ (by rfl) (by first | exact Or.inl rfl | exact Or.inr (Or.inl rfl) | exact Or.inr (Or.inr rfl)) (by decide) (by decide)) (@pa_u _ _ _ _ _ (@pe_ix _ _ _ _ _ _ _ ix_list (@pe_lst _ _ _ _ (@pa_u _ _ _ _ _ (@pe_int _ _ _ _) (@pa_u _ _ _ _ _ (@pe_int _ _ _ _) (@pa_u _ _ _ _ _ (@pe_int _ _ _ _) (@pa_nil _) (by rfl)) (by rfl)) (by rfl))) (@pe_op _ _ _ _ _ _ _ _ op_fdiv (@pe_callD _ _ _ _ _ _ _ _ _ _ d_law_draw hr rfl (@pa_u _ _ _ _ _ (@pv _ 0 _ _ (by rfl) (by first | exact Or.inl rfl | exact Or.inr (Or.inl rfl) | exact Or.inr (Or.inr rfl)) (by decide) (by decide)) (@pa_u _ _ _ _ _ (@pe_int _ _ _ _) (@pa_nil _) (by rfl)) (by rfl)) (by rfl) (by decide)) (@pe_int _ _ _ _)) (fun _ _ => rfl)) (@pa_nil _) (by rfl)) (by rfl)) (by rfl) (by decide))) (by rfl) (by first | exact .inl rfl | exact .inr rfl | assumption)) 
      (@pss_cons _ _ _ _ _ (@ps_set _ _ 4 _ _ _ _ sc_law_unit.nd rfl (Or.inl rfl) (@pe_op _ _ _ _ _ _ _ _ op_add (@pe_int _ _ _ _) (@pe_callD _ _ _ _ _ _ _ _ _ _ d_law_draw hr rfl (@pa_u _ _ _ _ _ (@pv _ 0 _ _ (by rfl) (by first | exact Or.inl rfl | exact Or.inr (Or.inl rfl) | exact Or.inr (Or.inr rfl)) (by decide) (by decide)) (@pa_u _ _ _ _ _ (@pe_ix _ _ _ _ _ _ _ ix_list (@pe_lst _ _ _ _ (@pa_u _ _ _ _ _ (@pe_int _ _ _ _) (@pa_u _ _ _ _ _ (@pe_int _ _ _ _) (@pa_u _ _ _ _ _ (@pe_int _ _ _ _) (@pa_nil _) (by rfl)) (by rfl)) (by rfl))) (@pe_op _ _ _ _ _ _ _ _ op_fdiv (@pe_callD _ _ _ _ _ _ _ _ _ _ d_law_draw hr rfl (@pa_u _ _ _ _ _ (@pv _ 0 _ _ (by rfl) (by first | exact Or.inl rfl | exact Or.inr (Or.inl rfl) | exact Or.inr (Or.inr rfl)) (by decide) (by decide)) (@pa_u _ _ _ _ _ (@pe_int _ _ _ _) (@pa_nil _) (by rfl)) (by rfl)) (by rfl) (by decide)) (@pe_int _ _ _ _)) (fun _ _ => rfl)) (@pa_nil _) (by rfl)) (by rfl)) (by rfl) (by decide))) (by rfl) (by first | exact .inl rfl | exact .inr rfl | assumption)) 
      (@pss_cons _ _ _ _ _ (@ps_set _ _ 5 _ _ _ _ sc_law_unit.nd rfl (Or.inl rfl) (@pe_non _ _ _) (by rfl) (by first | exact .inl rfl | exact .inr rfl | assumption)) 
      (@pss_cons _ _ _ _ _ (@ps_set _ _ 6 _ _ _ _ sc_law_unit.nd rfl (Or.inl rfl) (@pe_non _ _ _) (by rfl) (by first | exact .inl rfl | exact .inr rfl | assumption)) 
      (@pss_cut _ _ _ _ _ (@ps_if _ _ _ _ _ _ _ _ (@pt_cmpR _ _ _ _ _ _ _ _ op_eq (@pe_callD _ _ _ _ _ _ _ _ _ _ d_law_draw hr rfl (@pa_u _ _ _ _ _ (@pv _ 0 _ _ (by rfl) (by first | exact Or.inl rfl | exact Or.inr (Or.inl rfl) | exact Or.inr (Or.inr rfl)) (by decide) (by decide)) (@pa_u _ _ _ _ _ (@pe_int _ _ _ _) (@pa_nil _) (by rfl)) (by rfl)) (by rfl) (by decide)) (@pe_int _ _ _ _) (nomark _)) (@pss_one _ _ _ (@ps_set _ _ 5 _ _ _ _ sc_law_unit.nd rfl (Or.inl rfl) (@pe_callBu _ _ _ _ _ _ _ _ _ (call_minS rfl) rfl m_min bt_min (@pa_u _ _ _ _ _ (@pe_int _ _ _ _) (@pa_u _ _ _ _ _ (@pe_op _ _ _ _ _ _ _ _ op_add (@pv _ 3 _ _ (by rfl) (by first | exact Or.inl rfl | exact Or.inr (Or.inl rfl) | exact Or.inr (Or.inr rfl)) (by decide) (by decide)) (@pe_callD _ _ _ _ _ _ _ _ _ _ d_law_draw hr rfl (@pa_u _ _ _ _ _ (@pv _ 0 _ _ (by rfl) (by first | exact Or.inl rfl | exact Or.inr (Or.inl rfl) | exact Or.inr (Or.inr rfl)) (by decide) (by decide)) (@pa_u _ _ _ _ _ (@pe_int _ _ _ _) (@pa_nil _) (by rfl)) (by rfl)) (by rfl) (by decide))) (@pa_nil _) (by rfl)) (by rfl)) (by rfl) (by decide) (by decide)) (by rfl) (by first | exact .inl rfl | exact .inr rfl | assumption))) (@pss_nil _)) 
      (@pss_cons _ _ _ _ _ (@ps_set _ _ 7 _ _ _ _ sc_law_unit.nd rfl (Or.inl rfl) (@pe_callD _ _ _ _ _ _ _ _ _ _ d_law_rule hr rfl (@pa_u _ _ _ _ _ (@pv _ 0 _ _ (by rfl) (by first | exact Or.inl rfl | exact Or.inr (Or.inl rfl) | exact Or.inr (Or.inr rfl)) (by decide) (by decide)) (@pa_u _ _ _ _ _ (@pe_op _ _ _ _ _ _ _ _ op_sub (@pv _ 1 _ _ (by rfl) (by first | exact Or.inl rfl | exact Or.inr (Or.inl rfl) | exact Or.inr (Or.inr rfl)) (by decide) (by decide)) (@pe_int _ _ _ _)) (@pa_u _ _ _ _ _ (@pv _ 2 _ _ (by rfl) (by first | exact Or.inl rfl | exact Or.inr (Or.inl rfl) | exact Or.inr (Or.inr rfl)) (by decide) (by decide)) (@pa_nil _) (by rfl)) (by rfl)) (by rfl)) (by rfl) (by decide)) (by rfl) (by first | exact .inl rfl | exact .inr rfl | assumption)) 
      (@pss_cut _ _ _ _ _ (@ps_if _ _ _ _ _ _ _ _ (@PW.pt _ _ _ (@pw_and _ _ _ _ _ _ _ (@pt_cmpR _ _ _ _ _ _ _ _ op_notNS (@pv _ 5 _ _ (by rfl) (by first | exact Or.inl rfl | exact Or.inr (Or.inl rfl) | exact Or.inr (Or.inr rfl)) (by decide) (by decide)) (@pe_non _ _ _) (nomark _)) (@pw_and1 _ _ _ _ (@pt_cmpR _ _ _ _ _ _ _ _ op_gt (@pe_callD _ _ _ _ _ _ _ _ _ _ d_law_draw hr rfl (@pa_u _ _ _ _ _ (@pv _ 0 _ _ (by rfl) (by first | exact Or.inl rfl | exact Or.inr (Or.inl rfl) | exact Or.inr (Or.inr rfl)) (by decide) (by decide)) (@pa_u _ _ _ _ _ (@pe_int _ _ _ _) (@pa_nil _) (by rfl)) (by rfl)) (by rfl) (by decide)) (@pe_int _ _ _ _) (nomark _))))) (@pss_one _ _ _ (@ps_set _ _ 6 _ _ _ _ sc_law_unit.nd rfl (Or.inl rfl) (@pe_callD _ _ _ _ _ _ _ _ _ _ d_law_rule hr rfl (@pa_u _ _ _ _ _ (@pv _ 0 _ _ (by rfl) (by first | exact Or.inl rfl | exact Or.inr (Or.inl rfl) | exact Or.inr (Or.inr rfl)) (by decide) (by decide)) (@pa_u _ _ _ _ _ (@pe_callBu _ _ _ _ _ _ _ _ _ (call_minS rfl) rfl m_min bt_min (@pa_u _ _ _ _ _ (@pe_op _ _ _ _ _ _ _ _ op_sub (@pv _ 1 _ _ (by rfl) (by first | exact Or.inl rfl | exact Or.inr (Or.inl rfl) | exact Or.inr (Or.inr rfl)) (by decide) (by decide)) (@pe_int _ _ _ _)) (@pa_u _ _ _ _ _ (@pv _ 2 _ _ (by rfl) (by first | exact Or.inl rfl | exact Or.inr (Or.inl rfl) | exact Or.inr (Or.inr rfl)) (by decide) (by decide)) (@pa_nil _) (by rfl)) (by rfl)) (by rfl) (by decide) (by decide)) (@pa_u _ _ _ _ _ (@pv _ 2 _ _ (by rfl) (by first | exact Or.inl rfl | exact Or.inr (Or.inl rfl) | exact Or.inr (Or.inr rfl)) (by decide) (by decide)) (@pa_nil _) (by rfl)) (by rfl)) (by rfl)) (by rfl) (by decide)) (by rfl) (by first | exact .inl rfl | exact .inr rfl | assumption))) (@pss_nil _)) (@pss_one _ _ _ (@ps_ret _ _ _ _ (@pe_tup _ _ _ _ _ (@pa_u _ _ _ _ _ (@pe_str _ _ _ _) (@pa_u _ _ _ _ _ (@pv _ 3 _ _ (by rfl) (by first | exact Or.inl rfl | exact Or.inr (Or.inl rfl) | exact Or.inr (Or.inr rfl)) (by decide) (by decide)) (@pa_u _ _ _ _ _ (@pv _ 4 _ _ (by rfl) (by first | exact Or.inl rfl | exact Or.inr (Or.inl rfl) | exact Or.inr (Or.inr rfl)) (by decide) (by decide)) (@pa_u _ _ _ _ _ (@pv _ 5 _ _ (by rfl) (by first | exact Or.inl rfl | exact Or.inr (Or.inl rfl) | exact Or.inr (Or.inr rfl)) (by decide) (by decide)) (@pa_u _ _ _ _ _ (@pv _ 7 _ _ (by rfl) (by first | exact Or.inl rfl | exact Or.inr (Or.inl rfl) | exact Or.inr (Or.inr rfl)) (by decide) (by decide)) (@pa_u _ _ _ _ _ (@pv _ 6 _ _ (by rfl) (by first | exact Or.inl rfl | exact Or.inr (Or.inl rfl) | exact Or.inr (Or.inr rfl)) (by decide) (by decide)) (@pa_nil _) (by rfl)) (by rfl)) (by rfl)) (by rfl)) (by rfl)) (by rfl)))))))))))), rfl, ?_⟩
  walk_at "cl"
  walk_at "st"
  refine ⟨small6 (by simp), fun p1 hp1 => draw_of (T.new hp1 _) fun r1 H1 r10 r11 c1 => ?_⟩
  have s1 : SqL K H1 p1 [V.int 3, V.int 5, V.int 99] := c1.ext.sqL (T.ne hp1) (.of upd_same)
  walk_at "rd"
  obtain ⟨v1, hv1, m1⟩ := atMem (xs := [V.int 3, V.int 5, V.int 99]) (i := r1 / 8) (by omega) (by simp; omega)
  obtain ⟨k1, rfl, k10, k11⟩ : ∃ k : Int, v1 = .int k ∧ 0 < k ∧ k ≤ 99 := by
    simp at m1
    rcases m1 with rfl | rfl | rfl <;> exact ⟨_, rfl, by decide, by decide⟩
  refine ⟨⟨by decide, by decide⟩, _, s1, _, hv1, draw_of c1.tape (fun r2 H2 r20 r21 c2 => ?_) k10 (by omega)⟩
  have C2 : Cur K ns t H H2 := ((T.cur.new hp1 _).then c1).then c2
  walk_at "st"
  refine ⟨small6 (by simp), fun p2 hp2 => draw_of (C2.tape.new hp2 _) fun r3 H3 r30 r31 c3 => ?_⟩
  have s3 : SqL K H3 p2 [V.int 2, V.int 3, V.int 99] := c3.ext.sqL (C2.ne hp2) (.of upd_same)
  walk_at "rd"
  obtain ⟨v3, hv3, m3⟩ := atMem (xs := [V.int 2, V.int 3, V.int 99]) (i := r3 / 9) (by omega) (by simp; omega)
  obtain ⟨k3, rfl, k30, k31⟩ : ∃ k : Int, v3 = .int k ∧ 0 < k ∧ k ≤ 99 := by
    simp at m3
    rcases m3 with rfl | rfl | rfl <;> exact ⟨_, rfl, by decide, by decide⟩
  refine ⟨⟨by decide, by decide⟩, _, s3, _, hv3, draw_of c3.tape (fun r4 H4 r40 r41 c4 => ?_) k30 (by omega)⟩
  have C4 : Cur K ns t H H4 := ((C2.new hp2 _).then c3).then c4
  clear c1 s1 m1 c2 c3 s3 m3 c4
  walk_at "st"
  walk_at "st"
  refine r_cut (fun σ' H' => ∃ cap : Option Int, σ' = [some (.ref t), some (.int dp), some (.int th), some (.int (1 + r2)), some (.int (1 + r4)), some (optI cap), some .non, none] ∧ capOk (1 + r2) cap ∧ Cur K ns t H H') (fun M hM => ?_) ?_
  · walk_at "rd"
    refine draw_of C4.tape fun r5 H5 r50 r51 c5 => ?_
    walk_at "rd"
    refine ite2 (fun c => ?_) (fun c => hM _ _ ⟨none, rfl, trivial, C4.then c5⟩)
    refine draw_of c5.tape fun r6 H6 r60 r61 c6 => ?_
    walk_at "rd"
    refine hM _ _ ⟨some _, rfl, ⟨?_, ?_⟩, (C4.then c5).then c6⟩
    · split <;> omega
    · split <;> omega
  · rintro _ H6 ⟨cap, rfl, hcap, C6⟩
    walk_at "st"
    refine ⟨t, dp - 1, th, rfl, by omega, by omega, th0, C6.tape, fun i iv H7 oki dpi szi c7 di => ?_⟩
    walk_at "rd"
    have C7 := C6.then c7
    have hU : U dp.toNat th.toNat = 1 + U (dp - 1).toNat th.toNat + U (min (dp - 1).toNat th.toNat) th.toNat := by
      rw [show dp.toNat = (dp - 1).toNat + 1 by omega, U_succ]
    refine r_cut (fun σ' H' => ∃ (lv : V) (rl : Rl) (d5 : PyData), σ' = [some (.ref t), some (.int dp), some (.int th), some (.int (1 + r2)), some (.int (1 + r4)), some (optI cap), some lv, some iv] ∧
      enc rl = unitD (.int (1 + r2)) (.int (1 + r4)) (capD cap) (enc i) d5 ∧ ok rl ∧ depth rl ≤ dp.toNat ∧ size rl ≤ U dp.toNat th.toNat ∧ Cur K ns t H H' ∧ Dt K t H' (enc i) iv ∧ Dt K t H' d5 lv) (fun M hM => ?_) ?_
    · have plain : ∀ H', Cur K ns t H H' → Dt K t H' (enc i) iv → M [some (.ref t), some (.int dp), some (.int th), some (.int (1 + r2)), some (.int (1 + r4)), some (optI cap), some .non, some iv] H' := fun H' C' d' =>
        hM _ _ ⟨.non, .un (1 + r2) (1 + r4) cap i, .none, rfl, rfl, ⟨⟨by omega, by omega⟩, ⟨by omega, by omega⟩, hcap, oki⟩, by simp only [depth]; omega, by simp only [size]; omega, C', d', .non⟩
      walk_at "rd"
      cases cap with
      | none =>
        rw [if_neg (by simp [optI])]
        exact plain _ C7 di
      | some c =>
        rw [if_pos (by simp [optI])]
        refine draw_of C7.tape fun r8 H8 r80 r81 c8 => ?_
        walk_at "rd"
        refine ite2 (fun z => ?_) (fun z => plain _ (C7.then c8) (di.on c8.ext))
        have hmin : (if th < dp - 1 then th else dp - 1).toNat = min (dp - 1).toNat th.toNat := by split <;> omega
        refine ⟨t, _, th, rfl, by split <;> omega, by split <;> omega, th0, c8.tape, fun l lv H9 okl dpl szl c9 dl => ?_⟩
        rw [hmin] at dpl szl
        walk_at "rd"
        refine hM _ _ ⟨lv, .ul (1 + r2) (1 + r4) c i l, enc l, rfl, rfl, ⟨⟨by omega, by omega⟩, ⟨by omega, by omega⟩, hcap, oki, okl⟩, by simp only [depth]; omega, by simp only [size]; omega, (C7.then c8).then c9, di.on (c8.ext.trans c9.ext), dl⟩
    · rintro _ H9 ⟨lv, rl, d5, rfl, e, okr, dpr, szr, C9, di9, dl9⟩
      walk_at "rd"
      refine ⟨small6 (by simp), fun p hp => q rl _ _ okr dpr szr (C9.new hp _) ?_⟩
      rw [e]
      exact .newT hp (.cons (dstr "unit") (.cons (.int _) (.cons (.int _) (.cons (dt_cap cap) (.cons di9 (.cons dl9 .nil))))))
theorem ok_law_rule {n : Nat} (F : Df K mg "_law_rule" s_law_rule ["_law_tape_here", "_law_deep", "_law_thin"]) (d_law_draw : Dn P w K mg base k "_law_draw" ["_law_tape_here", "_law_many"] (spDraw K ns))
    (d_law_unit : Dn P w K mg base k "_law_unit" ["_law_tape_here", "_law_deep", "_law_thin"] (spUnit K ns n)) : Dn P w K mg base (k + 1) "_law_rule" ["_law_tape_here", "_law_deep", "_law_thin"] (spRule K ns n) := by
  refine F.ok sc_law_rule (fun vs H Q E h => ?_) (fun f cdv A outer s H vs Q E hr h => ?_)
  · obtain ⟨t, dp, th, rfl, _⟩ := h; rfl
  obtain ⟨t, dp, th, rfl, dp0, dpn, th0, T, q⟩ := h
  refine ⟨_, [some _, some _, some _], 
      (@pss_cons _ _ _ _ _ (@ps_if _ _ _ _ _ _ _ _ (@PW.pt _ _ _ (@pw_or _ _ _ _ _ _ _ (@pt_cmpR _ _ _ _ _ _ _ _ op_eq (@pv _ 1 _ _ (by rfl) (by first | exact Or.inl rfl | exact Or.inr (Or.inl rfl) | exact Or.inr (Or.inr rfl)) (by decide) (by decide)) (@pe_int _ _ _ _) (nomark _)) (@pw_or1 _ _ _ _ (@pt_cmpR _ _ _ _ _ _ _ _ op_eq (@pe_callD _ _ _ _ _ _ _ _ _ _ d_law_draw hr rfl (@pa_u _ _ _ _ _ (@pv _ 0 _ _ (by rfl) (by first | exact Or.inl rfl | exact Or.inr (Or.inl rfl) | exact Or.inr (Or.inr rfl)) (by decide) (by decide)) (@pa_u _ _ _ _ _ (@pe_int _ _ _ _) (@pa_nil _) (by rfl)) (by rfl)) (by rfl) (by decide)) (@pe_int _ _ _ _) (nomark _))))) (@pss_one _ _ _ (@ps_ret _ _ _ _ (@pe_tup _ _ _ _ _ (@pa_u _ _ _ _ _ (@pe_str _ _ _ _) (@pa_nil _) (by rfl))))) (@pss_nil _)) (@pss_one _ _ _ (@ps_ret _ _ _ _ (@pe_callD _ _ _ _ _ _ _ _ _ _ d_law_unit hr rfl (@pa_u _ _ _ _ _ (@pv _ 0 _ _ (by rfl) (by first | exact Or.inl rfl | exact Or.inr (Or.inl rfl) | exact Or.inr (Or.inr rfl)) (by decide) (by decide)) (@pa_u _ _ _ _ _ (@pv _ 1 _ _ (by rfl) (by first | exact Or.inl rfl | exact Or.inr (Or.inl rfl) | exact Or.inr (Or.inr rfl)) (by decide) (by decide)) (@pa_u _ _ _ _ _ (@pv _ 2 _ _ (by rfl) (by first | exact Or.inl rfl | exact Or.inr (Or.inl rfl) | exact Or.inr (Or.inr rfl)) (by decide) (by decide)) (@pa_nil _) (by rfl)) (by rfl)) (by rfl)) (by rfl) (by decide))))), rfl, ?_⟩
  walk_at "cl"
  have pt : ∀ H', Cur K ns t H H' → ∀ p, H' p = none → Q (.ref p) (upd H' p (.tup [.str "point"])) := fun H' C' p hp =>
    q .pt _ _ trivial (Nat.zero_le _) (Nat.zero_le _) (C'.new hp _) (.newT hp (.cons (dstr "point") .nil))
  walk_at "st"
  refine ite2 (fun c => ⟨small6 (by simp), pt H T.cur⟩) (fun c => ?_)
  refine draw_of T fun r1 H1 r10 r11 c1 => ?_
  walk_at "rd"
  refine ite2 (fun z => ⟨small6 (by simp), pt H1 c1⟩) (fun z => ?_)
  exact ⟨t, dp, th, rfl, by omega, dpn, th0, c1.tape, fun rl r H2 a b c C d => q rl r H2 a b c (c1.then C) d⟩
theorem all_rule {n : Nat} (Fr : Df K mg "_law_rule" s_law_rule ["_law_tape_here", "_law_deep", "_law_thin"]) (Fu : Df K mg "_law_unit" s_law_unit ["_law_tape_here", "_law_deep", "_law_thin"]) (m_min : mg "min" = none)
    (d_law_draw : Dn P w K mg base k "_law_draw" ["_law_tape_here", "_law_many"] (spDraw K ns)) : Dn P w K mg base (k + 2 * n) "_law_rule" ["_law_tape_here", "_law_deep", "_law_thin"] (spRule K ns n) := by
  induction n with
  | zero => exact Fr.void fun vs H Q E ⟨_, _, _, _, h, h1, _⟩ => by omega
  | succ n ih => exact ok_law_rule Fr (d_law_draw.mono (Nat.le_add_right k _)) (ok_law_unit Fu m_min (d_law_draw.mono (Nat.le_add_right k _)) ih)
end
end My
namespace My
open PySem L2 M
section
variable (K : PySem.W.Frag)
def sV (ws : List Str) : List V := ws.map V.str
end
theorem sV_len (ws : List Str) : (sV ws).length = ws.length := List.length_map ..
theorem sV_app (a b : List Str) : sV a ++ sV b = sV (a ++ b) := (List.map_append ..).symm
def rf (wl : Addr) (sp cn : Int) : List (Str × V) := [("words", .ref wl), ("spot", .int sp), ("unit_count", .int cn)]
theorem lk_hd {x : Str} {v : V} {r : List (Str × V)} : ((x, v) :: r).lookup x = some v := by simp [List.lookup]
theorem lk_tl {x y : Str} {v : V} {r : List (Str × V)} (h : (y == x) = false) : ((x, v) :: r).lookup y = r.lookup y := by simp [List.lookup, h]
section
variable {wl : Addr} {sp cn z : Int}
theorem rf_words : (rf wl sp cn).lookup ("words" : Str) = some (V.ref wl) := lk_hd
theorem rf_spot : (rf wl sp cn).lookup ("spot" : Str) = some (V.int sp) := (lk_tl (by decide +kernel)).trans lk_hd
theorem rf_cnt : (rf wl sp cn).lookup ("unit_count" : Str) = some (V.int cn) := (lk_tl (by decide +kernel)).trans ((lk_tl (by decide +kernel)).trans lk_hd)
theorem rf_no {m : Str} (h1 : (m == ("words" : Str)) = false) (h2 : (m == ("spot" : Str)) = false) (h3 : (m == ("unit_count" : Str)) = false) : (rf wl sp cn).lookup m = none := (lk_tl h1).trans ((lk_tl h2).trans (lk_tl h3))
theorem rf_setS : putF "spot" (.int z) (rf wl sp cn) = rf wl z cn := by
  have h1 : ¬ (("words" : Str) = "spot") := by decide +kernel
  simp only [rf, putF, if_neg h1, if_true]
theorem rf_setC : putF "unit_count" (.int z) (rf wl sp cn) = rf wl sp z := by
  have h2 : ¬ (("words" : Str) = "unit_count") := by decide +kernel
  have h3 : ¬ (("spot" : Str) = "unit_count") := by decide +kernel
  simp only [rf, putF, if_neg h2, if_neg h3, if_true]
theorem rf_init (a b c : V) : putF "unit_count" c (putF "spot" b (putF "words" a [])) = ([("words", a), ("spot", b), ("unit_count", c)] : List (Str × V)) := by
  have h1 : ¬ (("words" : Str) = "spot") := by decide +kernel
  have h2 : ¬ (("words" : Str) = "unit_count") := by decide +kernel
  have h3 : ¬ (("spot" : Str) = "unit_count") := by decide +kernel
  simp only [putF, if_neg h1, if_neg h2, if_neg h3]
end
set_option genInjectivity false in
set_option genSizeOf false in
structure RdC (K : PySem.W.Frag) (C : Addr) : Prop where
  c : Cls K C
  nw : NoAttr K C "words"
  ns : NoAttr K C "spot"
  nu : NoAttr K C "unit_count"
set_option genInjectivity false in
set_option genSizeOf false in
structure RdAt (C : Addr) (H : Hp) (p wl : Addr) (ws : List Str) (sp cn : Int) : Prop where
  ob : ∃ dx, H p = some (.ins C dx (rf wl sp cn))
  wl : H wl = some (.lst (sV ws))
def But (p : Addr) (H H' : Hp) : Prop := ∀ b o, H b = some o → b ≠ p → H' b = some o
section
variable {K : PySem.W.Frag} {C p wl : Addr} {H H' H2 : Hp} {ws : List Str} {sp cn : Int} {Q : VK} {D : Ends} {σ : St}
theorem But.trans (a : But p H H') (b : But p H' H2) : But p H H2 := fun c o h n => b c o (a c o h n) n
theorem Same.but (s : Same H H') : But p H H' := fun b o h _ => s b o h
theorem RdAt.ne (A : RdAt C H p wl ws sp cn) : wl ≠ p := by
  obtain ⟨⟨dx, h1⟩, h2⟩ := A
  exact ne_of h2 h1 (by intro z; cases z)
theorem RdAt.cast {sp' cn' : Int} (A : RdAt C H p wl ws sp cn) (h : sp' = sp) (h2 : cn' = cn) : RdAt C H p wl ws sp' cn' := by subst h h2; exact A
theorem RdAt.same (A : RdAt C H p wl ws sp cn) (s : Same H H') : RdAt C H' p wl ws sp cn := by
  obtain ⟨⟨dx, h1⟩, h2⟩ := A
  exact ⟨⟨dx, s _ _ h1⟩, s _ _ h2⟩
theorem But.tk (b : But p H H') (A : RdAt C H p wl ws sp cn) : Tk K H H' := fun a xs h => by
  obtain ⟨⟨dx, h1⟩, h2⟩ := A
  rcases h with (h | ⟨o, h⟩) | h
  · exact .inl (.inl (b _ _ h (ne_of h h1 (by intro z; cases z))))
  · exact .inl (.inr ⟨o, b _ _ h (ne_of h h1 (by intro z; cases z))⟩)
  · exact .inr h
theorem rd_words (R : RdC K C) (A : RdAt C H p wl ws sp cn) (q : Q (.ref wl) H) : FldR K "words" (.ref p) H Q := by
  obtain ⟨⟨dx, h1⟩, h2⟩ := A
  exact ⟨p, C, dx, _, _, rfl, h1, R.c, R.nw, rf_words, q⟩
theorem rd_spot (R : RdC K C) (A : RdAt C H p wl ws sp cn) (q : Q (.int sp) H) : FldR K "spot" (.ref p) H Q := by
  obtain ⟨⟨dx, h1⟩, h2⟩ := A
  exact ⟨p, C, dx, _, _, rfl, h1, R.c, R.ns, rf_spot, q⟩
theorem rd_cnt (R : RdC K C) (A : RdAt C H p wl ws sp cn) (q : Q (.int cn) H) : FldR K "unit_count" (.ref p) H Q := by
  obtain ⟨⟨dx, h1⟩, h2⟩ := A
  exact ⟨p, C, dx, _, _, rfl, h1, R.c, R.nu, rf_cnt, q⟩
theorem inc_spot (R : RdC K C) (A : RdAt C H p wl ws sp cn) (q : ∀ H', RdAt C H' p wl ws (sp + 1) cn → But p H H' → D.nx σ H') : AugR K "spot" (tC (.int 1)) D σ (.ref p) H := by
  have n := A.ne
  obtain ⟨⟨dx, h1⟩, h2⟩ := A
  refine ⟨p, C, dx, _, _, rfl, h1, R.c, R.ns, rf_spot, sp, 1, rfl, rfl, dx, _, h1, by show 3 < 1000; decide, q _ ⟨⟨dx, by rw [upd_same, rf_setS]⟩, by rw [upd_ne n]; exact h2⟩ fun b o h nb => by rw [upd_ne nb]; exact h⟩
theorem inc_cnt (R : RdC K C) (A : RdAt C H p wl ws sp cn) (q : ∀ H', RdAt C H' p wl ws sp (cn + 1) → But p H H' → D.nx σ H') : AugR K "unit_count" (tC (.int 1)) D σ (.ref p) H := by
  have n := A.ne
  obtain ⟨⟨dx, h1⟩, h2⟩ := A
  refine ⟨p, C, dx, _, _, rfl, h1, R.c, R.nu, rf_cnt, cn, 1, rfl, rfl, dx, _, h1, by show 3 < 1000; decide, q _ ⟨⟨dx, by rw [upd_same, rf_setC]⟩, by rw [upd_ne n]; exact h2⟩ fun b o h nb => by rw [upd_ne nb]; exact h⟩
end
section
variable (K : PySem.W.Frag) (C : Addr)
def spInit : Sp := fun vs H Q _ => ∃ p wl dx, vs = [.ref p, .ref wl] ∧ H p = some (.ins C dx []) ∧ ∀ H', H' p = some (.ins C dx (rf wl 0 0)) → But p H H' → Q .non H'
end
section
variable {P : Program} {w : World} {K : PySem.W.Frag} {mg : Str → Option Value} {base : Heap} {ns : List Int} {k : Nat} {C : Addr}
theorem ok_init (F : Ci K mg "RuleReader" "RuleReader.__init__" C s_RuleReader___init__ ["self", "words"]) (R : RdC K C) : Cn P w K mg base (k + 1) "RuleReader" C ["self", "words"] (spInit C) := by
  refine F.ok sc_RuleReader___init__ (fun vs H Q E h => ?_) (fun f cdv A outer s H vs Q E hr h => ?_)
  · obtain ⟨p, wl, dx, rfl, _⟩ := h; rfl
  obtain ⟨p, wl, dx, rfl, hp, q⟩ := h
  refine ⟨_, [some _, some _], 
      (@pss_cons _ _ _ _ _ (@ps_fld _ _ _ _ _ _ _ _ (@pv _ 0 _ _ (by rfl) (by first | exact Or.inl rfl | exact Or.inr (Or.inl rfl) | exact Or.inr (Or.inr rfl)) (by decide) (by decide)) (@pv _ 1 _ _ (by rfl) (by first | exact Or.inl rfl | exact Or.inr (Or.inl rfl) | exact Or.inr (Or.inr rfl)) (by decide) (by decide)) rfl) 
      (@pss_cons _ _ _ _ _ (@ps_fld _ _ _ _ _ _ _ _ (@pv _ 0 _ _ (by rfl) (by first | exact Or.inl rfl | exact Or.inr (Or.inl rfl) | exact Or.inr (Or.inr rfl)) (by decide) (by decide)) (@pe_int _ _ _ _) rfl) (@pss_one _ _ _ (@ps_fld _ _ _ _ _ _ _ _ (@pv _ 0 _ _ (by rfl) (by first | exact Or.inl rfl | exact Or.inr (Or.inl rfl) | exact Or.inr (Or.inr rfl)) (by decide) (by decide)) (@pe_int _ _ _ _) rfl)))), rfl, ?_⟩
  walk_at "cl"
  walk_at "st"
  refine ⟨p, C, dx, _, rfl, hp, R.c, R.nw, by show 0 < 1000; decide, ?_⟩
  walk_at "st"
  refine ⟨p, C, dx, _, rfl, upd_same, R.c, R.ns, by show 1 < 1000; decide, ?_⟩
  walk_at "rd"
  refine ⟨p, C, dx, _, rfl, upd_same, R.c, R.nu, by show (if ("words" : Str) = "spot" then _ else (("words" : Str), V.ref wl) :: [(("spot" : Str), V.int 0)]).length < 1000; rw [if_neg (by decide +kernel)]; show 2 < 1000; decide, ?_⟩
  refine q _ (by rw [upd_same, rf_init]; rfl) fun b o h nb => by rw [upd_ne nb, upd_ne nb, upd_ne nb]; exact h
end
end My
namespace My
open PySem L2 M
section
variable {E : XK} {CB p : Addr} {H H' : Hp} {b : Nat}
def Bad (E : XK) (CB p : Addr) (H : Hp) (b : Nat) : Prop := ∀ d H', But p H H' → H' d = some (.xd [("at", V.int b)]) → E (.ref CB) (some d) H'
theorem Bad.but (B : Bad E CB p H b) (h : But p H H') : Bad E CB p H' b := fun d H2 k q => B d H2 (h.trans k) q
def spInitE (CB : Addr) : Sp := fun vs H Q _ => ∃ a y, vs = [.ref a, y] ∧ H a = some (excN a CB none) ∧ ∀ d, H d = none → Q .non (upd (upd H a (excN a CB (some d))) d (.xd [("at", y)]))
theorem raise_of {i : Int} (B : Bad E CB p H b) (e : i = b) : [V.int i].length ≤ sizeLine ∧ ∀ a, H a = none → spInitE CB (.ref a :: [V.int i]) (upd H a (excN a CB none)) (fun v H2 => v = .non ∧ ∃ od, H2 a = some (excN a CB od) ∧ E (.ref CB) od (del H2 a)) E0 := by
  subst e
  refine ⟨small6 (by simp), fun a ha => ⟨a, _, rfl, upd_same, fun d hd => ⟨rfl, some d, ?_, B d _ (fun c o h n => ?_) ?_⟩⟩⟩
  · have ne : a ≠ d := fun z => by subst z; rw [upd_same] at hd; cases hd
    rw [upd_ne ne, upd_same]
  · have na : c ≠ a := ne_of_none h ha
    have nd : c ≠ d := fun z => by subst z; rw [upd_ne na, h] at hd; cases hd
    rw [del_ne na, upd_ne nd, upd_ne na, upd_ne na]; exact h
  · have ne : d ≠ a := fun z => by subst z; rw [upd_same] at hd; cases hd
    rw [del_ne ne, upd_same]
end
section
variable {C p wl : Addr} {H : Hp} {ws : List Str} {sp cn : Int} {Q : VK} {σ : St} {E : XK}
theorem mthE_of {m : Str} {t : TA} {spm : Sp} (A : RdAt C H p wl ws sp cn) (h : (m == ("words" : Str)) = false ∧ (m == ("spot" : Str)) = false ∧ (m == ("unit_count" : Str)) = false) (q : t σ H fun vs H2 => spm (.ref p :: (vs ++ [])) H2 Q E) : MthE C m spm E (.ref p) t σ H Q := by
  obtain ⟨⟨dx, h1⟩, h2⟩ := A
  exact ⟨p, dx, _, rfl, h1, rf_no h.1 h.2.1 h.2.2, q⟩
end
section
variable (C CB : Addr)
def spHere2 : Sp := fun vs H Q E => ∃ p wl ws, ∃ sp : Nat, ∃ cn : Int, vs = [.ref p] ∧ RdAt C H p wl ws sp cn ∧ sp ≤ ws.length ∧ (match ws[sp]? with | some x => Q (.str x) H | none => Bad E CB p H ws.length)
def spMore2 : Sp := fun vs H Q E => ∃ p wl ws, ∃ sp : Nat, ∃ cn : Int, vs = [.ref p] ∧ RdAt C H p wl ws sp cn ∧ (if sp < ws.length then Bad E CB p H sp else Q .non H)
def spNumber2 : Sp := fun vs H Q E => ∃ p wl ws, ∃ sp least : Nat, ∃ cn : Int, vs = [.ref p, .int least] ∧ RdAt C H p wl ws sp cn ∧ sp ≤ ws.length ∧ (∀ x ∈ ws, Wok x) ∧ 1 ≤ least ∧ (match ws[sp]? with
  | none => Bad E CB p H ws.length
  | some x => if wNS x < least then Bad E CB p H sp else ∀ H', RdAt C H' p wl ws (sp + 1 : Nat) cn → But p H H' → Q (.int (wNS x)) H')
def spWW : Sp := fun vs H Q _ => ∃ x, ∃ least : Nat, vs = [.str x, .int least, .int 99] ∧ Wok x ∧ 1 ≤ least ∧ ∀ H', Same H H' → Q (.bl (decide (least ≤ wNS x))) H'
def spCap2 : Sp := fun vs H Q E => ∃ p wl ws, ∃ sp to : Nat, ∃ cn : Int, vs = [.ref p, .int to] ∧ RdAt C H p wl ws sp cn ∧ sp ≤ ws.length ∧ (∀ x ∈ ws, Wok x) ∧ 1 ≤ to ∧ (match capQ ws sp to with
  | .inl b => Bad E CB p H b
  | .inr cap => ∀ H', RdAt C H' p wl ws (sp + 1 : Nat) cn → But p H H' → Q (optI cap) H')
end
section
variable {P : Program} {w : World} {K : PySem.W.Frag} {mg : Str → Option Value} {base : Heap} {ns : List Int} {k : Nat} {C CB : Addr}
theorem ok_BadWord (F : Ei K mg "BadWord" "BadWord.__init__" CB s_BadWord___init__ ["self", "at"]) (A : ErrA K CB "at") : Ez P w K mg base (k + 1) "BadWord" CB ["self", "at"] (spInitE CB) := by
  refine F.ok sc_BadWord___init__ (fun vs H Q E h => ?_) (fun f cdv A' outer s H vs Q E hr h => ?_)
  · obtain ⟨a, y, rfl, _⟩ := h; rfl
  obtain ⟨a, y, rfl, ha, q⟩ := h
  refine ⟨_, [some _, some _], (@pss_one _ _ _ (@ps_fldE _ _ _ _ _ _ _ _ rfl (@pv _ 0 _ _ (by rfl) (by first | exact Or.inl rfl | exact Or.inr (Or.inl rfl) | exact Or.inr (Or.inr rfl)) (by decide) (by decide)) (@pv _ 1 _ _ (by rfl) (by first | exact Or.inl rfl | exact Or.inr (Or.inl rfl) | exact Or.inr (Or.inr rfl)) (by decide) (by decide)) rfl)), rfl, ?_⟩
  walk_at "cl"
  walk_at "rd"
  exact ⟨a, CB, rfl, ha, A, q⟩
theorem ok_here2 (F : Dm K C "word_here" "RuleReader.word_here" s_RuleReader_word_here ["self"]) (R : RdC K C) (m_len : mg "len" = none) (z_BadWord : Ez P w K mg base k "BadWord" CB ["self", "at"] (spInitE CB)) : My2 P w K mg base (k + 2) C "word_here" ["self"] (spHere2 C CB) := by
  refine F.oky sc_RuleReader_word_here (fun vs H Q E h => ?_) (fun f cdv A outer s H vs Q E hr h => ?_)
  · obtain ⟨p, wl, ws, sp, cn, rfl, _⟩ := h; rfl
  obtain ⟨p, wl, ws, sp, cn, rfl, A, hle, q⟩ := h
  have hr1 := hr
  refine ⟨_, [some _], 
      (@pss_cons _ _ _ _ _ (@ps_if _ _ _ _ _ _ _ _ (@pt_cmpR _ _ _ _ _ _ _ _ op_eq (@pe_fld _ _ _ _ _ (@pv _ 0 _ _ (by rfl) (by first | exact Or.inl rfl | exact Or.inr (Or.inl rfl) | exact Or.inr (Or.inr rfl)) (by decide) (by decide)) rfl) (@pe_callBu _ _ _ _ _ _ _ _ _ call_lenS rfl m_len PySem.boot_len (@pa_u _ _ _ _ _ (@pe_fld _ _ _ _ _ (@pv _ 0 _ _ (by rfl) (by first | exact Or.inl rfl | exact Or.inr (Or.inl rfl) | exact Or.inr (Or.inr rfl)) (by decide) (by decide)) rfl) (@pa_nil _) (by rfl)) (by rfl) (by decide) (by decide)) (nomark _)) (@pss_one _ _ _ (@ps_raise2 _ _ _ _ _ _ _ _ _ _ _ _ _ z_BadWord hr1 rfl rfl rfl (@pa_u _ _ _ _ _ (@pe_fld _ _ _ _ _ (@pv _ 0 _ _ (by rfl) (by first | exact Or.inl rfl | exact Or.inr (Or.inl rfl) | exact Or.inr (Or.inr rfl)) (by decide) (by decide)) rfl) (@pa_nil _) (by rfl)) (fun _ _ _ _ _ _ I h0 hx hR => xe_raise2 I h0 hx hR) (by rfl) (by decide))) (@pss_nil _)) (@pss_one _ _ _ (@ps_ret _ _ _ _ (@pe_ix _ _ _ _ _ _ _ ix_list (@pe_fld _ _ _ _ _ (@pv _ 0 _ _ (by rfl) (by first | exact Or.inl rfl | exact Or.inr (Or.inl rfl) | exact Or.inr (Or.inr rfl)) (by decide) (by decide)) rfl) (@pe_fld _ _ _ _ _ (@pv _ 0 _ _ (by rfl) (by first | exact Or.inl rfl | exact Or.inr (Or.inl rfl) | exact Or.inr (Or.inr rfl)) (by decide) (by decide)) rfl) (fun _ _ => rfl))))), rfl, ?_⟩
  walk_at "cl"
  walk_at "st"
  refine rd_spot R A (rd_words R A (len_of (.of A.wl) ?_))
  walk_at "rd"
  rw [sV_len]
  by_cases e : sp = ws.length
  · rw [if_pos (by omega)]
    rw [List.getElem?_eq_none (by omega)] at q
    exact rd_spot R A (raise_of q (by omega))
  · rw [if_neg (by omega)]
    have hlt : sp < ws.length := by omega
    rw [List.getElem?_eq_getElem hlt] at q
    refine rd_words R A (rd_spot R A ?_)
    walk_at "rd"
    exact ⟨_, .of A.wl, _, atI_nat (j := sp) (by simp [sV, hlt]), q⟩
theorem ok_more2 (F : Dm K C "refuse_more" "RuleReader.refuse_more" s_RuleReader_refuse_more ["self"]) (R : RdC K C) (m_len : mg "len" = none) (z_BadWord : Ez P w K mg base k "BadWord" CB ["self", "at"] (spInitE CB)) : My2 P w K mg base (k + 2) C "refuse_more" ["self"] (spMore2 C CB) := by
  refine F.oky sc_RuleReader_refuse_more (fun vs H Q E h => ?_) (fun f cdv A outer s H vs Q E hr h => ?_)
  · obtain ⟨p, wl, ws, sp, cn, rfl, _⟩ := h; rfl
  obtain ⟨p, wl, ws, sp, cn, rfl, A, q⟩ := h
  have hr1 := hr
  refine ⟨_, [some _], (@pss_one _ _ _ (@ps_if _ _ _ _ _ _ _ _ (@pt_cmpR _ _ _ _ _ _ _ _ op_lt (@pe_fld _ _ _ _ _ (@pv _ 0 _ _ (by rfl) (by first | exact Or.inl rfl | exact Or.inr (Or.inl rfl) | exact Or.inr (Or.inr rfl)) (by decide) (by decide)) rfl) (@pe_callBu _ _ _ _ _ _ _ _ _ call_lenS rfl m_len PySem.boot_len (@pa_u _ _ _ _ _ (@pe_fld _ _ _ _ _ (@pv _ 0 _ _ (by rfl) (by first | exact Or.inl rfl | exact Or.inr (Or.inl rfl) | exact Or.inr (Or.inr rfl)) (by decide) (by decide)) rfl) (@pa_nil _) (by rfl)) (by rfl) (by decide) (by decide)) (nomark _)) (@pss_one _ _ _ (@ps_raise2 _ _ _ _ _ _ _ _ _ _ _ _ _ z_BadWord hr1 rfl rfl rfl (@pa_u _ _ _ _ _ (@pe_fld _ _ _ _ _ (@pv _ 0 _ _ (by rfl) (by first | exact Or.inl rfl | exact Or.inr (Or.inl rfl) | exact Or.inr (Or.inr rfl)) (by decide) (by decide)) rfl) (@pa_nil _) (by rfl)) (fun _ _ _ _ _ _ I h0 hx hR => xe_raise2 I h0 hx hR) (by rfl) (by decide))) (@pss_nil _))), rfl, ?_⟩
  walk_at "cl"
  walk_at "rd"
  refine rd_spot R A (rd_words R A (len_of (.of A.wl) ?_))
  walk_at "rd"
  rw [sV_len]
  by_cases e : sp < ws.length
  · rw [if_pos (by omega)]
    rw [if_pos e] at q
    exact rd_spot R A (raise_of q rfl)
  · rw [if_neg (by omega)]
    rw [if_neg e] at q
    exact q
theorem ok_number2 (F : Dm K C "read_number" "RuleReader.read_number" s_RuleReader_read_number ["self", "least"]) (R : RdC K C) (c_RuleReader : Cls K C) (m_int : mg "int" = none) (g_MOST : Gc mg "MOST" (.int 99)) (z_BadWord : Ez P w K mg base k "BadWord" CB ["self", "at"] (spInitE CB))
    (d_RuleReader_word_here : My2 P w K mg base (k + 1) C "word_here" ["self"] (spHere2 C CB)) (d_writes_whole : Dn P w K mg base (k + 1) "writes_whole" ["word", "least", "most"] spWW) : My2 P w K mg base (k + 2) C "read_number" ["self", "least"] (spNumber2 C CB) := by
  refine F.oky sc_RuleReader_read_number (fun vs H Q E h => ?_) (fun f cdv A outer s H vs Q E hr h => ?_)
  · obtain ⟨p, wl, ws, sp, least, cn, rfl, _⟩ := h; rfl
  obtain ⟨p, wl, ws, sp, least, cn, rfl, A, hle, hw, h1, q⟩ := h
  have hr1 := hr
  refine ⟨_, [some _, some _, none], 
      (@pss_cons _ _ _ _ _ (@ps_set _ _ 2 _ _ _ _ sc_RuleReader_read_number.nd rfl (Or.inl rfl) (@pe_mP20 _ _ _ _ _ _ _ _ _ _ _ _ (@pv _ 0 _ _ (by rfl) (by first | exact Or.inl rfl | exact Or.inr (Or.inl rfl) | exact Or.inr (Or.inr rfl)) (by decide) (by decide)) c_RuleReader d_RuleReader_word_here pass2 hr (by rfl)) (by rfl) (by first | exact .inl rfl | exact .inr rfl | assumption)) 
      (@pss_cons _ _ _ _ _ (@ps_if _ _ _ _ _ _ _ _ (@pt_not _ _ _ _ (@pt_val _ _ _ (@pe_callD _ _ _ _ _ _ _ _ _ _ d_writes_whole hr rfl (@pa_u _ _ _ _ _ (@pv _ 2 _ _ (by rfl) (by first | exact Or.inl rfl | exact Or.inr (Or.inl rfl) | exact Or.inr (Or.inr rfl)) (by decide) (by decide)) (@pa_u _ _ _ _ _ (@pv _ 1 _ _ (by rfl) (by first | exact Or.inl rfl | exact Or.inr (Or.inl rfl) | exact Or.inr (Or.inr rfl)) (by decide) (by decide)) (@pa_u _ _ _ _ _ (@pe_gc _ _ _ _ g_MOST rfl (by decide)) (@pa_nil _) (by rfl)) (by rfl)) (by rfl)) (by rfl) (by decide)) (by intro _; rfl))) (@pss_one _ _ _ (@ps_raise2 _ _ _ _ _ _ _ _ _ _ _ _ _ z_BadWord hr1 rfl rfl rfl (@pa_u _ _ _ _ _ (@pe_fld _ _ _ _ _ (@pv _ 0 _ _ (by rfl) (by first | exact Or.inl rfl | exact Or.inr (Or.inl rfl) | exact Or.inr (Or.inr rfl)) (by decide) (by decide)) rfl) (@pa_nil _) (by rfl)) (fun _ _ _ _ _ _ I h0 hx hR => xe_raise2 I h0 hx hR) (by rfl) (by decide))) (@pss_nil _)) 
      (@pss_cons _ _ _ _ _ (@ps_fldaug _ _ _ _ _ _ _ _ _ _ (@pv _ 0 _ _ (by rfl) (by first | exact Or.inl rfl | exact Or.inr (Or.inl rfl) | exact Or.inr (Or.inr rfl)) (by decide) (by decide)) (@pe_int _ _ _ _) in_add) (@pss_one _ _ _ (@ps_ret _ _ _ _ (@pe_callTu _ _ _ _ _ _ _ _ _ call_intT rfl m_int bt_int (@pa_u _ _ _ _ _ (@pv _ 2 _ _ (by rfl) (by first | exact Or.inl rfl | exact Or.inr (Or.inl rfl) | exact Or.inr (Or.inr rfl)) (by decide) (by decide)) (@pa_nil _) (by rfl)) (by rfl) (by decide) (by decide))))))), rfl, ?_⟩
  walk_at "cl"
  walk_at "st"
  refine mthE_of A (by decide +kernel) ?_
  walk_at "rd"
  refine ⟨p, wl, ws, sp, cn, rfl, A, hle, ?_⟩
  cases hx : ws[sp]? with
  | none => rw [hx] at q; exact q
  | some x =>
    rw [hx] at q
    have hk := hw x (List.mem_of_getElem? hx)
    simp only
    walk_at "st"
    refine ⟨x, least, rfl, hk, h1, fun H1 S1 => ?_⟩
    walk_at "rd"
    by_cases e : wNS x < least
    · simp only [e, if_true] at q
      rw [if_pos (show ¬ least ≤ wNS x by omega)]
      exact rd_spot R (A.same S1) (raise_of (q.but (Same.but S1)) rfl)
    · simp only [e, if_false] at q
      rw [if_neg (show ¬ ¬ least ≤ wNS x by omega)]
      walk_at "st"
      refine inc_spot R (A.same S1) fun H2 A2 B2 => ?_
      walk_at "rd"
      have hn := wN_num (w := x) (by omega)
      have h99 := wN_le x.cps.toList
      refine ⟨x, (wNS x : Nat), rfl, ?_, by have := hk.1; omega, q _ (A2.cast (by omega) rfl) ((Same.but S1).trans B2)⟩
      rw [hn]
      have := num_int (i := (wNS x : Nat)) (by omega) (by unfold wNS; omega)
      rw [← hn] at this ⊢
      exact this
theorem ok_cap2 (F : Dm K C "read_cap" "RuleReader.read_cap" s_RuleReader_read_cap ["self", "to"]) (R : RdC K C) (c_RuleReader : Cls K C) (d_RuleReader_word_here : My2 P w K mg base k C "word_here" ["self"] (spHere2 C CB))
    (d_RuleReader_read_number : My2 P w K mg base k C "read_number" ["self", "least"] (spNumber2 C CB)) : My2 P w K mg base (k + 1) C "read_cap" ["self", "to"] (spCap2 C CB) := by
  refine F.oky sc_RuleReader_read_cap (fun vs H Q E h => ?_) (fun f cdv A outer s H vs Q E hr h => ?_)
  · obtain ⟨p, wl, ws, sp, to, cn, rfl, _⟩ := h; rfl
  obtain ⟨p, wl, ws, sp, to, cn, rfl, A, hle, hw, h1, q⟩ := h
  refine ⟨_, [some _, some _], 
      (@pss_cons _ _ _ _ _ (@ps_if _ _ _ _ _ _ _ _ (@pt_cmpR _ _ _ _ _ _ _ _ op_eq (@pe_mP20 _ _ _ _ _ _ _ _ _ _ _ _ (@pv _ 0 _ _ (by rfl) (by first | exact Or.inl rfl | exact Or.inr (Or.inl rfl) | exact Or.inr (Or.inr rfl)) (by decide) (by decide)) c_RuleReader d_RuleReader_word_here pass2 hr (by rfl)) (@pe_str _ _ _ _) (nomark _)) 
      (@pss_cons _ _ _ _ _ (@ps_fldaug _ _ _ _ _ _ _ _ _ _ (@pv _ 0 _ _ (by rfl) (by first | exact Or.inl rfl | exact Or.inr (Or.inl rfl) | exact Or.inr (Or.inr rfl)) (by decide) (by decide)) (@pe_int _ _ _ _) in_add) (@pss_one _ _ _ (@ps_ret _ _ _ _ (@pe_non _ _ _)))) (@pss_nil _)) (@pss_one _ _ _ (@ps_ret _ _ _ _ (@pe_mP2 _ _ _ _ _ _ _ _ _ _ _ _ _ _ _ (@pv _ 0 _ _ (by rfl) (by first | exact Or.inl rfl | exact Or.inr (Or.inl rfl) | exact Or.inr (Or.inr rfl)) (by decide) (by decide)) c_RuleReader d_RuleReader_read_number pass2 hr (@pa_u _ _ _ _ _ (@pv _ 1 _ _ (by rfl) (by first | exact Or.inl rfl | exact Or.inr (Or.inl rfl) | exact Or.inr (Or.inr rfl)) (by decide) (by decide)) (@pa_nil _) (by rfl)) (by rfl) (by rfl))))), rfl, ?_⟩
  walk_at "cl"
  walk_at "st"
  refine mthE_of A (by decide +kernel) ?_
  walk_at "rd"
  refine ⟨p, wl, ws, sp, cn, rfl, A, hle, ?_⟩
  unfold capQ at q
  cases hx : ws[sp]? with
  | none => rw [hx] at q; exact q
  | some x =>
    rw [hx] at q
    simp only at q ⊢
    walk_at "rd"
    by_cases e : x = wDash
    · rw [if_pos e] at q
      rw [if_pos (show x = Str.ofString "-" from e)]
      walk_at "st"
      refine inc_spot R A fun H2 A2 B2 => ?_
      walk_at "rd"
      exact q _ (A2.cast (by omega) rfl) B2
    · rw [if_neg e] at q
      rw [if_neg (show ¬ x = Str.ofString "-" from e)]
      walk_at "rd"
      refine mthE_of A (by decide +kernel) ?_
      walk_at "rd"
      refine ⟨p, wl, ws, sp, to, cn, rfl, A, hle, hw, h1, ?_⟩
      rw [hx]
      simp only
      by_cases e2 : wNS x < to
      · rw [if_pos e2] at q ⊢; exact q
      · rw [if_neg e2] at q ⊢; exact q
end
end My
namespace My
open PySem L2 M
section
variable (K : PySem.W.Frag) (C CB : Addr)
def spPart2 (n : Nat) : Sp := fun vs H Q E => ∃ p wl ws, ∃ room sp m : Nat, vs = [.ref p, .int room] ∧ room < n ∧ RdAt C H p wl ws sp m ∧ sp ≤ ws.length ∧ (∀ x ∈ ws, Wok x) ∧ (match rdP ws room sp m with
  | .bad b => Bad E CB p H b
  | .ok rl sp' m' => ∀ r H', RlV K H' rl r → RdAt C H' p wl ws sp' m' → But p H H' → Q r H')
def spUnit2 (n : Nat) : Sp := fun vs H Q E => ∃ p wl ws, ∃ room sp m : Nat, vs = [.ref p, .int room] ∧ room < n ∧ RdAt C H p wl ws sp m ∧ sp ≤ ws.length ∧ (∀ x ∈ ws, Wok x) ∧ (match unitQ ws (rdP ws room) sp m with
  | .bad b => Bad E CB p H b
  | .ok rl sp' m' => ∀ r H', RlV K H' rl r → RdAt C H' p wl ws sp' m' → But p H H' → Q r H')
def spLast2 (n : Nat) : Sp := fun vs H Q E => ∃ p wl ws cap, ∃ room sp m : Nat, vs = [.ref p, optI cap, .int room] ∧ room < n ∧ RdAt C H p wl ws sp m ∧ sp ≤ ws.length ∧ (∀ x ∈ ws, Wok x) ∧ (match tailQ ws cap (rdP ws room) sp m with
  | .inl b => Bad E CB p H b
  | .inr (l, sp', m') => ∀ r H', LastV K H' l r → RdAt C H' p wl ws sp' m' → But p H H' → Q r H')
def spRead2 : Sp := fun vs H Q E => ∃ ws, ws ≠ [] ∧ ws.length ≤ 200 ∧ (∀ x ∈ ws, Wok x) ∧ vs = [.str (Str.join blank ws)] ∧ (match rdA ws with
  | .inl b => ∀ d H', Same H H' → H' d = some (.xd [("at", V.int b)]) → E (.ref CB) (some d) H'
  | .inr rl => ∀ r H', Same H H' → RlV K H' rl r → Q r H')
end
section
variable {P : Program} {w : World} {K : PySem.W.Frag} {mg : Str → Option Value} {base : Heap} {ns : List Int} {k : Nat} {C CB : Addr}
theorem join_len20 {ws : List Str} (hx : ∀ x ∈ ws, x.length ≤ 20) (hl : ws.length ≤ 200) : (Str.join blank ws).length ≤ 10000 := by
  have h1 := StrLaws.join_length_le blank ws
  have h4 : blank.length = 1 := rfl
  have h3 : ∀ l : List Str, (∀ x ∈ l, x.length ≤ 20) → (l.map (·.length)).sum ≤ l.length * 20 := by
    intro l
    induction l with
    | nil => intro _; simp
    | cons x l ih =>
      intro hx
      have := ih fun y hy => hx y (List.mem_cons_of_mem _ hy)
      have := hx x (List.mem_cons_self ..)
      simp only [List.map_cons, List.sum_cons, List.length_cons, Nat.succ_mul]
      omega
  have := h3 ws hx
  rw [h4] at h1
  omega
theorem ok_last2 {n : Nat} (F : Dm K C "read_last" "RuleReader.read_last" s_RuleReader_read_last ["self", "cap", "room"]) (R : RdC K C) (c_RuleReader : Cls K C) (z_BadWord : Ez P w K mg base k "BadWord" CB ["self", "at"] (spInitE CB)) (d_RuleReader_word_here : My2 P w K mg base (k + 1) C "word_here" ["self"] (spHere2 C CB))
    (d_RuleReader_read_part : My2 P w K mg base (k + 1) C "read_part" ["self", "room"] (spPart2 K C CB n)) : My2 P w K mg base (k + 2) C "read_last" ["self", "cap", "room"] (spLast2 K C CB n) := by
  refine F.oky sc_RuleReader_read_last (fun vs H Q E h => ?_) (fun f cdv A outer s H vs Q E hr h => ?_)
  · obtain ⟨p, wl, ws, cap, room, sp, m, rfl, _⟩ := h; rfl
  obtain ⟨p, wl, ws, cap, room, sp, m, rfl, hn, A, hle, hw, q⟩ := h
  have hr1 := hr
  refine ⟨_, [some _, some _, some _], 
      (@pss_cons _ _ _ _ _ (@ps_if _ _ _ _ _ _ _ _ (@pt_cmpR _ _ _ _ _ _ _ _ op_eq (@pe_mP20 _ _ _ _ _ _ _ _ _ _ _ _ (@pv _ 0 _ _ (by rfl) (by first | exact Or.inl rfl | exact Or.inr (Or.inl rfl) | exact Or.inr (Or.inr rfl)) (by decide) (by decide)) c_RuleReader d_RuleReader_word_here pass2 hr (by rfl)) (@pe_str _ _ _ _) (nomark _)) 
      (@pss_cons _ _ _ _ _ (@ps_fldaug _ _ _ _ _ _ _ _ _ _ (@pv _ 0 _ _ (by rfl) (by first | exact Or.inl rfl | exact Or.inr (Or.inl rfl) | exact Or.inr (Or.inr rfl)) (by decide) (by decide)) (@pe_int _ _ _ _) in_add) (@pss_one _ _ _ (@ps_ret _ _ _ _ (@pe_non _ _ _)))) (@pss_nil _)) 
      (@pss_cons _ _ _ _ _ (@ps_if _ _ _ _ _ _ _ _ (@pt_cmpR _ _ _ _ _ _ _ _ op_isNS (@pv _ 1 _ _ (by rfl) (by first | exact Or.inl rfl | exact Or.inr (Or.inl rfl) | exact Or.inr (Or.inr rfl)) (by decide) (by decide)) (@pe_non _ _ _) (nomark _)) (@pss_one _ _ _ (@ps_raise2 _ _ _ _ _ _ _ _ _ _ _ _ _ z_BadWord hr1 rfl rfl rfl (@pa_u _ _ _ _ _ (@pe_fld _ _ _ _ _ (@pv _ 0 _ _ (by rfl) (by first | exact Or.inl rfl | exact Or.inr (Or.inl rfl) | exact Or.inr (Or.inr rfl)) (by decide) (by decide)) rfl) (@pa_nil _) (by rfl)) (fun _ _ _ _ _ _ I h0 hx hR => xe_raise2 I h0 hx hR) (by rfl) (by decide))) (@pss_nil _)) (@pss_one _ _ _ (@ps_ret _ _ _ _ (@pe_mP2 _ _ _ _ _ _ _ _ _ _ _ _ _ _ _ (@pv _ 0 _ _ (by rfl) (by first | exact Or.inl rfl | exact Or.inr (Or.inl rfl) | exact Or.inr (Or.inr rfl)) (by decide) (by decide)) c_RuleReader d_RuleReader_read_part pass2 hr (@pa_u _ _ _ _ _ (@pv _ 2 _ _ (by rfl) (by first | exact Or.inl rfl | exact Or.inr (Or.inl rfl) | exact Or.inr (Or.inr rfl)) (by decide) (by decide)) (@pa_nil _) (by rfl)) (by rfl) (by rfl)))))), rfl, ?_⟩
  walk_at "cl"
  walk_at "st"
  refine mthE_of A (by decide +kernel) ?_
  walk_at "rd"
  refine ⟨p, wl, ws, sp, m, rfl, A, hle, ?_⟩
  unfold tailQ at q
  cases hx : ws[sp]? with
  | none => rw [hx] at q; exact q
  | some x =>
    rw [hx] at q
    simp only at q ⊢
    walk_at "rd"
    by_cases e : x = wDash
    · rw [if_pos e] at q
      rw [if_pos (show x = Str.ofString "-" from e)]
      walk_at "st"
      refine inc_spot R A fun H2 A2 B2 => ?_
      walk_at "rd"
      exact q _ _ rfl (A2.cast (by omega) rfl) B2
    · rw [if_neg e] at q
      rw [if_neg (show ¬ x = Str.ofString "-" from e)]
      walk_at "st"
      cases cap with
      | none =>
        rw [if_pos (show optI none = V.non from rfl)]
        exact rd_spot R A (raise_of q rfl)
      | some c =>
        rw [if_neg (by intro h; cases h)]
        walk_at "rd"
        refine mthE_of A (by decide +kernel) ?_
        walk_at "rd"
        refine ⟨p, wl, ws, room, sp, m, rfl, hn, A, hle, hw, ?_⟩
        cases hr : rdP ws room sp m with
        | bad b => rw [hr] at q; exact q
        | ok l sp' m' => rw [hr] at q; exact q
theorem ok_unit2 {n : Nat} (F : Dm K C "read_unit" "RuleReader.read_unit" s_RuleReader_read_unit ["self", "room"]) (R : RdC K C) (c_RuleReader : Cls K C) (d_RuleReader_read_number : My2 P w K mg base k C "read_number" ["self", "least"] (spNumber2 C CB)) (d_RuleReader_read_cap : My2 P w K mg base k C "read_cap" ["self", "to"] (spCap2 C CB))
    (d_RuleReader_read_part : My2 P w K mg base k C "read_part" ["self", "room"] (spPart2 K C CB n)) (d_RuleReader_read_last : My2 P w K mg base k C "read_last" ["self", "cap", "room"] (spLast2 K C CB n)) : My2 P w K mg base (k + 1) C "read_unit" ["self", "room"] (spUnit2 K C CB n) := by
  refine F.oky sc_RuleReader_read_unit (fun vs H Q E h => ?_) (fun f cdv A outer s H vs Q E hr h => ?_)
  · obtain ⟨p, wl, ws, room, sp, m, rfl, _⟩ := h; rfl
  obtain ⟨p, wl, ws, room, sp, m, rfl, hn, A, hle, hw, q⟩ := h
  refine ⟨_, [some _, some _, none, none, none, none, none], 
      (@pss_cons _ _ _ _ _ (@ps_set _ _ 2 _ _ _ _ sc_RuleReader_read_unit.nd rfl (Or.inl rfl) (@pe_mP2 _ _ _ _ _ _ _ _ _ _ _ _ _ _ _ (@pv _ 0 _ _ (by rfl) (by first | exact Or.inl rfl | exact Or.inr (Or.inl rfl) | exact Or.inr (Or.inr rfl)) (by decide) (by decide)) c_RuleReader d_RuleReader_read_number pass2 hr (@pa_u _ _ _ _ _ (@pe_int _ _ _ _) (@pa_nil _) (by rfl)) (by rfl) (by rfl)) (by rfl) (by first | exact .inl rfl | exact .inr rfl | assumption)) 
      (@pss_cons _ _ _ _ _ (@ps_set _ _ 3 _ _ _ _ sc_RuleReader_read_unit.nd rfl (Or.inl rfl) (@pe_mP2 _ _ _ _ _ _ _ _ _ _ _ _ _ _ _ (@pv _ 0 _ _ (by rfl) (by first | exact Or.inl rfl | exact Or.inr (Or.inl rfl) | exact Or.inr (Or.inr rfl)) (by decide) (by decide)) c_RuleReader d_RuleReader_read_number pass2 hr (@pa_u _ _ _ _ _ (@pe_int _ _ _ _) (@pa_nil _) (by rfl)) (by rfl) (by rfl)) (by rfl) (by first | exact .inl rfl | exact .inr rfl | assumption)) 
      (@pss_cons _ _ _ _ _ (@ps_set _ _ 4 _ _ _ _ sc_RuleReader_read_unit.nd rfl (Or.inl rfl) (@pe_mP2 _ _ _ _ _ _ _ _ _ _ _ _ _ _ _ (@pv _ 0 _ _ (by rfl) (by first | exact Or.inl rfl | exact Or.inr (Or.inl rfl) | exact Or.inr (Or.inr rfl)) (by decide) (by decide)) c_RuleReader d_RuleReader_read_cap pass2 hr (@pa_u _ _ _ _ _ (@pv _ 2 _ _ (by rfl) (by first | exact Or.inl rfl | exact Or.inr (Or.inl rfl) | exact Or.inr (Or.inr rfl)) (by decide) (by decide)) (@pa_nil _) (by rfl)) (by rfl) (by rfl)) (by rfl) (by first | exact .inl rfl | exact .inr rfl | assumption)) 
      (@pss_cons _ _ _ _ _ (@ps_set _ _ 5 _ _ _ _ sc_RuleReader_read_unit.nd rfl (Or.inl rfl) (@pe_mP2 _ _ _ _ _ _ _ _ _ _ _ _ _ _ _ (@pv _ 0 _ _ (by rfl) (by first | exact Or.inl rfl | exact Or.inr (Or.inl rfl) | exact Or.inr (Or.inr rfl)) (by decide) (by decide)) c_RuleReader d_RuleReader_read_part pass2 hr (@pa_u _ _ _ _ _ (@pv _ 1 _ _ (by rfl) (by first | exact Or.inl rfl | exact Or.inr (Or.inl rfl) | exact Or.inr (Or.inr rfl)) (by decide) (by decide)) (@pa_nil _) (by rfl)) (by rfl) (by rfl)) (by rfl) (by first | exact .inl rfl | exact .inr rfl | assumption)) 
      (@pss_cons _ _ _ _ _ (@ps_set _ _ 6 _ _ _ _ sc_RuleReader_read_unit.nd rfl (Or.inl rfl) (@pe_mP2 _ _ _ _ _ _ _ _ _ _ _ _ _ _ _ (@pv _ 0 _ _ (by rfl) (by first | exact Or.inl rfl | exact Or.inr (Or.inl rfl) | exact Or.inr (Or.inr rfl)) (by decide) (by decide)) c_RuleReader d_RuleReader_read_last pass2 hr (@pa_u _ _ _ _ _ (@pv _ 4 _ _ (by rfl) (by first | exact Or.inl rfl | exact Or.inr (Or.inl rfl) | exact Or.inr (Or.inr rfl)) (by decide) (by decide)) (@pa_u _ _ _ _ _ (@pv _ 1 _ _ (by rfl) (by first | exact Or.inl rfl | exact Or.inr (Or.inl rfl) | exact Or.inr (Or.inr rfl)) (by decide) (by decide)) (@pa_nil _) (by rfl)) (by rfl)) (by rfl) (by rfl)) (by rfl) (by first | exact .inl rfl | exact .inr rfl | assumption)) (@pss_one _ _ _ (@ps_ret _ _ _ _ (@pe_tup _ _ _ _ _ (@pa_u _ _ _ _ _ (@pe_str _ _ _ _) (@pa_u _ _ _ _ _ (@pv _ 2 _ _ (by rfl) (by first | exact Or.inl rfl | exact Or.inr (Or.inl rfl) | exact Or.inr (Or.inr rfl)) (by decide) (by decide)) (@pa_u _ _ _ _ _ (@pv _ 3 _ _ (by rfl) (by first | exact Or.inl rfl | exact Or.inr (Or.inl rfl) | exact Or.inr (Or.inr rfl)) (by decide) (by decide)) (@pa_u _ _ _ _ _ (@pv _ 4 _ _ (by rfl) (by first | exact Or.inl rfl | exact Or.inr (Or.inl rfl) | exact Or.inr (Or.inr rfl)) (by decide) (by decide)) (@pa_u _ _ _ _ _ (@pv _ 5 _ _ (by rfl) (by first | exact Or.inl rfl | exact Or.inr (Or.inl rfl) | exact Or.inr (Or.inr rfl)) (by decide) (by decide)) (@pa_u _ _ _ _ _ (@pv _ 6 _ _ (by rfl) (by first | exact Or.inl rfl | exact Or.inr (Or.inl rfl) | exact Or.inr (Or.inr rfl)) (by decide) (by decide)) (@pa_nil _) (by rfl)) (by rfl)) (by rfl)) (by rfl)) (by rfl)) (by rfl)))))))))), rfl, ?_⟩
  walk_at "cl"
  walk_at "st"
  refine mthE_of A (by decide +kernel) ?_
  walk_at "rd"
  refine ⟨p, wl, ws, sp, 1, m, rfl, A, hle, hw, Nat.le_refl _, ?_⟩
  unfold unitQ numQ at q
  cases hx : ws[sp]? with
  | none => rw [hx] at q; exact q
  | some x =>
    rw [hx] at q
    have l1 := (List.getElem?_eq_some_iff.mp hx).1
    simp only at q ⊢
    by_cases e1 : wNS x = 0
    · rw [if_pos e1] at q; rw [if_pos (by omega)]; exact q
    rw [if_neg e1] at q; rw [if_neg (by omega)]
    intro H1 A1 B1
    simp only at q
    walk_at "st"
    refine mthE_of A1 (by decide +kernel) ?_
    walk_at "rd"
    refine ⟨p, wl, ws, sp + 1, 1, m, rfl, A1, by omega, hw, Nat.le_refl _, ?_⟩
    cases hy : ws[sp + 1]? with
    | none => rw [hy] at q; exact Bad.but q B1
    | some y =>
      rw [hy] at q
      have l2 := (List.getElem?_eq_some_iff.mp hy).1
      simp only at q ⊢
      by_cases e2 : wNS y = 0
      · rw [if_pos e2] at q; rw [if_pos (by omega)]; exact Bad.but q B1
      rw [if_neg e2] at q; rw [if_neg (by omega)]
      intro H2 A2 B2
      simp only at q
      walk_at "st"
      refine mthE_of A2 (by decide +kernel) ?_
      walk_at "rd"
      refine ⟨p, wl, ws, sp + 1 + 1, wNS x, m, rfl, A2, by omega, hw, by omega, ?_⟩
      rw [show sp + 1 + 1 = sp + 2 by omega]
      cases hc : capQ ws (sp + 2) (wNS x) with
      | inl b => rw [hc] at q; exact Bad.but q (B1.trans B2)
      | inr cap =>
        rw [hc] at q
        have l3 : sp + 2 < ws.length := by
          cases hz : ws[sp + 2]? with
          | none => rw [capQ, hz] at hc; cases hc
          | some z => exact (List.getElem?_eq_some_iff.mp hz).1
        simp only at q ⊢
        intro H3 A3 B3
        walk_at "st"
        refine mthE_of A3 (by decide +kernel) ?_
        walk_at "rd"
        refine ⟨p, wl, ws, room, sp + 2 + 1, m, rfl, hn, A3, by omega, hw, ?_⟩
        rw [show sp + 2 + 1 = sp + 3 by omega]
        cases hi : rdP ws room (sp + 3) m with
        | bad b => rw [hi] at q; exact Bad.but q ((B1.trans B2).trans B3)
        | ok i sp4 m4 =>
          rw [hi] at q
          simp only [lastQ] at q ⊢
          intro iv H4 ri A4 B4
          walk_at "st"
          refine mthE_of A4 (by decide +kernel) ?_
          walk_at "rd"
          refine ⟨p, wl, ws, cap, room, sp4, m4, rfl, hn, A4, rdP_le _ _ _ _ _ _ hi, hw, ?_⟩
          cases ht : tailQ ws cap (rdP ws room) sp4 m4 with
          | inl b => rw [ht] at q; exact Bad.but q (((B1.trans B2).trans B3).trans B4)
          | inr t =>
            obtain ⟨l, sp5, m5⟩ := t
            rw [ht] at q
            have hcl := (tail_le (fun j k r s m => rdP_le room j k r s m) ht).2
            simp only at q ⊢
            intro lv H5 rl5 A5 B5
            walk_at "rd"
            have ri5 := ri.tk (But.tk (K := K) B5 A4)
            refine ⟨small6 (by simp), fun p6 hp6 => ?_⟩
            have S6 := same_new hp6 (.tup [.str "unit", .int (wNS x), .int (wNS y), optI cap, iv, lv])
            refine q _ _ ?_ (A5.same S6) ((((B1.trans B2).trans B3).trans B4).trans (B5.trans (Same.but S6)))
            unfold RlV
            rw [enc_mkU hcl]
            refine .newT hp6 (.cons (dstr "unit") (.cons (.int _) (.cons (.int _) (.cons (dt_cap cap) (.cons ri5 (.cons ?_ .nil))))))
            cases l with
            | none => rw [rl5.no]; exact .non
            | some l => exact rl5
theorem ok_part2 {n : Nat} {pP : Addr} (F : Dm K C "read_part" "RuleReader.read_part" s_RuleReader_read_part ["self", "room"]) (R : RdC K C) (c_RuleReader : Cls K C) (g_POINT : Gc mg "POINT" (.ref pP)) (tP : ∀ H, SqT K H pP [.str "point"]) (g_MOST_UNITS : Gc mg "MOST_UNITS" (.int 10)) (z_BadWord : Ez P w K mg base k "BadWord" CB ["self", "at"] (spInitE CB))
    (d_RuleReader_word_here : My2 P w K mg base (k + 1) C "word_here" ["self"] (spHere2 C CB)) (d_RuleReader_read_unit : My2 P w K mg base (k + 1) C "read_unit" ["self", "room"] (spUnit2 K C CB n)) : My2 P w K mg base (k + 2) C "read_part" ["self", "room"] (spPart2 K C CB (n + 1)) := by
  refine F.oky sc_RuleReader_read_part (fun vs H Q E h => ?_) (fun f cdv A outer s H vs Q E hr h => ?_)
  · obtain ⟨p, wl, ws, room, sp, m, rfl, _⟩ := h; rfl
  obtain ⟨p, wl, ws, room, sp, m, rfl, hn, A, hle, hw, q⟩ := h
  have hr1 := hr
  refine ⟨_, [some _, some _, none], 
      (@pss_cons _ _ _ _ _ (@ps_set _ _ 2 _ _ _ _ sc_RuleReader_read_part.nd rfl (Or.inl rfl) (@pe_mP20 _ _ _ _ _ _ _ _ _ _ _ _ (@pv _ 0 _ _ (by rfl) (by first | exact Or.inl rfl | exact Or.inr (Or.inl rfl) | exact Or.inr (Or.inr rfl)) (by decide) (by decide)) c_RuleReader d_RuleReader_word_here pass2 hr (by rfl)) (by rfl) (by first | exact .inl rfl | exact .inr rfl | assumption)) 
      (@pss_cons _ _ _ _ _ (@ps_if _ _ _ _ _ _ _ _ (@pt_cmpR _ _ _ _ _ _ _ _ op_eq (@pv _ 2 _ _ (by rfl) (by first | exact Or.inl rfl | exact Or.inr (Or.inl rfl) | exact Or.inr (Or.inr rfl)) (by decide) (by decide)) (@pe_str _ _ _ _) (nomark _)) 
      (@pss_cons _ _ _ _ _ (@ps_fldaug _ _ _ _ _ _ _ _ _ _ (@pv _ 0 _ _ (by rfl) (by first | exact Or.inl rfl | exact Or.inr (Or.inl rfl) | exact Or.inr (Or.inr rfl)) (by decide) (by decide)) (@pe_int _ _ _ _) in_add) (@pss_one _ _ _ (@ps_ret _ _ _ _ (@pe_gc _ _ _ _ g_POINT rfl (by decide))))) (@pss_nil _)) 
      (@pss_cons _ _ _ _ _ (@ps_if _ _ _ _ _ _ _ _ (@PW.pt _ _ _ (@pw_or _ _ _ _ _ _ _ (@pt_cmpR _ _ _ _ _ _ _ _ op_ne (@pv _ 2 _ _ (by rfl) (by first | exact Or.inl rfl | exact Or.inr (Or.inl rfl) | exact Or.inr (Or.inr rfl)) (by decide) (by decide)) (@pe_str _ _ _ _) (nomark _)) (@pw_or _ _ _ _ _ _ _ (@pt_cmpR _ _ _ _ _ _ _ _ op_eq (@pv _ 1 _ _ (by rfl) (by first | exact Or.inl rfl | exact Or.inr (Or.inl rfl) | exact Or.inr (Or.inr rfl)) (by decide) (by decide)) (@pe_int _ _ _ _) (nomark _)) (@pw_or1 _ _ _ _ (@pt_cmpR _ _ _ _ _ _ _ _ op_eq (@pe_fld _ _ _ _ _ (@pv _ 0 _ _ (by rfl) (by first | exact Or.inl rfl | exact Or.inr (Or.inl rfl) | exact Or.inr (Or.inr rfl)) (by decide) (by decide)) rfl) (@pe_gc _ _ _ _ g_MOST_UNITS rfl (by decide)) (nomark _)))))) (@pss_one _ _ _ (@ps_raise2 _ _ _ _ _ _ _ _ _ _ _ _ _ z_BadWord hr1 rfl rfl rfl (@pa_u _ _ _ _ _ (@pe_fld _ _ _ _ _ (@pv _ 0 _ _ (by rfl) (by first | exact Or.inl rfl | exact Or.inr (Or.inl rfl) | exact Or.inr (Or.inr rfl)) (by decide) (by decide)) rfl) (@pa_nil _) (by rfl)) (fun _ _ _ _ _ _ I h0 hx hR => xe_raise2 I h0 hx hR) (by rfl) (by decide))) (@pss_nil _)) 
      (@pss_cons _ _ _ _ _ (@ps_fldaug _ _ _ _ _ _ _ _ _ _ (@pv _ 0 _ _ (by rfl) (by first | exact Or.inl rfl | exact Or.inr (Or.inl rfl) | exact Or.inr (Or.inr rfl)) (by decide) (by decide)) (@pe_int _ _ _ _) in_add) 
      (@pss_cons _ _ _ _ _ (@ps_fldaug _ _ _ _ _ _ _ _ _ _ (@pv _ 0 _ _ (by rfl) (by first | exact Or.inl rfl | exact Or.inr (Or.inl rfl) | exact Or.inr (Or.inr rfl)) (by decide) (by decide)) (@pe_int _ _ _ _) in_add) (@pss_one _ _ _ (@ps_ret _ _ _ _ (@pe_mP2 _ _ _ _ _ _ _ _ _ _ _ _ _ _ _ (@pv _ 0 _ _ (by rfl) (by first | exact Or.inl rfl | exact Or.inr (Or.inl rfl) | exact Or.inr (Or.inr rfl)) (by decide) (by decide)) c_RuleReader d_RuleReader_read_unit pass2 hr (@pa_u _ _ _ _ _ (@pe_op _ _ _ _ _ _ _ _ op_sub (@pv _ 1 _ _ (by rfl) (by first | exact Or.inl rfl | exact Or.inr (Or.inl rfl) | exact Or.inr (Or.inr rfl)) (by decide) (by decide)) (@pe_int _ _ _ _)) (@pa_nil _) (by rfl)) (by rfl) (by rfl))))))))), rfl, ?_⟩
  walk_at "cl"
  walk_at "st"
  refine mthE_of A (by decide +kernel) ?_
  walk_at "rd"
  refine ⟨p, wl, ws, sp, m, rfl, A, hle, ?_⟩
  rw [rdP_eq] at q
  cases hx : ws[sp]? with
  | none => rw [hx] at q; exact q
  | some x =>
    rw [hx] at q
    have l1 := (List.getElem?_eq_some_iff.mp hx).1
    simp only at q ⊢
    walk_at "st"
    by_cases e : x = wPoint
    · rw [if_pos e] at q
      rw [if_pos (show x = Str.ofString "point" from e)]
      walk_at "st"
      refine inc_spot R A fun H2 A2 B2 => ?_
      walk_at "rd"
      exact q _ _ (pt_dt (tP _)) (A2.cast (by omega) rfl) B2
    rw [if_neg e] at q
    rw [if_neg (show ¬ x = Str.ofString "point" from e)]
    walk_at "st"
    by_cases e1 : x = wUnit
    case neg =>
      rw [if_pos (.inl e1)] at q
      rw [if_pos (show ¬ x = Str.ofString "unit" from e1)]
      exact rd_spot R A (raise_of q rfl)
    rw [if_neg (show ¬ ¬ x = Str.ofString "unit" from fun h => h e1)]
    by_cases e2 : room = 0
    · rw [if_pos (.inr (.inl e2))] at q
      rw [if_pos (show (room : Int) = 0 by omega)]
      exact rd_spot R A (raise_of q rfl)
    rw [if_neg (show ¬ (room : Int) = 0 by omega)]
    refine rd_cnt R A ?_
    walk_at "rd"
    by_cases e3 : m = 10
    · rw [if_pos (.inr (.inr e3))] at q
      rw [if_pos (show (m : Int) = 10 by omega)]
      exact rd_spot R A (raise_of q rfl)
    rw [if_neg (show ¬ (x ≠ wUnit ∨ room = 0 ∨ m = 10) from fun h => h.elim (fun z => z e1) fun z => z.elim e2 e3)] at q
    rw [if_neg (show ¬ (m : Int) = 10 by omega)]
    walk_at "st"
    refine inc_spot R A fun H1 A1 B1 => ?_
    walk_at "st"
    refine inc_cnt R A1 fun H2 A2 B2 => ?_
    walk_at "rd"
    refine mthE_of A2 (by decide +kernel) ?_
    walk_at "rd"
    cases room with
    | zero => exact absurd rfl e2
    | succ r =>
      simp only at q
      refine ⟨p, wl, ws, r, sp + 1, m + 1, by rw [show (((r + 1 : Nat) : Int) - 1) = (r : Int) by omega], by omega, A2.cast (by omega) (by omega), by omega, hw, ?_⟩
      cases hu : unitQ ws (rdP ws r) (sp + 1) (m + 1) with
      | bad b => rw [hu] at q; exact Bad.but q (B1.trans B2)
      | ok rl sp' m' =>
        rw [hu] at q
        exact fun r H' a b c => q r H' a b ((B1.trans B2).trans c)
theorem all_part2 {n : Nat} {pP : Addr} (Fp : Dm K C "read_part" "RuleReader.read_part" s_RuleReader_read_part ["self", "room"]) (Fu : Dm K C "read_unit" "RuleReader.read_unit" s_RuleReader_read_unit ["self", "room"]) (Fl : Dm K C "read_last" "RuleReader.read_last" s_RuleReader_read_last ["self", "cap", "room"]) (R : RdC K C) (g_POINT : Gc mg "POINT" (.ref pP)) (tP : ∀ H, SqT K H pP [.str "point"]) (g_MOST_UNITS : Gc mg "MOST_UNITS" (.int 10)) (z : Ez P w K mg base k "BadWord" CB ["self", "at"] (spInitE CB))
    (dh : My2 P w K mg base (k + 1) C "word_here" ["self"] (spHere2 C CB)) (dn : My2 P w K mg base (k + 1) C "read_number" ["self", "least"] (spNumber2 C CB)) (dc : My2 P w K mg base (k + 1) C "read_cap" ["self", "to"] (spCap2 C CB)) : My2 P w K mg base (k + 1 + 3 * n) C "read_part" ["self", "room"] (spPart2 K C CB n) := by
  induction n with
  | zero => exact Fp.void2 fun vs H Q E ⟨_, _, _, _, _, _, _, h, _⟩ => by omega
  | succ n ih =>
    have z1 := z.mono (show k ≤ k + 3 * n by omega)
    have z2 := z.mono (show k ≤ k + 2 + 3 * n by omega)
    have h1 := dh.mono (show k + 1 ≤ k + 3 * n + 1 by omega)
    have h2 := dh.mono (show k + 1 ≤ k + 2 + 3 * n + 1 by omega)
    have n1 := dn.mono (show k + 1 ≤ k + 3 * n + 2 by omega)
    have c1 := dc.mono (show k + 1 ≤ k + 3 * n + 2 by omega)
    have ih1 := ih.mono (show k + 1 + 3 * n ≤ k + 3 * n + 1 by omega)
    have ih2 := ih.mono (show k + 1 + 3 * n ≤ k + 3 * n + 2 by omega)
    have dl := ok_last2 (k := k + 3 * n) Fl R R.c z1 h1 ih1
    have du := ok_unit2 (k := k + 3 * n + 2) Fu R R.c n1 c1 ih2 dl
    exact (ok_part2 (k := k + 2 + 3 * n) Fp R R.c g_POINT tP g_MOST_UNITS z2 h2 (du.mono (by omega))).mono (by omega)
theorem ok_read_rule2 (F : Df K mg "read_rule" s_read_rule ["text"]) (R : RdC K C) (c_RuleReader : Cls K C) (g_MOST_DEPTH : Gc mg "MOST_DEPTH" (.int 4)) (d_RuleReader : Cn P w K mg base k "RuleReader" C ["self", "words"] (spInit C)) (d_RuleReader_read_part : My2 P w K mg base (k + 1) C "read_part" ["self", "room"] (spPart2 K C CB 5))
    (d_RuleReader_refuse_more : My2 P w K mg base (k + 1) C "refuse_more" ["self"] (spMore2 C CB)) : Dy P w K mg base (k + 2) "read_rule" ["text"] (spRead2 K CB) := by
  refine F.oky sc_read_rule (fun vs H Q E h => ?_) (fun f cdv A outer s H vs Q E hr h => ?_)
  · obtain ⟨ws, _, _, _, rfl, _⟩ := h; rfl
  obtain ⟨ws, hne, h200, hw, rfl, q⟩ := h
  have hr1 := hr
  refine ⟨_, [some _, none, none], 
      (@pss_cons _ _ _ _ _ (@ps_set _ _ 1 _ _ _ _ sc_read_rule.nd rfl (Or.inl rfl) (@pe_mkD _ _ _ _ _ _ _ _ _ _ _ d_RuleReader hr1 rfl (@pa_u _ _ _ _ _ (@pe_bm _ _ _ _ _ _ _ _ _ _ _ _ PySem.F.plainAttrs_str PySem.F.slot_str_split PySem.F.type_str_split mt_split (@pv _ 0 _ _ (by rfl) (by first | exact Or.inl rfl | exact Or.inr (Or.inl rfl) | exact Or.inr (Or.inr rfl)) (by decide) (by decide)) (@pa_u _ _ _ _ _ (@pe_str _ _ _ _) (@pa_nil _) (by rfl)) (by rfl) (by rfl) (by rfl) (by rfl) (by rfl)) (@pa_nil _) (by rfl)) (by rfl) (by decide)) (by rfl) (by first | exact .inl rfl | exact .inr rfl | assumption)) 
      (@pss_cons _ _ _ _ _ (@ps_set _ _ 2 _ _ _ _ sc_read_rule.nd rfl (Or.inl rfl) (@pe_mP2 _ _ _ _ _ _ _ _ _ _ _ _ _ _ _ (@pv _ 1 _ _ (by rfl) (by first | exact Or.inl rfl | exact Or.inr (Or.inl rfl) | exact Or.inr (Or.inr rfl)) (by decide) (by decide)) c_RuleReader d_RuleReader_read_part pass2 hr (@pa_u _ _ _ _ _ (@pe_gc _ _ _ _ g_MOST_DEPTH rfl (by decide)) (@pa_nil _) (by rfl)) (by rfl) (by rfl)) (by rfl) (by first | exact .inl rfl | exact .inr rfl | assumption)) 
      (@pss_cons _ _ _ _ _ (@ps_expr _ _ _ _ (@pe_mP20 _ _ _ _ _ _ _ _ _ _ _ _ (@pv _ 1 _ _ (by rfl) (by first | exact Or.inl rfl | exact Or.inr (Or.inl rfl) | exact Or.inr (Or.inr rfl)) (by decide) (by decide)) c_RuleReader d_RuleReader_refuse_more pass2 hr (by rfl)) (by rfl)) (@pss_one _ _ _ (@ps_ret _ _ _ _ (@pv _ 2 _ _ (by rfl) (by first | exact Or.inl rfl | exact Or.inr (Or.inl rfl) | exact Or.inr (Or.inr rfl)) (by decide) (by decide))))))), rfl, ?_⟩
  walk_at "cl"
  walk_at "st"
  have hjl := join_len20 (fun x hx => (hw x hx).1) h200
  refine ⟨rfl, _, _, rfl, rfl, by decide +kernel, Nat.le_trans (Nat.add_le_add_right hjl 2) (by decide), fun wl hwl => ?_⟩
  rw [blank_eq, show Txt.split (Str.join blank ws) blank = ws from split_join 32 hne fun x hx => (hw x hx).2.1]
  have S1 := same_new hwl (.lst (List.map V.str ws))
  have hwl1 : (upd H wl (.lst (List.map V.str ws))) wl = some (.lst (sV ws)) := upd_same
  generalize upd H wl (.lst (List.map V.str ws)) = H1 at S1 hwl1 ⊢
  intro p dx hp hdx hne2
  refine ⟨p, wl, dx, rfl, upd_same, fun H2 hp2 B2 => ⟨rfl, ?_⟩⟩
  have B12 : ∀ b o, H1 b = some o → H2 b = some o := fun b o h => B2 b o (by rw [upd_ne (ne_of_none h hp), upd_ne (ne_of_none h hdx)]; exact h) (ne_of_none h hp)
  have A2 : RdAt C H2 p wl ws ((0 : Nat) : Int) ((0 : Nat) : Int) := ⟨⟨dx, hp2⟩, B12 _ _ hwl1⟩
  have sameP : ∀ {H3 : Hp}, But p H2 H3 → Same H H3 := fun b c o h => b c o (B12 c o (S1 c o h)) (fun z => by subst z; rw [S1 _ _ h] at hp; cases hp)
  walk_at "st"
  refine mthE_of A2 (by decide +kernel) ?_
  walk_at "rd"
  refine ⟨p, wl, ws, 4, 0, 0, rfl, by decide, A2, Nat.zero_le _, hw, ?_⟩
  unfold rdA at q
  cases h4 : rdP ws 4 0 0 with
  | bad b =>
    rw [h4] at q
    exact fun d H3 k1 k2 => q d H3 (sameP k1) k2
  | ok rl sp m =>
    rw [h4] at q
    simp only at q ⊢
    intro r H3 hr3 A3 B3
    walk_at "st"
    refine mthE_of A3 (by decide +kernel) ?_
    walk_at "rd"
    refine ⟨p, wl, ws, sp, m, rfl, A3, ?_⟩
    by_cases e : sp < ws.length
    · rw [if_pos e] at q ⊢
      exact fun d H4 k1 k2 => q d H4 (sameP (B3.trans k1)) k2
    · rw [if_neg e] at q ⊢
      walk_at "rd"
      exact q r H3 (sameP B3) hr3
end
end My
namespace My
open PySem L2 M
section
variable {P : Program} {w : World} {K : PySem.W.Frag} {mg : Str → Option Value} {base : Heap} {ns : List Int} {k : Nat}
theorem wN_dig {l : List Nat} (h : wN l ≠ 0) : (l.length = 1 ∨ l.length = 2) ∧ (∀ c ∈ l, dig c = true) ∧ l[0]? ≠ some 48 := by
  match l with
  | [] => exact absurd rfl h
  | [a] =>
    rw [wN1] at h
    by_cases c : 49 ≤ a ∧ a ≤ 57
    · refine ⟨.inl rfl, fun x hx => ?_, fun z => ?_⟩
      · rw [List.mem_singleton.mp hx]; simp [dig]; omega
      · simp at z; omega
    · rw [if_neg c] at h; exact absurd rfl h
  | [a, b] =>
    rw [wN2] at h
    by_cases c : (49 ≤ a ∧ a ≤ 57) ∧ 48 ≤ b ∧ b ≤ 57
    · refine ⟨.inr rfl, fun x hx => ?_, fun z => ?_⟩
      · simp only [List.mem_cons, List.not_mem_nil, or_false] at hx
        rcases hx with rfl | rfl <;> simp [dig] <;> omega
      · simp at z; omega
    · rw [if_neg c] at h; exact absurd rfl h
  | _ :: _ :: _ :: _ => exact absurd rfl h
theorem dig_wN {l : List Nat} (h1 : l.length = 1 ∨ l.length = 2) (h2 : ∀ c ∈ l, dig c = true) (h3 : l[0]? ≠ some 48) : wN l ≠ 0 := by
  match l, h1 with
  | [a], _ =>
    have := h2 a (by simp)
    simp only [dig, Bool.and_eq_true, decide_eq_true_eq] at this
    have : a ≠ 48 := fun z => h3 (by rw [z]; rfl)
    rw [wN1, if_pos (by omega)]
    omega
  | [a, b], _ =>
    have ha := h2 a (by simp)
    have hb := h2 b (by simp)
    simp only [dig, Bool.and_eq_true, decide_eq_true_eq] at ha hb
    have : a ≠ 48 := fun z => h3 (by rw [z]; rfl)
    rw [wN2, if_pos (by omega)]
    omega
theorem ok_ww (F : Df K mg "writes_whole" s_writes_whole ["word", "least", "most"]) (m_len : mg "len" = none) (m_all : mg "all" = none) (m_int : mg "int" = none) (m_str : mg "str" = none) : Dn P w K mg base (k + 1) "writes_whole" ["word", "least", "most"] spWW := by
  refine F.ok sc_writes_whole (fun vs H Q E h => ?_) (fun f cdv A outer s H vs Q E hr h => ?_)
  · obtain ⟨x, l, rfl, _⟩ := h; rfl
  obtain ⟨x, least, rfl, ⟨hx20, _, hasc⟩, h1, q⟩ := h
  refine ⟨_, [some _, some _, some _], 
      (@pss_cons _ _ _ _ _ (@ps_if _ _ _ _ _ _ _ _ (@pt_not _ _ _ _ (@pt_chain _ _ _ _ _ _ _ _ _ _ _ _ op_le op_le (@pe_int _ _ _ _) (@pe_callBu _ _ _ _ _ _ _ _ _ call_len_str rfl m_len PySem.boot_len (@pa_u _ _ _ _ _ (@pv _ 0 _ _ (by rfl) (by first | exact Or.inl rfl | exact Or.inr (Or.inl rfl) | exact Or.inr (Or.inr rfl)) (by decide) (by decide)) (@pa_nil _) (by rfl)) (by rfl) (by decide) (by decide)) (@pe_callBu _ _ _ _ _ _ _ _ _ call_len_str rfl m_len PySem.boot_len (@pa_u _ _ _ _ _ (@pe_callTu _ _ _ _ _ _ _ _ _ call_strI rfl m_str bt_str (@pa_u _ _ _ _ _ (@pv _ 2 _ _ (by rfl) (by first | exact Or.inl rfl | exact Or.inr (Or.inl rfl) | exact Or.inr (Or.inr rfl)) (by decide) (by decide)) (@pa_nil _) (by rfl)) (by rfl) (by decide) (by decide)) (@pa_nil _) (by rfl)) (by rfl) (by decide) (by decide)) (by with_unfolding_all rfl))) (@pss_one _ _ _ (@ps_ret _ _ _ _ (@pe_bl _ _ _ _))) (@pss_nil _)) 
      (@pss_cons _ _ _ _ _ (@ps_if _ _ _ _ _ _ _ _ (@pt_not _ _ _ _ (@pt_val _ _ _ (@pe_callBu _ _ _ _ _ _ _ _ _ (call_allB rfl) rfl m_all bt_all (@pa_u _ _ _ _ _ (@pe_comp _ _ _ _ _ _ _ _ _ _ _ _ _ rfl (compPlain (N := ["word", "least", "most"]) rfl (by decide +kernel) rfl) (@pi_str _ _ _ _ (@pv _ 0 _ _ (by rfl) (by first | exact Or.inl rfl | exact Or.inr (Or.inl rfl) | exact Or.inr (Or.inr rfl)) (by decide) (by decide))) (fun _ _ _ _ => (@pts_nil _)) (fun _ _ _ _ => (@pe_chain _ _ _ _ _ _ _ _ _ _ _ _ op_leS op_leS (@pe_str _ _ _ _) (@pv _ 0 _ _ (by rfl) (by first | exact Or.inl rfl | exact Or.inr (Or.inl rfl) | exact Or.inr (Or.inr rfl)) (by decide) (by decide)) (@pe_str _ _ _ _) (by with_unfolding_all rfl))) (by intro _; rfl)) (@pa_nil _) (by rfl)) (by rfl) (by decide) (by decide)) (by intro _; rfl))) (@pss_one _ _ _ (@ps_ret _ _ _ _ (@pe_bl _ _ _ _))) (@pss_nil _)) 
      (@pss_cons _ _ _ _ _ (@ps_if _ _ _ _ _ _ _ _ (@PW.pt _ _ _ (@pw_and _ _ _ _ _ _ _ (@pt_cmpR _ _ _ _ _ _ _ _ op_eq (@pe_ix _ _ _ _ _ _ _ ix_str (@pv _ 0 _ _ (by rfl) (by first | exact Or.inl rfl | exact Or.inr (Or.inl rfl) | exact Or.inr (Or.inr rfl)) (by decide) (by decide)) (@pe_int _ _ _ _) (fun _ _ => rfl)) (@pe_str _ _ _ _) (nomark _)) (@pw_and1 _ _ _ _ (@pt_cmpR _ _ _ _ _ _ _ _ op_ne (@pv _ 0 _ _ (by rfl) (by first | exact Or.inl rfl | exact Or.inr (Or.inl rfl) | exact Or.inr (Or.inr rfl)) (by decide) (by decide)) (@pe_str _ _ _ _) (nomark _))))) (@pss_one _ _ _ (@ps_ret _ _ _ _ (@pe_bl _ _ _ _))) (@pss_nil _)) (@pss_one _ _ _ (@ps_ret _ _ _ _ (@pe_chain _ _ _ _ _ _ _ _ _ _ _ _ op_le op_le (@pv _ 1 _ _ (by rfl) (by first | exact Or.inl rfl | exact Or.inr (Or.inl rfl) | exact Or.inr (Or.inr rfl)) (by decide) (by decide)) (@pe_callTu _ _ _ _ _ _ _ _ _ call_intT rfl m_int bt_int (@pa_u _ _ _ _ _ (@pv _ 0 _ _ (by rfl) (by first | exact Or.inl rfl | exact Or.inr (Or.inl rfl) | exact Or.inr (Or.inr rfl)) (by decide) (by decide)) (@pa_nil _) (by rfl)) (by rfl) (by decide) (by decide)) (@pv _ 2 _ _ (by rfl) (by first | exact Or.inl rfl | exact Or.inr (Or.inl rfl) | exact Or.inr (Or.inr rfl)) (by decide) (by decide)) (by with_unfolding_all rfl))))))), rfl, ?_⟩
  walk_at "cl"
  have hxl := len_toList x
  have hsz : x.length ≤ sizeLine := Nat.le_of_lt (small1000 (by omega))
  have e99 : (numS 99).length = 2 := by decide +kernel
  have no : wNS x = 0 → ∀ H', Same H H' → Q (.bl false) H' := fun e H' S => by
    have := q H' S
    rwa [decide_eq_false (by omega)] at this
  walk_at "st"
  refine ⟨_, rfl, hsz, ?_⟩
  walk_at "rd"
  by_cases c1 : 1 ≤ x.length
  case neg =>
    rw [if_neg (by omega)]
    exact no (by
      cases e : wNS x with
      | zero => rfl
      | succ n => have := (wN_dig (l := x.cps.toList) (by unfold wNS at e; omega)).1; omega) _ (.refl _)
  rw [if_pos (by omega)]
  refine strI_of (num_log (by omega) (by omega)) ⟨_, rfl, Nat.le_of_lt (small1000 (by omega)), ?_⟩
  walk_at "rd"
  rw [e99]
  by_cases c2 : x.length ≤ 2
  case neg =>
    rw [if_pos (by omega)]
    exact no (by
      cases e : wNS x with
      | zero => rfl
      | succ n => have := (wN_dig (l := x.cps.toList) (by unfold wNS at e; omega)).1; omega) _ (.refl _)
  rw [if_neg (by omega)]
  walk_at "st"
  refine comp_strB dig (fun R h => h) ?_ (by show x.length ≤ 1000; omega) (fun c' H2 hc' S2 Q' hq => ?_) (fun D H2 S2 hD => ?_)
  · rw [Array.all_eq_true_iff_forall_mem]
    intro c hc
    exact decide_eq_true (hasc c (by simpa using hc))
  · have b2 := le_dig c' (hasc c' hc')
    have hq' := hq _ (.refl _)
    rw [← b2] at hq'
    walk_at "rd"
    revert hq'
    cases leS (Str.ofString "0") (sgn c') <;> cases leS (sgn c') (Str.ofString "9") <;> intro h <;> simpa using h
  · refine ⟨D, _, rfl, .of hD, ?_⟩
    rw [List.all_map, show (id ∘ dig) = dig from rfl]
    by_cases c3 : x.cps.toList.all dig = true
    case neg =>
      rw [show x.cps.toList.all dig = false by simpa using c3]
      walk_at "rd"
      exact no (by
        cases e : wNS x with
        | zero => rfl
        | succ n => exact absurd (List.all_eq_true.mpr (wN_dig (l := x.cps.toList) (by unfold wNS at e; omega)).2.1) c3) _ S2
    rw [c3]
    walk_at "st"
    have hl0 : 0 < x.cps.toList.length := by omega
    have h0 : x.cps.toList[0]? = some x.cps.toList[0] := List.getElem?_eq_getElem hl0
    have e0 : (Str.ofString "0") = ⟨#[48]⟩ := by decide +kernel
    refine ⟨x.cps.toList[0], hsz, atI_nat (j := 0) h0, ?_⟩
    by_cases c4 : x.cps.toList[0] = 48
    · rw [if_pos (by rw [e0, c4])]
      have hz : wNS x = 0 := by
        cases e : wNS x with
        | zero => rfl
        | succ n => exact absurd (by rw [h0, c4]) (wN_dig (l := x.cps.toList) (by unfold wNS at e; omega)).2.2
      by_cases c5 : x = Str.ofString "0"
      · rw [if_neg (fun z => z c5)]
        refine ⟨x, 0, rfl, by rw [c5]; decide +kernel, by omega, ?_⟩
        walk_at "rd"
        rw [if_neg (by omega)]
        exact no hz _ S2
      · rw [if_pos c5]
        exact no hz _ S2
    · rw [if_neg (by rw [e0]; intro z; simp at z; exact c4 z)]
      have hnz : wNS x ≠ 0 := dig_wN (l := x.cps.toList) (by omega) (fun c hc => List.all_eq_true.mp c3 c hc) (by rw [h0]; simpa using c4)
      have hnum := wN_num hnz
      have h99 := wN_le x.cps.toList
      have hint : PySem.intText? x = some ((wNS x : Nat) : Int) := by
        have := num_int (i := (wNS x : Nat)) (by omega) (by unfold wNS; omega)
        rwa [← hnum] at this
      refine ⟨x, (wNS x : Nat), rfl, hint, by omega, ?_⟩
      walk_at "rd"
      have qq := q _ S2
      by_cases c6 : least ≤ wNS x
      · rw [decide_eq_true c6] at qq
        rw [if_pos (by omega)]
        walk_at "rd"
        rw [show decide ((wNS x : Int) ≤ 99) = true from decide_eq_true (by unfold wNS; omega)]
        exact qq
      · rw [decide_eq_false c6] at qq
        rw [if_neg (by omega)]
        exact qq
end
end My
namespace My
open PySem L2 M
section
variable (K : PySem.W.Frag) (ns : List Int)
def spAny4 : Sp := fun vs H Q _ => ∃ t, vs = [.ref t] ∧ Tape K ns t H ∧ ∀ rl r H', ok rl → depth rl ≤ 5 → size rl ≤ 15 → Cur K ns t H H' → Dt K t H' (enc rl) r → Q r H'
def spFull (n : Nat) : Sp := fun vs H Q _ => ∃ t, ∃ m d : Nat, vs = [.ref t, .int m, .int d] ∧ d < n ∧ d ≤ 4 ∧ m + 1 ≤ 2 ^ d ∧ Tape K ns t H ∧ ∀ rl r H', ok rl → depth rl ≤ d → size rl = m → Cur K ns t H H' → Dt K t H' (enc rl) r → Q r H'
def spLWords (n : Nat) : Sp := fun vs H Q _ => ∃ rl v, vs = [v] ∧ RlV K H rl v ∧ ok rl ∧ depth rl < n ∧ size rl ≤ 15 ∧ ∀ D H', Same H H' → H D = none → H' D = some (.lst (sV (words rl))) → Q (.ref D) H'
end
section
variable {P : Program} {w : World} {K : PySem.W.Frag} {mg : Str → Option Value} {base : Heap} {ns : List Int} {k : Nat}
theorem ok_law_any4 (F : Df K mg "_law_any_rule" s_law_any_rule ["_law_tape_here"]) (d_law_draw : Dn P w K mg base k "_law_draw" ["_law_tape_here", "_law_many"] (spDraw K ns))
    (d_law_rule : Dn P w K mg base k "_law_rule" ["_law_tape_here", "_law_deep", "_law_thin"] (spRule K ns 6)) : Dn P w K mg base (k + 1) "_law_any_rule" ["_law_tape_here"] (spAny4 K ns) := by
  refine F.ok sc_law_any_rule (fun vs H Q E h => ?_) (fun f cdv A outer s H vs Q E hr h => ?_)
  · obtain ⟨t, rfl, _⟩ := h; rfl
  obtain ⟨t, rfl, T, q⟩ := h
  refine ⟨_, [some _, none], 
      (@pss_cons _ _ _ _ _ (@ps_set _ _ 1 _ _ _ _ sc_law_any_rule.nd rfl (Or.inl rfl) (@pe_callD _ _ _ _ _ _ _ _ _ _ d_law_draw hr rfl (@pa_u _ _ _ _ _ (@pv _ 0 _ _ (by rfl) (by first | exact Or.inl rfl | exact Or.inr (Or.inl rfl) | exact Or.inr (Or.inr rfl)) (by decide) (by decide)) (@pa_u _ _ _ _ _ (@pe_int _ _ _ _) (@pa_nil _) (by rfl)) (by rfl)) (by rfl) (by decide)) (by rfl) (by first | exact .inl rfl | exact .inr rfl | assumption)) (@pss_one _ _ _ (@ps_ret _ _ _ _ (@pe_callD _ _ _ _ _ _ _ _ _ _ d_law_rule hr rfl (@pa_u _ _ _ _ _ (@pv _ 0 _ _ (by rfl) (by first | exact Or.inl rfl | exact Or.inr (Or.inl rfl) | exact Or.inr (Or.inr rfl)) (by decide) (by decide)) (@pa_u _ _ _ _ _ (@pe_ix _ _ _ _ _ _ _ ix_list (@pe_lst _ _ _ _ (@pa_u _ _ _ _ _ (@pe_int _ _ _ _) (@pa_u _ _ _ _ _ (@pe_int _ _ _ _) (@pa_u _ _ _ _ _ (@pe_int _ _ _ _) (@pa_u _ _ _ _ _ (@pe_int _ _ _ _) (@pa_u _ _ _ _ _ (@pe_int _ _ _ _) (@pa_u _ _ _ _ _ (@pe_int _ _ _ _) (@pa_nil _) (by rfl)) (by rfl)) (by rfl)) (by rfl)) (by rfl)) (by rfl))) (@pv _ 1 _ _ (by rfl) (by first | exact Or.inl rfl | exact Or.inr (Or.inl rfl) | exact Or.inr (Or.inr rfl)) (by decide) (by decide)) (fun _ _ => rfl)) (@pa_u _ _ _ _ _ (@pe_ix _ _ _ _ _ _ _ ix_list (@pe_lst _ _ _ _ (@pa_u _ _ _ _ _ (@pe_int _ _ _ _) (@pa_u _ _ _ _ _ (@pe_int _ _ _ _) (@pa_u _ _ _ _ _ (@pe_int _ _ _ _) (@pa_u _ _ _ _ _ (@pe_int _ _ _ _) (@pa_u _ _ _ _ _ (@pe_int _ _ _ _) (@pa_u _ _ _ _ _ (@pe_int _ _ _ _) (@pa_nil _) (by rfl)) (by rfl)) (by rfl)) (by rfl)) (by rfl)) (by rfl))) (@pv _ 1 _ _ (by rfl) (by first | exact Or.inl rfl | exact Or.inr (Or.inl rfl) | exact Or.inr (Or.inr rfl)) (by decide) (by decide)) (fun _ _ => rfl)) (@pa_nil _) (by rfl)) (by rfl)) (by rfl)) (by rfl) (by decide))))), rfl, ?_⟩
  walk_at "cl"
  walk_at "st"
  refine draw_of T fun r1 H1 r10 r11 c1 => ?_
  walk_at "rd"
  refine ⟨small6 (by simp), fun p1 hp1 => ⟨_, .of upd_same, ?_⟩⟩
  have cs : r1 = 0 ∨ r1 = 1 ∨ r1 = 2 ∨ r1 = 3 ∨ r1 = 4 ∨ r1 = 5 := by omega
  rcases cs with rfl | rfl | rfl | rfl | rfl | rfl <;>
    exact ⟨_, rfl, small6 (by simp), fun p hp => ⟨_, .of upd_same, _, rfl, t, _, _, rfl, by decide, by decide, by decide, (c1.tape.new hp1 _).new hp _,
      fun rl r H2 a b c C d => q rl r H2 a (Nat.le_trans b (by decide)) (Nat.le_trans c (by decide)) (((c1.new hp1 _).new hp _).then C) d⟩⟩
theorem ok_law_full {n : Nat} (F : Df K mg "_law_full" s_law_full ["_law_tape_here", "_law_many", "_law_deep"]) (m_min : mg "min" = none) (d_law_draw : Dn P w K mg base k "_law_draw" ["_law_tape_here", "_law_many"] (spDraw K ns))
    (d_law_full : Dn P w K mg base k "_law_full" ["_law_tape_here", "_law_many", "_law_deep"] (spFull K ns n)) : Dn P w K mg base (k + 1) "_law_full" ["_law_tape_here", "_law_many", "_law_deep"] (spFull K ns (n + 1)) := by
  refine F.ok sc_law_full (fun vs H Q E h => ?_) (fun f cdv A outer s H vs Q E hr h => ?_)
  · obtain ⟨t, m, d, rfl, _⟩ := h; rfl
  obtain ⟨t, m, d, rfl, hn, h4, hm, T, q⟩ := h
  refine ⟨_, [some _, some _, some _, none, none, none], 
      (@pss_cons _ _ _ _ _ (@ps_if _ _ _ _ _ _ _ _ (@pt_cmpR _ _ _ _ _ _ _ _ op_eq (@pv _ 1 _ _ (by rfl) (by first | exact Or.inl rfl | exact Or.inr (Or.inl rfl) | exact Or.inr (Or.inr rfl)) (by decide) (by decide)) (@pe_int _ _ _ _) (nomark _)) (@pss_one _ _ _ (@ps_ret _ _ _ _ (@pe_tup _ _ _ _ _ (@pa_u _ _ _ _ _ (@pe_str _ _ _ _) (@pa_nil _) (by rfl))))) (@pss_nil _)) 
      (@pss_cons _ _ _ _ _ (@ps_set _ _ 3 _ _ _ _ sc_law_full.nd rfl (Or.inl rfl) (@pe_callBu _ _ _ _ _ _ _ _ _ (call_minS rfl) rfl m_min bt_min (@pa_u _ _ _ _ _ (@pe_op _ _ _ _ _ _ _ _ op_sub (@pv _ 1 _ _ (by rfl) (by first | exact Or.inl rfl | exact Or.inr (Or.inl rfl) | exact Or.inr (Or.inr rfl)) (by decide) (by decide)) (@pe_int _ _ _ _)) (@pa_u _ _ _ _ _ (@pe_ix _ _ _ _ _ _ _ ix_list (@pe_lst _ _ _ _ (@pa_u _ _ _ _ _ (@pe_int _ _ _ _) (@pa_u _ _ _ _ _ (@pe_int _ _ _ _) (@pa_u _ _ _ _ _ (@pe_int _ _ _ _) (@pa_u _ _ _ _ _ (@pe_int _ _ _ _) (@pa_nil _) (by rfl)) (by rfl)) (by rfl)) (by rfl))) (@pe_op _ _ _ _ _ _ _ _ op_sub (@pv _ 2 _ _ (by rfl) (by first | exact Or.inl rfl | exact Or.inr (Or.inl rfl) | exact Or.inr (Or.inr rfl)) (by decide) (by decide)) (@pe_int _ _ _ _)) (fun _ _ => rfl)) (@pa_nil _) (by rfl)) (by rfl)) (by rfl) (by decide) (by decide)) (by rfl) (by first | exact .inl rfl | exact .inr rfl | assumption)) 
      (@pss_cons _ _ _ _ _ (@ps_set _ _ 4 _ _ _ _ sc_law_full.nd rfl (Or.inl rfl) (@pe_callD _ _ _ _ _ _ _ _ _ _ d_law_full hr rfl (@pa_u _ _ _ _ _ (@pv _ 0 _ _ (by rfl) (by first | exact Or.inl rfl | exact Or.inr (Or.inl rfl) | exact Or.inr (Or.inr rfl)) (by decide) (by decide)) (@pa_u _ _ _ _ _ (@pv _ 3 _ _ (by rfl) (by first | exact Or.inl rfl | exact Or.inr (Or.inl rfl) | exact Or.inr (Or.inr rfl)) (by decide) (by decide)) (@pa_u _ _ _ _ _ (@pe_op _ _ _ _ _ _ _ _ op_sub (@pv _ 2 _ _ (by rfl) (by first | exact Or.inl rfl | exact Or.inr (Or.inl rfl) | exact Or.inr (Or.inr rfl)) (by decide) (by decide)) (@pe_int _ _ _ _)) (@pa_nil _) (by rfl)) (by rfl)) (by rfl)) (by rfl) (by decide)) (by rfl) (by first | exact .inl rfl | exact .inr rfl | assumption)) 
      (@pss_cons _ _ _ _ _ (@ps_set _ _ 5 _ _ _ _ sc_law_full.nd rfl (Or.inl rfl) (@pe_callD _ _ _ _ _ _ _ _ _ _ d_law_full hr rfl (@pa_u _ _ _ _ _ (@pv _ 0 _ _ (by rfl) (by first | exact Or.inl rfl | exact Or.inr (Or.inl rfl) | exact Or.inr (Or.inr rfl)) (by decide) (by decide)) (@pa_u _ _ _ _ _ (@pe_op _ _ _ _ _ _ _ _ op_sub (@pe_op _ _ _ _ _ _ _ _ op_sub (@pv _ 1 _ _ (by rfl) (by first | exact Or.inl rfl | exact Or.inr (Or.inl rfl) | exact Or.inr (Or.inr rfl)) (by decide) (by decide)) (@pe_int _ _ _ _)) (@pv _ 3 _ _ (by rfl) (by first | exact Or.inl rfl | exact Or.inr (Or.inl rfl) | exact Or.inr (Or.inr rfl)) (by decide) (by decide))) (@pa_u _ _ _ _ _ (@pe_op _ _ _ _ _ _ _ _ op_sub (@pv _ 2 _ _ (by rfl) (by first | exact Or.inl rfl | exact Or.inr (Or.inl rfl) | exact Or.inr (Or.inr rfl)) (by decide) (by decide)) (@pe_int _ _ _ _)) (@pa_nil _) (by rfl)) (by rfl)) (by rfl)) (by rfl) (by decide)) (by rfl) (by first | exact .inl rfl | exact .inr rfl | assumption)) (@pss_one _ _ _ (@ps_ret _ _ _ _ (@pe_tup _ _ _ _ _ (@pa_u _ _ _ _ _ (@pe_str _ _ _ _) (@pa_u _ _ _ _ _ (@pe_op _ _ _ _ _ _ _ _ op_add (@pe_int _ _ _ _) (@pe_callD _ _ _ _ _ _ _ _ _ _ d_law_draw hr rfl (@pa_u _ _ _ _ _ (@pv _ 0 _ _ (by rfl) (by first | exact Or.inl rfl | exact Or.inr (Or.inl rfl) | exact Or.inr (Or.inr rfl)) (by decide) (by decide)) (@pa_u _ _ _ _ _ (@pe_int _ _ _ _) (@pa_nil _) (by rfl)) (by rfl)) (by rfl) (by decide))) (@pa_u _ _ _ _ _ (@pe_int _ _ _ _) (@pa_u _ _ _ _ _ (@pe_int _ _ _ _) (@pa_u _ _ _ _ _ (@pv _ 4 _ _ (by rfl) (by first | exact Or.inl rfl | exact Or.inr (Or.inl rfl) | exact Or.inr (Or.inr rfl)) (by decide) (by decide)) (@pa_u _ _ _ _ _ (@pv _ 5 _ _ (by rfl) (by first | exact Or.inl rfl | exact Or.inr (Or.inl rfl) | exact Or.inr (Or.inr rfl)) (by decide) (by decide)) (@pa_nil _) (by rfl)) (by rfl)) (by rfl)) (by rfl)) (by rfl)) (by rfl))))))))), rfl, ?_⟩
  walk_at "cl"
  walk_at "st"
  by_cases e : m = 0
  · rw [if_pos (by omega)]
    exact ⟨small6 (by simp), fun p hp => q .pt _ _ trivial (Nat.zero_le _) e.symm (T.cur.new hp _) (pt_dt (.of upd_same))⟩
  · rw [if_neg (by omega)]
    walk_at "st"
    have hd : ∃ d' g : Nat, d = d' + 1 ∧ atI [V.int 0, V.int 1, V.int 3, V.int 7] ((d : Int) - 1) = some (V.int g) ∧ g + 1 = 2 ^ d' := by
      match d, h4 with
      | 0, _ => simp at hm; omega
      | 1, _ => exact ⟨0, 0, rfl, atI_nat (j := 0) rfl, rfl⟩
      | 2, _ => exact ⟨1, 1, rfl, atI_nat (j := 1) rfl, rfl⟩
      | 3, _ => exact ⟨2, 3, rfl, atI_nat (j := 2) rfl, rfl⟩
      | 4, _ => exact ⟨3, 7, rfl, atI_nat (j := 3) rfl, rfl⟩
      | d + 5, h4 => omega
    obtain ⟨d', g, rfl, hat, hg⟩ := hd
    have hpow : 2 ^ (d' + 1) = 2 ^ d' * 2 := Nat.pow_succ ..
    refine ⟨small6 (by simp), fun p hp => ⟨_, .of upd_same, _, hat, ?_⟩⟩
    have T1 := T.new hp (.lst [V.int 0, V.int 1, V.int 3, V.int 7])
    have C1 := T.cur.new hp (.lst [V.int 0, V.int 1, V.int 3, V.int 7])
    generalize upd H p (.lst [V.int 0, V.int 1, V.int 3, V.int 7]) = H1 at T1 C1 ⊢
    obtain ⟨left, hleft, hl1, hl2⟩ : ∃ left : Nat, (if (g : Int) < (m : Int) - 1 then (g : Int) else (m : Int) - 1) = (left : Int) ∧ left + 1 ≤ 2 ^ d' ∧ (m - 1 - left) + 1 ≤ 2 ^ d' ∧ left ≤ m - 1 := by
      by_cases c : (g : Int) < (m : Int) - 1
      · exact ⟨g, by rw [if_pos c], by omega, by omega, by omega⟩
      · exact ⟨m - 1, by rw [if_neg c]; omega, by omega, by omega, by omega⟩
    rw [r_min2, hleft]
    walk_at "st"
    refine ⟨t, left, d', by rw [show (((d' + 1 : Nat) : Int) - 1) = (d' : Int) by omega], by omega, by omega, hl1, T1, fun i iv H2 oki dpi szi c2 di => ?_⟩
    have C2 := C1.then c2
    walk_at "st"
    refine ⟨t, m - 1 - left, d', by rw [show (((d' + 1 : Nat) : Int) - 1) = (d' : Int) by omega, show ((m : Int) - 1 - (left : Int)) = ((m - 1 - left : Nat) : Int) by omega], by omega, by omega, hl2.1, C2.tape, fun l lv H3 okl dpl szl c3 dl => ?_⟩
    have C3 := C2.then c3
    walk_at "rd"
    refine draw_of C3.tape fun r H4 r0 r9 c4 => ?_
    walk_at "rd"
    refine ⟨small6 (by simp), fun p5 hp5 => ?_⟩
    refine q (.ul (1 + r) 1 9 i l) _ _ ⟨⟨by omega, by omega⟩, ⟨by omega, by omega⟩, ⟨by omega, by omega⟩, oki, okl⟩ (by simp only [depth]; omega) (by simp only [size]; omega) ((C3.then c4).new hp5 _) ?_
    exact .newT hp5 (.cons (dstr "unit") (.cons (.int _) (.cons (.int _) (.cons (.int _) (.cons (di.on (c3.ext.trans c4.ext)) (.cons (dl.on c4.ext) .nil))))))
theorem all_law_full {n : Nat} (F : Df K mg "_law_full" s_law_full ["_law_tape_here", "_law_many", "_law_deep"]) (m_min : mg "min" = none) (d_law_draw : Dn P w K mg base k "_law_draw" ["_law_tape_here", "_law_many"] (spDraw K ns)) : Dn P w K mg base (k + n) "_law_full" ["_law_tape_here", "_law_many", "_law_deep"] (spFull K ns n) := by
  induction n with
  | zero => exact F.void fun vs H Q E ⟨_, _, _, _, h, _⟩ => by omega
  | succ n ih => exact ok_law_full F m_min (d_law_draw.mono (Nat.le_add_right k _)) ih
def segs (cap : Option Int) (i : Rl) (l : Option Rl) : Nat → List Str
  | 0 => []
  | 1 => [capS cap]
  | 2 => [capS cap] ++ words i
  | _ => [capS cap] ++ words i ++ lastW l
theorem _root_.L2.Same.at {H H' : Hp} {p : Addr} {o : HO} (S : Same H H') (hp : H p = none) : Same H (upd H' p o) := fun b u h => by rw [upd_ne (ne_of_none h hp)]; exact S _ _ h
theorem enc_encT (r : Rl) : ∃ ds, enc r = .tuple ds := by cases r <;> exact ⟨_, rfl⟩
theorem ok_law_words {n : Nat} (F : Df K mg "_law_words" s_law_words ["_law_rule_here"]) (m_str : mg "str" = none) (m_isinstance : mg "isinstance" = none) (m_tuple : mg "tuple" = none) (d_law_words : Dn P w K mg base k "_law_words" ["_law_rule_here"] (spLWords K n)) : Dn P w K mg base (k + 1) "_law_words" ["_law_rule_here"] (spLWords K (n + 1)) := by
  refine F.ok sc_law_words (fun vs H Q E h => ?_) (fun f cdv A outer s H vs Q E hr h => ?_)
  · obtain ⟨d, v, rfl, _⟩ := h; rfl
  obtain ⟨rl, v, rfl, hd, okr, hn, hsz, q⟩ := h
  refine ⟨_, [some _, none, none], 
      (@pss_cons _ _ _ _ _ (@ps_if _ _ _ _ _ _ _ _ (@pt_cmpR _ _ _ _ _ _ _ _ (op_eqD hr) (@pv _ 0 _ _ (by rfl) (by first | exact Or.inl rfl | exact Or.inr (Or.inl rfl) | exact Or.inr (Or.inr rfl)) (by decide) (by decide)) (@pe_tup _ _ _ _ _ (@pa_u _ _ _ _ _ (@pe_str _ _ _ _) (@pa_nil _) (by rfl))) (nomark _)) (@pss_one _ _ _ (@ps_ret _ _ _ _ (@pe_lst _ _ _ _ (@pa_u _ _ _ _ _ (@pe_str _ _ _ _) (@pa_nil _) (by rfl))))) (@pss_nil _)) 
      (@pss_cons _ _ _ _ _ (@ps_set _ _ 1 _ _ _ _ sc_law_words.nd rfl (Or.inl rfl) (@pe_lst _ _ _ _ (@pa_u _ _ _ _ _ (@pe_str _ _ _ _) (@pa_u _ _ _ _ _ (@pe_callTu _ _ _ _ _ _ _ _ _ call_strI rfl m_str bt_str (@pa_u _ _ _ _ _ (@pe_ix _ _ _ _ _ _ _ ix_tup (@pv _ 0 _ _ (by rfl) (by first | exact Or.inl rfl | exact Or.inr (Or.inl rfl) | exact Or.inr (Or.inr rfl)) (by decide) (by decide)) (@pe_int _ _ _ _) (fun _ _ => rfl)) (@pa_nil _) (by rfl)) (by rfl) (by decide) (by decide)) (@pa_u _ _ _ _ _ (@pe_callTu _ _ _ _ _ _ _ _ _ call_strI rfl m_str bt_str (@pa_u _ _ _ _ _ (@pe_ix _ _ _ _ _ _ _ ix_tup (@pv _ 0 _ _ (by rfl) (by first | exact Or.inl rfl | exact Or.inr (Or.inl rfl) | exact Or.inr (Or.inr rfl)) (by decide) (by decide)) (@pe_int _ _ _ _) (fun _ _ => rfl)) (@pa_nil _) (by rfl)) (by rfl) (by decide) (by decide)) (@pa_nil _) (by rfl)) (by rfl)) (by rfl))) (by rfl) (by first | exact .inl rfl | exact .inr rfl | assumption)) 
      (@pss_cons _ _ _ _ _ (@ps_for _ _ _ _ _ _ _ _ PassesOwn.never rfl (@pi_tup _ _ _ _ (@pe_slice _ _ _ _ _ _ _ _ _ _ slA_tup (@pv _ 0 _ _ (by rfl) (by first | exact Or.inl rfl | exact Or.inr (Or.inl rfl) | exact Or.inr (Or.inr rfl)) (by decide) (by decide)) (@po_some _ _ _ (@pe_int _ _ _ _)) (@po_none _))) (@pg_name _ _ 2 _ sc_law_words.nd rfl (Or.inl rfl) (by first | exact .inl rfl | exact .inr rfl | assumption)) (@pss_one _ _ _ (@ps_if _ _ _ _ _ _ _ _ (@pt_cmpR _ _ _ _ _ _ _ _ op_isNS (@pv _ 2 _ _ (by rfl) (by first | exact Or.inl rfl | exact Or.inr (Or.inl rfl) | exact Or.inr (Or.inr rfl)) (by decide) (by decide)) (@pe_non _ _ _) (nomark _)) (@pss_one _ _ _ (@ps_expr _ _ _ _ (@pe_bm _ _ _ _ _ _ _ _ _ _ _ _ PySem.F.plainAttrs_list PySem.F.slot_list_append PySem.F.type_list_append mt_append (@pv _ 1 _ _ (by rfl) (by first | exact Or.inl rfl | exact Or.inr (Or.inl rfl) | exact Or.inr (Or.inr rfl)) (by decide) (by decide)) (@pa_u _ _ _ _ _ (@pe_str _ _ _ _) (@pa_nil _) (by rfl)) (by rfl) (by rfl) (by rfl) (by rfl) (by rfl)) (by rfl))) (@pss_one _ _ _ (@ps_if _ _ _ _ _ _ _ _ (@pt_val _ _ _ (@pe_callBu _ _ _ _ _ _ _ _ _ call_isi rfl m_isinstance bt_isinstance (@pa_u _ _ _ _ _ (@pv _ 2 _ _ (by rfl) (by first | exact Or.inl rfl | exact Or.inr (Or.inl rfl) | exact Or.inr (Or.inr rfl)) (by decide) (by decide)) (@pa_u _ _ _ _ _ (@pe_bltn _ _ (.ty "tuple") _ _ rfl m_tuple bt_tuple rfl (by decide) (by decide)) (@pa_nil _) (by rfl)) (by rfl)) (by rfl) (by decide) (by decide)) (by intro _; rfl)) (@pss_one _ _ _ (@ps_expr _ _ _ _ (@pe_bm _ _ _ _ _ _ _ _ _ _ _ _ PySem.F.plainAttrs_list PySem.F.slot_list_extend PySem.F.type_list_extend mt_extend (@pv _ 1 _ _ (by rfl) (by first | exact Or.inl rfl | exact Or.inr (Or.inl rfl) | exact Or.inr (Or.inr rfl)) (by decide) (by decide)) (@pa_u _ _ _ _ _ (@pe_callD _ _ _ _ _ _ _ _ _ _ d_law_words hr rfl (@pa_u _ _ _ _ _ (@pv _ 2 _ _ (by rfl) (by first | exact Or.inl rfl | exact Or.inr (Or.inl rfl) | exact Or.inr (Or.inr rfl)) (by decide) (by decide)) (@pa_nil _) (by rfl)) (by rfl) (by decide)) (@pa_nil _) (by rfl)) (by rfl) (by rfl) (by rfl) (by rfl) (by rfl)) (by rfl))) (@pss_one _ _ _ (@ps_expr _ _ _ _ (@pe_bm _ _ _ _ _ _ _ _ _ _ _ _ PySem.F.plainAttrs_list PySem.F.slot_list_append PySem.F.type_list_append mt_append (@pv _ 1 _ _ (by rfl) (by first | exact Or.inl rfl | exact Or.inr (Or.inl rfl) | exact Or.inr (Or.inr rfl)) (by decide) (by decide)) (@pa_u _ _ _ _ _ (@pe_callTu _ _ _ _ _ _ _ _ _ call_strI rfl m_str bt_str (@pa_u _ _ _ _ _ (@pv _ 2 _ _ (by rfl) (by first | exact Or.inl rfl | exact Or.inr (Or.inl rfl) | exact Or.inr (Or.inr rfl)) (by decide) (by decide)) (@pa_nil _) (by rfl)) (by rfl) (by decide) (by decide)) (@pa_nil _) (by rfl)) (by rfl) (by rfl) (by rfl) (by rfl) (by rfl)) (by rfl))))))) (by intro _; rfl)) (@pss_one _ _ _ (@ps_ret _ _ _ _ (@pv _ 1 _ _ (by rfl) (by first | exact Or.inl rfl | exact Or.inr (Or.inl rfl) | exact Or.inr (Or.inr rfl)) (by decide) (by decide))))))), rfl, ?_⟩
  walk_at "cl"
  walk_at "st"
  refine ⟨small6 (by simp), fun pp hpp => ?_⟩
  have S0 := same_new hpp (.tup [V.str "point"])
  have hpp0 : (upd H pp (.tup [V.str "point"])) pp = some (.tup [V.str "point"]) := upd_same
  have q0 : ∀ D H', Same (upd H pp (.tup [V.str "point"])) H' → (upd H pp (.tup [V.str "point"])) D = none → H' D = some (.lst (sV (words rl))) → Q (.ref D) H' := fun D H' S hD hD' => q D H' (S0.trans S) (by
    by_cases e : D = pp
    · subst e; exact hpp
    · rwa [upd_ne e] at hD) hD'
  replace hd := hd.same S0
  generalize upd H pp (.tup [V.str "point"]) = H0 at S0 hpp0 q0 hd ⊢
  refine eqF_of (t := 0) hd (pt_dt (.of hpp0)) (depR dep_pt) ?_
  walk_at "rd"
  refine ite2 (fun c => ?_) (fun c => ?_)
  · rw [eqv_enc_pt] at c
    subst c
    exact ⟨small6 (by simp), fun p hp => q0 p _ (same_new hp _) hp upd_same⟩
  have hne : rl ≠ .pt := fun z => c ((eqv_enc_pt rl).mpr z)
  obtain ⟨to, lead, cap, i, l, W⟩ := vw_of okr hne
  obtain ⟨a, v4, v5, rfl, hs, hi, hl⟩ := rl_tup hd W
  have hwl := words_len rl
  have hww := congrArg List.length W.words
  simp only [List.length_append, List.length_cons, List.length_nil] at hww
  have hdd := W.depth
  have hss := W.size
  walk_at "st"
  refine ⟨_, hs, _, rfl, strI_of (log_small W.hto) ?_⟩
  walk_at "rd"
  refine ⟨_, hs, _, rfl, strI_of (log_small W.hlead) ?_⟩
  walk_at "rd"
  refine ⟨small6 (by simp), fun p hp => ?_⟩
  have S1 := same_new hp (.lst [V.str "unit", V.str (numS to), V.str (numS lead)])
  have hp1 : (upd H0 p (.lst [V.str "unit", V.str (numS to), V.str (numS lead)])) p = some (.lst (sV [wUnit, numS to, numS lead])) := upd_same
  generalize upd H0 p (.lst [V.str "unit", V.str (numS to), V.str (numS lead)]) = H1 at S1 hp1 ⊢
  walk_at "st"
  refine ⟨a, _, rfl, Same.sqT hs S1, fun c2 H2 S2 hc2 => ?_⟩
  have hp0 : H0 p = none := hp
  refine ⟨c2, rfl, ⟨_, hc2⟩, tup_of (xs := [optI cap, v4, v5]) (fun j σ' H' => ∃ x : Option V, σ' = [some (.ref a), some (.ref p), x] ∧ Same H0 H' ∧ SqT K H' c2 [optI cap, v4, v5] ∧ H' p = some (.lst (sV ([wUnit, numS to, numS lead] ++ segs cap i l j)))) ⟨none, rfl, S1.trans S2, hc2, S2 _ _ hp1⟩ (fun j σ' H' _ ⟨_, _, _, h, _⟩ => h) ?_ ?_⟩
  · rintro Pw hP j y σ' H3 hy ⟨x0, rfl, S3, hc3, hp3⟩
    have hl3 : (segs cap i l j).length ≤ 300 := by
      match j with
      | 0 => simp [segs]
      | 1 => simp [segs]
      | 2 => simp only [segs, List.length_append, List.length_cons, List.length_nil]; omega
      | j + 3 => simp only [segs, List.length_append, List.length_cons, List.length_nil]; omega
    obtain ⟨z, hz, hseg⟩ : ∃ z, ((y = .non ∧ z = [wDash]) ∨ (∃ c, y = .int c ∧ Bd 1 c ∧ z = [numS c]) ∨ (∃ r, RlV K H0 r y ∧ ok r ∧ depth r < n ∧ size r ≤ 15 ∧ z = words r)) ∧ segs cap i l (j + 1) = segs cap i l j ++ z := by
      match j, hy with
      | 0, hy =>
        cases hy
        refine ⟨[capS cap], ?_, rfl⟩
        cases cap with
        | none => exact .inl ⟨rfl, rfl⟩
        | some c => exact .inr (.inl ⟨c, rfl, Bd.one W.hto.1 W.hcap, rfl⟩)
      | 1, hy =>
        cases hy
        exact ⟨words i, .inr (.inr ⟨i, hi, W.hi, by omega, by omega, rfl⟩), rfl⟩
      | 2, hy =>
        cases hy
        refine ⟨lastW l, ?_, rfl⟩
        cases l with
        | none => exact .inl ⟨hl.no, rfl⟩
        | some l => exact .inr (.inr ⟨l, hl, W.hl _ rfl, by simp only [lastDp] at hdd; omega, by simp only [lastSz] at hss; omega, rfl⟩)
      | j + 3, hy => cases hy
    have fin : ∀ H4, Same H0 H4 → SqT K H4 c2 [optI cap, v4, v5] → H4 p = some (.lst (sV (([wUnit, numS to, numS lead] ++ segs cap i l j) ++ z))) → Pw (j + 1) [some (.ref a), some (.ref p), some y] H4 := fun H4 S4 hc4 hp4 => hP _ _ _ ⟨_, rfl, S4, hc4, by rw [hseg, ← List.append_assoc]; exact hp4⟩
    have hul : ([wUnit, numS to, numS lead] ++ segs cap i l j).length ≤ 303 := by simp only [List.length_append, List.length_cons, List.length_nil]; omega
    generalize [wUnit, numS to, numS lead] ++ segs cap i l j = u at hp3 fin hul
    walk_at "rd"
    rcases hz with ⟨rfl, rfl⟩ | ⟨c, rfl, hb, rfl⟩ | ⟨r, hr, okr', hdr, hsr, rfl⟩
    · rw [if_pos rfl]
      refine ⟨.inl ⟨rfl, _, .of hp3⟩, p, _, _, rfl, rfl, hp3, small1000 (by rw [sV_len]; omega), fin _ (Same.at S3 hp0) ?_ (by rw [upd_same]; exact congrArg (fun x => some (HO.lst x)) (sV_app u [wDash]))⟩
      exact (Tk.updL (K := K) hp3) _ _ hc3
    · rw [if_neg (by intro h; cases h)]
      refine isi_of (t := 0) (d := .int c) (.int _) ?_
      walk_at "rd"
      rw [if_neg (by simp [isiD])]
      refine ⟨.inl ⟨rfl, _, .of hp3⟩, strI_of (log_small hb) ?_⟩
      refine ⟨p, _, _, rfl, rfl, hp3, small1000 (by rw [sV_len]; omega), fin _ (Same.at S3 hp0) ?_ (by rw [upd_same]; exact congrArg (fun x => some (HO.lst x)) (sV_app u [numS c]))⟩
      exact (Tk.updL (K := K) hp3) _ _ hc3
    · have hr3 := hr.same S3
      have hyn : y ≠ .non := LastV.yes (K := K) (H := H3) (r := r) hr3
      rw [if_neg hyn]
      refine isi_of (t := 0) (d := enc r) hr3 ?_
      walk_at "rd"
      rw [if_pos (by obtain ⟨ds, e⟩ := enc_encT r; rw [e]; simp [isiD])]
      refine ⟨.inl ⟨rfl, _, .of hp3⟩, r, y, rfl, hr3, okr', hdr, hsr, fun D H4 S4 hD hD4 => ?_⟩
      have hwr := words_len r
      refine ⟨p, D, _, _, rfl, rfl, S4 _ _ hp3, hD4, Nat.le_of_lt (small1000 (by simp only [sV_len]; omega)), fin _ (Same.at (S3.trans S4) hp0) ?_ (by rw [upd_same, sV_app])⟩
      exact (Tk.updL (K := K) (S4 _ _ hp3)) _ _ (Same.sqT hc3 S4)
  · rintro σ' H3 ⟨x0, rfl, S3, _, hp3⟩
    walk_at "rd"
    refine q0 _ _ S3 hp0 ?_
    rw [hp3, W.words]
    rfl
theorem all_law_words {n : Nat} (F : Df K mg "_law_words" s_law_words ["_law_rule_here"]) (m_str : mg "str" = none) (m_isinstance : mg "isinstance" = none) (m_tuple : mg "tuple" = none) : Dn P w K mg base (k + n) "_law_words" ["_law_rule_here"] (spLWords K n) := by
  induction n with
  | zero => exact F.void fun vs H Q E ⟨_, _, _, _, _, h, _⟩ => by omega
  | succ n ih => exact ok_law_words F m_str m_isinstance m_tuple ih
end
end My
namespace My
open PySem L2 M
section
variable (K : PySem.W.Frag) (ns : List Int)
def spBent : Sp := fun vs H Q _ => ∃ t W ws, vs = [.ref t, .ref W] ∧ Tape K ns t H ∧ H W = some (.lst (sV ws)) ∧ W ≠ t ∧ ws ≠ [] ∧ ws.length ≤ 198 ∧ (∀ x ∈ ws, Wok x) ∧ ∀ D ws' H', Cur K ns t H H' → H' D = some (.lst (sV ws')) → ws' ≠ [] → ws'.length ≤ ws.length + 1 → (∀ x ∈ ws', Wok x) → Q (.ref D) H'
end
abbrev oddT : Str := Str.ofString "0 00 01 1 9 10 99 100 -1 +1 1_0 1.0 a point unit - -- points Point units 4 x5 007 7x"
def oddW : List Str := Txt.split oddT blank ++ [Str.ofString ""]
theorem oddW_len : oddW.length = 25 := by decide +kernel
theorem oddW_ok : ∀ x ∈ oddW, Wok x := by unfold Wok; decide +kernel
section
variable {P : Program} {w : World} {K : PySem.W.Frag} {mg : Str → Option Value} {base : Heap} {ns : List Int} {k : Nat}
theorem two_of {a b : List Str} {n : Nat} (h : a.length + b.length ≤ n) (hn : n ≤ 199) : a.length + b.length ≤ 1000 ∧ (a ++ b).length ≤ n := ⟨by omega, by rw [List.length_append]; exact h⟩
theorem three_of {a b c : List Str} {n : Nat} (h : a.length + b.length + c.length ≤ n) (hn : n ≤ 199) (hb : 1 ≤ b.length) : a.length + b.length ≤ 1000 ∧ (a ++ b).length + c.length ≤ 1000 ∧ a ++ b ++ c ≠ [] ∧ (a ++ b ++ c).length ≤ n := by
  have e : (a ++ b ++ c).length = a.length + b.length + c.length := by rw [List.length_append, List.length_append]
  refine ⟨by omega, by rw [List.length_append]; omega, fun z => ?_, by omega⟩
  rw [z] at e
  simp at e
  omega
theorem nn_of {l : List Str} (h : 1 ≤ l.length) : l ≠ [] := fun z => by rw [z] at h; cases h
theorem tk_len {ws : List Str} {i : Nat} (h : i ≤ ws.length) : (ws.take i).length = i := by rw [List.length_take]; exact Nat.min_eq_left h
theorem seq_if {tt : TT} {te : TE} {rest : TS} {D : Ends} {σ : St} {H : Hp} {c : Prop} [Decidable c] (h : ∀ R : Bool → Hp → Prop, R (decide c) H → tt σ H R) (h1 : c → te σ H D.rt) (h2 : ¬ c → rest D σ H) : tSeq (tIfS tt (tRet te) tNext) rest D σ H := by
  rw [r_seq]
  refine h _ ?_
  by_cases x : c
  · rw [decide_eq_true x]; exact h1 x
  · rw [decide_eq_false x]; exact h2 x
def GetsW (H0 : Hp) (σ : St) (te : TE) (ws : List Str) : Prop := ∀ H Q, Same H0 H → (∀ D H', Same H H' → H' D = some (.lst (sV ws)) → Q (.ref D) H') → te σ H Q
section
variable {H0 : Hp} {t W : Addr} {o2 o5 : Option V} {wd : Str} {j : Int} {ws us : List Str} {ta tb ti : TE} {i : Nat}
theorem gw_take (hW : H0 W = some (.lst (sV ws))) (hi : ∀ H R, R (.int i) H → ti [some (.ref t), some (.ref W), o2, some (.str wd), some (.int j), o5] H R) : GetsW H0 [some (.ref t), some (.ref W), o2, some (.str wd), some (.int j), o5] (tSl (rSlL K) (tVar 1) tNoPart (tPart ti)) (ws.take i) := fun H Q S k => by
  walk_at "rd"
  refine hi _ _ ?_
  walk_at "rd"
  refine ⟨W, _, rfl, .of (S _ _ hW), fun p hp => k p _ (same_new hp _) ?_⟩
  rw [upd_same, cutV_take, sV, ← List.map_take]
  rfl
theorem gw_drop (hW : H0 W = some (.lst (sV ws))) (hle : i ≤ ws.length) (hi : ∀ H R, R (.int i) H → ti [some (.ref t), some (.ref W), o2, some (.str wd), some (.int j), o5] H R) : GetsW H0 [some (.ref t), some (.ref W), o2, some (.str wd), some (.int j), o5] (tSl (rSlL K) (tVar 1) (tPart ti) tNoPart) (ws.drop i) := fun H Q S k => by
  walk_at "rd"
  refine hi _ _ ?_
  walk_at "rd"
  refine ⟨W, _, rfl, .of (S _ _ hW), fun p hp => k p _ (same_new hp _) ?_⟩
  rw [upd_same, cutV_dropL (by rw [sV_len]; exact hle), sV, ← List.map_drop]
  rfl
theorem gw_cat {σ : St} (ha : GetsW H0 σ ta ws) (hb : GetsW H0 σ tb us) (hl : ws.length + us.length ≤ 1000) : GetsW H0 σ (tOp rCat ta tb) (ws ++ us) := fun H Q S k => by
  walk_at "rd"
  refine ha H _ S fun D1 H1 S1 h1 => ?_
  refine hb H1 _ (S.trans S1) fun D2 H2 S2 h2 => ?_
  refine cat_of (S2 _ _ h1) h2 (smallA (by simp only [sV_len]; omega)) fun p hp => k p _ ((S1.trans S2).trans (same_new hp _)) ?_
  rw [upd_same, sV_app]
theorem gw_word : GetsW H0 [some (.ref t), some (.ref W), o2, some (.str wd), some (.int j), o5] (tLst (tCons (tVar 3) tNil)) [wd] := fun H Q S k => by
  walk_at "rd"
  exact ⟨small6 (by simp), fun p hp => k p _ (same_new hp _) upd_same⟩
theorem gw_items {σ : St} {tl : TA} {xs : List Str} (hl : xs.length ≤ 1000) (hx : ∀ H (R : List V → Hp → Prop), Same H0 H → R (sV xs) H → tl σ H R) : GetsW H0 σ (tLst tl) xs := fun H Q S k => by
  rw [r_lst]
  refine hx H _ S ?_
  exact ⟨small6 (by rw [sV_len]; exact hl), fun p hp => k p _ (same_new hp _) upd_same⟩
end
theorem ok_law_bent (F : Df K mg "_law_bent" s_law_bent ["_law_tape_here", "_law_words_here"]) (m_len : mg "len" = none) (d_law_draw : Dn P w K mg base k "_law_draw" ["_law_tape_here", "_law_many"] (spDraw K ns)) : Dn P w K mg base (k + 1) "_law_bent" ["_law_tape_here", "_law_words_here"] (spBent K ns) := by
  refine F.ok sc_law_bent (fun vs H Q E h => ?_) (fun f cdv A outer s H vs Q E hr h => ?_)
  · obtain ⟨t, W, ws, rfl, _⟩ := h; rfl
  obtain ⟨t, W, ws, rfl, T, hW, hWt, hne, hl, hok, q⟩ := h
  refine ⟨_, [some _, some _, none, none, none, none], 
      (@pss_cons _ _ _ _ _ (@ps_set _ _ 2 _ _ _ _ sc_law_bent.nd rfl (Or.inl rfl) (@pe_op _ _ _ _ _ _ _ _ op_cat (@pe_bm _ _ _ _ _ _ _ _ _ _ _ _ PySem.F.plainAttrs_str PySem.F.slot_str_split PySem.F.type_str_split mt_split (@pe_str _ _ _ _) (@pa_u _ _ _ _ _ (@pe_str _ _ _ _) (@pa_nil _) (by rfl)) (by rfl) (by rfl) (by rfl) (by rfl) (by rfl)) (@pe_lst _ _ _ _ (@pa_u _ _ _ _ _ (@pe_str _ _ _ _) (@pa_nil _) (by rfl)))) (by rfl) (by first | exact .inl rfl | exact .inr rfl | assumption)) 
      (@pss_cons _ _ _ _ _ (@ps_set _ _ 3 _ _ _ _ sc_law_bent.nd rfl (Or.inl rfl) (@pe_ix _ _ _ _ _ _ _ ix_list (@pv _ 2 _ _ (by rfl) (by first | exact Or.inl rfl | exact Or.inr (Or.inl rfl) | exact Or.inr (Or.inr rfl)) (by decide) (by decide)) (@pe_callD _ _ _ _ _ _ _ _ _ _ d_law_draw hr rfl (@pa_u _ _ _ _ _ (@pv _ 0 _ _ (by rfl) (by first | exact Or.inl rfl | exact Or.inr (Or.inl rfl) | exact Or.inr (Or.inr rfl)) (by decide) (by decide)) (@pa_u _ _ _ _ _ (@pe_callBu _ _ _ _ _ _ _ _ _ call_lenS rfl m_len PySem.boot_len (@pa_u _ _ _ _ _ (@pv _ 2 _ _ (by rfl) (by first | exact Or.inl rfl | exact Or.inr (Or.inl rfl) | exact Or.inr (Or.inr rfl)) (by decide) (by decide)) (@pa_nil _) (by rfl)) (by rfl) (by decide) (by decide)) (@pa_nil _) (by rfl)) (by rfl)) (by rfl) (by decide)) (fun _ _ => rfl)) (by rfl) (by first | exact .inl rfl | exact .inr rfl | assumption)) 
      (@pss_cons _ _ _ _ _ (@ps_set _ _ 4 _ _ _ _ sc_law_bent.nd rfl (Or.inl rfl) (@pe_callD _ _ _ _ _ _ _ _ _ _ d_law_draw hr rfl (@pa_u _ _ _ _ _ (@pv _ 0 _ _ (by rfl) (by first | exact Or.inl rfl | exact Or.inr (Or.inl rfl) | exact Or.inr (Or.inr rfl)) (by decide) (by decide)) (@pa_u _ _ _ _ _ (@pe_callBu _ _ _ _ _ _ _ _ _ call_lenS rfl m_len PySem.boot_len (@pa_u _ _ _ _ _ (@pv _ 1 _ _ (by rfl) (by first | exact Or.inl rfl | exact Or.inr (Or.inl rfl) | exact Or.inr (Or.inr rfl)) (by decide) (by decide)) (@pa_nil _) (by rfl)) (by rfl) (by decide) (by decide)) (@pa_nil _) (by rfl)) (by rfl)) (by rfl) (by decide)) (by rfl) (by first | exact .inl rfl | exact .inr rfl | assumption)) 
      (@pss_cons _ _ _ _ _ (@ps_set _ _ 5 _ _ _ _ sc_law_bent.nd rfl (Or.inl rfl) (@pe_callD _ _ _ _ _ _ _ _ _ _ d_law_draw hr rfl (@pa_u _ _ _ _ _ (@pv _ 0 _ _ (by rfl) (by first | exact Or.inl rfl | exact Or.inr (Or.inl rfl) | exact Or.inr (Or.inr rfl)) (by decide) (by decide)) (@pa_u _ _ _ _ _ (@pe_int _ _ _ _) (@pa_nil _) (by rfl)) (by rfl)) (by rfl) (by decide)) (by rfl) (by first | exact .inl rfl | exact .inr rfl | assumption)) 
      (@pss_cons _ _ _ _ _ (@ps_if _ _ _ _ _ _ _ _ (@PW.pt _ _ _ (@pw_and _ _ _ _ _ _ _ (@pt_cmpR _ _ _ _ _ _ _ _ op_eq (@pv _ 5 _ _ (by rfl) (by first | exact Or.inl rfl | exact Or.inr (Or.inl rfl) | exact Or.inr (Or.inr rfl)) (by decide) (by decide)) (@pe_int _ _ _ _) (nomark _)) (@pw_and1 _ _ _ _ (@pt_cmpR _ _ _ _ _ _ _ _ op_gt (@pe_callBu _ _ _ _ _ _ _ _ _ call_lenS rfl m_len PySem.boot_len (@pa_u _ _ _ _ _ (@pv _ 1 _ _ (by rfl) (by first | exact Or.inl rfl | exact Or.inr (Or.inl rfl) | exact Or.inr (Or.inr rfl)) (by decide) (by decide)) (@pa_nil _) (by rfl)) (by rfl) (by decide) (by decide)) (@pe_int _ _ _ _) (nomark _))))) (@pss_one _ _ _ (@ps_ret _ _ _ _ (@pe_op _ _ _ _ _ _ _ _ op_cat (@pe_slice _ _ _ _ _ _ _ _ _ _ sl_list (@pv _ 1 _ _ (by rfl) (by first | exact Or.inl rfl | exact Or.inr (Or.inl rfl) | exact Or.inr (Or.inr rfl)) (by decide) (by decide)) (@po_none _) (@po_some _ _ _ (@pv _ 4 _ _ (by rfl) (by first | exact Or.inl rfl | exact Or.inr (Or.inl rfl) | exact Or.inr (Or.inr rfl)) (by decide) (by decide)))) (@pe_slice _ _ _ _ _ _ _ _ _ _ sl_list (@pv _ 1 _ _ (by rfl) (by first | exact Or.inl rfl | exact Or.inr (Or.inl rfl) | exact Or.inr (Or.inr rfl)) (by decide) (by decide)) (@po_some _ _ _ (@pe_op _ _ _ _ _ _ _ _ op_add (@pv _ 4 _ _ (by rfl) (by first | exact Or.inl rfl | exact Or.inr (Or.inl rfl) | exact Or.inr (Or.inr rfl)) (by decide) (by decide)) (@pe_int _ _ _ _))) (@po_none _))))) (@pss_nil _)) 
      (@pss_cons _ _ _ _ _ (@ps_if _ _ _ _ _ _ _ _ (@pt_cmpR _ _ _ _ _ _ _ _ op_eq (@pv _ 5 _ _ (by rfl) (by first | exact Or.inl rfl | exact Or.inr (Or.inl rfl) | exact Or.inr (Or.inr rfl)) (by decide) (by decide)) (@pe_int _ _ _ _) (nomark _)) (@pss_one _ _ _ (@ps_ret _ _ _ _ (@pe_op _ _ _ _ _ _ _ _ op_cat (@pe_op _ _ _ _ _ _ _ _ op_cat (@pe_slice _ _ _ _ _ _ _ _ _ _ sl_list (@pv _ 1 _ _ (by rfl) (by first | exact Or.inl rfl | exact Or.inr (Or.inl rfl) | exact Or.inr (Or.inr rfl)) (by decide) (by decide)) (@po_none _) (@po_some _ _ _ (@pv _ 4 _ _ (by rfl) (by first | exact Or.inl rfl | exact Or.inr (Or.inl rfl) | exact Or.inr (Or.inr rfl)) (by decide) (by decide)))) (@pe_lst _ _ _ _ (@pa_u _ _ _ _ _ (@pv _ 3 _ _ (by rfl) (by first | exact Or.inl rfl | exact Or.inr (Or.inl rfl) | exact Or.inr (Or.inr rfl)) (by decide) (by decide)) (@pa_nil _) (by rfl)))) (@pe_slice _ _ _ _ _ _ _ _ _ _ sl_list (@pv _ 1 _ _ (by rfl) (by first | exact Or.inl rfl | exact Or.inr (Or.inl rfl) | exact Or.inr (Or.inr rfl)) (by decide) (by decide)) (@po_some _ _ _ (@pv _ 4 _ _ (by rfl) (by first | exact Or.inl rfl | exact Or.inr (Or.inl rfl) | exact Or.inr (Or.inr rfl)) (by decide) (by decide))) (@po_none _))))) (@pss_nil _)) 
      (@pss_cons _ _ _ _ _ (@ps_if _ _ _ _ _ _ _ _ (@pt_cmpR _ _ _ _ _ _ _ _ op_eq (@pv _ 5 _ _ (by rfl) (by first | exact Or.inl rfl | exact Or.inr (Or.inl rfl) | exact Or.inr (Or.inr rfl)) (by decide) (by decide)) (@pe_int _ _ _ _) (nomark _)) (@pss_one _ _ _ (@ps_ret _ _ _ _ (@pe_op _ _ _ _ _ _ _ _ op_cat (@pe_op _ _ _ _ _ _ _ _ op_cat (@pe_slice _ _ _ _ _ _ _ _ _ _ sl_list (@pv _ 1 _ _ (by rfl) (by first | exact Or.inl rfl | exact Or.inr (Or.inl rfl) | exact Or.inr (Or.inr rfl)) (by decide) (by decide)) (@po_none _) (@po_some _ _ _ (@pv _ 4 _ _ (by rfl) (by first | exact Or.inl rfl | exact Or.inr (Or.inl rfl) | exact Or.inr (Or.inr rfl)) (by decide) (by decide)))) (@pe_lst _ _ _ _ (@pa_u _ _ _ _ _ (@pe_ix _ _ _ _ _ _ _ ix_list (@pv _ 1 _ _ (by rfl) (by first | exact Or.inl rfl | exact Or.inr (Or.inl rfl) | exact Or.inr (Or.inr rfl)) (by decide) (by decide)) (@pv _ 4 _ _ (by rfl) (by first | exact Or.inl rfl | exact Or.inr (Or.inl rfl) | exact Or.inr (Or.inr rfl)) (by decide) (by decide)) (fun _ _ => rfl)) (@pa_nil _) (by rfl)))) (@pe_slice _ _ _ _ _ _ _ _ _ _ sl_list (@pv _ 1 _ _ (by rfl) (by first | exact Or.inl rfl | exact Or.inr (Or.inl rfl) | exact Or.inr (Or.inr rfl)) (by decide) (by decide)) (@po_some _ _ _ (@pv _ 4 _ _ (by rfl) (by first | exact Or.inl rfl | exact Or.inr (Or.inl rfl) | exact Or.inr (Or.inr rfl)) (by decide) (by decide))) (@po_none _))))) (@pss_nil _)) 
      (@pss_cons _ _ _ _ _ (@ps_if _ _ _ _ _ _ _ _ (@PW.pt _ _ _ (@pw_and _ _ _ _ _ _ _ (@pt_cmpR _ _ _ _ _ _ _ _ op_eq (@pv _ 5 _ _ (by rfl) (by first | exact Or.inl rfl | exact Or.inr (Or.inl rfl) | exact Or.inr (Or.inr rfl)) (by decide) (by decide)) (@pe_int _ _ _ _) (nomark _)) (@pw_and1 _ _ _ _ (@pt_cmpR _ _ _ _ _ _ _ _ op_gt (@pv _ 4 _ _ (by rfl) (by first | exact Or.inl rfl | exact Or.inr (Or.inl rfl) | exact Or.inr (Or.inr rfl)) (by decide) (by decide)) (@pe_int _ _ _ _) (nomark _))))) (@pss_one _ _ _ (@ps_ret _ _ _ _ (@pe_op _ _ _ _ _ _ _ _ op_cat (@pe_op _ _ _ _ _ _ _ _ op_cat (@pe_slice _ _ _ _ _ _ _ _ _ _ sl_list (@pv _ 1 _ _ (by rfl) (by first | exact Or.inl rfl | exact Or.inr (Or.inl rfl) | exact Or.inr (Or.inr rfl)) (by decide) (by decide)) (@po_none _) (@po_some _ _ _ (@pe_op _ _ _ _ _ _ _ _ op_sub (@pv _ 4 _ _ (by rfl) (by first | exact Or.inl rfl | exact Or.inr (Or.inl rfl) | exact Or.inr (Or.inr rfl)) (by decide) (by decide)) (@pe_int _ _ _ _)))) (@pe_lst _ _ _ _ (@pa_u _ _ _ _ _ (@pe_ix _ _ _ _ _ _ _ ix_list (@pv _ 1 _ _ (by rfl) (by first | exact Or.inl rfl | exact Or.inr (Or.inl rfl) | exact Or.inr (Or.inr rfl)) (by decide) (by decide)) (@pv _ 4 _ _ (by rfl) (by first | exact Or.inl rfl | exact Or.inr (Or.inl rfl) | exact Or.inr (Or.inr rfl)) (by decide) (by decide)) (fun _ _ => rfl)) (@pa_u _ _ _ _ _ (@pe_ix _ _ _ _ _ _ _ ix_list (@pv _ 1 _ _ (by rfl) (by first | exact Or.inl rfl | exact Or.inr (Or.inl rfl) | exact Or.inr (Or.inr rfl)) (by decide) (by decide)) (@pe_op _ _ _ _ _ _ _ _ op_sub (@pv _ 4 _ _ (by rfl) (by first | exact Or.inl rfl | exact Or.inr (Or.inl rfl) | exact Or.inr (Or.inr rfl)) (by decide) (by decide)) (@pe_int _ _ _ _)) (fun _ _ => rfl)) (@pa_nil _) (by rfl)) (by rfl)))) (@pe_slice _ _ _ _ _ _ _ _ _ _ sl_list (@pv _ 1 _ _ (by rfl) (by first | exact Or.inl rfl | exact Or.inr (Or.inl rfl) | exact Or.inr (Or.inr rfl)) (by decide) (by decide)) (@po_some _ _ _ (@pe_op _ _ _ _ _ _ _ _ op_add (@pv _ 4 _ _ (by rfl) (by first | exact Or.inl rfl | exact Or.inr (Or.inl rfl) | exact Or.inr (Or.inr rfl)) (by decide) (by decide)) (@pe_int _ _ _ _))) (@po_none _))))) (@pss_nil _)) 
      (@pss_cons _ _ _ _ _ (@ps_if _ _ _ _ _ _ _ _ (@PW.pt _ _ _ (@pw_and _ _ _ _ _ _ _ (@pt_cmpR _ _ _ _ _ _ _ _ op_eq (@pv _ 5 _ _ (by rfl) (by first | exact Or.inl rfl | exact Or.inr (Or.inl rfl) | exact Or.inr (Or.inr rfl)) (by decide) (by decide)) (@pe_int _ _ _ _) (nomark _)) (@pw_and1 _ _ _ _ (@pt_cmpR _ _ _ _ _ _ _ _ op_gt (@pv _ 4 _ _ (by rfl) (by first | exact Or.inl rfl | exact Or.inr (Or.inl rfl) | exact Or.inr (Or.inr rfl)) (by decide) (by decide)) (@pe_int _ _ _ _) (nomark _))))) (@pss_one _ _ _ (@ps_ret _ _ _ _ (@pe_slice _ _ _ _ _ _ _ _ _ _ sl_list (@pv _ 1 _ _ (by rfl) (by first | exact Or.inl rfl | exact Or.inr (Or.inl rfl) | exact Or.inr (Or.inr rfl)) (by decide) (by decide)) (@po_none _) (@po_some _ _ _ (@pv _ 4 _ _ (by rfl) (by first | exact Or.inl rfl | exact Or.inr (Or.inl rfl) | exact Or.inr (Or.inr rfl)) (by decide) (by decide)))))) (@pss_nil _)) 
      (@pss_cons _ _ _ _ _ (@ps_if _ _ _ _ _ _ _ _ (@pt_cmpR _ _ _ _ _ _ _ _ op_eq (@pv _ 5 _ _ (by rfl) (by first | exact Or.inl rfl | exact Or.inr (Or.inl rfl) | exact Or.inr (Or.inr rfl)) (by decide) (by decide)) (@pe_int _ _ _ _) (nomark _)) (@pss_one _ _ _ (@ps_ret _ _ _ _ (@pe_ix _ _ _ _ _ _ _ ix_list (@pe_lst _ _ _ _ (@pa_u _ _ _ _ _ (@pe_op _ _ _ _ _ _ _ _ op_cat (@pv _ 1 _ _ (by rfl) (by first | exact Or.inl rfl | exact Or.inr (Or.inl rfl) | exact Or.inr (Or.inr rfl)) (by decide) (by decide)) (@pe_lst _ _ _ _ (@pa_u _ _ _ _ _ (@pv _ 3 _ _ (by rfl) (by first | exact Or.inl rfl | exact Or.inr (Or.inl rfl) | exact Or.inr (Or.inr rfl)) (by decide) (by decide)) (@pa_nil _) (by rfl)))) (@pa_u _ _ _ _ _ (@pe_op _ _ _ _ _ _ _ _ op_cat (@pe_lst _ _ _ _ (@pa_u _ _ _ _ _ (@pv _ 3 _ _ (by rfl) (by first | exact Or.inl rfl | exact Or.inr (Or.inl rfl) | exact Or.inr (Or.inr rfl)) (by decide) (by decide)) (@pa_nil _) (by rfl))) (@pv _ 1 _ _ (by rfl) (by first | exact Or.inl rfl | exact Or.inr (Or.inl rfl) | exact Or.inr (Or.inr rfl)) (by decide) (by decide))) (@pa_nil _) (by rfl)) (by rfl))) (@pe_callD _ _ _ _ _ _ _ _ _ _ d_law_draw hr rfl (@pa_u _ _ _ _ _ (@pv _ 0 _ _ (by rfl) (by first | exact Or.inl rfl | exact Or.inr (Or.inl rfl) | exact Or.inr (Or.inr rfl)) (by decide) (by decide)) (@pa_u _ _ _ _ _ (@pe_int _ _ _ _) (@pa_nil _) (by rfl)) (by rfl)) (by rfl) (by decide)) (fun _ _ => rfl)))) (@pss_nil _)) (@pss_one _ _ _ (@ps_ret _ _ _ _ (@pe_op _ _ _ _ _ _ _ _ op_cat (@pe_op _ _ _ _ _ _ _ _ op_cat (@pe_slice _ _ _ _ _ _ _ _ _ _ sl_list (@pv _ 1 _ _ (by rfl) (by first | exact Or.inl rfl | exact Or.inr (Or.inl rfl) | exact Or.inr (Or.inr rfl)) (by decide) (by decide)) (@po_none _) (@po_some _ _ _ (@pv _ 4 _ _ (by rfl) (by first | exact Or.inl rfl | exact Or.inr (Or.inl rfl) | exact Or.inr (Or.inr rfl)) (by decide) (by decide)))) (@pe_lst _ _ _ _ (@pa_u _ _ _ _ _ (@pv _ 3 _ _ (by rfl) (by first | exact Or.inl rfl | exact Or.inr (Or.inl rfl) | exact Or.inr (Or.inr rfl)) (by decide) (by decide)) (@pa_nil _) (by rfl)))) (@pe_slice _ _ _ _ _ _ _ _ _ _ sl_list (@pv _ 1 _ _ (by rfl) (by first | exact Or.inl rfl | exact Or.inr (Or.inl rfl) | exact Or.inr (Or.inr rfl)) (by decide) (by decide)) (@po_some _ _ _ (@pe_op _ _ _ _ _ _ _ _ op_add (@pv _ 4 _ _ (by rfl) (by first | exact Or.inl rfl | exact Or.inr (Or.inl rfl) | exact Or.inr (Or.inr rfl)) (by decide) (by decide)) (@pe_int _ _ _ _))) (@po_none _))))))))))))))), rfl, ?_⟩
  walk_at "cl"
  walk_at "st"
  refine ⟨rfl, _, _, rfl, rfl, by decide +kernel, by decide +kernel, fun l1 hl1 => ⟨small6 (by simp), fun p2 hp2 => ?_⟩⟩
  have S1 := same_new hl1 (.lst ((Txt.split oddT (Str.ofString " ")).map V.str))
  have S2 := same_new hp2 (.lst [V.str (Str.ofString "")])
  refine cat_of (S2 _ _ (show (upd H l1 (.lst ((Txt.split oddT (Str.ofString " ")).map V.str))) l1 = _ from upd_same)) upd_same (by decide +kernel) fun p3 hp3 => ?_
  have hp3t : p3 ≠ t := Tape.ne ((T.new hl1 _).new hp2 _) hp3
  have hodd : (Txt.split oddT (Str.ofString " ")).map V.str ++ [V.str (Str.ofString "")] = sV oddW := by rw [blank_eq, oddW, sV, List.map_append]; rfl
  rw [hodd]
  have S3 := (S1.trans S2).trans (same_new hp3 (.lst (sV oddW)))
  have C3 : Cur K ns t H _ := ((T.cur.new hl1 _).new hp2 _).new hp3 (.lst (sV oddW))
  have h3 := upd_same (H := upd (upd H l1 (.lst ((Txt.split oddT (Str.ofString " ")).map V.str))) p2 (.lst [V.str (Str.ofString "")])) (a := p3) (o := .lst (sV oddW))
  generalize upd (upd (upd H l1 (.lst ((Txt.split oddT (Str.ofString " ")).map V.str))) p2 (.lst [V.str (Str.ofString "")])) p3 (.lst (sV oddW)) = H3 at S3 C3 h3 ⊢
  have hW3 := S3 _ _ hW
  walk_at "st"
  refine len_of (.of h3) ?_
  rw [sV_len, oddW_len]
  refine draw_of C3.tape fun r1 H4 r10 r11 c4 => ?_
  have C4 := C3.then c4
  have h4 := c4.ext _ _ (fun e => absurd e hp3t) h3
  obtain ⟨i1, rfl⟩ := Int.eq_ofNat_of_zero_le r10
  have hi1 : i1 < oddW.length := by rw [oddW_len]; omega
  walk_at "rd"
  refine ⟨_, .of h4, V.str oddW[i1], atI_nat (j := i1) (by simp [sV, hi1]), ?_⟩
  have hwd := oddW_ok _ (List.getElem_mem hi1)
  generalize oddW[i1] = wd at hwd ⊢
  have hW4 := c4.ext _ _ (fun e => absurd e hWt) hW3
  walk_at "st"
  refine len_of (.of hW4) ?_
  rw [sV_len]
  have hpos : 0 < ws.length := List.length_pos_iff.mpr hne
  refine draw_of C4.tape (fun r2 H5 r20 r21 c5 => ?_) (by omega) (by omega)
  have C5 := C4.then c5
  have hW5 := c5.ext _ _ (fun e => absurd e hWt) hW4
  obtain ⟨i, rfl⟩ := Int.eq_ofNat_of_zero_le r20
  have hi : i < ws.length := by omega
  walk_at "st"
  refine draw_of C5.tape fun r3 H6 r30 r31 c6 => ?_
  have C6 := C5.then c6
  have hW6 := c6.ext _ _ (fun e => absurd e hWt) hW5
  have hx := hok _ (List.getElem_mem hi)
  have fin : ∀ {te : TE} {us : List Str}, GetsW H6 [some (.ref t), some (.ref W), some (.ref p3), some (.str wd), some (.int i), some (.int r3)] te us → us ≠ [] → us.length ≤ ws.length + 1 → (∀ x ∈ us, Wok x) → te [some (.ref t), some (.ref W), some (.ref p3), some (.str wd), some (.int i), some (.int r3)] H6 Q := fun g h1 h2 h3 => g H6 _ (.refl _) fun D H7 S7 hD => q D _ H7 (C6.same S7) hD h1 h2 h3
  have tk : ∀ {n : Nat}, ∀ x ∈ ws.take n, Wok x := fun x hx => hok x (List.mem_of_mem_take hx)
  have dr : ∀ {n : Nat}, ∀ x ∈ ws.drop n, Wok x := fun x hx => hok x (List.mem_of_mem_drop hx)
  have v4 : ∀ H R, R (.int (i : Nat)) H → tVar 4 [some (.ref t), some (.ref W), some (.ref p3), some (.str wd), some (.int i), some (.int r3)] H R := fun H R h => h
  have v5 : ∀ H R, R (.int ((i + 1 : Nat) : Int)) H → (tOp (rI0 fun i j => V.int (i + j)) (tVar 4) (tC (V.int 1))) [some (.ref t), some (.ref W), some (.ref p3), some (.str wd), some (.int i), some (.int r3)] H R := fun H R h => h
  have w1 : ∀ x ∈ [wd], Wok x := fun x hx => by rw [List.mem_singleton.mp hx]; exact hwd
  have ap : ∀ {a b : List Str}, (∀ x ∈ a, Wok x) → (∀ x ∈ b, Wok x) → ∀ x ∈ a ++ b, Wok x := fun ha hb x hx => (List.mem_append.mp hx).elim (ha x) (hb x)
  have lt := tk_len (Nat.le_of_lt hi)
  have ld := List.length_drop (i := i) (l := ws)
  have ld1 := List.length_drop (i := i + 1) (l := ws)
  have h199 : ws.length + 1 ≤ 199 := by omega
  obtain ⟨a1, a2, a3, a4⟩ := three_of (a := ws.take i) (b := [wd]) (c := ws.drop (i + 1)) (n := ws.length + 1) (by rw [lt, ld1]; show i + 1 + _ ≤ _; omega) h199 (Nat.le_refl _)
  obtain ⟨_, b2, b3, b4⟩ := three_of (a := ws.take i) (b := [wd]) (c := ws.drop i) (n := ws.length + 1) (by rw [lt, ld]; show i + 1 + _ ≤ _; omega) h199 (Nat.le_refl _)
  obtain ⟨e1, e2, e3, e4⟩ := three_of (a := ws.take i) (b := [ws[i]]) (c := ws.drop i) (n := ws.length + 1) (by rw [lt, ld]; show i + 1 + _ ≤ _; omega) h199 (Nat.le_refl _)
  obtain ⟨f1, f2⟩ := two_of (a := ws.take i) (b := ws.drop (i + 1)) (n := ws.length + 1) (by rw [lt, ld1]; omega) h199
  have tI := gw_take (K := K) (i := i) hW6 v4
  have dI := gw_drop (K := K) (i := i) hW6 (Nat.le_of_lt hi) v4
  have dS := gw_drop (K := K) (i := i + 1) hW6 hi v5
  have wI : GetsW H6 [some (.ref t), some (.ref W), some (.ref p3), some (.str wd), some (.int i), some (.int r3)] (tLst (tCons (tVar 3) tNil)) [wd] := gw_word
  have c1 := gw_cat tI wI a1
  have last := fin (gw_cat c1 dS a2) a3 a4 (ap (ap tk w1) dr)
  refine seq_if (c := r3 = 0 ∧ 1 < ws.length) (fun R h => ?_) (fun c => fin (gw_cat tI dS f1) (nn_of (by rw [List.length_append, lt, ld1]; have := c.2; omega)) f2 (ap tk dr)) fun _ => ?_
  · walk_at "rd"
    by_cases c : r3 = 0
    · rw [if_pos c]
      refine len_of (.of hW6) ?_
      walk_at "rd"
      rw [sV_len]
      rwa [show decide (r3 = 0 ∧ 1 < ws.length) = decide ((1 : Int) < ws.length) by simp only [c, true_and]; congr 1; exact propext (by omega)] at h
    · rw [if_neg c]
      rwa [decide_eq_false (fun z => c z.1)] at h
  refine seq_if (c := r3 = 1) (fun R h => by walk_at "rd"; exact h) (fun _ => fin (gw_cat c1 dI b2) b3 b4 (ap (ap tk w1) dr)) fun _ => ?_
  have xI : GetsW H6 [some (.ref t), some (.ref W), some (.ref p3), some (.str wd), some (.int i), some (.int r3)] (tLst (tCons (tOp (rIxL K) (tVar 1) (tVar 4)) tNil)) [ws[i]] := gw_items (by simp) (fun H R S h => ⟨_, .of (S _ _ hW6), _, atI_nat (j := i) (by simp [sV, hi]), h⟩)
  refine seq_if (c := r3 = 2) (fun R h => by walk_at "rd"; exact h) (fun _ => fin (gw_cat (gw_cat tI xI e1) dI e2) e3 e4 (ap (ap tk fun x hx' => by rw [List.mem_singleton.mp hx']; exact hx) dr)) fun _ => ?_
  have tst : ∀ (z : Int) (R : Bool → Hp → Prop), R (decide (r3 = z ∧ 0 < i)) H6 → tAnd (tTest (tOp rEq (tVar 5) (tC (V.int z)))) (tTest (tOp (rI0 fun i j => V.bl (decide (j < i))) (tVar 4) (tC (V.int 0)))) [some (.ref t), some (.ref W), some (.ref p3), some (.str wd), some (.int i), some (.int r3)] H6 R := fun z R h => by
    walk_at "rd"
    by_cases c : r3 = z
    · rw [if_pos c]
      rwa [show decide (r3 = z ∧ 0 < i) = decide ((0 : Int) < i) by simp only [c, true_and]; congr 1; exact propext (by omega)] at h
    · rw [if_neg c]
      rwa [decide_eq_false (fun z => c z.1)] at h
  refine seq_if (c := r3 = 3 ∧ 0 < i) (tst 3) (fun c => ?_) fun _ => ?_
  · have hi0 := c.2
    have v6 : ∀ H R, R (.int ((i - 1 : Nat) : Int)) H → (tOp (rI0 fun i j => V.int (i - j)) (tVar 4) (tC (V.int 1))) [some (.ref t), some (.ref W), some (.ref p3), some (.str wd), some (.int i), some (.int r3)] H R := fun H R h => by
      show R (.int ((i : Int) - 1)) H
      rwa [show ((i : Int) - 1) = ((i - 1 : Nat) : Int) by omega]
    have tP := gw_take (K := K) (i := i - 1) hW6 v6
    have xJ : GetsW H6 [some (.ref t), some (.ref W), some (.ref p3), some (.str wd), some (.int i), some (.int r3)] (tLst (tCons (tOp (rIxL K) (tVar 1) (tVar 4)) (tCons (tOp (rIxL K) (tVar 1) (tOp (rI0 fun i j => V.int (i - j)) (tVar 4) (tC (V.int 1)))) tNil))) [ws[i], ws[i - 1]] := gw_items (by simp) (fun H R S h => ⟨_, .of (S _ _ hW6), _, atI_nat (j := i) (by simp [sV, hi]), _, .of (S _ _ hW6), _, by
      show atI (sV ws) ((i : Int) - 1) = _
      rw [show ((i : Int) - 1) = ((i - 1 : Nat) : Int) by omega]
      exact atI_nat (j := i - 1) (by simp [sV, show i - 1 < ws.length by omega]), h⟩)
    obtain ⟨g1, g2, g3, g4⟩ := three_of (a := ws.take (i - 1)) (b := [ws[i], ws[i - 1]]) (c := ws.drop (i + 1)) (n := ws.length + 1) (by rw [tk_len (by omega), ld1]; show i - 1 + 2 + _ ≤ _; omega) h199 (show 1 ≤ 2 by decide)
    refine fin (gw_cat (gw_cat tP xJ g1) dS g2) g3 g4 (ap (ap tk fun x hx' => ?_) dr)
    simp only [List.mem_cons, List.not_mem_nil, or_false] at hx'
    rcases hx' with rfl | rfl
    · exact hx
    · exact hok _ (List.getElem_mem (by omega))
  refine seq_if (c := r3 = 4 ∧ 0 < i) (tst 4) (fun c => fin tI (nn_of (by rw [lt]; exact c.2)) (by rw [lt]; omega) tk) fun _ => ?_
  refine seq_if (c := r3 = 5) (fun R h => by walk_at "rd"; exact h) (fun _ => ?_) fun _ => last
  · walk_at "rd"
    refine ⟨small6 (by simp), fun p7 hp7 => cat_of (same_new hp7 _ _ _ hW6) upd_same (smallA (by rw [sV_len]; simp; omega)) fun p8 hp8 => ⟨small6 (by simp), fun p9 hp9 => ?_⟩⟩
    have S7 := same_new hp7 (.lst [V.str wd])
    have S8 := S7.trans (same_new hp8 (.lst (sV ws ++ [V.str wd])))
    have h8 : (upd (upd H6 p7 (.lst [V.str wd])) p8 (.lst (sV ws ++ [V.str wd]))) p8 = some (.lst (sV (ws ++ [wd]))) := by rw [upd_same]; exact congrArg (fun z => some (HO.lst z)) (sV_app ws [wd])
    have n8' : p8 ≠ t := (C6.new hp7 (.lst [V.str wd])).ne hp8
    have C8 : Cur K ns t H _ := (C6.new hp7 (.lst [V.str wd])).new hp8 (.lst (sV ws ++ [V.str wd]))
    generalize upd (upd H6 p7 (.lst [V.str wd])) p8 (.lst (sV ws ++ [V.str wd])) = H8 at S8 h8 C8 hp9 ⊢
    have S9 := same_new hp9 (.lst [V.str wd])
    refine cat_of upd_same (S9 _ _ (S8 _ _ hW6)) (smallA (by rw [sV_len]; simp; omega)) fun p10 hp10 => ⟨small6 (by simp), fun p11 hp11 => ?_⟩
    have S10 := S9.trans (same_new hp10 (.lst ([V.str wd] ++ sV ws)))
    have h10 : (upd (upd H8 p9 (.lst [V.str wd])) p10 (.lst ([V.str wd] ++ sV ws))) p10 = some (.lst (sV ([wd] ++ ws))) := by rw [upd_same]; exact congrArg (fun z => some (HO.lst z)) (sV_app [wd] ws)
    have n10' : p10 ≠ t := (C8.new hp9 (.lst [V.str wd])).ne hp10
    have C10 : Cur K ns t H _ := (C8.new hp9 (.lst [V.str wd])).new hp10 (.lst ([V.str wd] ++ sV ws))
    generalize upd (upd H8 p9 (.lst [V.str wd])) p10 (.lst ([V.str wd] ++ sV ws)) = H10 at S10 h10 C10 hp11 ⊢
    have C11 := C10.new hp11 (.lst [V.ref p8, V.ref p10])
    have S11 := same_new hp11 (.lst [V.ref p8, V.ref p10])
    have n11 : p11 ≠ t := C10.ne hp11
    have n8 : p8 ≠ t := n8'
    have n10 : p10 ≠ t := n10'
    have h11 : (upd H10 p11 (.lst [V.ref p8, V.ref p10])) p11 = some (.lst [V.ref p8, V.ref p10]) := upd_same
    have a8 := S11 _ _ (S10 _ _ h8)
    have a10 := S11 _ _ h10
    generalize upd H10 p11 (.lst [V.ref p8, V.ref p10]) = H11 at C11 h11 a8 a10 ⊢
    refine draw_of C11.tape fun r4 H12 r40 r41 c12 => ?_
    have b11 := c12.ext _ _ (fun e => absurd e n11) h11
    have cr : r4 = 0 ∨ r4 = 1 := by omega
    rcases cr with rfl | rfl
    · refine ⟨_, .of b11, _, atI_nat (j := 0) rfl, q _ _ _ (C11.then c12) (c12.ext _ _ (fun e => absurd e n8) a8) (by simp) (by simp) (ap hok w1)⟩
    · refine ⟨_, .of b11, _, atI_nat (j := 1) rfl, q _ _ _ (C11.then c12) (c12.ext _ _ (fun e => absurd e n10) a10) (by simp) (by simp) (ap w1 hok)⟩
end
end My
namespace My
open PySem L2 M
section
def spNum4 : Sp := fun vs H Q _ => ∃ x, vs = [.str x] ∧ Wok x ∧ Q (.int (wNS x)) H
end
section
variable {P : Program} {w : World} {K : PySem.W.Frag} {mg : Str → Option Value} {base : Heap} {ns : List Int} {k : Nat}
theorem has_dig : ∀ c, c < 128 → Txt.contains (Str.ofString "0123456789") (sgn c) = dig c := all128 (by decide +kernel)
theorem ok_law_number4 (F : Df K mg "_law_number" s_law_number ["_law_word"]) (m_len : mg "len" = none) (m_int : mg "int" = none) : Dn P w K mg base (k + 1) "_law_number" ["_law_word"] spNum4 := by
  refine F.ok sc_law_number (fun vs H Q E h => ?_) (fun f cdv A outer s H vs Q E hr h => ?_)
  · obtain ⟨x, rfl, _⟩ := h; rfl
  obtain ⟨x, rfl, ⟨hx20, _, hasc⟩, q⟩ := h
  refine ⟨_, [some _, none], 
      (@pss_cons _ _ _ _ _ (@ps_if _ _ _ _ _ _ _ _ (@PW.pt _ _ _ (@pw_or _ _ _ _ _ _ _ (@pt_cmpR _ _ _ _ _ _ _ _ op_eq (@pe_callBu _ _ _ _ _ _ _ _ _ call_len_str rfl m_len PySem.boot_len (@pa_u _ _ _ _ _ (@pv _ 0 _ _ (by rfl) (by first | exact Or.inl rfl | exact Or.inr (Or.inl rfl) | exact Or.inr (Or.inr rfl)) (by decide) (by decide)) (@pa_nil _) (by rfl)) (by rfl) (by decide) (by decide)) (@pe_int _ _ _ _) (nomark _)) (@pw_or1 _ _ _ _ (@pt_cmpR _ _ _ _ _ _ _ _ op_gt (@pe_callBu _ _ _ _ _ _ _ _ _ call_len_str rfl m_len PySem.boot_len (@pa_u _ _ _ _ _ (@pv _ 0 _ _ (by rfl) (by first | exact Or.inl rfl | exact Or.inr (Or.inl rfl) | exact Or.inr (Or.inr rfl)) (by decide) (by decide)) (@pa_nil _) (by rfl)) (by rfl) (by decide) (by decide)) (@pe_int _ _ _ _) (nomark _))))) (@pss_one _ _ _ (@ps_ret _ _ _ _ (@pe_int _ _ _ _))) (@pss_nil _)) 
      (@pss_cons _ _ _ _ _ (@ps_for _ _ _ _ _ _ _ _ PassesOwn.never rfl (@pi_str _ _ _ _ (@pv _ 0 _ _ (by rfl) (by first | exact Or.inl rfl | exact Or.inr (Or.inl rfl) | exact Or.inr (Or.inr rfl)) (by decide) (by decide))) (@pg_name _ _ 1 _ sc_law_number.nd rfl (Or.inl rfl) (by first | exact .inl rfl | exact .inr rfl | assumption)) (@pss_one _ _ _ (@ps_if _ _ _ _ _ _ _ _ (@pt_cmpR _ _ _ _ _ _ _ _ op_notInT (@pv _ 1 _ _ (by rfl) (by first | exact Or.inl rfl | exact Or.inr (Or.inl rfl) | exact Or.inr (Or.inr rfl)) (by decide) (by decide)) (@pe_str _ _ _ _) rfl) (@pss_one _ _ _ (@ps_ret _ _ _ _ (@pe_int _ _ _ _))) (@pss_nil _))) (by intro _; rfl)) (@pss_one _ _ _ (@ps_ret _ _ _ _ (@pe_ifExp _ _ _ _ _ _ _ _ (@pt_cmpR _ _ _ _ _ _ _ _ op_eq (@pe_ix _ _ _ _ _ _ _ ix_str (@pv _ 0 _ _ (by rfl) (by first | exact Or.inl rfl | exact Or.inr (Or.inl rfl) | exact Or.inr (Or.inr rfl)) (by decide) (by decide)) (@pe_int _ _ _ _) (fun _ _ => rfl)) (@pe_str _ _ _ _) (nomark _)) (@pe_int _ _ _ _) (@pe_callTu _ _ _ _ _ _ _ _ _ call_intT rfl m_int bt_int (@pa_u _ _ _ _ _ (@pv _ 0 _ _ (by rfl) (by first | exact Or.inl rfl | exact Or.inr (Or.inl rfl) | exact Or.inr (Or.inr rfl)) (by decide) (by decide)) (@pa_nil _) (by rfl)) (by rfl) (by decide) (by decide))))))), rfl, ?_⟩
  walk_at "cl"
  have hxl := len_toList x
  have hsz : x.length ≤ sizeLine := Nat.le_of_lt (small1000 (by omega))
  have no : wNS x = 0 → Q (.int 0) H := fun e => by rw [e] at q; exact q
  walk_at "st"
  refine ⟨_, rfl, hsz, ?_⟩
  walk_at "rd"
  have zero : ∀ {P : Prop}, (wNS x ≠ 0 → False) → wNS x = 0 := fun h => Classical.byContradiction h
  by_cases c0 : x.length = 0
  · rw [if_pos (by omega)]
    exact no (zero (P := True) fun e => by have := (wN_dig (l := x.cps.toList) e).1; omega)
  rw [if_neg (by omega)]
  refine ⟨_, rfl, hsz, ?_⟩
  by_cases c2 : 2 < x.length
  · rw [if_pos (by omega)]
    exact no (zero (P := True) fun e => by have := (wN_dig (l := x.cps.toList) e).1; omega)
  rw [if_neg (by omega)]
  walk_at "st"
  refine ⟨?_, str_of (fun i σ' H' => ∃ y, σ' = [some (.str x), y] ∧ H' = H ∧ ∀ j, j < i → ∀ c, x.cps.toList[j]? = some c → dig c = true) ⟨none, rfl, rfl, (fun j hj => absurd hj (by omega))⟩ ?_ ?_⟩
  · rw [Array.all_eq_true_iff_forall_mem]
    intro c hc
    exact decide_eq_true (hasc c (by simpa using hc))
  · rintro Pw hP i c σ' Hx hc ⟨y, rfl, eHx, hd⟩
    rw [eHx]; clear eHx Hx
    walk_at "rd"
    have hcm : c ∈ x.cps.toList := List.mem_of_getElem? hc
    rw [has_dig c (hasc c hcm)]
    cases hdc : dig c with
    | false =>
      walk_at "rd"
      exact no (zero (P := True) fun e => by have := (wN_dig (l := x.cps.toList) e).2.1 c hcm; rw [hdc] at this; cases this)
    | true =>
      walk_at "rd"
      refine hP _ _ _ ⟨_, rfl, rfl, fun j hj c' hc' => ?_⟩
      by_cases e : j = i
      · subst e; rw [hc] at hc'; cases hc'; exact hdc
      · exact hd j (by omega) c' hc'
  · rintro σ' Hx ⟨y, rfl, eHx, hd⟩
    rw [eHx]; clear eHx Hx
    have hall : ∀ c ∈ x.cps.toList, dig c = true := fun c hc => by
      obtain ⟨j, hj, e⟩ := List.getElem_of_mem hc
      exact hd j (by simpa using hj) c (by rw [← e]; exact List.getElem?_eq_getElem hj)
    have hl0 : 0 < x.cps.toList.length := by omega
    have h0 : x.cps.toList[0]? = some x.cps.toList[0] := List.getElem?_eq_getElem hl0
    have e0 : (Str.ofString "0") = ⟨#[48]⟩ := by decide +kernel
    walk_at "rd"
    refine ⟨x.cps.toList[0], hsz, atI_nat (j := 0) h0, ?_⟩
    by_cases c4 : x.cps.toList[0] = 48
    · rw [if_pos (by rw [e0, c4])]
      exact no (zero (P := True) fun e => (wN_dig (l := x.cps.toList) e).2.2 (by rw [h0, c4]))
    · rw [if_neg (by rw [e0]; intro z; simp at z; exact c4 z)]
      have hnz : wNS x ≠ 0 := dig_wN (l := x.cps.toList) (by omega) hall (by rw [h0]; simpa using c4)
      have hnum := wN_num hnz
      have h99 := wN_le x.cps.toList
      have hint : PySem.intText? x = some ((wNS x : Nat) : Int) := by
        have := num_int (i := (wNS x : Nat)) (by omega) (by unfold wNS; omega)
        rwa [← hnum] at this
      exact ⟨x, (wNS x : Nat), rfl, hint, by omega, q⟩
end
section
variable (K : PySem.W.Frag)
def spLRead (n : Nat) : Sp := fun vs H Q _ => ∃ W ws, ∃ room sp m : Nat, vs = [.ref W, .int sp, .int (4 - (room : Int)), .int m] ∧ room < n ∧ room ≤ 4 ∧ H W = some (.lst (sV ws)) ∧ (∀ x ∈ ws, Wok x) ∧ ws.length ≤ 300 ∧ (match rdP ws room sp m with
  | .bad b => ∀ a H', Same H H' → SqT K H' a [.str "bad", .int b, .int 0] → Q (.ref a) H'
  | .ok rl sp' m' => ∀ a r H', Same H H' → RlV K H' rl r → SqT K H' a [r, .int sp', .int m'] → Q (.ref a) H')
end
section
variable {P : Program} {w : World} {K : PySem.W.Frag} {mg : Str → Option Value} {base : Heap} {ns : List Int} {k : Nat}
theorem bad_of {H : Hp} {Q : VK} {b : Nat} {i : Int} (e : i = b) (q : ∀ a H', Same H H' → SqT K H' a [.str "bad", .int b, .int 0] → Q (.ref a) H') : [V.str (Str.ofString "bad"), V.int i, V.int 0].length ≤ sizeLine ∧ ∀ p, H p = none → Q (.ref p) (upd H p (.tup [V.str (Str.ofString "bad"), V.int i, V.int 0])) := by
  subst e
  exact ⟨small6 (by simp), fun p hp => q p _ (same_new hp _) (.of upd_same)⟩
theorem unit_made {H : Hp} {Q : VK} {pn : Addr} {a b s m' : Int} {cap : Option Int} {i : Rl} {l : Option Rl} {iv lv : V} (hpn : H pn = some (.tup [V.int a, V.int b])) (hiv : RlV K H i iv) (hlv : LastV K H l lv) (hcl : cap = none → l = none)
    (q : ∀ p r H', Same H H' → RlV K H' (mkU a b cap i l) r → SqT K H' p [r, .int s, .int m'] → Q (.ref p) H') : [V.str (Str.ofString "unit")].length ≤ sizeLine ∧ ∀ p, H p = none → rCatA K (.ref p) (.ref pn) (upd H p (.tup [V.str (Str.ofString "unit")])) fun x H1 => [optI cap, iv, lv].length ≤ sizeLine ∧ ∀ p2, H1 p2 = none →
      rCatA K x (.ref p2) (upd H1 p2 (.tup [optI cap, iv, lv])) fun y H2 => [y, V.int s, V.int m'].length ≤ sizeLine ∧ ∀ p3, H2 p3 = none → Q (.ref p3) (upd H2 p3 (.tup [y, V.int s, V.int m'])) := by
  refine ⟨small6 (by simp), fun p hp => ?_⟩
  have S1 := same_new hp (.tup [V.str (Str.ofString "unit")])
  refine ⟨p, pn, _, _, rfl, rfl, .of upd_same, .of (S1 _ _ hpn), smallA (by simp), fun p1 H1 S1' h1 => ⟨small6 (by simp), fun p2 hp2 => ?_⟩⟩
  have S2 := same_new hp2 (.tup [optI cap, iv, lv])
  refine ⟨p1, p2, _, _, rfl, rfl, Same.sqT h1 S2, .of upd_same, smallA (by simp), fun p3 H3 S3 h3 => ⟨small6 (by simp), fun p4 hp4 => ?_⟩⟩
  have S4 := same_new hp4 (.tup [V.ref p3, V.int s, V.int m'])
  have SS := (((S1.trans S1').trans S2).trans S3).trans S4
  refine q p4 (.ref p3) _ SS ?_ (.of upd_same)
  unfold RlV
  rw [enc_mkU hcl]
  refine .tup (Same.sqT h3 S4) (.cons (dstr "unit") (.cons (.int _) (.cons (.int _) (.cons (dt_cap cap) (.cons (hiv.same SS) (.cons ?_ .nil))))))
  cases l with
  | none => rw [hlv.no]; exact .non
  | some l => exact RlV.same (show RlV K H l lv from hlv) SS
theorem enc_bad (r : Rl) : PyData.eqv (enc r) (.str "bad") = false := by cases r <;> rfl
theorem seq_n {a rest : TS} {D : Ends} {σ : St} {H : Hp} (h : ∀ N : St → Hp → Prop, (∀ σ' H', rest D σ' H' → N σ' H') → a { D with nx := N } σ H) : tSeq a rest D σ H := h (rest D) fun _ _ z => z
theorem ok_law_read {n : Nat} (F : Df K mg "_law_read" s_law_read ["_law_words_here", "_law_at", "_law_deep", "_law_many"]) (m_len : mg "len" = none) (d_law_number : Dn P w K mg base k "_law_number" ["_law_word"] spNum4) (d_law_read : Dn P w K mg base k "_law_read" ["_law_words_here", "_law_at", "_law_deep", "_law_many"] (spLRead K n)) : Dn P w K mg base (k + 1) "_law_read" ["_law_words_here", "_law_at", "_law_deep", "_law_many"] (spLRead K (n + 1)) := by
  refine F.ok sc_law_read (fun vs H Q E h => ?_) (fun f cdv A outer s H vs Q E hr h => ?_)
  · obtain ⟨W, ws, room, sp, m, rfl, _⟩ := h; rfl
  obtain ⟨W, ws, room, sp, m, rfl, hn, h4, hW, hok, hl300, q⟩ := h
  refine ⟨_, [some _, some _, some _, some _, none, none, none, none, none, none], 
      (@pss_cons _ _ _ _ _ (@ps_if _ _ _ _ _ _ _ _ (@pt_cmpR _ _ _ _ _ _ _ _ op_ge (@pv _ 1 _ _ (by rfl) (by first | exact Or.inl rfl | exact Or.inr (Or.inl rfl) | exact Or.inr (Or.inr rfl)) (by decide) (by decide)) (@pe_callBu _ _ _ _ _ _ _ _ _ call_lenS rfl m_len PySem.boot_len (@pa_u _ _ _ _ _ (@pv _ 0 _ _ (by rfl) (by first | exact Or.inl rfl | exact Or.inr (Or.inl rfl) | exact Or.inr (Or.inr rfl)) (by decide) (by decide)) (@pa_nil _) (by rfl)) (by rfl) (by decide) (by decide)) (nomark _)) (@pss_one _ _ _ (@ps_ret _ _ _ _ (@pe_tup _ _ _ _ _ (@pa_u _ _ _ _ _ (@pe_str _ _ _ _) (@pa_u _ _ _ _ _ (@pe_callBu _ _ _ _ _ _ _ _ _ call_lenS rfl m_len PySem.boot_len (@pa_u _ _ _ _ _ (@pv _ 0 _ _ (by rfl) (by first | exact Or.inl rfl | exact Or.inr (Or.inl rfl) | exact Or.inr (Or.inr rfl)) (by decide) (by decide)) (@pa_nil _) (by rfl)) (by rfl) (by decide) (by decide)) (@pa_u _ _ _ _ _ (@pe_int _ _ _ _) (@pa_nil _) (by rfl)) (by rfl)) (by rfl))))) (@pss_nil _)) 
      (@pss_cons _ _ _ _ _ (@ps_if _ _ _ _ _ _ _ _ (@pt_cmpR _ _ _ _ _ _ _ _ op_eq (@pe_ix _ _ _ _ _ _ _ ix_list (@pv _ 0 _ _ (by rfl) (by first | exact Or.inl rfl | exact Or.inr (Or.inl rfl) | exact Or.inr (Or.inr rfl)) (by decide) (by decide)) (@pv _ 1 _ _ (by rfl) (by first | exact Or.inl rfl | exact Or.inr (Or.inl rfl) | exact Or.inr (Or.inr rfl)) (by decide) (by decide)) (fun _ _ => rfl)) (@pe_str _ _ _ _) (nomark _)) (@pss_one _ _ _ (@ps_ret _ _ _ _ (@pe_tup _ _ _ _ _ (@pa_u _ _ _ _ _ (@pe_tup _ _ _ _ _ (@pa_u _ _ _ _ _ (@pe_str _ _ _ _) (@pa_nil _) (by rfl))) (@pa_u _ _ _ _ _ (@pe_op _ _ _ _ _ _ _ _ op_add (@pv _ 1 _ _ (by rfl) (by first | exact Or.inl rfl | exact Or.inr (Or.inl rfl) | exact Or.inr (Or.inr rfl)) (by decide) (by decide)) (@pe_int _ _ _ _)) (@pa_u _ _ _ _ _ (@pv _ 3 _ _ (by rfl) (by first | exact Or.inl rfl | exact Or.inr (Or.inl rfl) | exact Or.inr (Or.inr rfl)) (by decide) (by decide)) (@pa_nil _) (by rfl)) (by rfl)) (by rfl))))) (@pss_nil _)) 
      (@pss_cons _ _ _ _ _ (@ps_if _ _ _ _ _ _ _ _ (@PW.pt _ _ _ (@pw_or _ _ _ _ _ _ _ (@pt_cmpR _ _ _ _ _ _ _ _ op_ne (@pe_ix _ _ _ _ _ _ _ ix_list (@pv _ 0 _ _ (by rfl) (by first | exact Or.inl rfl | exact Or.inr (Or.inl rfl) | exact Or.inr (Or.inr rfl)) (by decide) (by decide)) (@pv _ 1 _ _ (by rfl) (by first | exact Or.inl rfl | exact Or.inr (Or.inl rfl) | exact Or.inr (Or.inr rfl)) (by decide) (by decide)) (fun _ _ => rfl)) (@pe_str _ _ _ _) (nomark _)) (@pw_or _ _ _ _ _ _ _ (@pt_cmpR _ _ _ _ _ _ _ _ op_eq (@pv _ 2 _ _ (by rfl) (by first | exact Or.inl rfl | exact Or.inr (Or.inl rfl) | exact Or.inr (Or.inr rfl)) (by decide) (by decide)) (@pe_int _ _ _ _) (nomark _)) (@pw_or1 _ _ _ _ (@pt_cmpR _ _ _ _ _ _ _ _ op_eq (@pv _ 3 _ _ (by rfl) (by first | exact Or.inl rfl | exact Or.inr (Or.inl rfl) | exact Or.inr (Or.inr rfl)) (by decide) (by decide)) (@pe_int _ _ _ _) (nomark _)))))) (@pss_one _ _ _ (@ps_ret _ _ _ _ (@pe_tup _ _ _ _ _ (@pa_u _ _ _ _ _ (@pe_str _ _ _ _) (@pa_u _ _ _ _ _ (@pv _ 1 _ _ (by rfl) (by first | exact Or.inl rfl | exact Or.inr (Or.inl rfl) | exact Or.inr (Or.inr rfl)) (by decide) (by decide)) (@pa_u _ _ _ _ _ (@pe_int _ _ _ _) (@pa_nil _) (by rfl)) (by rfl)) (by rfl))))) (@pss_nil _)) 
      (@pss_cons _ _ _ _ _ (@ps_for _ _ _ _ _ _ _ _ PassesOwn.never rfl (@pi_list _ _ _ _ (@pe_lst _ _ _ _ (@pa_u _ _ _ _ _ (@pe_int _ _ _ _) (@pa_u _ _ _ _ _ (@pe_int _ _ _ _) (@pa_nil _) (by rfl)) (by rfl)))) (@pg_name _ _ 4 _ sc_law_read.nd rfl (Or.inl rfl) (by first | exact .inl rfl | exact .inr rfl | assumption)) 
      (@pss_cons _ _ _ _ _ (@ps_if _ _ _ _ _ _ _ _ (@pt_cmpR _ _ _ _ _ _ _ _ op_ge (@pe_op _ _ _ _ _ _ _ _ op_add (@pv _ 1 _ _ (by rfl) (by first | exact Or.inl rfl | exact Or.inr (Or.inl rfl) | exact Or.inr (Or.inr rfl)) (by decide) (by decide)) (@pv _ 4 _ _ (by rfl) (by first | exact Or.inl rfl | exact Or.inr (Or.inl rfl) | exact Or.inr (Or.inr rfl)) (by decide) (by decide))) (@pe_callBu _ _ _ _ _ _ _ _ _ call_lenS rfl m_len PySem.boot_len (@pa_u _ _ _ _ _ (@pv _ 0 _ _ (by rfl) (by first | exact Or.inl rfl | exact Or.inr (Or.inl rfl) | exact Or.inr (Or.inr rfl)) (by decide) (by decide)) (@pa_nil _) (by rfl)) (by rfl) (by decide) (by decide)) (nomark _)) (@pss_one _ _ _ (@ps_ret _ _ _ _ (@pe_tup _ _ _ _ _ (@pa_u _ _ _ _ _ (@pe_str _ _ _ _) (@pa_u _ _ _ _ _ (@pe_callBu _ _ _ _ _ _ _ _ _ call_lenS rfl m_len PySem.boot_len (@pa_u _ _ _ _ _ (@pv _ 0 _ _ (by rfl) (by first | exact Or.inl rfl | exact Or.inr (Or.inl rfl) | exact Or.inr (Or.inr rfl)) (by decide) (by decide)) (@pa_nil _) (by rfl)) (by rfl) (by decide) (by decide)) (@pa_u _ _ _ _ _ (@pe_int _ _ _ _) (@pa_nil _) (by rfl)) (by rfl)) (by rfl))))) (@pss_nil _)) (@pss_one _ _ _ (@ps_if _ _ _ _ _ _ _ _ (@pt_cmpR _ _ _ _ _ _ _ _ op_eq (@pe_callD _ _ _ _ _ _ _ _ _ _ d_law_number hr rfl (@pa_u _ _ _ _ _ (@pe_ix _ _ _ _ _ _ _ ix_list (@pv _ 0 _ _ (by rfl) (by first | exact Or.inl rfl | exact Or.inr (Or.inl rfl) | exact Or.inr (Or.inr rfl)) (by decide) (by decide)) (@pe_op _ _ _ _ _ _ _ _ op_add (@pv _ 1 _ _ (by rfl) (by first | exact Or.inl rfl | exact Or.inr (Or.inl rfl) | exact Or.inr (Or.inr rfl)) (by decide) (by decide)) (@pv _ 4 _ _ (by rfl) (by first | exact Or.inl rfl | exact Or.inr (Or.inl rfl) | exact Or.inr (Or.inr rfl)) (by decide) (by decide))) (fun _ _ => rfl)) (@pa_nil _) (by rfl)) (by rfl) (by decide)) (@pe_int _ _ _ _) (nomark _)) (@pss_one _ _ _ (@ps_ret _ _ _ _ (@pe_tup _ _ _ _ _ (@pa_u _ _ _ _ _ (@pe_str _ _ _ _) (@pa_u _ _ _ _ _ (@pe_op _ _ _ _ _ _ _ _ op_add (@pv _ 1 _ _ (by rfl) (by first | exact Or.inl rfl | exact Or.inr (Or.inl rfl) | exact Or.inr (Or.inr rfl)) (by decide) (by decide)) (@pv _ 4 _ _ (by rfl) (by first | exact Or.inl rfl | exact Or.inr (Or.inl rfl) | exact Or.inr (Or.inr rfl)) (by decide) (by decide))) (@pa_u _ _ _ _ _ (@pe_int _ _ _ _) (@pa_nil _) (by rfl)) (by rfl)) (by rfl))))) (@pss_nil _)))) (by intro _; rfl)) 
      (@pss_cons _ _ _ _ _ (@ps_set _ _ 5 _ _ _ _ sc_law_read.nd rfl (Or.inl rfl) (@pe_tup _ _ _ _ _ (@pa_u _ _ _ _ _ (@pe_callD _ _ _ _ _ _ _ _ _ _ d_law_number hr rfl (@pa_u _ _ _ _ _ (@pe_ix _ _ _ _ _ _ _ ix_list (@pv _ 0 _ _ (by rfl) (by first | exact Or.inl rfl | exact Or.inr (Or.inl rfl) | exact Or.inr (Or.inr rfl)) (by decide) (by decide)) (@pe_op _ _ _ _ _ _ _ _ op_add (@pv _ 1 _ _ (by rfl) (by first | exact Or.inl rfl | exact Or.inr (Or.inl rfl) | exact Or.inr (Or.inr rfl)) (by decide) (by decide)) (@pe_int _ _ _ _)) (fun _ _ => rfl)) (@pa_nil _) (by rfl)) (by rfl) (by decide)) (@pa_u _ _ _ _ _ (@pe_callD _ _ _ _ _ _ _ _ _ _ d_law_number hr rfl (@pa_u _ _ _ _ _ (@pe_ix _ _ _ _ _ _ _ ix_list (@pv _ 0 _ _ (by rfl) (by first | exact Or.inl rfl | exact Or.inr (Or.inl rfl) | exact Or.inr (Or.inr rfl)) (by decide) (by decide)) (@pe_op _ _ _ _ _ _ _ _ op_add (@pv _ 1 _ _ (by rfl) (by first | exact Or.inl rfl | exact Or.inr (Or.inl rfl) | exact Or.inr (Or.inr rfl)) (by decide) (by decide)) (@pe_int _ _ _ _)) (fun _ _ => rfl)) (@pa_nil _) (by rfl)) (by rfl) (by decide)) (@pa_nil _) (by rfl)) (by rfl))) (by rfl) (by first | exact .inl rfl | exact .inr rfl | assumption)) 
      (@pss_cons _ _ _ _ _ (@ps_if _ _ _ _ _ _ _ _ (@pt_cmpR _ _ _ _ _ _ _ _ op_ge (@pe_op _ _ _ _ _ _ _ _ op_add (@pv _ 1 _ _ (by rfl) (by first | exact Or.inl rfl | exact Or.inr (Or.inl rfl) | exact Or.inr (Or.inr rfl)) (by decide) (by decide)) (@pe_int _ _ _ _)) (@pe_callBu _ _ _ _ _ _ _ _ _ call_lenS rfl m_len PySem.boot_len (@pa_u _ _ _ _ _ (@pv _ 0 _ _ (by rfl) (by first | exact Or.inl rfl | exact Or.inr (Or.inl rfl) | exact Or.inr (Or.inr rfl)) (by decide) (by decide)) (@pa_nil _) (by rfl)) (by rfl) (by decide) (by decide)) (nomark _)) (@pss_one _ _ _ (@ps_ret _ _ _ _ (@pe_tup _ _ _ _ _ (@pa_u _ _ _ _ _ (@pe_str _ _ _ _) (@pa_u _ _ _ _ _ (@pe_callBu _ _ _ _ _ _ _ _ _ call_lenS rfl m_len PySem.boot_len (@pa_u _ _ _ _ _ (@pv _ 0 _ _ (by rfl) (by first | exact Or.inl rfl | exact Or.inr (Or.inl rfl) | exact Or.inr (Or.inr rfl)) (by decide) (by decide)) (@pa_nil _) (by rfl)) (by rfl) (by decide) (by decide)) (@pa_u _ _ _ _ _ (@pe_int _ _ _ _) (@pa_nil _) (by rfl)) (by rfl)) (by rfl))))) (@pss_nil _)) 
      (@pss_cons _ _ _ _ _ (@ps_set _ _ 6 _ _ _ _ sc_law_read.nd rfl (Or.inl rfl) (@pe_non _ _ _) (by rfl) (by first | exact .inl rfl | exact .inr rfl | assumption)) 
      (@pss_cut _ _ _ _ _ (@ps_if _ _ _ _ _ _ _ _ (@pt_cmpR _ _ _ _ _ _ _ _ op_ne (@pe_ix _ _ _ _ _ _ _ ix_list (@pv _ 0 _ _ (by rfl) (by first | exact Or.inl rfl | exact Or.inr (Or.inl rfl) | exact Or.inr (Or.inr rfl)) (by decide) (by decide)) (@pe_op _ _ _ _ _ _ _ _ op_add (@pv _ 1 _ _ (by rfl) (by first | exact Or.inl rfl | exact Or.inr (Or.inl rfl) | exact Or.inr (Or.inr rfl)) (by decide) (by decide)) (@pe_int _ _ _ _)) (fun _ _ => rfl)) (@pe_str _ _ _ _) (nomark _)) 
      (@pss_cons _ _ _ _ _ (@ps_set _ _ 6 _ _ _ _ sc_law_read.nd rfl (Or.inl rfl) (@pe_callD _ _ _ _ _ _ _ _ _ _ d_law_number hr rfl (@pa_u _ _ _ _ _ (@pe_ix _ _ _ _ _ _ _ ix_list (@pv _ 0 _ _ (by rfl) (by first | exact Or.inl rfl | exact Or.inr (Or.inl rfl) | exact Or.inr (Or.inr rfl)) (by decide) (by decide)) (@pe_op _ _ _ _ _ _ _ _ op_add (@pv _ 1 _ _ (by rfl) (by first | exact Or.inl rfl | exact Or.inr (Or.inl rfl) | exact Or.inr (Or.inr rfl)) (by decide) (by decide)) (@pe_int _ _ _ _)) (fun _ _ => rfl)) (@pa_nil _) (by rfl)) (by rfl) (by decide)) (by rfl) (by first | exact .inl rfl | exact .inr rfl | assumption)) (@pss_one _ _ _ (@ps_if _ _ _ _ _ _ _ _ (@pt_cmpR _ _ _ _ _ _ _ _ op_lt (@pv _ 6 _ _ (by rfl) (by first | exact Or.inl rfl | exact Or.inr (Or.inl rfl) | exact Or.inr (Or.inr rfl)) (by decide) (by decide)) (@pe_ix _ _ _ _ _ _ _ ix_tup (@pv _ 5 _ _ (by rfl) (by first | exact Or.inl rfl | exact Or.inr (Or.inl rfl) | exact Or.inr (Or.inr rfl)) (by decide) (by decide)) (@pe_int _ _ _ _) (fun _ _ => rfl)) (nomark _)) (@pss_one _ _ _ (@ps_ret _ _ _ _ (@pe_tup _ _ _ _ _ (@pa_u _ _ _ _ _ (@pe_str _ _ _ _) (@pa_u _ _ _ _ _ (@pe_op _ _ _ _ _ _ _ _ op_add (@pv _ 1 _ _ (by rfl) (by first | exact Or.inl rfl | exact Or.inr (Or.inl rfl) | exact Or.inr (Or.inr rfl)) (by decide) (by decide)) (@pe_int _ _ _ _)) (@pa_u _ _ _ _ _ (@pe_int _ _ _ _) (@pa_nil _) (by rfl)) (by rfl)) (by rfl))))) (@pss_nil _)))) (@pss_nil _)) 
      (@pss_cons _ _ _ _ _ (@ps_asg _ _ _ _ _ _ (@pe_callD _ _ _ _ _ _ _ _ _ _ d_law_read hr rfl (@pa_u _ _ _ _ _ (@pv _ 0 _ _ (by rfl) (by first | exact Or.inl rfl | exact Or.inr (Or.inl rfl) | exact Or.inr (Or.inr rfl)) (by decide) (by decide)) (@pa_u _ _ _ _ _ (@pe_op _ _ _ _ _ _ _ _ op_add (@pv _ 1 _ _ (by rfl) (by first | exact Or.inl rfl | exact Or.inr (Or.inl rfl) | exact Or.inr (Or.inr rfl)) (by decide) (by decide)) (@pe_int _ _ _ _)) (@pa_u _ _ _ _ _ (@pe_op _ _ _ _ _ _ _ _ op_add (@pv _ 2 _ _ (by rfl) (by first | exact Or.inl rfl | exact Or.inr (Or.inl rfl) | exact Or.inr (Or.inr rfl)) (by decide) (by decide)) (@pe_int _ _ _ _)) (@pa_u _ _ _ _ _ (@pe_op _ _ _ _ _ _ _ _ op_add (@pv _ 3 _ _ (by rfl) (by first | exact Or.inl rfl | exact Or.inr (Or.inl rfl) | exact Or.inr (Or.inr rfl)) (by decide) (by decide)) (@pe_int _ _ _ _)) (@pa_nil _) (by rfl)) (by rfl)) (by rfl)) (by rfl)) (by rfl) (by decide)) (@pg_tup _ _ _ _ _ _ rfl (@pgs_cons _ _ _ _ _ (@pg_name _ _ 7 _ sc_law_read.nd rfl (Or.inl rfl) (by first | exact .inl rfl | exact .inr rfl | assumption)) (@pgs_cons _ _ _ _ _ (@pg_name _ _ 8 _ sc_law_read.nd rfl (Or.inl rfl) (by first | exact .inl rfl | exact .inr rfl | assumption)) (@pgs_cons _ _ _ _ _ (@pg_name _ _ 3 _ sc_law_read.nd rfl (Or.inl rfl) (by first | exact .inl rfl | exact .inr rfl | assumption)) (@pgs_nil _) (by rfl)) (by rfl)) (by rfl)) (by rfl) (by rfl)) (by rfl) (by rfl) (by rfl)) 
      (@pss_cons _ _ _ _ _ (@ps_if _ _ _ _ _ _ _ _ (@pt_cmpR _ _ _ _ _ _ _ _ (op_eqD hr) (@pv _ 7 _ _ (by rfl) (by first | exact Or.inl rfl | exact Or.inr (Or.inl rfl) | exact Or.inr (Or.inr rfl)) (by decide) (by decide)) (@pe_str _ _ _ _) (nomark _)) (@pss_one _ _ _ (@ps_ret _ _ _ _ (@pe_tup _ _ _ _ _ (@pa_u _ _ _ _ _ (@pv _ 7 _ _ (by rfl) (by first | exact Or.inl rfl | exact Or.inr (Or.inl rfl) | exact Or.inr (Or.inr rfl)) (by decide) (by decide)) (@pa_u _ _ _ _ _ (@pv _ 8 _ _ (by rfl) (by first | exact Or.inl rfl | exact Or.inr (Or.inl rfl) | exact Or.inr (Or.inr rfl)) (by decide) (by decide)) (@pa_u _ _ _ _ _ (@pe_int _ _ _ _) (@pa_nil _) (by rfl)) (by rfl)) (by rfl))))) (@pss_nil _)) 
      (@pss_cons _ _ _ _ _ (@ps_if _ _ _ _ _ _ _ _ (@pt_cmpR _ _ _ _ _ _ _ _ op_ge (@pv _ 8 _ _ (by rfl) (by first | exact Or.inl rfl | exact Or.inr (Or.inl rfl) | exact Or.inr (Or.inr rfl)) (by decide) (by decide)) (@pe_callBu _ _ _ _ _ _ _ _ _ call_lenS rfl m_len PySem.boot_len (@pa_u _ _ _ _ _ (@pv _ 0 _ _ (by rfl) (by first | exact Or.inl rfl | exact Or.inr (Or.inl rfl) | exact Or.inr (Or.inr rfl)) (by decide) (by decide)) (@pa_nil _) (by rfl)) (by rfl) (by decide) (by decide)) (nomark _)) (@pss_one _ _ _ (@ps_ret _ _ _ _ (@pe_tup _ _ _ _ _ (@pa_u _ _ _ _ _ (@pe_str _ _ _ _) (@pa_u _ _ _ _ _ (@pe_callBu _ _ _ _ _ _ _ _ _ call_lenS rfl m_len PySem.boot_len (@pa_u _ _ _ _ _ (@pv _ 0 _ _ (by rfl) (by first | exact Or.inl rfl | exact Or.inr (Or.inl rfl) | exact Or.inr (Or.inr rfl)) (by decide) (by decide)) (@pa_nil _) (by rfl)) (by rfl) (by decide) (by decide)) (@pa_u _ _ _ _ _ (@pe_int _ _ _ _) (@pa_nil _) (by rfl)) (by rfl)) (by rfl))))) (@pss_nil _)) 
      (@pss_cons _ _ _ _ _ (@ps_if _ _ _ _ _ _ _ _ (@pt_cmpR _ _ _ _ _ _ _ _ op_eq (@pe_ix _ _ _ _ _ _ _ ix_list (@pv _ 0 _ _ (by rfl) (by first | exact Or.inl rfl | exact Or.inr (Or.inl rfl) | exact Or.inr (Or.inr rfl)) (by decide) (by decide)) (@pv _ 8 _ _ (by rfl) (by first | exact Or.inl rfl | exact Or.inr (Or.inl rfl) | exact Or.inr (Or.inr rfl)) (by decide) (by decide)) (fun _ _ => rfl)) (@pe_str _ _ _ _) (nomark _)) (@pss_one _ _ _ (@ps_ret _ _ _ _ (@pe_tup _ _ _ _ _ (@pa_u _ _ _ _ _ (@pe_op _ _ _ _ _ _ _ _ op_catA (@pe_op _ _ _ _ _ _ _ _ op_catA (@pe_tup _ _ _ _ _ (@pa_u _ _ _ _ _ (@pe_str _ _ _ _) (@pa_nil _) (by rfl))) (@pv _ 5 _ _ (by rfl) (by first | exact Or.inl rfl | exact Or.inr (Or.inl rfl) | exact Or.inr (Or.inr rfl)) (by decide) (by decide))) (@pe_tup _ _ _ _ _ (@pa_u _ _ _ _ _ (@pv _ 6 _ _ (by rfl) (by first | exact Or.inl rfl | exact Or.inr (Or.inl rfl) | exact Or.inr (Or.inr rfl)) (by decide) (by decide)) (@pa_u _ _ _ _ _ (@pv _ 7 _ _ (by rfl) (by first | exact Or.inl rfl | exact Or.inr (Or.inl rfl) | exact Or.inr (Or.inr rfl)) (by decide) (by decide)) (@pa_u _ _ _ _ _ (@pe_non _ _ _) (@pa_nil _) (by rfl)) (by rfl)) (by rfl)))) (@pa_u _ _ _ _ _ (@pe_op _ _ _ _ _ _ _ _ op_add (@pv _ 8 _ _ (by rfl) (by first | exact Or.inl rfl | exact Or.inr (Or.inl rfl) | exact Or.inr (Or.inr rfl)) (by decide) (by decide)) (@pe_int _ _ _ _)) (@pa_u _ _ _ _ _ (@pv _ 3 _ _ (by rfl) (by first | exact Or.inl rfl | exact Or.inr (Or.inl rfl) | exact Or.inr (Or.inr rfl)) (by decide) (by decide)) (@pa_nil _) (by rfl)) (by rfl)) (by rfl))))) (@pss_nil _)) 
      (@pss_cons _ _ _ _ _ (@ps_if _ _ _ _ _ _ _ _ (@pt_cmpR _ _ _ _ _ _ _ _ op_isNS (@pv _ 6 _ _ (by rfl) (by first | exact Or.inl rfl | exact Or.inr (Or.inl rfl) | exact Or.inr (Or.inr rfl)) (by decide) (by decide)) (@pe_non _ _ _) (nomark _)) (@pss_one _ _ _ (@ps_ret _ _ _ _ (@pe_tup _ _ _ _ _ (@pa_u _ _ _ _ _ (@pe_str _ _ _ _) (@pa_u _ _ _ _ _ (@pv _ 8 _ _ (by rfl) (by first | exact Or.inl rfl | exact Or.inr (Or.inl rfl) | exact Or.inr (Or.inr rfl)) (by decide) (by decide)) (@pa_u _ _ _ _ _ (@pe_int _ _ _ _) (@pa_nil _) (by rfl)) (by rfl)) (by rfl))))) (@pss_nil _)) 
      (@pss_cons _ _ _ _ _ (@ps_asg _ _ _ _ _ _ (@pe_callD _ _ _ _ _ _ _ _ _ _ d_law_read hr rfl (@pa_u _ _ _ _ _ (@pv _ 0 _ _ (by rfl) (by first | exact Or.inl rfl | exact Or.inr (Or.inl rfl) | exact Or.inr (Or.inr rfl)) (by decide) (by decide)) (@pa_u _ _ _ _ _ (@pv _ 8 _ _ (by rfl) (by first | exact Or.inl rfl | exact Or.inr (Or.inl rfl) | exact Or.inr (Or.inr rfl)) (by decide) (by decide)) (@pa_u _ _ _ _ _ (@pe_op _ _ _ _ _ _ _ _ op_add (@pv _ 2 _ _ (by rfl) (by first | exact Or.inl rfl | exact Or.inr (Or.inl rfl) | exact Or.inr (Or.inr rfl)) (by decide) (by decide)) (@pe_int _ _ _ _)) (@pa_u _ _ _ _ _ (@pv _ 3 _ _ (by rfl) (by first | exact Or.inl rfl | exact Or.inr (Or.inl rfl) | exact Or.inr (Or.inr rfl)) (by decide) (by decide)) (@pa_nil _) (by rfl)) (by rfl)) (by rfl)) (by rfl)) (by rfl) (by decide)) (@pg_tup _ _ _ _ _ _ rfl (@pgs_cons _ _ _ _ _ (@pg_name _ _ 9 _ sc_law_read.nd rfl (Or.inl rfl) (by first | exact .inl rfl | exact .inr rfl | assumption)) (@pgs_cons _ _ _ _ _ (@pg_name _ _ 8 _ sc_law_read.nd rfl (Or.inl rfl) (by first | exact .inl rfl | exact .inr rfl | assumption)) (@pgs_cons _ _ _ _ _ (@pg_name _ _ 3 _ sc_law_read.nd rfl (Or.inl rfl) (by first | exact .inl rfl | exact .inr rfl | assumption)) (@pgs_nil _) (by rfl)) (by rfl)) (by rfl)) (by rfl) (by rfl)) (by rfl) (by rfl) (by rfl)) 
      (@pss_cons _ _ _ _ _ (@ps_if _ _ _ _ _ _ _ _ (@pt_cmpR _ _ _ _ _ _ _ _ (op_eqD hr) (@pv _ 9 _ _ (by rfl) (by first | exact Or.inl rfl | exact Or.inr (Or.inl rfl) | exact Or.inr (Or.inr rfl)) (by decide) (by decide)) (@pe_str _ _ _ _) (nomark _)) (@pss_one _ _ _ (@ps_ret _ _ _ _ (@pe_tup _ _ _ _ _ (@pa_u _ _ _ _ _ (@pv _ 9 _ _ (by rfl) (by first | exact Or.inl rfl | exact Or.inr (Or.inl rfl) | exact Or.inr (Or.inr rfl)) (by decide) (by decide)) (@pa_u _ _ _ _ _ (@pv _ 8 _ _ (by rfl) (by first | exact Or.inl rfl | exact Or.inr (Or.inl rfl) | exact Or.inr (Or.inr rfl)) (by decide) (by decide)) (@pa_u _ _ _ _ _ (@pe_int _ _ _ _) (@pa_nil _) (by rfl)) (by rfl)) (by rfl))))) (@pss_nil _)) (@pss_one _ _ _ (@ps_ret _ _ _ _ (@pe_tup _ _ _ _ _ (@pa_u _ _ _ _ _ (@pe_op _ _ _ _ _ _ _ _ op_catA (@pe_op _ _ _ _ _ _ _ _ op_catA (@pe_tup _ _ _ _ _ (@pa_u _ _ _ _ _ (@pe_str _ _ _ _) (@pa_nil _) (by rfl))) (@pv _ 5 _ _ (by rfl) (by first | exact Or.inl rfl | exact Or.inr (Or.inl rfl) | exact Or.inr (Or.inr rfl)) (by decide) (by decide))) (@pe_tup _ _ _ _ _ (@pa_u _ _ _ _ _ (@pv _ 6 _ _ (by rfl) (by first | exact Or.inl rfl | exact Or.inr (Or.inl rfl) | exact Or.inr (Or.inr rfl)) (by decide) (by decide)) (@pa_u _ _ _ _ _ (@pv _ 7 _ _ (by rfl) (by first | exact Or.inl rfl | exact Or.inr (Or.inl rfl) | exact Or.inr (Or.inr rfl)) (by decide) (by decide)) (@pa_u _ _ _ _ _ (@pv _ 9 _ _ (by rfl) (by first | exact Or.inl rfl | exact Or.inr (Or.inl rfl) | exact Or.inr (Or.inr rfl)) (by decide) (by decide)) (@pa_nil _) (by rfl)) (by rfl)) (by rfl)))) (@pa_u _ _ _ _ _ (@pv _ 8 _ _ (by rfl) (by first | exact Or.inl rfl | exact Or.inr (Or.inl rfl) | exact Or.inr (Or.inr rfl)) (by decide) (by decide)) (@pa_u _ _ _ _ _ (@pv _ 3 _ _ (by rfl) (by first | exact Or.inl rfl | exact Or.inr (Or.inl rfl) | exact Or.inr (Or.inr rfl)) (by decide) (by decide)) (@pa_nil _) (by rfl)) (by rfl)) (by rfl)))))))))))))))))))), rfl, ?_⟩
  walk_at "cl"
  rw [rdP_eq] at q
  refine seq_n fun N hN => ?_
  walk_at "rd"
  refine len_of (.of hW) ?_
  walk_at "rd"
  rw [sV_len]
  cases hx : ws[sp]? with
  | none =>
    rw [hx] at q
    have hge := List.getElem?_eq_none_iff.mp hx
    rw [if_pos (by omega)]
    refine len_of (.of hW) ?_
    walk_at "rd"
    rw [sV_len]
    exact bad_of rfl q
  | some x =>
    rw [hx] at q
    have l1 := (List.getElem?_eq_some_iff.mp hx).1
    have at0 : ∀ {j : Nat} {y : Str}, ws[j]? = some y → atI (sV ws) (j : Int) = some (V.str y) := fun h => atI_nat (by rw [sV, List.getElem?_map, h]; rfl)
    rw [if_neg (by omega)]
    simp only at q
    refine hN _ _ ?_
    clear hN N
    refine seq_n fun N hN => ?_
    walk_at "rd"
    refine ⟨_, .of hW, _, at0 hx, ?_⟩
    walk_at "rd"
    by_cases e : x = wPoint
    · rw [if_pos e] at q
      rw [if_pos (show x = Str.ofString "point" from e)]
      refine ⟨small6 (by simp), fun p hp => ⟨small6 (by simp), fun p1 hp1 => ?_⟩⟩
      have S1 := same_new hp (.tup [V.str (Str.ofString "point")])
      have S2 := same_new hp1 (.tup [V.ref p, V.int ((sp : Int) + 1), V.int m])
      exact q _ (.ref p) _ (S1.trans S2) (RlV.same (show RlV K _ .pt (.ref p) from pt_dt (.of upd_same)) S2) (.of upd_same)
    rw [if_neg e] at q
    rw [if_neg (show ¬ x = Str.ofString "point" from e)]
    refine hN _ _ ?_
    clear hN N
    refine seq_n fun N hN => ?_
    walk_at "rd"
    refine ⟨_, .of hW, _, at0 hx, ?_⟩
    walk_at "rd"
    by_cases e1 : x = wUnit
    case neg =>
      rw [if_pos (.inl e1)] at q
      rw [if_pos (show ¬ x = Str.ofString "unit" from e1)]
      exact bad_of rfl q
    rw [if_neg (show ¬ ¬ x = Str.ofString "unit" from fun h => h e1)]
    by_cases e2 : room = 0
    · rw [if_pos (.inr (.inl e2))] at q
      rw [if_pos (show (4 : Int) - room = 4 by omega)]
      exact bad_of rfl q
    rw [if_neg (show ¬ (4 : Int) - room = 4 by omega)]
    by_cases e3 : m = 10
    · rw [if_pos (.inr (.inr e3))] at q
      rw [if_pos (show (m : Int) = 10 by omega)]
      exact bad_of rfl q
    rw [if_neg (show ¬ (x ≠ wUnit ∨ room = 0 ∨ m = 10) from fun h => h.elim (fun z => z e1) fun z => z.elim e2 e3)] at q
    rw [if_neg (show ¬ (m : Int) = 10 by omega)]
    obtain ⟨r, rfl⟩ : ∃ r, room = r + 1 := ⟨room - 1, by omega⟩
    simp only at q
    unfold unitQ numQ at q
    refine hN _ _ ?_
    clear hN N
    refine seq_n fun N hN => ?_
    walk_at "rd"
    refine ⟨small6 (by simp), fun pl hpl => ?_⟩
    have S1 := same_new hpl (.lst [V.int 1, V.int 2])
    have hpl1 : (upd H pl (.lst [V.int 1, V.int 2])) pl = some (.lst [V.int 1, V.int 2]) := upd_same
    generalize upd H pl (.lst [V.int 1, V.int 2]) = H1 at S1 hpl1 ⊢
    have hW1 := S1 _ _ hW
    have badS : ∀ {b : Nat} {H1 H2 : Hp}, Same H1 H2 → (∀ a H', Same H1 H' → SqT K H' a [.str "bad", .int b, .int 0] → Q (.ref a) H') → ∀ a H', Same H2 H' → SqT K H' a [.str "bad", .int b, .int 0] → Q (.ref a) H' := fun S q a H' S' h => q a H' (S.trans S') h
    refine ⟨⟨_, .of hpl1⟩, lst_of (xs := [V.int 1, V.int 2]) (fun i σ' H' => (∃ y : Option V, σ' = [some (.ref W), some (.int sp), some (.int (4 - ((r + 1 : Nat) : Int))), some (.int m), y, none, none, none, none, none]) ∧ H' = H1 ∧ ∀ j, j < i → ∃ y, ws[sp + 1 + j]? = some y ∧ wNS y ≠ 0) ⟨⟨none, rfl⟩, rfl, fun j hj => absurd hj (by omega)⟩ (fun i σ' H' _ ⟨_, e, _⟩ => by rw [e]; exact .of hpl1) ?_ ?_⟩
    · rintro Pw hP i v σ' Hx hv ⟨⟨y0, rfl⟩, eHx, hprev⟩
      rw [eHx]; clear eHx Hx
      obtain ⟨hi2, rfl⟩ : i < 2 ∧ v = V.int ((i + 1 : Nat) : Int) := by
        match i, hv with
        | 0, hv => cases hv; exact ⟨by omega, rfl⟩
        | 1, hv => cases hv; exact ⟨by omega, rfl⟩
        | i + 2, hv => cases hv
      walk_at "rd"
      walk_at "st"
      refine len_of (.of hW1) ?_
      walk_at "rd"
      rw [sV_len, show (sp : Int) + ((i + 1 : Nat) : Int) = ((sp + 1 + i : Nat) : Int) by omega]
      cases hy : ws[sp + 1 + i]? with
      | none =>
        have hge := List.getElem?_eq_none_iff.mp hy
        rw [if_pos (by omega)]
        refine len_of (.of hW1) ?_
        walk_at "rd"
        rw [sV_len]
        match i, hi2, hy, hprev with
        | 0, _, hy, _ => rw [show sp + 1 + 0 = sp + 1 from rfl] at hy; rw [hy] at q; exact bad_of rfl (badS S1 q)
        | 1, _, hy, hprev =>
          obtain ⟨z, hz, hz0⟩ := hprev 0 (by omega)
          rw [show sp + 1 + 0 = sp + 1 from rfl] at hz
          rw [hz] at q
          simp only [hz0, if_false] at q
          rw [hy] at q
          exact bad_of rfl (badS S1 q)
      | some y =>
        have l2 := (List.getElem?_eq_some_iff.mp hy).1
        rw [if_neg (by omega)]
        refine ⟨_, .of hW1, _, at0 hy, y, rfl, hok y (List.mem_of_getElem? hy), ?_⟩
        walk_at "rd"
        by_cases ez : wNS y = 0
        · rw [if_pos (by omega)]
          match i, hi2, hy, hprev with
          | 0, _, hy, _ =>
            rw [show sp + 1 + 0 = sp + 1 from rfl] at hy; rw [hy] at q
            simp only [ez, if_true] at q
            exact bad_of (by omega) (badS S1 q)
          | 1, _, hy, hprev =>
            obtain ⟨z, hz, hz0⟩ := hprev 0 (by omega)
            rw [show sp + 1 + 0 = sp + 1 from rfl] at hz
            rw [hz] at q
            simp only [hz0, if_false] at q
            rw [hy] at q
            simp only [ez, if_true] at q
            exact bad_of (by omega) (badS S1 q)
        · rw [if_neg (by omega)]
          walk_at "rd"
          refine hP _ _ _ ⟨⟨_, rfl⟩, rfl, fun j hj => ?_⟩
          by_cases ej : j = i
          · subst ej; exact ⟨y, hy, ez⟩
          · exact hprev j (by omega)
    · rintro σ' Hx ⟨⟨y0, rfl⟩, eHx, hprev⟩
      rw [eHx]; clear eHx Hx
      obtain ⟨a1, ha1, hz1⟩ := hprev 0 (by decide)
      obtain ⟨a2, ha2, hz2⟩ := hprev 1 (by decide)
      rw [show sp + 1 + 0 = sp + 1 from rfl] at ha1
      rw [ha1] at q
      simp only [hz1, if_false] at q
      rw [ha2] at q
      simp only [hz2, if_false] at q
      have l2 := (List.getElem?_eq_some_iff.mp ha2).1
      refine hN _ _ ?_
      clear hN N
      refine seq_n fun N hN => ?_
      walk_at "rd"
      rw [show (sp : Int) + 1 = ((sp + 1 : Nat) : Int) by omega]
      refine ⟨_, .of hW1, _, at0 ha1, a1, rfl, hok a1 (List.mem_of_getElem? ha1), ?_⟩
      walk_at "rd"
      rw [show (sp : Int) + 2 = ((sp + 1 + 1 : Nat) : Int) by omega]
      refine ⟨_, .of hW1, _, at0 ha2, a2, rfl, hok a2 (List.mem_of_getElem? ha2), ?_⟩
      walk_at "rd"
      refine ⟨small6 (by simp), fun pn hpn => ?_⟩
      have S2 := S1.trans (same_new hpn (.tup [V.int (wNS a1), V.int (wNS a2)]))
      have hpn2 : (upd H1 pn (.tup [V.int (wNS a1), V.int (wNS a2)])) pn = some (.tup [V.int (wNS a1), V.int (wNS a2)]) := upd_same
      generalize upd H1 pn (.tup [V.int (wNS a1), V.int (wNS a2)]) = H2 at S2 hpn2 ⊢
      have hW2 := S2 _ _ hW
      refine hN _ _ ?_
      clear hN N
      refine seq_n fun N hN => ?_
      walk_at "rd"
      refine len_of (.of hW2) ?_
      walk_at "rd"
      rw [sV_len]
      unfold capQ at q
      rw [show sp + 1 + 2 = sp + 3 by omega] at q
      cases hc : ws[sp + 3]? with
      | none =>
        have hge := List.getElem?_eq_none_iff.mp hc
        rw [hc] at q
        rw [if_pos (by omega)]
        refine len_of (.of hW2) ?_
        walk_at "rd"
        rw [sV_len]
        exact bad_of rfl (badS S2 q)
      | some c =>
        have l3 := (List.getElem?_eq_some_iff.mp hc).1
        rw [hc] at q
        rw [if_neg (by omega)]
        simp only at q
        refine hN _ _ ?_
        clear hN N
        walk_at "st"
        refine r_cut (fun σ' H' => ∃ cap : Option Int, σ' = [some (.ref W), some (.int sp), some (.int (4 - ((r + 1 : Nat) : Int))), some (.int m), y0, some (.ref pn), some (optI cap), none, none, none] ∧ H' = H2 ∧ (if c = wDash then (Sum.inr none : Nat ⊕ Option Int) else if wNS c < wNS a1 then .inl (sp + 3) else .inr (some (wNS c))) = .inr cap) (fun M' hM => ?_) ?_
        · walk_at "rd"
          rw [show (sp : Int) + 3 = ((sp + 3 : Nat) : Int) by omega]
          refine ⟨_, .of hW2, _, at0 hc, ?_⟩
          walk_at "rd"
          by_cases ec : c = wDash
          · rw [if_neg (show ¬ ¬ c = Str.ofString "-" from fun h => h ec)]
            walk_at "rd"
            exact hM _ _ ⟨none, rfl, rfl, by rw [if_pos ec]⟩
          · rw [if_neg ec] at q
            rw [if_pos (show ¬ c = Str.ofString "-" from ec)]
            walk_at "st"
            rw [show (sp : Int) + 3 = ((sp + 3 : Nat) : Int) by omega]
            refine ⟨_, .of hW2, _, at0 hc, c, rfl, hok c (List.mem_of_getElem? hc), ?_⟩
            walk_at "rd"
            refine ⟨_, .of hpn2, _, atI_nat (j := 0) rfl, ?_⟩
            walk_at "rd"
            by_cases el : wNS c < wNS a1
            · rw [if_pos el] at q
              rw [if_pos (by omega)]
              exact bad_of (by omega) (badS S2 q)
            · rw [if_neg (by omega)]
              walk_at "rd"
              exact hM _ _ ⟨some (wNS c), rfl, rfl, by rw [if_neg ec, if_neg el]⟩
        · rintro _ Hx ⟨cap, rfl, eHx, hcap⟩
          rw [eHx]; clear eHx Hx
          rw [hcap] at q
          simp only at q
          refine seq_n fun N hN => ?_
          walk_at "rd"
          refine ⟨W, ws, r, sp + 4, m + 1, by rw [show (sp : Int) + 4 = ((sp + 4 : Nat) : Int) by omega, show (4 : Int) - ((r + 1 : Nat) : Int) + 1 = 4 - (r : Int) by omega, show (m : Int) + 1 = ((m + 1 : Nat) : Int) by omega], by omega, by omega, hW2, hok, hl300, ?_⟩
          rw [show sp + 1 + 3 = sp + 4 by omega] at q
          cases hi : rdP ws r (sp + 4) (m + 1) with
          | bad b =>
            rw [hi] at q
            simp only [lastQ] at q
            intro a3 H3 S3 ha3
            walk_at "rd"
            refine ⟨_, _, rfl, ha3, rfl, ?_⟩
            walk_at "rd"
            refine hN _ _ (seq_n fun N hN => ?_)
            walk_at "rd"
            refine eqF_of (t := 0) (d := .str "bad") (e := .str "bad") (dstr "bad") (dstr "bad") (by simp [PyData.depth]) ?_
            rw [show PyData.eqv (.str "bad") (.str "bad") = true by decide +kernel]
            walk_at "rd"
            exact bad_of rfl (badS (S2.trans S3) q)
          | ok i sp4 m4 =>
            rw [hi] at q
            simp only [lastQ] at q
            intro a3 iv H3 S3 hiv ha3
            walk_at "rd"
            refine ⟨_, _, rfl, ha3, rfl, ?_⟩
            walk_at "rd"
            have hW3 := S3 _ _ hW2
            have S23 := S2.trans S3
            refine hN _ _ ?_
            clear hN N
            refine seq_n fun N hN => ?_
            walk_at "rd"
            refine eqF_of (t := 0) (e := .str "bad") hiv (dstr "bad") (Nat.le_trans (Nat.min_le_right ..) (by simp [PyData.depth])) ?_
            rw [enc_bad]
            walk_at "rd"
            have hle4 := rdP_le _ _ _ _ _ _ hi
            unfold tailQ at q
            refine hN _ _ ?_
            clear hN N
            refine seq_n fun N hN => ?_
            walk_at "rd"
            refine len_of (.of hW3) ?_
            walk_at "rd"
            rw [sV_len]
            cases ht : ws[sp4]? with
            | none =>
              have hge := List.getElem?_eq_none_iff.mp ht
              rw [ht] at q
              rw [if_pos (by omega)]
              refine len_of (.of hW3) ?_
              walk_at "rd"
              rw [sV_len]
              exact bad_of rfl (badS S23 q)
            | some z =>
              have l4 := (List.getElem?_eq_some_iff.mp ht).1
              rw [ht] at q
              rw [if_neg (by omega)]
              simp only at q
              refine hN _ _ ?_
              clear hN N
              refine seq_n fun N hN => ?_
              walk_at "rd"
              refine ⟨_, .of hW3, _, at0 ht, ?_⟩
              walk_at "rd"
              by_cases ez : z = wDash
              · rw [if_pos ez] at q
                rw [if_pos (show z = Str.ofString "-" from ez)]
                refine unit_made (l := none) (S3 _ _ hpn2) hiv rfl (fun _ => rfl) fun p r H' S h1 h2 => q p r H' (S23.trans S) h1 h2
              rw [if_neg ez] at q
              rw [if_neg (show ¬ z = Str.ofString "-" from ez)]
              refine hN _ _ ?_
              clear hN N
              refine seq_n fun N hN => ?_
              walk_at "rd"
              cases cap with
              | none =>
                rw [if_pos (show optI none = V.non from rfl)]
                exact bad_of rfl (badS S23 q)
              | some cc =>
                rw [if_neg (by intro h; cases h)]
                simp only at q
                refine hN _ _ ?_
                clear hN N
                refine seq_n fun N hN => ?_
                walk_at "rd"
                refine ⟨W, ws, r, sp4, m4, by rw [show (4 : Int) - ((r + 1 : Nat) : Int) + 1 = 4 - (r : Int) by omega], by omega, by omega, hW3, hok, hl300, ?_⟩
                cases hj : rdP ws r sp4 m4 with
                | bad b =>
                  rw [hj] at q
                  simp only at q ⊢
                  intro a5 H5 S5 ha5
                  walk_at "rd"
                  refine ⟨_, _, rfl, ha5, rfl, ?_⟩
                  walk_at "rd"
                  refine hN _ _ (seq_n fun N hN => ?_)
                  walk_at "rd"
                  refine eqF_of (t := 0) (d := .str "bad") (e := .str "bad") (dstr "bad") (dstr "bad") (by simp [PyData.depth]) ?_
                  rw [show PyData.eqv (.str "bad") (.str "bad") = true by decide +kernel]
                  walk_at "rd"
                  exact bad_of rfl (badS (S23.trans S5) q)
                | ok l sp5 m5 =>
                  rw [hj] at q
                  simp only at q ⊢
                  intro a5 lv H5 S5 hlv ha5
                  walk_at "rd"
                  refine ⟨_, _, rfl, ha5, rfl, ?_⟩
                  walk_at "rd"
                  refine hN _ _ (seq_n fun N hN => ?_)
                  walk_at "rd"
                  refine eqF_of (t := 0) (e := .str "bad") hlv (dstr "bad") (Nat.le_trans (Nat.min_le_right ..) (by simp [PyData.depth])) ?_
                  rw [enc_bad]
                  walk_at "rd"
                  refine hN _ _ ?_
                  walk_at "rd"
                  exact unit_made (l := some l) (S5 _ _ (S3 _ _ hpn2)) (hiv.same S5) hlv (fun z => nomatch z) fun p r H' S h1 h2 => q p r H' ((S23.trans S5).trans S) h1 h2
theorem all_law_read {n : Nat} (F : Df K mg "_law_read" s_law_read ["_law_words_here", "_law_at", "_law_deep", "_law_many"]) (m_len : mg "len" = none) (d_law_number : Dn P w K mg base k "_law_number" ["_law_word"] spNum4) : Dn P w K mg base (k + n) "_law_read" ["_law_words_here", "_law_at", "_law_deep", "_law_many"] (spLRead K n) := by
  induction n with
  | zero => exact F.void fun vs H Q E ⟨_, _, _, _, _, _, h, _⟩ => by omega
  | succ n ih => exact ok_law_read F m_len (d_law_number.mono (Nat.le_add_right k _)) ih
end
end My
namespace My
open PySem L2 M
section
variable (K : PySem.W.Frag)
def spTold4 : Sp := fun vs H Q _ => ∃ ws, ws ≠ [] ∧ ws.length ≤ 200 ∧ (∀ x ∈ ws, Wok x) ∧ vs = [.str (Str.join blank ws)] ∧ (match rdA ws with
  | .inl b => ∀ a H', Same H H' → SqT K H' a [.str "bad", .int b] → Q (.ref a) H'
  | .inr rl => ∀ a r H', Same H H' → RlV K H' rl r → SqT K H' a [.str "rule", r] → Q (.ref a) H')
end
section
variable {P : Program} {w : World} {K : PySem.W.Frag} {mg : Str → Option Value} {base : Heap} {ns : List Int} {k : Nat}
theorem ok_law_told4 {C_BadWord C_Falls C_NoDeed C_NoGame C_NoLine C_NoPins C_NoSide C_NoThrow C_Over C_TooMany C_ScoreError : Addr} (F : Df K mg "_law_told" s_law_told ["_law_text"]) (m_isinstance : mg "isinstance" = none) (m_ValueError : mg "ValueError" = none)
    (g_BadWord : Gc mg "BadWord" (.ref C_BadWord)) (g_Falls : Gc mg "Falls" (.ref C_Falls)) (g_NoDeed : Gc mg "NoDeed" (.ref C_NoDeed)) (g_NoGame : Gc mg "NoGame" (.ref C_NoGame)) (g_NoLine : Gc mg "NoLine" (.ref C_NoLine)) (g_NoPins : Gc mg "NoPins" (.ref C_NoPins)) (g_NoSide : Gc mg "NoSide" (.ref C_NoSide)) (g_NoThrow : Gc mg "NoThrow" (.ref C_NoThrow)) (g_Over : Gc mg "Over" (.ref C_Over)) (g_TooMany : Gc mg "TooMany" (.ref C_TooMany))
    (mc_ScoreError : mg "ScoreError" = some (.ref C_ScoreError)) (oe_ScoreError : OwnE K C_ScoreError) (hS : PySem.W.subIn K (.ref C_BadWord) (.ref C_ScoreError) = some true) (er : ErrC K C_BadWord) (ea : ErrA K C_BadWord "at") (kb : PySem.W.kitOne K (.ref C_BadWord) (.ref C_BadWord) = some true) (kv : PySem.W.kitOne K (.ref C_BadWord) (.type "ValueError") = some true)
    (ko : ∀ D ∈ [C_Falls, C_NoDeed, C_NoGame, C_NoLine, C_NoPins, C_NoSide, C_NoThrow, C_Over, C_TooMany], PySem.W.kitOne K (.ref C_BadWord) (.ref D) = some false)
    (d_read_rule : Dy P w K mg base k "read_rule" ["text"] (spRead2 K C_BadWord)) : Dn P w K mg base (k + 1) "_law_told" ["_law_text"] (spTold4 K) := by
  have hSub : ∀ C, C = C_BadWord → PySem.W.subIn K (.ref C) (.ref C_ScoreError) = some true := fun C e => by rw [e]; exact hS
  refine F.ok sc_law_told (fun vs H Q E h => ?_) (fun f cdv A outer s H vs Q E hr h => ?_)
  · obtain ⟨ws, _, _, _, rfl, _⟩ := h; rfl
  obtain ⟨ws, hne, h200, hw, rfl, q⟩ := h
  refine ⟨_, [some _, none, none, none], 
      (@pss_cons _ _ _ _ _ (@ps_set _ _ 1 _ _ _ _ sc_law_told.nd rfl (Or.inl rfl) (@pe_non _ _ _) (by rfl) (by first | exact .inl rfl | exact .inr rfl | assumption)) 
      (@pss_cons _ _ _ _ _ (@ps_set _ _ 2 _ _ _ _ sc_law_told.nd rfl (Or.inl rfl) (@pe_non _ _ _) (by rfl) (by first | exact .inl rfl | exact .inr rfl | assumption)) 
      (@pss_cons _ _ _ _ _ (@ps_try2 _ _ _ _ _ _ _ _ _ _ 3 _ _ _ rfl rfl rfl rfl mc_ScoreError oe_ScoreError hSub sc_law_told.nd rfl rfl (Or.inl rfl) (fun _ _ => (@pss_one _ _ _ (@ps_set _ _ 1 _ _ _ _ sc_law_told.nd rfl (Or.inl rfl) (@pe_callX2 _ _ _ _ _ _ _ _ _ _ _ _ d_read_rule hr rfl (@pa_u _ _ _ _ _ (@pv _ 0 _ _ (by rfl) (by first | exact Or.inl rfl | exact Or.inr (Or.inl rfl) | exact Or.inr (Or.inr rfl)) (by decide) (by decide)) (@pa_nil _) (by rfl)) (by rfl) (by decide)) (by rfl) (by first | exact .inl rfl | exact .inr rfl | assumption)))) (fun _ _ => (@pss_one _ _ _ (@ps_set _ _ 2 _ _ _ _ sc_law_told.nd rfl (Or.inl rfl) (@pv _ 3 _ _ (by rfl) (by first | exact Or.inl rfl | exact Or.inr (Or.inl rfl) | exact Or.inr (Or.inr rfl)) (by decide) (by decide)) (by rfl) (by first | exact .inl rfl | exact .inr rfl | assumption)))) (by decide)) 
      (@pss_cons _ _ _ _ _ (@ps_if _ _ _ _ _ _ _ _ (@pt_cmpR _ _ _ _ _ _ _ _ op_isNS (@pv _ 2 _ _ (by rfl) (by first | exact Or.inl rfl | exact Or.inr (Or.inl rfl) | exact Or.inr (Or.inr rfl)) (by decide) (by decide)) (@pe_non _ _ _) (nomark _)) (@pss_one _ _ _ (@ps_ret _ _ _ _ (@pe_tup _ _ _ _ _ (@pa_u _ _ _ _ _ (@pe_str _ _ _ _) (@pa_u _ _ _ _ _ (@pv _ 1 _ _ (by rfl) (by first | exact Or.inl rfl | exact Or.inr (Or.inl rfl) | exact Or.inr (Or.inr rfl)) (by decide) (by decide)) (@pa_nil _) (by rfl)) (by rfl))))) (@pss_nil _)) 
      (@pss_cons _ _ _ _ _ (@ps_if _ _ _ _ _ _ _ _ (@PW.pt _ _ _ (@pw_or _ _ _ _ _ _ _ (@pt_not _ _ _ _ (@pt_val _ _ _ (@pe_callBu _ _ _ _ _ _ _ _ _ call_isE2 rfl m_isinstance bt_isinstance (@pa_u _ _ _ _ _ (@pv _ 2 _ _ (by rfl) (by first | exact Or.inl rfl | exact Or.inr (Or.inl rfl) | exact Or.inr (Or.inr rfl)) (by decide) (by decide)) (@pa_u _ _ _ _ _ (@pe_gc _ _ _ _ g_BadWord rfl (by decide)) (@pa_nil _) (by rfl)) (by rfl)) (by rfl) (by decide) (by decide)) (by intro _; rfl))) (@pw_or1 _ _ _ _ (@pt_not _ _ _ _ (@pt_val _ _ _ (@pe_callBu _ _ _ _ _ _ _ _ _ call_isE2 rfl m_isinstance bt_isinstance (@pa_u _ _ _ _ _ (@pv _ 2 _ _ (by rfl) (by first | exact Or.inl rfl | exact Or.inr (Or.inl rfl) | exact Or.inr (Or.inr rfl)) (by decide) (by decide)) (@pa_u _ _ _ _ _ (@pe_bltn _ _ (.ty "ValueError") _ _ rfl m_ValueError bt_ValueError rfl (by decide) (by decide)) (@pa_nil _) (by rfl)) (by rfl)) (by rfl) (by decide) (by decide)) (by intro _; rfl)))))) (@pss_one _ _ _ (@ps_ret _ _ _ _ (@pe_tup _ _ _ _ _ (@pa_u _ _ _ _ _ (@pe_str _ _ _ _) (@pa_u _ _ _ _ _ (@pe_non _ _ _) (@pa_nil _) (by rfl)) (by rfl))))) (@pss_nil _)) 
      (@pss_cons _ _ _ _ _ (@ps_if _ _ _ _ _ _ _ _ (@pt_val _ _ _ (@pe_callBu _ _ _ _ _ _ _ _ _ call_isT2 rfl m_isinstance bt_isinstance (@pa_u _ _ _ _ _ (@pv _ 2 _ _ (by rfl) (by first | exact Or.inl rfl | exact Or.inr (Or.inl rfl) | exact Or.inr (Or.inr rfl)) (by decide) (by decide)) (@pa_u _ _ _ _ _ (@pe_tup _ _ _ _ _ (@pa_u _ _ _ _ _ (@pe_gc _ _ _ _ g_Falls rfl (by decide)) (@pa_u _ _ _ _ _ (@pe_gc _ _ _ _ g_NoDeed rfl (by decide)) (@pa_u _ _ _ _ _ (@pe_gc _ _ _ _ g_NoGame rfl (by decide)) (@pa_u _ _ _ _ _ (@pe_gc _ _ _ _ g_NoLine rfl (by decide)) (@pa_u _ _ _ _ _ (@pe_gc _ _ _ _ g_NoPins rfl (by decide)) (@pa_u _ _ _ _ _ (@pe_gc _ _ _ _ g_NoSide rfl (by decide)) (@pa_u _ _ _ _ _ (@pe_gc _ _ _ _ g_NoThrow rfl (by decide)) (@pa_u _ _ _ _ _ (@pe_gc _ _ _ _ g_Over rfl (by decide)) (@pa_u _ _ _ _ _ (@pe_gc _ _ _ _ g_TooMany rfl (by decide)) (@pa_nil _) (by rfl)) (by rfl)) (by rfl)) (by rfl)) (by rfl)) (by rfl)) (by rfl)) (by rfl)) (by rfl))) (@pa_nil _) (by rfl)) (by rfl)) (by rfl) (by decide) (by decide)) (by intro _; rfl)) (@pss_one _ _ _ (@ps_ret _ _ _ _ (@pe_tup _ _ _ _ _ (@pa_u _ _ _ _ _ (@pe_str _ _ _ _) (@pa_u _ _ _ _ _ (@pe_non _ _ _) (@pa_nil _) (by rfl)) (by rfl))))) (@pss_nil _)) (@pss_one _ _ _ (@ps_ret _ _ _ _ (@pe_tup _ _ _ _ _ (@pa_u _ _ _ _ _ (@pe_str _ _ _ _) (@pa_u _ _ _ _ _ (@pe_fldE _ _ _ _ _ (@pv _ 2 _ _ (by rfl) (by first | exact Or.inl rfl | exact Or.inr (Or.inl rfl) | exact Or.inr (Or.inr rfl)) (by decide) (by decide)) rfl) (@pa_nil _) (by rfl)) (by rfl))))))))))), rfl, ?_⟩
  walk_at "cl"
  walk_at "st"
  walk_at "st"
  walk_at "st"
  refine ⟨ws, hne, h200, hw, rfl, ?_⟩
  cases hr : rdA ws with
  | inl b =>
    rw [hr] at q
    simp only at q ⊢
    intro d H1 S1 hd
    refine ⟨C_BadWord, rfl, rfl, fun ea' hea => ?_⟩
    have S2 := S1.trans (same_new hea (excA ea' C_BadWord (some d)))
    have he : (upd H1 ea' (excA ea' C_BadWord (some d))) ea' = some (excA ea' C_BadWord (some d)) := upd_same
    have hd2 := same_new hea (excA ea' C_BadWord (some d)) _ _ hd
    generalize upd H1 ea' (excA ea' C_BadWord (some d)) = H2 at S2 he hd2 ⊢
    walk_at "st"
    walk_at "F"
    walk_at "st"
    refine ⟨ea', C_BadWord, some d, _, .ref C_BadWord, true, rfl, he, er, rfl, (fun _ r => r), kb, ?_⟩
    walk_at "rd"
    refine ⟨ea', C_BadWord, some d, _, .type "ValueError", true, rfl, he, er, rfl, (fun _ r => r), kv, ?_⟩
    walk_at "rd"
    walk_at "st"
    refine ⟨small6 (by simp), fun p hp => ?_⟩
    have S3 := same_new hp (.tup [V.ref C_Falls, V.ref C_NoDeed, V.ref C_NoGame, V.ref C_NoLine, V.ref C_NoPins, V.ref C_NoSide, V.ref C_NoThrow, V.ref C_Over, V.ref C_TooMany])
    refine ⟨ea', C_BadWord, some d, p, _, rfl, S3 _ _ he, er, upd_same, ko, ?_⟩
    walk_at "rd"
    refine ⟨ea', C_BadWord, d, _, _, rfl, S3 _ _ he, S3 _ _ hd2, er, ea, (by simp [List.lookup]; rfl), small6 (by simp), fun p2 hp2 => ?_⟩
    exact q p2 _ ((S2.trans S3).trans (same_new hp2 _)) (.of upd_same)
  | inr rl =>
    rw [hr] at q
    simp only at q ⊢
    intro r H1 S1 hr1
    walk_at "st"
    exact ⟨small6 (by simp), fun p hp => q p r _ (S1.trans (same_new hp _)) (hr1.same (same_new hp _)) (.of upd_same)⟩
end
end My
namespace My
open PySem L2 M
theorem num_ascii {i : Int} (h : Bd 1 i) : ∀ c ∈ (numS i).cps.toList, c < 128 := fun c hc => by have := (num_facts h).2.1 c hc; omega
theorem lit_ascii {x : Str} (h : x.cps.toList.all (fun c => decide (c < 128)) = true) : ∀ c ∈ x.cps.toList, c < 128 := fun c hc => of_decide_eq_true (List.all_eq_true.mp h c hc)
theorem words_ascii : ∀ {r : Rl}, ok r → ∀ x ∈ words r, ∀ c ∈ x.cps.toList, c < 128
  | .pt, _, x, h => by simp only [words, List.mem_singleton] at h; subst h; exact lit_ascii (by decide +kernel)
  | .un to lead cap i, ⟨h1, h2, h3, h4⟩, x, h => by
    simp only [words, List.mem_append, List.mem_cons, List.not_mem_nil, or_false] at h
    rcases h with ((rfl | rfl | rfl | rfl) | h) | rfl
    · exact lit_ascii (by decide +kernel)
    · exact num_ascii h1
    · exact num_ascii h2
    · cases cap with
      | none => exact lit_ascii (by decide +kernel)
      | some c => exact num_ascii (Bd.one h1.1 h3)
    · exact words_ascii h4 x h
    · exact lit_ascii (by decide +kernel)
  | .ul to lead cap i l, ⟨h1, h2, h3, h4, h5⟩, x, h => by
    simp only [words, List.mem_append, List.mem_cons, List.not_mem_nil, or_false] at h
    rcases h with ((rfl | rfl | rfl | rfl) | h) | h
    · exact lit_ascii (by decide +kernel)
    · exact num_ascii h1
    · exact num_ascii h2
    · exact num_ascii (Bd.one h1.1 h3)
    · exact words_ascii h4 x h
    · exact words_ascii h5 x h
theorem words_wok {r : Rl} (h : ok r) : ∀ x ∈ words r, Wok x := fun x hx => ⟨Nat.le_trans (words_short h x hx) (by decide), words_free h x hx, words_ascii h x hx⟩
end My
namespace My
open PySem L2 M
section
variable {P : Program} {w : World} {K : PySem.W.Frag} {mg : Str → Option Value} {base : Heap} {ns : List Int} {k : Nat}
theorem tape_no {t D : Addr} {H : Hp} {bs : List Str} (T : Tape K ns t H) (h : H D = some (.lst (sV bs))) (hne : bs ≠ []) : D ≠ t := fun e => by
  subst e
  obtain ⟨_, _, _, _, e, _⟩ := T
  rw [h] at e
  cases bs with
  | nil => exact hne rfl
  | cons b bs => cases e
theorem dep_enc : ∀ r : Rl, PyData.depth (enc r) ≤ depth r + 1
  | .pt => by simp [enc, PyData.depth, PyData.depthAll, depth]
  | .un to lead cap i => by
    have := dep_enc i
    cases cap <;> simp [enc, unitD, capD, PyData.depth, PyData.depthAll, depth] <;> omega
  | .ul to lead cap i l => by
    have := dep_enc i
    have := dep_enc l
    simp [enc, unitD, PyData.depth, PyData.depthAll, depth]; omega
theorem lread_of {H : Hp} {Q : VK} {E : XK} {B : Addr} {bs : List Str} (hB : H B = some (.lst (sV bs))) (hok : ∀ x ∈ bs, Wok x) (hl : bs.length ≤ 300)
    (q : ∀ (a : Addr) (rv : V) (s9 m9 : Nat) (d : PyData) (H' : Hp), Same H H' → Dt K 0 H' d rv → d.depth ≤ 10 → SqT K H' a [rv, .int s9, .int m9] → ((d = .str "bad" ∧ rdA bs = .inl s9) ∨ ∃ rl, d = enc rl ∧ rdA bs = if s9 < bs.length then .inl s9 else .inr rl) → Q (.ref a) H') : spLRead K 5 [.ref B, .int 0, .int 0, .int 0] H Q E := by
  refine ⟨B, bs, 4, 0, 0, rfl, by decide, by decide, hB, hok, hl, ?_⟩
  cases hr : rdP bs 4 0 0 with
  | bad b => exact fun a H' S h => q a _ b 0 (.str "bad") H' S (dstr "bad") (by simp [PyData.depth]) h (.inl ⟨rfl, by unfold rdA; rw [hr]⟩)
  | ok rl sp m =>
    have hd := rdP_dp _ _ _ _ _ _ hr
    exact fun a r H' S h1 h2 => q a r sp m (enc rl) H' S h1 (Nat.le_trans (dep_enc rl) (by omega)) h2 (.inr ⟨rl, rfl, by unfold rdA; rw [hr]⟩)
theorem told_of {H : Hp} {Q : VK} {E : XK} {bs : List Str} (hne : bs ≠ []) (hl : bs.length ≤ 200) (hok : ∀ x ∈ bs, Wok x)
    (q : ∀ (a : Addr) (v : V) (H' : Hp), Same H H' → (∃ u, SqT K H' a [u, v]) → Dt K 0 H' (dueD (rdA bs)) (.ref a) → (∃ dx, Dt K 0 H' dx v ∧ isiD dx "bool" = false) → Q (.ref a) H') : spTold4 K [.str (Str.join blank bs)] H Q E := by
  refine ⟨bs, hne, hl, hok, rfl, ?_⟩
  cases hr : rdA bs with
  | inl b =>
    intro a H' S h
    refine q a _ H' S ⟨_, h⟩ ?_ ⟨.int b, .int _, rfl⟩
    rw [hr]
    exact .tup h (.cons (dstr "bad") (.cons (.int _) .nil))
  | inr rl =>
    intro a r H' S h1 h2
    refine q a _ H' S ⟨_, h2⟩ ?_ ⟨enc rl, h1, by obtain ⟨ds, e⟩ := enc_encT rl; rw [e]; rfl⟩
    rw [hr]
    exact .tup h2 (.cons (dstr "rule") (.cons h1 .nil))
theorem ok_law {fa : Addr} {fd : FuncData} (F : Fun K "law" "law" s_law fa fd) (m_range : mg "range" = none) (m_len : mg "len" = none) (m_isinstance : mg "isinstance" = none) (m_bool : mg "bool" = none) (d_law_tape : ∀ ns, Dn P w K mg base k "_law_tape" ["_law_script"] (spTape K ns)) (d_law_draw : ∀ ns, Dn P w K mg base k "_law_draw" ["_law_tape_here", "_law_many"] (spDraw K ns)) (d_law_any_rule : ∀ ns, Dn P w K mg base k "_law_any_rule" ["_law_tape_here"] (spAny4 K ns)) (d_law_full : ∀ ns, Dn P w K mg base k "_law_full" ["_law_tape_here", "_law_many", "_law_deep"] (spFull K ns 5))
    (d_law_words : Dn P w K mg base k "_law_words" ["_law_rule_here"] (spLWords K 6)) (d_law_bent : ∀ ns, Dn P w K mg base k "_law_bent" ["_law_tape_here", "_law_words_here"] (spBent K ns)) (d_law_read : Dn P w K mg base k "_law_read" ["_law_words_here", "_law_at", "_law_deep", "_law_many"] (spLRead K 5)) (d_law_told : Dn P w K mg base k "_law_told" ["_law_text"] (spTold4 K)) : FnOk P w K mg base CX0 (k + 1) fa fd ["_law_script"] (spLaw K) := by
  refine F.okS sc_law (fun vs H Q E h => ?_) (fun cdv A outer s H vs Q E hr h => ?_)
  · obtain ⟨a, ns, rfl, _⟩ := h; rfl
  obtain ⟨a, ns, rfl, hs, _, q⟩ := h
  replace d_law_tape := d_law_tape ns
  replace d_law_draw := d_law_draw ns
  replace d_law_any_rule := d_law_any_rule ns
  replace d_law_full := d_law_full ns
  replace d_law_bent := d_law_bent ns
  refine ⟨_, [some _, none, none, none, none, none, none, none, none, none, none], 
      (@pss_cons _ _ _ _ _ (@ps_set _ _ 1 _ _ _ _ sc_law.nd rfl (Or.inl rfl) (@pe_callD _ _ _ _ _ _ _ _ _ _ d_law_tape hr rfl (@pa_u _ _ _ _ _ (@pv _ 0 _ _ (by rfl) (by first | exact Or.inl rfl | exact Or.inr (Or.inl rfl) | exact Or.inr (Or.inr rfl)) (by decide) (by decide)) (@pa_nil _) (by rfl)) (by rfl) (by decide)) (by rfl) (by first | exact .inl rfl | exact .inr rfl | assumption)) 
      (@pss_cons _ _ _ _ _ (@ps_set _ _ 2 _ _ _ _ sc_law.nd rfl (Or.inl rfl) (@pe_callD _ _ _ _ _ _ _ _ _ _ d_law_words hr rfl (@pa_u _ _ _ _ _ (@pe_callD _ _ _ _ _ _ _ _ _ _ d_law_any_rule hr rfl (@pa_u _ _ _ _ _ (@pv _ 1 _ _ (by rfl) (by first | exact Or.inl rfl | exact Or.inr (Or.inl rfl) | exact Or.inr (Or.inr rfl)) (by decide) (by decide)) (@pa_nil _) (by rfl)) (by rfl) (by decide)) (@pa_nil _) (by rfl)) (by rfl) (by decide)) (by rfl) (by first | exact .inl rfl | exact .inr rfl | assumption)) 
      (@pss_cut _ _ _ _ _ (@ps_if _ _ _ _ _ _ _ _ (@pt_cmpR _ _ _ _ _ _ _ _ op_eq (@pe_callD _ _ _ _ _ _ _ _ _ _ d_law_draw hr rfl (@pa_u _ _ _ _ _ (@pv _ 1 _ _ (by rfl) (by first | exact Or.inl rfl | exact Or.inr (Or.inl rfl) | exact Or.inr (Or.inr rfl)) (by decide) (by decide)) (@pa_u _ _ _ _ _ (@pe_int _ _ _ _) (@pa_nil _) (by rfl)) (by rfl)) (by rfl) (by decide)) (@pe_int _ _ _ _) (nomark _)) (@pss_one _ _ _ (@ps_set _ _ 2 _ _ _ _ sc_law.nd rfl (Or.inl rfl) (@pe_callD _ _ _ _ _ _ _ _ _ _ d_law_words hr rfl (@pa_u _ _ _ _ _ (@pe_callD _ _ _ _ _ _ _ _ _ _ d_law_full hr rfl (@pa_u _ _ _ _ _ (@pv _ 1 _ _ (by rfl) (by first | exact Or.inl rfl | exact Or.inr (Or.inl rfl) | exact Or.inr (Or.inr rfl)) (by decide) (by decide)) (@pa_u _ _ _ _ _ (@pe_ix _ _ _ _ _ _ _ ix_list (@pe_lst _ _ _ _ (@pa_u _ _ _ _ _ (@pe_int _ _ _ _) (@pa_u _ _ _ _ _ (@pe_int _ _ _ _) (@pa_u _ _ _ _ _ (@pe_int _ _ _ _) (@pa_u _ _ _ _ _ (@pe_int _ _ _ _) (@pa_u _ _ _ _ _ (@pe_int _ _ _ _) (@pa_nil _) (by rfl)) (by rfl)) (by rfl)) (by rfl)) (by rfl))) (@pe_callD _ _ _ _ _ _ _ _ _ _ d_law_draw hr rfl (@pa_u _ _ _ _ _ (@pv _ 1 _ _ (by rfl) (by first | exact Or.inl rfl | exact Or.inr (Or.inl rfl) | exact Or.inr (Or.inr rfl)) (by decide) (by decide)) (@pa_u _ _ _ _ _ (@pe_int _ _ _ _) (@pa_nil _) (by rfl)) (by rfl)) (by rfl) (by decide)) (fun _ _ => rfl)) (@pa_u _ _ _ _ _ (@pe_int _ _ _ _) (@pa_nil _) (by rfl)) (by rfl)) (by rfl)) (by rfl) (by decide)) (@pa_nil _) (by rfl)) (by rfl) (by decide)) (by rfl) (by first | exact .inl rfl | exact .inr rfl | assumption))) (@pss_nil _)) 
      (@pss_cons _ _ _ _ _ (@ps_for _ _ _ _ _ _ _ _ PassesOwn.never rfl (@pi_range1 _ _ _ _ _ _ rfl m_range (@pa_u _ _ _ _ _ (@pe_int _ _ _ _) (@pa_nil _) (by rfl)) (by rfl)) (@pg_name _ _ 3 _ sc_law.nd rfl (Or.inl rfl) (by first | exact .inl rfl | exact .inr rfl | assumption)) 
      (@pss_cons _ _ _ _ _ (@ps_set _ _ 4 _ _ _ _ sc_law.nd rfl (Or.inl rfl) (@pv _ 2 _ _ (by rfl) (by first | exact Or.inl rfl | exact Or.inr (Or.inl rfl) | exact Or.inr (Or.inr rfl)) (by decide) (by decide)) (by rfl) (by first | exact .inl rfl | exact .inr rfl | assumption)) 
      (@pss_cons _ _ _ _ _ (@ps_for _ _ _ _ _ _ _ _ PassesOwn.never rfl (@pi_range1 _ _ _ _ _ _ rfl m_range (@pa_u _ _ _ _ _ (@pe_ix _ _ _ _ _ _ _ ix_list (@pe_lst _ _ _ _ (@pa_u _ _ _ _ _ (@pe_int _ _ _ _) (@pa_u _ _ _ _ _ (@pe_int _ _ _ _) (@pa_u _ _ _ _ _ (@pe_int _ _ _ _) (@pa_u _ _ _ _ _ (@pe_int _ _ _ _) (@pa_nil _) (by rfl)) (by rfl)) (by rfl)) (by rfl))) (@pe_callD _ _ _ _ _ _ _ _ _ _ d_law_draw hr rfl (@pa_u _ _ _ _ _ (@pv _ 1 _ _ (by rfl) (by first | exact Or.inl rfl | exact Or.inr (Or.inl rfl) | exact Or.inr (Or.inr rfl)) (by decide) (by decide)) (@pa_u _ _ _ _ _ (@pe_int _ _ _ _) (@pa_nil _) (by rfl)) (by rfl)) (by rfl) (by decide)) (fun _ _ => rfl)) (@pa_nil _) (by rfl)) (by rfl)) (@pg_name _ _ 5 _ sc_law.nd rfl (Or.inl rfl) (by first | exact .inl rfl | exact .inr rfl | assumption)) (@pss_one _ _ _ (@ps_set _ _ 4 _ _ _ _ sc_law.nd rfl (Or.inl rfl) (@pe_callD _ _ _ _ _ _ _ _ _ _ d_law_bent hr rfl (@pa_u _ _ _ _ _ (@pv _ 1 _ _ (by rfl) (by first | exact Or.inl rfl | exact Or.inr (Or.inl rfl) | exact Or.inr (Or.inr rfl)) (by decide) (by decide)) (@pa_u _ _ _ _ _ (@pv _ 4 _ _ (by rfl) (by first | exact Or.inl rfl | exact Or.inr (Or.inl rfl) | exact Or.inr (Or.inr rfl)) (by decide) (by decide)) (@pa_nil _) (by rfl)) (by rfl)) (by rfl) (by decide)) (by rfl) (by first | exact .inl rfl | exact .inr rfl | assumption))) (by intro _; rfl)) 
      (@pss_cons _ _ _ _ _ (@ps_asg _ _ _ _ _ _ (@pe_callD _ _ _ _ _ _ _ _ _ _ d_law_read hr rfl (@pa_u _ _ _ _ _ (@pv _ 4 _ _ (by rfl) (by first | exact Or.inl rfl | exact Or.inr (Or.inl rfl) | exact Or.inr (Or.inr rfl)) (by decide) (by decide)) (@pa_u _ _ _ _ _ (@pe_int _ _ _ _) (@pa_u _ _ _ _ _ (@pe_int _ _ _ _) (@pa_u _ _ _ _ _ (@pe_int _ _ _ _) (@pa_nil _) (by rfl)) (by rfl)) (by rfl)) (by rfl)) (by rfl) (by decide)) (@pg_tup _ _ _ _ _ _ rfl (@pgs_cons _ _ _ _ _ (@pg_name _ _ 6 _ sc_law.nd rfl (Or.inl rfl) (by first | exact .inl rfl | exact .inr rfl | assumption)) (@pgs_cons _ _ _ _ _ (@pg_name _ _ 7 _ sc_law.nd rfl (Or.inl rfl) (by first | exact .inl rfl | exact .inr rfl | assumption)) (@pgs_cons _ _ _ _ _ (@pg_name _ _ 8 _ sc_law.nd rfl (Or.inl rfl) (by first | exact .inl rfl | exact .inr rfl | assumption)) (@pgs_nil _) (by rfl)) (by rfl)) (by rfl)) (by rfl) (by rfl)) (by rfl) (by rfl) (by rfl)) 
      (@pss_cons _ _ _ _ _ (@ps_set _ _ 9 _ _ _ _ sc_law.nd rfl (Or.inl rfl) (@pe_tup _ _ _ _ _ (@pa_u _ _ _ _ _ (@pe_str _ _ _ _) (@pa_u _ _ _ _ _ (@pv _ 6 _ _ (by rfl) (by first | exact Or.inl rfl | exact Or.inr (Or.inl rfl) | exact Or.inr (Or.inr rfl)) (by decide) (by decide)) (@pa_nil _) (by rfl)) (by rfl))) (by rfl) (by first | exact .inl rfl | exact .inr rfl | assumption)) 
      (@pss_cut _ _ _ _ _ (@ps_if _ _ _ _ _ _ _ _ (@pt_cmpR _ _ _ _ _ _ _ _ (op_eqD hr) (@pv _ 6 _ _ (by rfl) (by first | exact Or.inl rfl | exact Or.inr (Or.inl rfl) | exact Or.inr (Or.inr rfl)) (by decide) (by decide)) (@pe_str _ _ _ _) (nomark _)) (@pss_one _ _ _ (@ps_set _ _ 9 _ _ _ _ sc_law.nd rfl (Or.inl rfl) (@pe_tup _ _ _ _ _ (@pa_u _ _ _ _ _ (@pe_str _ _ _ _) (@pa_u _ _ _ _ _ (@pv _ 7 _ _ (by rfl) (by first | exact Or.inl rfl | exact Or.inr (Or.inl rfl) | exact Or.inr (Or.inr rfl)) (by decide) (by decide)) (@pa_nil _) (by rfl)) (by rfl))) (by rfl) (by first | exact .inl rfl | exact .inr rfl | assumption))) (@pss_one _ _ _ (@ps_if _ _ _ _ _ _ _ _ (@pt_cmpR _ _ _ _ _ _ _ _ op_lt (@pv _ 7 _ _ (by rfl) (by first | exact Or.inl rfl | exact Or.inr (Or.inl rfl) | exact Or.inr (Or.inr rfl)) (by decide) (by decide)) (@pe_callBu _ _ _ _ _ _ _ _ _ call_lenS rfl m_len PySem.boot_len (@pa_u _ _ _ _ _ (@pv _ 4 _ _ (by rfl) (by first | exact Or.inl rfl | exact Or.inr (Or.inl rfl) | exact Or.inr (Or.inr rfl)) (by decide) (by decide)) (@pa_nil _) (by rfl)) (by rfl) (by decide) (by decide)) (nomark _)) (@pss_one _ _ _ (@ps_set _ _ 9 _ _ _ _ sc_law.nd rfl (Or.inl rfl) (@pe_tup _ _ _ _ _ (@pa_u _ _ _ _ _ (@pe_str _ _ _ _) (@pa_u _ _ _ _ _ (@pv _ 7 _ _ (by rfl) (by first | exact Or.inl rfl | exact Or.inr (Or.inl rfl) | exact Or.inr (Or.inr rfl)) (by decide) (by decide)) (@pa_nil _) (by rfl)) (by rfl))) (by rfl) (by first | exact .inl rfl | exact .inr rfl | assumption))) (@pss_nil _)))) 
      (@pss_cons _ _ _ _ _ (@ps_set _ _ 10 _ _ _ _ sc_law.nd rfl (Or.inl rfl) (@pe_callD _ _ _ _ _ _ _ _ _ _ d_law_told hr rfl (@pa_u _ _ _ _ _ (@pe_bm _ _ _ _ _ _ _ _ _ _ _ _ PySem.F.plainAttrs_str PySem.F.slot_str_join PySem.F.type_str_join mt_join (@pe_str _ _ _ _) (@pa_u _ _ _ _ _ (@pv _ 4 _ _ (by rfl) (by first | exact Or.inl rfl | exact Or.inr (Or.inl rfl) | exact Or.inr (Or.inr rfl)) (by decide) (by decide)) (@pa_nil _) (by rfl)) (by rfl) (by rfl) (by rfl) (by rfl) (by rfl)) (@pa_nil _) (by rfl)) (by rfl) (by decide)) (by rfl) (by first | exact .inl rfl | exact .inr rfl | assumption)) (@pss_one _ _ _ (@ps_if _ _ _ _ _ _ _ _ (@PW.pt _ _ _ (@pw_or _ _ _ _ _ _ _ (@pt_cmpR _ _ _ _ _ _ _ _ (op_neD hr) (@pv _ 10 _ _ (by rfl) (by first | exact Or.inl rfl | exact Or.inr (Or.inl rfl) | exact Or.inr (Or.inr rfl)) (by decide) (by decide)) (@pv _ 9 _ _ (by rfl) (by first | exact Or.inl rfl | exact Or.inr (Or.inl rfl) | exact Or.inr (Or.inr rfl)) (by decide) (by decide)) (nomark _)) (@pw_or1 _ _ _ _ (@pt_val _ _ _ (@pe_callBu _ _ _ _ _ _ _ _ _ call_isi rfl m_isinstance bt_isinstance (@pa_u _ _ _ _ _ (@pe_ix _ _ _ _ _ _ _ ix_tup (@pv _ 10 _ _ (by rfl) (by first | exact Or.inl rfl | exact Or.inr (Or.inl rfl) | exact Or.inr (Or.inr rfl)) (by decide) (by decide)) (@pe_int _ _ _ _) (fun _ _ => rfl)) (@pa_u _ _ _ _ _ (@pe_bltn _ _ (.ty "bool") _ _ rfl m_bool bt_bool rfl (by decide) (by decide)) (@pa_nil _) (by rfl)) (by rfl)) (by rfl) (by decide) (by decide)) (by intro _; rfl))))) (@pss_one _ _ _ (@ps_ret _ _ _ _ (@pe_bl _ _ _ _))) (@pss_nil _))))))))) (by intro _; rfl)) (@pss_one _ _ _ (@ps_ret _ _ _ _ (@pe_bl _ _ _ _))))))), rfl, ?_⟩
  walk_at "cl"
  walk_at "st"
  refine ⟨a, rfl, hs, fun t H1 T => ?_⟩
  walk_at "st"
  refine ⟨t, rfl, T, fun r1 v1 H2 ok1 dp1 sz1 c2 d1 => ?_⟩
  walk_at "rd"
  refine ⟨r1, v1, rfl, .of d1, ok1, by omega, sz1, fun W1 H3 S3 hW1 hW3 => ?_⟩
  have hl1 := words_len r1
  have C3 := c2.same S3
  walk_at "rd"
  have hW1t : W1 ≠ t := c2.ne hW1
  refine r_cut (fun σ' H' => ∃ W ws, σ' = [some (.ref a), some (.ref t), some (.ref W), none, none, none, none, none, none, none, none] ∧ Cur K ns t H1 H' ∧ H' W = some (.lst (sV ws)) ∧ W ≠ t ∧ ws ≠ [] ∧ ws.length ≤ 100 ∧ ∀ x ∈ ws, Wok x) (fun M' hM => ?_) ?_
  · walk_at "rd"
    refine draw_of C3.tape fun r2 H4 r20 r21 c4 => ?_
    have C4 := C3.then c4
    walk_at "rd"
    refine ite2 (fun _ => ?_) (fun _ => ?_)
    · refine ⟨small6 (by simp), fun p5 hp5 => ?_⟩
      have C5 := C4.new hp5 (.lst [V.int 9, V.int 10, V.int 11, V.int 12, V.int 15])
      have h5 : (upd H4 p5 (.lst [V.int 9, V.int 10, V.int 11, V.int 12, V.int 15])) p5 = some (.lst [V.int 9, V.int 10, V.int 11, V.int 12, V.int 15]) := upd_same
      have n5 : p5 ≠ t := C4.ne hp5
      generalize upd H4 p5 (.lst [V.int 9, V.int 10, V.int 11, V.int 12, V.int 15]) = H5 at C5 h5 ⊢
      refine draw_of C5.tape fun r3 H6 r30 r31 c6 => ?_
      have C6 := C5.then c6
      have h6 := c6.ext _ _ (fun e => absurd e n5) h5
      obtain ⟨mm, hat, hm⟩ : ∃ mm : Nat, atI [V.int 9, V.int 10, V.int 11, V.int 12, V.int 15] r3 = some (V.int mm) ∧ mm ≤ 15 := by
        have : r3 = 0 ∨ r3 = 1 ∨ r3 = 2 ∨ r3 = 3 ∨ r3 = 4 := by omega
        rcases this with rfl | rfl | rfl | rfl | rfl
        · exact ⟨9, atI_nat (j := 0) rfl, by decide⟩
        · exact ⟨10, atI_nat (j := 1) rfl, by decide⟩
        · exact ⟨11, atI_nat (j := 2) rfl, by decide⟩
        · exact ⟨12, atI_nat (j := 3) rfl, by decide⟩
        · exact ⟨15, atI_nat (j := 4) rfl, by decide⟩
      walk_at "rd"
      refine ⟨_, .of h6, _, hat, ?_⟩
      walk_at "rd"
      refine ⟨t, mm, 4, rfl, by decide, by decide, by show mm + 1 ≤ 16; omega, C6.tape, fun r7 v7 H7 ok7 dp7 sz7 c7 d7 => ?_⟩
      have C7 := C6.then c7
      walk_at "rd"
      refine ⟨r7, v7, rfl, .of d7, ok7, by omega, by omega, fun W8 H8 S8 hW8 hW8' => ?_⟩
      walk_at "rd"
      have hl7 := words_len r7
      exact hM _ _ ⟨W8, words r7, rfl, C7.same S8, hW8', C7.ne hW8, words_ne r7, by omega, words_wok ok7⟩
    · walk_at "rd"
      exact hM _ _ ⟨W1, words r1, rfl, C4, c4.ext _ _ (fun e => absurd e hW1t) hW3, hW1t, words_ne r1, by omega, words_wok ok1⟩
  rintro _ H4 ⟨W, ws, rfl, C4, hW4, hWt, hne, hlen, hok⟩
  walk_at "st"
  refine ⟨_, rfl, by decide, by decide, rng_of (fun i σ' H' => (∃ x3 x4 x5 x6 x7 x8 x9 x10 : Option V, σ' = [some (.ref a), some (.ref t), some (.ref W), x3, x4, x5, x6, x7, x8, x9, x10]) ∧ Cur K ns t H1 H' ∧ H' W = some (.lst (sV ws))) ⟨⟨_, _, _, _, _, _, _, _, rfl⟩, C4, hW4⟩ ?_ ?_⟩
  · rintro Pv hP i _ H5 hi ⟨⟨x3, x4, x5, x6, x7, x8, x9, x10, rfl⟩, C5, hW5⟩
    walk_at "rd"
    walk_at "st"
    walk_at "st"
    refine ⟨small6 (by simp), fun p6 hp6 => ?_⟩
    have C6 := C5.new hp6 (.lst [V.int 1, V.int 1, V.int 2, V.int 0])
    have h6 : (upd H5 p6 (.lst [V.int 1, V.int 1, V.int 2, V.int 0])) p6 = some (.lst [V.int 1, V.int 1, V.int 2, V.int 0]) := upd_same
    have hW6 := same_new hp6 (.lst [V.int 1, V.int 1, V.int 2, V.int 0]) _ _ hW5
    have n6 : p6 ≠ t := C5.ne hp6
    generalize upd H5 p6 (.lst [V.int 1, V.int 1, V.int 2, V.int 0]) = H6 at C6 h6 hW6 ⊢
    refine draw_of C6.tape fun r7 H7 r70 r71 c7 => ?_
    have C7 := C6.then c7
    have h7 := c7.ext _ _ (fun e => absurd e n6) h6
    have hW7 := c7.ext _ _ (fun e => absurd e hWt) hW6
    obtain ⟨mm, hat, hm⟩ : ∃ mm : Nat, atI [V.int 1, V.int 1, V.int 2, V.int 0] r7 = some (V.int mm) ∧ mm ≤ 2 := by
      have : r7 = 0 ∨ r7 = 1 ∨ r7 = 2 ∨ r7 = 3 := by omega
      rcases this with rfl | rfl | rfl | rfl
      · exact ⟨1, atI_nat (j := 0) rfl, by decide⟩
      · exact ⟨1, atI_nat (j := 1) rfl, by decide⟩
      · exact ⟨2, atI_nat (j := 2) rfl, by decide⟩
      · exact ⟨0, atI_nat (j := 3) rfl, by decide⟩
    walk_at "rd"
    refine ⟨_, .of h7, _, hat, ?_⟩
    walk_at "rd"
    refine ⟨_, rfl, by omega, by omega, rng_of (fun j σ' H' => ∃ (B : Addr) (bs : List Str) (x5' : Option V), σ' = [some (.ref a), some (.ref t), some (.ref W), some (.int (0 + (i : Int))), some (.ref B), x5', x6, x7, x8, x9, x10] ∧ Cur K ns t H1 H' ∧ H' W = some (.lst (sV ws)) ∧ H' B = some (.lst (sV bs)) ∧ bs ≠ [] ∧ bs.length ≤ 100 + j ∧ (∀ x ∈ bs, Wok x)) ⟨W, ws, x5, rfl, C7, hW7, hW7, hne, by omega, hok⟩ ?_ ?_⟩
    · rintro Pb hPb j _ H8 hj ⟨B, bs, x5', rfl, C8, hW8, hB8, hbne, hbl, hbok⟩
      walk_at "rd"
      refine ⟨t, B, bs, rfl, C8.tape, hB8, tape_no C8.tape hB8 hbne, hbne, by omega, hbok, fun D ws' H9 c9 hD hne' hl' hok' => ?_⟩
      walk_at "rd"
      exact hPb _ _ _ ⟨D, ws', _, rfl, C8.then c9, c9.ext _ _ (fun e => absurd e hWt) hW8, hD, hne', by omega, hok'⟩
    · rintro _ H8 ⟨B, bs, x5', rfl, C8, hW8, hB8, hbne, hbl, hbok⟩
      have hm2 : ((mm : Int)).toNat = mm := by omega
      rw [hm2] at hbl
      walk_at "st"
      refine lread_of hB8 hbok (by omega) fun a9 rv s9 m9 d H9 S9 hrv hdd ha9 hres => ?_
      walk_at "rd"
      refine ⟨_, _, rfl, ha9, rfl, ?_⟩
      walk_at "rd"
      walk_at "st"
      refine ⟨small6 (by simp), fun p10 hp10 => ?_⟩
      have S10 := S9.trans (same_new hp10 (.tup [V.str (Str.ofString "rule"), rv]))
      have h10 : (upd H9 p10 (.tup [V.str (Str.ofString "rule"), rv])) p10 = some (.tup [V.str (Str.ofString "rule"), rv]) := upd_same
      have hrv10 := Same.dt hrv (same_new hp10 (.tup [V.str (Str.ofString "rule"), rv]))
      generalize upd H9 p10 (.tup [V.str (Str.ofString "rule"), rv]) = H10 at S10 h10 hrv10 ⊢
      have hB10 := S10 _ _ hB8
      refine r_cut (fun σ' H' => ∃ dv : V, σ' = [some (.ref a), some (.ref t), some (.ref W), some (.int (0 + (i : Int))), some (.ref B), x5', some rv, some (.int s9), some (.int m9), some dv, x10] ∧ Same H8 H' ∧ Dt K 0 H' (dueD (rdA bs)) dv) (fun M' hM => ?_) ?_
      · have mkbad : rdA bs = .inl s9 → ∀ p H', Same H8 H' → H' p = none → M' [some (.ref a), some (.ref t), some (.ref W), some (.int (0 + (i : Int))), some (.ref B), x5', some rv, some (.int s9), some (.int m9), some (.ref p), x10] (upd H' p (.tup [V.str (Str.ofString "bad"), V.int s9])) := fun e p H' S hp => hM _ _ ⟨_, rfl, S.trans (same_new hp _), by rw [e]; exact .newT hp (.cons (dstr "bad") (.cons (.int _) .nil))⟩
        walk_at "rd"
        refine eqF_of (t := 0) (e := .str "bad") hrv10 (dstr "bad") (Nat.le_trans (Nat.min_le_left ..) (by omega)) ?_
        rcases hres with ⟨rfl, hA⟩ | ⟨rl, rfl, hA⟩
        · rw [show PyData.eqv (.str "bad") (.str "bad") = true by decide +kernel]
          walk_at "rd"
          exact ⟨small6 (by simp), fun p hp => mkbad hA p _ S10 hp⟩
        · rw [enc_bad]
          walk_at "rd"
          refine len_of (.of hB10) ?_
          walk_at "rd"
          rw [sV_len]
          by_cases e : s9 < bs.length
          · rw [if_pos e] at hA
            rw [if_pos (by omega)]
            exact ⟨small6 (by simp), fun p hp => mkbad hA p _ S10 hp⟩
          · rw [if_neg e] at hA
            rw [if_neg (by omega)]
            walk_at "rd"
            exact hM _ _ ⟨_, rfl, S10, by rw [hA]; exact .tup (.of h10) (.cons (dstr "rule") (.cons hrv10 .nil))⟩
      · rintro _ H11 ⟨dv, rfl, S11, hdv⟩
        have hB11 := S11 _ _ hB8
        have hdd2 : (dueD (rdA bs)).depth ≤ 100 := by
          rcases hres with ⟨_, hA⟩ | ⟨rl, rfl, hA⟩
          · rw [hA]; simp [dueD, PyData.depth, PyData.depthAll]
          · rw [hA]; split <;> simp [dueD, PyData.depth, PyData.depthAll] <;> omega
        walk_at "st"
        refine ⟨rfl, _, B, bs, rfl, rfl, .of hB11, by rw [blank_eq]; exact join_ok (n := 20) (m := 200) (fun x hx => (hbok x hx).1) (by omega) (by decide), ?_⟩
        rw [show Txt.join (Str.ofString " ") bs = Str.join blank bs by rw [blank_eq]; exact StrLaws.glued_eq_join ..]
        refine told_of hbne (by omega) hbok fun a12 v12 H12 S12 ⟨u12, h12⟩ hd12 hb12 => ?_
        walk_at "rd"
        refine neD_of (t := 0) hd12 (Same.dt hdv S12) (Nat.le_trans (Nat.min_le_left ..) hdd2) ?_
        rw [eqv_due]
        walk_at "rd"
        refine ⟨_, h12, _, atI_nat (j := 1) rfl, ?_⟩
        obtain ⟨dx, hdx, hnb⟩ := hb12
        refine isi_of (t := 0) hdx ?_
        walk_at "rd"
        rw [if_neg (by rw [hnb]; decide)]
        walk_at "rd"
        exact hP _ _ _ ⟨⟨_, _, _, _, _, _, _, _, rfl⟩, (C8.same S11).same S12, S12 _ _ (S11 _ _ hW8)⟩
  · rintro _ H5 ⟨⟨x3, x4, x5, x6, x7, x8, x9, x10, rfl⟩, C5, hW5⟩
    walk_at "rd"
    exact q _
end
set_option genInjectivity false in
set_option genSizeOf false in
structure Txt (K : PySem.W.Frag) (mg : Str → Option Value) (p_POINT : Addr) (C_RuleReader : Addr) (C_ScoreError : Addr) (C_NoThrow : Addr) (C_NoPins : Addr) (C_NoSide : Addr) (C_Over : Addr) (C_NoGame : Addr) (C_NoDeed : Addr) (C_TooMany : Addr) (C_NoLine : Addr) (C_BadWord : Addr) (C_Falls : Addr) : Prop where
  F_BadWord___init__ : Ei K mg "BadWord" "BadWord.__init__" C_BadWord s_BadWord___init__ ["self", "at"]
  F_writes_whole : Df K mg "writes_whole" s_writes_whole ["word", "least", "most"]
  F_read_rule : Df K mg "read_rule" s_read_rule ["text"]
  F_RuleReader___init__ : Ci K mg "RuleReader" "RuleReader.__init__" C_RuleReader s_RuleReader___init__ ["self", "words"]
  F_RuleReader_refuse_more : Dm K C_RuleReader "refuse_more" "RuleReader.refuse_more" s_RuleReader_refuse_more ["self"]
  F_RuleReader_word_here : Dm K C_RuleReader "word_here" "RuleReader.word_here" s_RuleReader_word_here ["self"]
  F_RuleReader_read_part : Dm K C_RuleReader "read_part" "RuleReader.read_part" s_RuleReader_read_part ["self", "room"]
  F_RuleReader_read_unit : Dm K C_RuleReader "read_unit" "RuleReader.read_unit" s_RuleReader_read_unit ["self", "room"]
  F_RuleReader_read_number : Dm K C_RuleReader "read_number" "RuleReader.read_number" s_RuleReader_read_number ["self", "least"]
  F_RuleReader_read_cap : Dm K C_RuleReader "read_cap" "RuleReader.read_cap" s_RuleReader_read_cap ["self", "to"]
  F_RuleReader_read_last : Dm K C_RuleReader "read_last" "RuleReader.read_last" s_RuleReader_read_last ["self", "cap", "room"]
  F_law_tape : Df K mg "_law_tape" s_law_tape ["_law_script"]
  F_law_draw : Df K mg "_law_draw" s_law_draw ["_law_tape_here", "_law_many"]
  F_law_unit : Df K mg "_law_unit" s_law_unit ["_law_tape_here", "_law_deep", "_law_thin"]
  F_law_rule : Df K mg "_law_rule" s_law_rule ["_law_tape_here", "_law_deep", "_law_thin"]
  F_law_any_rule : Df K mg "_law_any_rule" s_law_any_rule ["_law_tape_here"]
  F_law_full : Df K mg "_law_full" s_law_full ["_law_tape_here", "_law_many", "_law_deep"]
  F_law_words : Df K mg "_law_words" s_law_words ["_law_rule_here"]
  F_law_bent : Df K mg "_law_bent" s_law_bent ["_law_tape_here", "_law_words_here"]
  F_law_number : Df K mg "_law_number" s_law_number ["_law_word"]
  F_law_read : Df K mg "_law_read" s_law_read ["_law_words_here", "_law_at", "_law_deep", "_law_many"]
  F_law_told : Df K mg "_law_told" s_law_told ["_law_text"]
  m_ValueError : mg "ValueError" = none
  m_all : mg "all" = none
  m_bool : mg "bool" = none
  m_int : mg "int" = none
  m_isinstance : mg "isinstance" = none
  m_len : mg "len" = none
  m_min : mg "min" = none
  m_range : mg "range" = none
  m_str : mg "str" = none
  m_tuple : mg "tuple" = none
  g_MOST : Gc mg "MOST" (.int 99)
  g_MOST_UNITS : Gc mg "MOST_UNITS" (.int 10)
  g_MOST_DEPTH : Gc mg "MOST_DEPTH" (.int 4)
  g_POINT : Gc mg "POINT" (.ref p_POINT)
  t_POINT : ∀ H : Hp, SqT K H p_POINT [.str "point"]
  c_RuleReader : Cls K C_RuleReader
  n_RuleReader_spot : NoAttr K C_RuleReader "spot"
  n_RuleReader_unit_count : NoAttr K C_RuleReader "unit_count"
  n_RuleReader_words : NoAttr K C_RuleReader "words"
  mc_ScoreError : mg "ScoreError" = some (.ref C_ScoreError)
  oe_ScoreError : OwnE K C_ScoreError
  g_NoThrow : Gc mg "NoThrow" (.ref C_NoThrow)
  g_NoPins : Gc mg "NoPins" (.ref C_NoPins)
  g_NoSide : Gc mg "NoSide" (.ref C_NoSide)
  g_Over : Gc mg "Over" (.ref C_Over)
  g_NoGame : Gc mg "NoGame" (.ref C_NoGame)
  g_NoDeed : Gc mg "NoDeed" (.ref C_NoDeed)
  g_TooMany : Gc mg "TooMany" (.ref C_TooMany)
  g_NoLine : Gc mg "NoLine" (.ref C_NoLine)
  g_BadWord : Gc mg "BadWord" (.ref C_BadWord)
  er_BadWord : ErrC K C_BadWord
  ea_BadWord_at : ErrA K C_BadWord "at"
  sS_BadWord_ScoreError : PySem.W.subIn K (.ref C_BadWord) (.ref C_ScoreError) = some true
  ki_BadWord_NoThrow : PySem.W.kitOne K (.ref C_BadWord) (.ref C_NoThrow) = some false
  ki_BadWord_NoPins : PySem.W.kitOne K (.ref C_BadWord) (.ref C_NoPins) = some false
  ki_BadWord_NoSide : PySem.W.kitOne K (.ref C_BadWord) (.ref C_NoSide) = some false
  ki_BadWord_Over : PySem.W.kitOne K (.ref C_BadWord) (.ref C_Over) = some false
  ki_BadWord_NoGame : PySem.W.kitOne K (.ref C_BadWord) (.ref C_NoGame) = some false
  ki_BadWord_NoDeed : PySem.W.kitOne K (.ref C_BadWord) (.ref C_NoDeed) = some false
  ki_BadWord_TooMany : PySem.W.kitOne K (.ref C_BadWord) (.ref C_TooMany) = some false
  ki_BadWord_NoLine : PySem.W.kitOne K (.ref C_BadWord) (.ref C_NoLine) = some false
  ki_BadWord_BadWord : PySem.W.kitOne K (.ref C_BadWord) (.ref C_BadWord) = some true
  ki_BadWord_Falls : PySem.W.kitOne K (.ref C_BadWord) (.ref C_Falls) = some false
  kv_BadWord : PySem.W.kitOne K (.ref C_BadWord) (.type "ValueError") = some true
  g_Falls : Gc mg "Falls" (.ref C_Falls)
theorem txt_mk {K : PySem.W.Frag} {h : Heap} {mg : Str → Option Value} {fa : Addr} (X : K.In h) (G : h.Ns mainGlobals mg) (hfa : mg "law" = some (.ref fa))
    {f1 : Addr} {od1 an1 : Option Addr} {sl1 : Array (Option Value)} {oc1 kV1 dc1 pm1 cd1 ct1 : Value}
    {f2 : Addr} {od2 an2 : Option Addr} {sl2 : Array (Option Value)} {oc2 kV2 dc2 pm2 cd2 ct2 : Value}
    {f3 : Addr} {od3 an3 : Option Addr} {sl3 : Array (Option Value)} {oc3 kV3 dc3 pm3 cd3 ct3 : Value}
    {f4 : Addr} {od4 an4 : Option Addr} {sl4 : Array (Option Value)} {oc4 kV4 dc4 pm4 cd4 ct4 : Value}
    {f5 : Addr} {od5 an5 : Option Addr} {sl5 : Array (Option Value)} {oc5 kV5 dc5 pm5 cd5 ct5 : Value}
    {f6 : Addr} {od6 an6 : Option Addr} {sl6 : Array (Option Value)} {oc6 kV6 dc6 pm6 cd6 ct6 : Value}
    {f7 : Addr} {od7 an7 : Option Addr} {sl7 : Array (Option Value)} {oc7 kV7 dc7 pm7 cd7 ct7 : Value}
    {f8 : Addr} {od8 an8 : Option Addr} {sl8 : Array (Option Value)} {oc8 kV8 dc8 pm8 cd8 ct8 : Value}
    {f9 : Addr} {od9 an9 : Option Addr} {sl9 : Array (Option Value)} {oc9 kV9 dc9 pm9 cd9 ct9 : Value}
    {f10 : Addr} {od10 an10 : Option Addr} {sl10 : Array (Option Value)} {oc10 kV10 dc10 pm10 cd10 ct10 : Value}
    {f11 : Addr} {od11 an11 : Option Addr} {sl11 : Array (Option Value)} {oc11 kV11 dc11 pm11 cd11 ct11 : Value}
    {f12 : Addr} {od12 an12 : Option Addr} {sl12 : Array (Option Value)} {oc12 kV12 dc12 pm12 cd12 ct12 : Value}
    {f13 : Addr} {od13 an13 : Option Addr} {sl13 : Array (Option Value)} {oc13 kV13 dc13 pm13 cd13 ct13 : Value}
    {f14 : Addr} {od14 an14 : Option Addr} {sl14 : Array (Option Value)} {oc14 kV14 dc14 pm14 cd14 ct14 : Value}
    {f15 : Addr} {od15 an15 : Option Addr} {sl15 : Array (Option Value)} {oc15 kV15 dc15 pm15 cd15 ct15 : Value}
    {f16 : Addr} {od16 an16 : Option Addr} {sl16 : Array (Option Value)} {oc16 kV16 dc16 pm16 cd16 ct16 : Value}
    {f17 : Addr} {od17 an17 : Option Addr} {sl17 : Array (Option Value)} {oc17 kV17 dc17 pm17 cd17 ct17 : Value}
    {f18 : Addr} {od18 an18 : Option Addr} {sl18 : Array (Option Value)} {oc18 kV18 dc18 pm18 cd18 ct18 : Value}
    {f19 : Addr} {od19 an19 : Option Addr} {sl19 : Array (Option Value)} {oc19 kV19 dc19 pm19 cd19 ct19 : Value}
    {f20 : Addr} {od20 an20 : Option Addr} {sl20 : Array (Option Value)} {oc20 kV20 dc20 pm20 cd20 ct20 : Value}
    {f21 : Addr} {od21 an21 : Option Addr} {sl21 : Array (Option Value)} {oc21 kV21 dc21 pm21 cd21 ct21 : Value}
    {f22 : Addr} {od22 an22 : Option Addr} {sl22 : Array (Option Value)} {oc22 kV22 dc22 pm22 cd22 ct22 : Value}
    {f23 : Addr} {od23 an23 : Option Addr} {sl23 : Array (Option Value)} {oc23 kV23 dc23 pm23 cd23 ct23 : Value}
    {tk_MOST : Tok}
    {tk_MOST_UNITS : Tok}
    {tk_MOST_DEPTH : Tok}
    {p_POINT n_POINT : Nat} {o_POINT : Option Addr} {s_POINT : Array (Option Value)} {tk_POINT0 : Tok}
    {C_RuleReader : Addr}
    {C_ScoreError : Addr}
    {C_NoThrow : Addr}
    {C_NoPins : Addr}
    {C_NoSide : Addr}
    {C_Over : Addr}
    {C_NoGame : Addr}
    {C_NoDeed : Addr}
    {C_TooMany : Addr}
    {C_NoLine : Addr}
    {C_BadWord : Addr}
    {C_Falls : Addr}
    {cdNoThrow : ClassData}
    {cdNoPins : ClassData}
    {cdNoSide : ClassData}
    {cdOver : ClassData}
    {cdNoGame : ClassData}
    {cdNoDeed : ClassData}
    {cdTooMany : ClassData}
    {cdNoLine : ClassData}
    {cdBadWord : ClassData}
    {cdFalls : ClassData}
    (aX_ScoreError : PySem.W.nsIn K mainGlobals "ScoreError" = some (some (.ref C_ScoreError)))
    (aX_NoThrow : PySem.W.nsIn K mainGlobals "NoThrow" = some (some (.ref C_NoThrow)))
    (aX_NoPins : PySem.W.nsIn K mainGlobals "NoPins" = some (some (.ref C_NoPins)))
    (aX_NoSide : PySem.W.nsIn K mainGlobals "NoSide" = some (some (.ref C_NoSide)))
    (aX_Over : PySem.W.nsIn K mainGlobals "Over" = some (some (.ref C_Over)))
    (aX_NoGame : PySem.W.nsIn K mainGlobals "NoGame" = some (some (.ref C_NoGame)))
    (aX_NoDeed : PySem.W.nsIn K mainGlobals "NoDeed" = some (some (.ref C_NoDeed)))
    (aX_TooMany : PySem.W.nsIn K mainGlobals "TooMany" = some (some (.ref C_TooMany)))
    (aX_NoLine : PySem.W.nsIn K mainGlobals "NoLine" = some (some (.ref C_NoLine)))
    (aX_BadWord : PySem.W.nsIn K mainGlobals "BadWord" = some (some (.ref C_BadWord)))
    (aX_Falls : PySem.W.nsIn K mainGlobals "Falls" = some (some (.ref C_Falls)))
    (eX_ScoreError : excInX K C_ScoreError none = true)
    (cd_NoThrow : PySem.W.clsIn K C_NoThrow = some cdNoThrow) (ty_NoThrow : PySem.W.typeIn K (.ref C_NoThrow) = some (.type "type"))
    (cd_NoPins : PySem.W.clsIn K C_NoPins = some cdNoPins) (ty_NoPins : PySem.W.typeIn K (.ref C_NoPins) = some (.type "type"))
    (cd_NoSide : PySem.W.clsIn K C_NoSide = some cdNoSide) (ty_NoSide : PySem.W.typeIn K (.ref C_NoSide) = some (.type "type"))
    (cd_Over : PySem.W.clsIn K C_Over = some cdOver) (ty_Over : PySem.W.typeIn K (.ref C_Over) = some (.type "type"))
    (cd_NoGame : PySem.W.clsIn K C_NoGame = some cdNoGame) (ty_NoGame : PySem.W.typeIn K (.ref C_NoGame) = some (.type "type"))
    (cd_NoDeed : PySem.W.clsIn K C_NoDeed = some cdNoDeed) (ty_NoDeed : PySem.W.typeIn K (.ref C_NoDeed) = some (.type "type"))
    (cd_TooMany : PySem.W.clsIn K C_TooMany = some cdTooMany) (ty_TooMany : PySem.W.typeIn K (.ref C_TooMany) = some (.type "type"))
    (cd_NoLine : PySem.W.clsIn K C_NoLine = some cdNoLine) (ty_NoLine : PySem.W.typeIn K (.ref C_NoLine) = some (.type "type"))
    (f1_BadWord : PySem.W.findIn K (.ref C_BadWord) "__getattribute__" = some (some (.builtin "BaseException.__getattribute__"))) (f2_BadWord : PySem.W.findIn K (.ref C_BadWord) "__getattr__" = some none) (f3_BadWord : PySem.W.findIn K (.ref C_BadWord) "__class__" = some (some (.builtin "object.__class__"))) (f4_BadWord : PySem.W.mroIn K C_BadWord (.type "object") = some true) (f5_BadWord : PySem.W.subIn K (.ref C_BadWord) (.type "BaseException") = some true)
    (e1_BadWord_at : PySem.W.findIn K (.ref C_BadWord) "__setattr__" = some (some (.builtin "object.__setattr__"))) (e2_BadWord_at : PySem.W.findIn K (.ref C_BadWord) "at" = some none) (e3_BadWord_at : PySem.W.hasDictIn K C_BadWord = true) (e4_BadWord_at : (PySem.W.clsIn K C_BadWord).any (fun cd => ownThenVE cd.mro) = true) (e5_BadWord_at : PySem.W.mroIn K C_BadWord (.type "object") = some true)
    (cd_BadWord : PySem.W.clsIn K C_BadWord = some cdBadWord) (ty_BadWord : PySem.W.typeIn K (.ref C_BadWord) = some (.type "type"))
    (sS_BadWord_ScoreError : PySem.W.subIn K (.ref C_BadWord) (.ref C_ScoreError) = some true)
    (su_BadWord_NoThrow : PySem.W.subIn K (.ref C_BadWord) (.ref C_NoThrow) = some false)
    (ne_BadWord_NoThrow : C_BadWord ≠ C_NoThrow)
    (su_BadWord_NoPins : PySem.W.subIn K (.ref C_BadWord) (.ref C_NoPins) = some false)
    (ne_BadWord_NoPins : C_BadWord ≠ C_NoPins)
    (su_BadWord_NoSide : PySem.W.subIn K (.ref C_BadWord) (.ref C_NoSide) = some false)
    (ne_BadWord_NoSide : C_BadWord ≠ C_NoSide)
    (su_BadWord_Over : PySem.W.subIn K (.ref C_BadWord) (.ref C_Over) = some false)
    (ne_BadWord_Over : C_BadWord ≠ C_Over)
    (su_BadWord_NoGame : PySem.W.subIn K (.ref C_BadWord) (.ref C_NoGame) = some false)
    (ne_BadWord_NoGame : C_BadWord ≠ C_NoGame)
    (su_BadWord_NoDeed : PySem.W.subIn K (.ref C_BadWord) (.ref C_NoDeed) = some false)
    (ne_BadWord_NoDeed : C_BadWord ≠ C_NoDeed)
    (su_BadWord_TooMany : PySem.W.subIn K (.ref C_BadWord) (.ref C_TooMany) = some false)
    (ne_BadWord_TooMany : C_BadWord ≠ C_TooMany)
    (su_BadWord_NoLine : PySem.W.subIn K (.ref C_BadWord) (.ref C_NoLine) = some false)
    (ne_BadWord_NoLine : C_BadWord ≠ C_NoLine)
    (su_BadWord_BadWord : PySem.W.subIn K (.ref C_BadWord) (.ref C_BadWord) = some true)
    (su_BadWord_Falls : PySem.W.subIn K (.ref C_BadWord) (.ref C_Falls) = some false)
    (ne_BadWord_Falls : C_BadWord ≠ C_Falls)
    (sv_BadWord : PySem.W.subIn K (.ref C_BadWord) (.type "ValueError") = some true)
    (cd_Falls : PySem.W.clsIn K C_Falls = some cdFalls) (ty_Falls : PySem.W.typeIn K (.ref C_Falls) = some (.type "type"))
    (aC_RuleReader : PySem.W.nsIn K mainGlobals "RuleReader" = some (some (.ref C_RuleReader))) (pg_RuleReader : PySem.W.plainGet K C_RuleReader Str.empty = true) (hd_RuleReader : PySem.W.hasDictIn K C_RuleReader = true) (po_RuleReader : PySem.W.plainOver K C_RuleReader = true) (sa_RuleReader : PySem.W.findIn K (.ref C_RuleReader) "__setattr__" = some (some (.builtin "object.__setattr__"))) (mk_RuleReader : PySem.W.makesIn K C_RuleReader = true) (kc_RuleReader : PySem.W.keepIn K (.ref C_RuleReader) = true)
    (a1 : PySem.W.findIn K (.ref C_BadWord) "__init__" = some (some (.ref f1))) (i1 : PySem.W.isFn K (.ref f1) = true) (l1 : K.lookup f1 = some ⟨oc1, od1, .func (PySem.W.fnOf "__init__" "BadWord.__init__" (defArgs s_BadWord___init__) (defBody s_BadWord___init__) (defScope s_BadWord___init__) .none kV1 dc1 pm1 an1 cd1 ct1), sl1⟩) (c1 : PySem.W.codeIn K cd1 "BadWord.__init__" = true) (k1 : PySem.W.keepIn K (.ref f1) = true)
    (ei_BadWord : excInX K C_BadWord (some (.ref f1)) = true)
    (a2 : PySem.W.nsIn K mainGlobals "writes_whole" = some (some (.ref f2))) (l2 : K.lookup f2 = some ⟨oc2, od2, .func (PySem.W.fnOf "writes_whole" "writes_whole" (defArgs s_writes_whole) (defBody s_writes_whole) (defScope s_writes_whole) .none kV2 dc2 pm2 an2 cd2 ct2), sl2⟩) (c2 : PySem.W.codeIn K cd2 "writes_whole" = true) (k2 : PySem.W.keepIn K (.ref f2) = true)
    (a3 : PySem.W.nsIn K mainGlobals "read_rule" = some (some (.ref f3))) (l3 : K.lookup f3 = some ⟨oc3, od3, .func (PySem.W.fnOf "read_rule" "read_rule" (defArgs s_read_rule) (defBody s_read_rule) (defScope s_read_rule) .none kV3 dc3 pm3 an3 cd3 ct3), sl3⟩) (c3 : PySem.W.codeIn K cd3 "read_rule" = true) (k3 : PySem.W.keepIn K (.ref f3) = true)
    (a4 : PySem.W.findIn K (.ref C_RuleReader) "__init__" = some (some (.ref f4))) (i4 : PySem.W.isFn K (.ref f4) = true) (l4 : K.lookup f4 = some ⟨oc4, od4, .func (PySem.W.fnOf "__init__" "RuleReader.__init__" (defArgs s_RuleReader___init__) (defBody s_RuleReader___init__) (defScope s_RuleReader___init__) .none kV4 dc4 pm4 an4 cd4 ct4), sl4⟩) (c4 : PySem.W.codeIn K cd4 "RuleReader.__init__" = true) (k4 : PySem.W.keepIn K (.ref f4) = true)
    (a5 : PySem.W.findIn K (.ref C_RuleReader) "refuse_more" = some (some (.ref f5))) (i5 : PySem.W.isFn K (.ref f5) = true) (l5 : K.lookup f5 = some ⟨oc5, od5, .func (PySem.W.fnOf "refuse_more" "RuleReader.refuse_more" (defArgs s_RuleReader_refuse_more) (defBody s_RuleReader_refuse_more) (defScope s_RuleReader_refuse_more) .none kV5 dc5 pm5 an5 cd5 ct5), sl5⟩) (c5 : PySem.W.codeIn K cd5 "RuleReader.refuse_more" = true) (k5 : PySem.W.keepIn K (.ref f5) = true)
    (a6 : PySem.W.findIn K (.ref C_RuleReader) "word_here" = some (some (.ref f6))) (i6 : PySem.W.isFn K (.ref f6) = true) (l6 : K.lookup f6 = some ⟨oc6, od6, .func (PySem.W.fnOf "word_here" "RuleReader.word_here" (defArgs s_RuleReader_word_here) (defBody s_RuleReader_word_here) (defScope s_RuleReader_word_here) .none kV6 dc6 pm6 an6 cd6 ct6), sl6⟩) (c6 : PySem.W.codeIn K cd6 "RuleReader.word_here" = true) (k6 : PySem.W.keepIn K (.ref f6) = true)
    (a7 : PySem.W.findIn K (.ref C_RuleReader) "read_part" = some (some (.ref f7))) (i7 : PySem.W.isFn K (.ref f7) = true) (l7 : K.lookup f7 = some ⟨oc7, od7, .func (PySem.W.fnOf "read_part" "RuleReader.read_part" (defArgs s_RuleReader_read_part) (defBody s_RuleReader_read_part) (defScope s_RuleReader_read_part) .none kV7 dc7 pm7 an7 cd7 ct7), sl7⟩) (c7 : PySem.W.codeIn K cd7 "RuleReader.read_part" = true) (k7 : PySem.W.keepIn K (.ref f7) = true)
    (a8 : PySem.W.findIn K (.ref C_RuleReader) "read_unit" = some (some (.ref f8))) (i8 : PySem.W.isFn K (.ref f8) = true) (l8 : K.lookup f8 = some ⟨oc8, od8, .func (PySem.W.fnOf "read_unit" "RuleReader.read_unit" (defArgs s_RuleReader_read_unit) (defBody s_RuleReader_read_unit) (defScope s_RuleReader_read_unit) .none kV8 dc8 pm8 an8 cd8 ct8), sl8⟩) (c8 : PySem.W.codeIn K cd8 "RuleReader.read_unit" = true) (k8 : PySem.W.keepIn K (.ref f8) = true)
    (a9 : PySem.W.findIn K (.ref C_RuleReader) "read_number" = some (some (.ref f9))) (i9 : PySem.W.isFn K (.ref f9) = true) (l9 : K.lookup f9 = some ⟨oc9, od9, .func (PySem.W.fnOf "read_number" "RuleReader.read_number" (defArgs s_RuleReader_read_number) (defBody s_RuleReader_read_number) (defScope s_RuleReader_read_number) .none kV9 dc9 pm9 an9 cd9 ct9), sl9⟩) (c9 : PySem.W.codeIn K cd9 "RuleReader.read_number" = true) (k9 : PySem.W.keepIn K (.ref f9) = true)
    (a10 : PySem.W.findIn K (.ref C_RuleReader) "read_cap" = some (some (.ref f10))) (i10 : PySem.W.isFn K (.ref f10) = true) (l10 : K.lookup f10 = some ⟨oc10, od10, .func (PySem.W.fnOf "read_cap" "RuleReader.read_cap" (defArgs s_RuleReader_read_cap) (defBody s_RuleReader_read_cap) (defScope s_RuleReader_read_cap) .none kV10 dc10 pm10 an10 cd10 ct10), sl10⟩) (c10 : PySem.W.codeIn K cd10 "RuleReader.read_cap" = true) (k10 : PySem.W.keepIn K (.ref f10) = true)
    (a11 : PySem.W.findIn K (.ref C_RuleReader) "read_last" = some (some (.ref f11))) (i11 : PySem.W.isFn K (.ref f11) = true) (l11 : K.lookup f11 = some ⟨oc11, od11, .func (PySem.W.fnOf "read_last" "RuleReader.read_last" (defArgs s_RuleReader_read_last) (defBody s_RuleReader_read_last) (defScope s_RuleReader_read_last) .none kV11 dc11 pm11 an11 cd11 ct11), sl11⟩) (c11 : PySem.W.codeIn K cd11 "RuleReader.read_last" = true) (k11 : PySem.W.keepIn K (.ref f11) = true)
    (a12 : PySem.W.nsIn K mainGlobals "_law_tape" = some (some (.ref f12))) (l12 : K.lookup f12 = some ⟨oc12, od12, .func (PySem.W.fnOf "_law_tape" "_law_tape" (defArgs s_law_tape) (defBody s_law_tape) (defScope s_law_tape) .none kV12 dc12 pm12 an12 cd12 ct12), sl12⟩) (c12 : PySem.W.codeIn K cd12 "_law_tape" = true) (k12 : PySem.W.keepIn K (.ref f12) = true)
    (a13 : PySem.W.nsIn K mainGlobals "_law_draw" = some (some (.ref f13))) (l13 : K.lookup f13 = some ⟨oc13, od13, .func (PySem.W.fnOf "_law_draw" "_law_draw" (defArgs s_law_draw) (defBody s_law_draw) (defScope s_law_draw) .none kV13 dc13 pm13 an13 cd13 ct13), sl13⟩) (c13 : PySem.W.codeIn K cd13 "_law_draw" = true) (k13 : PySem.W.keepIn K (.ref f13) = true)
    (a14 : PySem.W.nsIn K mainGlobals "_law_unit" = some (some (.ref f14))) (l14 : K.lookup f14 = some ⟨oc14, od14, .func (PySem.W.fnOf "_law_unit" "_law_unit" (defArgs s_law_unit) (defBody s_law_unit) (defScope s_law_unit) .none kV14 dc14 pm14 an14 cd14 ct14), sl14⟩) (c14 : PySem.W.codeIn K cd14 "_law_unit" = true) (k14 : PySem.W.keepIn K (.ref f14) = true)
    (a15 : PySem.W.nsIn K mainGlobals "_law_rule" = some (some (.ref f15))) (l15 : K.lookup f15 = some ⟨oc15, od15, .func (PySem.W.fnOf "_law_rule" "_law_rule" (defArgs s_law_rule) (defBody s_law_rule) (defScope s_law_rule) .none kV15 dc15 pm15 an15 cd15 ct15), sl15⟩) (c15 : PySem.W.codeIn K cd15 "_law_rule" = true) (k15 : PySem.W.keepIn K (.ref f15) = true)
    (a16 : PySem.W.nsIn K mainGlobals "_law_any_rule" = some (some (.ref f16))) (l16 : K.lookup f16 = some ⟨oc16, od16, .func (PySem.W.fnOf "_law_any_rule" "_law_any_rule" (defArgs s_law_any_rule) (defBody s_law_any_rule) (defScope s_law_any_rule) .none kV16 dc16 pm16 an16 cd16 ct16), sl16⟩) (c16 : PySem.W.codeIn K cd16 "_law_any_rule" = true) (k16 : PySem.W.keepIn K (.ref f16) = true)
    (a17 : PySem.W.nsIn K mainGlobals "_law_full" = some (some (.ref f17))) (l17 : K.lookup f17 = some ⟨oc17, od17, .func (PySem.W.fnOf "_law_full" "_law_full" (defArgs s_law_full) (defBody s_law_full) (defScope s_law_full) .none kV17 dc17 pm17 an17 cd17 ct17), sl17⟩) (c17 : PySem.W.codeIn K cd17 "_law_full" = true) (k17 : PySem.W.keepIn K (.ref f17) = true)
    (a18 : PySem.W.nsIn K mainGlobals "_law_words" = some (some (.ref f18))) (l18 : K.lookup f18 = some ⟨oc18, od18, .func (PySem.W.fnOf "_law_words" "_law_words" (defArgs s_law_words) (defBody s_law_words) (defScope s_law_words) .none kV18 dc18 pm18 an18 cd18 ct18), sl18⟩) (c18 : PySem.W.codeIn K cd18 "_law_words" = true) (k18 : PySem.W.keepIn K (.ref f18) = true)
    (a19 : PySem.W.nsIn K mainGlobals "_law_bent" = some (some (.ref f19))) (l19 : K.lookup f19 = some ⟨oc19, od19, .func (PySem.W.fnOf "_law_bent" "_law_bent" (defArgs s_law_bent) (defBody s_law_bent) (defScope s_law_bent) .none kV19 dc19 pm19 an19 cd19 ct19), sl19⟩) (c19 : PySem.W.codeIn K cd19 "_law_bent" = true) (k19 : PySem.W.keepIn K (.ref f19) = true)
    (a20 : PySem.W.nsIn K mainGlobals "_law_number" = some (some (.ref f20))) (l20 : K.lookup f20 = some ⟨oc20, od20, .func (PySem.W.fnOf "_law_number" "_law_number" (defArgs s_law_number) (defBody s_law_number) (defScope s_law_number) .none kV20 dc20 pm20 an20 cd20 ct20), sl20⟩) (c20 : PySem.W.codeIn K cd20 "_law_number" = true) (k20 : PySem.W.keepIn K (.ref f20) = true)
    (a21 : PySem.W.nsIn K mainGlobals "_law_read" = some (some (.ref f21))) (l21 : K.lookup f21 = some ⟨oc21, od21, .func (PySem.W.fnOf "_law_read" "_law_read" (defArgs s_law_read) (defBody s_law_read) (defScope s_law_read) .none kV21 dc21 pm21 an21 cd21 ct21), sl21⟩) (c21 : PySem.W.codeIn K cd21 "_law_read" = true) (k21 : PySem.W.keepIn K (.ref f21) = true)
    (a22 : PySem.W.nsIn K mainGlobals "_law_told" = some (some (.ref f22))) (l22 : K.lookup f22 = some ⟨oc22, od22, .func (PySem.W.fnOf "_law_told" "_law_told" (defArgs s_law_told) (defBody s_law_told) (defScope s_law_told) .none kV22 dc22 pm22 an22 cd22 ct22), sl22⟩) (c22 : PySem.W.codeIn K cd22 "_law_told" = true) (k22 : PySem.W.keepIn K (.ref f22) = true)
    (a23 : PySem.W.nsIn K mainGlobals "law" = some (some (.ref f23))) (l23 : K.lookup f23 = some ⟨oc23, od23, .func (PySem.W.fnOf "law" "law" (defArgs s_law) (defBody s_law) (defScope s_law) .none kV23 dc23 pm23 an23 cd23 ct23), sl23⟩) (c23 : PySem.W.codeIn K cd23 "law" = true) (k23 : PySem.W.keepIn K (.ref f23) = true)
    (z_ValueError : PySem.W.nsIn K mainGlobals "ValueError" = some none)
    (z_all : PySem.W.nsIn K mainGlobals "all" = some none)
    (z_bool : PySem.W.nsIn K mainGlobals "bool" = some none)
    (z_int : PySem.W.nsIn K mainGlobals "int" = some none)
    (z_isinstance : PySem.W.nsIn K mainGlobals "isinstance" = some none)
    (z_len : PySem.W.nsIn K mainGlobals "len" = some none)
    (z_min : PySem.W.nsIn K mainGlobals "min" = some none)
    (z_range : PySem.W.nsIn K mainGlobals "range" = some none)
    (z_str : PySem.W.nsIn K mainGlobals "str" = some none)
    (z_tuple : PySem.W.nsIn K mainGlobals "tuple" = some none)
    (v_MOST : PySem.W.nsIn K mainGlobals "MOST" = some (some (.int 99 tk_MOST)))
    (v_MOST_UNITS : PySem.W.nsIn K mainGlobals "MOST_UNITS" = some (some (.int 10 tk_MOST_UNITS)))
    (v_MOST_DEPTH : PySem.W.nsIn K mainGlobals "MOST_DEPTH" = some (some (.int 4 tk_MOST_DEPTH)))
    (v_POINT : PySem.W.nsIn K mainGlobals "POINT" = some (some (.ref p_POINT))) (w_POINT : K.lookup p_POINT = some ⟨.type "tuple", o_POINT, .seq #[.str "point" tk_POINT0] n_POINT, s_POINT⟩)
    (na_RuleReader_spot : PySem.W.findIn K (.ref C_RuleReader) "spot" = some none)
    (na_RuleReader_unit_count : PySem.W.findIn K (.ref C_RuleReader) "unit_count" = some none)
    (na_RuleReader_words : PySem.W.findIn K (.ref C_RuleReader) "words" = some none) :
    ∃ (fd : FuncData) (p_POINT : Addr) (C_RuleReader : Addr) (C_ScoreError : Addr) (C_NoThrow : Addr) (C_NoPins : Addr) (C_NoSide : Addr) (C_Over : Addr) (C_NoGame : Addr) (C_NoDeed : Addr) (C_TooMany : Addr) (C_NoLine : Addr) (C_BadWord : Addr) (C_Falls : Addr), (∀ (s : Shared) (v : Value), BindsTo s fd ⟨[v], []⟩ [("_law_script", v)]) ∧ Fun K "law" "law" s_law fa fd ∧ Txt K mg p_POINT C_RuleReader C_ScoreError C_NoThrow C_NoPins C_NoSide C_Over C_NoGame C_NoDeed C_TooMany C_NoLine C_BadWord C_Falls := by
  have e := hfa.symm.trans (PySem.W.mg_of X G a23)
  cases e
  exact ⟨_, _, _, _, _, _, _, _, _, _, _, _, _, _, fun s v => .of_eq rfl, fun_mk (st := s_law) l23 c23 k23, ⟨⟨⟨f1, _, fun_mk (st := s_BadWord___init__) l1 c1 k1, (fun_mk (st := s_BadWord___init__) l1 c1 k1).binds (ps := ["self", "at"]) fun _ _ _ _ _ _ us hl => match us, hl with | [_, _], _ => rfl, ownX_of ei_BadWord, i1⟩, PySem.W.mg_of X G aX_BadWord⟩,
    ⟨⟨f2, _, fun_mk (st := s_writes_whole) l2 c2 k2, (fun_mk (st := s_writes_whole) l2 c2 k2).binds (ps := ["word", "least", "most"]) fun _ _ _ _ _ _ us hl => match us, hl with | [_, _, _], _ => rfl, PySem.W.mg_of X G a2⟩⟩,
    ⟨⟨f3, _, fun_mk (st := s_read_rule) l3 c3 k3, (fun_mk (st := s_read_rule) l3 c3 k3).binds (ps := ["text"]) fun _ _ _ _ _ _ us hl => match us, hl with | [_], _ => rfl, PySem.W.mg_of X G a3⟩⟩,
    ⟨⟨f4, _, fun_mk (st := s_RuleReader___init__) l4 c4 k4, (fun_mk (st := s_RuleReader___init__) l4 c4 k4).binds (ps := ["self", "words"]) fun _ _ _ _ _ _ us hl => match us, hl with | [_, _], _ => rfl, ⟨mk_RuleReader, a4, i4, kc_RuleReader⟩⟩, PySem.W.mg_of X G aC_RuleReader⟩,
    ⟨⟨f5, _, fun_mk (st := s_RuleReader_refuse_more) l5 c5 k5, (fun_mk (st := s_RuleReader_refuse_more) l5 c5 k5).binds (ps := ["self"]) fun _ _ _ _ _ _ us hl => match us, hl with | [_], _ => rfl, ⟨a5, i5, k5⟩⟩⟩,
    ⟨⟨f6, _, fun_mk (st := s_RuleReader_word_here) l6 c6 k6, (fun_mk (st := s_RuleReader_word_here) l6 c6 k6).binds (ps := ["self"]) fun _ _ _ _ _ _ us hl => match us, hl with | [_], _ => rfl, ⟨a6, i6, k6⟩⟩⟩,
    ⟨⟨f7, _, fun_mk (st := s_RuleReader_read_part) l7 c7 k7, (fun_mk (st := s_RuleReader_read_part) l7 c7 k7).binds (ps := ["self", "room"]) fun _ _ _ _ _ _ us hl => match us, hl with | [_, _], _ => rfl, ⟨a7, i7, k7⟩⟩⟩,
    ⟨⟨f8, _, fun_mk (st := s_RuleReader_read_unit) l8 c8 k8, (fun_mk (st := s_RuleReader_read_unit) l8 c8 k8).binds (ps := ["self", "room"]) fun _ _ _ _ _ _ us hl => match us, hl with | [_, _], _ => rfl, ⟨a8, i8, k8⟩⟩⟩,
    ⟨⟨f9, _, fun_mk (st := s_RuleReader_read_number) l9 c9 k9, (fun_mk (st := s_RuleReader_read_number) l9 c9 k9).binds (ps := ["self", "least"]) fun _ _ _ _ _ _ us hl => match us, hl with | [_, _], _ => rfl, ⟨a9, i9, k9⟩⟩⟩,
    ⟨⟨f10, _, fun_mk (st := s_RuleReader_read_cap) l10 c10 k10, (fun_mk (st := s_RuleReader_read_cap) l10 c10 k10).binds (ps := ["self", "to"]) fun _ _ _ _ _ _ us hl => match us, hl with | [_, _], _ => rfl, ⟨a10, i10, k10⟩⟩⟩,
    ⟨⟨f11, _, fun_mk (st := s_RuleReader_read_last) l11 c11 k11, (fun_mk (st := s_RuleReader_read_last) l11 c11 k11).binds (ps := ["self", "cap", "room"]) fun _ _ _ _ _ _ us hl => match us, hl with | [_, _, _], _ => rfl, ⟨a11, i11, k11⟩⟩⟩,
    ⟨⟨f12, _, fun_mk (st := s_law_tape) l12 c12 k12, (fun_mk (st := s_law_tape) l12 c12 k12).binds (ps := ["_law_script"]) fun _ _ _ _ _ _ us hl => match us, hl with | [_], _ => rfl, PySem.W.mg_of X G a12⟩⟩,
    ⟨⟨f13, _, fun_mk (st := s_law_draw) l13 c13 k13, (fun_mk (st := s_law_draw) l13 c13 k13).binds (ps := ["_law_tape_here", "_law_many"]) fun _ _ _ _ _ _ us hl => match us, hl with | [_, _], _ => rfl, PySem.W.mg_of X G a13⟩⟩,
    ⟨⟨f14, _, fun_mk (st := s_law_unit) l14 c14 k14, (fun_mk (st := s_law_unit) l14 c14 k14).binds (ps := ["_law_tape_here", "_law_deep", "_law_thin"]) fun _ _ _ _ _ _ us hl => match us, hl with | [_, _, _], _ => rfl, PySem.W.mg_of X G a14⟩⟩,
    ⟨⟨f15, _, fun_mk (st := s_law_rule) l15 c15 k15, (fun_mk (st := s_law_rule) l15 c15 k15).binds (ps := ["_law_tape_here", "_law_deep", "_law_thin"]) fun _ _ _ _ _ _ us hl => match us, hl with | [_, _, _], _ => rfl, PySem.W.mg_of X G a15⟩⟩,
    ⟨⟨f16, _, fun_mk (st := s_law_any_rule) l16 c16 k16, (fun_mk (st := s_law_any_rule) l16 c16 k16).binds (ps := ["_law_tape_here"]) fun _ _ _ _ _ _ us hl => match us, hl with | [_], _ => rfl, PySem.W.mg_of X G a16⟩⟩,
    ⟨⟨f17, _, fun_mk (st := s_law_full) l17 c17 k17, (fun_mk (st := s_law_full) l17 c17 k17).binds (ps := ["_law_tape_here", "_law_many", "_law_deep"]) fun _ _ _ _ _ _ us hl => match us, hl with | [_, _, _], _ => rfl, PySem.W.mg_of X G a17⟩⟩,
    ⟨⟨f18, _, fun_mk (st := s_law_words) l18 c18 k18, (fun_mk (st := s_law_words) l18 c18 k18).binds (ps := ["_law_rule_here"]) fun _ _ _ _ _ _ us hl => match us, hl with | [_], _ => rfl, PySem.W.mg_of X G a18⟩⟩,
    ⟨⟨f19, _, fun_mk (st := s_law_bent) l19 c19 k19, (fun_mk (st := s_law_bent) l19 c19 k19).binds (ps := ["_law_tape_here", "_law_words_here"]) fun _ _ _ _ _ _ us hl => match us, hl with | [_, _], _ => rfl, PySem.W.mg_of X G a19⟩⟩,
    ⟨⟨f20, _, fun_mk (st := s_law_number) l20 c20 k20, (fun_mk (st := s_law_number) l20 c20 k20).binds (ps := ["_law_word"]) fun _ _ _ _ _ _ us hl => match us, hl with | [_], _ => rfl, PySem.W.mg_of X G a20⟩⟩,
    ⟨⟨f21, _, fun_mk (st := s_law_read) l21 c21 k21, (fun_mk (st := s_law_read) l21 c21 k21).binds (ps := ["_law_words_here", "_law_at", "_law_deep", "_law_many"]) fun _ _ _ _ _ _ us hl => match us, hl with | [_, _, _, _], _ => rfl, PySem.W.mg_of X G a21⟩⟩,
    ⟨⟨f22, _, fun_mk (st := s_law_told) l22 c22 k22, (fun_mk (st := s_law_told) l22 c22 k22).binds (ps := ["_law_text"]) fun _ _ _ _ _ _ us hl => match us, hl with | [_], _ => rfl, PySem.W.mg_of X G a22⟩⟩,
    PySem.W.mg_none_of X G z_ValueError,
    PySem.W.mg_none_of X G z_all,
    PySem.W.mg_none_of X G z_bool,
    PySem.W.mg_none_of X G z_int,
    PySem.W.mg_none_of X G z_isinstance,
    PySem.W.mg_none_of X G z_len,
    PySem.W.mg_none_of X G z_min,
    PySem.W.mg_none_of X G z_range,
    PySem.W.mg_none_of X G z_str,
    PySem.W.mg_none_of X G z_tuple,
    ⟨⟨_, PySem.W.mg_of X G v_MOST, ⟨_, rfl⟩⟩⟩,
    ⟨⟨_, PySem.W.mg_of X G v_MOST_UNITS, ⟨_, rfl⟩⟩⟩,
    ⟨⟨_, PySem.W.mg_of X G v_MOST_DEPTH, ⟨_, rfl⟩⟩⟩,
    ⟨⟨_, PySem.W.mg_of X G v_POINT, rfl⟩⟩,
    fun H => .inr ⟨_, _, _, w_POINT, rfl, rfl, (by show 1 ≤ sizeLine; decide), .cons ⟨_, rfl⟩ (.nil)⟩,
    ⟨pg_RuleReader, hd_RuleReader, po_RuleReader, sa_RuleReader⟩,
    na_RuleReader_spot,
    na_RuleReader_unit_count,
    na_RuleReader_words,
    PySem.W.mg_of X G aX_ScoreError,
    ownE_x eX_ScoreError,
    ⟨⟨_, PySem.W.mg_of X G aX_NoThrow, rfl⟩⟩,
    ⟨⟨_, PySem.W.mg_of X G aX_NoPins, rfl⟩⟩,
    ⟨⟨_, PySem.W.mg_of X G aX_NoSide, rfl⟩⟩,
    ⟨⟨_, PySem.W.mg_of X G aX_Over, rfl⟩⟩,
    ⟨⟨_, PySem.W.mg_of X G aX_NoGame, rfl⟩⟩,
    ⟨⟨_, PySem.W.mg_of X G aX_NoDeed, rfl⟩⟩,
    ⟨⟨_, PySem.W.mg_of X G aX_TooMany, rfl⟩⟩,
    ⟨⟨_, PySem.W.mg_of X G aX_NoLine, rfl⟩⟩,
    ⟨⟨_, PySem.W.mg_of X G aX_BadWord, rfl⟩⟩,
    ⟨f1_BadWord, f2_BadWord, f3_BadWord, f4_BadWord, f5_BadWord, by rw [cd_BadWord]; rfl⟩,
    ⟨e1_BadWord_at, e2_BadWord_at, e3_BadWord_at, e4_BadWord_at, e5_BadWord_at⟩,
    sS_BadWord_ScoreError,
    kit_ref cd_NoThrow ty_NoThrow su_BadWord_NoThrow (fun h => absurd h ne_BadWord_NoThrow),
    kit_ref cd_NoPins ty_NoPins su_BadWord_NoPins (fun h => absurd h ne_BadWord_NoPins),
    kit_ref cd_NoSide ty_NoSide su_BadWord_NoSide (fun h => absurd h ne_BadWord_NoSide),
    kit_ref cd_Over ty_Over su_BadWord_Over (fun h => absurd h ne_BadWord_Over),
    kit_ref cd_NoGame ty_NoGame su_BadWord_NoGame (fun h => absurd h ne_BadWord_NoGame),
    kit_ref cd_NoDeed ty_NoDeed su_BadWord_NoDeed (fun h => absurd h ne_BadWord_NoDeed),
    kit_ref cd_TooMany ty_TooMany su_BadWord_TooMany (fun h => absurd h ne_BadWord_TooMany),
    kit_ref cd_NoLine ty_NoLine su_BadWord_NoLine (fun h => absurd h ne_BadWord_NoLine),
    kit_ref cd_BadWord ty_BadWord su_BadWord_BadWord (fun _ => rfl),
    kit_ref cd_Falls ty_Falls su_BadWord_Falls (fun h => absurd h ne_BadWord_Falls),
    kit_ve sv_BadWord,
    ⟨⟨_, PySem.W.mg_of X G aX_Falls, rfl⟩⟩⟩⟩
section
variable {P : Program} {w : World} {K : PySem.W.Frag} {mg : Str → Option Value} {base : Heap}
theorem law_all {fa : Addr} {fd : FuncData} {p_POINT C C_ScoreError C_NoThrow C_NoPins C_NoSide C_Over C_NoGame C_NoDeed C_TooMany C_NoLine C_BadWord C_Falls : Addr} (F : Fun K "law" "law" s_law fa fd) (T : Txt K mg p_POINT C C_ScoreError C_NoThrow C_NoPins C_NoSide C_Over C_NoGame C_NoDeed C_TooMany C_NoLine C_BadWord C_Falls) : FnOk P w K mg base CX0 41 fa fd ["_law_script"] (spLaw K) := by
  have R : RdC K C := ⟨T.c_RuleReader, T.n_RuleReader_words, T.n_RuleReader_spot, T.n_RuleReader_unit_count⟩
  have d0 : ∀ ns, Dn P w K mg base 1 "_law_draw" ["_law_tape_here", "_law_many"] (spDraw K ns) := fun ns => ok_law_draw T.F_law_draw T.m_len
  have drl : ∀ ns, Dn P w K mg base 20 "_law_rule" ["_law_tape_here", "_law_deep", "_law_thin"] (spRule K ns 6) := fun ns => (all_rule (k := 2) (n := 6) T.F_law_rule T.F_law_unit T.m_min ((d0 ns).mono (by decide))).mono (by decide)
  have dan : ∀ ns, Dn P w K mg base 21 "_law_any_rule" ["_law_tape_here"] (spAny4 K ns) := fun ns => ok_law_any4 T.F_law_any_rule ((d0 ns).mono (by decide)) (drl ns)
  have dfu : ∀ ns, Dn P w K mg base 6 "_law_full" ["_law_tape_here", "_law_many", "_law_deep"] (spFull K ns 5) := fun ns => all_law_full (k := 1) (n := 5) T.F_law_full T.m_min (d0 ns)
  have dlw : Dn P w K mg base 7 "_law_words" ["_law_rule_here"] (spLWords K 6) := all_law_words (k := 1) (n := 6) T.F_law_words T.m_str T.m_isinstance T.m_tuple
  have dbe : ∀ ns, Dn P w K mg base 2 "_law_bent" ["_law_tape_here", "_law_words_here"] (spBent K ns) := fun ns => ok_law_bent T.F_law_bent T.m_len (d0 ns)
  have dnu : Dn P w K mg base 1 "_law_number" ["_law_word"] spNum4 := ok_law_number4 T.F_law_number T.m_len T.m_int
  have dlr : Dn P w K mg base 6 "_law_read" ["_law_words_here", "_law_at", "_law_deep", "_law_many"] (spLRead K 5) := all_law_read (k := 1) (n := 5) T.F_law_read T.m_len dnu
  have dww : Dn P w K mg base 1 "writes_whole" ["word", "least", "most"] spWW := ok_ww T.F_writes_whole T.m_len T.m_all T.m_int T.m_str
  have z : Ez P w K mg base 1 "BadWord" C_BadWord ["self", "at"] (spInitE C_BadWord) := ok_BadWord (k := 0) T.F_BadWord___init__ T.ea_BadWord_at
  have dh : My2 P w K mg base 3 C "word_here" ["self"] (spHere2 C C_BadWord) := ok_here2 (k := 1) T.F_RuleReader_word_here R T.m_len z
  have dmo : My2 P w K mg base 3 C "refuse_more" ["self"] (spMore2 C C_BadWord) := ok_more2 (k := 1) T.F_RuleReader_refuse_more R T.m_len z
  have dn : My2 P w K mg base 4 C "read_number" ["self", "least"] (spNumber2 C C_BadWord) := ok_number2 (k := 2) T.F_RuleReader_read_number R R.c T.m_int T.g_MOST (z.mono (by decide)) dh (dww.mono (by decide))
  have dc : My2 P w K mg base 5 C "read_cap" ["self", "to"] (spCap2 C C_BadWord) := ok_cap2 (k := 4) T.F_RuleReader_read_cap R R.c (dh.mono (by decide)) dn
  have dp : My2 P w K mg base 20 C "read_part" ["self", "room"] (spPart2 K C C_BadWord 5) := all_part2 (k := 4) (n := 5) T.F_RuleReader_read_part T.F_RuleReader_read_unit T.F_RuleReader_read_last R T.g_POINT T.t_POINT T.g_MOST_UNITS (z.mono (by decide)) (dh.mono (by decide)) (dn.mono (by decide)) dc
  have di : Cn P w K mg base 1 "RuleReader" C ["self", "words"] (spInit C) := ok_init (k := 0) T.F_RuleReader___init__ R
  have drr : Dy P w K mg base 21 "read_rule" ["text"] (spRead2 K C_BadWord) := ok_read_rule2 (k := 19) T.F_read_rule R R.c T.g_MOST_DEPTH (di.mono (by decide)) dp (dmo.mono (by decide))
  have dto : Dn P w K mg base 22 "_law_told" ["_law_text"] (spTold4 K) := ok_law_told4 T.F_law_told T.m_isinstance T.m_ValueError T.g_BadWord T.g_Falls T.g_NoDeed T.g_NoGame T.g_NoLine T.g_NoPins T.g_NoSide T.g_NoThrow T.g_Over T.g_TooMany T.mc_ScoreError T.oe_ScoreError T.sS_BadWord_ScoreError T.er_BadWord T.ea_BadWord_at T.ki_BadWord_BadWord T.kv_BadWord (by
    intro D hD
    simp only [List.mem_cons, List.not_mem_nil, or_false] at hD
    rcases hD with rfl | rfl | rfl | rfl | rfl | rfl | rfl | rfl | rfl
    · exact T.ki_BadWord_Falls
    · exact T.ki_BadWord_NoDeed
    · exact T.ki_BadWord_NoGame
    · exact T.ki_BadWord_NoLine
    · exact T.ki_BadWord_NoPins
    · exact T.ki_BadWord_NoSide
    · exact T.ki_BadWord_NoThrow
    · exact T.ki_BadWord_Over
    · exact T.ki_BadWord_TooMany) drr
  exact ok_law (k := 40) F T.m_range T.m_len T.m_isinstance T.m_bool (fun ns => (ok_law_tape T.F_law_tape T.m_len).mono (show 1 ≤ 40 by decide)) (fun ns => (d0 ns).mono (by decide)) (fun ns => (dan ns).mono (by decide)) (fun ns => (dfu ns).mono (by decide)) (dlw.mono (by decide)) (fun ns => (dbe ns).mono (by decide)) (dlr.mono (by decide)) (dto.mono (by decide))
end
theorem walkL {l : PySem.W.OpenLaw} {q : Program} {loose : List Str} {XP : (Str → Option Value) → Heap → Prop} {YP : World → Heap → Prop} {d : DefRec} {K : Params → PySem.W.Frag} (hn : l.most = some 63) (hdf : d.params.defaults = [])
    (hY : ∀ (w : World) (h : Heap), YP w h → (K w.params).In h)
    (F : ∀ (w : World) (mg : Str → Option Value) (fa : Addr) (h : Heap), (K w.params).In h → h.Ns mainGlobals mg → mg d.name = some (.ref fa) →
      ∃ (fd : FuncData) (p_POINT : Addr) (C_RuleReader : Addr) (C_ScoreError : Addr) (C_NoThrow : Addr) (C_NoPins : Addr) (C_NoSide : Addr) (C_Over : Addr) (C_NoGame : Addr) (C_NoDeed : Addr) (C_TooMany : Addr) (C_NoLine : Addr) (C_BadWord : Addr) (C_Falls : Addr), (∀ (s : Shared) (v : Value), BindsTo s fd ⟨[v], []⟩ [("_law_script", v)]) ∧ Fun (K w.params) "law" "law" s_law fa fd ∧ Txt (K w.params) mg p_POINT C_RuleReader C_ScoreError C_NoThrow C_NoPins C_NoSide C_Over C_NoGame C_NoDeed C_TooMany C_NoLine C_BadWord C_Falls) :
    PySem.W.WalkO q loose XP YP l.row.toRowW d [] (fun f vs => PySem.call f vs) :=
  L2.walk_of (n := 63) (k := 41) (x := "_law_script") (CX := fun _ => CX0) (sp := fun w => spLaw (K w.params)) hn (by decide) hdf ⟨rfl, by decide, by decide, rfl⟩ hY (fun w mg fa h X G e => by
    obtain ⟨fd, p_POINT, C_RuleReader, C_ScoreError, C_NoThrow, C_NoPins, C_NoSide, C_Over, C_NoGame, C_NoDeed, C_TooMany, C_NoLine, C_BadWord, C_Falls, b, Fl, T⟩ := F w mg fa h X G e
    exact ⟨fd, b, fun base _ _ => law_all Fl T⟩) (fun _ _ a ns hl _ hS => ⟨a, ns, rfl, hS, hl, fun _ => rfl⟩) fun _ _ _ _ _ z => z
end My
open PySem PySem.W PyProof.Rows
set_option maxRecDepth 100000 in
set_option maxHeartbeats 0 in
theorem PySem.Challenge.cw_tally_k04_what_writes_no_rule_holds : PySem.Challenge.rw_tally_k04_what_writes_no_rule.Holds := by
  w_on; o_law; z_head; (case hw => w_witness2)
  k_fill
  refine L2.walkX (fun P => by kernel_rfl) (My.walkL (l := PySem.Challenge.rw_tally_k04_what_writes_no_rule) rfl rfl (fun w h Y => Y) ?F)
  case F =>
    intro w mg fa h KX G hmg
    refine' My.txt_mk KX G hmg ?aX_ScoreError ?aX_NoThrow ?aX_NoPins ?aX_NoSide ?aX_Over ?aX_NoGame ?aX_NoDeed ?aX_TooMany ?aX_NoLine ?aX_BadWord ?aX_Falls ?eX_ScoreError ?cd_NoThrow ?ty_NoThrow ?cd_NoPins ?ty_NoPins ?cd_NoSide ?ty_NoSide ?cd_Over ?ty_Over ?cd_NoGame ?ty_NoGame ?cd_NoDeed ?ty_NoDeed ?cd_TooMany ?ty_TooMany ?cd_NoLine ?ty_NoLine ?f1_BadWord ?f2_BadWord ?f3_BadWord ?f4_BadWord ?f5_BadWord ?e1_BadWord_at ?e2_BadWord_at ?e3_BadWord_at ?e4_BadWord_at ?e5_BadWord_at ?cd_BadWord ?ty_BadWord ?sS_BadWord_ScoreError ?su_BadWord_NoThrow ?ne_BadWord_NoThrow ?su_BadWord_NoPins ?ne_BadWord_NoPins ?su_BadWord_NoSide ?ne_BadWord_NoSide ?su_BadWord_Over ?ne_BadWord_Over ?su_BadWord_NoGame ?ne_BadWord_NoGame ?su_BadWord_NoDeed ?ne_BadWord_NoDeed ?su_BadWord_TooMany ?ne_BadWord_TooMany ?su_BadWord_NoLine ?ne_BadWord_NoLine ?su_BadWord_BadWord ?su_BadWord_Falls ?ne_BadWord_Falls ?sv_BadWord ?cd_Falls ?ty_Falls ?aC_RuleReader ?pg_RuleReader ?hd_RuleReader ?po_RuleReader ?sa_RuleReader ?mk_RuleReader ?kc_RuleReader ?a1 ?i1 ?l1 ?c1 ?k1 ?ei_BadWord ?a2 ?l2 ?c2 ?k2 ?a3 ?l3 ?c3 ?k3 ?a4 ?i4 ?l4 ?c4 ?k4 ?a5 ?i5 ?l5 ?c5 ?k5 ?a6 ?i6 ?l6 ?c6 ?k6 ?a7 ?i7 ?l7 ?c7 ?k7 ?a8 ?i8 ?l8 ?c8 ?k8 ?a9 ?i9 ?l9 ?c9 ?k9 ?a10 ?i10 ?l10 ?c10 ?k10 ?a11 ?i11 ?l11 ?c11 ?k11 ?a12 ?l12 ?c12 ?k12 ?a13 ?l13 ?c13 ?k13 ?a14 ?l14 ?c14 ?k14 ?a15 ?l15 ?c15 ?k15 ?a16 ?l16 ?c16 ?k16 ?a17 ?l17 ?c17 ?k17 ?a18 ?l18 ?c18 ?k18 ?a19 ?l19 ?c19 ?k19 ?a20 ?l20 ?c20 ?k20 ?a21 ?l21 ?c21 ?k21 ?a22 ?l22 ?c22 ?k22 ?a23 ?l23 ?c23 ?k23 ?z_ValueError ?z_all ?z_bool ?z_int ?z_isinstance ?z_len ?z_min ?z_range ?z_str ?z_tuple ?v_MOST ?v_MOST_UNITS ?v_MOST_DEPTH ?v_POINT ?w_POINT ?na_RuleReader_spot ?na_RuleReader_unit_count ?na_RuleReader_words
    (case aX_ScoreError => k_is)
    (case aX_NoThrow => k_is)
    (case aX_NoPins => k_is)
    (case aX_NoSide => k_is)
    (case aX_Over => k_is)
    (case aX_NoGame => k_is)
    (case aX_NoDeed => k_is)
    (case aX_TooMany => k_is)
    (case aX_NoLine => k_is)
    (case aX_BadWord => k_is)
    (case aX_Falls => k_is)
    (case eX_ScoreError => kernel_rfl)
    (case cd_NoThrow => k_is)
    (case ty_NoThrow => k_is)
    (case cd_NoPins => k_is)
    (case ty_NoPins => k_is)
    (case cd_NoSide => k_is)
    (case ty_NoSide => k_is)
    (case cd_Over => k_is)
    (case ty_Over => k_is)
    (case cd_NoGame => k_is)
    (case ty_NoGame => k_is)
    (case cd_NoDeed => k_is)
    (case ty_NoDeed => k_is)
    (case cd_TooMany => k_is)
    (case ty_TooMany => k_is)
    (case cd_NoLine => k_is)
    (case ty_NoLine => k_is)
    (case f1_BadWord => k_is)
    (case f2_BadWord => k_is)
    (case f3_BadWord => k_is)
    (case f4_BadWord => k_is)
    (case f5_BadWord => k_is)
    (case e1_BadWord_at => k_is)
    (case e2_BadWord_at => k_is)
    (case e3_BadWord_at => k_is)
    (case e4_BadWord_at => kernel_rfl)
    (case e5_BadWord_at => k_is)
    (case cd_BadWord => k_is)
    (case ty_BadWord => k_is)
    (case sS_BadWord_ScoreError => k_is)
    (case su_BadWord_NoThrow => k_is)
    (case ne_BadWord_NoThrow => decide)
    (case su_BadWord_NoPins => k_is)
    (case ne_BadWord_NoPins => decide)
    (case su_BadWord_NoSide => k_is)
    (case ne_BadWord_NoSide => decide)
    (case su_BadWord_Over => k_is)
    (case ne_BadWord_Over => decide)
    (case su_BadWord_NoGame => k_is)
    (case ne_BadWord_NoGame => decide)
    (case su_BadWord_NoDeed => k_is)
    (case ne_BadWord_NoDeed => decide)
    (case su_BadWord_TooMany => k_is)
    (case ne_BadWord_TooMany => decide)
    (case su_BadWord_NoLine => k_is)
    (case ne_BadWord_NoLine => decide)
    (case su_BadWord_BadWord => k_is)
    (case su_BadWord_Falls => k_is)
    (case ne_BadWord_Falls => decide)
    (case sv_BadWord => k_is)
    (case cd_Falls => k_is)
    (case ty_Falls => k_is)
    (case aC_RuleReader => k_is)
    (case pg_RuleReader => k_is)
    (case hd_RuleReader => k_is)
    (case po_RuleReader => k_is)
    (case sa_RuleReader => k_is)
    (case mk_RuleReader => k_is)
    (case kc_RuleReader => k_is)
    (case a1 => k_is)
    (case i1 => k_is)
    (case l1 => k_is)
    (case c1 => k_is)
    (case k1 => k_is)
    (case ei_BadWord => kernel_rfl)
    (case a2 => k_is)
    (case l2 => k_is)
    (case c2 => k_is)
    (case k2 => k_is)
    (case a3 => k_is)
    (case l3 => k_is)
    (case c3 => k_is)
    (case k3 => k_is)
    (case a4 => k_is)
    (case i4 => k_is)
    (case l4 => k_is)
    (case c4 => k_is)
    (case k4 => k_is)
    (case a5 => k_is)
    (case i5 => k_is)
    (case l5 => k_is)
    (case c5 => k_is)
    (case k5 => k_is)
    (case a6 => k_is)
    (case i6 => k_is)
    (case l6 => k_is)
    (case c6 => k_is)
    (case k6 => k_is)
    (case a7 => k_is)
    (case i7 => k_is)
    (case l7 => k_is)
    (case c7 => k_is)
    (case k7 => k_is)
    (case a8 => k_is)
    (case i8 => k_is)
    (case l8 => k_is)
    (case c8 => k_is)
    (case k8 => k_is)
    (case a9 => k_is)
    (case i9 => k_is)
    (case l9 => k_is)
    (case c9 => k_is)
    (case k9 => k_is)
    (case a10 => k_is)
    (case i10 => k_is)
    (case l10 => k_is)
    (case c10 => k_is)
    (case k10 => k_is)
    (case a11 => k_is)
    (case i11 => k_is)
    (case l11 => k_is)
    (case c11 => k_is)
    (case k11 => k_is)
    (case a12 => k_is)
    (case l12 => k_is)
    (case c12 => k_is)
    (case k12 => k_is)
    (case a13 => k_is)
    (case l13 => k_is)
    (case c13 => k_is)
    (case k13 => k_is)
    (case a14 => k_is)
    (case l14 => k_is)
    (case c14 => k_is)
    (case k14 => k_is)
    (case a15 => k_is)
    (case l15 => k_is)
    (case c15 => k_is)
    (case k15 => k_is)
    (case a16 => k_is)
    (case l16 => k_is)
    (case c16 => k_is)
    (case k16 => k_is)
    (case a17 => k_is)
    (case l17 => k_is)
    (case c17 => k_is)
    (case k17 => k_is)
    (case a18 => k_is)
    (case l18 => k_is)
    (case c18 => k_is)
    (case k18 => k_is)
    (case a19 => k_is)
    (case l19 => k_is)
    (case c19 => k_is)
    (case k19 => k_is)
    (case a20 => k_is)
    (case l20 => k_is)
    (case c20 => k_is)
    (case k20 => k_is)
    (case a21 => k_is)
    (case l21 => k_is)
    (case c21 => k_is)
    (case k21 => k_is)
    (case a22 => k_is)
    (case l22 => k_is)
    (case c22 => k_is)
    (case k22 => k_is)
    (case a23 => k_is)
    (case l23 => k_is)
    (case c23 => k_is)
    (case k23 => k_is)
    (case z_ValueError => k_is)
    (case z_all => k_is)
    (case z_bool => k_is)
    (case z_int => k_is)
    (case z_isinstance => k_is)
    (case z_len => k_is)
    (case z_min => k_is)
    (case z_range => k_is)
    (case z_str => k_is)
    (case z_tuple => k_is)
    (case v_MOST => k_is)
    (case v_MOST_UNITS => k_is)
    (case v_MOST_DEPTH => k_is)
    (case v_POINT => k_is)
    (case w_POINT => k_is)
    (case na_RuleReader_spot => k_is)
    (case na_RuleReader_unit_count => k_is)
    (case na_RuleReader_words => k_is)