import PyProof.Rows.All
import Wide.All
import OpenK.AllK
import Wide.FinOn
import Lean
import PyProof.EqAt
import PyProof.EqKinds
import PyProof.TupleCall
import PyProof.P3Eq
import PyProof.NeData
import PyProof.P3Statements
import PyProof.StrLawsChain
import PyProof.StrLawsTight
import PyProof.StrLawsReplace
import PyProof.FitsReplace
import KE.IntText
import PyProof.StrBlockL
import PyProof.StrLawsIdx
import PyProof.StrBlockI
import KE.KStrOpen
import PyProof.ReprRoads
import PyProof.StrLawsRepr
import PyProof.FitsInt
import KE.KIntText
import PyProof.StrLawsNeg
import KE.KxAffix
import PyProof.ExcArgsOwn
import PyProof.ExcAttrAll.ValueError
import KE.KxWritten
import PyProof.ListRange
import PyProof.ZipIter
import PyProof.TupleIter
import PyProof.EnumFor
import PyProof.EnumMake
import PyProof.EnumStmt
import PyProof.WalkInts
import PyProof.SumWalkG
import PyProof.SeqI3
import PyProof.CallFns
import PyProof.IsRules
import PyProof.Rows.SetFrom
import PyProof.StrOps2
import PyProof.SetRoads
import PyProof.Rows.FStr
import PyProof.CallType
import PyProof.Rows.CallKwBuiltin
import PyProof.FactsAll.object
import PyProof.RulesTry
import PySem.Challenge.RW_tally_k44_games_written
set_option maxHeartbeats 4000000
set_option Elab.async false
set_option linter.all false
set_option maxRecDepth 100000
namespace L2
open PySem PySem.Spec PyProof.Rows
abbrev Key := Sum Int Str
def keyIs : Key → Value → Bool
  | .inl k, v => Value.isInt k v
  | .inr x, v => Value.isStrOf x v
def keyH (w : World) : Key → Int
  | .inl k => hashInt k
  | .inr x => hashStr w x
theorem keyIs_shape : ∀ {k : Key} {v : Value}, keyIs k v = true → (∃ i t, k = Sum.inl i ∧ v = Value.int i t) ∨ (∃ x t, k = Sum.inr x ∧ v = Value.str x t)
  | .inl i, v, h => by
    obtain ⟨t, e⟩ := Value.isInt_shape (k := i) (v := v) h
    exact .inl ⟨i, t, rfl, e⟩
  | .inr x, v, h => by
    obtain ⟨t, e⟩ := Value.isStrOf_shape (x := x) (v := v) h
    exact .inr ⟨x, t, rfl, e⟩
theorem keyIs_int (i : Int) (t : Tok) : keyIs (.inl i) (.int i t) = true := by simp [keyIs, Value.isInt]
theorem keyIs_str (x : Str) (t : Tok) : keyIs (.inr x) (.str x t) = true := by simp [keyIs, Value.isStrOf]
theorem key_ll (a b : Int) : decide ((Sum.inl a : Key) = Sum.inl b) = (a == b) := by
  by_cases e : a = b
  · subst e; simp
  · have h : ¬ (Sum.inl a : Key) = Sum.inl b := fun q => e (Sum.inl.inj q)
    rw [decide_eq_false h]
    exact (beq_eq_false_iff_ne.mpr e).symm
theorem key_rr (a b : Str) : decide ((Sum.inr a : Key) = Sum.inr b) = decide (a = b) := by
  by_cases e : a = b
  · subst e; simp
  · have h : ¬ (Sum.inr a : Key) = Sum.inr b := fun q => e (Sum.inr.inj q)
    rw [decide_eq_false h, decide_eq_false e]
theorem key_lr (a : Int) (b : Str) : decide ((Sum.inl a : Key) = Sum.inr b) = false := decide_eq_false (fun q => nomatch q)
theorem key_rl (a : Str) (b : Int) : decide ((Sum.inr a : Key) = Sum.inl b) = false := decide_eq_false (fun q => nomatch q)
def mixKind (prog : Program) (w : World) : PySem.KeyKind prog w Key where
  is := keyIs
  hash := keyH w
  inj := fun v a b ha hb => by
    rcases keyIs_shape ha with ⟨i, t, rfl, rfl⟩ | ⟨x, t, rfl, rfl⟩
    · rcases keyIs_shape hb with ⟨j, u, rfl, e⟩ | ⟨y, u, rfl, e⟩
      · injection e with e1 _; rw [e1]
      · exact nomatch e
    · rcases keyIs_shape hb with ⟨j, u, rfl, e⟩ | ⟨y, u, rfl, e⟩
      · exact nomatch e
      · injection e with e1 _; rw [e1]
  byValue := fun k v h => by
    rcases keyIs_shape h with ⟨i, t, rfl, rfl⟩ | ⟨x, t, rfl, rfl⟩ <;> rfl
  pyHash := fun hv h => by
    rcases keyIs_shape hv with ⟨i, t, rfl, rfl⟩ | ⟨x, t, rfl, rfl⟩
    · exact wpAny_pyHash_int h
    · exact wpAny_pyHash_str h
  eqBool := fun hu hv h => by
    rcases keyIs_shape hu with ⟨i, t, rfl, rfl⟩ | ⟨x, t, rfl, rfl⟩
    · rcases keyIs_shape hv with ⟨j, u, rfl, rfl⟩ | ⟨y, u, rfl, rfl⟩
      · rw [key_ll] at h; exact wpAny_eqBool_int h
      · rw [key_lr] at h; exact SeqAt.EqAt.int_str i t y u _ _ _ _ h
    · rcases keyIs_shape hv with ⟨j, u, rfl, rfl⟩ | ⟨y, u, rfl, rfl⟩
      · rw [key_rl] at h; exact SeqAt.EqAt.str_int x t j u _ _ _ _ h
      · rw [key_rr] at h; exact wpAny_eqBool_str h
  «strs» := fun k x t v h => by
    rcases keyIs_shape h with ⟨i, u, rfl, e⟩ | ⟨y, u, rfl, e⟩
    · exact nomatch e
    · injection e with e1 _
      subst e1
      cases v <;> rfl
theorem mixKind_int (prog : Program) (w : World) (i : Int) (t : Tok) : (mixKind prog w).is (.inl i) (.int i t) = true := keyIs_int i t
theorem mixKind_str (prog : Program) (w : World) (x : Str) (t : Tok) : (mixKind prog w).is (.inr x) (.str x t) = true := keyIs_str x t
end L2
namespace L2
open PySem PySem.Spec PyProof.Rows
inductive V where
  | non | bl (b : Bool) | int (i : Int) | str (x : Str) | byt (b : Array UInt8) | flt (b : UInt64) | ref (a : Addr) | ty (n : String)
  deriving DecidableEq
def RelV : V → Value → Prop
  | .non, u => u = Value.none
  | .bl b, u => u = Value.bool b
  | .int i, u => ∃ t, u = Value.int i t
  | .str x, u => ∃ t, u = Value.str x t
  | .byt b, u => ∃ t, u = Value.bytes b t
  | .flt b, u => ∃ t, u = Value.float b t
  | .ref a, u => u = Value.ref a
  | .ty n, u => u = Value.type n
abbrev Vals : List V → List Value → Prop := Paired RelV
theorem Vals.length {xs : List V} {us : List Value} (r : Vals xs us) : xs.length = us.length := Paired.length r
theorem Vals.get : ∀ {xs : List V} {us : List Value} {i : Nat} {x : V}, Vals xs us → xs[i]? = some x → ∃ u, us[i]? = some u ∧ RelV x u
  | _, _, _, _, .nil, e => by simp at e
  | _, _, 0, _, .cons r _, e => by simp at e; subst e; exact ⟨_, rfl, r⟩
  | _, _, i + 1, x, .cons _ t, e => by
    obtain ⟨u, h1, h2⟩ := Vals.get (i := i) (x := x) t (by simpa using e)
    exact ⟨u, by simpa using h1, h2⟩
theorem Vals.set {x : V} {u : Value} (r : RelV x u) : ∀ {xs : List V} {us : List Value} (i : Nat), Vals xs us → Vals (xs.set i x) (us.set i u)
  | _, _, _, .nil => .nil
  | _, _, 0, .cons _ t => .cons r t
  | _, _, i + 1, .cons q t => .cons q (Vals.set r i t)
theorem Vals.append : ∀ {xs ys : List V} {us ws : List Value}, Vals xs us → Vals ys ws → Vals (xs ++ ys) (us ++ ws)
  | _, _, _, _, .nil, s => s
  | _, _, _, _, .cons r t, s => .cons r (Vals.append t s)
theorem Vals.take : ∀ {xs : List V} {us : List Value} (n : Nat), Vals xs us → Vals (xs.take n) (us.take n)
  | _, _, 0, _ => .nil
  | _, _, _ + 1, .nil => .nil
  | _, _, n + 1, .cons r t => .cons r (Vals.take n t)
theorem Vals.drop : ∀ {xs : List V} {us : List Value} (n : Nat), Vals xs us → Vals (xs.drop n) (us.drop n)
  | _, _, 0, r => r
  | _, _, _ + 1, .nil => .nil
  | _, _, n + 1, .cons _ t => Vals.drop n t
def RelO : Option V → Option Value → Prop
  | some v, some u => RelV v u
  | none, none => True
  | _, _ => False
def KV {κ : Type} : List (κ × V) → List (κ × Value) → Prop := Paired fun (p : κ × V) (q : κ × Value) => p.1 = q.1 ∧ RelV p.2 q.2
def kV : Key → V
  | .inl i => .int i
  | .inr x => .str x
inductive HO where
  | lst (xs : List V)
  | tup (xs : List V)
  | dK (kvs : List (Key × V)) | dT (kvs : List (List Key × V))
  | set (S : Int → Bool) (n : Nat)
  | ins (C dx : Addr) (fs : List (Str × V))
  | own (x : Addr)
  | xd (fs : List (Str × V))
  | met (f x : Addr)
  | rng (lo hi : Int)
  | frz (o : Obj) (u : HO)
  | tbl (ps : Array Value)
  | ext (φ : Heap → Prop)
abbrev Hp := Addr → Option HO
def upd (H : Hp) (a : Addr) (o : HO) : Hp := fun b => if b = a then some o else H b
theorem upd_same {H : Hp} {a : Addr} {o : HO} : upd H a o a = some o := by unfold upd; rw [if_pos rfl]
theorem upd_ne {H : Hp} {a b : Addr} {o : HO} (h : b ≠ a) : upd H a o b = H b := by unfold upd; rw [if_neg h]
theorem ne_of {H : Hp} {a b : Addr} {o u : HO} (h : H a = some o) (h' : H b = some u) (d : o ≠ u) : a ≠ b := by
  intro e; subst e; rw [h] at h'; exact d (Option.some.inj h')
theorem ne_of_none {H : Hp} {a b : Addr} {o : HO} (h : H a = some o) (h' : H b = none) : a ≠ b := by
  intro e; subst e; rw [h] at h'; cases h'
section
variable (P : Program) (w : World)
def ObjOk (H : Hp) (h : Heap) (a : Addr) : HO → Prop
  | .lst xs => xs.length ≤ sizeLine ∧ ∃ (its : List Value) (n : Nat), Vals xs its ∧ h.get? a = some { cls := .type "list", data := .seq its.toArray n }
  | .tup xs => xs.length ≤ sizeLine ∧ ∃ its : List Value, Vals xs its ∧ IsTup h a its.toArray
  | .dK kvs => kvs.length ≤ sizeLine ∧ (a == sysModules) = false ∧ ∃ vs, KV kvs vs ∧ h.DictOf (mixKind P w) a vs
  | .dT kvs => kvs.length ≤ sizeLine ∧ (a == sysModules) = false ∧ ∃ xs : List (List Key × Addr × Value),
      Paired (fun (p : List Key × V) (q : List Key × Addr × Value) => p.1 = q.1 ∧ H q.2.1 = some (.tup (p.1.map kV)) ∧ RelV p.2 q.2.2) kvs xs ∧
      ∃ o es ep, h.get? a = some o ∧ o.ExactDict ∧ o.data = .dict es ep ∧ es.toList = xs.map (entryOfKey (tupleKind (mixKind P w))) ∧ (xs.map (·.1)).Nodup
  | .set S n => h.SetOf (intKind P w) a S n
  | .ins C dx fs => H dx = some (.own a) ∧ fs.length ≤ 1000 ∧ dx ≠ a ∧ h.get? a = some (PySem.W.instObj C dx) ∧
      ∃ mA, h.Ns1 dx mA ∧ (∀ f, RelO (fs.lookup f) (mA f)) ∧ PySem.Within mA (fs.map (·.1))
  | .own _ => ∃ o, h.get? a = some o
  | .xd fs => ∃ mA, h.Ns1 a mA ∧ ∀ f, RelO (fs.lookup f) (mA f)
  | .rng lo hi => ∃ t u v, h.get? a = some { cls := .type "range", data := .fields #[.int lo t, .int hi u, .int 1 v] }
  | .frz o u => h.get? a = some o ∧ ObjOk H h a u
  | .tbl ps => h.get? a = some { cls := .none, data := .fields ps }
  | .met f x => h.get? a = some (PySem.W.methodObj (.ref f) (.ref x))
  | .ext φ => φ h ∧ (∃ o, h.get? a = some o) ∧ ∀ h1 h2 : Heap, φ h1 → (∀ o, h1.get? a = some o → h2.get? a = some o) → φ h2
def HOk (H : Hp) (h : Heap) : Prop := ∀ a o, H a = some o → ObjOk P w H h a o
end
section
variable {P : Program} {w : World} {H H' : Hp} {h h' : Heap} {a : Addr} {o : HO}
theorem ObjOk.lt (x : ObjOk P w H h a o) : a < h.objs.size := by
  cases o with
  | lst xs => obtain ⟨_, _, _, _, e⟩ := x; exact Heap.lt_size e
  | tup xs => obtain ⟨_, _, _, p⟩ := x; exact p.lt
  | dK kvs => obtain ⟨_, _, _, _, o, _, _, e, _⟩ := x; exact Heap.lt_size e
  | dT kvs => obtain ⟨_, _, _, _, o, _, _, e, _⟩ := x; exact Heap.lt_size e
  | set S n => obtain ⟨o, _, _, _, e, _⟩ := x; exact Heap.lt_size e
  | ins C dx fs => obtain ⟨_, _, _, e, _⟩ := x; exact Heap.lt_size e
  | own y => obtain ⟨_, e⟩ := x; exact Heap.lt_size e
  | xd fs => obtain ⟨_, ⟨_, _, _, e, _⟩, _⟩ := x; exact Heap.lt_size e
  | rng lo hi => obtain ⟨_, _, _, e⟩ := x; exact Heap.lt_size e
  | frz ob u => obtain ⟨e, _⟩ := x; exact Heap.lt_size e
  | tbl ps => exact Heap.lt_size (show h.get? a = some _ from x)
  | met f y => exact Heap.lt_size (show h.get? a = some _ from x)
  | ext φ => obtain ⟨_, ⟨_, e⟩, _⟩ := x; exact Heap.lt_size e
theorem Paired.mapP {α β : Type} {F G : α → β → Prop} : ∀ {l₁ : List α} {l₂ : List β}, Paired F l₁ l₂ → (∀ a b, F a b → G a b) → Paired G l₁ l₂
  | _, _, .nil, _ => .nil
  | _, _, .cons r t, f => .cons (f _ _ r) (Paired.mapP t f)
theorem ObjOk.stay (x : ObjOk P w H h a o) (k : ∀ b u, (b = a ∨ H b = some (.own a)) → h.get? b = some u → h'.get? b = some u)
    (ho : ∀ b, H b = some (.own a) → H' b = some (.own a)) (ht : ∀ b xs, H b = some (.tup xs) → H' b = some (.tup xs)) : ObjOk P w H' h' a o := by
  induction o with
  | lst xs => obtain ⟨z, its, n, r, e⟩ := x; exact ⟨z, its, n, r, k _ _ (.inl rfl) e⟩
  | tup xs => obtain ⟨z, its, r, ob, e, c⟩ := x; exact ⟨z, its, r, ob, k _ _ (.inl rfl) e, c⟩
  | dK kvs => obtain ⟨z, y, vs, r, ob, es, ep, e, c⟩ := x; exact ⟨z, y, vs, r, ob, es, ep, k _ _ (.inl rfl) e, c⟩
  | dT kvs =>
    obtain ⟨z, y, xs, r, ob, es, ep, e, c⟩ := x
    exact ⟨z, y, xs, Paired.mapP r fun p q z => ⟨z.1, ht _ _ z.2.1, z.2.2⟩, ob, es, ep, k _ _ (.inl rfl) e, c⟩
  | set S n => obtain ⟨ob, es, ep, t, e, c⟩ := x; exact ⟨ob, es, ep, t, k _ _ (.inl rfl) e, c⟩
  | ins C dx fs =>
    obtain ⟨d, z, ne, e, mA, ⟨od, es, ep, e2, c⟩, r⟩ := x
    exact ⟨ho _ d, z, ne, k _ _ (.inl rfl) e, mA, ⟨od, es, ep, k _ _ (.inr d) e2, c⟩, r⟩
  | own y => obtain ⟨ob, e⟩ := x; exact ⟨ob, k _ _ (.inl rfl) e⟩
  | xd fs => obtain ⟨mA, ⟨od, es, ep, e, c⟩, r⟩ := x; exact ⟨mA, ⟨od, es, ep, k _ _ (.inl rfl) e, c⟩, r⟩
  | rng lo hi => obtain ⟨t, u, v, e⟩ := x; exact ⟨t, u, v, k _ _ (.inl rfl) e⟩
  | frz ob u ih => obtain ⟨e, q⟩ := x; exact ⟨k _ _ (.inl rfl) e, ih q⟩
  | tbl ps =>
    have e : h.get? a = some { cls := .none, data := .fields ps } := x
    show h'.get? a = some { cls := .none, data := .fields ps }
    exact k a _ (.inl rfl) e
  | met f y =>
    have e : h.get? a = some (PySem.W.methodObj (.ref f) (.ref y)) := x
    show h'.get? a = some (PySem.W.methodObj (.ref f) (.ref y))
    exact k a _ (.inl rfl) e
  | ext φ => obtain ⟨p, ⟨o, e⟩, st⟩ := x; exact ⟨st _ _ p fun o q => k _ _ (.inl rfl) q, ⟨o, k _ _ (.inl rfl) e⟩, st⟩
theorem HOk.lt (x : HOk P w H h) (e : H a = some o) : a < h.objs.size := (x a o e).lt
theorem HOk.fresh (x : HOk P w H h) (e : h.objs.size ≤ a) : H a = none := by
  cases q : H a with
  | none => rfl
  | some u => exact absurd (Nat.lt_of_lt_of_le (x.lt q) e) (Nat.lt_irrefl _)
theorem HOk.kept (x : HOk P w H h) (k : ∀ b u, h.get? b = some u → h'.get? b = some u) : HOk P w H h' := fun a o e =>
  (x a o e).stay (fun b u _ q => k b u q) (fun _ q => q) fun _ _ q => q
theorem HOk.laid (x : HOk P w H h) (k : ∀ b u, h.get? b = some u → h'.get? b = some u) (hp : h.objs.size ≤ a) (new : ObjOk P w (upd H a o) h' a o) : HOk P w (upd H a o) h' := fun b u e => by
  have hn := x.fresh hp
  by_cases hb : b = a
  · subst hb; rw [upd_same] at e; cases e; exact new
  · rw [upd_ne hb] at e
    exact (x b u e).stay (fun c v _ q => k c v q) (fun c q => by rw [upd_ne (ne_of_none q hn)]; exact q) fun c xs q => by rw [upd_ne (ne_of_none q hn)]; exact q
end
def Rd (H : Hp) (a : Addr) (u : HO) : Prop := H a = some u ∨ ∃ o, H a = some (.frz o u)
theorem Rd.ok {P : Program} {w : World} {H : Hp} {h : Heap} {a : Addr} {u : HO} (r : Rd H a u) (x : HOk P w H h) : ObjOk P w H h a u := by
  rcases r with r | ⟨o, r⟩
  · exact x a u r
  · obtain ⟨_, q⟩ := x a _ r
    exact q
def Mut : Option HO → Prop
  | some (.lst _) => True
  | some (.dK _) => True
  | some (.dT _) => True
  | some (.set _ _) => True
  | some (.ins _ _ _) => True
  | some (.ext _) => True
  | _ => False
section
variable {P : Program} {w : World} {H : Hp} {h h' : Heap} {x e : Addr} {o' : HO}
theorem HOk.write (ok : HOk P w H h) (mu : Mut (H x)) (he : e = x ∨ H e = some (.own x)) (k : ∀ b u, b ≠ e → h.get? b = some u → h'.get? b = some u) (heo : ∃ u, h'.get? e = some u)
    (new : ObjOk P w (upd H x o') h' x o') : HOk P w (upd H x o') h' := fun b u q => by
  have nown : ∀ c y, H c = some (.own y) → c ≠ x := fun c y r z => by subst z; rw [r] at mu; exact mu
  have ntup : ∀ c xs, H c = some (.tup xs) → c ≠ x := fun c xs r z => by subst z; rw [r] at mu; exact mu
  by_cases hb : b = x
  · subst hb; rw [upd_same] at q; cases q; exact new
  · rw [upd_ne hb] at q
    by_cases hbe : b = e
    · have q' : H b = some (.own x) := by
        rcases he with z | z
        · exact absurd (hbe.trans z) hb
        · rw [hbe]; exact z
      rw [q] at q'; cases q'
      obtain ⟨v, hv⟩ := heo
      exact ⟨v, by rw [hbe]; exact hv⟩
    · refine (ok b u q).stay (fun c v hc r => k c v ?_ r) (fun c r => by rw [upd_ne (nown c b r)]; exact r) fun c xs r => by rw [upd_ne (ntup c xs r)]; exact r
      rcases hc with rfl | hc
      · exact hbe
      · rintro rfl
        rcases he with z | z
        · exact nown c b hc z
        · rw [hc] at z; cases z; exact hb rfl
end
set_option genInjectivity false in
set_option genSizeOf false in
structure Un (fs ex : List Addr) (H H' : Hp) (h h' : Heap) : Prop where
  keep : ∀ b o, h.get? b = some o → H b = none → b ∉ fs → b ∉ ex → h'.get? b = some o
  slot : ∀ b o, h.get? b = some o → H b = none → b ∈ fs → b ∉ ex → ∃ sl, h'.get? b = some { o with slots := sl }
  free : ∀ b o, h.get? b = some o → H b = none → b ∉ ex → H' b = none
  there : ∀ b o, h.get? b = some o → b ∉ ex → ∃ o', h'.get? b = some o'
  tups : ∀ b xs, H b = some (.tup xs) → H' b = some (.tup xs)
  frzs : ∀ b o u, H b = some (.frz o u) → H' b = some (.frz o u)
  tbls : ∀ b ps, H b = some (.tbl ps) → ∃ more, H' b = some (.tbl (ps ++ more))
section
variable {fs fs' ex ex' : List Addr} {H H1 H2 : Hp} {h h1 h2 h' : Heap} {a x e : Addr} {o : HO}
theorem Un.any (u : Un fs ex H H1 h h1) {b : Addr} {ob : Obj} (q : h.get? b = some ob) (n : H b = none) (hx : b ∉ ex) : ∃ sl, h1.get? b = some { ob with slots := sl } := by
  by_cases hb : b ∈ fs
  · exact u.slot b ob q n hb hx
  · exact ⟨ob.slots, u.keep b ob q n hb hx⟩
theorem Un.trans (a : Un fs ex H H1 h h1) (b : Un fs ex H1 H2 h1 h2) : Un fs ex H H2 h h2 where
  keep := fun c ob q n hc hx => b.keep c ob (a.keep c ob q n hc hx) (a.free c ob q n hx) hc hx
  slot := fun c ob q n hc hx => by
    obtain ⟨sl, e1⟩ := a.slot c ob q n hc hx
    obtain ⟨sl', e2⟩ := b.slot c _ e1 (a.free c ob q n hx) hc hx
    exact ⟨sl', e2⟩
  free := fun c ob q n hx => by
    obtain ⟨o', e1⟩ := a.there c ob q hx
    exact b.free c o' e1 (a.free c ob q n hx) hx
  there := fun c ob q hx => by
    obtain ⟨o', e1⟩ := a.there c ob q hx
    exact b.there c o' e1 hx
  tups := fun c xs q => b.tups c xs (a.tups c xs q)
  frzs := fun c ob xs q => b.frzs c ob xs (a.frzs c ob xs q)
  tbls := fun c ps q => by
    obtain ⟨m1, e1⟩ := a.tbls c ps q
    obtain ⟨m2, e2⟩ := b.tbls c _ e1
    exact ⟨m1 ++ m2, by rw [e2, Array.append_assoc]⟩
theorem Un.kept (k : ∀ b u, h.get? b = some u → h'.get? b = some u) : Un fs ex H H h h' :=
  ⟨fun b ob q _ _ _ => k b ob q, fun b ob q _ _ _ => ⟨ob.slots, k b ob q⟩, fun _ _ _ n _ => n, fun b ob q _ => ⟨ob, k b ob q⟩, fun _ _ q => q, fun _ _ _ q => q, fun _ ps q => ⟨#[], by rw [q]; simp⟩⟩
theorem Un.refl : Un fs ex H H h h := Un.kept fun _ _ q => q
theorem Un.laid (k : ∀ b u, h.get? b = some u → h'.get? b = some u) (hp : h.objs.size ≤ a) (hn : H a = none) : Un fs ex H (upd H a o) h h' where
  keep := fun b u q _ _ _ => k b u q
  slot := fun b u q _ _ _ => ⟨u.slots, k b u q⟩
  free := fun b u q n _ => by rw [upd_ne (Nat.ne_of_lt (Nat.lt_of_lt_of_le (Heap.lt_size q) hp))]; exact n
  there := fun b u q _ => ⟨u, k b u q⟩
  tups := fun b xs q => by rw [upd_ne (ne_of_none q hn)]; exact q
  frzs := fun b u xs q => by rw [upd_ne (ne_of_none q hn)]; exact q
  tbls := fun b ps q => ⟨#[], by rw [upd_ne (ne_of_none q hn), q]; simp⟩
theorem Un.write (mu : Mut (H x)) (he : e = x ∨ H e = some (.own x)) (k : ∀ b u, b ≠ e → h.get? b = some u → h'.get? b = some u) (heo : ∃ u, h'.get? e = some u) : Un fs ex H (upd H x o) h h' := by
  have hx : ∀ b, H b = none → b ≠ x := fun b n z => by subst z; rw [n] at mu; exact mu
  have hb : ∀ b, H b = none → b ≠ e := fun b n z => by
    subst z
    rcases he with r | r
    · exact hx b n r
    · rw [n] at r; cases r
  have hm : ∀ b u, H b = some u → ¬ Mut (some u) → b ≠ x := fun b u q nm z => by subst z; rw [q] at mu; exact nm mu
  refine ⟨fun b u q n _ _ => k b u (hb b n) q, fun b u q n _ _ => ⟨u.slots, k b u (hb b n) q⟩, fun b u q n _ => by rw [upd_ne (hx b n)]; exact n, fun b u q _ => ?_,
    fun b xs q => by rw [upd_ne (hm b _ q fun z => z)]; exact q, fun b u xs q => by rw [upd_ne (hm b _ q fun z => z)]; exact q, fun b ps q => ⟨#[], by rw [upd_ne (hm b _ q fun z => z), q]; simp⟩⟩
  by_cases hbe : b = e
  · subst hbe; exact heo
  · exact ⟨u, k b u hbe q⟩
end
def trk (h : Heap) (H : Hp) : List Addr := (List.range h.objs.size).filter fun a => (H a).isSome
def hidT (h : Heap) (H : Hp) : Heap := PySem.W.hideAll h (trk h H)
theorem hidT_size (h : Heap) (H : Hp) : (hidT h H).objs.size = h.objs.size := PySem.W.hideAll_size _ _
theorem hidT_get {h : Heap} {H : Hp} {b : Addr} {o : Obj} (e : h.get? b = some o) (n : H b = none) : (hidT h H).get? b = some o :=
  PySem.W.hideAll_get _ e fun hm => by
    have q : (H b).isSome = true := (List.mem_filter.mp hm).2
    rw [n] at q; simp at q
theorem of_hidT {h : Heap} {H : Hp} {b : Addr} {o : Obj} (e : (hidT h H).get? b = some o) : h.get? b = some o ∧ H b = none := by
  have e' : h.get? b = some o := PySem.W.of_hideAll (trk h H) e
  refine ⟨e', ?_⟩
  cases q : H b with
  | none => rfl
  | some x =>
    have hm : b ∈ trk h H := List.mem_filter.mpr ⟨List.mem_range.mpr (Heap.lt_size e'), by simp [q]⟩
    have z : (hidT h H).get? b = none := PySem.W.hideAll_none (trk h H) hm
    rw [z] at e; cases e
def allNews (g h : Heap) (L : Addr) : List (Addr × Obj) := (List.range h.objs.size).filterMap fun a => if a = L ∨ (g.get? a).isSome = true then none else (h.get? a).map fun o => (a, o)
def rest (g h : Heap) (L d : Addr) : List (Addr × Obj) := (allNews g h L).filter fun p => decide (p.1 ≠ d)
end L2
namespace L2
open PySem PySem.Spec PyProof.Rows
set_option genInjectivity false in
set_option genSizeOf false in
structure Mod (K : PySem.W.Frag) (mg : Str → Option Value) (base : Heap) : Prop where
  kin : K.In base
  glob : base.Ns mainGlobals mg
  blt : ∃ mb, base.Ns builtinsNs mb ∧ ∀ x : Str, x ≠ "__name__" → mb x = bootBuiltins x
  nolimit : base.NoLimit
set_option genInjectivity false in
set_option genSizeOf false in
structure Cx where
  prog : Program
  w : World
  K : PySem.W.Frag
  mg : Str → Option Value
  base : Heap
  A : Around
  N : List Str
  s₀ : Shared
  H₀ : Hp
  env : Env
  outer : List Env
  stack : List Env
  ex : List Addr
  fn : Str → Bool
  calm : Bool
  pn : List (Addr × Obj)
  xe : Value → Shared → Prop
def frs (l : List Env) : List Addr := l.filterMap (·.frame)
abbrev Cx.fs (X : Cx) : List Addr := frs X.outer
def Vis (sc : Scope) (x : Str) : Prop := sc.names.lookup x = some .local ∨ sc.names.lookup x = some .cell ∨ sc.names.lookup x = some .free
def Loc (sc : Scope) (x : Str) : Prop := sc.names.lookup x = some .local ∨ sc.names.lookup x = some .cell
def Look (env : Env) (h : Heap) (m : Str → Option Value) (x : Str) (u : Value) : Prop :=
  (env.kindOf x = some .local ∧ m x = some u) ∨ ((env.kindOf x = some .cell ∨ env.kindOf x = some .free) ∧ ∃ c, env.cells.lookup x = some c ∧ h.IsCell c (some u))
set_option genInjectivity false in
set_option genSizeOf false in
structure Cx.Ok (X : Cx) : Prop where
  mod : Mod X.K X.mg X.base
  kind : X.env.scope.kind = .function
  glob : X.env.globals = mainGlobals
  blt : X.env.builtins = builtinsNs
  above : X.s₀.heap.objs.size ≤ X.env.locals
  inj : ∀ x y c, X.env.cells.lookup x = some c → X.env.cells.lookup y = some c → x = y
  has : ∀ x, (X.env.kindOf x = some .cell ∨ X.env.kindOf x = some .free) → ∃ c, X.env.cells.lookup x = some c
  cab : ∀ x c, X.fn x = true → X.env.cells.lookup x = some c → X.s₀.heap.objs.size ≤ c
  hd : X.calm = true → X.A.handled = none
  frames : X.A.frames = some X.stack
  stk : X.stack = X.outer ∨ (X.stack = X.env :: X.outer ∧ X.env.frame = some X.env.locals)
  exf : ∀ b ∈ X.ex, b ≠ X.env.locals ∧ ∀ x c, X.env.cells.lookup x = some c → c ≠ b
  bs : ∀ b o, X.base.get? b = some o → X.s₀.heap.get? b = some o ∧ X.H₀ b = none
  bsz : X.base.objs.size ≤ X.s₀.heap.objs.size
  noex : ∀ b o, X.base.get? b = some o → b ∉ X.ex
  exfs : ∀ b ∈ X.ex, b ∉ X.fs
  funs : X.s₀.heap.FunFrames X.base X.outer
  frf : ∀ b ∈ X.fs, X.H₀ b = none
set_option genInjectivity false in
set_option genSizeOf false in
structure Inv (X : Cx) (pins : List (Addr × Obj)) (σ : List (Option V)) (H : Hp) (s : Shared) : Prop where
  ok : X.Ok
  os : s.os = X.s₀.os
  bare : AllBare s.gens
  base : Un X.fs X.ex X.H₀ H X.s₀.heap s.heap
  loc : ∃ m, s.heap.Ns X.env.locals m ∧ ∀ (i : Nat) (x : Str) (v : V), X.N[i]? = some x → σ[i]? = some (some v) → Vis X.env.scope x → ∃ u, RelV v u ∧ Look X.env s.heap m x u
  cell : ∀ x c, X.env.cells.lookup x = some c → ∃ v, s.heap.IsCell c v
  free : H X.env.locals = none
  freeC : ∀ x c, X.env.cells.lookup x = some c → H c = none
  pin : ∀ p ∈ X.pn ++ pins, s.heap.get? p.1 = some p.2 ∧ H p.1 = none ∧ p.1 ≠ X.env.locals ∧ p.1 ∉ X.fs ∧ ∀ v, p.2.data ≠ .cell v
  hok : HOk X.prog X.w H s.heap
  len : σ.length = X.N.length
section
variable {X : Cx} {pins : List (Addr × Obj)} {σ : List (Option V)} {H H' : Hp} {s : Shared} {h' : Heap}
theorem Cx.Ok.nofr (ok : X.Ok) {b : Addr} {o : Obj} (e : X.base.get? b = some o) : b ∉ X.fs := fun hb => by
  have := (ok.funs.mem hb).1
  rw [e] at this; cases this
theorem Inv.bs (I : Inv X pins σ H s) : ∀ b o, X.base.get? b = some o → s.heap.get? b = some o ∧ H b = none := fun b o e =>
  ⟨I.base.keep b o (I.ok.bs b o e).1 (I.ok.bs b o e).2 (I.ok.nofr e) (I.ok.noex b o e), I.base.free b o (I.ok.bs b o e).1 (I.ok.bs b o e).2 (I.ok.noex b o e)⟩
theorem Inv.bk (I : Inv X pins σ H s) : ∀ b o, X.base.get? b = some o → s.heap.get? b = some o := fun b o e => (I.bs b o e).1
theorem Inv.mod (I : Inv X pins σ H s) : Mod X.K X.mg X.base := I.ok.mod
theorem Inv.kIn (I : Inv X pins σ H s) : X.K.In s.heap := I.ok.mod.kin.keeps I.bk
theorem Inv.lt (I : Inv X pins σ H s) : X.env.locals < s.heap.objs.size := let ⟨_, hn, _⟩ := I.loc; hn.lt
theorem Inv.sz (I : Inv X pins σ H s) : X.s₀.heap.objs.size ≤ s.heap.objs.size := Nat.le_trans I.ok.above (Nat.le_of_lt I.lt)
theorem Inv.nofs (I : Inv X pins σ H s) {a : Addr} (h : s.heap.objs.size ≤ a) : a ∉ X.fs := fun hb => by
  obtain ⟨_, o, ho, _⟩ := I.ok.funs.mem hb
  exact absurd (Nat.lt_of_lt_of_le (Heap.lt_size ho) (Nat.le_trans I.sz h)) (Nat.lt_irrefl _)
theorem Inv.cne (I : Inv X pins σ H s) : ∀ x c, X.env.cells.lookup x = some c → c ≠ X.env.locals := fun x c e z => by
  obtain ⟨v, o, ho, hd⟩ := I.cell x c e
  obtain ⟨m, ⟨o', es, ep, ho', hd', _⟩, _⟩ := I.loc
  rw [z, ho'] at ho; cases ho; rw [hd'] at hd; cases hd
theorem Inv.funs (I : Inv X pins σ H s) : s.heap.FunFrames X.base X.outer := by
  have all : ∀ (l : List Env), (∀ b ∈ frs l, b ∈ X.fs) → X.s₀.heap.FunFrames X.base l → s.heap.FunFrames X.base l := by
    intro l
    induction l with
    | nil => intro _ _; trivial
    | cons env r ih =>
      intro hs hl
      obtain ⟨hk, ⟨L, o, hf, hn, ho, hd⟩, hr⟩ := hl
      have hL : L ∈ X.fs := hs L (by unfold frs; rw [List.filterMap_cons, hf]; exact List.mem_cons_self)
      obtain ⟨sl, e⟩ := I.base.slot L o ho (I.ok.frf L hL) hL fun z => I.ok.exfs L z hL
      exact ⟨hk, ⟨L, _, hf, hn, e, hd⟩, ih (fun b hb => hs b (by unfold frs; rw [List.filterMap_cons, hf]; exact List.mem_cons_of_mem _ hb)) hr⟩
  exact all X.outer (fun _ hb => hb) I.ok.funs
theorem Inv.stack (I : Inv X pins σ H s) : s.heap.FunFrames X.base X.stack := by
  rcases I.ok.stk with e | ⟨e, hf⟩
  · rw [e]; exact I.funs
  · rw [e]
    obtain ⟨m, hn, _⟩ := I.loc
    refine .cons (by rw [I.ok.kind]; decide) hf hn ?_ I.funs
    exact Heap.get?_none_of_le (Nat.le_trans I.ok.bsz I.ok.above)
theorem Inv.stkSub (I : Inv X pins σ H s) : ∀ b ∈ frs X.stack, b ∈ X.env.locals :: X.fs := fun b hb => by
  rcases I.ok.stk with e | ⟨e, hf⟩
  · rw [e] at hb; exact List.mem_cons_of_mem _ hb
  · rw [e] at hb
    unfold frs at hb
    rw [List.filterMap_cons, hf] at hb
    exact hb
theorem Inv.stkFree (I : Inv X pins σ H s) : ∀ b ∈ frs X.stack, H b = none := fun b hb => by
  rcases List.mem_cons.mp (I.stkSub b hb) with e | hb
  · rw [e]; exact I.free
  · obtain ⟨_, o, ho, _⟩ := I.ok.funs.mem hb
    exact I.base.free b o ho (I.ok.frf b hb) fun z => I.ok.exfs b z hb
theorem Inv.step {g' : Array GenState} {t' : Nat} {d' : Drawn} {ch : List Addr} (I : Inv X pins σ H s)
    (hch : ∀ b ∈ ch, (b ∈ X.ex ∨ X.s₀.heap.objs.size ≤ b) ∧ b ≠ X.env.locals ∧ (∀ x c, X.env.cells.lookup x = some c → c ≠ b) ∧ ∀ p ∈ X.pn ++ pins, p.1 ≠ b)
    (keep : ∀ b o, b ≠ X.env.locals → b ∉ X.fs → b ∉ ch → s.heap.get? b = some o → H b = none → h'.get? b = some o)
    (slot : ∀ b o, b ≠ X.env.locals → b ∈ X.fs → b ∉ ch → s.heap.get? b = some o → H b = none → ∃ sl, h'.get? b = some { o with slots := sl }) (free : ∀ b o, b ∉ ch → s.heap.get? b = some o → H b = none → H' b = none)
    (there : ∀ b o, b ∉ ch → s.heap.get? b = some o → ∃ o', h'.get? b = some o')
    (tups : ∀ b xs, H b = some (.tup xs) → H' b = some (.tup xs)) (frzs : ∀ b o u, H b = some (.frz o u) → H' b = some (.frz o u)) (tbls : ∀ b ps, H b = some (.tbl ps) → ∃ more, H' b = some (.tbl (ps ++ more)))
    (ns : ∀ m, s.heap.Ns X.env.locals m → h'.Ns X.env.locals m) (hok : HOk X.prog X.w H' h') (hg : AllBare g') :
    Inv X pins σ H' { s with heap := h', gens := g', drawn := d', toks := t' } := by
  have neL : ∀ b o, X.s₀.heap.get? b = some o → b ≠ X.env.locals := fun b o e => Nat.ne_of_lt (Nat.lt_of_lt_of_le (Heap.lt_size e) I.ok.above)
  have neC : ∀ b o, X.s₀.heap.get? b = some o → b ∉ X.ex → b ∉ ch := fun b o e hx hb => by
    rcases (hch b hb).1 with z | z
    · exact hx z
    · exact absurd (Nat.lt_of_lt_of_le (Heap.lt_size e) z) (Nat.lt_irrefl _)
  have cellK : ∀ x c, X.env.cells.lookup x = some c → ∀ v, s.heap.IsCell c v → h'.IsCell c v := fun x c e v ⟨o, ho, hd⟩ => by
    have nch : c ∉ ch := fun z => (hch c z).2.2.1 x c e rfl
    by_cases hc : c ∈ X.fs
    · obtain ⟨sl, q⟩ := slot c o (I.cne x c e) hc nch ho (I.freeC x c e)
      exact ⟨_, q, hd⟩
    · exact ⟨o, keep c o (I.cne x c e) hc nch ho (I.freeC x c e), hd⟩
  refine ⟨I.ok, I.os, hg, ⟨fun b o e n hb hx => ?_, fun b o e n hb hx => ?_, fun b o e n hx => ?_, fun b o e hx => ?_, fun b xs e => tups b xs (I.base.tups b xs e), fun b o xs e => frzs b o xs (I.base.frzs b o xs e), fun b ps e => ?_⟩, ?_, fun x c e => ?_, ?_, fun x c e => ?_, fun p hp => ?_, hok, I.len⟩
  · exact keep b o (neL b o e) hb (neC b o e hx) (I.base.keep b o e n hb hx) (I.base.free b o e n hx)
  · obtain ⟨sl, e1⟩ := I.base.slot b o e n hb hx
    obtain ⟨sl', e2⟩ := slot b _ (neL b o e) hb (neC b o e hx) e1 (I.base.free b o e n hx)
    exact ⟨sl', e2⟩
  · obtain ⟨o', e1⟩ := I.base.there b o e hx
    exact free b o' (neC b o e hx) e1 (I.base.free b o e n hx)
  · obtain ⟨o', e1⟩ := I.base.there b o e hx
    exact there b o' (neC b o e hx) e1
  · obtain ⟨m1, e1⟩ := I.base.tbls b ps e
    obtain ⟨m2, e2⟩ := tbls b _ e1
    exact ⟨m1 ++ m2, by rw [e2, Array.append_assoc]⟩
  · obtain ⟨m, hn, hl⟩ := I.loc
    refine ⟨m, ns m hn, fun i x v e1 e2 e3 => ?_⟩
    obtain ⟨u, r, l⟩ := hl i x v e1 e2 e3
    refine ⟨u, r, ?_⟩
    rcases l with l | ⟨k, c, e, z⟩
    · exact .inl l
    · exact .inr ⟨k, c, e, cellK x c e _ z⟩
  · obtain ⟨v, z⟩ := I.cell x c e
    exact ⟨v, cellK x c e v z⟩
  · obtain ⟨m, ⟨o, _, _, ho, _⟩, _⟩ := I.loc
    exact free _ o (fun z => (hch _ z).2.1 rfl) ho I.free
  · obtain ⟨v, o, ho, hd⟩ := I.cell x c e
    exact free c o (fun z => (hch c z).2.2.1 x c e rfl) ho (I.freeC x c e)
  · obtain ⟨e, n, ne, nf, d⟩ := I.pin p hp
    have nch : p.1 ∉ ch := fun z => (hch p.1 z).2.2.2 p hp rfl
    exact ⟨keep p.1 p.2 ne nf nch e n, free p.1 p.2 nch e n, ne, nf, d⟩
theorem Inv.un {t' : Nat} (I : Inv X pins σ H s) (u : Un X.fs [] H H' s.heap h') (hok : HOk X.prog X.w H' h') : Inv X pins σ H' { s with heap := h', toks := t' } := by
  obtain ⟨m, ⟨o, es, ep, ho, r⟩, _⟩ := id I.loc
  obtain ⟨sl, hL⟩ := u.any ho I.free (by simp)
  exact I.step (g' := s.gens) (d' := s.drawn) (ch := []) (fun _ z => nomatch z) (fun b o _ hb _ e n => u.keep b o e n hb (by simp)) (fun b o _ hb _ e n => u.slot b o e n hb (by simp)) (fun b o _ e n => u.free b o e n (by simp)) (fun b o _ e => u.there b o e (by simp)) u.tups u.frzs u.tbls (fun m' hm => by
    obtain ⟨o', es', ep', ho', r'⟩ := hm
    rw [ho] at ho'; cases ho'
    exact ⟨_, es', ep', hL, r'⟩) hok I.bare
theorem Inv.call {g' : Array GenState} {t' : Nat} {d' : Drawn} {ch : List Addr} (I : Inv X pins σ H s) (u : Un (frs X.stack) ch H H' s.heap h') (hok : HOk X.prog X.w H' h') (hg : AllBare g')
    (hch : ∀ b ∈ ch, (b ∈ X.ex ∨ X.s₀.heap.objs.size ≤ b) ∧ b ≠ X.env.locals ∧ (∀ x c, X.env.cells.lookup x = some c → c ≠ b) ∧ ∀ p ∈ X.pn ++ pins, p.1 ≠ b) :
    Inv X pins σ H' { s with heap := h', gens := g', drawn := d', toks := t' } := by
  obtain ⟨m, ⟨o, es, ep, ho, r⟩, _⟩ := id I.loc
  obtain ⟨sl, hL⟩ := u.any ho I.free fun z => (hch _ z).2.1 rfl
  exact I.step (ch := ch) hch (fun b o hL hb hc e n => u.keep b o e n (fun z => (List.mem_cons.mp (I.stkSub b z)).elim hL hb) hc) (fun b o _ _ hc e n => u.any e n hc) (fun b o hc e n => u.free b o e n hc) (fun b o hc e => u.there b o e hc) u.tups u.frzs u.tbls (fun m' hm => by
    obtain ⟨o', es', ep', ho', r'⟩ := hm
    rw [ho] at ho'; cases ho'
    exact ⟨_, es', ep', hL, r'⟩) hok hg
theorem Inv.turned {t' : Nat} {it : Addr} (I : Inv X pins σ H s) (k : ∀ b o, b ≠ it → s.heap.get? b = some o → h'.get? b = some o) (hn : H it = none) (hL : it ≠ X.env.locals)
    (h1 : it ∈ X.ex ∨ X.s₀.heap.objs.size ≤ it) (h2 : ∀ x c, X.env.cells.lookup x = some c → c ≠ it) (h3 : ∀ p ∈ X.pn ++ pins, p.1 ≠ it) : Inv X pins σ H { s with heap := h', toks := t' } := by
  have nit : ∀ b u, H b = some u → b ≠ it := fun b u e z => by rw [z, hn] at e; cases e
  refine I.step (g' := s.gens) (d' := s.drawn) (ch := [it]) (fun b hb => ?_) (fun b o _ _ hc e _ => k b o (fun z => hc (by simp [z])) e) (fun b o _ _ hc e _ => ⟨o.slots, k b o (fun z => hc (by simp [z])) e⟩) (fun _ _ _ _ n => n)
    (fun b o hc e => ⟨o, k b o (fun z => hc (by simp [z])) e⟩) (fun _ _ e => e) (fun _ _ _ e => e) (fun b ps e => ⟨#[], by rw [e]; simp⟩) (fun m hm => ?_) (fun b u e => ?_) I.bare
  · have e : b = it := by simpa using hb
    subst e
    exact ⟨h1, hL, h2, h3⟩
  · obtain ⟨o, es, ep, ho, r⟩ := hm
    exact ⟨o, es, ep, k _ o (Ne.symm hL) ho, r⟩
  · refine (I.hok b u e).stay (fun c v hc q => k c v ?_ q) (fun _ q => q) fun _ _ q => q
    rcases hc with z | z
    · rw [z]; exact nit b u e
    · exact nit c _ z
theorem Inv.tok (I : Inv X pins σ H s) (t : Nat) : Inv X pins σ H { s with toks := t } := I.un (h' := s.heap) (t' := t) Un.refl I.hok
theorem Inv.kept {t' : Nat} (I : Inv X pins σ H s) (k : ∀ b u, s.heap.get? b = some u → h'.get? b = some u) : Inv X pins σ H { s with heap := h', toks := t' } := I.un (Un.kept k) (I.hok.kept k)
theorem Inv.laid {a : Addr} {o : HO} {t' : Nat} (I : Inv X pins σ H s) (k : ∀ b u, s.heap.get? b = some u → h'.get? b = some u) (hp : s.heap.objs.size ≤ a) (new : ObjOk X.prog X.w (upd H a o) h' a o) :
    Inv X pins σ (upd H a o) { s with heap := h', toks := t' } := I.un (Un.laid k hp (I.hok.fresh hp)) (I.hok.laid k hp new)
theorem Inv.write {x e : Addr} {o : HO} {t' : Nat} (I : Inv X pins σ H s) (mu : Mut (H x)) (he : e = x ∨ H e = some (.own x)) (k : ∀ b u, b ≠ e → s.heap.get? b = some u → h'.get? b = some u) (heo : ∃ u, h'.get? e = some u)
    (new : ObjOk X.prog X.w (upd H x o) h' x o) : Inv X pins σ (upd H x o) { s with heap := h', toks := t' } := I.un (Un.write mu he k heo) (I.hok.write mu he k heo new)
theorem Inv.pins_of {pins' : List (Addr × Obj)} (I : Inv X pins σ H s) (h : ∀ p ∈ pins', s.heap.get? p.1 = some p.2 ∧ H p.1 = none ∧ p.1 ≠ X.env.locals ∧ p.1 ∉ X.fs ∧ ∀ v, p.2.data ≠ .cell v) : Inv X pins' σ H s :=
  ⟨I.ok, I.os, I.bare, I.base, I.loc, I.cell, I.free, I.freeC, fun p hp => (List.mem_append.mp hp).elim (fun z => I.pin p (List.mem_append_left _ z)) (h p), I.hok, I.len⟩
theorem nodup_ix {N : List Str} (hN : N.Nodup) {i j : Nat} {x : Str} (a : N[i]? = some x) (b : N[j]? = some x) : i = j := by
  obtain ⟨h1, e1⟩ := List.getElem?_eq_some_iff.mp a
  obtain ⟨h2, e2⟩ := List.getElem?_eq_some_iff.mp b
  exact (List.getElem_inj hN).mp (e1.trans e2.symm)
theorem store_ok2 {M : Model} {A : Around} {E : Value → Shared → Prop} {i : Nat} {x : Str} {v : V} {u : Value} {Q : Unit → Shared → Prop} (I : Inv X pins σ H s) (hN : X.N.Nodup) (hi : X.N[i]? = some x) (hx : Loc X.env.scope x) (r : RelV v u)
    (h : ∀ s', Inv X pins (σ.set i (some v)) H s' → (∃ a, Heap.SameBut a s.heap s'.heap ∧ (a = X.env.locals ∨ X.env.cells.lookup x = some a)) → Q () s') (hf : X.fn x = true ∨ X.env.scope.names.lookup x = some .local := by first | exact .inl rfl | exact .inr rfl | assumption) : wpAny M A (storeName X.env x u) Q E s := by
  obtain ⟨m, hn, hl⟩ := id I.loc
  have hcls : (X.env.scope.kind == .class || (X.env.scope.kind == .module && X.env.locals != X.env.globals)) = false := by rw [I.ok.kind]; rfl
  have hiσ : i < σ.length := by rw [I.len]; exact (List.getElem?_eq_some_iff.mp hi).1
  have cne := I.cne
  have tracked : ∀ {a : Addr} {h' : Heap}, (∃ o, s.heap.get? a = some o ∧ H a = none) → Heap.SameBut a s.heap h' → HOk X.prog X.w H h' := fun {a h'} ha hs b ob e => by
    obtain ⟨_, _, hfree⟩ := ha
    refine (I.hok b ob e).stay (fun c w' hc q => (hs.2 c ?_).trans q) (fun _ q => q) fun _ _ q => q
    rintro rfl
    rcases hc with rfl | hc
    · rw [hfree] at e; cases e
    · rw [hfree] at hc; cases hc
  rcases hx with hk | hk
  · refine wpAny_storeName_local hk hn (fun h' hn' hs => ?_) hcls
    obtain ⟨oL, _, _, hoL, _⟩ := id hn
    refine h _ ⟨I.ok, I.os, I.bare, ⟨fun b o e n hb hx => ?_, fun b o e n hb hx => ?_, I.base.free, fun b o e hx => ?_, I.base.tups, I.base.frzs, I.base.tbls⟩, ⟨_, hn', fun j y v' e1 e2 e3 => ?_⟩, fun y c e => ?_, I.free, I.freeC, fun p hp => ?_, tracked ⟨oL, hoL, I.free⟩ hs, by simpa using I.len⟩ ⟨_, hs, .inl rfl⟩
    · exact (hs.2 b (Nat.ne_of_lt (Nat.lt_of_lt_of_le (Heap.lt_size e) I.ok.above))).trans (I.base.keep b o e n hb hx)
    · obtain ⟨sl, e1⟩ := I.base.slot b o e n hb hx
      exact ⟨sl, (hs.2 b (Nat.ne_of_lt (Nat.lt_of_lt_of_le (Heap.lt_size e) I.ok.above))).trans e1⟩
    · obtain ⟨o', e1⟩ := I.base.there b o e hx
      exact ⟨o', (hs.2 b (Nat.ne_of_lt (Nat.lt_of_lt_of_le (Heap.lt_size e) I.ok.above))).trans e1⟩
    · by_cases hj : j = i
      · subst hj
        rw [hi] at e1; cases e1
        rw [List.getElem?_set_self hiσ] at e2
        cases e2
        exact ⟨u, r, .inl ⟨hk, by simp⟩⟩
      · rw [List.getElem?_set_ne (Ne.symm hj)] at e2
        obtain ⟨u', r', q⟩ := hl j y v' e1 e2 e3
        refine ⟨u', r', ?_⟩
        rcases q with ⟨k, e⟩ | ⟨k, c, e, z⟩
        · refine .inl ⟨k, ?_⟩
          have : y ≠ x := fun e => hj (nodup_ix hN e1 (e ▸ hi))
          simp [this, e]
        · exact .inr ⟨k, c, e, z.sameBut hs (cne y c e)⟩
    · obtain ⟨w', z⟩ := I.cell y c e
      exact ⟨w', z.sameBut hs (cne y c e)⟩
    · obtain ⟨e, n, ne, nf, d⟩ := I.pin p hp
      exact ⟨(hs.2 p.1 ne).trans e, n, ne, nf, d⟩
  · have hfn : X.fn x = true := by
      rcases hf with z | z
      · exact z
      · rw [z] at hk; cases hk
    obtain ⟨c, hc⟩ := I.ok.has x (.inl hk)
    obtain ⟨w', z⟩ := I.cell x c hc
    refine wpAny_storeName_cell I.ok.kind hk hc z (fun h' hc' hs => ?_)
    obtain ⟨oc, hoc, hocd⟩ := id z
    refine h { s with heap := h' } ⟨I.ok, I.os, I.bare, ⟨fun b o e n hb hx => ?_, fun b o e n hb hx => ?_, I.base.free, fun b o e hx => ?_, I.base.tups, I.base.frzs, I.base.tbls⟩, ⟨m, hn.sameBut hs (Ne.symm (cne x c hc)), fun j y v' e1 e2 e3 => ?_⟩, fun y c' e => ?_, I.free, I.freeC, fun p hp => ?_, tracked ⟨oc, hoc, I.freeC x c hc⟩ hs, by simpa using I.len⟩ ⟨c, hs, .inr hc⟩
    · exact (hs.2 b (Nat.ne_of_lt (Nat.lt_of_lt_of_le (Heap.lt_size e) (I.ok.cab x c hfn hc)))).trans (I.base.keep b o e n hb hx)
    · obtain ⟨sl, e1⟩ := I.base.slot b o e n hb hx
      exact ⟨sl, (hs.2 b (Nat.ne_of_lt (Nat.lt_of_lt_of_le (Heap.lt_size e) (I.ok.cab x c hfn hc)))).trans e1⟩
    · obtain ⟨o', e1⟩ := I.base.there b o e hx
      exact ⟨o', (hs.2 b (Nat.ne_of_lt (Nat.lt_of_lt_of_le (Heap.lt_size e) (I.ok.cab x c hfn hc)))).trans e1⟩
    · by_cases hj : j = i
      · subst hj
        rw [hi] at e1; cases e1
        rw [List.getElem?_set_self hiσ] at e2
        cases e2
        exact ⟨u, r, .inr ⟨.inl hk, c, hc, hc'⟩⟩
      · rw [List.getElem?_set_ne (Ne.symm hj)] at e2
        obtain ⟨u', r', q⟩ := hl j y v' e1 e2 e3
        refine ⟨u', r', ?_⟩
        rcases q with q | ⟨k, c', e, z'⟩
        · exact .inl q
        · refine .inr ⟨k, c', e, z'.sameBut hs ?_⟩
          rintro rfl
          exact hj (nodup_ix hN e1 (I.ok.inj _ _ _ e hc ▸ hi))
    · by_cases hcc : c' = c
      · subst hcc; exact ⟨_, hc'⟩
      · obtain ⟨w2, z2⟩ := I.cell y c' e
        exact ⟨w2, z2.sameBut hs hcc⟩
    · obtain ⟨e, n, ne, nf, d⟩ := I.pin p hp
      refine ⟨(hs.2 p.1 ?_).trans e, n, ne, nf, d⟩
      intro q
      rw [q, hoc] at e
      have q' : oc = p.2 := Option.some.inj e
      exact d w' (by rw [← q']; exact hocd)
theorem store_ok {M : Model} {A : Around} {E : Value → Shared → Prop} {i : Nat} {x : Str} {v : V} {u : Value} {Q : Unit → Shared → Prop} (I : Inv X pins σ H s) (hN : X.N.Nodup) (hi : X.N[i]? = some x) (hx : Loc X.env.scope x) (r : RelV v u)
    (h : ∀ s', Inv X pins (σ.set i (some v)) H s' → Q () s') (hf : X.fn x = true ∨ X.env.scope.names.lookup x = some .local := by first | exact .inl rfl | exact .inr rfl | assumption) : wpAny M A (storeName X.env x u) Q E s :=
  store_ok2 I hN hi hx r (fun s' I' _ => h s' I') hf
theorem Inv.call' {s' : Shared} {ch : List Addr} (I : Inv X pins σ H s) (ho : s'.os = s.os) (u : Un (frs X.stack) ch H H' s.heap s'.heap) (hok : HOk X.prog X.w H' s'.heap) (hg : AllBare s'.gens)
    (hch : ∀ b ∈ ch, (b ∈ X.ex ∨ X.s₀.heap.objs.size ≤ b) ∧ b ≠ X.env.locals ∧ (∀ x c, X.env.cells.lookup x = some c → c ≠ b) ∧ ∀ p ∈ X.pn ++ pins, p.1 ≠ b) : Inv X pins σ H' s' := by
  obtain ⟨h', g', d', t', o'⟩ := s'
  have e : o' = s.os := ho
  subst e
  exact I.call (g' := g') (t' := t') (d' := d') u hok hg hch
end
abbrev XK := Value → Option Addr → Hp → Prop
abbrev St := List (Option V)
abbrev VK := V → Hp → Prop
abbrev TE := St → Hp → VK → Prop
abbrev TT := St → Hp → (Bool → Hp → Prop) → Prop
abbrev TA := St → Hp → (List V → Hp → Prop) → Prop
set_option genInjectivity false in
set_option genSizeOf false in
structure Ends where
  nx : St → Hp → Prop
  rt : VK
  bk : St → Hp → Prop := fun _ _ => False
  ct : St → Hp → Prop := fun _ _ => False
abbrev TS := Ends → St → Hp → Prop
def EP (X : Cx) (pins : List (Addr × Obj)) (σ : St) (Q : VK) (u : Value) (s' : Shared) : Prop := ∃ v H', Inv X pins σ H' s' ∧ RelV v u ∧ Q v H'
def TP (X : Cx) (pins : List (Addr × Obj)) (σ : St) (Q : Bool → Hp → Prop) (b : Bool) (s' : Shared) : Prop := ∃ H', Inv X pins σ H' s' ∧ Q b H'
def AP (X : Cx) (pins : List (Addr × Obj)) (σ : St) (Q : List V → Hp → Prop) (us : List Value) (s' : Shared) : Prop := ∃ vs H', Inv X pins σ H' s' ∧ Vals vs us ∧ Q vs H'
def SP (X : Cx) (pins : List (Addr × Obj)) (D : Ends) (f : Flow) (s' : Shared) : Prop :=
  match f with
  | .next => ∃ σ' H', Inv X pins σ' H' s' ∧ D.nx σ' H'
  | .brk => ∃ σ' H', Inv X pins σ' H' s' ∧ D.bk σ' H'
  | .cont => ∃ σ' H', Inv X pins σ' H' s' ∧ D.ct σ' H'
  | .ret u => ∃ v σ' H', Inv X pins σ' H' s' ∧ RelV v u ∧ D.rt v H'
def PE (X : Cx) (e : Expr) (t : TE) : Prop :=
  ∀ (pins : List (Addr × Obj)) (s : Shared) (σ : St) (H : Hp) (Q : VK), Inv X pins σ H s → t σ H Q → wpAny (model X.prog X.w) X.A (eval e X.env) (EP X pins σ Q) X.xe s
def PT (X : Cx) (e : Expr) (t : TT) : Prop :=
  ∀ (pins : List (Addr × Obj)) (s : Shared) (σ : St) (H : Hp) (Q : Bool → Hp → Prop), Inv X pins σ H s → t σ H Q → wpAny (model X.prog X.w) X.A (isTrue e X.env (eval e X.env)) (TP X pins σ Q) X.xe s
def PW (X : Cx) (e : Expr) (t : TT) : Prop :=
  ∀ (whole : Sem Value) (pins : List (Addr × Obj)) (s : Shared) (σ : St) (H : Hp) (Q : Bool → Hp → Prop), Inv X pins σ H s → t σ H Q → wpAny (model X.prog X.w) X.A (isTrue e X.env whole) (TP X pins σ Q) X.xe s
theorem PW.pt {X : Cx} {e : Expr} {t : TT} (h : PW X e t) : PT X e t := h _
def PA (X : Cx) (es : List Expr) (t : TA) : Prop :=
  ∀ (pos : Pos) (pins : List (Addr × Obj)) (s : Shared) (σ : St) (H : Hp) (Q : List V → Hp → Prop), Inv X pins σ H s → t σ H Q → wpAny (model X.prog X.w) X.A (spliced (backTo pos (starEach es X.env))) (AP X pins σ Q) X.xe s
def PS (X : Cx) (st : Stmt) (t : TS) : Prop :=
  ∀ (pins : List (Addr × Obj)) (s : Shared) (σ : St) (H : Hp) (D : Ends), Inv X pins σ H s → t D σ H → wpAny (model X.prog X.w) X.A (exec st X.env) (SP X pins D) X.xe s
def PSs (X : Cx) (st : List Stmt) (t : TS) : Prop :=
  ∀ (pins : List (Addr × Obj)) (s : Shared) (σ : St) (H : Hp) (D : Ends), Inv X pins σ H s → t D σ H → wpAny (model X.prog X.w) X.A (execs st X.env) (SP X pins D) X.xe s
theorem thn {α : Type} {t : Sem α} {Q Q' : α → Shared → Prop} {M : Model} {A : Around} {E : Value → Shared → Prop} {s : Shared} (h : wpAny M A t Q E s) (hQ : ∀ a s, Q a s → Q' a s) : wpAny M A t Q' E s := wpAny_mono h hQ fun _ _ x => x
end L2
namespace L2
open PySem PySem.Spec PyProof.Rows
section
variable {X : Cx}
def tVar (i : Nat) : TE := fun σ H Q => match σ[i]? with
  | some (some v) => Q v H
  | _ => False
theorem tVar_inv {i : Nat} {σ : St} {H : Hp} {Q : VK} (h : tVar i σ H Q) : ∃ v, σ[i]? = some (some v) ∧ Q v H := by
  unfold tVar at h
  split at h
  · exact ⟨_, by assumption, h⟩
  · exact h.elim
def tC (v : V) : TE := fun _ H Q => Q v H
theorem pe_var {i : Nat} {x : Str} {pos : Pos} (hN : X.N[i]? = some x) (hv : Vis X.env.scope x) (hd : (x == ("__debug__" : Str)) = false := by decide) (hcd : (x == ("__classdict__" : Str)) = false := by decide) : PE X (.Name x pos) (tVar i) := by
  intro pins s σ H Q I h
  obtain ⟨v, e, h⟩ := tVar_inv h
  obtain ⟨m, hn, hl⟩ := I.loc
  obtain ⟨u, r, l⟩ := hl i x v hN e hv
  have fin : EP X pins σ Q u s := ⟨v, H, I, r, h⟩
  rcases l with ⟨hk, hm⟩ | ⟨hk, c, hc, hcell⟩
  · exact wpAny_Name (wpAny_loadName_local I.ok.kind hk hn hm fin) hd
  · rcases hk with hk | hk
    · exact wpAny_Name (wpAny_loadName_cell I.ok.kind hk hc hcell fin) hd
    · exact wpAny_Name (wpAny_loadName_free I.ok.kind hk hc hcell fin hcd) hd
theorem pe_int {i j pos} : PE X (.Constant (.int i) j pos) (tC (.int i)) := fun _ _ _ H _ I h => wpAny_Constant_int ⟨.int i, H, I.tok _, ⟨_, rfl⟩, h⟩
theorem pe_bl {b j pos} : PE X (.Constant (.bool b) j pos) (tC (.bl b)) := fun _ _ _ H _ I h => Constant_bool ⟨.bl b, H, I, rfl, h⟩
theorem pe_non {j pos} : PE X (.Constant .none j pos) (tC .non) := fun _ _ _ H _ I h => Constant_none ⟨.non, H, I, rfl, h⟩
theorem pe_str {x j pos} : PE X (.Constant (.str x) j pos) (tC (.str x)) := fun _ _ _ H _ I h => Calls.Constant_str ⟨.str x, H, I.tok _, ⟨_, rfl⟩, h⟩
def Gl (X : Cx) (x : Str) : Prop := X.env.kindOf x = some .globalImplicit
theorem ld_glob {E : Value → Shared → Prop} {pins : List (Addr × Obj)} {s : Shared} {σ : St} {H : Hp} {x : Str} {u : Value} {pos : Pos} {Q : Value → Shared → Prop} (I : Inv X pins σ H s) (hg : Gl X x) (hm : X.mg x = some u) (h : Q u s)
    (hd : (x == ("__debug__" : Str)) = false := by decide) : wpAny (model X.prog X.w) X.A (eval (.Name x pos) X.env) Q E s :=
  Calls.Name_function_global I.ok.kind hg (Calls.loadGlobal_global (by rw [I.ok.glob]; exact I.mod.glob.keeps I.bk) hm h) hd
theorem ld_blt {E : Value → Shared → Prop} {pins : List (Addr × Obj)} {s : Shared} {σ : St} {H : Hp} {x : Str} {u : Value} {pos : Pos} {Q : Value → Shared → Prop} (I : Inv X pins σ H s) (hg : Gl X x) (hm : X.mg x = none) (hv : bootBuiltins x = some u) (h : Q u s)
    (hn : x ≠ "__name__" := by decide) (hd : (x == ("__debug__" : Str)) = false := by decide) : wpAny (model X.prog X.w) X.A (eval (.Name x pos) X.env) Q E s := by
  obtain ⟨mb, h1, h2⟩ := I.mod.blt
  exact Calls.Name_function_global I.ok.kind hg (Calls.loadGlobal_builtin (by rw [I.ok.glob]; exact I.mod.glob.keeps I.bk) hm (by rw [I.ok.blt]; exact h1.keeps I.bk) ((h2 x hn).trans hv) h) hd
theorem pe_glob {x : Str} {v : V} {u : Value} {pos : Pos} (hg : Gl X x) (hm : X.mg x = some u) (r : RelV v u) (hd : (x == ("__debug__" : Str)) = false := by decide) : PE X (.Name x pos) (tC v) :=
  fun _ _ _ H _ I h => ld_glob I hg hm ⟨v, H, I, r, h⟩ hd
theorem pe_bltn {x : Str} {v : V} {u : Value} {pos : Pos} (hg : Gl X x) (hm : X.mg x = none) (hv : bootBuiltins x = some u) (r : RelV v u) (hn : x ≠ "__name__" := by decide) (hd : (x == ("__debug__" : Str)) = false := by decide) : PE X (.Name x pos) (tC v) :=
  fun _ _ _ H _ I h => ld_blt I hg hm hv ⟨v, H, I, r, h⟩ hn hd
variable {a b : Expr} {ta tb : TE} {pos : Pos}
def PC (X : Cx) (op : CmpOp) (a b : Expr) (t : TE) : Prop :=
  ∀ (pins : List (Addr × Obj)) (s : Shared) (σ : St) (H : Hp) (Q : VK), Inv X pins σ H s → t σ H Q →
    wpAny (model X.prog X.w) X.A (eval a X.env) (fun v s₁ => wpAny (model X.prog X.w) X.A (eval b X.env) (fun u s₂ => wpAny (model X.prog X.w) X.A (compareOp op v u) (EP X pins σ Q) X.xe s₂) X.xe s₁) X.xe s
def tB (t : TE) : TT := fun σ H Q => t σ H fun x H1 => ∃ c, x = .bl c ∧ Q c H1
theorem pt_cmp {op : CmpOp} {t : TE} (h : PC X op a b t) (h1 : behindInMarks op b = false := by first | exact nobehind _ (by decide) (by decide) | rfl) : PT X (.Compare a [op] [b] pos) (tB t) := by
  intro pins s σ H Q I hw
  refine wpAny_isTrue_Compare1 (thn (h pins s σ H _ I hw) fun v s1 h1 => thn h1 fun u s2 h2 => thn h2 fun c s3 ⟨x, H1, I1, r1, q1⟩ => ?_) h1
  obtain ⟨d, rfl, q⟩ := q1
  cases r1
  exact wpAny_truthy_bool ⟨H1, I1, q⟩
theorem pt_val {e : Expr} {t : TE} (h : PE X e t) (he : ∀ whole, isTrue e X.env whole = (do let v ← whole; standAt e.pos; holding [v] (truthy v)) := by intro _; rfl) : PT X e (tB t) := by
  intro pins s σ H Q I hw
  refine isTrue_plain (thn (h pins s σ H _ I hw) fun v s1 ⟨x, H1, I1, r1, q1⟩ => ?_) (he _)
  obtain ⟨d, rfl, q⟩ := q1
  cases r1
  exact wpAny_truthy_bool ⟨H1, I1, q⟩
variable {tA tB' : TT} {rest : List Expr}
def tAnd (t u : TT) : TT := fun σ H Q => t σ H fun c H1 => if c = true then u σ H1 Q else Q false H1
def tOr (t u : TT) : TT := fun σ H Q => t σ H fun c H1 => if c = true then Q true H1 else u σ H1 Q
def tNot (t : TT) : TT := fun σ H Q => t σ H fun c H1 => Q (!c) H1
theorem pw_and1 (ha : PT X a tA) : PW X (.BoolOp .And [a] pos) tA := by
  intro wh pins s σ H Q I h
  refine isTrue_and (thn (ha pins s σ H Q I h) fun c s1 e => ?_)
  cases c with
  | true => exact isTrue_and_nil e
  | false => exact e
theorem pw_or1 (ha : PT X a tA) : PW X (.BoolOp .Or [a] pos) tA := by
  intro wh pins s σ H Q I h
  refine isTrue_or (thn (ha pins s σ H Q I h) fun c s1 e => ?_)
  cases c with
  | false => exact isTrue_or_nil e
  | true => exact e
theorem pw_and (ha : PT X a tA) (hb : PW X (.BoolOp .And (b :: rest) pos) tB') : PW X (.BoolOp .And (a :: b :: rest) pos) (tAnd tA tB') := by
  intro wh pins s σ H Q I h
  refine isTrue_and (thn (ha pins s σ H _ I h) fun c s1 ⟨H1, I1, q1⟩ => ?_)
  cases c with
  | true => exact hb wh pins s1 σ H1 Q I1 q1
  | false => exact ⟨H1, I1, q1⟩
theorem pw_or (ha : PT X a tA) (hb : PW X (.BoolOp .Or (b :: rest) pos) tB') : PW X (.BoolOp .Or (a :: b :: rest) pos) (tOr tA tB') := by
  intro wh pins s σ H Q I h
  refine isTrue_or (thn (ha pins s σ H _ I h) fun c s1 ⟨H1, I1, q1⟩ => ?_)
  cases c with
  | true => exact ⟨H1, I1, q1⟩
  | false => exact hb wh pins s1 σ H1 Q I1 q1
theorem pt_not (ha : PT X a tA) : PT X (.UnaryOp .Not a pos) (tNot tA) := by
  intro pins s σ H Q I h
  exact isTrue_not (ha pins s σ H (fun c H1 => Q (!c) H1) I h)
def tAndV (ta tb : TE) : TE := fun σ H Q => ta σ H fun x H1 => ∃ c, x = .bl c ∧ if c = true then tb σ H1 Q else Q (.bl false) H1
def tOrV (ta tb : TE) : TE := fun σ H Q => ta σ H fun x H1 => ∃ c, x = .bl c ∧ if c = true then Q (.bl true) H1 else tb σ H1 Q
def tNotV (ta : TE) : TE := fun σ H Q => ta σ H fun x H1 => ∃ c, x = .bl c ∧ Q (.bl (!c)) H1
theorem pe_one {op} {t : TE} (h : PE X a t) : PE X (.BoolOp op [a] pos) t := fun pins s σ H Q I hw => BoolOp_one (h pins s σ H Q I hw)
theorem pe_and (ha : PE X a ta) (hb : PE X (.BoolOp .And (b :: rest) pos) tb) : PE X (.BoolOp .And (a :: b :: rest) pos) (tAndV ta tb) := by
  intro pins s σ H Q I h
  refine BoolOp_and (thn (ha pins s σ H _ I h) fun v s1 ⟨x, H1, I1, r1, q1⟩ => ?_)
  obtain ⟨c, rfl, q1⟩ := q1
  cases r1
  refine wpAny_truthy_bool ?_
  cases c with
  | true => exact hb pins s1 σ H1 Q I1 q1
  | false => exact ⟨.bl false, H1, I1, rfl, q1⟩
theorem pe_or (ha : PE X a ta) (hb : PE X (.BoolOp .Or (b :: rest) pos) tb) : PE X (.BoolOp .Or (a :: b :: rest) pos) (tOrV ta tb) := by
  intro pins s σ H Q I h
  refine BoolOp_or (thn (ha pins s σ H _ I h) fun v s1 ⟨x, H1, I1, r1, q1⟩ => ?_)
  obtain ⟨c, rfl, q1⟩ := q1
  cases r1
  refine wpAny_truthy_bool ?_
  cases c with
  | false => exact hb pins s1 σ H1 Q I1 q1
  | true => exact ⟨.bl true, H1, I1, rfl, q1⟩
theorem pe_not (ha : PE X a ta) : PE X (.UnaryOp .Not a pos) (tNotV ta) := by
  intro pins s σ H Q I h
  refine UnaryOp_ (thn (ha pins s σ H _ I h) fun v s1 ⟨x, H1, I1, r1, q1⟩ => ?_)
  obtain ⟨c, rfl, q1⟩ := q1
  cases r1
  exact not_of (wpAny_truthy_bool ⟨.bl (!c), H1, I1, rfl, q1⟩)
def tIf (t : TT) (ta tb : TE) : TE := fun σ H Q => t σ H fun c H1 => if c = true then ta σ H1 Q else tb σ H1 Q
theorem pe_ifExp {c : Expr} (hc : PT X c tA) (ha : PE X a ta) (hb : PE X b tb) : PE X (.IfExp c a b pos) (tIf tA ta tb) := by
  intro pins s σ H Q I h
  refine wpAny_IfExp (thn (hc pins s σ H _ I h) fun d s1 ⟨H1, I1, q1⟩ => ?_)
  cases d with
  | true => exact ha pins s1 σ H1 Q I1 q1
  | false => exact hb pins s1 σ H1 Q I1 q1
end
end L2
namespace L2
open PySem PySem.Spec PyProof.Rows
def SqL (K : PySem.W.Frag) (H : Hp) (a : Addr) (xs : List V) : Prop :=
  Rd H a (.lst xs) ∨
    ∃ (o : Obj) (its : Array Value) (n : Nat), K.lookup a = some o ∧ o.cls = .type "list" ∧ o.dict = none ∧ o.data = .seq its n ∧ its.size ≤ sizeLine ∧ Vals xs its.toList
def SqT (K : PySem.W.Frag) (H : Hp) (a : Addr) (xs : List V) : Prop :=
  Rd H a (.tup xs) ∨
    ∃ (o : Obj) (its : Array Value) (n : Nat), K.lookup a = some o ∧ o.cls = .type "tuple" ∧ o.data = .seq its n ∧ its.size ≤ sizeLine ∧ Vals xs its.toList
def absV : Value → Option V
  | .none => some .non
  | .bool b => some (.bl b)
  | .int i _ => some (.int i)
  | .str x _ => some (.str x)
  | .bytes b _ => some (.byt b)
  | .float b _ => some (.flt b)
  | .ref a => some (.ref a)
  | .type n => some (.ty n)
  | _ => none
theorem RelV.abs {x : V} {u : Value} (r : RelV x u) : absV u = some x := by
  cases x with
  | non => cases r; rfl
  | bl _ => cases r; rfl
  | int _ => obtain ⟨t, rfl⟩ := r; rfl
  | str _ => obtain ⟨t, rfl⟩ := r; rfl
  | byt _ => obtain ⟨t, rfl⟩ := r; rfl
  | flt _ => obtain ⟨t, rfl⟩ := r; rfl
  | ref _ => cases r; rfl
  | ty _ => cases r; rfl
theorem RelV.inj {x y : V} {u : Value} (r : RelV x u) (q : RelV y u) : x = y := Option.some.inj (r.abs.symm.trans q.abs)
theorem Vals.inj : ∀ {xs ys : List V} {us : List Value}, Vals xs us → Vals ys us → xs = ys
  | _, _, _, .nil, .nil => rfl
  | _, _, _, .cons r t, .cons r' t' => by rw [r.inj r', Vals.inj t t']
section
variable {X : Cx} {pins : List (Addr × Obj)} {σ : St} {H : Hp} {s : Shared} {a : Addr} {xs ys : List V}
theorem SqL.of {K : PySem.W.Frag} (h : H a = some (.lst xs)) : SqL K H a xs := .inl (.inl h)
theorem SqT.of {K : PySem.W.Frag} (h : H a = some (.tup xs)) : SqT K H a xs := .inl (.inl h)
theorem Inv.list (I : Inv X pins σ H s) (h : SqL X.K H a xs) : ∃ its : List Value, Vals xs its ∧ PlainL s.heap a its.toArray ∧ xs.length ≤ sizeLine := by
  rcases h with h | ⟨o, its, n, hk, hc, hd, hs, hz, r⟩
  · obtain ⟨z, its, n, r, e⟩ := h.ok I.hok
    exact ⟨its, r, ⟨_, n, e, rfl, rfl, rfl⟩, z⟩
  · refine ⟨its.toList, r, ⟨o, n, I.kIn a o hk, hc, hd, by simpa using hs⟩, ?_⟩
    have e := r.length
    simp only [Array.length_toList] at e
    omega
theorem Inv.tuple (I : Inv X pins σ H s) (h : SqT X.K H a xs) : ∃ its : List Value, Vals xs its ∧ IsTup s.heap a its.toArray ∧ xs.length ≤ sizeLine := by
  rcases h with h | ⟨o, its, n, hk, hc, hs, hz, r⟩
  · obtain ⟨z, its, r, p⟩ := h.ok I.hok
    exact ⟨its, r, p, z⟩
  · refine ⟨its.toList, r, ⟨o, I.kIn a o hk, hc, n, by simpa using hs⟩, ?_⟩
    have e := r.length
    simp only [Array.length_toList] at e
    omega
theorem Inv.list_inj (I : Inv X pins σ H s) (h : SqL X.K H a xs) (h' : SqL X.K H a ys) : xs = ys := by
  obtain ⟨its, r, ⟨o, n, e, _, _, d⟩, _⟩ := I.list h
  obtain ⟨its', r', ⟨o', n', e', _, _, d'⟩, _⟩ := I.list h'
  rw [e] at e'; cases e'
  rw [d] at d'
  injection d' with d1 _
  have : its = its' := by simpa using congrArg Array.toList d1
  subst this
  exact r.inj r'
theorem Inv.tuple_inj (I : Inv X pins σ H s) (h : SqT X.K H a xs) (h' : SqT X.K H a ys) : xs = ys := by
  obtain ⟨its, r, ⟨o, e, _, n, d⟩, _⟩ := I.tuple h
  obtain ⟨its', r', ⟨o', e', _, n', d'⟩, _⟩ := I.tuple h'
  rw [e] at e'; cases e'
  rw [d] at d'
  injection d' with d1 _
  have : its = its' := by simpa using congrArg Array.toList d1
  subst this
  exact r.inj r'
end
abbrev Cx.wish (X : Cx) (E : Value → Shared → Prop) : Cx := { X with xe := E }
abbrev Cx.nox (X : Cx) : Cx := X.wish fun _ _ => False
theorem Cx.Ok.wish {X : Cx} (ok : X.Ok) (E : Value → Shared → Prop) : (X.wish E).Ok :=
  ⟨ok.mod, ok.kind, ok.glob, ok.blt, ok.above, ok.inj, ok.has, ok.cab, ok.hd, ok.frames, ok.stk, ok.exf, ok.bs, ok.bsz, ok.noex, ok.exfs, ok.funs, ok.frf⟩
theorem Cx.Ok.unwish {X : Cx} {E : Value → Shared → Prop} (ok : (X.wish E).Ok) : X.Ok :=
  ⟨ok.mod, ok.kind, ok.glob, ok.blt, ok.above, ok.inj, ok.has, ok.cab, ok.hd, ok.frames, ok.stk, ok.exf, ok.bs, ok.bsz, ok.noex, ok.exfs, ok.funs, ok.frf⟩
section
variable {X : Cx} {pins : List (Addr × Obj)} {σ : St} {H : Hp} {s : Shared} {E : Value → Shared → Prop}
theorem Inv.wish (I : Inv X pins σ H s) (E : Value → Shared → Prop) : Inv (X.wish E) pins σ H s := ⟨I.ok.wish E, I.os, I.bare, I.base, I.loc, I.cell, I.free, I.freeC, I.pin, I.hok, I.len⟩
theorem Inv.unwish (I : Inv (X.wish E) pins σ H s) : Inv X pins σ H s := ⟨I.ok.unwish, I.os, I.bare, I.base, I.loc, I.cell, I.free, I.freeC, I.pin, I.hok, I.len⟩
theorem SP.unwish {D : Ends} {f : Flow} {s' : Shared} (h : SP (X.wish E) pins D f s') : SP X pins D f s' := by
  cases f with
  | next => obtain ⟨σ', H', I, q⟩ := h; exact ⟨σ', H', I.unwish, q⟩
  | brk => obtain ⟨σ', H', I, q⟩ := h; exact ⟨σ', H', I.unwish, q⟩
  | cont => obtain ⟨σ', H', I, q⟩ := h; exact ⟨σ', H', I.unwish, q⟩
  | ret u => obtain ⟨v, σ', H', I, r, q⟩ := h; exact ⟨v, σ', H', I.unwish, r, q⟩
theorem PE.nox {e : Expr} {t : TE} (h : PE X.nox e t) : PE X e t := fun pins s σ H Q I hw =>
  wpAny_mono (h pins s σ H Q (I.wish _) hw) (fun _ _ ⟨v, H', I', r, q⟩ => ⟨v, H', I'.unwish, r, q⟩) fun _ _ z => False.elim z
theorem PT.nox {e : Expr} {t : TT} (h : PT X.nox e t) : PT X e t := fun pins s σ H Q I hw =>
  wpAny_mono (h pins s σ H Q (I.wish _) hw) (fun _ _ ⟨H', I', q⟩ => ⟨H', I'.unwish, q⟩) fun _ _ z => False.elim z
theorem PSs.nox {st : List Stmt} {t : TS} (h : PSs X.nox st t) : PSs X st t := fun pins s σ H D I hw =>
  wpAny_mono (h pins s σ H D (I.wish _) hw) (fun _ _ q => q.unwish) fun _ _ z => False.elim z
end
section
variable {X : Cx} {st : Stmt} {rest : List Stmt} {t u : TS} {e : Expr} {te : TE} {pos : Pos}
def tNext : TS := fun D σ H => D.nx σ H
def tSeq (t u : TS) : TS := fun D σ H => t { D with nx := u D } σ H
theorem pss_nil : PSs X [] tNext := fun _ _ σ H _ I h => wpAny_execs_nil ⟨σ, H, I, h⟩
theorem pss_cons (h1 : PS X st t) (h2 : PSs X rest u) : PSs X (st :: rest) (tSeq t u) := by
  intro pins s σ H D I h
  refine wpAny_execs_cons (thn (h1 pins s σ H { D with nx := u D } I h) fun f s1 q => ?_)
  cases f with
  | next =>
    obtain ⟨σ', H', I', q⟩ := q
    exact h2 pins s1 σ' H' D I' q
  | ret v => exact q
  | brk => exact q
  | cont => exact q
theorem pss_one (h1 : PS X st t) : PSs X [st] t := by
  intro pins s σ H D I h
  refine wpAny_execs_cons (thn (h1 pins s σ H D I h) fun f s1 q => ?_)
  cases f with
  | next => exact wpAny_execs_nil q
  | ret v => exact q
  | brk => exact q
  | cont => exact q
theorem Inv.quiet {pins : List (Addr × Obj)} {σ : St} {H : Hp} {s : Shared} (I : Inv X pins σ H s) : interactive X.env = false := by simp [interactive, I.ok.kind]
def tDrop (te : TE) : TS := fun D σ H => te σ H fun _ H1 => D.nx σ H1
theorem ps_expr (he : PE X e te) (hs : swapsWith e none pos.line X.env = pure false := by rfl) : PS X (.Expr e pos) (tDrop te) := by
  intro pins s σ H D I h
  exact wpAny_Expr_any (thn (he pins s σ H _ I h) fun v s1 ⟨x, H1, I1, r1, q1⟩ => ⟨σ, H1, I1, q1⟩) I.quiet hs
def tRet (te : TE) : TS := fun D σ H => te σ H D.rt
theorem ps_ret (he : PE X e te) : PS X (.Return (some e) pos) (tRet te) := by
  intro pins s σ H D I h
  exact wpAny_Return_some (thn (he pins s σ H _ I h) fun v s1 ⟨x, H1, I1, r1, q1⟩ => ⟨x, σ, H1, I1, r1, q1⟩)
def tRetN : TS := fun D _ H => D.rt .non H
def tIfS (c : TT) (t u : TS) : TS := fun D σ H => c σ H fun b H1 => if b = true then t D σ H1 else u D σ H1
theorem ps_if {c : Expr} {a b : List Stmt} {tc : TT} (hc : PT X c tc) (ha : PSs X a t) (hb : PSs X b u) : PS X (.If c a b pos) (tIfS tc t u) := by
  intro pins s σ H D I h
  refine wpAny_If (thn (hc pins s σ H _ I h) fun d s1 ⟨H1, I1, q1⟩ => ?_)
  cases d with
  | true => exact ha pins s1 σ H1 D I1 q1
  | false => exact hb pins s1 σ H1 D I1 q1
def tNever : TS := fun _ _ _ => False
theorem ps_never : PS X st tNever := fun _ _ _ _ _ _ h => h.elim
end
abbrev TG := V → St → Hp → (St → Hp → Prop) → Prop
abbrev TGs := List V → St → Hp → (St → Hp → Prop) → Prop
def PG (X : Cx) (target : Expr) (t : TG) : Prop :=
  ∀ (pins : List (Addr × Obj)) (s : Shared) (σ : St) (H : Hp) (v : V) (u : Value) (Q : St → Hp → Prop), Inv X pins σ H s → RelV v u → t v σ H Q →
    wpAny (model X.prog X.w) X.A (assign target X.env u) (fun _ s' => ∃ σ' H', Inv X pins σ' H' s' ∧ Q σ' H') X.xe s
def PGs (X : Cx) (ts : List Expr) (t : TGs) : Prop :=
  ∀ (pins : List (Addr × Obj)) (s : Shared) (σ : St) (H : Hp) (vs : List V) (us : List Value) (Q : St → Hp → Prop), Inv X pins σ H s → Vals vs us → t vs σ H Q →
    wpAny (model X.prog X.w) X.A (assignInOrder ((assignEach ts X.env).map (·.2)) us) (fun _ s' => ∃ σ' H', Inv X pins σ' H' s' ∧ Q σ' H') X.xe s
abbrev TSet := V → V → V → Hp → (Hp → Prop) → Prop
def PSet (X : Cx) (t : TSet) : Prop :=
  ∀ (pins : List (Addr × Obj)) (s : Shared) (σ : St) (H : Hp) (o i v : V) (ov iv u : Value) (Q : Hp → Prop), Inv X pins σ H s → RelV o ov → RelV i iv → RelV v u → t o i v H Q →
    wpAny (model X.prog X.w) X.A (setItem ov iv u) (fun _ s' => ∃ H', Inv X pins σ H' s' ∧ Q H') X.xe s
abbrev TIp := V → V → Hp → VK → Prop
section
variable {X : Cx} {pos : Pos}
def gName (i : Nat) : TG := fun v σ H Q => Q (σ.set i (some v)) H
theorem pg_name {i : Nat} {x : Str} (hN : X.N.Nodup) (hi : X.N[i]? = some x) (hx : Loc X.env.scope x) (hf : X.fn x = true ∨ X.env.scope.names.lookup x = some .local := by first | exact .inl rfl | exact .inr rfl | assumption) : PG X (.Name x pos) (gName i) := by
  intro pins s σ H v u Q I r h
  exact wpAny_assign_Name (store_ok I hN hi hx r (fun s' I' => ⟨_, H, I', h⟩) hf)
def gNil : TGs := fun vs σ H Q => vs = [] ∧ Q σ H
def gCons (t : TG) (u : TGs) : TGs := fun vs σ H Q => ∃ v r, vs = v :: r ∧ t v σ H fun σ' H' => u r σ' H' Q
theorem pgs_nil : PGs X [] gNil := by
  intro pins s σ H vs us Q I r h
  obtain ⟨e, h⟩ := h
  subst e
  cases r
  exact assignInOrder_nil ⟨σ, H, I, h⟩
theorem pgs_cons {e : Expr} {es : List Expr} {t : TG} {u : TGs} (h1 : PG X e t) (h2 : PGs X es u)
    (hs : (assignEach (e :: es) X.env).map (·.2) = assign e X.env :: (assignEach es X.env).map (·.2) := by rfl) : PGs X (e :: es) (gCons t u) := by
  intro pins s σ H vs us Q I r h
  obtain ⟨v, vr, e1, h⟩ := h
  subst e1
  cases r with
  | cons r rr =>
    rw [hs]
    refine assignInOrder_cons (thn (h1 pins s σ H _ _ _ I r h) fun _ s1 ⟨σ1, H1, I1, q1⟩ => ?_)
    exact h2 pins s1 σ1 H1 _ _ Q I1 rr q1
def gTup (K : PySem.W.Frag) (n : Nat) (t : TGs) : TG := fun v σ H Q => ∃ a xs, v = .ref a ∧ SqT K H a xs ∧ xs.length = n ∧ t xs σ H Q
theorem pg_tup {es : List Expr} {k : Nat} {t : TGs} {n : Nat} (hc : X.calm = true) (h : PGs X es t)
    (hn : (assignEach es X.env).length = n := by rfl) (hst : (assignEach es X.env).findIdx? (·.1) = none := by rfl) : PG X (.Tuple es k pos) (gTup X.K n t) := by
  intro pins s σ H v u Q I r hw
  obtain ⟨a, xs, e1, hq, hl, hw⟩ := hw
  subst e1
  cases r
  obtain ⟨its, rv, ht, hz⟩ := I.tuple hq
  refine assign_Tuple_tuple (I.ok.hd hc) ht (by simp [hn, ← hl, rv.length]) hst fun h' hx => ?_
  have I1 : Inv X pins σ H { s with heap := h' } := I.kept (t' := s.toks) fun b o e => hx b o (Nat.ne_of_lt (Heap.lt_size e)) e
  exact h pins _ σ H xs _ Q I1 (by simpa using rv) hw
def gSub (to ti : TE) (t : TSet) : TG := fun v σ H Q => to σ H fun o H1 => ti σ H1 fun i H2 => t o i v H2 fun H3 => Q σ H3
theorem pg_sub {o i : Expr} {to ti : TE} {t : TSet} (ho : PE X o to) (hi : PE X i ti) (hs : PSet X t)
    (ha : ∀ v, assign (.Subscript o i pos) X.env v = (do
      let ov ← holding [v] (eval o X.env)
      let iv ← holding [v, ov] (eval i X.env)
      standAt pos
      holding [v, ov, iv] (setItem ov iv v)
      release [v, ov, iv] []) := by intro _; rfl) : PG X (.Subscript o i pos) (gSub to ti t) := by
  intro pins s σ H v u Q I r h
  rw [ha]
  refine wpAny_bind (wpAny_holding (thn (ho pins s σ H _ I h) fun ov s1 ⟨x, H1, I1, r1, q1⟩ => ?_))
  refine wpAny_bind (wpAny_holding (thn (hi pins s1 σ H1 _ I1 q1) fun iv s2 ⟨y, H2, I2, r2, q2⟩ => ?_))
  refine wpAny_bind (wpAny_standAt (wpAny_bind (wpAny_holding (thn (hs pins s2 σ H2 x y v ov iv u _ I2 r1 r2 r q2) fun _ s3 ⟨H3, I3, q3⟩ => ?_))))
  exact wpAny_release ⟨σ, H3, I3, q3⟩
def tAsg (te : TE) (g : TG) : TS := fun D σ H => te σ H fun x H1 => g x σ H1 D.nx
theorem ps_asg {tg e : Expr} {te : TE} {g : TG} (he : PE X e te) (hg : PG X tg g) (hs : swapsWithSole [tg] e pos.line X.env = pure false := by rfl) (hw : swappedStores [tg] e X.env = pure none := by rfl)
    (h1 : (assignEach [tg] X.env).map (·.2) = [assign tg X.env] := by rfl) : PS X (.Assign [tg] e pos) (tAsg te g) := by
  intro pins s σ H D I h
  refine wpAny_Assign_stores (thn (he pins s σ H _ I h) fun v s1 ⟨x, H1, I1, r1, q1⟩ => ?_) hs hw
  rw [h1]
  exact thn (hg pins s1 σ H1 x v _ I1 r1 q1) fun _ s2 q => q
theorem ps_set {i : Nat} {x : Str} {e : Expr} {te : TE} {pos' : Pos} (hN : X.N.Nodup) (hi : X.N[i]? = some x) (hx : Loc X.env.scope x) (he : PE X e te) (hs : swapsWith e (some (.Name x pos')) pos.line X.env = pure false := by rfl) (hf : X.fn x = true ∨ X.env.scope.names.lookup x = some .local := by first | exact .inl rfl | exact .inr rfl | assumption) :
    PS X (.Assign [.Name x pos'] e pos) (tAsg te (gName i)) := by
  intro pins s σ H D I h
  refine wpAny_Assign_Name (thn (he pins s σ H _ I h) fun v s1 ⟨y, H1, I1, r1, q1⟩ => ?_) hs
  exact store_ok I1 hN hi hx r1 (fun s2 I2 => ⟨_, H1, I2, q1⟩) hf
def tAug (i : Nat) (te : TE) (ti : TIp) : TS := fun D σ H => ∃ x, σ[i]? = some (some x) ∧ te σ H fun y H1 => ti x y H1 fun z H2 => D.nx (σ.set i (some z)) H2
def ipI (f : Int → Int → Int) : TIp := fun x y H Q => ∃ i j, x = .int i ∧ y = .int j ∧ Q (.int (f i j)) H
end
section
variable {X : Cx} {pos : Pos}
end
set_option genInjectivity false in
set_option genSizeOf false in
structure It where
  go : Nat → Hp → Prop
  yld : Nat → Hp → V → Hp → Prop
  stop : Nat → Hp → Prop
def FpOk (X : Cx) (pins : List (Addr × Obj)) (H : Hp) (b : Addr) : Prop :=
  H b = none ∧ b ≠ X.env.locals ∧ b ∉ X.fs ∧ (b ∈ X.ex ∨ X.s₀.heap.objs.size ≤ b) ∧ (∀ x c, X.env.cells.lookup x = some c → c ≠ b) ∧ ∀ p ∈ X.pn ++ pins, p.1 ≠ b
theorem Inv.fpOk {X : Cx} {pins : List (Addr × Obj)} {σ : St} {H H' : Hp} {s : Shared} {b : Addr} (I : Inv X pins σ H s) (hb : s.heap.objs.size ≤ b) (hn : H' b = none) : FpOk X pins H' b := by
  refine ⟨hn, Nat.ne_of_gt (Nat.lt_of_lt_of_le I.lt hb), I.nofs hb, .inr (Nat.le_trans I.sz hb), fun x c e z => ?_, fun p hp z => ?_⟩
  · obtain ⟨v, q⟩ := I.cell x c e
    exact absurd (Nat.lt_of_lt_of_le q.lt (by rw [z]; exact hb)) (Nat.lt_irrefl _)
  · exact absurd (Nat.lt_of_lt_of_le (Heap.lt_size (I.pin p hp).1) (by rw [z]; exact hb)) (Nat.lt_irrefl _)
set_option genInjectivity false in
set_option genSizeOf false in
structure Turn (P : Program) (w : World) (K : PySem.W.Frag) (tg : Expr) (J : It) (fp : List Addr) (it : Addr) (tn : Nat → Heap → Prop) : Prop where
  mem : it ∈ fp
  obj : ∀ i h, tn i h → ∀ b ∈ fp, ∃ o, h.get? b = some o ∧ ∀ v, o.data ≠ .cell v
  keep : ∀ i h h', tn i h → (∀ b ∈ fp, ∀ o, h.get? b = some o → h'.get? b = some o) → tn i h'
  item : ∀ (X : Cx), X.prog = P → X.w = w → X.K = K → X.calm = true → ∀ (i : Nat) (pins : List (Addr × Obj)) (s : Shared) (σ : St) (H : Hp) (E : Value → Shared → Prop), Inv X pins σ H s → (∀ b ∈ fp, FpOk X pins H b) → tn i s.heap → J.go i H →
    wpAny (model P w) X.A (pyNext (.ref it)) (fun r s1 => ∃ u, r = some u ∧
      wpAny (model P w) X.A (letOwnedTupleGo tg (.ref it) u) (fun _ s2 => ∃ x H', Inv X pins σ H' s2 ∧ RelV x u ∧ J.yld i H x H' ∧ tn (i + 1) s2.heap ∧ ∀ b ∈ fp, H' b = none) E s1) E s
  done : ∀ (X : Cx), X.prog = P → X.w = w → X.K = K → X.calm = true → ∀ (i : Nat) (pins : List (Addr × Obj)) (s : Shared) (σ : St) (H : Hp) (E : Value → Shared → Prop), Inv X pins σ H s → (∀ b ∈ fp, FpOk X pins H b) → tn i s.heap → J.stop i H →
    wpAny (model P w) X.A (pyNext (.ref it)) (fun r s1 => r = none ∧ Inv X pins σ H s1) E s
  self : ∀ (A : Around) (i : Nat) (s : Shared) (Q : Value → Shared → Prop) (E : Value → Shared → Prop), tn i s.heap → Q (.ref it) s → wpAny (model P w) A (pyIter (.ref it)) Q E s
abbrev TI := St → Hp → (It → Hp → Prop) → Prop
def PIE (X : Cx) (pins : List (Addr × Obj)) (σ : St) (tg : Expr) (R : It → Hp → Prop) (itv : Value) (s2 : Shared) : Prop :=
  ∃ (it : Addr) (fp : List Addr) (tn : Nat → Heap → Prop) (J : It) (H' : Hp), itv = .ref it ∧ Inv X pins σ H' s2 ∧ Turn X.prog X.w X.K tg J fp it tn ∧ tn 0 s2.heap ∧ (∀ b ∈ fp, FpOk X pins H' b) ∧ R J H'
def PI (X : Cx) (tg iter : Expr) (wi : TI) : Prop :=
  ∀ (pins : List (Addr × Obj)) (s : Shared) (σ : St) (H : Hp) (R : It → Hp → Prop), Inv X pins σ H s → wi σ H R →
    wpAny (model X.prog X.w) X.A (eval iter X.env) (fun v s1 => wpAny (model X.prog X.w) X.A (pyIter v) (PIE X pins σ tg R) X.xe s1) X.xe s
theorem go_of {M : Model} {A : Around} {E : Value → Shared → Prop} {s : Shared} {tg : Expr} {it : Addr} {u : Value} {o : Obj} {n : String} {vs : Array Value} {Q : Unit → Shared → Prop} (ho : s.heap.get? it = some o) (hc : o.cls = .type n) (hd : o.data = .fields vs)
    (hn : ["enumerate", "zip", "dict_itemiterator", "dict_reverseitemiterator", "odict_iterator", "itertools.zip_longest", "itertools.pairwise"].contains n = false) (hQ : Q () s) : wpAny M A (letOwnedTupleGo tg (.ref it) u) Q E s := by
  unfold letOwnedTupleGo
  cases tg <;> first
    | exact wpAny_pure hQ
    | (cases u <;> first
        | exact wpAny_pure hQ
        | (refine wpAny_bind (wpAny_load ho ?_)
           rw [hc, hd]
           show wpAny M A (if (["enumerate", "zip", "dict_itemiterator", "dict_reverseitemiterator", "odict_iterator", "itertools.zip_longest", "itertools.pairwise"].contains n && vs[0]? == some (rawInt _)) = true then _ else _) Q E s
           rw [if_neg (by intro h; rw [hn, Bool.false_and] at h; cases h)]
           exact wpAny_pure hQ))
def Itl (K : PySem.W.Frag) (a : Addr) : It :=
  ⟨fun i H => ∃ xs x, SqL K H a xs ∧ xs[i]? = some x, fun i H x H' => H' = H ∧ ∀ xs, SqL K H a xs → xs[i]? = some x, fun i H => ∃ xs, SqL K H a xs ∧ xs.length ≤ i⟩
def Itt (K : PySem.W.Frag) (a : Addr) : It :=
  ⟨fun i H => ∃ xs x, SqT K H a xs ∧ xs[i]? = some x, fun i H x H' => H' = H ∧ ∀ xs, SqT K H a xs → xs[i]? = some x, fun i H => ∃ xs, SqT K H a xs ∧ xs.length ≤ i⟩
def Itr (lo : Int) (n : Nat) : It := ⟨fun i _ => i < n, fun i H x H' => H' = H ∧ x = .int (lo + i), fun i _ => n ≤ i⟩
theorem turn_list {P : Program} {w : World} {K : PySem.W.Frag} {tg : Expr} (a it : Addr) : Turn P w K tg (Itl K a) [it] it (fun i h => h.IsListIter it a i) where
  mem := by simp
  obj := fun i h st b hb => by
    have e : b = it := by simpa using hb
    subst e
    obtain ⟨o, e, c, d⟩ := st
    exact ⟨o, e, fun v z => by rw [d] at z; cases z⟩
  keep := fun i h h' st k => st.at fun o e => k it (by simp) o e
  item := by
    intro X hP hw hK hc i pins s σ H E I hf st hg
    subst hP hw hK
    obtain ⟨xs, x, hq, hx⟩ := hg
    obtain ⟨its, rv, p, hz⟩ := I.list hq
    obtain ⟨u, hu, ru⟩ := rv.get hx
    obtain ⟨f0, f1, f2, f3, f4, f5⟩ := hf it (by simp)
    refine wpAny_pyNext_list_item st p.isList (x := u) (by simpa using hu) fun h' st' sb => ?_
    have I1 : Inv X pins σ H { s with heap := h' } := I.turned (t' := s.toks) (fun b o hb e => (sb.2 b hb).trans e) f0 f1 f3 f4 f5
    obtain ⟨o, e, c, d⟩ := id st'
    exact ⟨u, rfl, go_of (s := { s with heap := h' }) e c d (by decide) ⟨x, H, I1, ru, ⟨rfl, fun ys hy => by rw [I.list_inj hy hq]; exact hx⟩, st', fun b hb => (hf b hb).1⟩⟩
  done := by
    intro X hP hw hK hc i pins s σ H E I hf st hg
    subst hP hw hK
    obtain ⟨xs, hq, hx⟩ := hg
    obtain ⟨its, rv, p, hz⟩ := I.list hq
    obtain ⟨f0, f1, f2, f3, f4, f5⟩ := hf it (by simp)
    have hl := rv.length
    exact wpAny_pyNext_list_end (I.ok.hd hc) st p.isList (by simp; omega) fun h' eb => ⟨rfl, I.turned (t' := s.toks) (fun b o hb e => eb b o hb e) f0 f1 f3 f4 f5⟩
  self := fun _ _ _ _ _ st h => wpAny_pyIter_listiter st h
theorem turn_tuple {P : Program} {w : World} {K : PySem.W.Frag} {tg : Expr} (a it : Addr) : Turn P w K tg (Itt K a) [it] it (fun i h => h.IsTupleIter it a i) where
  mem := by simp
  obj := fun i h st b hb => by
    have e : b = it := by simpa using hb
    subst e
    obtain ⟨o, e, c, d⟩ := st
    exact ⟨o, e, fun v z => by rw [d] at z; cases z⟩
  keep := fun i h h' st k => st.at fun o e => k it (by simp) o e
  item := by
    intro X hP hw hK hc i pins s σ H E I hf st hg
    subst hP hw hK
    obtain ⟨xs, x, hq, hx⟩ := hg
    obtain ⟨its, rv, p, hz⟩ := I.tuple hq
    obtain ⟨u, hu, ru⟩ := rv.get hx
    obtain ⟨f0, f1, f2, f3, f4, f5⟩ := hf it (by simp)
    refine wpAny_pyNext_tuple_item st (show s.heap.IsTuple a its.toArray from p) (x := u) (by simpa using hu) fun h' st' sb => ?_
    have I1 : Inv X pins σ H { s with heap := h' } := I.turned (t' := s.toks) (fun b o hb e => (sb.2 b hb).trans e) f0 f1 f3 f4 f5
    obtain ⟨o, e, c, d⟩ := id st'
    exact ⟨u, rfl, go_of (s := { s with heap := h' }) e c d (by decide) ⟨x, H, I1, ru, ⟨rfl, fun ys hy => by rw [I.tuple_inj hy hq]; exact hx⟩, st', fun b hb => (hf b hb).1⟩⟩
  done := by
    intro X hP hw hK hc i pins s σ H E I hf st hg
    subst hP hw hK
    obtain ⟨xs, hq, hx⟩ := hg
    obtain ⟨its, rv, p, hz⟩ := I.tuple hq
    obtain ⟨f0, f1, f2, f3, f4, f5⟩ := hf it (by simp)
    have hl := rv.length
    exact wpAny_pyNext_tuple_end (I.ok.hd hc) st (show s.heap.IsTuple a its.toArray from p) (by simp; omega) fun h' eb => ⟨rfl, I.turned (t' := s.toks) (fun b o hb e => eb b o hb e) f0 f1 f3 f4 f5⟩
  self := fun _ _ _ _ _ st h => wpAny_pyIter_tupleiter st h
theorem turn_range {P : Program} {w : World} {K : PySem.W.Frag} {tg : Expr} (it : Addr) (lo : Int) (n : Nat) : Turn P w K tg (Itr lo n) [it] it (fun i h => IsRangeIter h it (lo + (i : Nat) * 1) ((n : Int) - (i : Nat)) 1) where
  mem := by simp
  obj := fun i h st b hb => by
    have e : b = it := by simpa using hb
    subst e
    exact ⟨_, st, fun v z => by
      have z' : Data.fields _ = Data.cell v := z
      cases z'⟩
  keep := fun i h h' st k => k it (by simp) _ st
  item := by
    intro X hP hw hK hc i pins s σ H E I hf st hg
    subst hP hw hK
    obtain ⟨f0, f1, f2, f3, f4, f5⟩ := hf it (by simp)
    have W := Walks.range (prog := X.prog) (w := X.w) (I.ok.hd hc) it lo 1 n
    refine W.item i s _ _ hg st fun v h' tk hv st' kk => ?_
    obtain ⟨t, rfl⟩ := hv
    have I1 : Inv X pins σ H { s with heap := h', toks := tk } := I.turned (fun b o hb e => kk b o (by simpa using hb) e) f0 f1 f3 f4 f5
    refine ⟨_, rfl, go_of (s := { s with heap := h', toks := tk }) (n := "range_iterator") st' rfl rfl (by decide) ⟨.int (lo + i), H, I1, ⟨t, ?_⟩, ⟨rfl, rfl⟩, st', fun b hb => (hf b hb).1⟩⟩
    rw [Int.mul_one]
  done := by
    intro X hP hw hK hc i pins s σ H E I hf st hg
    subst hP hw hK
    obtain ⟨f0, f1, f2, f3, f4, f5⟩ := hf it (by simp)
    exact wpAny_pyNext_range_end (I.ok.hd hc) st (by have : n ≤ i := hg; omega) fun h' eb => ⟨rfl, I.turned (t' := s.toks) (fun b o hb e => eb b o hb e) f0 f1 f3 f4 f5⟩
  self := fun _ _ _ _ _ st h => wpAny_pyIter_rangeiter st h
end L2
namespace L2
open PySem PySem.Spec PyProof.Rows
section
variable {X : Cx} {tg : Expr}
def iList (K : PySem.W.Frag) (tl : TE) : TI := fun σ H R => tl σ H fun x H1 => ∃ a, x = .ref a ∧ (∃ xs, SqL K H1 a xs) ∧ R (Itl K a) H1
def iTup (K : PySem.W.Frag) (tl : TE) : TI := fun σ H R => tl σ H fun x H1 => ∃ a, x = .ref a ∧ (∃ xs, SqT K H1 a xs) ∧ R (Itt K a) H1
theorem pi_list {l : Expr} {tl : TE} (hl : PE X l tl) : PI X tg l (iList X.K tl) := by
  intro pins s σ H R I h
  refine thn (hl pins s σ H _ I h) fun v s1 ⟨x, H1, I1, r1, q1⟩ => ?_
  obtain ⟨a, e, ⟨xs, hq⟩, q⟩ := q1
  subst e
  cases r1
  obtain ⟨its, rv, p, hz⟩ := I1.list hq
  refine wpAny_pyIter_list p.isList ?_
  refine ⟨s1.heap.objs.size, [s1.heap.objs.size], _, _, H1, rfl, I1.kept (t' := s1.toks) fun b o e => Heap.get?_push_of_some _ e, turn_list a _, ⟨_, Heap.get?_push_size _ rfl, rfl, rfl⟩, fun b hb => ?_, q⟩
  have e : b = s1.heap.objs.size := by simpa using hb
  subst e
  exact I1.fpOk (Nat.le_refl _) (I1.hok.fresh (Nat.le_refl _))
theorem pi_tup {l : Expr} {tl : TE} (hl : PE X l tl) : PI X tg l (iTup X.K tl) := by
  intro pins s σ H R I h
  refine thn (hl pins s σ H _ I h) fun v s1 ⟨x, H1, I1, r1, q1⟩ => ?_
  obtain ⟨a, e, ⟨xs, hq⟩, q⟩ := q1
  subst e
  cases r1
  obtain ⟨its, rv, p, hz⟩ := I1.tuple hq
  refine wpAny_pyIter_tuple (show s1.heap.IsTuple a its.toArray from p) ?_
  refine ⟨s1.heap.objs.size, [s1.heap.objs.size], _, _, H1, rfl, I1.kept (t' := s1.toks) fun b o e => Heap.get?_push_of_some _ e, turn_tuple a _, ⟨_, Heap.get?_push_size _ rfl, rfl, rfl⟩, fun b hb => ?_, q⟩
  have e : b = s1.heap.objs.size := by simpa using hb
  subst e
  exact I1.fpOk (Nat.le_refl _) (I1.hok.fresh (Nat.le_refl _))
theorem range_it {pins : List (Addr × Obj)} {σ : St} {H : Hp} {s : Shared} {R : It → Hp → Prop} {E : Value → Shared → Prop} {lo hi : Int} {t u v : Tok} {tk : Nat} (I : Inv X pins σ H s) (h1 : -(2 ^ 62) ≤ lo) (h2 : lo < 2 ^ 62) (h3 : -(2 ^ 62) ≤ hi) (h4 : hi < 2 ^ 62)
    (q : R (Itr lo (hi - lo).toNat) H) : wpAny (model X.prog X.w) X.A (pyIter (.ref s.heap.objs.size)) (PIE X pins σ tg R) E { s with heap := s.heap.push { cls := .type "range", data := .fields #[.int lo t, .int hi u, .int 1 v] }, toks := tk } := by
  refine wpAny_pyIter_range (IsRange.new ..) (small_one h1 h2 h3 h4) ?_
  have I1 : Inv X pins σ H { s with heap := s.heap.push { cls := .type "range", data := .fields #[.int lo t, .int hi u, .int 1 v] }, toks := tk } := I.kept fun b o e => Heap.get?_push_of_some _ e
  refine ⟨(s.heap.push { cls := .type "range", data := .fields #[.int lo t, .int hi u, .int 1 v] }).objs.size, [(s.heap.push { cls := .type "range", data := .fields #[.int lo t, .int hi u, .int 1 v] }).objs.size], _, _, H, rfl,
    I1.kept (t' := tk) fun b o e => Heap.get?_push_of_some _ e, turn_range _ lo (hi - lo).toNat, ?_, fun b hb => ?_, q⟩
  · have e1 : lo + ((0 : Nat) : Int) * 1 = lo := by simp
    have e2 : (((hi - lo).toNat : Nat) : Int) - ((0 : Nat) : Int) = Builtin.Range.rangeSize lo hi 1 := by rw [rangeSize_one]; split <;> omega
    show IsRangeIter _ _ (lo + ((0 : Nat) : Int) * 1) ((((hi - lo).toNat : Nat) : Int) - ((0 : Nat) : Int)) 1
    rw [e1, e2]
    exact Heap.get?_push_size _ rfl
  · have e : b = (s.heap.push { cls := .type "range", data := .fields #[.int lo t, .int hi u, .int 1 v] }).objs.size := by simpa using hb
    subst e
    exact I1.fpOk (Nat.le_refl _) (I1.hok.fresh (Nat.le_refl _))
def iRng1 (ta : TA) : TI := fun σ H R => ta σ H fun vs H1 => ∃ j : Int, vs = [.int j] ∧ -(2 ^ 62) ≤ j ∧ j < 2 ^ 62 ∧ R (Itr 0 j.toNat) H1
def iRng2 (ta : TA) : TI := fun σ H R => ta σ H fun vs H1 => ∃ i j : Int, vs = [.int i, .int j] ∧ (-(2 ^ 62) ≤ i ∧ i < 2 ^ 62 ∧ -(2 ^ 62) ≤ j ∧ j < 2 ^ 62) ∧ R (Itr i (j - i).toNat) H1
theorem pi_range1 {a : Expr} {ta : TA} {p pos : Pos} (hg : Gl X "range") (hm : X.mg "range" = none) (ha : PA X [a] ta) (hs : starEach [a] X.env = [(false, eval a X.env)] := by rfl) : PI X tg (.Call (.Name "range" p) [a] [] pos) (iRng1 ta) := by
  intro pins s σ H R I h
  refine Call_ (ld_blt I hg hm boot_range (PyProof.Rows.callWith_type1 (thn (ha pos pins s σ H _ I h) fun us s1 ⟨vs, H1, I1, r1, q1⟩ => ?_) hs rfl))
  obtain ⟨j, e, q1, q2, q⟩ := q1
  subst e
  cases r1 with
  | cons r rr =>
    cases rr
    obtain ⟨t, rfl⟩ := r
    exact call_range_1 (range_it I1 (by omega) (by omega) q1 q2 (by simpa using q))
theorem pi_range2 {a b : Expr} {ta : TA} {p pos : Pos} (hg : Gl X "range") (hm : X.mg "range" = none) (ha : PA X [a, b] ta) (hs : starEach [a, b] X.env = [(false, eval a X.env), (false, eval b X.env)] := by rfl) (hs2 : starEach [b] X.env = [(false, eval b X.env)] := by rfl) :
    PI X tg (.Call (.Name "range" p) [a, b] [] pos) (iRng2 ta) := by
  intro pins s σ H R I h
  refine Call_ (ld_blt I hg hm boot_range (PyProof.Rows.callWith_type1 (thn (ha pos pins s σ H _ I h) fun us s1 ⟨vs, H1, I1, r1, q1⟩ => ?_) (by rw [hs, hs2]) (by rw [hs2]; rfl)))
  obtain ⟨i, j, e, ⟨q1, q2, q3, q4⟩, q⟩ := q1
  subst e
  cases r1 with
  | cons r rr =>
    cases rr with
    | cons r' rr =>
      cases rr
      obtain ⟨t, rfl⟩ := r
      obtain ⟨t', rfl⟩ := r'
      exact call_range_2 (range_it I1 q1 q2 q3 q4 q)
def tFor (wi : TI) (g : TG) (tb : TS) : TS := fun D σ H => wi σ H fun J H1 => ∃ W : Nat → Nat → St → Hp → Prop, (∃ m, W 0 m σ H1) ∧ ∀ i m σ H, W i m σ H →
  (J.stop i H ∧ D.nx σ H) ∨ (J.go i H ∧ ∃ N : St → Hp → Prop, (∀ σ' H', N σ' H' → ∃ m', m' < m ∧ W (i + 1) m' σ' H') ∧ ∀ x H', J.yld i H x H' → g x σ H' fun σ2 H2 => tb { D with nx := N, ct := N, bk := D.nx } σ2 H2)
def pinsAt (fp : List Addr) (h : Heap) : List (Addr × Obj) := fp.filterMap fun b => (h.get? b).map fun o => (b, o)
theorem mem_pinsAt {fp : List Addr} {h : Heap} {b : Addr} {o : Obj} (hb : b ∈ fp) (e : h.get? b = some o) : (b, o) ∈ pinsAt fp h := List.mem_filterMap.mpr ⟨b, hb, by rw [e]; rfl⟩
theorem of_pinsAt {fp : List Addr} {h : Heap} {p : Addr × Obj} (hp : p ∈ pinsAt fp h) : p.1 ∈ fp ∧ h.get? p.1 = some p.2 := by
  obtain ⟨b, hb, e⟩ := List.mem_filterMap.mp hp
  cases q : h.get? b with
  | none => rw [q] at e; cases e
  | some o =>
    rw [q] at e
    have e' : (b, o) = p := Option.some.inj e
    subst e'
    exact ⟨hb, q⟩
theorem Inv.pinned {pins : List (Addr × Obj)} {σ : St} {H : Hp} {s : Shared} {fp : List Addr} (I : Inv X pins σ H s) (hf : ∀ b ∈ fp, FpOk X pins H b) (ho : ∀ b ∈ fp, ∃ o, s.heap.get? b = some o ∧ ∀ v, o.data ≠ .cell v) : Inv X (pins ++ pinsAt fp s.heap) σ H s :=
  I.pins_of fun p hp => (List.mem_append.mp hp).elim (fun z => I.pin p (List.mem_append_right _ z)) fun z => by
    obtain ⟨hb, e⟩ := of_pinsAt z
    obtain ⟨f0, f1, f2, _⟩ := hf p.1 hb
    obtain ⟨o, e', d⟩ := ho p.1 hb
    rw [e] at e'; cases e'
    exact ⟨e, f0, f1, f2, d⟩
theorem Inv.unpinned {pins pl : List (Addr × Obj)} {σ : St} {H : Hp} {s : Shared} (I : Inv X (pins ++ pl) σ H s) : Inv X pins σ H s := I.pins_of fun p hp => I.pin p (List.mem_append_right _ (List.mem_append_left _ hp))
theorem ps_for {iter : Expr} {body : List Stmt} {wi : TI} {g : TG} {tb : TS} {pos : Pos} (hp : PassesOwn (model X.prog X.w) X.A X.env X.xe) (hc : X.calm = true) (hi : PI X tg iter wi) (hg : PG X tg g) (hb : PSs X body tb)
    (hs : ∀ x, foldedSetIterable iter X.env x = pure x := by intro _; rfl) : PS X (.For tg iter body [] pos) (tFor wi g tb) := by
  intro pins s σ H D I h
  refine wpAny_For (thn (hi pins s σ H _ I h) fun v s1 h1 => thn h1 fun itv s2 h2 => ?_) hs
  obtain ⟨it, fp, tn, J, H2, e, I2, T, st2, f2, W, ⟨m0, w0⟩, turn⟩ := h2
  subst e
  -- what stays true of the iterator's objects through the loop
  have stat : ∀ {H' : Hp}, (∀ b ∈ fp, H' b = none) → ∀ b ∈ fp, FpOk X pins H' b := fun hn b hb => ⟨hn b hb, (f2 b hb).2⟩
  refine codeAny_forLoop_any (fun n s' => ∃ i σ' H', Inv X pins σ' H' s' ∧ tn i s'.heap ∧ (∀ b ∈ fp, H' b = none) ∧ W i n σ' H') ?_ m0 ⟨0, σ, H2, I2, st2, fun b hb => (f2 b hb).1, w0⟩
  rintro n s3 ⟨i, σ3, H3, I3, st3, fr3, w3⟩
  rcases turn i n σ3 H3 w3 with ⟨stop, qn⟩ | ⟨go, N, hN, step⟩
  · refine wpAny_passesOwn hp (thn (T.done X rfl rfl rfl hc i pins s3 σ3 H3 X.xe I3 (stat fr3) st3 stop) fun r s4 ⟨hr, I4⟩ => ?_)
    subst hr
    exact wpAny_execs_nil ⟨σ3, H3, I4, qn⟩
  · refine wpAny_passesOwn hp (thn (T.item X rfl rfl rfl hc i pins s3 σ3 H3 X.xe I3 (stat fr3) st3 go) fun r s4 ⟨u, hr, h4⟩ => ?_)
    subst hr
    refine wpAny_passesOwn hp (thn h4 fun _ s5 ⟨x, H5, I5, r5, y5, st5, fr5⟩ => ?_)
    have I5' := I5.pinned (stat fr5) (T.obj _ _ st5)
    refine wpAny_passesOwn hp (thn (hg _ s5 σ3 H5 x u _ I5' r5 (step x H5 y5)) fun _ s6 ⟨σ6, H6, I6, q6⟩ => ?_)
    refine wpAny_passesOwn hp (thn (hb _ s6 σ6 H6 _ I6 q6) fun f s7 q7 => ?_)
    have again : ∀ {σ7 : St} {H7 : Hp}, Inv X (pins ++ pinsAt fp s5.heap) σ7 H7 s7 → N σ7 H7 → ∃ m, m < n ∧ ∃ i σ' H', Inv X pins σ' H' s7 ∧ tn i s7.heap ∧ (∀ b ∈ fp, H' b = none) ∧ W i m σ' H' := fun {σ7 H7} I7 n7 => by
      obtain ⟨m', hm, w7⟩ := hN σ7 H7 n7
      refine ⟨m', hm, i + 1, σ7, H7, I7.unpinned, T.keep _ _ _ st5 fun b hb o e => (I7.pin (b, o) (List.mem_append_right _ (List.mem_append_right _ (mem_pinsAt hb e)))).1, fun b hb => ?_, w7⟩
      obtain ⟨o, e, d⟩ := T.obj _ _ st5 b hb
      exact (I7.pin (b, o) (List.mem_append_right _ (List.mem_append_right _ (mem_pinsAt hb e)))).2.1
    cases f with
    | next => obtain ⟨σ7, H7, I7, n7⟩ := q7; exact again I7 n7
    | cont => obtain ⟨σ7, H7, I7, n7⟩ := q7; exact again I7 n7
    | brk => obtain ⟨σ7, H7, I7, q7⟩ := q7; exact ⟨σ7, H7, I7.unpinned, q7⟩
    | ret v => obtain ⟨x7, σ7, H7, I7, r7, q7⟩ := q7; exact ⟨x7, σ7, H7, I7.unpinned, r7, q7⟩
end
theorem for_list {K : PySem.W.Frag} {a : Addr} {xs : List V} {g : TG} {tb : TS} {D : Ends} {σ : St} {H : Hp} (Pv : Nat → St → Hp → Prop) (h0 : Pv 0 σ H) (hl : ∀ i σ H, i ≤ xs.length → Pv i σ H → SqL K H a xs)
    (hs : ∀ i x σ H, xs[i]? = some x → Pv i σ H → g x σ H fun σ2 H2 => tb { D with nx := Pv (i + 1), ct := Pv (i + 1), bk := D.nx } σ2 H2) (hd : ∀ σ H, Pv xs.length σ H → D.nx σ H) :
    ∃ W : Nat → Nat → St → Hp → Prop, (∃ m, W 0 m σ H) ∧ ∀ i m σ H, W i m σ H →
      ((Itl K a).stop i H ∧ D.nx σ H) ∨ ((Itl K a).go i H ∧ ∃ N : St → Hp → Prop, (∀ σ' H', N σ' H' → ∃ m', m' < m ∧ W (i + 1) m' σ' H') ∧ ∀ x H', (Itl K a).yld i H x H' → g x σ H' fun σ2 H2 => tb { D with nx := N, ct := N, bk := D.nx } σ2 H2) := by
  refine ⟨fun i m σ H => m = xs.length - i ∧ i ≤ xs.length ∧ Pv i σ H, ⟨xs.length, by simp, Nat.zero_le _, h0⟩, ?_⟩
  rintro i m σ H ⟨rfl, hi, p⟩
  have q := hl i σ H hi p
  by_cases hlt : i < xs.length
  · refine .inr ⟨⟨xs, xs[i], q, by simp [hlt]⟩, Pv (i + 1), fun σ' H' p' => ⟨xs.length - (i + 1), by omega, rfl, hlt, p'⟩, fun x H' y => ?_⟩
    obtain ⟨e, y⟩ := y
    subst e
    exact hs i x σ _ (y xs q) p
  · have e : i = xs.length := by omega
    subst e
    exact .inl ⟨⟨xs, q, Nat.le_refl _⟩, hd σ H p⟩
theorem for_tup {K : PySem.W.Frag} {a : Addr} {xs : List V} {g : TG} {tb : TS} {D : Ends} {σ : St} {H : Hp} (Pv : Nat → St → Hp → Prop) (h0 : Pv 0 σ H) (hl : ∀ i σ H, i ≤ xs.length → Pv i σ H → SqT K H a xs)
    (hs : ∀ i x σ H, xs[i]? = some x → Pv i σ H → g x σ H fun σ2 H2 => tb { D with nx := Pv (i + 1), ct := Pv (i + 1), bk := D.nx } σ2 H2) (hd : ∀ σ H, Pv xs.length σ H → D.nx σ H) :
    ∃ W : Nat → Nat → St → Hp → Prop, (∃ m, W 0 m σ H) ∧ ∀ i m σ H, W i m σ H →
      ((Itt K a).stop i H ∧ D.nx σ H) ∨ ((Itt K a).go i H ∧ ∃ N : St → Hp → Prop, (∀ σ' H', N σ' H' → ∃ m', m' < m ∧ W (i + 1) m' σ' H') ∧ ∀ x H', (Itt K a).yld i H x H' → g x σ H' fun σ2 H2 => tb { D with nx := N, ct := N, bk := D.nx } σ2 H2) := by
  refine ⟨fun i m σ H => m = xs.length - i ∧ i ≤ xs.length ∧ Pv i σ H, ⟨xs.length, by simp, Nat.zero_le _, h0⟩, ?_⟩
  rintro i m σ H ⟨rfl, hi, p⟩
  have q := hl i σ H hi p
  by_cases hlt : i < xs.length
  · refine .inr ⟨⟨xs, xs[i], q, by simp [hlt]⟩, Pv (i + 1), fun σ' H' p' => ⟨xs.length - (i + 1), by omega, rfl, hlt, p'⟩, fun x H' y => ?_⟩
    obtain ⟨e, y⟩ := y
    subst e
    exact hs i x σ _ (y xs q) p
  · have e : i = xs.length := by omega
    subst e
    exact .inl ⟨⟨xs, q, Nat.le_refl _⟩, hd σ H p⟩
theorem for_range {lo : Int} {n : Nat} {g : TG} {tb : TS} {D : Ends} {σ : St} {H : Hp} (Pv : Nat → St → Hp → Prop) (h0 : Pv 0 σ H)
    (hs : ∀ i σ H, i < n → Pv i σ H → g (.int (lo + i)) σ H fun σ2 H2 => tb { D with nx := Pv (i + 1), ct := Pv (i + 1), bk := D.nx } σ2 H2) (hd : ∀ σ H, Pv n σ H → D.nx σ H) :
    ∃ W : Nat → Nat → St → Hp → Prop, (∃ m, W 0 m σ H) ∧ ∀ i m σ H, W i m σ H →
      ((Itr lo n).stop i H ∧ D.nx σ H) ∨ ((Itr lo n).go i H ∧ ∃ N : St → Hp → Prop, (∀ σ' H', N σ' H' → ∃ m', m' < m ∧ W (i + 1) m' σ' H') ∧ ∀ x H', (Itr lo n).yld i H x H' → g x σ H' fun σ2 H2 => tb { D with nx := N, ct := N, bk := D.nx } σ2 H2) := by
  refine ⟨fun i m σ H => m = n - i ∧ i ≤ n ∧ Pv i σ H, ⟨n, by simp, Nat.zero_le _, h0⟩, ?_⟩
  rintro i m σ H ⟨rfl, hi, p⟩
  by_cases hlt : i < n
  · refine .inr ⟨hlt, Pv (i + 1), fun σ' H' p' => ⟨n - (i + 1), by omega, rfl, hlt, p'⟩, fun x H' y => ?_⟩
    obtain ⟨e, y⟩ := y
    subst e y
    exact hs i σ _ hlt p
  · have e : i = n := by omega
    subst e
    exact .inl ⟨Nat.le_refl _, hd σ H p⟩
end L2
namespace L2
open PySem PySem.Spec PyProof.Rows
abbrev R2 := V → V → Hp → VK → Prop
def OpR (X : Cx) (f : Value → Value → Sem Value) (r : R2) : Prop :=
  ∀ (pins : List (Addr × Obj)) (s : Shared) (σ : St) (H : Hp) (x y : V) (v u : Value) (Q : VK), Inv X pins σ H s → RelV x v → RelV y u → r x y H Q →
    wpAny (model X.prog X.w) X.A (f v u) (EP X pins σ Q) X.xe s
def UnR (X : Cx) (f : Value → Sem Value) (r : V → Hp → VK → Prop) : Prop :=
  ∀ (pins : List (Addr × Obj)) (s : Shared) (σ : St) (H : Hp) (x : V) (v : Value) (Q : VK), Inv X pins σ H s → RelV x v → r x H Q →
    wpAny (model X.prog X.w) X.A (f v) (EP X pins σ Q) X.xe s
def CallR (X : Cx) (f : Value) (r : List V → Hp → VK → Prop) : Prop :=
  ∀ (pins : List (Addr × Obj)) (s : Shared) (σ : St) (H : Hp) (xs : List V) (us : List Value) (Q : VK), Inv X pins σ H s → Vals xs us → r xs H Q →
    wpAny (model X.prog X.w) X.A (call f us) (EP X pins σ Q) X.xe s
def tOp (r : R2) (ta tb : TE) : TE := fun σ H Q => ta σ H fun x H1 => tb σ H1 fun y H2 => r x y H2 Q
def tUn (r : V → Hp → VK → Prop) (ta : TE) : TE := fun σ H Q => ta σ H fun x H1 => r x H1 Q
def rI (C : Int → Int → Prop) (g : Int → Int → V) : R2 := fun x y H Q => match x, y with
  | .int i, .int j => C i j ∧ Q (g i j) H
  | _, _ => False
theorem rI_inv {C : Int → Int → Prop} {g : Int → Int → V} {x y : V} {H : Hp} {Q : VK} (h : rI C g x y H Q) : ∃ i j, x = .int i ∧ y = .int j ∧ C i j ∧ Q (g i j) H := by
  unfold rI at h
  split at h
  · exact ⟨_, _, rfl, rfl, h⟩
  · exact h.elim
def rI0 (g : Int → Int → V) : R2 := fun x y H Q => match x, y with
  | .int i, .int j => Q (g i j) H
  | _, _ => False
theorem rI0_inv {g : Int → Int → V} {x y : V} {H : Hp} {Q : VK} (h : rI0 g x y H Q) : ∃ i j, x = .int i ∧ y = .int j ∧ Q (g i j) H := by
  unfold rI0 at h
  split at h
  · exact ⟨_, _, rfl, rfl, h⟩
  · exact h.elim
def rU (g : Int → V) : V → Hp → VK → Prop := fun x H Q => ∃ i, x = .int i ∧ Q (g i) H
section
variable {X : Cx} {a b c : Expr} {ta tb tc : TE} {pos : Pos}
theorem binT (ha : PE X a ta) (hb : PE X b tb) {pins : List (Addr × Obj)} {s : Shared} {σ : St} {H : Hp} {R : V → V → Hp → Prop} (I : Inv X pins σ H s)
    (h : ta σ H fun x H1 => tb σ H1 fun y H2 => R x y H2) {Q : Value → Shared → Prop} {f : Value → Value → Sem Value}
    (hf : ∀ v u s2 x y H2, Inv X pins σ H2 s2 → RelV x v → RelV y u → R x y H2 → wpAny (model X.prog X.w) X.A (f v u) Q X.xe s2) :
    wpAny (model X.prog X.w) X.A (eval a X.env) (fun v s₁ => wpAny (model X.prog X.w) X.A (eval b X.env) (fun u s₂ => wpAny (model X.prog X.w) X.A (f v u) Q X.xe s₂) X.xe s₁) X.xe s := by
  refine thn (ha pins s σ H _ I h) fun v s1 ⟨x, H1, I1, r1, q1⟩ => ?_
  refine thn (hb pins s1 σ H1 _ I1 q1) fun u s2 ⟨y, H2, I2, r2, q2⟩ => ?_
  exact hf v u s2 x y H2 I2 r1 r2 q2
theorem pe_op {op : Operator} {r : R2} (ho : OpR X (binaryOp op) r) (ha : PE X a ta) (hb : PE X b tb) : PE X (.BinOp a op b pos) (tOp r ta tb) := by
  intro pins s σ H Q I h
  exact wpAny_BinOp (binT ha hb I h fun v u s2 x y H2 I2 rx ry q => ho pins s2 σ H2 x y v u Q I2 rx ry q)
theorem pe_un {op : UnaryOp} {r : V → Hp → VK → Prop} (ho : UnR X (unaryOp op) r) (ha : PE X a ta) : PE X (.UnaryOp op a pos) (tUn r ta) := by
  intro pins s σ H Q I h
  exact UnaryOp_ (thn (ha pins s σ H _ I h) fun v s1 ⟨x, H1, I1, r1, q1⟩ => ho pins s1 σ H1 x v Q I1 r1 q1)
theorem opI {f : Value → Value → Sem Value} {C : Int → Int → Prop} {g : Int → Int → Int}
    (rule : ∀ (i j : Int) (t u : Tok) (s : Shared) (Q : Value → Shared → Prop) (E : Value → Shared → Prop), C i j → Q (.int (g i j) s.toks) { s with toks := s.toks + 1 } → wpAny (model X.prog X.w) X.A (f (.int i t) (.int j u)) Q E s) :
    OpR X f (rI C fun i j => .int (g i j)) := by
  intro pins s σ H x y v u Q I rx ry h
  obtain ⟨i, j, rfl, rfl, hc, q⟩ := rI_inv h
  obtain ⟨t, rfl⟩ := rx
  obtain ⟨t', rfl⟩ := ry
  exact rule i j t t' s _ _ hc ⟨.int (g i j), H, I.tok _, ⟨_, rfl⟩, q⟩
theorem opI0 {f : Value → Value → Sem Value} {g : Int → Int → Int}
    (rule : ∀ (i j : Int) (t u : Tok) (s : Shared) (Q : Value → Shared → Prop) (E : Value → Shared → Prop), Q (.int (g i j) s.toks) { s with toks := s.toks + 1 } → wpAny (model X.prog X.w) X.A (f (.int i t) (.int j u)) Q E s) :
    OpR X f (rI0 fun i j => .int (g i j)) := by
  intro pins s σ H x y v u Q I rx ry h
  obtain ⟨i, j, rfl, rfl, q⟩ := rI0_inv h
  obtain ⟨t, rfl⟩ := rx
  obtain ⟨t', rfl⟩ := ry
  exact rule i j t t' s _ _ ⟨.int (g i j), H, I.tok _, ⟨_, rfl⟩, q⟩
theorem opB0 {f : Value → Value → Sem Value} {g : Int → Int → Bool}
    (rule : ∀ (i j : Int) (t u : Tok) (s : Shared) (Q : Value → Shared → Prop) (E : Value → Shared → Prop), Q (.bool (g i j)) s → wpAny (model X.prog X.w) X.A (f (.int i t) (.int j u)) Q E s) :
    OpR X f (rI0 fun i j => .bl (g i j)) := by
  intro pins s σ H x y v u Q I rx ry h
  obtain ⟨i, j, rfl, rfl, q⟩ := rI0_inv h
  obtain ⟨t, rfl⟩ := rx
  obtain ⟨t', rfl⟩ := ry
  exact rule i j t t' s _ _ ⟨.bl (g i j), H, I, rfl, q⟩
def CDiv (i j : Int) : Prop := 0 < j ∧ j < 1073741824
def CMul (i j : Int) : Prop := (-(2 ^ 64) < i ∧ i < 2 ^ 64) ∨ (-(2 ^ 64) < j ∧ j < 2 ^ 64)
theorem CMul.ok {i j : Int} (h : CMul i j) : IntMulOk i j := by
  rcases h with ⟨h1, h2⟩ | ⟨h1, h2⟩
  · exact .of_left (intBits_le_64 h1 h2)
  · exact .of_right (intBits_le_64 h1 h2)
theorem op_add : OpR X (binaryOp .Add) (rI0 fun i j => .int (i + j)) := opI0 fun _ _ _ _ _ _ _ q => add_int q
theorem op_sub : OpR X (binaryOp .Sub) (rI0 fun i j => .int (i - j)) := opI0 fun _ _ _ _ _ _ _ q => sub_int q
theorem op_mul : OpR X (binaryOp .Mult) (rI CMul fun i j => .int (i * j)) := opI fun _ _ _ _ _ _ _ hc q => mul_int q hc.ok
theorem op_fdiv : OpR X (binaryOp .FloorDiv) (rI CDiv fun i j => .int (i / j)) := opI fun i j _ _ _ _ _ hc q => by
  have h1 : (0 : Int) < j := hc.1
  have h2 : j < 1073741824 := hc.2
  exact floordiv_int (by omega) (by rw [Int.fdiv_eq_ediv_of_nonneg i (by omega)]; exact q) (.inl (PyProof.noPylong_small (by omega)))
theorem op_mod : OpR X (binaryOp .Mod) (rI (fun _ j => 0 < j) fun i j => .int (i % j)) := opI fun i j _ _ _ _ _ hc q => by
  have h1 : (0 : Int) < j := hc
  exact mod_int' (by omega) (by rw [Int.fmod_eq_emod_of_nonneg i (by omega)]; exact q)
theorem unI {f : Value → Sem Value} {g : Int → Int}
    (rule : ∀ (i : Int) (t : Tok) (s : Shared) (Q : Value → Shared → Prop) (E : Value → Shared → Prop), Q (.int (g i) s.toks) { s with toks := s.toks + 1 } → wpAny (model X.prog X.w) X.A (f (.int i t)) Q E s) :
    UnR X f (rU fun i => .int (g i)) := by
  intro pins s σ H x v Q I rx h
  obtain ⟨i, rfl, q⟩ := h
  obtain ⟨t, rfl⟩ := rx
  exact rule i t s _ _ ⟨.int (g i), H, I.tok _, ⟨_, rfl⟩, q⟩
theorem un_neg : UnR X (unaryOp .USub) (rU fun i => .int (-i)) := unI fun _ _ _ _ _ q => neg_int q
end
def scal : V → V → Bool
  | .non, .non => true | .non, .int _ => true | .int _, .non => true | .non, .bl _ => true | .bl _, .non => true | .non, .str _ => true | .str _, .non => true
  | .int _, .int _ => true | .bl _, .bl _ => true | .str _, .str _ => true | .byt _, .byt _ => true
  | .int _, .str _ => true | .str _, .int _ => true | .bl _, .str _ => true | .str _, .bl _ => true
  | _, _ => false
def rEq : R2 := fun x y H Q => match x, y with
  | .int i, .int j => Q (.bl (decide (i = j))) H
  | .str i, .str j => Q (.bl (decide (i = j))) H
  | .bl i, .bl j => Q (.bl ((i == j))) H
  | x, y => scal x y = true ∧ Q (.bl (decide (x = y))) H
theorem rEq_inv {x y : V} {H : Hp} {Q : VK} (h : rEq x y H Q) : scal x y = true ∧ Q (.bl (decide (x = y))) H := by
  unfold rEq at h
  split at h
  · refine ⟨rfl, ?_⟩
    rename_i i j
    rw [show decide (V.int i = V.int j) = decide (i = j) from by simp]
    exact h
  · refine ⟨rfl, ?_⟩
    rename_i i j
    rw [show decide (V.str i = V.str j) = decide (i = j) from by simp]
    exact h
  · refine ⟨rfl, ?_⟩
    rename_i i j
    rw [show decide (V.bl i = V.bl j) = (i == j) from by cases i <;> cases j <;> rfl]
    exact h
  · exact h
def rNe : R2 := fun x y H Q => match x, y with
  | .int i, .int j => Q (.bl (!decide (i = j))) H
  | .str i, .str j => Q (.bl (!decide (i = j))) H
  | .bl i, .bl j => Q (.bl (!(i == j))) H
  | x, y => scal x y = true ∧ Q (.bl (!decide (x = y))) H
theorem rNe_inv {x y : V} {H : Hp} {Q : VK} (h : rNe x y H Q) : scal x y = true ∧ Q (.bl (!decide (x = y))) H := by
  unfold rNe at h
  split at h
  · refine ⟨rfl, ?_⟩
    rename_i i j
    rw [show decide (V.int i = V.int j) = decide (i = j) from by simp]
    exact h
  · refine ⟨rfl, ?_⟩
    rename_i i j
    rw [show decide (V.str i = V.str j) = decide (i = j) from by simp]
    exact h
  · refine ⟨rfl, ?_⟩
    rename_i i j
    rw [show decide (V.bl i = V.bl j) = (i == j) from by cases i <;> cases j <;> rfl]
    exact h
  · exact h
theorem dec_int {i j : Int} : decide (V.int i = V.int j) = (i == j) := by
  rw [Bool.eq_iff_iff]
  simp
theorem dec_bl {i j : Bool} : decide (V.bl i = V.bl j) = (i == j) := by
  rw [Bool.eq_iff_iff]
  simp
theorem dec_str {i j : Str} : decide (V.str i = V.str j) = (i == j) := by
  rw [Bool.eq_iff_iff]
  simp
theorem dec_byt {i j : Array UInt8} : decide (V.byt i = V.byt j) = (i.toList == j.toList) := by
  rw [Bool.eq_iff_iff]
  cases i
  cases j
  simp
section
variable {X : Cx} {a b c : Expr} {ta tb tc : TE} {pos : Pos}
theorem fin_bl {pins : List (Addr × Obj)} {σ : St} {H : Hp} {s : Shared} {Q : VK} {k k' : Bool} (I : Inv X pins σ H s) (q : Q (.bl k) H) (e : k = k') : EP X pins σ Q (.bool k') s := by
  subst e
  exact ⟨.bl k, H, I, rfl, q⟩
theorem op_eq : OpR X (compareOp .Eq) rEq := by
  intro pins s σ H x y v u Q I rx ry h
  obtain ⟨hs, q⟩ := rEq_inv h
  cases x with
  | non =>
    cases rx
    cases y with
    | non => cases ry; exact PySem.EqNone.eq_none_none (fin_bl I q (by simp))
    | bl j => cases ry; exact PySem.EqNone.eq_none_bool (fin_bl I q (by simp))
    | int j => obtain ⟨t', rfl⟩ := ry; exact PySem.EqNone.eq_none_int (fin_bl I q (by simp))
    | str j => obtain ⟨t', rfl⟩ := ry; exact PySem.EqNone.eq_none_str (fin_bl I q (by simp))
    | _ => exact absurd (show false = true from hs) Bool.false_ne_true
  | bl i =>
    cases rx
    cases y with
    | non => cases ry; exact PySem.EqNone.eq_bool_none (fin_bl I q (by simp))
    | bl j => cases ry; exact eq_bool (fin_bl I q dec_bl)
    | str j => obtain ⟨t', rfl⟩ := ry; exact PySem.EqMixed.eq_bool_str (fin_bl I q (by simp))
    | _ => exact absurd (show false = true from hs) Bool.false_ne_true
  | int i =>
    obtain ⟨t, rfl⟩ := rx
    cases y with
    | non => cases ry; exact PySem.EqNone.eq_int_none (fin_bl I q (by simp))
    | int j => obtain ⟨t', rfl⟩ := ry; exact eq_int (fin_bl I q dec_int)
    | str j => obtain ⟨t', rfl⟩ := ry; exact PySem.EqMixed.eq_int_str (fin_bl I q (by simp))
    | _ => exact absurd (show false = true from hs) Bool.false_ne_true
  | str i =>
    obtain ⟨t, rfl⟩ := rx
    cases y with
    | non => cases ry; exact PySem.EqNone.eq_str_none (fin_bl I q (by simp))
    | bl j => cases ry; exact PySem.EqMixed.eq_str_bool (fin_bl I q (by simp))
    | int j => obtain ⟨t', rfl⟩ := ry; exact PySem.EqMixed.eq_str_int (fin_bl I q (by simp))
    | str j => obtain ⟨t', rfl⟩ := ry; exact eq_str (fin_bl I q dec_str)
    | _ => exact absurd (show false = true from hs) Bool.false_ne_true
  | byt i =>
    obtain ⟨t, rfl⟩ := rx
    cases y with
    | byt j => obtain ⟨t', rfl⟩ := ry; exact PySem.W.eq_bytes (fin_bl I q dec_byt)
    | _ => exact absurd (show false = true from hs) Bool.false_ne_true
  | _ => cases y <;> exact absurd (show false = true from hs) Bool.false_ne_true
theorem op_ne : OpR X (compareOp .NotEq) rNe := by
  intro pins s σ H x y v u Q I rx ry h
  obtain ⟨hs, q⟩ := rNe_inv h
  cases x with
  | non =>
    cases rx
    cases y with
    | non => cases ry; exact PySem.EqNone.ne_none_none (fin_bl I q (by simp))
    | bl j => cases ry; exact PySem.EqNone.ne_none_bool (fin_bl I q (by simp))
    | int j => obtain ⟨t', rfl⟩ := ry; exact PySem.EqNone.ne_none_int (fin_bl I q (by simp))
    | str j => obtain ⟨t', rfl⟩ := ry; exact PySem.EqNone.ne_none_str (fin_bl I q (by simp))
    | _ => exact absurd (show false = true from hs) Bool.false_ne_true
  | bl i =>
    cases rx
    cases y with
    | non => cases ry; exact PySem.EqNone.ne_bool_none (fin_bl I q (by simp))
    | bl j => cases ry; exact ne_bool (fin_bl I q (congrArg not dec_bl))
    | str j => obtain ⟨t', rfl⟩ := ry; exact PySem.EqMixed.ne_bool_str (fin_bl I q (by simp))
    | _ => exact absurd (show false = true from hs) Bool.false_ne_true
  | int i =>
    obtain ⟨t, rfl⟩ := rx
    cases y with
    | non => cases ry; exact PySem.EqNone.ne_int_none (fin_bl I q (by simp))
    | int j => obtain ⟨t', rfl⟩ := ry; exact ne_int (fin_bl I q (congrArg not dec_int))
    | str j => obtain ⟨t', rfl⟩ := ry; exact PySem.EqMixed.ne_int_str (fin_bl I q (by simp))
    | _ => exact absurd (show false = true from hs) Bool.false_ne_true
  | str i =>
    obtain ⟨t, rfl⟩ := rx
    cases y with
    | non => cases ry; exact PySem.EqNone.ne_str_none (fin_bl I q (by simp))
    | bl j => cases ry; exact PySem.EqMixed.ne_str_bool (fin_bl I q (by simp))
    | int j => obtain ⟨t', rfl⟩ := ry; exact PySem.EqMixed.ne_str_int (fin_bl I q (by simp))
    | str j => obtain ⟨t', rfl⟩ := ry; exact ne_str (fin_bl I q (congrArg not dec_str))
    | _ => exact absurd (show false = true from hs) Bool.false_ne_true
  | byt i =>
    obtain ⟨t, rfl⟩ := rx
    cases y with
    | byt j => obtain ⟨t', rfl⟩ := ry; exact PySem.W.ne_bytes (fin_bl I q (congrArg not dec_byt))
    | _ => exact absurd (show false = true from hs) Bool.false_ne_true
  | _ => cases y <;> exact absurd (show false = true from hs) Bool.false_ne_true
theorem op_lt : OpR X (compareOp .Lt) (rI0 fun i j => .bl (decide (i < j))) := opB0 fun _ _ _ _ _ _ _ q => lt_int q
theorem op_le : OpR X (compareOp .LtE) (rI0 fun i j => .bl (decide (i ≤ j))) := opB0 fun _ _ _ _ _ _ _ q => le_int q
theorem op_gt : OpR X (compareOp .Gt) (rI0 fun i j => .bl (decide (j < i))) := opB0 fun _ _ _ _ _ _ _ q => gt_int q
theorem op_isN : OpR X (compareOp .Is) (fun x y H Q => y = .non ∧ Q (.bl (decide (x = .non))) H) := by
  intro pins s σ H x y v u Q I rx ry h
  obtain ⟨rfl, q⟩ := h
  cases ry
  refine is_none_gen (fin_bl I q ?_)
  cases x <;> first
    | (cases rx; rfl)
    | (obtain ⟨t, rfl⟩ := rx; rfl)
theorem op_notN : OpR X (compareOp .IsNot) (fun x y H Q => y = .non ∧ Q (.bl (!decide (x = .non))) H) := by
  intro pins s σ H x y v u Q I rx ry h
  obtain ⟨rfl, q⟩ := h
  cases ry
  refine isnot_none_gen (fin_bl I q ?_)
  cases x <;> first
    | (cases rx; rfl)
    | (obtain ⟨t, rfl⟩ := rx; rfl)
theorem nomark (b : Expr) {op : CmpOp} (h : op ≠ .In := by decide) (h2 : op ≠ .NotIn := by decide) : behindInMarks op b = false := by
  have e1 : (op == CmpOp.In) = false := by cases op <;> first | rfl | exact absurd rfl h
  have e2 : (op == CmpOp.NotIn) = false := by cases op <;> first | rfl | exact absurd rfl h2
  cases b <;> simp [behindInMarks, e1, e2]
theorem pe_cmpR {op : CmpOp} {r : R2} (ho : OpR X (compareOp op) r) (ha : PE X a ta) (hb : PE X b tb) (hm : behindInMarks op b = false) : PE X (.Compare a [op] [b] pos) (tOp r ta tb) := by
  intro pins s σ H Q I h
  exact wpAny_Compare1 (binT ha hb I h fun v u s2 x y H2 I2 rx ry q => ho pins s2 σ H2 x y v u Q I2 rx ry q) hm
def tTest (t : TE) : TT := fun σ H Q => t σ H fun x H' => ∃ k, x = .bl k ∧ Q k H'
theorem pt_cmpR {op : CmpOp} {r : R2} (ho : OpR X (compareOp op) r) (ha : PE X a ta) (hb : PE X b tb) (hm : behindInMarks op b = false) : PT X (.Compare a [op] [b] pos) (tTest (tOp r ta tb)) := by
  intro pins s σ H Q I h
  refine wpAny_isTrue_Compare1 (thn (ha pins s σ H _ I h) fun v s1 ⟨x, H1, I1, r1, q1⟩ => thn (hb pins s1 σ H1 _ I1 q1) fun u s2 ⟨y, H2, I2, r2, q2⟩ =>
    thn (ho pins s2 σ H2 x y v u _ I2 r1 r2 q2) fun c s3 ⟨z, H3, I3, r3, k, e, q3⟩ => ?_) hm
  subst e
  cases r3
  exact wpAny_truthy_bool ⟨H3, I3, q3⟩
def tChain (r r' : R2) (ta tb tc : TE) : TE := fun σ H Q => ta σ H fun x H1 => tb σ H1 fun y H2 => r x y H2 fun z H3 => ∃ k, z = .bl k ∧
  (if k = true then tc σ H3 fun w' H4 => r' y w' H4 Q else Q (.bl false) H3)
theorem pe_chain {op op' : CmpOp} {r r' : R2} (ho : OpR X (compareOp op) r) (ho' : OpR X (compareOp op') r') (ha : PE X a ta) (hb : PE X b tb) (hc : PE X c tc)
    (hm : lastMarks [op, op'] [b, c] = false := by with_unfolding_all rfl) : PE X (.Compare a [op, op'] [b, c] pos) (tChain r r' ta tb tc) := by
  intro pins s σ H Q I h
  refine Compare_chain (thn (ha pins s σ H _ I h) fun v s1 ⟨x, H1, I1, r1, q1⟩ => chain_link (thn (hb pins s1 σ H1 _ I1 q1) fun u s2 ⟨y, H2, I2, r2, q2⟩ =>
    thn (ho pins s2 σ H2 x y v u _ I2 r1 r2 q2) fun d s3 ⟨z, H3, I3, r3, k, e, q3⟩ => ?_)) hm
  subst e
  cases r3
  refine wpAny_truthy_bool ?_
  cases k with
  | false => exact ite_ff ⟨.bl false, H3, I3, rfl, q3⟩
  | true => exact ite_tt (chain_last (thn (hc pins s3 σ H3 _ I3 q3) fun w' s4 ⟨z', H4, I4, r4, q4⟩ => ho' pins s4 σ H4 y z' u w' Q I4 r2 r4 q4))
theorem pt_chain {op op' : CmpOp} {r r' : R2} (ho : OpR X (compareOp op) r) (ho' : OpR X (compareOp op') r') (ha : PE X a ta) (hb : PE X b tb) (hc : PE X c tc)
    (hm : lastMarks [op, op'] [b, c] = false := by with_unfolding_all rfl) : PT X (.Compare a [op, op'] [b, c] pos) (tTest (tChain r r' ta tb tc)) := by
  intro pins s σ H Q I h
  refine isTrue_chain (thn (ha pins s σ H _ I h) fun v s1 ⟨x, H1, I1, r1, q1⟩ => test_link (thn (hb pins s1 σ H1 _ I1 q1) fun u s2 ⟨y, H2, I2, r2, q2⟩ =>
    thn (ho pins s2 σ H2 x y v u _ I2 r1 r2 q2) fun d s3 ⟨z, H3, I3, r3, k, e, q3⟩ => ?_)) hm
  subst e
  cases r3
  refine wpAny_truthy_bool ?_
  cases k with
  | false =>
    obtain ⟨k', e', q'⟩ := q3
    cases e'
    exact ite_ff ⟨H3, I3, q'⟩
  | true =>
    refine ite_tt (test_last (thn (hc pins s3 σ H3 _ I3 q3) fun w' s4 ⟨z', H4, I4, r4, q4⟩ => thn (ho' pins s4 σ H4 y z' u w' _ I4 r2 r4 q4) fun d' s5 ⟨z2, H5, I5, r5, k2, e2, q5⟩ => ?_))
    subst e2
    cases r5
    exact wpAny_truthy_bool ⟨H5, I5, q5⟩
theorem line63 : (sizeLine : Nat) < 2 ^ 63 := by rw [sizeLine_eq]; decide
theorem op_add_str : OpR X (binaryOp .Add) (fun x y H Q => ∃ i j, x = .str i ∧ y = .str j ∧ i.length + j.length ≤ sizeLine ∧ Q (.str (i ++ j)) H) := by
  intro pins s σ H x y v u Q I rx ry h
  obtain ⟨i, j, rfl, rfl, hz, q⟩ := h
  obtain ⟨t, rfl⟩ := rx
  obtain ⟨t', rfl⟩ := ry
  exact add_str (fun t' tk => ⟨.str (i ++ j), H, I.tok _, ⟨_, rfl⟩, q⟩) hz
theorem vals1 {x : V} {us : List Value} (r : Vals [x] us) : ∃ u, us = [u] ∧ RelV x u := by
  cases r with
  | cons r1 r2 => cases r2; exact ⟨_, rfl, r1⟩
theorem vals2 {x y : V} {us : List Value} (r : Vals [x, y] us) : ∃ u w', us = [u, w'] ∧ RelV x u ∧ RelV y w' := by
  cases r with
  | cons r1 r2 =>
    cases r2 with
    | cons r3 r4 => cases r4; exact ⟨_, _, rfl, r1, r3⟩
theorem call_min2 (hc : X.calm = true) : CallR X (.builtin "min") (fun xs H Q => ∃ i j, xs = [.int i, .int j] ∧ Q (.int (if j < i then j else i)) H) := by
  intro pins s σ H xs us Q I r h
  obtain ⟨i, j, rfl, q⟩ := h
  obtain ⟨u, w', rfl, ⟨t, rfl⟩, ⟨t', rfl⟩⟩ := vals2 r
  refine min_two_ints (I.ok.hd hc) fun h' tk k => ⟨_, H, I.kept k, ?_, q⟩
  by_cases hj : j < i
  · rw [if_pos hj, if_pos hj]; exact ⟨_, rfl⟩
  · rw [if_neg hj, if_neg hj]; exact ⟨_, rfl⟩
theorem call_int1 : CallR X (.type "int") (fun xs H Q => (∃ i, xs = [.int i] ∧ Q (.int i) H) ∨ ∃ k, xs = [.bl k] ∧ Q (.int (if k then 1 else 0)) H) := by
  intro pins s σ H xs us Q I r h
  rcases h with ⟨i, rfl, q⟩ | ⟨k, rfl, q⟩
  · obtain ⟨u, rfl, t, rfl⟩ := vals1 r
    exact call_int_int ⟨.int i, H, I, ⟨_, rfl⟩, q⟩
  · obtain ⟨u, rfl, r1⟩ := vals1 r
    cases r1
    exact call_int_bool ⟨.int (if k then 1 else 0), H, I.tok _, ⟨_, rfl⟩, q⟩
theorem call_str_int : CallR X (.type "str") (fun xs H Q => ∃ i, xs = [.int i] ∧ i.natAbs.log2 < 1920 ∧ Q (.str (toString i)) H) := by
  intro pins s σ H xs us Q I r h
  obtain ⟨i, rfl, hz, q⟩ := h
  obtain ⟨u, rfl, t, rfl⟩ := vals1 r
  exact PySem.P.str_of_int hz ⟨.str _, H, I.tok _, ⟨_, rfl⟩, q⟩
end
end L2
namespace L2
open PySem PySem.Spec PyProof.Rows
set_option genInjectivity false in
set_option genSizeOf false in
structure ObjM (h : Heap) (x dx C : Addr) (mA : Str → Option Value) : Prop where
  obj : h.get? x = some (PySem.W.instObj C dx)
  ns : h.Ns1 dx mA
  ne : dx ≠ x
theorem lookIn_ns {h : Heap} {dx : Addr} {mA : Str → Option Value} (n : h.Ns1 dx mA) : ∃ od, h.get? dx = some od ∧ ∀ name, PySem.W.lookIn name od = some (mA name) := by
  obtain ⟨o, es, ep, ho, hd, hk, _, hm⟩ := n
  refine ⟨o, ho, fun name => ?_⟩
  have e := hm name
  unfold nsFind findBy at e
  rw [← Array.find?_toList] at e
  unfold PySem.W.lookIn
  rw [hd]
  dsimp only
  split
  · rename_i y q
    rw [q] at e
    exact congrArg some e
  · rename_i q
    rw [q] at e
    have a : es.toList.any (·.refKey) = false := by
      rw [List.any_eq_false]
      intro y hy
      obtain ⟨z, t, hkey⟩ := hk y (Array.mem_toList_iff.mp hy)
      simp [DictEntry.refKey, hkey]
    have a' : ¬ es.toList.any (·.refKey) = true := by rw [a]; exact Bool.false_ne_true
    rw [if_neg a']
    exact congrArg some e
theorem ObjM.look {h : Heap} {x dx C : Addr} {mA : Str → Option Value} (I : ObjM h x dx C mA) : ∃ od, PySem.W.InstAt h x (PySem.W.instObj C dx) C (some od) ∧ ∀ name, PySem.W.lookIn name od = some (mA name) :=
  let ⟨od, ho, hl⟩ := lookIn_ns I.ns
  ⟨od, ⟨I.obj, rfl, rfl, ho⟩, hl⟩
section
variable {prog : Program} {w : World} {A : Around} {E : Value → Shared → Prop} {s : Shared} {K : PySem.W.Frag} {x dx C f : Addr} {mA : Str → Option Value} {name : Str} {v : Value}
theorem get_map {expr : Bool} {Q : Value → Shared → Prop} (X : K.In s.heap) (I : ObjM s.heap x dx C mA) (hg : PySem.W.plainGet K C name = true) (hh : PySem.W.hasDictIn K C = true)
    (ha : PySem.W.findIn K (.ref C) name = some none) (hv : mA name = some v) (hv' : PySem.W.handedIn v = true) (h : Q v { s with toks := s.toks + 1 }) :
    wpAny (model prog w) A (getAttr (.ref x) name expr) Q E s := by
  obtain ⟨od, J, hl⟩ := I.look
  exact PySem.W.get_value X J (PySem.W.plainGet_of hg).1 (PySem.W.findObj_own hh ha rfl (by rw [hl, hv])) hv' h
theorem get_meth {pl : Sem Bool} {Q : Value × List Value → Shared → Prop} (X : K.In s.heap) (I : ObjM s.heap x dx C mA) (hg : PySem.W.plainGet K C name = true)
    (hf : PySem.W.findIn K (.ref C) name = some (some (.ref f))) (ht : PySem.W.isFn K (.ref f) = true) (hv : mA name = none) (h : Q (.ref f, [.ref x]) s) :
    wpAny (model prog w) A (getMethod (.ref x) name pl) Q E s := by
  obtain ⟨od, J, hl⟩ := I.look
  exact PySem.W.method_fn X J (PySem.W.plainGet_of hg).1 (PySem.W.plainGet_of hg).2 hf (beq_iff_eq.mp ht) (by show (PySem.W.lookIn name od).map (·.isSome) = some false; rw [hl, hv]; rfl) h
theorem set_map {ns : List Str} {Q : Unit → Shared → Prop} (X : K.In s.heap) (I : ObjM s.heap x dx C mA)
    (hs : PySem.W.findIn K (.ref C) "__setattr__" = some (some (.builtin "object.__setattr__"))) (hp : PySem.W.plainOver K C = true) (ht : PySem.W.takerIn K C name = some none) (hh : PySem.W.hasDictIn K C = true)
    (hw : PySem.Within mA ns) (hsz : ns.length ≤ sizeLine)
    (h : ∀ h', ObjM h' x dx C (fun y => if y = name then some v else mA y) → Heap.SameBut dx s.heap h' → Q () { s with heap := h', toks := s.toks + 2 }) :
    wpAny (model prog w) A (setAttr (.ref x) name v) Q E s := by
  obtain ⟨od, J, hl⟩ := I.look
  refine PySem.W.set_plain X J hs (PySem.W.osa_open (s := { s with toks := s.toks + 1 }) (r := none) X J hp ht fun b => ?_)
  obtain ⟨cd, hc, hd'⟩ := PySem.W.any_some hh
  have hx : s.heap.get? x = some ⟨.ref C, some dx, .plain, #[]⟩ := I.obj
  refine wpAny_bind (wpAny_pure (wpAny_bind (wpAny_bind (wpAny_loadPart hx (wpAny_bind (PySem.W.Looks.here (s := { s with toks := s.toks + 1 }) (PySem.W.looks_clsIn X hc) ?_))))))
  rw [hd']
  refine wpAny_pure (a := some dx) (wpAny_bind (wpAny_pure (wpAny_bind ?_)))
  refine wpAny_nsSet1 (s := { s with toks := s.toks + 1 }) I.ns fun h' hn2 hs2 => ?_
  obtain ⟨oD, esD, epD, hoD, hdD, hcD⟩ := hn2.count (PySem.Within.cons name v hw)
  refine wpAny_bind (wpAny_lookBehind hoD (by rw [hdD]; exact pastItsLine_dict (Nat.le_trans hcD (by rw [List.length_cons]; omega))) ?_)
  exact wpAny_pure (h _ ⟨(hs2.2 _ (Ne.symm I.ne)).trans I.obj, hn2, I.ne⟩ hs2)
theorem make_map {R : Result → Shared → Prop} {vs : List Value} {kw : List (Str × Value)} (X : K.In s.heap) (hm : PySem.W.makesIn K C = true)
    (hi : PySem.W.findIn K (.ref C) "__init__" = some (some (.ref f))) (hf : PySem.W.typeIn K (.ref f) = some (.type "function"))
    (h : codeAny (model prog w) (A.under (.builtin "type.__call__" ⟨.ref C :: vs, kw⟩)) (.call (.ref f) ⟨.ref (s.heap.objs.size + 1) :: vs, kw⟩) (PySem.W.InitBack (s.heap.objs.size + 1) R)
      { s with heap := (s.heap.push PySem.W.emptyDict).push (PySem.W.instObj C s.heap.objs.size) }) :
    codeAny (model prog w) A (.call (.ref C) ⟨vs, kw⟩) R s := by
  obtain ⟨hh, g, d, t, os⟩ := s
  exact PySem.W.make_core (PySem.W.makes_of X hm) (PySem.W.looks_findIn X hi) (fun self => PySem.W.bind_fn X self hf) (.inl rfl) h
end
def putF (f : Str) (v : V) : List (Str × V) → List (Str × V)
  | [] => [(f, v)]
  | (g, x) :: r => if g = f then (g, v) :: r else (g, x) :: putF f v r
theorem lookup_putF (f g : Str) (v : V) : ∀ fs : List (Str × V), (putF f v fs).lookup g = if g = f then some v else fs.lookup g
  | [] => by
    show List.lookup g [(f, v)] = _
    by_cases h : g = f
    · have hb : (g == f) = true := beq_iff_eq.mpr h
      simp only [List.lookup, hb, if_pos h]
    · have hb : (g == f) = false := beq_eq_false_iff_ne.mpr h
      simp only [List.lookup, hb, if_neg h]
  | (k, x) :: r => by
    have ih := lookup_putF f g v r
    rw [show putF f v ((k, x) :: r) = (if k = f then (k, v) :: r else (k, x) :: putF f v r) from rfl]
    by_cases hk : k = f
    · rw [if_pos hk]
      by_cases h : g = k
      · have hb : (g == k) = true := beq_iff_eq.mpr h
        simp only [List.lookup, hb, if_pos (h.trans hk)]
      · have hb : (g == k) = false := beq_eq_false_iff_ne.mpr h
        simp only [List.lookup, hb, if_neg (fun e : g = f => h (e.trans hk.symm))]
    · rw [if_neg hk]
      by_cases h : g = k
      · have hb : (g == k) = true := beq_iff_eq.mpr h
        simp only [List.lookup, hb, if_neg (fun e : g = f => hk (h.symm.trans e))]
      · have hb : (g == k) = false := beq_eq_false_iff_ne.mpr h
        simp only [List.lookup, hb]
        exact ih
theorem keys_putF (f : Str) (v : V) : ∀ fs : List (Str × V), f ∈ (putF f v fs).map (·.1) ∧ ∀ g, g ∈ fs.map (·.1) → g ∈ (putF f v fs).map (·.1)
  | [] => ⟨by simp [putF], fun g h => by simp at h⟩
  | (k, x) :: r => by
    obtain ⟨i1, i2⟩ := keys_putF f v r
    rw [show putF f v ((k, x) :: r) = (if k = f then (k, v) :: r else (k, x) :: putF f v r) from rfl]
    by_cases hk : k = f
    · rw [if_pos hk]
      subst hk
      exact ⟨by simp, fun g h => by simpa using h⟩
    · rw [if_neg hk]
      refine ⟨?_, fun g h => ?_⟩
      · rw [List.map_cons]
        exact List.mem_cons_of_mem _ i1
      · rw [List.map_cons] at h ⊢
        rcases List.mem_cons.mp h with e | e
        · exact List.mem_cons.mpr (.inl e)
        · exact List.mem_cons_of_mem _ (i2 g e)
theorem length_putF (f : Str) (v : V) : ∀ fs : List (Str × V), (putF f v fs).length ≤ fs.length + 1
  | [] => by simp [putF]
  | (k, x) :: r => by
    have ih := length_putF f v r
    rw [show putF f v ((k, x) :: r) = (if k = f then (k, v) :: r else (k, x) :: putF f v r) from rfl]
    by_cases hk : k = f
    · rw [if_pos hk, List.length_cons, List.length_cons]; omega
    · rw [if_neg hk, List.length_cons, List.length_cons]; omega
theorem RelO.some_of {v : V} {o : Option Value} (r : RelO (some v) o) : ∃ u, o = some u ∧ RelV v u := by
  cases o with
  | none => exact (show False from r).elim
  | some u => exact ⟨u, rfl, r⟩
theorem RelO.none_of {o : Option Value} (r : RelO none o) : o = none := by
  cases o with
  | none => rfl
  | some u => exact (show False from r).elim
theorem handed_of {v : V} {u : Value} (r : RelV v u) : PySem.W.handedIn u = true := by
  cases v with
  | non => cases (show u = Value.none from r); rfl
  | bl b => cases (show u = Value.bool b from r); rfl
  | int i => obtain ⟨t, e⟩ := (show ∃ t, u = Value.int i t from r); cases e; rfl
  | str x => obtain ⟨t, e⟩ := (show ∃ t, u = Value.str x t from r); cases e; rfl
  | byt b => obtain ⟨t, e⟩ := (show ∃ t, u = Value.bytes b t from r); cases e; rfl
  | flt b => obtain ⟨t, e⟩ := (show ∃ t, u = Value.float b t from r); cases e; rfl
  | ref a => cases (show u = Value.ref a from r); rfl
  | ty n => cases (show u = Value.type n from r); rfl
section
variable {P : Program} {w : World} {H H' : Hp} {h h' : Heap} {a C dx : Addr} {fs fs' : List (Str × V)}
theorem ins_get (hok : HOk P w H h) (e : H a = some (.ins C dx fs)) : ∃ mA, ObjM h a dx C mA ∧ (∀ f, RelO (fs.lookup f) (mA f)) ∧ PySem.Within mA (fs.map (·.1)) ∧ fs.length ≤ 1000 ∧ H dx = some (.own a) := by
  obtain ⟨d, z, ne, ob, mA, n, r, q⟩ := (show ObjOk P w H h a (.ins C dx fs) from hok a _ e)
  exact ⟨mA, ⟨ob, n, ne⟩, r, q, z, d⟩
end
set_option genInjectivity false in
set_option genSizeOf false in
structure Cls (K : PySem.W.Frag) (C : Addr) : Prop where
  pg : PySem.W.plainGet K C Str.empty = true
  hd : PySem.W.hasDictIn K C = true
  po : PySem.W.plainOver K C = true
  sa : PySem.W.findIn K (.ref C) "__setattr__" = some (some (.builtin "object.__setattr__"))
theorem Cls.get {K : PySem.W.Frag} {C : Addr} (c : Cls K C) (f : Str) : PySem.W.plainGet K C f = true := c.pg
def NoAttr (K : PySem.W.Frag) (C : Addr) (f : Str) : Prop := PySem.W.findIn K (.ref C) f = some none
theorem NoAttr.taker {K : PySem.W.Frag} {C : Addr} {f : Str} (n : NoAttr K C f) : PySem.W.takerIn K C f = some none := by
  unfold PySem.W.takerIn
  rw [show PySem.W.findIn K (.ref C) f = some none from n]
  rfl
set_option genInjectivity false in
set_option genSizeOf false in
structure Meth (K : PySem.W.Frag) (C : Addr) (m : Str) (f : Addr) : Prop where
  at_ : PySem.W.findIn K (.ref C) m = some (some (.ref f))
  fn : PySem.W.isFn K (.ref f) = true
  kp : PySem.W.keepIn K (.ref f) = true
section
variable {X : Cx} {pins : List (Addr × Obj)} {σ : St} {H : Hp} {s : Shared} {a C dx : Addr} {fs : List (Str × V)} {f : Str} {v : V} {A : Around} {E : Value → Shared → Prop}
theorem getattr_ok {b : Bool} {Q : Value → Shared → Prop} (I : Inv X pins σ H s) (e : H a = some (.ins C dx fs)) (c : Cls X.K C) (n : NoAttr X.K C f) (l : fs.lookup f = some v)
    (h : ∀ u s', Inv X pins σ H s' → RelV v u → Q u s') : wpAny (model X.prog X.w) A (getAttr (.ref a) f b) Q E s := by
  obtain ⟨mA, O, r, _, _, _⟩ := ins_get I.hok e
  obtain ⟨u, hu, ru⟩ := RelO.some_of (v := v) (o := mA f) (by rw [← l]; exact r f)
  exact get_map I.kIn O (c.get f) c.hd n hu (handed_of ru) (h u _ (I.tok _) ru)
theorem getmeth_ok {m : Str} {g : Addr} {pl : Sem Bool} {Q : Value × List Value → Shared → Prop} (I : Inv X pins σ H s) (e : H a = some (.ins C dx fs)) (c : Cls X.K C) (k : Meth X.K C m g) (l : fs.lookup m = none)
    (h : Q (.ref g, [.ref a]) s) : wpAny (model X.prog X.w) A (getMethod (.ref a) m pl) Q E s := by
  obtain ⟨mA, O, r, _, _, _⟩ := ins_get I.hok e
  have hn : mA m = none := RelO.none_of (by rw [← l]; exact r m)
  exact get_meth I.kIn O (c.get m) k.at_ k.fn hn h
theorem setattr_ok {y : V} {u : Value} {Q : Unit → Shared → Prop} (I : Inv X pins σ H s) (e : H a = some (.ins C dx fs)) (c : Cls X.K C) (n : NoAttr X.K C f) (hl : fs.length < 1000) (ry : RelV y u)
    (h : ∀ s', Inv X pins σ (upd H a (.ins C dx (putF f y fs))) s' → Q () s') : wpAny (model X.prog X.w) A (setAttr (.ref a) f u) Q E s := by
  obtain ⟨mA, O, r, wi, _, ho⟩ := ins_get I.hok e
  have hz : (fs.map (·.1)).length ≤ sizeLine := by rw [List.length_map, sizeLine_eq]; omega
  refine set_map I.kIn O c.sa c.po n.taker c.hd wi hz fun h' O' sb => h _ ?_
  have hd : ∃ o, h'.get? dx = some o := let ⟨o, _, _, e', _⟩ := O'.ns; ⟨o, e'⟩
  refine I.write (x := a) (e := dx) (by rw [e]; exact True.intro) (.inr ho) (fun b q hb z => (sb.2 b hb).trans z) hd ?_
  refine ⟨by rw [upd_ne O.ne]; exact ho, ?_, O.ne, O'.obj, _, O'.ns, fun g => ?_, fun g hg => ?_⟩
  · have := length_putF f y fs; omega
  · show RelO ((putF f y fs).lookup g) (if g = f then some u else mA g)
    rw [lookup_putF]
    by_cases q : g = f
    · rw [if_pos q, if_pos q]; exact ry
    · rw [if_neg q, if_neg q]; exact r g
  · by_cases q : g = f
    · rw [q]; exact (keys_putF f y fs).1
    · refine (keys_putF f y fs).2 g (wi g fun z => hg ?_)
      show (if g = f then some u else mA g) = none
      rw [if_neg q]; exact z
theorem Inv.made (I : Inv X pins σ H s) : Inv X pins σ (upd (upd H s.heap.objs.size (.own (s.heap.objs.size + 1))) (s.heap.objs.size + 1) (.ins C s.heap.objs.size []))
    { s with heap := (s.heap.push PySem.W.emptyDict).push (PySem.W.instObj C s.heap.objs.size) } := by
  have e1 : (s.heap.push PySem.W.emptyDict).get? s.heap.objs.size = some PySem.W.emptyDict := Heap.get?_push_size s.heap rfl
  have e2 : ((s.heap.push PySem.W.emptyDict).push (PySem.W.instObj C s.heap.objs.size)).get? (s.heap.objs.size + 1) = some (PySem.W.instObj C s.heap.objs.size) := by
    have := Heap.get?_push_size (s.heap.push PySem.W.emptyDict) (o := PySem.W.instObj C s.heap.objs.size) rfl
    rwa [Heap.size_push] at this
  have e3 : (s.heap.push PySem.W.emptyDict).Ns s.heap.objs.size (fun _ => none) := ⟨PySem.W.emptyDict, #[], _, e1, rfl, (fun e he => absurd he (by simp)), fun _ => rfl⟩
  have I1 := I.laid (a := s.heap.objs.size) (o := .own (s.heap.objs.size + 1)) (h' := s.heap.push PySem.W.emptyDict) (t' := s.toks) (fun b u q => Heap.get?_push_of_some _ q) (Nat.le_refl _) ⟨_, e1⟩
  refine I1.laid (a := s.heap.objs.size + 1) (o := .ins C s.heap.objs.size []) (t' := s.toks) (fun b u q => Heap.get?_push_of_some _ q) (Nat.le_of_eq (Heap.size_push _ _)) ?_
  have ne : s.heap.objs.size ≠ s.heap.objs.size + 1 := Nat.ne_of_lt (Nat.lt_succ_self _)
  refine ⟨by rw [upd_ne ne, upd_same], Nat.zero_le _, ne, e2, fun _ => none, (Heap.Ns1.of_empty e3).at fun o q => Heap.get?_push_of_some _ q, fun _ => True.intro, fun y hy => absurd rfl hy⟩
theorem attr_of {prog : Program} {w : World} {env : Env} {e : Expr} {f : Str} {pos : Pos} {s : Shared} {Q : Value → Shared → Prop} (hb : attributeBase e f env (eval e env) = eval e env)
    (h : wpAny (model prog w) A (eval e env) (fun o s₁ => wpAny (model prog w) A (getAttr o f true) Q E s₁) E s) : wpAny (model prog w) A (eval (.Attribute e f pos) env) Q E s :=
  Attribute_any_ h (by rw [arm_eval_Attribute, hb])
end
def tFld (K : PySem.W.Frag) (ta : TE) (f : Str) : TE := fun σ H Q => ta σ H fun x H1 => ∃ a C dx fs v, x = .ref a ∧ H1 a = some (.ins C dx fs) ∧ Cls K C ∧ NoAttr K C f ∧ fs.lookup f = some v ∧ Q v H1
def sFld (K : PySem.W.Frag) (ta tv : TE) (f : Str) : TS := fun D σ H => tv σ H fun y H1 => ta σ H1 fun x H2 => ∃ a C dx fs, x = .ref a ∧ H2 a = some (.ins C dx fs) ∧ Cls K C ∧ NoAttr K C f ∧ fs.length < 1000 ∧
  D.nx σ (upd H2 a (.ins C dx (putF f y fs)))
def InOp (X : Cx) (op : Operator) (rd : V → V → Hp → VK → Prop) : Prop :=
  ∀ (pins : List (Addr × Obj)) (s : Shared) (σ : St) (H : Hp) (x y : V) (u v : Value) (Q : VK), Inv X pins σ H s → RelV x u → RelV y v → rd x y H Q → wpAny (model X.prog X.w) X.A (inplaceOp op u v) (EP X pins σ Q) X.xe s
def sFldAug (K : PySem.W.Frag) (ta tv : TE) (rd : V → V → Hp → VK → Prop) (f : Str) : TS := fun D σ H => ta σ H fun x H1 => ∃ a C dx fs v, x = .ref a ∧ H1 a = some (.ins C dx fs) ∧ Cls K C ∧ NoAttr K C f ∧ fs.lookup f = some v ∧
  tv σ H1 fun y H2 => rd v y H2 fun z H3 => ∃ dx' fs', H3 a = some (.ins C dx' fs') ∧ fs'.length < 1000 ∧ D.nx σ (upd H3 a (.ins C dx' (putF f z fs')))
section
variable {X : Cx} {o e value : Expr} {f : Str} {pos pos' tpos : Pos} {ta tv : TE}
theorem pe_fld (he : PE X e ta) (hb : attributeBase e f X.env (eval e X.env) = eval e X.env) : PE X (.Attribute e f pos) (tFld X.K ta f) := by
  intro pins s σ H Q I h
  refine attr_of hb (thn (he pins s σ H _ I h) fun u s1 ⟨x, H1, I1, rx, a, C, dx, fs, v, ex, ea, c, n, l, q⟩ => ?_)
  subst ex
  obtain rfl : u = Value.ref a := rx
  exact getattr_ok I1 ea c n l fun u' s2 I2 ru => ⟨v, H1, I2, ru, q⟩
theorem ps_fld (ha : PE X o ta) (hv : PE X value tv) (hs : swapsWith value (some (.Attribute o f pos')) pos.line X.env = pure false) : PS X (.Assign [.Attribute o f pos'] value pos) (sFld X.K ta tv f) := by
  intro pins s σ H D I h
  refine plainObj_wpAny_Assign_Attribute (thn (hv pins s σ H _ I h) fun u s1 ⟨y, H1, I1, ry, q⟩ => thn (ha pins s1 σ H1 _ I1 q) fun ov s2 ⟨x, H2, I2, rx, a, C, dx, fs, ex, ea, c, n, l, q2⟩ => ?_) hs
  subst ex
  obtain rfl : ov = Value.ref a := rx
  exact setattr_ok I2 ea c n l ry fun s3 I3 => ⟨σ, _, I3, q2⟩
theorem ps_fldaug {op : Operator} {rd : V → V → Hp → VK → Prop} (ha : PE X o ta) (hv : PE X value tv) (hop : InOp X op rd) : PS X (.AugAssign (.Attribute o f tpos) op value pos) (sFldAug X.K ta tv rd f) := by
  intro pins s σ H D I h
  refine wpAny_AugAssign_AttributeAny (thn (ha pins s σ H _ I h) fun ov s1 ⟨x, H1, I1, rx, a, C, dx, fs, v, ex, ea, c, n, l, q⟩ => ?_)
  subst ex
  obtain rfl : ov = Value.ref a := rx
  refine getattr_ok I1 ea c n l fun u s2 I2 ru => thn (hv pins s2 σ H1 _ I2 q) fun w3 s3 ⟨y, H2, I3, ry, q3⟩ => thn (hop pins s3 σ H2 v y u w3 _ I3 ru ry q3) fun w4 s4 ⟨z, H3, I4, rz, dx', fs', ea', l', q4⟩ => ?_
  exact setattr_ok I4 ea' c n l' rz fun s5 I5 => ⟨σ, _, I5, q4⟩
def rAdd : V → V → Hp → VK → Prop := fun x y H Q => ∃ i j, x = .int i ∧ y = .int j ∧ Q (.int (i + j)) H
theorem in_add : InOp X .Add rAdd := by
  rintro pins s σ H x y u v Q I rx ry ⟨i, j, rfl, rfl, q⟩
  obtain ⟨t, rfl⟩ := (show ∃ t, u = Value.int i t from rx)
  obtain ⟨t', rfl⟩ := (show ∃ t', v = Value.int j t' from ry)
  exact PyProof.Rows.iadd_int ⟨.int (i + j), H, I.tok _, ⟨_, rfl⟩, q⟩
end
section
variable {X : Cx} {pins : List (Addr × Obj)} {σ : St} {H : Hp} {s : Shared} {A : Around} {E : Value → Shared → Prop} {Q : Value → Shared → Prop} {c : Value} {b : Bool}
end
end L2
namespace L2
open PySem PySem.Spec PyProof.Rows
set_option genInjectivity false in
set_option genSizeOf false in
structure Room (k : Nat) (A : Around) : Prop where
  hd : A.handled = none
  dp : A.depth + 3 * k + 5 < recursionLimit
  un : A.units + 16 * k + 200 < cLine
  gd : A.guards = some []
theorem Room.mono {j k : Nat} {A : Around} (r : Room k A) (h : j ≤ k) : Room j A := ⟨r.hd, by have := r.dp; omega, by have := r.un; omega, r.gd⟩
theorem Room.deeper {k : Nat} {A : Around} (r : Room (k + 1) A) (env : Env) : Room k (A.deeper env) :=
  ⟨r.hd, by have := r.dp; show A.depth + 1 + 3 * k + 5 < _; omega, by have := r.un; show A.units + 3 + 16 * k + 200 < _; omega, r.gd⟩
theorem make_depth {A : Around} {C : Addr} {us : List Value} {kw : List (Str × Value)} : (A.under (.builtin "type.__call__" ⟨.ref C :: us, kw⟩)).depth = A.depth + 1 := by
  first | rfl | simp [Around.under, Code.weight, Code.isCreation, Code.isGuard, Code.isCaller, Code.frames, Code.isFrame, guardIds]
theorem make_units {A : Around} {C : Addr} {us : List Value} {kw : List (Str × Value)} : (A.under (.builtin "type.__call__" ⟨.ref C :: us, kw⟩)).units = A.units + 1 := by
  first | rfl | simp [Around.under, Code.cUnits, Code.frames, Code.isFrame]
theorem make_guards {A : Around} {C : Addr} {us : List Value} {kw : List (Str × Value)} : (A.under (.builtin "type.__call__" ⟨.ref C :: us, kw⟩)).guards = A.guards := by
  show pushGuards (Code.guards (.builtin "type.__call__" ⟨.ref C :: us, kw⟩)) A.guards = A.guards
  rw [show Code.guards (.builtin "type.__call__" ⟨.ref C :: us, kw⟩) = [] from rfl]
  cases A.guards <;> rfl
theorem Room.make {k : Nat} {A : Around} (r : Room (k + 1) A) (C : Addr) (us : List Value) (kw : List (Str × Value)) : Room k (A.under (.builtin "type.__call__" ⟨.ref C :: us, kw⟩)) :=
  ⟨r.hd, by have := r.dp; rw [make_depth]; omega, by have := r.un; rw [make_units]; omega, by rw [make_guards]; exact r.gd⟩
theorem Room.depth {k : Nat} {A : Around} (r : Room k A) : A.depth < recursionLimit := by have := r.dp; omega
theorem Room.units {k : Nat} {A : Around} (r : Room k A) : A.units + 64 < cLine := by have := r.un; omega
def tNil : TA := fun _ H Q => Q [] H
def tCons (ta : TE) (tr : TA) : TA := fun σ H Q => ta σ H fun x H1 => tr σ H1 fun xs H2 => Q (x :: xs) H2
section
variable {X : Cx} {e : Expr} {es : List Expr} {te : TE} {t : TA} {pos : Pos}
theorem pa_nil : PA X [] tNil := fun _ _ _ _ H Q I h => Calls.spliced_nil ⟨[], H, I, .nil, h⟩
theorem pa_cons (ha : PE X e te) (hr : PA X es t) (hs : starEach (e :: es) X.env = (false, eval e X.env) :: starEach es X.env := by rfl) : PA X (e :: es) (tCons te t) := by
  intro pos pins s σ H Q I h
  rw [hs]
  show wpAny _ _ (spliced ((false, eval e X.env) :: backTo pos (starEach es X.env))) _ _ s
  refine Calls.spliced_cons (thn (ha pins s σ H _ I h) fun u s1 ⟨x, H1, I1, r1, q1⟩ => ?_)
  exact thn (hr pos pins s1 σ H1 _ I1 q1) fun us s2 ⟨xs, H2, I2, r2, q2⟩ => ⟨x :: xs, H2, I2, .cons r1 r2, q2⟩
def tTup (t : TA) : TE := fun σ H Q => t σ H fun xs H1 => xs.length ≤ sizeLine ∧ ∀ p, H1 p = none → Q (.ref p) (upd H1 p (.tup xs))
def tLst (t : TA) : TE := fun σ H Q => t σ H fun xs H1 => xs.length ≤ sizeLine ∧ ∀ p, H1 p = none → Q (.ref p) (upd H1 p (.lst xs))
theorem pe_tup {x1} (h : PA X es t) : PE X (.Tuple es x1 pos) (tTup t) := by
  intro pins s σ H Q I hq
  refine wpAny_Tuple_spliced (thn (h pos pins s σ H _ I hq) fun us s1 ⟨xs, H1, I1, r, z, q⟩ => ⟨by rw [← r.length]; exact z, ?_⟩)
  have hf : H1 s1.heap.objs.size = none := I1.hok.fresh (Nat.le_refl _)
  refine ⟨.ref s1.heap.objs.size, upd H1 s1.heap.objs.size (.tup xs), I1.laid (t' := s1.toks) (fun b u e => Heap.get?_push_of_some _ e) (Nat.le_refl _) ?_, rfl, q _ hf⟩
  exact ⟨z, us, r, ⟨_, Heap.get?_push_size _ rfl, rfl, _, rfl⟩⟩
theorem pe_lst (h : PA X es t) : PE X (.List es pos) (tLst t) := by
  intro pins s σ H Q I hq
  refine wpAny_List_spliced (thn (h pos pins s σ H _ I hq) fun us s1 ⟨xs, H1, I1, r, z, q⟩ => ⟨by rw [← r.length]; exact z, ?_⟩)
  have hf : H1 s1.heap.objs.size = none := I1.hok.fresh (Nat.le_refl _)
  refine ⟨.ref s1.heap.objs.size, upd H1 s1.heap.objs.size (.lst xs), I1.laid (t' := s1.toks) (fun b u e => Heap.get?_push_of_some _ e) (Nat.le_refl _) ?_, rfl, q _ hf⟩
  exact ⟨z, us, 0, r, Heap.get?_push_size _ rfl⟩
end
abbrev Sp := List V → Hp → VK → XK → Prop
abbrev CXT := List Env → Hp → Shared → XK → Value → Shared → Prop
set_option genInjectivity false in
set_option genSizeOf false in
structure Env0 (P : Program) (w : World) (K : PySem.W.Frag) (mg : Str → Option Value) (base : Heap) (A : Around) (outer : List Env) (s : Shared) (H : Hp) : Prop where
  frames : A.frames = some outer
  mod : Mod K mg base
  bs : ∀ b o, base.get? b = some o → s.heap.get? b = some o ∧ H b = none
  bsz : base.objs.size ≤ s.heap.objs.size
  funs : s.heap.FunFrames base outer
  frf : ∀ b ∈ frs outer, H b = none
  hok : HOk P w H s.heap
  bare : AllBare s.gens
def CE (outer : List Env) (P : Program) (w : World) (H : Hp) (s : Shared) (Q : VK) (u : Value) (s' : Shared) : Prop :=
  ∃ v H', s'.os = s.os ∧ AllBare s'.gens ∧ Un (frs outer) [] H H' s.heap s'.heap ∧ HOk P w H' s'.heap ∧ RelV v u ∧ Q v H'
def CR (CX : CXT) (outer : List Env) (P : Program) (w : World) (H : Hp) (s : Shared) (Q : VK) (E : XK) (r : Result) (s' : Shared) : Prop :=
  match r with
  | .ok (.ret u) => CE outer P w H s Q u s'
  | .ok _ => False
  | .error e => CX outer H s E e s'
set_option genInjectivity false in
set_option genSizeOf false in
structure FnOk (P : Program) (w : World) (K : PySem.W.Frag) (mg : Str → Option Value) (base : Heap) (CX : CXT) (k : Nat) (f : Addr) (fd : FuncData) (ps : List Str) (sp : Sp) : Prop where
  len : ∀ vs H Q E, sp vs H Q E → vs.length = ps.length
  run : ∀ (A : Around) (outer : List Env) (s : Shared) (H : Hp) (args : Args) (us : List Value) (vs : List V) (Q : VK) (E : XK), Room k A → Env0 P w K mg base A outer s H → BindsTo s fd args (ps.zip us) → Vals vs us → sp vs H Q E →
    codeAny (model P w) A (.call (.ref f) args) (CR CX outer P w H s Q E) s
theorem FnOk.mono {P : Program} {w : World} {K : PySem.W.Frag} {mg : Str → Option Value} {base : Heap} {CX : CXT} {j k : Nat} {f : Addr} {fd : FuncData} {ps : List Str} {sp : Sp} (F : FnOk P w K mg base CX j f fd ps sp) (h : j ≤ k) :
    FnOk P w K mg base CX k f fd ps sp := ⟨F.len, fun A outer s H args us vs Q E hr => F.run A outer s H args us vs Q E (hr.mono h)⟩
theorem FnOk.imp {P : Program} {w : World} {K : PySem.W.Frag} {mg : Str → Option Value} {base : Heap} {CX : CXT} {k : Nat} {f : Addr} {fd : FuncData} {ps : List Str} {sp sp' : Sp} (F : FnOk P w K mg base CX k f fd ps sp)
    (h : ∀ vs H Q E, sp' vs H Q E → sp vs H Q E) : FnOk P w K mg base CX k f fd ps sp' :=
  ⟨fun vs H Q E q => F.len vs H Q E (h _ _ _ _ q), fun A outer s H args us vs Q E hr he hb hv hs => F.run A outer s H args us vs Q E hr he hb hv (h _ _ _ _ hs)⟩
theorem Env0.make {P : Program} {w : World} {K : PySem.W.Frag} {mg : Str → Option Value} {base : Heap} {A : Around} {outer : List Env} {s : Shared} {H : Hp} (e : Env0 P w K mg base A outer s H) (C : Addr) (us : List Value) (kw : List (Str × Value)) :
    Env0 P w K mg base (A.under (.builtin "type.__call__" ⟨.ref C :: us, kw⟩)) outer s H := ⟨by first | exact e.frames | (simpa [Around.under, Code.envs, Code.isFrame, pushEnvs] using e.frames), e.mod, e.bs, e.bsz, e.funs, e.frf, e.hok, e.bare⟩
section
variable {X : Cx} {pins : List (Addr × Obj)} {σ : St} {H : Hp} {s s' : Shared}
theorem Inv.env0 (I : Inv X pins σ H s) : Env0 X.prog X.w X.K X.mg X.base X.A X.stack s H :=
  ⟨I.ok.frames, I.ok.mod, I.bs, Nat.le_trans I.ok.bsz I.sz, I.stack, I.stkFree, I.hok, I.bare⟩
theorem Inv.after {Q : VK} {u : Value} (I : Inv X pins σ H s) (h : CE X.stack X.prog X.w H s Q u s') : EP X pins σ Q u s' := by
  obtain ⟨v, H', os, bare, un, hok, r, q⟩ := h
  obtain ⟨hh, g, d, t, os'⟩ := s'
  obtain rfl : os' = s.os := os
  exact ⟨v, H', I.call (h' := hh) (g' := g) (d' := d) (t' := t) (ch := []) un hok bare (fun b z => absurd z (by simp)), r, q⟩
end
def tCall (sp : Sp) (dvs : List V) (E : XK) (t : TA) : TE := fun σ H Q => t σ H fun vs H1 => sp (vs ++ dvs) H1 Q E
def tMeth (C : Addr) (m : Str) (sp : Sp) (dvs : List V) (E : XK) (ta : TE) (t : TA) : TE := fun σ H Q => ta σ H fun x H1 => ∃ a dx fs, x = .ref a ∧ H1 a = some (.ins C dx fs) ∧ fs.lookup m = none ∧
  t σ H1 fun vs H2 => sp (x :: (vs ++ dvs)) H2 Q E
def tMake (C : Addr) (sp : Sp) (dvs : List V) (E : XK) (t : TA) : TE := fun σ H Q => t σ H fun vs H1 => ∀ x dx, H1 x = none → H1 dx = none → dx ≠ x →
  sp (.ref x :: (vs ++ dvs)) (upd (upd H1 dx (.own x)) x (.ins C dx [])) (fun v H2 => v = .non ∧ Q (.ref x) H2) E
def Binds (K : PySem.W.Frag) (fd : FuncData) (ps : List Str) (ds : List Value) : Prop :=
  ∀ (s : Shared) (us : List Value), K.In s.heap → (us ++ ds).length = ps.length → BindsTo s fd ⟨us, []⟩ (ps.zip (us ++ ds))
theorem Binds.all {K : PySem.W.Frag} {fd : FuncData} {ps : List Str} (h : ∀ us : List Value, us.length = ps.length → bindArgs fd ⟨us, []⟩ = pure (ps.zip us)) : Binds K fd ps [] := fun s us _ hl => by
  rw [List.append_nil] at hl ⊢
  exact .of_eq (h us hl)
def Passes (CX : CXT) (X : Cx) (E : XK) : Prop := ∀ (pins : List (Addr × Obj)) (σ : St) (H : Hp) (s : Shared) (e : Value) (s' : Shared), Inv X pins σ H s → CX X.stack H s E e s' → X.xe e s'
section
variable {X : Cx} {CX : CXT} {k : Nat} {f C : Addr} {fd : FuncData} {ps : List Str} {sp : Sp} {dvs : List V} {ds : List Value} {E : XK} {x m : Str} {p pos apos : Pos} {e o : Expr} {es : List Expr} {ta : TE} {t : TA}
theorem run_fn {pins : List (Addr × Obj)} {σ : St} {H : Hp} {s : Shared} {Q : VK} {us : List Value} {vs : List V} (F : FnOk X.prog X.w X.K X.mg X.base CX k f fd ps sp) (hr : Room k X.A) (hb : Binds X.K fd ps ds) (hd : Vals dvs ds) (hx : Passes CX X E)
    (I : Inv X pins σ H s) (r : Vals vs us) (h : sp (vs ++ dvs) H Q E) : wpAny (model X.prog X.w) X.A (call (.ref f) us) (EP X pins σ Q) X.xe s := by
  have r2 : Vals (vs ++ dvs) (us ++ ds) := r.append hd
  have hl : (us ++ ds).length = ps.length := by rw [← r2.length]; exact F.len _ _ _ _ h
  refine wpAny_call (codeAny_mono (F.run X.A X.stack s H ⟨us, []⟩ (us ++ ds) (vs ++ dvs) Q E hr I.env0 (hb s us I.kIn hl) r2 h) fun r s' hq => ?_)
  cases r with
  | error e => exact hx pins σ H s e s' I hq
  | ok fl =>
    cases fl with
    | ret u => exact I.after hq
    | next => exact False.elim hq
    | brk => exact False.elim hq
    | cont => exact False.elim hq
theorem pe_call (F : FnOk X.prog X.w X.K X.mg X.base CX k f fd ps sp) (hr : Room k X.A) (hg : Gl X x) (hm : X.mg x = some (.ref f)) (hk : PySem.W.keepIn X.K (.ref f) = true) (hb : Binds X.K fd ps ds) (hd : Vals dvs ds) (hx : Passes CX X E)
    (ha : PA X (e :: es) t) (hdb : (x == ("__debug__" : Str)) = false := by decide) (he : starEach (e :: es) X.env = (false, eval e X.env) :: starEach es X.env := by rfl) (hpl : (backTo pos (starEach es X.env)).any (·.1) = false := by rfl) :
    PE X (.Call (.Name x p) (e :: es) [] pos) (tCall sp dvs E t) := by
  intro pins s σ H Q I h
  refine wpAny_Call_Name_kw (ld_glob I hg hm ?_ hdb)
  refine PySem.W.callWith_K (h₀ := X.base) I.ok.mod.kin hk (thn (ha pos pins s σ H _ I h) fun us s1 ⟨vs, H1, I1, r, q⟩ => ⟨I1.kIn, ?_⟩) he hpl
  exact run_fn F hr hb hd hx I1 r q
theorem pe_meth {pl : Sem Bool} (he : PE X o ta) (c : Cls X.K C) (hm : Meth X.K C m f) (F : FnOk X.prog X.w X.K X.mg X.base CX k f fd ps sp) (hr : Room k X.A) (hb : Binds X.K fd ps ds) (hd : Vals dvs ds) (hx : Passes CX X E) (ha : PA X (e :: es) t)
    (hst : starEach (e :: es) X.env = (false, eval e X.env) :: starEach es X.env := by rfl) (hpl : (backTo pos (starEach es X.env)).any (·.1) = false := by rfl)
    (ht : eval (.Call (.Attribute o m apos) (e :: es) [] pos) X.env = (do
      let ov ← eval o X.env
      standAt apos.atName
      let (f, first) ← holding [ov] (getMethod ov m pl)
      callWith pos f first (backTo pos (starEach (e :: es) X.env)) (backToKw pos (keywordEach [] X.env))) := by rfl) :
    PE X (.Call (.Attribute o m apos) (e :: es) [] pos) (tMeth C m sp dvs E ta t) := by
  intro pins s σ H Q I h
  refine PySem.W.methodCall_KW (pl := pl) (thn (he pins s σ H _ I h) fun u s1 ⟨x, H1, I1, rx, a, dx, fs, ex, ea, l, q⟩ => ?_) ht
  subst ex
  obtain rfl : u = Value.ref a := rx
  refine getmeth_ok I1 ea c hm l ?_
  refine PySem.W.callWith_K (first := [.ref a]) (h₀ := X.base) I.ok.mod.kin hm.kp (thn (ha pos pins s1 σ H1 _ I1 q) fun us s2 ⟨vs, H2, I2, r, q2⟩ => ⟨I2.kIn, ?_⟩) hst hpl
  exact run_fn (us := .ref a :: us) (vs := .ref a :: vs) F hr hb hd hx I2 (.cons rfl r) q2
theorem pe_meth0 {pl : Sem Bool} (he : PE X o ta) (c : Cls X.K C) (hm : Meth X.K C m f) (F : FnOk X.prog X.w X.K X.mg X.base CX k f fd ps sp) (hr : Room k X.A) (hb : Binds X.K fd ps ds) (hd : Vals dvs ds) (hx : Passes CX X E)
    (ht : eval (.Call (.Attribute o m apos) [] [] pos) X.env = (do
      let ov ← eval o X.env
      standAt apos.atName
      let (f, first) ← holding [ov] (getMethod ov m pl)
      callWith pos f first (backTo pos (starEach [] X.env)) (backToKw pos (keywordEach [] X.env))) := by rfl) :
    PE X (.Call (.Attribute o m apos) [] [] pos) (tMeth C m sp dvs E ta tNil) := by
  intro pins s σ H Q I h
  refine PySem.W.methodCall_KW (pl := pl) (thn (he pins s σ H _ I h) fun u s1 ⟨x, H1, I1, rx, a, dx, fs, ex, ea, l, q⟩ => ?_) ht
  subst ex
  obtain rfl : u = Value.ref a := rx
  refine getmeth_ok I1 ea c hm l ?_
  exact PySem.W.callWith_K0 (first := [.ref a]) I1.kIn hm.kp (run_fn (us := [.ref a]) (vs := [.ref a]) F hr hb hd hx I1 (.cons rfl .nil) q)
set_option genInjectivity false in
set_option genSizeOf false in
structure Mk (K : PySem.W.Frag) (C f : Addr) : Prop where
  makes : PySem.W.makesIn K C = true
  init : PySem.W.findIn K (.ref C) "__init__" = some (some (.ref f))
  fn : PySem.W.isFn K (.ref f) = true
  kp : PySem.W.keepIn K (.ref C) = true
theorem run_make {pins : List (Addr × Obj)} {σ : St} {H : Hp} {s : Shared} {Q : VK} {us : List Value} {vs : List V} (M : Mk X.K C f) (F : FnOk X.prog X.w X.K X.mg X.base CX k f fd ps sp) (hr : Room (k + 1) X.A) (hb : Binds X.K fd ps ds) (hd : Vals dvs ds)
    (hx : Passes CX X E) (I : Inv X pins σ H s) (r : Vals vs us)
    (h : ∀ x dx, H x = none → H dx = none → dx ≠ x → sp (.ref x :: (vs ++ dvs)) (upd (upd H dx (.own x)) x (.ins C dx [])) (fun v H2 => v = .non ∧ Q (.ref x) H2) E) :
    wpAny (model X.prog X.w) X.A (call (.ref C) us) (EP X pins σ Q) X.xe s := by
  have hq := h (s.heap.objs.size + 1) s.heap.objs.size (I.hok.fresh (Nat.le_succ _)) (I.hok.fresh (Nat.le_refl _)) (Nat.ne_of_lt (Nat.lt_succ_self _))
  have I2 := Inv.made (C := C) I
  have r2 : Vals (V.ref (s.heap.objs.size + 1) :: (vs ++ dvs)) (Value.ref (s.heap.objs.size + 1) :: (us ++ ds)) := .cons rfl (r.append hd)
  have hl : (Value.ref (s.heap.objs.size + 1) :: us ++ ds).length = ps.length := by
    have e := r2.length
    rw [F.len _ _ _ _ hq] at e
    exact e.symm
  refine wpAny_call (make_map (f := f) I.kIn M.makes M.init (beq_iff_eq.mp M.fn) (codeAny_mono (F.run _ X.stack _ _ ⟨Value.ref (s.heap.objs.size + 1) :: us, []⟩ (Value.ref (s.heap.objs.size + 1) :: (us ++ ds)) _ _ E (hr.make C us [])
    (I2.env0.make C us []) (hb _ (Value.ref (s.heap.objs.size + 1) :: us) I2.kIn hl) r2 hq) fun r s' hq' => ?_))
  cases r with
  | error e => exact hx pins σ _ _ e s' I2 hq'
  | ok fl =>
    cases fl with
    | ret u =>
      obtain ⟨v, H', I3, rv, ev, q3⟩ := I2.after hq'
      subst ev
      exact ⟨rv, ⟨V.ref (s.heap.objs.size + 1), H', I3, rfl, q3⟩⟩
    | next => exact False.elim hq'
    | brk => exact False.elim hq'
    | cont => exact False.elim hq'
theorem pe_make (M : Mk X.K C f) (F : FnOk X.prog X.w X.K X.mg X.base CX k f fd ps sp) (hr : Room (k + 1) X.A) (hg : Gl X x) (hm : X.mg x = some (.ref C)) (hb : Binds X.K fd ps ds) (hd : Vals dvs ds) (hx : Passes CX X E)
    (ha : PA X (e :: es) t) (hdb : (x == ("__debug__" : Str)) = false := by decide) (he : starEach (e :: es) X.env = (false, eval e X.env) :: starEach es X.env := by rfl) (hpl : (backTo pos (starEach es X.env)).any (·.1) = false := by rfl) :
    PE X (.Call (.Name x p) (e :: es) [] pos) (tMake C sp dvs E t) := by
  intro pins s σ H Q I h
  refine wpAny_Call_Name_kw (ld_glob I hg hm ?_ hdb)
  refine PySem.W.callWith_K (h₀ := X.base) I.ok.mod.kin M.kp (thn (ha pos pins s σ H _ I h) fun us s1 ⟨vs, H1, I1, r, q⟩ => ⟨I1.kIn, ?_⟩) he hpl
  exact run_make M F hr hb hd hx I1 r q
end
section
variable {X : Cx} {CX : CXT} {k : Nat} {f C : Addr} {fd : FuncData} {ps ks : List Str} {sp : Sp} {E : XK} {x m : Str} {p pos apos kpos : Pos} {e o : Expr} {es : List Expr} {kws : List Keyword} {te ta : TE} {t tk : TA} {nm : Option Str}
variable {g : List Value → List Value → List Value} {gV : List V → List V → List V}
end
set_option genInjectivity false in
set_option genSizeOf false in
structure FnScope (N P : List Str) (sc : Scope) : Prop where
  kind : sc.kind = .function
  co : sc.isCoroutine = false
  gen : sc.isGenerator = false
  nd : N.Nodup
  pre : N.take P.length = P
  par : ∀ x ∈ P, sc.names.lookup x = some .local ∨ sc.names.lookup x = some .cell
  nofree : ∀ y ∈ sc.names, y.2 ≠ .free
theorem bindL_out {kindOf : Str → Option NameKind} {x : Str} : ∀ {binds : List (Str × Value)} {m : Str → Option Value}, (∀ v, (x, v) ∉ binds) → bindL kindOf binds m x = m x
  | [], _, _ => rfl
  | (n, v) :: r, m, h => by
    unfold bindL
    rw [bindL_out fun w hw => h w (List.mem_cons_of_mem _ hw)]
    split
    · have : x ≠ n := by rintro rfl; exact h v List.mem_cons_self
      simp [this]
    · rfl
theorem bindC_out {kindOf : Str → Option NameKind} {x : Str} : ∀ {binds : List (Str × Value)} {m : Str → Option Value}, (∀ v, (x, v) ∉ binds) → bindC kindOf binds m x = m x
  | [], _, _ => rfl
  | (n, v) :: r, m, h => by
    unfold bindC
    rw [bindC_out fun w hw => h w (List.mem_cons_of_mem _ hw)]
    split
    · rfl
    · have : x ≠ n := by rintro rfl; exact h v List.mem_cons_self
      simp [this]
theorem bindL_get {kindOf : Str → Option NameKind} {x : Str} {v : Value} : ∀ {P : List Str} {vs : List Value} {i : Nat} {m : Str → Option Value}, P.Nodup → P[i]? = some x → vs[i]? = some v → kindOf x = some .local →
    bindL kindOf (P.zip vs) m x = some v
  | [], _, _, _, _, h, _, _ => by simp at h
  | _ :: _, [], _, _, _, _, h, _ => by simp at h
  | p :: P, w :: vs, 0, m, nd, h1, h2, hk => by
    simp at h1 h2; subst h1; subst h2
    show bindL kindOf ((p, w) :: P.zip vs) m p = _
    unfold bindL
    rw [bindL_out fun v hv => (List.nodup_cons.mp nd).1 (List.of_mem_zip hv).1, if_pos hk]
    simp
  | p :: P, w :: vs, i + 1, m, nd, h1, h2, hk => by
    show bindL kindOf ((p, w) :: P.zip vs) m x = _
    unfold bindL
    exact bindL_get (i := i) (List.nodup_cons.mp nd).2 (by simpa using h1) (by simpa using h2) hk
theorem bindC_get {kindOf : Str → Option NameKind} {x : Str} {v : Value} : ∀ {P : List Str} {vs : List Value} {i : Nat} {m : Str → Option Value}, P.Nodup → P[i]? = some x → vs[i]? = some v → kindOf x ≠ some .local →
    bindC kindOf (P.zip vs) m x = some v
  | [], _, _, _, _, h, _, _ => by simp at h
  | _ :: _, [], _, _, _, _, h, _ => by simp at h
  | p :: P, w :: vs, 0, m, nd, h1, h2, hk => by
    simp at h1 h2; subst h1; subst h2
    show bindC kindOf ((p, w) :: P.zip vs) m p = _
    unfold bindC
    rw [bindC_out fun v hv => (List.nodup_cons.mp nd).1 (List.of_mem_zip hv).1, if_neg hk]
    simp
  | p :: P, w :: vs, i + 1, m, nd, h1, h2, hk => by
    show bindC kindOf ((p, w) :: P.zip vs) m x = _
    unfold bindC
    exact bindC_get (i := i) (List.nodup_cons.mp nd).2 (by simpa using h1) (by simpa using h2) hk
def start (N : List Str) (vs : List V) : St := vs.map some ++ List.replicate (N.length - vs.length) none
def cxOf (CX : CXT) (P : Program) (w : World) (K : PySem.W.Frag) (mg : Str → Option Value) (base : Heap) (N : List Str) (qual : Str) (scope : Scope) (f : Addr) (cd : Value) (A : Around) (outer : List Env) (s : Shared) (H : Hp) (E : XK) : Cx where
  prog := P
  w := w
  K := K
  mg := mg
  base := base
  A := A.deeper (envOfC qual scope s.heap.objs.size f cd)
  N := N
  s₀ := s
  H₀ := H
  env := envOfC qual scope s.heap.objs.size f cd
  outer := outer
  stack := envOfC qual scope s.heap.objs.size f cd :: outer
  ex := []
  calm := true
  fn := fun _ => true
  pn := []
  xe := fun e s' => wpAny (model P w) (A.deeper (envOfC qual scope s.heap.objs.size f cd)) (leaving (envOfC qual scope s.heap.objs.size f cd) e) (fun _ s'' => CX outer H s E e s'') (fun e' s'' => CX outer H s E e' s'') s'
theorem cell_has {sc : Scope} {n : Nat} {x : Str} (h : sc.names.lookup x = some .cell) : ∃ c, (cellsFrom n sc.names []).lookup x = some c := by
  have q := PySem.W.cellsFrom_some sc.names n [] (.inl h)
  exact Option.isSome_iff_exists.mp q
theorem inv_start {CX : CXT} {P : Program} {w : World} {K : PySem.W.Frag} {mg : Str → Option Value} {base : Heap} {N ps : List Str} {qual : Str} {scope : Scope} {f : Addr} {cd : Value} {A : Around} {outer : List Env} {s s1 : Shared} {H : Hp} {E : XK} {us : List Value} {vs : List V}
    (S : FnScope N ps scope) (hd : A.handled = none) (e0 : Env0 P w K mg base A outer s H) (hl : vs.length = ps.length) (r : Vals vs us)
    (x : InCallC s s.heap.objs.size (bindL (envOfC qual scope s.heap.objs.size f cd).kindOf (ps.zip us) fun _ => none) (cellsFrom (s.heap.objs.size + 1) scope.names []) (bindC (envOfC qual scope s.heap.objs.size f cd).kindOf (ps.zip us) fun _ => none) s1) :
    Inv (cxOf CX P w K mg base N qual scope f cd A outer s H E) [] (start N vs) H s1 := by
  have hpl : ps.length ≤ N.length := by have := congrArg List.length S.pre; rw [List.length_take] at this; omega
  obtain ⟨h1, tk, rfl, hk⟩ := x.done
  have noA : ∀ b : Addr, b ∉ (cxOf CX P w K mg base N qual scope f cd A outer s H E).ex := fun b z => absurd (show b ∈ ([] : List Addr) from z) (by simp)
  refine ⟨⟨e0.mod, S.kind, rfl, rfl, Nat.le_refl _, fun y z c h1 h2 => ?_, fun y hy => ?_, fun y c _ h => ?_, fun _ => hd, Around.frames_deeper e0.frames, .inr ⟨rfl, rfl⟩, fun b z => absurd z (noA b), e0.bs, e0.bsz, fun b _ _ => noA b, fun b z => absurd z (noA b), e0.funs, e0.frf⟩,
    rfl, e0.bare, Un.kept hk, ⟨_, x.toInCall.ns, fun i y v h1 h2 h3 => ?_⟩, fun y c h => ⟨_, x.cell y c h⟩, e0.hok.fresh (Nat.le_refl _), fun y c h => ?_, fun p hp => absurd (show p ∈ ([] : List (Addr × Obj)) from hp) (by simp), e0.hok.kept hk, ?_⟩
  · exact name_of_addr x.apart (PySem.mem_of_lookup h1) (PySem.mem_of_lookup h2)
  · have hy : scope.names.lookup y = some .cell ∨ scope.names.lookup y = some .free := hy
    rcases hy with hy | hy
    · exact cell_has hy
    · exact absurd rfl (S.nofree _ (PySem.mem_of_lookup hy))
  · exact Nat.le_of_lt (x.above y c (PySem.mem_of_lookup h))
  · have hi : i < vs.length := by
      unfold start at h2
      by_cases hi : i < vs.length
      · exact hi
      · rw [List.getElem?_append_right (by simpa using hi)] at h2
        rw [List.getElem?_replicate] at h2
        split at h2 <;> cases h2
    have ha : vs[i]? = some v := by
      unfold start at h2
      rw [List.getElem?_append_left (by simpa using hi), List.getElem?_map] at h2
      cases e : vs[i]? with
      | none => rw [e] at h2; cases h2
      | some a => rw [e] at h2; cases h2; rfl
    obtain ⟨u, hu, rv⟩ := r.get ha
    have hp : ps[i]? = some y := by
      rw [← S.pre, List.getElem?_take_of_lt (by omega)]; exact h1
    have ndP : ps.Nodup := by rw [← S.pre]; exact S.nd.sublist (List.take_sublist _ _)
    refine ⟨u, rv, ?_⟩
    rcases S.par y (List.mem_of_getElem? hp) with k | k
    · exact .inl ⟨k, bindL_get ndP hp hu k⟩
    · obtain ⟨c, e⟩ := cell_has (n := s.heap.objs.size + 1) k
      refine .inr ⟨.inl k, c, e, ?_⟩
      have q := x.cell y c e
      rw [bindC_get ndP hp hu (by show scope.names.lookup y ≠ _; rw [k]; decide)] at q
      exact q
  · exact e0.hok.fresh (Nat.le_of_lt (x.above y c (PySem.mem_of_lookup h)))
  · unfold start
    show _ = N.length
    rw [List.length_append, List.length_map, List.length_replicate]
    omega
theorem fn_of {CX : CXT} {P : Program} {w : World} {K : PySem.W.Frag} {mg : Str → Option Value} {base : Heap} {k : Nat} {f : Addr} {name qual : Str} {params : Arguments} {body : List Stmt} {scope : Scope} {dV kV doc pm cdv ct oc : Value} {an od : Option Addr}
    {osl : Array (Option Value)} {N ps : List Str} {sp : Sp} (lk : K.lookup f = some ⟨oc, od, .func (PySem.W.fnOf name qual params body scope dV kV doc pm an cdv ct), osl⟩) (hcd : PySem.W.codeIn K cdv qual = true) (S : FnScope N ps scope)
    (len : ∀ vs H Q E, sp vs H Q E → vs.length = ps.length)
    (hbody : ∀ (A : Around) (outer : List Env) (s : Shared) (H : Hp) (vs : List V) (Q : VK) (E : XK), Room k (A.deeper (envOfC qual scope s.heap.objs.size f cdv)) → sp vs H Q E →
      ∃ t, PSs (cxOf CX P w K mg base N qual scope f cdv A outer s H E) body t ∧ t { nx := fun _ H' => Q .non H', rt := Q } (start N vs) H) :
    FnOk P w K mg base CX (k + 1) f (PySem.W.fnOf name qual params body scope dV kV doc pm an cdv ct) ps sp := by
  refine ⟨len, fun A outer s H args us vs Q E hr e0 hb r hsp => ?_⟩
  have hl := len _ _ _ _ hsp
  have KX : K.In s.heap := e0.mod.kin.keeps fun b o e => (e0.bs b o e).1
  have lim : s.heap.NoLimit := e0.mod.nolimit.keeps fun b o e => (e0.bs b o e).1
  have hkind : ∀ y ∈ ps.zip us, scope.names.lookup y.1 = some .local ∨ (scope.names.lookup y.1 = some .cell ∧ ((cellsFrom (s.heap.objs.size + 1) scope.names []).lookup y.1).isSome = true) := fun ⟨n, v⟩ hy => by
    rcases S.par n (List.of_mem_zip hy).1 with q | q
    · exact .inl q
    · exact .inr ⟨q, PySem.W.cellsFrom_some _ _ _ (.inl q)⟩
  refine codeAny_call_function hr.depth (KX _ _ lk) rfl S.co S.gen rfl (PySem.W.codeRec_of KX hcd) (hb _ _ _ _ ?_)
  refine wpAny_newFunctionEnv_cells S.kind hkind fun env he s1 x => ?_
  subst he
  refine ⟨lim.keeps x.toInCall.keep, codeAny_func ?_⟩
  obtain ⟨t, ht, hq⟩ := hbody A outer s H vs Q E (hr.deeper _) hsp
  have I : Inv (cxOf CX P w K mg base N qual scope f cdv A outer s H E) [] (start N vs) H s1 := inv_start S hr.hd e0 hl r x
  refine wpAny_mono (ht [] s1 (start N vs) H _ I hq) (fun fl s' hs => ?_) fun e s' hs => hs
  have fin : ∀ {σ' : St} {H' : Hp} {v : V} {u : Value}, Inv (cxOf CX P w K mg base N qual scope f cdv A outer s H E) [] σ' H' s' → RelV v u → Q v H' → CE outer P w H s Q u s' :=
    fun {σ' H' v u} J rv q => ⟨v, H', J.os, J.bare, J.base, J.hok, rv, q⟩
  cases fl with
  | ret u =>
    obtain ⟨v, σ', H', J, rv, q⟩ := hs
    exact fin J rv q
  | next =>
    obtain ⟨σ', H', J, q⟩ := hs
    exact fin (v := V.non) (u := Value.none) J rfl q
  | brk =>
    obtain ⟨_, _, _, q⟩ := hs
    exact False.elim q
  | cont =>
    obtain ⟨_, _, _, q⟩ := hs
    exact False.elim q
end L2
namespace L2
open PySem PySem.Spec PyProof.Rows
section
variable {X : Cx} {x : Str} {p pos : Pos} {e : Expr} {es : List Expr} {t : TA} {id T : String} {r : List V → Hp → VK → Prop}
def tCB (r : List V → Hp → VK → Prop) (t : TA) : TE := fun σ H Q => t σ H fun vs H1 => r vs H1 Q
theorem pe_callB (hc : CallR X (.builtin id) r) (hg : Gl X x) (hm : X.mg x = none) (hv : bootBuiltins x = some (.builtin id)) (ha : PA X (e :: es) t) (hn : x ≠ "__name__" := by decide) (hdb : (x == ("__debug__" : Str)) = false := by decide)
    (he : starEach (e :: es) X.env = (false, eval e X.env) :: starEach es X.env := by rfl) (hpl : (backTo pos (starEach es X.env)).any (·.1) = false := by rfl) : PE X (.Call (.Name x p) (e :: es) [] pos) (tCB r t) := by
  intro pins s σ H Q I h
  refine wpAny_Call_Name_kw (ld_blt I hg hm hv ?_ hn hdb)
  exact PyProof.Rows.callWith_builtin1 (thn (ha pos pins s σ H _ I h) fun us s1 ⟨vs, H1, I1, r1, q1⟩ => hc pins s1 σ H1 vs us Q I1 r1 q1) he hpl
theorem pe_callTy (hc : CallR X (.type T) r) (hg : Gl X x) (hm : X.mg x = none) (hv : bootBuiltins x = some (.type T)) (ha : PA X (e :: es) t) (hn : x ≠ "__name__" := by decide) (hdb : (x == ("__debug__" : Str)) = false := by decide)
    (he : starEach (e :: es) X.env = (false, eval e X.env) :: starEach es X.env := by rfl) (hpl : (backTo pos (starEach es X.env)).any (·.1) = false := by rfl) : PE X (.Call (.Name x p) (e :: es) [] pos) (tCB r t) := by
  intro pins s σ H Q I h
  refine wpAny_Call_Name_kw (ld_blt I hg hm hv ?_ hn hdb)
  exact PyProof.Rows.callWith_type1 (thn (ha pos pins s σ H _ I h) fun us s1 ⟨vs, H1, I1, r1, q1⟩ => hc pins s1 σ H1 vs us Q I1 r1 q1) he hpl
end
end L2
namespace HT
open PySem PyProof.Rows
section
open PySem.SeqAt
open PySem.AutoSeq1 (wpAny_loadPart')
open PySem.MeetsSeq PySem.MeetsSeq2 PySem.MeetsSeq3
end
section
variable {prog : Program} {w : World} {A : Around} {E : Value → Shared → Prop} {s : Shared}
theorem cat_tup {t b : Addr} {vs ws : List Value} {Q : Value → Shared → Prop} (ht : IsTup s.heap t vs.toArray) (hb : IsTup s.heap b ws.toArray) (hv : vs ≠ [])
    (h1 : ws = [] → Q (.ref t) s) (h2 : ws ≠ [] → Q (.ref s.heap.objs.size) { s with heap := s.heap.push { cls := .type "tuple", data := .seq (vs ++ ws).toArray } })
    (hsz : vs.length + ws.length ≤ sizeLine) : wpAny (model prog w) A (binaryOp .Add (.ref t) (.ref b)) Q E s := by
  obtain ⟨⟨cls, dd, data, sl⟩, ho, hc, n, hd⟩ := id ht
  obtain ⟨⟨cls2, dd2, data2, sl2⟩, ho2, hc2, n2, hd2⟩ := id hb
  simp only at hc hd hc2 hd2
  subst hc hd hc2 hd2
  have e : vs.toArray ++ ws.toArray = (vs ++ ws).toArray := by simp
  by_cases hw : ws = []
  · exact concat_meets ⟨_, ho, rfl⟩ ⟨_, ho2, rfl⟩ noFill_tuple_add seq_tuple_add PySem.F.slot_tuple_add PySem.F.entry_tuple_add (PySem.F.args_tuple_add_2 _ _)
      (tuple_addW1 t b vs.toArray ws.toArray n n2 dd dd2 sl sl2 (by simpa using hv) (by simp [hw])) ⟨ho, ho2, h1 hw⟩
  · refine concat_meets ⟨_, ho, rfl⟩ ⟨_, ho2, rfl⟩ noFill_tuple_add seq_tuple_add PySem.F.slot_tuple_add PySem.F.entry_tuple_add (PySem.F.args_tuple_add_2 _ _)
      (tuple_addW2 t b vs.toArray ws.toArray n n2 dd dd2 sl sl2 (by simpa using hv) (by simpa using hw) (by rw [List.size_toArray, List.size_toArray]; exact hsz)) ⟨ho, ho2, ?_⟩
    rw [e]
    exact h2 hw
def sIx (n d : Nat) : Option Int → Nat
  | none => d
  | some v => if v < 0 then (v + (n : Int)).toNat else min v.toNat n
theorem sIx_le (n d : Nat) (hd : d ≤ n) (o : Option Int) : sIx n d o ≤ n := by
  cases o with
  | none => exact hd
  | some v =>
    show (if v < 0 then (v + (n : Int)).toNat else min v.toNat n) ≤ n
    by_cases hv : v < 0
    · rw [if_pos hv]; omega
    · rw [if_neg hv]; exact Nat.min_le_right _ _
theorem clip_eq (v : Int) (n d : Nat) : (if v < 0 then max (v + (n : Int)) 0 else min v (n : Int)) = ((sIx n d (some v) : Nat) : Int) := by
  show (if v < 0 then max (v + (n : Int)) 0 else min v (n : Int)) = (((if v < 0 then (v + (n : Int)).toNat else min v.toNat n) : Nat) : Int)
  by_cases hv : v < 0
  · simp only [if_pos hv]; omega
  · simp only [if_neg hv]; omega
theorem adjust_gen (lo hi : Option Int) (n : Nat) : Builtin.Slice.sliceAdjust lo hi 1 (n : Int) = (((sIx n 0 lo : Nat) : Int), ((sIx n n hi : Nat) : Int)) := by
  have h1 : ¬ ((1 : Int) < 0) := by omega
  unfold Builtin.Slice.sliceAdjust
  simp only [h1, if_false]
  refine Prod.ext ?_ ?_
  · cases lo with
    | none => rfl
    | some v => exact clip_eq v n 0
  · cases hi with
    | none => rfl
    | some v => exact clip_eq v n n
theorem places_gen (i j : Nat) : Builtin.Slice.slicePlaces (i : Int) (j : Int) 1 = j - i := by
  unfold Builtin.Slice.slicePlaces
  have h1 : (1 : Int) > 0 := by omega
  simp only [h1, if_true, Int.ediv_one]
  split <;> omega
theorem slicePart_ {v : Value} {o : Option Int} {Q : Option Int → Shared → Prop} (p : IsPart v o) (h : Q o s) : wpAny (model prog w) A (Builtin.Slice.slicePartIndex v) Q E s := by
  cases p with
  | none => exact slicePart_none h
  | int i t => exact slicePart_int h
theorem sliceApplied_gen {sl : Addr} {vl vu : Value} {lo hi : Option Int} {n : Nat} {Q : Int × Int × Nat → Shared → Prop} (hs : s.heap.IsSliceOf sl vl vu .none) (pl : IsPart vl lo) (pu : IsPart vu hi)
    (h : Q (((sIx n 0 lo : Nat) : Int), 1, sIx n n hi - sIx n 0 lo) s) : wpAny (model prog w) A (Builtin.Slice.sliceApplied (.ref sl) (pure (n : Int))) Q E s := by
  obtain ⟨os, hos, hcs, hds⟩ := id hs
  unfold Builtin.Slice.sliceApplied Builtin.Slice.sliceFields
  refine wpAny_bind (wpAny_bind (wpAny_field hos hds (x := vl) rfl (wpAny_bind (wpAny_field hos hds (x := vu) rfl (wpAny_bind (wpAny_field hos hds (x := .none) rfl (wpAny_pure ?_)))))))
  refine wpAny_bind (slicePart_none ?_)
  show wpAny _ _ (if ((1 : Int) == 0) = true then _ else _) _ _ s
  rw [if_neg (by decide)]
  refine wpAny_bind (slicePart_ pl (wpAny_bind (slicePart_ pu (wpAny_bind (wpAny_pure ?_)))))
  show wpAny _ _ (match Builtin.Slice.sliceAdjust lo hi 1 (n : Int) with | (lo, hi) => pure (lo, (1 : Int), Builtin.Slice.slicePlaces lo hi 1)) _ _ s
  rw [adjust_gen lo hi n]
  show wpAny _ _ (pure (((sIx n 0 lo : Nat) : Int), (1 : Int), Builtin.Slice.slicePlaces ((sIx n 0 lo : Nat) : Int) ((sIx n n hi : Nat) : Int) 1)) _ _ s
  rw [places_gen]
  exact wpAny_pure h
theorem pick_gen (xs : Array Value) (i k : Nat) : ((List.range k).filterMap fun (m : Nat) => xs[((i : Int) + (m : Int) * 1).toNat]?).toArray = ((xs.toList.drop i).take k).toArray := by
  have e : (fun (m : Nat) => xs[((i : Int) + (m : Int) * 1).toNat]?) = fun m => xs[i + m]? := by
    funext m
    have : ((i : Int) + (m : Int) * 1).toNat = i + m := by omega
    rw [this]
  rw [e]
  have := pick_run xs i k
  rw [List.filterMap_map] at this
  have e2 : ((fun x => xs[x]?) ∘ fun x => i + x) = fun m => xs[i + m]? := rfl
  rw [e2] at this
  rw [this]
theorem getItem_tuple_cut {t sl : Addr} {items : Array Value} {vl vu : Value} {lo hi : Option Int} {Q : Value → Shared → Prop} (ht : IsTup s.heap t items) (hs : s.heap.IsSliceOf sl vl vu .none) (pl : IsPart vl lo) (pu : IsPart vu hi)
    (hw : ¬ (sIx items.size 0 lo = 0 ∧ sIx items.size items.size hi = items.size))
    (h : Q (.ref s.heap.objs.size) { s with heap := s.heap.push { cls := .type "tuple", data := .seq ((items.toList.drop (sIx items.size 0 lo)).take (sIx items.size items.size hi - sIx items.size 0 lo)).toArray } })
    (hsz : items.size ≤ sizeLine) : wpAny (model prog w) A (getItem (.ref t) (.ref sl)) Q E s := by
  have htake : sizeOk (.seq ((items.toList.drop (sIx items.size 0 lo)).take (sIx items.size items.size hi - sIx items.size 0 lo)).toArray) := by
    show ((items.toList.drop (sIx items.size 0 lo)).take (sIx items.size items.size hi - sIx items.size 0 lo)).toArray.size ≤ sizeLine
    rw [List.size_toArray, List.length_take, List.length_drop, Array.length_toList]
    omega
  have hj : sIx items.size items.size hi ≤ items.size := sIx_le _ _ (Nat.le_refl _) hi
  obtain ⟨os, hos, hcs, hds⟩ := id hs
  have hTs : s.TypeIs (.ref sl) "slice" := ⟨os, hos, hcs⟩
  unfold getItem
  try with_reducible refine wpAny_holding ?_
  first | refine wpAny_bind (wpAny_pure ?_) | skip
  refine wpAny_bind (wpAny_sequenceKey ht.typeIs (by decide) ?_)
  refine wpAny_bind (wpAny_callSpecial?_slot (name := Str.ofString "__getitem__") ht.typeIs PyProof.Rows.slot_tuple_getitem
    (wpAny_call_entry PyProof.Rows.slot_tuple_getitem ht.typeIs entry_tuple_getitem ?_ (args_tuple_getitem _ _)))
  show wpAny _ _ (Builtin.Tuple.tupleItemsOf (.ref t) >>= _) _ _ s
  refine wpAny_bind (tupleItemsOf_ ht ?_)
  refine wpAny_bind (wpAny_typeOf hTs ?_)
  rw [if_pos (by decide)]
  refine wpAny_bind (sliceApplied_gen hs pl pu ?_)
  have hno : ¬ ((((sIx items.size 0 lo : Nat) : Int) == 0 && (1 : Int) == 1 && (sIx items.size items.size hi - sIx items.size 0 lo) == items.size) = true) := by
    intro q
    rw [Bool.and_eq_true, Bool.and_eq_true] at q
    have q1 : ((sIx items.size 0 lo : Nat) : Int) = 0 := eq_of_beq q.1.1
    have q2 : sIx items.size items.size hi - sIx items.size 0 lo = items.size := eq_of_beq q.2
    exact hw ⟨by omega, by omega⟩
  show wpAny _ _ (if (((sIx items.size 0 lo : Nat) : Int) == 0 && (1 : Int) == 1 && (sIx items.size items.size hi - sIx items.size 0 lo) == items.size) = true then _ else _) _ _ s
  rw [if_neg hno, pick_gen]
  first
    | exact wpAny_bind (m := Builtin.Tuple.tupleExact _) (wpAny_newObj_type (wpAny_pure ⟨_, rfl, wpAny_pure h⟩) htake)
    | exact wpAny_bind (m := Builtin.Tuple.tupleExact _) (wpAny_newObj_type (wpAny_bind (wpAny_pure (wpAny_pure ⟨_, rfl, wpAny_pure h⟩))) htake)
    | exact wpAny_bind (wpAny_bind (m := Builtin.Tuple.tupleExact _) (wpAny_newObj_type (wpAny_pure (wpAny_pure ⟨_, rfl, wpAny_pure h⟩)) htake))
    | exact wpAny_bind (wpAny_bind (m := Builtin.Tuple.tupleExact _) (wpAny_newObj_type (wpAny_pure ⟨_, rfl, wpAny_pure h⟩) htake))
end
end HT
namespace L2
open PySem PySem.Spec PyProof.Rows
abbrev TO := St → Hp → (Option Int → Hp → Prop) → Prop
def PO (X : Cx) (e : Option Expr) (t : TO) : Prop :=
  ∀ (pins : List (Addr × Obj)) (s : Shared) (σ : St) (H : Hp) (Q : Option Int → Hp → Prop), Inv X pins σ H s → t σ H Q →
    wpAny (model X.prog X.w) X.A (evalPart e X.env) (fun u s' => ∃ o H', Inv X pins σ H' s' ∧ IsPart u o ∧ Q o H') X.xe s
def tNoPart : TO := fun _ H Q => Q none H
def tPart (t : TE) : TO := fun σ H Q => t σ H fun x H1 => ∃ i, x = .int i ∧ Q (some i) H1
section
variable {X : Cx} {e : Expr} {te : TE} {lo hi : Option Expr} {tl th : TO} {pos p2 : Pos}
theorem po_none : PO X none tNoPart := by
  intro pins s σ H Q I h
  rw [evalPart_none]
  exact wpAny_pure ⟨none, H, I, .none, h⟩
theorem po_some (h : PE X e te) : PO X (some e) (tPart te) := by
  intro pins s σ H Q I hw
  rw [evalPart_some]
  refine thn (h pins s σ H _ I hw) fun u s1 ⟨x, H1, I1, r1, q1⟩ => ?_
  obtain ⟨i, rfl, q⟩ := q1
  obtain ⟨t, rfl⟩ := r1
  exact ⟨some i, H1, I1, .int i t, q⟩
def SlR (X : Cx) (r : V → Option Int → Option Int → Hp → VK → Prop) : Prop :=
  ∀ (pins : List (Addr × Obj)) (s : Shared) (σ : St) (H : Hp) (x : V) (v vl vu : Value) (lo hi : Option Int) (sl : Addr) (Q : VK), Inv X pins σ H s → RelV x v → s.heap.IsSliceOf sl vl vu .none → IsPart vl lo → IsPart vu hi → r x lo hi H Q →
    ∃ T id, typeLookup (.type T) "__getitem__" = pure (some (.builtin id)) ∧ s.TypeIs v T ∧ wpAny (model X.prog X.w) X.A (getItem v (.ref sl)) (EP X pins σ Q) X.xe s
def tSl (r : V → Option Int → Option Int → Hp → VK → Prop) (te : TE) (tl th : TO) : TE := fun σ H Q => te σ H fun x H1 => tl σ H1 fun l H2 => th σ H2 fun u H3 => r x l u H3 Q
theorem pe_slice {r : V → Option Int → Option Int → Hp → VK → Prop} (hr : SlR X r) (he : PE X e te) (hl : PO X lo tl) (hu : PO X hi th) : PE X (.Subscript e (.Slice lo hi none p2) pos) (tSl r te tl th) := by
  intro pins s σ H Q I h
  refine Subscript_ (thn (he pins s σ H _ I h) fun v s1 ⟨x, H1, I1, r1, q1⟩ => ?_)
  refine wpAny_Slice (thn (hl pins s1 σ H1 _ I1 q1) fun vl s2 ⟨l, H2, I2, pl, q2⟩ => thn (hu pins s2 σ H2 _ I2 q2) fun vu s3 ⟨u, H3, I3, pu, q3⟩ => ?_)
  rw [evalPart_none]
  refine wpAny_pure ?_
  have I4 : Inv X pins σ H3 { s3 with heap := s3.heap.push { cls := .type "slice", data := .fields #[vl, vu, .none] } } := I3.kept (t' := s3.toks) fun b ob q => Heap.get?_push_of_some _ q
  obtain ⟨T, id, hT, ht, hg⟩ := hr pins { s3 with heap := s3.heap.push { cls := .type "slice", data := .fields #[vl, vu, .none] } } σ H3 x v vl vu l u s3.heap.objs.size Q I4 r1 (Heap.IsSliceOf.new ..) pl pu q3
  show wpAny (model X.prog X.w) X.A (subscriptTail e (.Slice lo hi none p2) v (.ref s3.heap.objs.size)) (EP X pins σ Q) X.xe { s3 with heap := s3.heap.push { cls := .type "slice", data := .fields #[vl, vu, .none] } }
  exact tail_any (ops := [.ref s3.heap.objs.size, v]) ht hT hg (by with_unfolding_all rfl)
def cutV (xs : List V) (lo hi : Option Int) : List V := (xs.drop (HT.sIx xs.length 0 lo)).take (HT.sIx xs.length xs.length hi - HT.sIx xs.length 0 lo)
theorem cutV_length (xs : List V) (lo hi : Option Int) : (cutV xs lo hi).length ≤ xs.length := by
  unfold cutV
  rw [List.length_take, List.length_drop]
  omega
def rSlT (K : PySem.W.Frag) : V → Option Int → Option Int → Hp → VK → Prop := fun x lo hi H Q => ∃ a xs, x = .ref a ∧ SqT K H a xs ∧
  ¬ (HT.sIx xs.length 0 lo = 0 ∧ HT.sIx xs.length xs.length hi = xs.length) ∧ ∀ p, H p = none → Q (.ref p) (upd H p (.tup (cutV xs lo hi)))
theorem sl_tup : SlR X (rSlT X.K) := by
  intro pins s σ H x v vl vu lo hi sl Q I rx hs pl pu h
  obtain ⟨a, xs, rfl, hx, hw, q⟩ := h
  cases rx
  obtain ⟨its, r, ht, hz⟩ := I.tuple hx
  have hlen : its.toArray.size = xs.length := by rw [List.size_toArray]; exact r.length.symm
  refine ⟨"tuple", _, PyProof.Rows.slot_tuple_getitem.lookup, ht.typeIs, ?_⟩
  refine HT.getItem_tuple_cut ht hs pl pu (by rw [hlen]; exact hw) ?_ (by rw [hlen]; exact hz)
  rw [hlen]
  refine ⟨.ref s.heap.objs.size, _, I.laid (t' := s.toks) (o := .tup (cutV xs lo hi)) (fun b ob q => Heap.get?_push_of_some _ q) (Nat.le_refl _) ?_, rfl, q _ (I.hok.fresh (Nat.le_refl _))⟩
  exact ⟨Nat.le_trans (cutV_length xs lo hi) hz, _, (r.drop (HT.sIx xs.length 0 lo)).take (HT.sIx xs.length xs.length hi - HT.sIx xs.length 0 lo), IsTup.new _ _⟩
def rCatT (K : PySem.W.Frag) : R2 := fun x y H Q => ∃ a b xs ys, x = .ref a ∧ y = .ref b ∧ SqT K H a xs ∧ SqT K H b ys ∧ xs ≠ [] ∧ xs.length + ys.length ≤ sizeLine ∧
  (ys = [] → Q (.ref a) H) ∧ (ys ≠ [] → ∀ p, H p = none → Q (.ref p) (upd H p (.tup (xs ++ ys))))
theorem Vals.nil_iff {xs : List V} {us : List Value} (r : Vals xs us) : us = [] ↔ xs = [] := by
  cases r with
  | nil => simp
  | cons _ _ => simp
theorem op_catT : OpR X (binaryOp .Add) (rCatT X.K) := by
  intro pins s σ H x y v u Q I rx ry h
  obtain ⟨a, b, xs, ys, rfl, rfl, ha, hb, hx, hz, q1, q2⟩ := h
  cases rx
  cases ry
  obtain ⟨its, r1, p1, _⟩ := I.tuple ha
  obtain ⟨its2, r2, p2, _⟩ := I.tuple hb
  refine HT.cat_tup p1 p2 (fun z => hx (r1.nil_iff.mp z)) (fun z => ⟨.ref a, H, I, rfl, q1 (r2.nil_iff.mp z)⟩) (fun z => ?_) (by rw [← r1.length, ← r2.length]; exact hz)
  refine ⟨.ref s.heap.objs.size, _, I.laid (t' := s.toks) (o := .tup (xs ++ ys)) (fun b ob q => Heap.get?_push_of_some _ q) (Nat.le_refl _) ?_, rfl, q2 (fun w => z (r2.nil_iff.mpr w)) _ (I.hok.fresh (Nat.le_refl _))⟩
  exact ⟨by rw [List.length_append]; exact hz, _, r1.append r2, IsTup.new _ _⟩
end
end L2
namespace L2
open PySem PySem.Spec PyProof.Rows
def ixN (n : Nat) (i : Int) : Option Nat := if 0 ≤ i then (if i < n then some i.toNat else none) else if -(n : Int) ≤ i then some (i + n).toNat else none
def atI {α : Type} (xs : List α) (i : Int) : Option α := (ixN xs.length i).bind fun j => xs[j]?
theorem ixN_seq {n : Nat} {i : Int} {j : Nat} (h : ixN n i = some j) : seqIndex? i n = some j ∧ j < n ∧ -(n : Int) ≤ i ∧ i < n := by
  unfold ixN at h
  by_cases h0 : 0 ≤ i
  · rw [if_pos h0] at h
    by_cases h1 : i < n
    · rw [if_pos h1] at h
      have e : i.toNat = j := Option.some.inj h
      exact ⟨by rw [seqIndex_of h0 h1, e], by omega, by omega, h1⟩
    · rw [if_neg h1] at h; cases h
  · rw [if_neg h0] at h
    by_cases h1 : -(n : Int) ≤ i
    · rw [if_pos h1] at h
      have e : (i + n).toNat = j := Option.some.inj h
      exact ⟨by rw [seqIndex_neg (by omega) h1, e], by omega, h1, by omega⟩
    · rw [if_neg h1] at h; cases h
theorem atI_get {α : Type} {xs : List α} {i : Int} {v : α} (h : atI xs i = some v) : ∃ j, seqIndex? i xs.length = some j ∧ xs[j]? = some v ∧ j < xs.length ∧ -(xs.length : Int) ≤ i ∧ i < xs.length := by
  unfold atI at h
  cases e : ixN xs.length i with
  | none => rw [e] at h; cases h
  | some j =>
    rw [e] at h
    obtain ⟨h1, h2, h3, h4⟩ := ixN_seq e
    exact ⟨j, h1, h, h2, h3, h4⟩
theorem atI_nat {α : Type} {xs : List α} {j : Nat} {v : α} (h : xs[j]? = some v) : atI xs (j : Int) = some v := by
  have hj : j < xs.length := (List.getElem?_eq_some_iff.mp h).1
  have e : ixN xs.length (j : Int) = some j := by
    unfold ixN
    rw [if_pos (by omega), if_pos (by omega)]; simp
  unfold atI; rw [e]; exact h
def PlainIx (b : Expr) : Prop := ∀ o i, subscripted b false o i = operate [o, i] (getItem o i)
def IxR (X : Cx) (r : R2) : Prop :=
  ∀ (value slice : Expr) (pins : List (Addr × Obj)) (s : Shared) (σ : St) (H : Hp) (x y : V) (v u : Value) (Q : VK), Inv X pins σ H s → RelV x v → RelV y u → r x y H Q →
    subscripted slice false v u = operate [v, u] (getItem v u) → wpAny (model X.prog X.w) X.A (subscriptTail value slice v u) (EP X pins σ Q) X.xe s
def MtR (X : Cx) (id : String) (r : V → List V → Hp → VK → Prop) : Prop :=
  ∀ (pins : List (Addr × Obj)) (s : Shared) (σ : St) (H : Hp) (x : V) (xs : List V) (v : Value) (us : List Value) (Q : VK), Inv X pins σ H s → RelV x v → Vals xs us → r x xs H Q →
    wpAny (model X.prog X.w) X.A (call (.builtin id) (v :: us)) (EP X pins σ Q) X.xe s
section
variable {X : Cx} {a b : Expr} {ta tb : TE} {pos : Pos}
theorem IxR.or {r r' : R2} (h : IxR X r) (h' : IxR X r') : IxR X (fun x y H Q => r x y H Q ∨ r' x y H Q) := by
  intro value slice pins s σ H x y v u Q I rx ry q hs
  rcases q with q | q
  · exact h value slice pins s σ H x y v u Q I rx ry q hs
  · exact h' value slice pins s σ H x y v u Q I rx ry q hs
theorem pe_ix {r : R2} (hr : IxR X r) (ha : PE X a ta) (hb : PE X b tb) (hs : PlainIx b) : PE X (.Subscript a b pos) (tOp r ta tb) := by
  intro pins s σ H Q I h
  exact Subscript_ (binT ha hb I h fun v u s2 x y H2 I2 rx ry q => hr a b pins s2 σ H2 x y v u Q I2 rx ry q (hs _ _))
def rIxL (K : PySem.W.Frag) : R2 := fun x y H Q => match x, y with
  | .ref p, .int i => ∃ xs, SqL K H p xs ∧ ∃ v, atI xs i = some v ∧ Q v H
  | _, _ => False
theorem rIxL_inv {K : PySem.W.Frag} {x y : V} {H : Hp} {Q : VK} (h : rIxL K x y H Q) : ∃ p xs i v, x = .ref p ∧ y = .int i ∧ SqL K H p xs ∧ atI xs i = some v ∧ Q v H := by
  unfold rIxL at h
  split at h
  · obtain ⟨xs, h1, v, h2, h3⟩ := h
    exact ⟨_, xs, _, v, rfl, rfl, h1, h2, h3⟩
  · exact h.elim
def rIxT (K : PySem.W.Frag) : R2 := fun x y H Q => match x, y with
  | .ref p, .int i => ∃ xs, SqT K H p xs ∧ ∃ v, atI xs i = some v ∧ Q v H
  | _, _ => False
theorem rIxT_inv {K : PySem.W.Frag} {x y : V} {H : Hp} {Q : VK} (h : rIxT K x y H Q) : ∃ p xs i v, x = .ref p ∧ y = .int i ∧ SqT K H p xs ∧ atI xs i = some v ∧ Q v H := by
  unfold rIxT at h
  split at h
  · obtain ⟨xs, h1, v, h2, h3⟩ := h
    exact ⟨_, xs, _, v, rfl, rfl, h1, h2, h3⟩
  · exact h.elim
def rIxS : R2 := fun x y H Q => ∃ z i c, x = .str z ∧ y = .int i ∧ z.length ≤ sizeLine ∧ atI z.cps.toList i = some c ∧ Q (.str ⟨#[c]⟩) H
theorem ix_list : IxR X (rIxL X.K) := by
  intro value slice pins s σ H x y v u Q I rx ry h hs
  obtain ⟨p, xs, i, z, rfl, rfl, hq, he, q⟩ := rIxL_inv h
  cases rx
  obtain ⟨t, rfl⟩ := ry
  obtain ⟨its, r, pl, hz⟩ := I.list hq
  obtain ⟨j, h1, h2, h3, h4, h5⟩ := atI_get he
  obtain ⟨w, ew, rw'⟩ := r.get h2
  have hl := r.length
  have hn := line63
  have fin : EP X pins σ Q w s := ⟨z, H, I, rw', q⟩
  by_cases h0 : 0 ≤ i
  · have hj : i.toNat = j := by
      rw [seqIndex_of h0 h5] at h1
      exact Option.some.inj h1
    exact item_listR pl.isList h0 (by omega) (by rw [hj]; simpa using ew) fin hs
  · have hj : (i + (its.toArray.size : Int)).toNat = j := by
      rw [seqIndex_neg (by omega) h4] at h1
      rw [List.size_toArray, ← hl]
      exact Option.some.inj h1
    exact subscriptTail_builtinR (x := w) pl.isList.typeIs slot_list_getitem.lookup
      (wpAny_getItem_list_neg (Q := fun r s' => r = w ∧ EP X pins σ Q r s') pl.isList (by omega) (by rw [List.size_toArray] <;> omega) (by omega) (by rw [hj]; simpa using ew) ⟨rfl, fin⟩) hs
theorem ix_tup : IxR X (rIxT X.K) := by
  intro value slice pins s σ H x y v u Q I rx ry h hs
  obtain ⟨p, xs, i, z, rfl, rfl, hq, he, q⟩ := rIxT_inv h
  cases rx
  obtain ⟨t, rfl⟩ := ry
  obtain ⟨its, r, pl, hz⟩ := I.tuple hq
  obtain ⟨j, h1, h2, h3, h4, h5⟩ := atI_get he
  obtain ⟨w, ew, rw'⟩ := r.get h2
  have hl := r.length
  have hn := line63
  have fin : EP X pins σ Q w s := ⟨z, H, I, rw', q⟩
  exact subscriptTail_builtinR (x := w) pl.typeIs slot_tuple_getitem.lookup
    (getItem_tuple (j := j) (Q := fun r s' => r = w ∧ EP X pins σ Q r s') pl (by omega) (by omega) (by rw [List.size_toArray, ← hl]; exact h1) (by simpa using ew) ⟨rfl, fin⟩) hs
theorem ix_str : IxR X rIxS := by
  intro value slice pins s σ H x y v u Q I rx ry h hs
  obtain ⟨z, i, c, rfl, rfl, hz, he, q⟩ := h
  obtain ⟨t, rfl⟩ := rx
  obtain ⟨t', rfl⟩ := ry
  obtain ⟨j, h1, h2, h3, h4, h5⟩ := atI_get he
  have hl : z.cps.toList.length = z.length := by simp [Str.length]
  rw [hl] at h1 h4 h5
  have hn := line63
  exact tail_any (typeIs_str s z t) slot_str_getitem.lookup (getItem_str (c := c) (by
    have e1 : decide (i < -(2 ^ 63 : Int)) = false := decide_eq_false (by omega)
    have e2 : decide (i ≥ 2 ^ 63) = false := decide_eq_false (by omega)
    rw [e1, e2, Bool.or_false]) (by rw [h1]; simpa using h2) ⟨.str ⟨#[c]⟩, H, I.tok _, ⟨_, rfl⟩, q⟩) hs
def rIx (K : PySem.W.Frag) : R2 := fun x y H Q => rIxL K x y H Q ∨ rIxT K x y H Q ∨ rIxS x y H Q
theorem ix_seq : IxR X (rIx X.K) := ix_list.or (ix_tup.or ix_str)
theorem mapSeq_set (its : List Value) (n j : Nat) (u : Value) : Obj.mapSeq (·.setIfInBounds j u) { cls := .type "list", data := .seq its.toArray n } = { cls := .type "list", data := .seq (its.set j u).toArray n } := by
  simp [Obj.mapSeq]
theorem Inv.lst {pins : List (Addr × Obj)} {σ : St} {H : Hp} {s : Shared} {p : Addr} {xs : List V} (I : Inv X pins σ H s) (h : H p = some (.lst xs)) :
    ∃ (its : List Value) (n : Nat), Vals xs its ∧ s.heap.get? p = some { cls := .type "list", data := .seq its.toArray n } ∧ xs.length ≤ sizeLine := by
  obtain ⟨z, its, n, r, e⟩ := I.hok p _ h
  exact ⟨its, n, r, e, z⟩
theorem Inv.lstUpd {pins : List (Addr × Obj)} {σ : St} {H : Hp} {s : Shared} {p : Addr} {xs ys : List V} {its its' : List Value} {n n' : Nat} {f : Obj → Obj} (I : Inv X pins σ H s) (h : H p = some (.lst xs))
    (ho : s.heap.get? p = some { cls := .type "list", data := .seq its.toArray n }) (hf : f { cls := .type "list", data := .seq its.toArray n } = { cls := .type "list", data := .seq its'.toArray n' }) (r : Vals ys its') (hz : ys.length ≤ sizeLine) (t : Nat) :
    Inv X pins σ (upd H p (.lst ys)) { s with heap := s.heap.update p f, toks := t } := by
  have e : (s.heap.update p f).get? p = some { cls := .type "list", data := .seq its'.toArray n' } := by
    rw [Heap.get?_update_self f ho (by rw [hf] <;> rfl), hf]
  refine I.write (x := p) (e := p) (by rw [h]; trivial) (.inl rfl) (fun b u hb q => (Heap.get?_update_other _ _ (Ne.symm hb)).trans q) ⟨_, e⟩ ?_
  exact ⟨hz, its', n', r, e⟩
def rSetL : V → V → V → Hp → (Hp → Prop) → Prop := fun o i v H Q => ∃ p xs k j, o = .ref p ∧ i = .int k ∧ H p = some (.lst xs) ∧ ixN xs.length k = some j ∧ Q (upd H p (.lst (xs.set j v)))
theorem set_list : PSet X rSetL := by
  intro pins s σ H o i v ov iv u Q I ro ri rv h
  obtain ⟨p, xs, k, j, rfl, rfl, hp, hj, q⟩ := h
  cases ro
  obtain ⟨t, rfl⟩ := ri
  obtain ⟨its, n, r, ho, hz⟩ := I.lst hp
  obtain ⟨h1, h2, h3, h4⟩ := ixN_seq hj
  have hl := r.length
  have hn := line63
  have I' : Inv X pins σ (upd H p (.lst (xs.set j v))) { s with heap := s.heap.update p (Obj.mapSeq (·.setIfInBounds j u)) } :=
    I.lstUpd hp ho (mapSeq_set its n j u) (r.set rv j) (by rw [List.length_set]; exact hz) s.toks
  by_cases h0 : 0 ≤ k
  · have hk : k.toNat = j := by
      rw [seqIndex_of h0 h4] at h1
      exact Option.some.inj h1
    exact PySem.W.ki_setAt ho h0 (by omega) (by rw [List.size_toArray, ← hl]; exact h4) (by rw [hk]; exact ⟨_, I', q⟩)
  · have hk : (k + (its.toArray.size : Int)).toNat = j := by
      rw [seqIndex_neg (by omega) h3] at h1
      rw [List.size_toArray, ← hl]
      exact Option.some.inj h1
    exact PySem.W.ki_setBack ho (by omega) (by rw [List.size_toArray, ← hl]; exact h3) (by omega) (by rw [hk]; exact ⟨_, I', q⟩)
theorem slice_bounds (lo hi : Option Int) (n : Nat) : (sliceBounds lo hi none n).1 = ((HT.sIx n 0 lo : Nat) : Int) ∧ (sliceBounds lo hi none n).2.1 = ((HT.sIx n n hi : Nat) : Int) ∧ (sliceBounds lo hi none n).2.2 = 1 := by
  refine ⟨?_, ?_, rfl⟩
  · cases lo with
    | none => simp [sliceBounds, HT.sIx]
    | some i =>
      simp only [sliceBounds, HT.sIx, Option.getD_none, show (1 : Int) > 0 by decide, if_true]
      by_cases h : i < 0
      · simp only [h, if_true] <;> omega
      · simp only [h, if_false] <;> omega
  · cases hi with
    | none => simp [sliceBounds, HT.sIx]
    | some i =>
      simp only [sliceBounds, HT.sIx, Option.getD_none, show (1 : Int) > 0 by decide, if_true]
      by_cases h : i < 0
      · simp only [h, if_true] <;> omega
      · simp only [h, if_false] <;> omega
theorem slicePick_cut (its : List Value) (lo hi : Option Int) : slicePick its.toArray lo hi none = ((its.drop (HT.sIx its.length 0 lo)).take (HT.sIx its.length its.length hi - HT.sIx its.length 0 lo)).toArray := by
  obtain ⟨h1, h2, h3⟩ := slice_bounds lo hi its.toArray.size
  unfold slicePick
  rw [h1, h2, h3]
  simp only [sliceRange_one, pick_run, List.size_toArray] <;> rfl
def rSlL (K : PySem.W.Frag) : V → Option Int → Option Int → Hp → VK → Prop := fun x lo hi H Q => ∃ a xs, x = .ref a ∧ SqL K H a xs ∧ ∀ p, H p = none → Q (.ref p) (upd H p (.lst (cutV xs lo hi)))
theorem sl_list : SlR X (rSlL X.K) := by
  intro pins s σ H x v vl vu lo hi sl Q I rx hs pl pu h
  obtain ⟨a, xs, rfl, hx, q⟩ := h
  cases rx
  obtain ⟨its, r, ht, hz⟩ := I.list hx
  have hlen := r.length
  refine ⟨"list", _, slot_list_getitem.lookup, ht.isList.typeIs, ?_⟩
  refine wpAny_getItem_list_slice ht.isList hs pl pu .none (by simp) ?_ (by rw [List.size_toArray] <;> omega)
  rw [slicePick_cut, ← hlen]
  refine ⟨.ref s.heap.objs.size, _, I.laid (t' := s.toks) (o := .lst (cutV xs lo hi)) (fun b ob q => Heap.get?_push_of_some _ q) (Nat.le_refl _) ?_, rfl, q _ (I.hok.fresh (Nat.le_refl _))⟩
  exact ⟨Nat.le_trans (cutV_length xs lo hi) hz, _, 0, (r.drop (HT.sIx xs.length 0 lo)).take (HT.sIx xs.length xs.length hi - HT.sIx xs.length 0 lo), Heap.get?_push_size _ rfl⟩
theorem call_len_seq : CallR X (.builtin "len") (fun xs H Q => ∃ p ys, xs = [.ref p] ∧ (SqL X.K H p ys ∨ SqT X.K H p ys) ∧ Q (.int ys.length) H) := by
  intro pins s σ H xs us Q I r h
  obtain ⟨p, ys, rfl, hq, q⟩ := h
  obtain ⟨u, rfl, rx⟩ := vals1 r
  cases rx
  have hn := line63
  rcases hq with hq | hq
  · obtain ⟨its, r', pl, hz⟩ := I.list hq
    have hlen := r'.length
    exact Calls.call_len_list pl.isList (by simp only [List.size_toArray] <;> omega) ⟨.int ys.length, H, I.tok _, ⟨s.toks + 1, by rw [List.size_toArray, hlen]⟩, q⟩
  · obtain ⟨its, r', pl, hz⟩ := I.tuple hq
    have hlen := r'.length
    exact len_tuple pl (by simp only [List.size_toArray] <;> omega) ⟨.int ys.length, H, I.tok _, ⟨s.toks + 1, by rw [List.size_toArray, hlen]⟩, q⟩
theorem call_len_str : CallR X (.builtin "len") (fun xs H Q => ∃ z, xs = [.str z] ∧ z.length ≤ sizeLine ∧ Q (.int z.length) H) := by
  intro pins s σ H xs us Q I r h
  obtain ⟨z, rfl, hz, q⟩ := h
  obtain ⟨u, rfl, t, rfl⟩ := vals1 r
  have hn := line63
  exact len_str (by omega) ⟨.int z.length, H, I.tok _, ⟨_, rfl⟩, q⟩
theorem call_tuple_of : CallR X (.type "tuple") (fun xs H Q => ∃ p ys, xs = [.ref p] ∧ ((SqL X.K H p ys ∧ ∀ l, H l = none → Q (.ref l) (upd H l (.tup ys))) ∨ (SqT X.K H p ys ∧ Q (.ref p) H))) := by
  intro pins s σ H xs us Q I r h
  obtain ⟨p, ys, rfl, h⟩ := h
  obtain ⟨u, rfl, rx⟩ := vals1 r
  cases rx
  rcases h with ⟨hq, q⟩ | ⟨hq, q⟩
  · obtain ⟨its, r', pl, hz⟩ := I.list hq
    have hlen := r'.length
    refine call_tuple_list pl.isList (fun h' kp => ?_) (by simp only [List.size_toArray] <;> omega)
    have I1 : Inv X pins σ H { s with heap := h' } := I.kept (t' := s.toks) kp
    have I2 : Inv X pins σ (upd H h'.objs.size (.tup ys)) { s with heap := h'.push { cls := .type "tuple", data := .seq its.toArray } } :=
      I1.laid (t' := s.toks) (fun b o e => Heap.get?_push_of_some _ e) (Nat.le_refl _) (show ObjOk X.prog X.w _ _ _ (.tup ys) from ⟨hz, its, r', IsTup.new _ _⟩)
    exact ⟨.ref h'.objs.size, _, I2, rfl, q _ (I1.hok.fresh (Nat.le_refl _))⟩
  · obtain ⟨its, r', pl, hz⟩ := I.tuple hq
    exact call_tuple_same pl ⟨.ref p, H, I, rfl, q⟩
def tyV (K : PySem.W.Frag) (T : String) (x : V) (H : Hp) : Prop := match x with
  | .str _ => T = "str"
  | .int _ => T = "int"
  | .ref p => (T = "list" ∧ ∃ xs, SqL K H p xs) ∨ (T = "tuple" ∧ ∃ o, K.lookup p = some o ∧ o.cls = .type "tuple" ∧ o.dict = none) ∨
      (T = "dict" ∧ ((∃ kvs, H p = some (.dK kvs)) ∨ ∃ kvs, H p = some (.dT kvs))) ∨ (T = "set" ∧ ∃ S n, H p = some (.set S n))
  | _ => False
theorem tyV_is {pins : List (Addr × Obj)} {σ : St} {H : Hp} {s : Shared} {T : String} {x : V} {v : Value} (I : Inv X pins σ H s) (r : RelV x v) (ty : tyV X.K T x H) :
    s.TypeIs v T ∧ ∀ a, v = .ref a → ∃ ob, s.heap.get? a = some ob ∧ ob.dict = none := by
  cases x with
  | str z =>
    obtain ⟨t, rfl⟩ := r
    cases (show T = "str" from ty)
    exact ⟨typeIs_str s z t, fun _ e => nomatch e⟩
  | int i =>
    obtain ⟨t, rfl⟩ := r
    cases (show T = "int" from ty)
    exact ⟨typeIs_int s i t, fun _ e => nomatch e⟩
  | ref p =>
    cases r
    rcases ty with ⟨rfl, xs, hq⟩ | ⟨rfl, o, hk, hc, hd⟩ | ⟨rfl, hk⟩ | ⟨rfl, S, n, hk⟩
    · obtain ⟨its, _, pl, _⟩ := I.list hq
      refine ⟨pl.isList.typeIs, fun a e => ?_⟩
      cases e
      obtain ⟨o, n, e, c, hd, _⟩ := pl
      exact ⟨o, e, hd⟩
    · refine ⟨⟨o, I.kIn p o hk, hc⟩, fun a e => ?_⟩
      cases e
      exact ⟨o, I.kIn _ o hk, hd⟩
    · have z : ∃ o, s.heap.get? p = some o ∧ o.ExactDict := by
        rcases hk with ⟨kvs, hk⟩ | ⟨kvs, hk⟩
        · obtain ⟨_, _, _, _, o, _, _, e, ex, _⟩ := I.hok p _ hk
          exact ⟨o, e, ex⟩
        · obtain ⟨_, _, _, _, o, _, _, e, ex, _⟩ := I.hok p _ hk
          exact ⟨o, e, ex⟩
      obtain ⟨o, e, ex⟩ := z
      refine ⟨⟨o, e, ex.1⟩, fun a e2 => ?_⟩
      cases e2
      exact ⟨o, e, ex.2.1⟩
    · obtain ⟨o, _, _, _, e, ex, _⟩ := I.hok p _ hk
      refine ⟨⟨o, e, ex.1⟩, fun a e2 => ?_⟩
      cases e2
      exact ⟨o, e, ex.2.1⟩
  | _ => exact False.elim ty
def tBM0 (K : PySem.W.Frag) (T : String) (r : V → List V → Hp → VK → Prop) (to : TE) : TE := fun σ H Q => to σ H fun x H1 => tyV K T x H1 ∧ r x [] H1 Q
def tBM (K : PySem.W.Frag) (T : String) (r : V → List V → Hp → VK → Prop) (to : TE) (t : TA) : TE := fun σ H Q => to σ H fun x H1 => tyV K T x H1 ∧ t σ H1 fun xs H2 => r x xs H2 Q
variable {o e : Expr} {es : List Expr} {to : TE} {t : TA} {name : Str} {apos cpos : Pos} {T id : String} {r : V → List V → Hp → VK → Prop}
theorem pe_bm (pa : PlainAttrs T) (slot : Slot T name id) (hty : typeOf (.builtin id) = pure (.type "method_descriptor")) (hm : MtR X id r) (ho : PE X o to) (ha : PA X (e :: es) t)
    (hbase : attributeBase o name X.env (eval o X.env) = eval o X.env := by rfl)
    (hfew : ((backTo cpos (starEach (e :: es) X.env)).all (fun x => !x.1) && (backToKw cpos (keywordEach [] X.env)).all (fun x => x.1.isSome)
      && decide ((e :: es).length + ([] : List Keyword).length + (if ([] : List Keyword).isEmpty then 0 else 1) < 30)) = true := by rfl)
    (hline : (apos.endLine == cpos.line) = true := by rfl) (hs : starEach (e :: es) X.env = (false, eval e X.env) :: starEach es X.env := by rfl) (hplain : (backTo cpos (starEach es X.env)).any (·.1) = false := by rfl) :
    PE X (.Call (.Attribute o name apos) (e :: es) [] cpos) (tBM X.K T r to t) := by
  intro pins s σ H Q I h
  refine wpAny_Call_method_late hbase hfew hline rfl (thn (ho pins s σ H _ I h) fun v s1 ⟨x, H1, I1, r1, ty, q1⟩ => ?_)
  obtain ⟨h1, h2⟩ := tyV_is I1 r1 ty
  refine ⟨T, id, pa, slot, hty, h1, h2, ?_⟩
  have hA := ha cpos pins s1 σ H1 _ I1 q1
  rw [hs] at hA ⊢
  refine Calls.callWith_builtin (by show (false || (backTo cpos (starEach es X.env)).any (·.1)) = false; rw [hplain] <;> rfl) (Calls.evalArgs_plain ?_)
  exact thn hA fun us s2 ⟨vs, H2, I2, r2, q2⟩ => hm pins s2 σ H2 x vs v us Q I2 r1 r2 q2
end
end L2
namespace L2
open PySem PySem.Spec PyProof.Rows
def MtM (X : Cx) (id : String) (r : V → List V → Hp → VK → Prop) : Prop :=
  ∀ (pins : List (Addr × Obj)) (s : Shared) (σ : St) (H : Hp) (x : V) (xs : List V) (v : Value) (us : List Value) (Q : VK), Inv X pins σ H s → RelV x v → Vals xs us → r x xs H Q →
    wpAny (model X.prog X.w) X.A (call (.builtin id) (v :: us)) (EP X pins σ Q) X.xe s
theorem Vals.one : ∀ {x : V} {us : List Value}, Vals [x] us → ∃ u, us = [u] ∧ RelV x u
  | _, _, .cons r .nil => ⟨_, rfl, r⟩
theorem Vals.zero : ∀ {us : List Value}, Vals [] us → us = []
  | _, .nil => rfl
section
variable {X : Cx} {pins : List (Addr × Obj)} {σ : St} {H : Hp} {s : Shared} {l b : Addr} {xs ys zs : List V}
theorem Inv.lset {its its' : List Value} {n : Nat} {f : Array Value → Array Value} {t' : Nat} (I : Inv X pins σ H s) (hH : H l = some (.lst xs))
    (e : s.heap.get? l = some { cls := .type "list", data := .seq its.toArray n }) (hf : f its.toArray = its'.toArray) (hv : Vals ys its') (hz : ys.length ≤ sizeLine) :
    Inv X pins σ (upd H l (.lst ys)) { s with heap := s.heap.update l (Obj.mapSeq f), toks := t' } := by
  have q := PySem.IsL.update e f
  rw [hf] at q
  refine I.write (x := l) (e := l) (by rw [hH]; exact trivial) (.inl rfl) (fun b' u hb hu => (Heap.get?_update_other s.heap (Obj.mapSeq f) (Ne.symm hb)).trans hu) ⟨_, q⟩ ?_
  exact ⟨hz, its', _, hv, q⟩
theorem Inv.lnew {its : List Value} {t' : Nat} (I : Inv X pins σ H s) (hv : Vals ys its) (hz : ys.length ≤ sizeLine) :
    Inv X pins σ (upd H s.heap.objs.size (.lst ys)) { s with heap := s.heap.push { cls := .type "list", data := .seq its.toArray }, toks := t' } :=
  I.laid (fun _ _ q => Heap.get?_push_of_some _ q) (Nat.le_refl _) ⟨hz, its, 0, hv, Heap.get?_push_size _ rfl⟩
theorem Inv.fresh (I : Inv X pins σ H s) : H s.heap.objs.size = none := I.hok.fresh (Nat.le_refl _)
theorem Inv.lstM (I : Inv X pins σ H s) (hH : H l = some (.lst xs)) : xs.length ≤ sizeLine ∧ ∃ (its : List Value) (n : Nat), Vals xs its ∧ xs.length = its.length ∧ s.heap.get? l = some { cls := .type "list", data := .seq its.toArray n } := by
  obtain ⟨z, its, n, r, e⟩ := I.hok l _ hH
  exact ⟨z, its, n, r, r.length, e⟩
theorem notLongL {n : Nat} (h : n ≤ sizeLine) : Builtin.List.listTooLong n = false := by
  unfold Builtin.List.listTooLong
  exact decide_eq_false (by omega)
end
section
variable {X : Cx}
def rAppend : V → List V → Hp → VK → Prop := fun x vs H Q => ∃ l xs y, x = .ref l ∧ vs = [y] ∧ H l = some (.lst xs) ∧ xs.length < sizeLine ∧ Q .non (upd H l (.lst (xs ++ [y])))
theorem mt_append : MtM X "list.append" rAppend := by
  intro pins s σ H x vs v us Q I rx rv h
  obtain ⟨l, xs, y, rfl, rfl, hH, hz, q⟩ := h
  cases rx
  obtain ⟨u, rfl, ru⟩ := rv.one
  obtain ⟨z, its, n, r, hl, e⟩ := I.lstM hH
  refine call_meets F.slot_list_append ⟨_, e, rfl⟩ F.entry_list_append (F.args_list_append_2 _ _) (PySem.list_append l its.toArray n u (by rw [List.size_toArray]; omega)) ⟨e, ?_⟩
  refine ⟨.non, _, I.lset (its' := its ++ [u]) hH e (by simp) (r.append (.cons ru .nil)) ?_, rfl, q⟩
  rw [List.length_append, List.length_singleton]
  omega
def rExtend : V → List V → Hp → VK → Prop := fun x vs H Q => ∃ l b xs zs, x = .ref l ∧ vs = [.ref b] ∧ H l = some (.lst xs) ∧ H b = some (.lst zs) ∧ xs.length + zs.length ≤ sizeLine ∧ Q .non (upd H l (.lst (xs ++ zs)))
theorem mt_extend : MtM X "list.extend" rExtend := by
  intro pins s σ H x vs v us Q I rx rv h
  obtain ⟨l, b, xs, zs, rfl, rfl, hH, hB, hz, q⟩ := h
  cases rx
  obtain ⟨u, rfl, ru⟩ := rv.one
  cases ru
  obtain ⟨z, its, n, r, hl, e⟩ := I.lstM hH
  obtain ⟨z2, its2, n2, r2, hl2, e2⟩ := I.lstM hB
  have hsz : its.toArray.size + its2.toArray.size ≤ sizeLine := by rw [List.size_toArray, List.size_toArray]; omega
  have hlong : ¬ (!its.toArray.isEmpty && Builtin.List.listTooLong (its.toArray.size + its2.toArray.size)) = true := by
    rw [notLongL hsz, Bool.and_false]
    exact Bool.false_ne_true
  refine call_meets F.slot_list_extend ⟨_, e, rfl⟩ F.entry_list_extend (F.args_list_extend_2 _ _)
    (AutoSeq1.list_extend_list_list_0 l its.toArray n b its2.toArray n2 hlong (by rw [List.size_toArray]; omega) (by omega)) ⟨e, e2, ?_⟩
  refine ⟨.non, _, I.lset (its' := its ++ its2) hH e (by simp) (r.append r2) ?_, rfl, q⟩
  rw [List.length_append]
  omega
def rCat : R2 := fun x y H Q => ∃ l b xs zs, x = .ref l ∧ y = .ref b ∧ H l = some (.lst xs) ∧ H b = some (.lst zs) ∧ xs.length + zs.length ≤ sizeLine ∧ ∀ p, H p = none → Q (.ref p) (upd H p (.lst (xs ++ zs)))
theorem op_cat : OpR X (binaryOp .Add) rCat := by
  intro pins s σ H x y v u Q I rx ry h
  obtain ⟨l, b, xs, zs, rfl, rfl, hH, hB, hz, q⟩ := h
  cases rx
  cases ry
  obtain ⟨z, its, n, r, hl, e⟩ := I.lstM hH
  obtain ⟨z2, its2, n2, r2, hl2, e2⟩ := I.lstM hB
  refine PySem.P.add_list e e2 ?_ (by rw [List.size_toArray, List.size_toArray]; omega)
  have ea : its.toArray ++ its2.toArray = (its ++ its2).toArray := by simp
  rw [ea]
  exact ⟨.ref _, _, I.lnew (t' := s.toks) (r.append r2) (by rw [List.length_append]; omega), rfl, q _ I.fresh⟩
end
section
variable {prog : Program} {w : World} {A : Around} {E : Value → Shared → Prop} {s : Shared}
end
section
variable {X : Cx}
end
end L2
namespace Att
open PySem PySem.W PySem.Calls PyProof.Rows
theorem ints_of_wellAll {P : Params} {h : Heap} : ∀ (ns : List Int) (vs : List Value), WellAll P h vs (ns.map WData.int) → IntsAre vs ns := by
  intro ns
  induction ns with
  | nil =>
    intro vs w
    rw [List.map_nil] at w
    cases w
    exact .nil
  | cons n ns ih =>
    intro vs w
    rw [List.map_cons] at w
    cases w with
    | cons a b =>
      cases a
      exact .cons _ _ (ih _ b)
theorem script_of {l : OpenLaw} {n : Nat} (hn : l.most = some n) {P : Params} {h : Heap} {args : List WData} {vals : List Value}
    (hpre : l.row.toRowW.claim.pre args = true) (hwl : WellAll P h vals args) :
    ∃ a vs ns, vals = [Value.ref a] ∧ args = [WData.list (ns.map WData.int)] ∧ h.get? a = some { cls := .type "list", data := .seq vs.toArray } ∧ IntsAre vs ns ∧ ns.length ≤ n := by
  have hsh : WShape.hasAll [] args [.list .int] = true := (pre_splitW hpre).1
  have hc : l.pre.holds [] { args := args } = true := (pre_splitW hpre).2
  obtain ⟨d, r, rfl, h1, h2⟩ := hasAllW_cons hsh
  obtain rfl := hasAllW_nil h2
  obtain ⟨xs, rfl, h3⟩ := hasW_list h1
  obtain ⟨ns, rfl⟩ := items_int h3
  have hlen : ns.length ≤ n := by
    unfold OpenLaw.pre at hc
    have h4 : (WTm.not (.lt (.lit (.int (n : Int))) (.len (.arg 0)))).holds [] { args := [.list (ns.map .int)] } = true := by
      have h4 := (holds_andW hc).1
      rw [hn] at h4
      exact h4
    have h5 := condW_of h4 (w_not (w_lt w_lit (w_len_list (w_arg rfl))))
    rw [List.length_map] at h5
    refine Nat.le_of_not_lt fun q => ?_
    have q' : (n : Int) < ((ns.length : Nat) : Int) := by omega
    first
      | (rw [decide_eq_true q'] at h5; exact absurd h5 (by decide))
      | (simp at h5; omega)
  cases hwl with
  | cons w1 w2 =>
    cases w2
    cases w1 with
    | list ho hall => exact ⟨_, _, ns, rfl, rfl, ho, ints_of_wellAll ns _ hall, hlen⟩
theorem post_true (l : OpenLaw) (args : List WData) : l.row.toRowW.claim.post args (.bool true) args = true :=
  postW_of (r := l.row.toRowW) (X := (true == true))
    (show WShape.has [] (.bool true) .bool = true by first | rfl | decide | simp [WShape.has, WShape.arms, WShape.armsAll])
    (show (WTm.eq .res (.lit (.bool true))).value [] { args := args, res := some (.bool true), after := args } = some (.bool (true == true)) from w_eq_bool (w_res rfl) w_lit) rfl
theorem attach_call {l : OpenLaw} {n : Nat} {q : Program} {loose : List Str} {XP : (Str → Option Value) → Heap → Prop} {YP : World → Heap → Prop} {d : DefRec}
    (hn : l.most = some n) (hdf : d.params.defaults = [])
    (call : ∀ (w : World) (s₀ s₁ : Shared) (mg mb : Str → Option Value) (fa : Addr) (o : Obj) (pm cd doc : Value) (a : Addr) (vs : List Value) (ns : List Int),
      Ground q loose [] XP w s₀ mg mb s₁.heap → YP w s₁.heap →
      s₁.heap.get? fa = some o → o.data = .func (docDef d.name d.params d.body d.scope pm cd doc) → s₁.heap.CodeRec cd d.name → mg d.name = some (.ref fa) →
      s₁.heap.get? a = some { cls := .type "list", data := .seq vs.toArray } → IntsAre vs ns → ns.length ≤ n → s₁.gens = #[] →
      codeAny (model l.prog w) callerA (.call (.ref fa) ⟨[.ref a], []⟩) (fun r s' => r = .ok (.ret (.bool true)) ∧ OldK s₁.heap s'.heap ∧ s'.os = s₁.os ∧ AllBare s'.gens) s₁) :
    WalkO q loose XP YP l.row.toRowW d [] (fun f vs => PySem.call f vs) := by
  intro w s₀ s₁ mg mb G Y fa o pm cd doc dV kV ho hd hcd hD hmg hg args vals as hpre hlay hrd hwl hlo
  obtain rfl : dV = .none := Dflts.none hD hdf
  obtain rfl : kV = .none := Dflts.noKw hD
  obtain ⟨a, vs, ns, rfl, rfl, hobj, hints, hlen⟩ := script_of hn hpre hwl
  refine enter_call (codeAny_mono (call w s₀ s₁ mg mb fa o pm cd doc a vs ns G Y ho (fd_plain hd) hcd hmg hobj hints hlen hg) fun r s' hq => ?_)
  obtain ⟨rfl, h2, h3, h4⟩ := hq
  exact ⟨.inl ⟨.bool true, .bool true, [], rfl, fun _ => rfl, .bool true, post_true l _, fun _ => ⟨List.Pairwise.nil, fun _ hm => (nomatch hm)⟩⟩, h2, h3, h4⟩
section
variable {prog : Program} {w : World} {A : Around} {E : Value → Shared → Prop} {s : Shared} {K : Frag}
end
end Att
namespace L2
open PySem PySem.Spec PyProof.Rows
theorem vals_ints : ∀ {vs : List Value} {ns : List Int}, IntsAre vs ns → Vals (ns.map V.int) vs
  | _, _, .nil => .nil
  | _, _, .cons n t h => .cons ⟨t, rfl⟩ (vals_ints h)
def Only (H : Hp) : Prop := ∀ b, H b = none ∨ ∃ o xs, H b = some (.frz o (.lst xs))
theorem law_call {P : Program} {w : World} {K : PySem.W.Frag} {mg mb : Str → Option Value} {CX : CXT} {k : Nat} {fa a : Addr} {fd : FuncData} {x : Str} {sp : Sp} {s₁ : Shared} {vs : List Value} {ns : List Int}
    (KX : K.In s₁.heap) (hns : s₁.heap.Ns mainGlobals mg) (hb : s₁.heap.Ns builtinsNs mb) (hbb : ∀ x : Str, x ≠ "__name__" → mb x = bootBuiltins x) (hlim : s₁.heap.NoLimit) (hg : s₁.gens = #[])
    (ha : s₁.heap.get? a = some { cls := .type "list", data := .seq vs.toArray }) (hi : IntsAre vs ns) (hl : ns.length ≤ sizeLine) (hr : Room k callerA)
    (F : ∀ base : Heap, K.In base → base.Ns mainGlobals mg → FnOk P w K mg base CX k fa fd [x] sp) (hbind : ∀ (s : Shared) (u : Value), BindsTo s fd ⟨[u], []⟩ [(x, u)])
    (hsp : ∀ H : Hp, Only H → SqL K H a (ns.map V.int) → sp [.ref a] H (fun v _ => v = .bl true) fun _ _ _ => False)
    (hCX : ∀ H e s', CX [] H s₁ (fun _ _ _ => False) e s' → False) :
    codeAny (model P w) callerA (.call (.ref fa) ⟨[.ref a], []⟩) (fun r s' => r = .ok (.ret (.bool true)) ∧ OldK s₁.heap s'.heap ∧ s'.os = s₁.os ∧ AllBare s'.gens) s₁ := by
  have rv := vals_ints hi
  have lenV := hi.length
  -- from an abstract heap in which nothing but the script may be tracked
  have core : ∀ H : Hp, Only H → SqL K H a (ns.map V.int) → HOk P w H s₁.heap → (∀ b, H b ≠ none → b = a) → (H a ≠ none → K.lookup a = none) →
      codeAny (model P w) callerA (.call (.ref fa) ⟨[.ref a], []⟩) (fun r s' => r = .ok (.ret (.bool true)) ∧ OldK s₁.heap s'.heap ∧ s'.os = s₁.os ∧ AllBare s'.gens) s₁ := by
    intro H hO hS hok hA hK
    have base_of : ∀ {b : Addr} {o : Obj}, s₁.heap.get? b = some o → H b = none → (hidT s₁.heap H).get? b = some o := fun e n => hidT_get e n
    have noA : ∀ {b : Addr} {o : Obj} {es : Array DictEntry} {ep : Nat}, s₁.heap.get? b = some o → o.data = .dict es ep → H b = none := fun {b o es ep} e d => by
      cases q : H b with
      | none => rfl
      | some u =>
        have e' : b = a := hA b (by rw [q]; simp)
        subst e'
        rw [ha] at e; cases e
        have d' : Data.seq vs.toArray _ = Data.dict es ep := d
        cases d'
    have nsK : ∀ {b : Addr} {m : Str → Option Value}, s₁.heap.Ns b m → (hidT s₁.heap H).Ns b m := fun {b m} ⟨o, es, ep, e, d, r⟩ => ⟨o, es, ep, base_of e (noA e d), d, r⟩
    have hKb : K.In (hidT s₁.heap H) := fun b o e => base_of (KX b o e) (by
      cases q : H b with
      | none => rfl
      | some u =>
        have e' : b = a := hA b (by rw [q]; simp)
        subst e'
        rw [hK (by rw [q]; simp)] at e; cases e)
    have hM : Mod K mg (hidT s₁.heap H) := ⟨hKb, nsK hns, ⟨mb, nsK hb, hbb⟩, let ⟨mc, h1, h2⟩ := hlim; ⟨mc, nsK h1, h2⟩⟩
    have e0 : Env0 P w K mg (hidT s₁.heap H) callerA [] s₁ H := ⟨rfl, hM, fun b o e => of_hidT e, Nat.le_of_eq (hidT_size _ _), trivial, fun b hb => absurd (show b ∈ ([] : List Addr) from hb) (by simp), hok, .of_eq hg⟩
    refine codeAny_mono ((F _ hKb (nsK hns)).run callerA [] s₁ H ⟨[.ref a], []⟩ [.ref a] [.ref a] _ _ hr e0 (hbind s₁ (.ref a)) (.cons rfl .nil) (hsp H hO hS)) fun r s' h => ?_
    cases r with
    | error e => exact (hCX H e s' h).elim
    | ok fl =>
      cases fl with
      | next => exact False.elim h
      | brk => exact False.elim h
      | cont => exact False.elim h
      | ret u =>
        obtain ⟨v, H', os, bare, un, hok', r', q⟩ := h
        have q' : v = .bl true := q
        subst q'
        obtain rfl : u = Value.bool true := r'
        refine ⟨rfl, OldK.of_keep fun b o e => ?_, os, bare⟩
        cases q : H b with
        | none => exact un.keep b o e q (by intro z; exact absurd (show b ∈ ([] : List Addr) from z) (by simp)) (by simp)
        | some u =>
          rcases hO b with z | ⟨ob, xs, z⟩
          · rw [q] at z; cases z
          · have z2 := un.frzs b ob _ z
            obtain ⟨e1, _⟩ := hok b _ z
            obtain ⟨e2, _⟩ := hok' b _ z2
            rw [e] at e1; cases e1
            exact e2
  cases hk : K.lookup a with
  | some o =>
    -- the script is one of the module's own objects
    have e := KX a o hk
    rw [ha] at e
    cases e
    refine core (fun _ => none) (fun _ => .inl rfl) (.inr ⟨_, vs.toArray, _, hk, rfl, rfl, rfl, by rw [List.size_toArray, lenV]; exact hl, by simpa using rv⟩) (fun b u z => by have z' : (none : Option HO) = some u := z; cases z') (fun b z => absurd rfl z) fun z => absurd rfl z
  | none =>
    refine core (fun b => if b = a then some (.frz { cls := .type "list", data := .seq vs.toArray } (.lst (ns.map V.int))) else none) (fun b => ?_) (.inl (.inr ⟨{ cls := .type "list", data := .seq vs.toArray }, if_pos rfl⟩)) (fun b u z => ?_) (fun b z => ?_) fun _ => hk
    · by_cases hb : b = a
      · exact .inr ⟨_, _, if_pos hb⟩
      · exact .inl (if_neg hb)
    · by_cases hb : b = a
      · have z' := (if_pos hb).symm.trans z
        cases z'
        subst hb
        exact ⟨ha, by rw [List.length_map]; exact hl, vs, _, rv, ha⟩
      · have z' := (if_neg hb).symm.trans z
        cases z'
    · by_cases hb : b = a
      · exact hb
      · exact absurd (if_neg hb) z
end L2
namespace L2
open PySem PySem.Spec PyProof.Rows
theorem walk_of {l : PySem.W.OpenLaw} {n k : Nat} {q : Program} {loose : List Str} {XP : (Str → Option Value) → Heap → Prop} {YP : World → Heap → Prop} {d : DefRec} {K : Params → PySem.W.Frag} {CX : World → CXT} {sp : World → Sp} {x : Str}
    (hn : l.most = some n) (hn2 : n ≤ sizeLine) (hdf : d.params.defaults = []) (hr : Room k callerA)
    (hY : ∀ (w : World) (h : Heap), YP w h → (K w.params).In h)
    (F : ∀ (w : World) (mg : Str → Option Value) (fa : Addr) (h : Heap), (K w.params).In h → h.Ns mainGlobals mg → mg d.name = some (.ref fa) →
      ∃ fd : FuncData, (∀ (s : Shared) (u : Value), BindsTo s fd ⟨[u], []⟩ [(x, u)]) ∧
        ∀ base : Heap, (K w.params).In base → base.Ns mainGlobals mg → FnOk l.prog w (K w.params) mg base (CX w) k fa fd [x] (sp w))
    (hsp : ∀ (w : World) (H : Hp) (a : Addr) (ns : List Int), ns.length ≤ n → Only H → SqL (K w.params) H a (ns.map V.int) → sp w [.ref a] H (fun v _ => v = .bl true) fun _ _ _ => False)
    (hCX : ∀ (w : World) (H : Hp) (s : Shared) (e : Value) (s' : Shared), CX w [] H s (fun _ _ _ => False) e s' → False) :
    PySem.W.WalkO q loose XP YP l.row.toRowW d [] (fun f vs => PySem.call f vs) := by
  refine Att.attach_call hn hdf fun w s₀ s₁ mg mb fa o pm cd doc a vs ns G Y ho hd hcd hmg hobj hints hlen hg => ?_
  have KX := hY w _ Y
  obtain ⟨fd, hb, hF⟩ := F w mg fa _ KX G.T.g hmg
  exact law_call KX G.T.g G.T.b G.T.builtins G.T.nolimit hg hobj hints (Nat.le_trans hlen hn2) hr hF hb (fun H hO hS => hsp w H a ns hlen hO hS) fun H e s' => hCX w H s₁ e s'
end L2
namespace L2
open PySem PySem.Spec PyProof.Rows
def inClass (s : Stmt) (j : Nat) : Stmt := match s with
  | .ClassDef _ _ _ body _ _ _ _ _ _ _ => body.getD j (.Pass ⟨0, 0, 0, 0⟩)
  | _ => .Pass ⟨0, 0, 0, 0⟩
def defArgs (s : Stmt) : Arguments := match s with
  | .FunctionDef _ a _ _ _ _ _ _ _ _ => a
  | _ => { posonlyargs := [], args := [], vararg := none, kwonlyargs := [], kw_defaults := [], kwarg := none, defaults := [] }
def defBody (s : Stmt) : List Stmt := match s with
  | .FunctionDef _ _ b _ _ _ _ _ _ _ => b
  | _ => []
def defScope (s : Stmt) : Scope := match s with
  | .FunctionDef _ _ _ _ _ _ sc _ _ _ => sc
  | _ => { kind := .function, names := [], isGenerator := false, isCoroutine := false }
abbrev CX0 : CXT := fun _ _ _ _ _ _ => False
abbrev E0 : XK := fun _ _ _ => False
theorem pass0 {X : Cx} : Passes CX0 X E0 := fun _ _ _ _ _ _ _ h => h.elim
set_option genInjectivity false in
set_option genSizeOf false in
structure Fun (K : PySem.W.Frag) (x qual : Str) (st : Stmt) (f : Addr) (fd : FuncData) : Prop where
  ex : ∃ (oc : Value) (od : Option Addr) (kV doc pm : Value) (an : Option Addr) (cdv ct : Value) (osl : Array (Option Value)),
    fd = PySem.W.fnOf x qual (defArgs st) (defBody st) (defScope st) .none kV doc pm an cdv ct ∧ K.lookup f = some ⟨oc, od, .func fd, osl⟩ ∧ PySem.W.codeIn K cdv qual = true
  kp : PySem.W.keepIn K (.ref f) = true
section
variable {P : Program} {w : World} {K : PySem.W.Frag} {mg : Str → Option Value} {base : Heap}
theorem Fun.ok {x qual : Str} {st : Stmt} {f : Addr} {fd : FuncData} {N ps : List Str} {k : Nat} {sp : Sp} (F : Fun K x qual st f fd) (S : FnScope N ps (defScope st)) (len : ∀ vs H Q E, sp vs H Q E → vs.length = ps.length)
    (hbody : ∀ (cdv : Value) (A : Around) (outer : List Env) (s : Shared) (H : Hp) (vs : List V) (Q : VK) (E : XK), Room k (A.deeper (envOfC qual (defScope st) s.heap.objs.size f cdv)) → sp vs H Q E →
      ∃ t, PSs (cxOf CX0 P w K mg base N qual (defScope st) f cdv A outer s H E).nox (defBody st) t ∧ t { nx := fun _ H' => Q .non H', rt := Q } (start N vs) H) : FnOk P w K mg base CX0 (k + 1) f fd ps sp := by
  obtain ⟨oc, od, kV, doc, pm, an, cdv, ct, osl, rfl, lk, hcd⟩ := F.ex
  refine fn_of lk hcd S len fun A outer s H vs Q E hr hsp => ?_
  obtain ⟨t, h, q⟩ := hbody cdv A outer s H vs Q E hr hsp
  exact ⟨t, h.nox, q⟩
theorem Fun.binds {x qual : Str} {st : Stmt} {f : Addr} {fd : FuncData} {ps : List Str} (F : Fun K x qual st f fd)
    (h : ∀ (kV doc pm : Value) (an : Option Addr) (cdv ct : Value) (us : List Value), us.length = ps.length → bindArgs (PySem.W.fnOf x qual (defArgs st) (defBody st) (defScope st) .none kV doc pm an cdv ct) ⟨us, []⟩ = pure (ps.zip us)) : Binds K fd ps [] := by
  obtain ⟨oc, od, kV, doc, pm, an, cdv, ct, osl, rfl, lk, hcd⟩ := F.ex
  exact .all (h kV doc pm an cdv ct)
theorem fun_mk {x qual : Str} {st : Stmt} {f : Addr} {oc : Value} {od an : Option Addr} {osl : Array (Option Value)} {kV doc pm cdv ct : Value} (l : K.lookup f = some ⟨oc, od, .func (PySem.W.fnOf x qual (defArgs st) (defBody st) (defScope st) .none kV doc pm an cdv ct), osl⟩)
    (c : PySem.W.codeIn K cdv qual = true) (k : PySem.W.keepIn K (.ref f) = true) : Fun K x qual st f (PySem.W.fnOf x qual (defArgs st) (defBody st) (defScope st) .none kV doc pm an cdv ct) := ⟨⟨oc, od, kV, doc, pm, an, cdv, ct, osl, rfl, l, c⟩, k⟩
end
theorem hu_of {A : Around} {k : Nat} (hr : Room k A) : A.units + 1 < cLine := Nat.lt_of_le_of_lt (Nat.add_le_add_left (by decide : 1 ≤ 64) _) hr.units
theorem small1000 {n : Nat} (h : n ≤ 1000) : n < sizeLine := Nat.lt_of_le_of_lt h (by decide)
section
variable {X : Cx}
theorem pv (i : Nat) {x : Str} {pos : Pos} (hN : X.N[i]? = some x := by rfl) (hv : Vis X.env.scope x := by first | exact Or.inl rfl | exact Or.inr (Or.inl rfl) | exact Or.inr (Or.inr rfl)) (hd : (x == ("__debug__" : Str)) = false := by decide)
    (hcd : (x == ("__classdict__" : Str)) = false := by decide) : PE X (.Name x pos) (tVar i) := pe_var hN hv hd hcd
end
theorem ite2 {c A B : Prop} [Decidable c] (h1 : c → A) (h2 : ¬ c → B) : if c then A else B := by
  by_cases h : c
  · rw [if_pos h]
    exact h1 h
  · rw [if_neg h]
    exact h2 h
def Same (H H' : Hp) : Prop := ∀ b o, H b = some o → H' b = some o
theorem Same.refl (H : Hp) : Same H H := fun _ _ h => h
theorem Same.trans {H H1 H2 : Hp} (a : Same H H1) (b : Same H1 H2) : Same H H2 := fun c o h => b c o (a c o h)
theorem Same.free {H H' : Hp} (e : Same H H') {l : Addr} (h : H' l = Option.none) : H l = Option.none := by
  cases q : H l with
  | none => rfl
  | some o =>
    rw [e l o q] at h
    cases h
end L2
namespace L2
open PySem PySem.Spec PyProof.Rows
set_option genInjectivity false in
set_option genSizeOf false in
structure Dn (P : Program) (w : World) (K : PySem.W.Frag) (mg : Str → Option Value) (base : Heap) (k : Nat) (x : Str) (ps : List Str) (sp : Sp) : Prop where
  ex : ∃ (f : Addr) (fd : FuncData), FnOk P w K mg base CX0 k f fd ps sp ∧ Binds K fd ps [] ∧ PySem.W.keepIn K (.ref f) = true ∧ mg x = some (.ref f)
theorem Dn.mono {P : Program} {w : World} {K : PySem.W.Frag} {mg : Str → Option Value} {base : Heap} {j k : Nat} {x : Str} {ps : List Str} {sp : Sp} (D : Dn P w K mg base j x ps sp) (h : j ≤ k) : Dn P w K mg base k x ps sp := by
  obtain ⟨f, fd, a, b, c, d⟩ := D.ex
  exact ⟨f, fd, a.mono h, b, c, d⟩
theorem Dn.imp {P : Program} {w : World} {K : PySem.W.Frag} {mg : Str → Option Value} {base : Heap} {k : Nat} {x : Str} {ps : List Str} {sp sp' : Sp} (D : Dn P w K mg base k x ps sp) (h : ∀ vs H Q E, sp' vs H Q E → sp vs H Q E) : Dn P w K mg base k x ps sp' := by
  obtain ⟨f, fd, a, b, c, d⟩ := D.ex
  exact ⟨f, fd, a.imp h, b, c, d⟩
def unst (e : Expr) : Bool := match e with
  | .Starred _ _ => false
  | _ => true
theorem star_un {e : Expr} {es : List Expr} {env : Env} (h : unst e = true) : starEach (e :: es) env = (false, eval e env) :: starEach es env := by
  cases e <;> first | rfl | cases h
theorem star_any {env : Env} {pos : Pos} : ∀ {es : List Expr}, es.all unst = true → (backTo pos (starEach es env)).any (·.1) = false
  | [], _ => rfl
  | e :: es, h => by
    rw [List.all_cons, Bool.and_eq_true] at h
    rw [star_un h.1]
    show (false || (backTo pos (starEach es env)).any (·.1)) = false
    rw [star_any h.2]
    rfl
theorem all_tl {e : Expr} {es : List Expr} (h : (e :: es).all unst = true) : es.all unst = true := by
  rw [List.all_cons, Bool.and_eq_true] at h; exact h.2
theorem all_hd {e : Expr} {es : List Expr} (h : (e :: es).all unst = true) : unst e = true := by
  rw [List.all_cons, Bool.and_eq_true] at h; exact h.1
theorem pa_u {X : Cx} {e : Expr} {es : List Expr} {te : TE} {t : TA} (ha : PE X e te) (hr : PA X es t) (h : unst e = true := by rfl) : PA X (e :: es) (tCons te t) := pa_cons ha hr (star_un h)
theorem pe_callBu {X : Cx} {x : Str} {p pos : Pos} {e : Expr} {es : List Expr} {t : TA} {id : String} {r : List V → Hp → VK → Prop} (hc : CallR X (.builtin id) r) (hg : Gl X x) (hm : X.mg x = none) (hv : bootBuiltins x = some (.builtin id)) (ha : PA X (e :: es) t)
    (h : (e :: es).all unst = true := by rfl) (hn : x ≠ "__name__" := by decide) (hdb : (x == ("__debug__" : Str)) = false := by decide) : PE X (.Call (.Name x p) (e :: es) [] pos) (tCB r t) :=
  pe_callB hc hg hm hv ha hn hdb (star_un (all_hd h)) (star_any (all_tl h))
theorem pe_callTu {X : Cx} {x : Str} {p pos : Pos} {e : Expr} {es : List Expr} {t : TA} {T : String} {r : List V → Hp → VK → Prop} (hc : CallR X (.type T) r) (hg : Gl X x) (hm : X.mg x = none) (hv : bootBuiltins x = some (.type T)) (ha : PA X (e :: es) t)
    (h : (e :: es).all unst = true := by rfl) (hn : x ≠ "__name__" := by decide) (hdb : (x == ("__debug__" : Str)) = false := by decide) : PE X (.Call (.Name x p) (e :: es) [] pos) (tCB r t) :=
  pe_callTy hc hg hm hv ha hn hdb (star_un (all_hd h)) (star_any (all_tl h))
theorem pe_callD {X : Cx} {k : Nat} {x : Str} {ps : List Str} {sp : Sp} {e : Expr} {es : List Expr} {t : TA} {p pos : Pos} (D : Dn X.prog X.w X.K X.mg X.base k x ps sp) (hr : Room k X.A) (hg : Gl X x)
    (ha : PA X (e :: es) t) (h : (e :: es).all unst = true := by rfl) (hdb : (x == ("__debug__" : Str)) = false := by decide) :
    PE X (.Call (.Name x p) (e :: es) [] pos) (tCall sp [] E0 t) := by
  obtain ⟨f, fd, a, b, c, d⟩ := D.ex
  exact pe_call a hr hg d c b .nil pass0 ha hdb (star_un (all_hd h)) (star_any (all_tl h))
set_option genInjectivity false in
set_option genSizeOf false in
structure Df (K : PySem.W.Frag) (mg : Str → Option Value) (x : Str) (st : Stmt) (ps : List Str) : Prop where
  ex : ∃ (f : Addr) (fd : FuncData), Fun K x x st f fd ∧ Binds K fd ps [] ∧ mg x = some (.ref f)
theorem Df.ok {P : Program} {w : World} {K : PySem.W.Frag} {mg : Str → Option Value} {base : Heap} {x : Str} {st : Stmt} {N ps : List Str} {k : Nat} {sp : Sp} (F : Df K mg x st ps) (S : FnScope N ps (defScope st))
    (len : ∀ vs H Q E, sp vs H Q E → vs.length = ps.length)
    (hbody : ∀ (f : Addr) (cdv : Value) (A : Around) (outer : List Env) (s : Shared) (H : Hp) (vs : List V) (Q : VK) (E : XK), Room k (A.deeper (envOfC x (defScope st) s.heap.objs.size f cdv)) → sp vs H Q E →
      ∃ (t : TS) (σ : St), PSs (cxOf CX0 P w K mg base N x (defScope st) f cdv A outer s H E).nox (defBody st) t ∧ start N vs = σ ∧ t { nx := fun _ H' => Q .non H', rt := Q } σ H) : Dn P w K mg base (k + 1) x ps sp := by
  obtain ⟨f, fd, F1, b, m⟩ := F.ex
  refine ⟨f, fd, F1.ok S len fun cdv A outer s H vs Q E hr h => ?_, b, F1.kp, m⟩
  obtain ⟨t, σ, h1, rfl, h2⟩ := hbody f cdv A outer s H vs Q E hr h
  exact ⟨t, h1, h2⟩
set_option genInjectivity false in
set_option genSizeOf false in
structure Gc (mg : Str → Option Value) (x : Str) (v : V) : Prop where
  ex : ∃ u, mg x = some u ∧ RelV v u
theorem pe_gc {X : Cx} {x : Str} {v : V} {pos : Pos} (h : Gc X.mg x v) (hg : Gl X x) (hd : (x == ("__debug__" : Str)) = false := by decide) : PE X (.Name x pos) (tC v) := by
  obtain ⟨u, a, b⟩ := h.ex
  exact pe_glob hg a b hd
mutual
def Dt (K : PySem.W.Frag) (t : Addr) (H : Hp) : PyData → V → Prop
  | .none, v => v = .non
  | .bool b, v => v = .bl b
  | .int i, v => v = .int i
  | .str x, v => v = .str x ∧ PyData.strOk x = true
  | .tuple ds, v => ∃ a xs, v = .ref a ∧ SqT K H a xs ∧ DtL K t H ds xs
  | .list ds, v => ∃ a xs, v = .ref a ∧ a ≠ t ∧ SqL K H a xs ∧ DtL K t H ds xs
  | .dict _, _ => False
def DtL (K : PySem.W.Frag) (t : Addr) (H : Hp) : List PyData → List V → Prop
  | [], vs => vs = []
  | d :: ds, vs => ∃ v r, vs = v :: r ∧ Dt K t H d v ∧ DtL K t H ds r
end
mutual
theorem Dt.lay {K : PySem.W.Frag} {t : Addr} {H : Hp} : ∀ (d : PyData) (v : V), Dt K t H d v → d.canLay0 = true
  | .none, _, _ => by simp [PyData.canLay0]
  | .bool _, _, _ => by simp [PyData.canLay0]
  | .int _, _, _ => by simp [PyData.canLay0]
  | .str x, _, h => by
    simp only [Dt] at h
    simpa [PyData.canLay0] using h.2
  | .tuple ds, v, h => by
    simp only [Dt] at h
    obtain ⟨a, xs, _, _, q⟩ := h
    simpa [PyData.canLay0] using DtL.lay ds xs q
  | .list ds, v, h => by
    simp only [Dt] at h
    obtain ⟨a, xs, _, _, _, q⟩ := h
    simpa [PyData.canLay0] using DtL.lay ds xs q
  | .dict _, _, h => by simp [Dt] at h
theorem DtL.lay {K : PySem.W.Frag} {t : Addr} {H : Hp} : ∀ (ds : List PyData) (vs : List V), DtL K t H ds vs → PyData.canLayAll0 ds = true
  | [], _, _ => by simp [PyData.canLayAll0]
  | d :: ds, vs, h => by
    simp only [DtL] at h
    obtain ⟨v, r, _, h1, h2⟩ := h
    simp [PyData.canLayAll0, Dt.lay d v h1, DtL.lay ds r h2]
end
mutual
theorem Dt.reads {X : Cx} {pins : List (Addr × Obj)} {σ : St} {H : Hp} {s : Shared} {t : Addr} (I : Inv X pins σ H s) : ∀ (d : PyData) (v : V) (u : Value), Dt X.K t H d v → RelV v u → ∃ as, Reads s.heap u d as
  | .none, v, u, h, r => by simp only [Dt] at h; subst h; cases r; exact ⟨_, .none⟩
  | .bool b, v, u, h, r => by simp only [Dt] at h; subst h; cases r; exact ⟨_, .bool b⟩
  | .int i, v, u, h, r => by simp only [Dt] at h; subst h; obtain ⟨tk, rfl⟩ := r; exact ⟨_, .int i tk⟩
  | .str x, v, u, h, r => by simp only [Dt] at h; obtain ⟨h, _⟩ := h; subst h; obtain ⟨tk, rfl⟩ := r; exact ⟨_, .str x tk⟩
  | .tuple ds, v, u, h, r => by
    simp only [Dt] at h
    obtain ⟨a, xs, rfl, hs, q⟩ := h
    cases r
    obtain ⟨its, rv, ⟨o, ho, hc, n, hd⟩, _⟩ := I.tuple hs
    obtain ⟨as, ra⟩ := DtL.reads I ds xs its q rv
    exact ⟨as, .tuple ho hc hd (by simpa using ra)⟩
  | .list ds, v, u, h, r => by
    simp only [Dt] at h
    obtain ⟨a, xs, rfl, _, hs, q⟩ := h
    cases r
    obtain ⟨its, rv, ⟨o, n, ho, hc, _, hd⟩, _⟩ := I.list hs
    obtain ⟨as, ra⟩ := DtL.reads I ds xs its q rv
    exact ⟨_, .list ho hc hd (by simpa using ra)⟩
  | .dict _, _, _, h, _ => by simp [Dt] at h
theorem DtL.reads {X : Cx} {pins : List (Addr × Obj)} {σ : St} {H : Hp} {s : Shared} {t : Addr} (I : Inv X pins σ H s) : ∀ (ds : List PyData) (vs : List V) (us : List Value), DtL X.K t H ds vs → Vals vs us → ∃ as, ReadsAll s.heap us ds as
  | [], vs, us, h, r => by simp only [DtL] at h; subst h; cases r; exact ⟨_, .nil⟩
  | d :: ds, vs, us, h, r => by
    simp only [DtL] at h
    obtain ⟨v, vr, rfl, h1, h2⟩ := h
    cases r with
    | cons r1 r2 =>
      obtain ⟨as, a1⟩ := Dt.reads I d v _ h1 r1
      obtain ⟨bs, a2⟩ := DtL.reads I ds vr _ h2 r2
      exact ⟨_, .cons a1 a2⟩
end
def rEqD (K : PySem.W.Frag) (n : Bool) : R2 := fun x y H Q => ∃ t d e, Dt K t H d x ∧ Dt K t H e y ∧ min d.depth e.depth ≤ 100 ∧ Q (.bl (if n then !PyData.eqv d e else PyData.eqv d e)) H
theorem op_eqD {X : Cx} {k : Nat} (hr : Room k X.A) : OpR X (compareOp .Eq) (rEqD X.K false) := by
  intro pins s σ H x y v u Q I rx ry h
  obtain ⟨t, d, e, hd, he, hm, q⟩ := h
  obtain ⟨as, r1⟩ := Dt.reads I d x v hd rx
  obtain ⟨bs, r2⟩ := Dt.reads I e y u he ry
  exact PySem.SeqAt.compareEq_reads r1 r2 (Dt.lay d x hd) (Dt.lay e y he) (by have := hr.un; omega) ⟨.bl _, H, I, rfl, q⟩
def tyD : PyData → String
  | .none => "NoneType"
  | .bool _ => "bool"
  | .int _ => "int"
  | .str _ => "str"
  | .tuple _ => "tuple"
  | .list _ => "list"
  | .dict _ => "dict"
def isiD (d : PyData) (T : String) : Bool := match d with
  | .none => false
  | .bool _ => T == "bool" || T == "int"
  | .int _ => T == "int"
  | .str _ => T == "str"
  | .tuple _ => T == "tuple"
  | .list _ => T == "list"
  | .dict _ => T == "dict"
def isiTs : List String := ["int", "bool", "str", "tuple", "list"]
theorem kit_isi {K : PySem.W.Frag} (d : PyData) {T : String} (h : T ∈ isiTs) : PySem.W.kitOne K (.type (tyD d)) (.type T) = some (isiD d T) := by
  simp only [isiTs, List.mem_cons, List.not_mem_nil, or_false] at h
  rcases h with rfl | rfl | rfl | rfl | rfl <;> cases d <;> with_unfolding_all rfl
theorem isi_dt {X : Cx} {pins : List (Addr × Obj)} {σ : St} {H : Hp} {s : Shared} {A : Around} {E : Value → Shared → Prop} {Q : Value → Shared → Prop} {t : Addr} {d : PyData} {x : V} {u : Value} {T : String}
    (I : Inv X pins σ H s) (rx : RelV x u) (hd : Dt X.K t H d x) (hT : T ∈ isiTs) (h : ∀ tk, Q (.bool (isiD d T)) { s with toks := tk }) : wpAny (model X.prog X.w) A (call (.builtin "isinstance") [u, .type T]) Q E s := by
  have e := kit_isi (K := X.K) d hT
  cases d with
  | none => simp only [Dt] at hd; subst hd; cases rx; exact PySem.W.kia_one PySem.W.kitx_none I.kIn True.intro e (fun z => nomatch z) h
  | bool b => simp only [Dt] at hd; subst hd; cases rx; exact PySem.W.kia_one PySem.W.kitx_bool I.kIn True.intro e (fun z => nomatch z) h
  | int i => simp only [Dt] at hd; subst hd; obtain ⟨tk, rfl⟩ := rx; exact PySem.W.kia_one PySem.W.kitx_int I.kIn True.intro e (fun z => nomatch z) h
  | str y => simp only [Dt] at hd; obtain ⟨hd, _⟩ := hd; subst hd; obtain ⟨tk, rfl⟩ := rx; exact PySem.W.kia_one PySem.W.kitx_str I.kIn True.intro e (fun z => nomatch z) h
  | tuple ds =>
    simp only [Dt] at hd
    obtain ⟨a, xs, rfl, hs, _⟩ := hd
    cases rx
    obtain ⟨its, _, ⟨o, ho, hc, _⟩, _⟩ := I.tuple hs
    exact PySem.W.kia_one PySem.W.kitx_tuple I.kIn ⟨o, ho, hc⟩ e (fun z => nomatch z) h
  | list ds =>
    simp only [Dt] at hd
    obtain ⟨a, xs, rfl, _, hs, _⟩ := hd
    cases rx
    obtain ⟨its, _, ⟨o, n, ho, hc, _⟩, _⟩ := I.list hs
    exact PySem.W.kia_one PySem.W.kitx_list I.kIn ⟨o, ho, hc⟩ e (fun z => nomatch z) h
  | dict _ => simp [Dt] at hd
def rIsi (K : PySem.W.Frag) : List V → Hp → VK → Prop := fun xs H Q => ∃ x T t d, xs = [x, .ty T] ∧ T ∈ isiTs ∧ Dt K t H d x ∧ Q (.bl (isiD d T)) H
theorem call_isi {X : Cx} : CallR X (.builtin "isinstance") (rIsi X.K) := by
  intro pins s σ H xs us Q I r h
  obtain ⟨x, T, t, d, rfl, hT, hd, q⟩ := h
  cases r with
  | cons r1 r2 =>
    cases r2 with
    | cons r3 r4 =>
      cases r4
      cases r3
      exact isi_dt I r1 hd hT fun tk => ⟨.bl _, H, I.tok _, rfl, q⟩
theorem bt_isinstance : bootBuiltins "isinstance" = some (.builtin "isinstance") := by decide +kernel
theorem bt_min : bootBuiltins "min" = some (.builtin "min") := by decide +kernel
theorem bt_list : bootBuiltins "list" = some (.type "list") := by decide +kernel
theorem bt_int : bootBuiltins "int" = some (.type "int") := by decide +kernel
theorem bt_bool : bootBuiltins "bool" = some (.type "bool") := by decide +kernel
theorem bt_str : bootBuiltins "str" = some (.type "str") := by decide +kernel
theorem bt_tuple : bootBuiltins "tuple" = some (.type "tuple") := by decide +kernel
def Ext (t : Addr) (H H' : Hp) : Prop := ∀ b o, (b = t → ∀ xs, o ≠ .lst xs) → H b = some o → H' b = some o
theorem Ext.refl {t : Addr} (H : Hp) : Ext t H H := fun _ _ _ h => h
theorem Ext.trans {t : Addr} {H H1 H2 : Hp} (a : Ext t H H1) (b : Ext t H1 H2) : Ext t H H2 := fun c o n h => b c o n (a c o n h)
theorem Ext.new {t p : Addr} {H : Hp} (h : H p = none) (o : HO) : Ext t H (upd H p o) := fun b u _ q => by rw [upd_ne (ne_of_none q h)]; exact q
theorem Ext.at {t : Addr} {H : Hp} {xs : List V} (h : H t = some (.lst xs)) (o : HO) : Ext t H (upd H t o) := fun b u n q => by
  by_cases e : b = t
  · subst e; rw [h] at q; cases q; exact absurd rfl (n rfl xs)
  · rw [upd_ne e]; exact q
theorem Same.ext {t : Addr} {H H' : Hp} (h : Same H H') : Ext t H H' := fun b o _ q => h b o q
theorem Ext.sqT {K : PySem.W.Frag} {t a : Addr} {H H' : Hp} {xs : List V} (e : Ext t H H') (h : SqT K H a xs) : SqT K H' a xs := by
  rcases h with (h | ⟨o, h⟩) | h
  · exact .inl (.inl (e _ _ (fun _ _ z => nomatch z) h))
  · exact .inl (.inr ⟨o, e _ _ (fun _ _ z => nomatch z) h⟩)
  · exact .inr h
theorem Ext.sqL {K : PySem.W.Frag} {t a : Addr} {H H' : Hp} {xs : List V} (e : Ext t H H') (hn : a ≠ t) (h : SqL K H a xs) : SqL K H' a xs := by
  rcases h with (h | ⟨o, h⟩) | h
  · exact .inl (.inl (e _ _ (fun z => absurd z hn) h))
  · exact .inl (.inr ⟨o, e _ _ (fun z => absurd z hn) h⟩)
  · exact .inr h
mutual
theorem Dt.ext {K : PySem.W.Frag} {t : Addr} {H H' : Hp} (e : Ext t H H') : ∀ (d : PyData) (v : V), Dt K t H d v → Dt K t H' d v
  | .none, _, h => by simp only [Dt] at h ⊢; exact h
  | .bool _, _, h => by simp only [Dt] at h ⊢; exact h
  | .int _, _, h => by simp only [Dt] at h ⊢; exact h
  | .str _, _, h => by simp only [Dt] at h ⊢; exact h
  | .tuple ds, v, h => by
    simp only [Dt] at h ⊢
    obtain ⟨a, xs, h1, h2, h3⟩ := h
    exact ⟨a, xs, h1, e.sqT h2, DtL.ext e ds xs h3⟩
  | .list ds, v, h => by
    simp only [Dt] at h ⊢
    obtain ⟨a, xs, h1, h2, h3, h4⟩ := h
    exact ⟨a, xs, h1, h2, e.sqL h2 h3, DtL.ext e ds xs h4⟩
  | .dict _, _, h => by simp [Dt] at h
theorem DtL.ext {K : PySem.W.Frag} {t : Addr} {H H' : Hp} (e : Ext t H H') : ∀ (ds : List PyData) (vs : List V), DtL K t H ds vs → DtL K t H' ds vs
  | [], _, h => by simp only [DtL] at h ⊢; exact h
  | d :: ds, vs, h => by
    simp only [DtL] at h ⊢
    obtain ⟨v, r, h1, h2, h3⟩ := h
    exact ⟨v, r, h1, Dt.ext e d v h2, DtL.ext e ds r h3⟩
end
theorem Dt.on {K : PySem.W.Frag} {t : Addr} {H H' : Hp} {d : PyData} {v : V} (h : Dt K t H d v) (e : Ext t H H') : Dt K t H' d v := Dt.ext e d v h
theorem DtL.on {K : PySem.W.Frag} {t : Addr} {H H' : Hp} {d : List PyData} {v : List V} (h : DtL K t H d v) (e : Ext t H H') : DtL K t H' d v := DtL.ext e d v h
section
variable {K : PySem.W.Frag} {t p : Addr} {H : Hp}
theorem Dt.non : Dt K t H .none .non := by simp [Dt]
theorem Dt.bl (b : Bool) : Dt K t H (.bool b) (.bl b) := by simp [Dt]
theorem Dt.int (i : Int) : Dt K t H (.int i) (.int i) := by simp [Dt]
theorem Dt.str {x : Str} (h : PyData.strOk x = true) : Dt K t H (.str x) (.str x) := by simp [Dt, h]
theorem DtL.nil : DtL K t H [] [] := by simp [DtL]
theorem DtL.cons {d : PyData} {v : V} {ds : List PyData} {vs : List V} (h : Dt K t H d v) (q : DtL K t H ds vs) : DtL K t H (d :: ds) (v :: vs) := by
  simp only [DtL]
  exact ⟨v, vs, rfl, h, q⟩
theorem Dt.tup {a : Addr} {xs : List V} {ds : List PyData} (h : SqT K H a xs) (q : DtL K t H ds xs) : Dt K t H (.tuple ds) (.ref a) := by
  simp only [Dt]
  exact ⟨a, xs, rfl, h, q⟩
theorem Dt.lst {a : Addr} {xs : List V} {ds : List PyData} (hn : a ≠ t) (h : SqL K H a xs) (q : DtL K t H ds xs) : Dt K t H (.list ds) (.ref a) := by
  simp only [Dt]
  exact ⟨a, xs, rfl, hn, h, q⟩
theorem Dt.newT {xs : List V} {ds : List PyData} (hp : H p = none) (q : DtL K t H ds xs) : Dt K t (upd H p (.tup xs)) (.tuple ds) (.ref p) :=
  .tup (.of upd_same) (q.on (.new hp _))
theorem Dt.tup_inv {ds : List PyData} {v : V} (h : Dt K t H (.tuple ds) v) : ∃ a xs, v = .ref a ∧ SqT K H a xs ∧ DtL K t H ds xs := by simpa only [Dt] using h
end
def ScL (K : PySem.W.Frag) (t : Addr) (H : Hp) (a : Addr) (xs : List V) : Prop := (a ≠ t ∧ SqL K H a xs) ∨ ∀ H', SqL K H' a xs
theorem ScL.sq {K : PySem.W.Frag} {t : Addr} {H : Hp} {a : Addr} {xs : List V} (h : ScL K t H a xs) : SqL K H a xs := h.elim (fun z => z.2) fun z => z H
theorem ScL.on {K : PySem.W.Frag} {t : Addr} {H H' : Hp} {a : Addr} {xs : List V} (h : ScL K t H a xs) (e : Ext t H H') : ScL K t H' a xs := h.elim (fun z => .inl ⟨z.1, e.sqL z.1 z.2⟩) .inr
theorem ScL.of {K : PySem.W.Frag} {t : Addr} {H : Hp} {a : Addr} {xs : List V} (h : SqL K H a xs) (hp : H t = none) (o : HO) : ScL K t (upd H t o) a xs := by
  rcases h with (h | ⟨u, h⟩) | h
  · exact .inl ⟨ne_of_none h hp, .inl (.inl (by rw [upd_ne (ne_of_none h hp)]; exact h))⟩
  · exact .inl ⟨ne_of_none h hp, .inl (.inr ⟨u, by rw [upd_ne (ne_of_none h hp)]; exact h⟩)⟩
  · exact .inr fun _ => .inr h
def Tape (K : PySem.W.Frag) (ns : List Int) (t : Addr) (H : Hp) : Prop :=
  ∃ (sc : Addr) (sp cr wy : Int), H t = some (.lst [.ref sc, .int sp, .int cr, .int wy]) ∧ ScL K t H sc (ns.map V.int)
set_option genInjectivity false in
set_option genSizeOf false in
structure Cur (K : PySem.W.Frag) (ns : List Int) (t : Addr) (H₀ H : Hp) : Prop where
  tape : Tape K ns t H
  ext : Ext t H₀ H
section
variable {K : PySem.W.Frag} {ns : List Int} {t p : Addr} {H₀ H H' : Hp}
theorem Tape.cur (h : Tape K ns t H) : Cur K ns t H H := ⟨h, .refl H⟩
theorem Tape.ne (h : Tape K ns t H) (hp : H p = none) : p ≠ t := by
  obtain ⟨_, _, _, _, e, _⟩ := h
  exact (ne_of_none e hp).symm
theorem Tape.new (h : Tape K ns t H) (hp : H p = none) (o : HO) : Tape K ns t (upd H p o) := by
  have n := h.ne hp
  obtain ⟨sc, sp, cr, wy, e, l⟩ := h
  exact ⟨sc, sp, cr, wy, by rw [upd_ne n.symm]; exact e, l.on (.new hp o)⟩
theorem Cur.new (c : Cur K ns t H₀ H) (hp : H p = none) (o : HO) : Cur K ns t H₀ (upd H p o) := ⟨c.tape.new hp o, c.ext.trans (.new hp o)⟩
theorem Cur.then (c : Cur K ns t H₀ H) (d : Cur K ns t H H') : Cur K ns t H₀ H' := ⟨d.tape, c.ext.trans d.ext⟩
theorem Cur.ne (c : Cur K ns t H₀ H) (hp : H p = none) : p ≠ t := c.tape.ne hp
end
end L2
namespace L2
open PySem PySem.Spec PyProof.Rows
theorem Df.void {P : Program} {w : World} {K : PySem.W.Frag} {mg : Str → Option Value} {base : Heap} {x : Str} {st : Stmt} {ps : List Str} {k : Nat} {sp : Sp} (F : Df K mg x st ps) (no : ∀ vs H Q E, ¬ sp vs H Q E) : Dn P w K mg base k x ps sp := by
  obtain ⟨f, fd, F1, b, m⟩ := F.ex
  exact ⟨f, fd, ⟨fun vs H Q E h => absurd h (no vs H Q E), fun A outer s H args us vs Q E _ _ _ _ h => absurd h (no vs H Q E)⟩, b, F1.kp, m⟩
end L2
namespace L2
open PySem PySem.Spec PyProof.Rows
theorem r_K {CX : CXT} {P : Program} {w : World} {K : PySem.W.Frag} {mg : Str → Option Value} {base : Heap} {N : List Str} {qual : Str} {scope : Scope} {f : Addr} {cd : Value} {A : Around} {outer : List Env} {s : Shared} {H : Hp} {E : XK} :
    (cxOf CX P w K mg base N qual scope f cd A outer s H E).K = K := rfl
def rLenS (K : PySem.W.Frag) : List V → Hp → VK → Prop := fun xs H Q => ∃ p ys, xs = [.ref p] ∧ (SqL K H p ys ∨ SqT K H p ys) ∧ Q (.int ys.length) H
theorem call_lenS {X : Cx} : CallR X (.builtin "len") (rLenS X.K) := call_len_seq
def rMin2 : List V → Hp → VK → Prop := fun xs H Q => ∃ i j, xs = [.int i, .int j] ∧ Q (.int (if j < i then j else i)) H
theorem call_minS {X : Cx} (hc : X.calm = true) : CallR X (.builtin "min") rMin2 := call_min2 hc
def rMax2 : List V → Hp → VK → Prop := fun xs H Q => ∃ i j, xs = [.int i, .int j] ∧ Q (.int (if j > i then j else i)) H
def rIsNn (n : Bool) : R2 := fun x y H Q => y = .non ∧ Q (.bl (if n then !decide (x = .non) else decide (x = .non))) H
theorem op_isNS {X : Cx} : OpR X (compareOp .Is) (rIsNn false) := op_isN
theorem op_notNS {X : Cx} : OpR X (compareOp .IsNot) (rIsNn true) := op_notN
end L2
namespace L2
open PySem PySem.Spec PyProof.Rows
def tCut (t u : TS) : TS := fun D σ H => ∃ M : St → Hp → Prop, t { D with nx := M } σ H ∧ ∀ σ' H', M σ' H' → u D σ' H'
theorem pss_cut {X : Cx} {st : Stmt} {rest : List Stmt} {t u : TS} (h1 : PS X st t) (h2 : PSs X rest u) : PSs X (st :: rest) (tCut t u) := by
  intro pins s σ H D I h
  obtain ⟨M, a, b⟩ := h
  refine wpAny_execs_cons (thn (h1 pins s σ H _ I a) fun f s1 q => ?_)
  cases f with
  | next => obtain ⟨σ1, H1, I1, q1⟩ := q; exact h2 pins s1 σ1 H1 D I1 (b _ _ q1)
  | brk => exact q
  | cont => exact q
  | ret v => exact q
theorem r_cut {D : Ends} {σ : St} {H : Hp} {t u : TS} (M : St → Hp → Prop) (a : ∀ M' : St → Hp → Prop, (∀ σ H, M σ H → M' σ H) → t { D with nx := M' } σ H) (b : ∀ σ' H', M σ' H' → u D σ' H') : tCut t u D σ H := ⟨M, a M fun _ _ h => h, b⟩
end L2
namespace L2
open PySem PySem.Spec PyProof.Rows
theorem Fun.okS {P : Program} {w : World} {K : PySem.W.Frag} {mg : Str → Option Value} {base : Heap} {x qual : Str} {st : Stmt} {f : Addr} {fd : FuncData} {N ps : List Str} {k : Nat} {sp : Sp} (F : Fun K x qual st f fd) (S : FnScope N ps (defScope st)) (len : ∀ vs H Q E, sp vs H Q E → vs.length = ps.length)
    (hbody : ∀ (cdv : Value) (A : Around) (outer : List Env) (s : Shared) (H : Hp) (vs : List V) (Q : VK) (E : XK), Room k (A.deeper (envOfC qual (defScope st) s.heap.objs.size f cdv)) → sp vs H Q E →
      ∃ (t : TS) (σ : St), PSs (cxOf CX0 P w K mg base N qual (defScope st) f cdv A outer s H E).nox (defBody st) t ∧ start N vs = σ ∧ t { nx := fun _ H' => Q .non H', rt := Q } σ H) : FnOk P w K mg base CX0 (k + 1) f fd ps sp :=
  F.ok S len fun cdv A outer s H vs Q E hr h => by
    obtain ⟨t, σ, h1, rfl, h2⟩ := hbody cdv A outer s H vs Q E hr h
    exact ⟨t, h1, h2⟩
end L2
namespace L2
open PySem PySem.Spec PyProof.Rows
section
variable {D : Ends} {σ : St} {H : Hp} {K : PySem.W.Frag} {ta tb tc te : TE} {t u : TS} {tt uu : TT} {tr : TA} {g : TG} {Q : VK} {B : Bool → Hp → Prop} {L : List V → Hp → Prop} {x y v : V} {r r' : R2} {G : St → Hp → Prop} {S : Hp → Prop}
theorem r_seq : tSeq t u D σ H = t { D with nx := u D } σ H := rfl
theorem r_next : tNext D σ H = D.nx σ H := rfl
theorem r_asg : tAsg te g D σ H = te σ H fun x H1 => g x σ H1 D.nx := rfl
theorem r_ret : tRet te D σ H = te σ H D.rt := rfl
theorem r_retN : tRetN D σ H = D.rt .non H := rfl
theorem r_drop : tDrop te D σ H = te σ H fun _ H1 => D.nx σ H1 := rfl
theorem r_ifS : tIfS tt t u D σ H = tt σ H fun b H1 => if b = true then t D σ H1 else u D σ H1 := rfl
theorem r_name {i : Nat} : gName i v σ H G = G (σ.set i (some v)) H := rfl
theorem r_sub {ts : TSet} : gSub ta tb ts v σ H G = ta σ H fun o H1 => tb σ H1 fun i H2 => ts o i v H2 fun H3 => G σ H3 := rfl
theorem r_var {v : V} : tVar 0 (some v :: σ) H Q = Q v H := rfl
theorem r_varS {i : Nat} {x : Option V} : tVar (i + 1) (x :: σ) H Q = tVar i σ H Q := rfl
theorem r_c : tC v σ H Q = Q v H := rfl
theorem r_op : tOp r ta tb σ H Q = ta σ H fun x H1 => tb σ H1 fun y H2 => r x y H2 Q := rfl
theorem r_un {p : V → Hp → VK → Prop} : tUn p ta σ H Q = ta σ H fun x H1 => p x H1 Q := rfl
theorem r_test : tTest te σ H B = te σ H fun x H' => ∃ k, x = .bl k ∧ B k H' := rfl
theorem r_tB : tB te σ H B = te σ H fun x H' => ∃ k, x = .bl k ∧ B k H' := rfl
theorem r_and : tAnd tt uu σ H B = tt σ H fun c H1 => if c = true then uu σ H1 B else B false H1 := rfl
theorem r_or : tOr tt uu σ H B = tt σ H fun c H1 => if c = true then B true H1 else uu σ H1 B := rfl
theorem r_not : tNot tt σ H B = tt σ H fun c H1 => B (!c) H1 := rfl
theorem r_andV : tAndV ta tb σ H Q = ta σ H fun x H1 => ∃ c, x = .bl c ∧ if c = true then tb σ H1 Q else Q (.bl false) H1 := rfl
theorem r_orV : tOrV ta tb σ H Q = ta σ H fun x H1 => ∃ c, x = .bl c ∧ if c = true then Q (.bl true) H1 else tb σ H1 Q := rfl
theorem r_notV : tNotV ta σ H Q = ta σ H fun x H1 => ∃ c, x = .bl c ∧ Q (.bl (!c)) H1 := rfl
theorem r_ifE : tIf tt ta tb σ H Q = tt σ H fun c H1 => if c = true then ta σ H1 Q else tb σ H1 Q := rfl
theorem r_chain : tChain r r' ta tb tc σ H Q = ta σ H fun x H1 => tb σ H1 fun y H2 => r x y H2 fun z H3 => ∃ k, z = .bl k ∧ (if k = true then tc σ H3 fun w' H4 => r' y w' H4 Q else Q (.bl false) H3) := rfl
theorem r_nil : tNil σ H L = L [] H := rfl
theorem r_cons : tCons ta tr σ H L = ta σ H fun x H1 => tr σ H1 fun xs H2 => L (x :: xs) H2 := rfl
theorem r_tup : tTup tr σ H Q = tr σ H fun xs H1 => xs.length ≤ sizeLine ∧ ∀ p, H1 p = none → Q (.ref p) (upd H1 p (.tup xs)) := rfl
theorem r_lst : tLst tr σ H Q = tr σ H fun xs H1 => xs.length ≤ sizeLine ∧ ∀ p, H1 p = none → Q (.ref p) (upd H1 p (.lst xs)) := rfl
theorem r_call {sp : Sp} {dvs : List V} {E : XK} : tCall sp dvs E tr σ H Q = tr σ H fun vs H1 => sp (vs ++ dvs) H1 Q E := rfl
theorem r_cb {p : List V → Hp → VK → Prop} : tCB p tr σ H Q = tr σ H fun vs H1 => p vs H1 Q := rfl
theorem r_I {C : Int → Int → Prop} {f : Int → Int → V} {i j : Int} : rI C f (.int i) (.int j) H Q = (C i j ∧ Q (f i j) H) := rfl
theorem r_I0 {f : Int → Int → V} {i j : Int} : rI0 f (.int i) (.int j) H Q = Q (f i j) H := rfl
theorem r_eqI {i j : Int} : rEq (.int i) (.int j) H Q = Q (.bl (decide (i = j))) H := rfl
theorem r_neI {i j : Int} : rNe (.int i) (.int j) H Q = Q (.bl (!decide (i = j))) H := rfl
theorem r_eqB {i j : Bool} : rEq (.bl i) (.bl j) H Q = Q (.bl (i == j)) H := rfl
theorem r_eqS {i j : Str} : rEq (.str i) (.str j) H Q = Q (.bl (decide (i = j))) H := rfl
theorem r_neS {i j : Str} : rNe (.str i) (.str j) H Q = Q (.bl (!decide (i = j))) H := rfl
theorem r_ixL {p : Addr} {i : Int} : rIxL K (.ref p) (.int i) H Q = ∃ xs, SqL K H p xs ∧ ∃ v, atI xs i = some v ∧ Q v H := rfl
theorem r_ixT {p : Addr} {i : Int} : rIxT K (.ref p) (.int i) H Q = ∃ xs, SqT K H p xs ∧ ∃ v, atI xs i = some v ∧ Q v H := rfl
theorem r_setL {p : Addr} {i : Int} : rSetL (.ref p) (.int i) v H S = ∃ xs, H p = some (.lst xs) ∧ ∃ j, ixN xs.length i = some j ∧ S (upd H p (.lst (xs.set j v))) := by
  unfold rSetL
  exact propext ⟨fun ⟨a, xs, b, j, h1, h2, h3, h4, h⟩ => by cases h1; cases h2; exact ⟨xs, h3, j, h4, h⟩, fun ⟨xs, h3, j, h4, h⟩ => ⟨p, xs, i, j, rfl, rfl, h3, h4, h⟩⟩
theorem r_sl {rs : V → Option Int → Option Int → Hp → VK → Prop} {tl th : TO} : tSl rs te tl th σ H Q = te σ H fun x H1 => tl σ H1 fun l H2 => th σ H2 fun u H3 => rs x l u H3 Q := rfl
theorem r_noP {O : Option Int → Hp → Prop} : tNoPart σ H O = O none H := rfl
theorem r_part {O : Option Int → Hp → Prop} : tPart te σ H O = te σ H fun x H1 => ∃ i, x = .int i ∧ O (some i) H1 := rfl
theorem r_bm {T : String} {rr : V → List V → Hp → VK → Prop} : tBM K T rr te tr σ H Q = te σ H fun x H1 => tyV K T x H1 ∧ tr σ H1 fun xs H2 => rr x xs H2 Q := rfl
def ForR (g : TG) (t : TS) (D : Ends) (σ : St) (J : It) (H1 : Hp) : Prop := ∃ W : Nat → Nat → St → Hp → Prop, (∃ m, W 0 m σ H1) ∧ ∀ i m σ H, W i m σ H →
  (J.stop i H ∧ D.nx σ H) ∨ (J.go i H ∧ ∃ N : St → Hp → Prop, (∀ σ' H', N σ' H' → ∃ m', m' < m ∧ W (i + 1) m' σ' H') ∧ ∀ x H', J.yld i H x H' → g x σ H' fun σ2 H2 => t { D with nx := N, ct := N, bk := D.nx } σ2 H2)
theorem r_for {wi : TI} : tFor wi g t D σ H = wi σ H fun J H1 => ForR g t D σ J H1 := rfl
theorem r_rng1 {R : It → Hp → Prop} : iRng1 tr σ H R = tr σ H fun vs H1 => ∃ j : Int, vs = [.int j] ∧ -(2 ^ 62) ≤ j ∧ j < 2 ^ 62 ∧ R (Itr 0 j.toNat) H1 := rfl
theorem r_iL {R : It → Hp → Prop} : iList K te σ H R = te σ H fun x H1 => ∃ a, x = .ref a ∧ (∃ xs, SqL K H1 a xs) ∧ R (Itl K a) H1 := rfl
theorem r_iT {R : It → Hp → Prop} : iTup K te σ H R = te σ H fun x H1 => ∃ a, x = .ref a ∧ (∃ xs, SqT K H1 a xs) ∧ R (Itt K a) H1 := rfl
theorem lst_of {a : Addr} {xs : List V} (Pv : Nat → St → Hp → Prop) (h0 : Pv 0 σ H) (hl : ∀ i σ H, i ≤ xs.length → Pv i σ H → SqL K H a xs)
    (hs : ∀ (Pv' : Nat → St → Hp → Prop), (∀ i σ H, Pv i σ H → Pv' i σ H) → ∀ i x σ H, xs[i]? = some x → Pv i σ H → g x σ H fun σ2 H2 => t { D with nx := Pv' (i + 1), ct := Pv' (i + 1), bk := D.nx } σ2 H2) (hd : ∀ σ H, Pv xs.length σ H → D.nx σ H) :
    ForR g t D σ (Itl K a) H := for_list Pv h0 hl (fun i x σ H a b => hs Pv (fun _ _ _ z => z) i x σ H a b) hd
theorem tup_of {a : Addr} {xs : List V} (Pv : Nat → St → Hp → Prop) (h0 : Pv 0 σ H) (hl : ∀ i σ H, i ≤ xs.length → Pv i σ H → SqT K H a xs)
    (hs : ∀ (Pv' : Nat → St → Hp → Prop), (∀ i σ H, Pv i σ H → Pv' i σ H) → ∀ i x σ H, xs[i]? = some x → Pv i σ H → g x σ H fun σ2 H2 => t { D with nx := Pv' (i + 1), ct := Pv' (i + 1), bk := D.nx } σ2 H2) (hd : ∀ σ H, Pv xs.length σ H → D.nx σ H) :
    ForR g t D σ (Itt K a) H := for_tup Pv h0 hl (fun i x σ H a b => hs Pv (fun _ _ _ z => z) i x σ H a b) hd
end
end L2
namespace L2
open PySem PySem.Spec PyProof.Rows
section
variable {K : PySem.W.Frag} {H : Hp} {t : Addr} {Q : VK} {E : XK} {x y : V} {d e : PyData}
theorem isi_of {T : String} (hd : Dt K t H d x) (h : Q (.bl (isiD d T)) H) (hT : T ∈ isiTs := by decide) : rIsi K [x, .ty T] H Q := ⟨x, T, t, d, rfl, hT, hd, h⟩
theorem eqF_of (h1 : Dt K t H d x) (h2 : Dt K t H e y) (hm : min d.depth e.depth ≤ 100) (h : Q (.bl (PyData.eqv d e)) H) : rEqD K false x y H Q := ⟨t, d, e, h1, h2, hm, h⟩
theorem dstr (x : Str) (h : PyData.strOk x = true := by decide +kernel) : Dt K t H (.str x) (.str x) := .str h
theorem depR {d e : PyData} {n : Nat} (h : e.depth = n) (hn : n ≤ 100 := by decide) : min d.depth e.depth ≤ 100 := Nat.le_trans (Nat.min_le_right _ _) (by rw [h]; exact hn)
theorem len_of {p : Addr} {ys : List V} (h : SqL K H p ys) (q : Q (.int ys.length) H) : rLenS K [.ref p] H Q := ⟨p, ys, rfl, .inl h, q⟩
theorem cat_of {a b : Addr} {xs ys : List V} (h1 : H a = some (.lst xs)) (h2 : H b = some (.lst ys)) (hz : xs.length + ys.length ≤ sizeLine) (q : ∀ p, H p = none → Q (.ref p) (upd H p (.lst (xs ++ ys)))) : rCat (.ref a) (.ref b) H Q :=
  ⟨a, b, xs, ys, rfl, rfl, h1, h2, hz, q⟩
theorem r_min2 {i j : Int} : rMin2 [.int i, .int j] H Q = Q (.int (if j < i then j else i)) H := by
  unfold rMin2
  exact propext ⟨fun ⟨a, b, h1, h⟩ => by cases h1; exact h, fun h => ⟨i, j, rfl, h⟩⟩
theorem r_max2 {i j : Int} : rMax2 [.int i, .int j] H Q = Q (.int (if j > i then j else i)) H := by
  unfold rMax2
  exact propext ⟨fun ⟨a, b, h1, h⟩ => by cases h1; exact h, fun h => ⟨i, j, rfl, h⟩⟩
theorem r_isNf : rIsNn false x .non H Q = Q (.bl (decide (x = .non))) H := propext ⟨fun h => h.2, fun h => ⟨rfl, h⟩⟩
theorem r_isNt : rIsNn true x .non H Q = Q (.bl (!decide (x = .non))) H := propext ⟨fun h => h.2, fun h => ⟨rfl, h⟩⟩
theorem DtL.get : ∀ {ds : List PyData} {xs : List V} {i : Nat} {d : PyData}, DtL K t H ds xs → ds[i]? = some d → ∃ v, xs[i]? = some v ∧ Dt K t H d v
  | [], _, _, _, _, h => by simp at h
  | a :: r, xs, 0, d, q, h => by
    simp only [DtL] at q
    obtain ⟨v, s, rfl, h1, h2⟩ := q
    simp at h
    subst h
    exact ⟨v, rfl, h1⟩
  | a :: r, xs, i + 1, d, q, h => by
    simp only [DtL] at q
    obtain ⟨v, s, rfl, h1, h2⟩ := q
    obtain ⟨u, e1, e2⟩ := DtL.get (i := i) h2 (by simpa using h)
    exact ⟨u, by simpa using e1, e2⟩
theorem DtL.len {ds : List PyData} {xs : List V} (q : DtL K t H ds xs) : ds.length = xs.length := by
  induction ds generalizing xs with
  | nil => simp only [DtL] at q; subst q; rfl
  | cons a r ih =>
    simp only [DtL] at q
    obtain ⟨v, s, rfl, h1, h2⟩ := q
    simp [ih h2]
end
end L2
namespace L2
open PySem PySem.Spec PyProof.Rows
@[irreducible] def QA (X : Cx) (es : List Expr) (t : TA) : Prop := PA X es t
@[irreducible] def QS (X : Cx) (ss : List Stmt) (t : TS) : Prop := PSs X ss t
theorem QA.pa {X : Cx} {es : List Expr} {t : TA} (h : QA X es t) : PA X es t := by unfold QA at h; exact h
end L2
namespace L2
open PySem PySem.Spec PyProof.Rows
theorem comp_loop {prog : Program} {w : World} {A : Around} {R : Result → Shared → Prop} {s : Shared} {elt target iter : Expr} {ifs : List Expr} {scope : Scope} {pos : Pos} {it acc : Value} {env : Env} (I : Nat → Shared → Prop)
    (turn : ∀ n s, I n s → wpAny (model prog w) A (pyNext it) (fun r s₁ => match r with
      | none => R (.ok .next) s₁
      | some v => wpAny (model prog w) A (letOwnedTupleGo target it v) (fun _ s₁' => wpAny (model prog w) A (assign target env v) (fun _ s₂ =>
          wpAny (model prog w) A (forIn ifs true fun c r => if r = true then do let ok ← isTrue c env (eval c env); pure (ForInStep.yield ok) else pure (ForInStep.yield r)) (fun ok s₃ =>
            if ok = true then wpAny (model prog w) A (eval elt env) (fun x s₄ =>
              wpAny (model prog w) A (call (.builtin "list.append") [acc, x]) (fun _ s₅ => ∃ m, m < n ∧ I m s₅) (fun _ _ => False) s₄) (fun _ _ => False) s₃
            else ∃ m, m < n ∧ I m s₃) (fun _ _ => False) s₂) (fun _ _ => False) s₁') (fun _ _ => False) s₁) (fun _ _ => False) s)
    (n : Nat) (h : I n s) :
    codeAny (model prog w) A (.compLoop (.ListComp elt [⟨target, iter, ifs, 0⟩] scope pos) 0 it acc env) R s := by
  refine codeAny_loop rfl I (fun n s hI => ?_) n h
  show wpAny _ A ((compTurn (.ListComp elt [⟨target, iter, ifs, 0⟩] scope pos) 0 it acc env).onRaise (fun x => do noteFrame x env; theTreesLotGoes x)) _ _ s
  refine wpAny_noted ?_
  rw [compTurn_list]
  have nf : ∀ {α : Type} {t : Sem α} {Q : α → Shared → Prop} {E : Value → Shared → Prop} {s : Shared}, wpAny (model prog w) A t Q (fun _ _ => False) s → wpAny (model prog w) A t Q E s := fun h => wpAny_mono h (fun _ _ q => q) fun _ _ f => f.elim
  refine wpAny_bind (wpAny_standAt (wpAny_bind (wpAny_mono (turn n s hI) (fun r s₁ h₁ => ?_) fun _ _ h' => h'.elim)))
  cases r with
  | none => exact wpAny_pure h₁
  | some v =>
    refine wpAny_bind (wpAny_mono h₁ (fun _ s₁' h₁' => ?_) fun _ _ h' => h'.elim)
    refine wpAny_bind (wpAny_mono h₁' (fun _ s₂ h₂ => wpAny_bind (wpAny_mono h₂ (fun ok s₃ h₃ => ?_) fun _ _ h' => h'.elim)) fun _ _ h' => h'.elim)
    cases ok with
    | false => exact wpAny_pure ⟨rfl, h₃⟩
    | true =>
      exact wpAny_bind (wpAny_bind (wpAny_mono h₃ (fun x s₄ h₄ => wpAny_bind (wpAny_mono h₄ (fun _ s₅ h₅ => wpAny_pure (wpAny_pure ⟨rfl, h₅⟩)) fun _ _ h' => h'.elim)) fun _ _ h' => h'.elim))
def compCx (X : Cx) (N : List Str) (x : Str) (scope : Scope) (cl : List (Str × Addr)) (C : Addr) (s : Shared) (H : Hp) (fp : List Addr) : Cx :=
  { X with N := N, s₀ := s, H₀ := H, env := compEnvC scope cl C X.env, outer := X.stack, ex := fp, fn := fun y => decide (y = x), pn := [], xe := fun _ _ => False }
set_option genInjectivity false in
set_option genSizeOf false in
structure CompScope (X : Cx) (N : List Str) (x : Str) (scope : Scope) (cl : List (Str × Addr)) : Prop where
  clos : closureFor scope X.env = pure cl
  nocell : ∀ y ∈ scope.names, y.2 ≠ .cell
  kind : scope.kind = .function
  names : ∀ y ∈ scope.names, y.2 = .local → scope.names.lookup y.1 = some .local
  loc : scope.names.lookup x = some .local
  nd : N.Nodup
  hd : N[0]? = some x
  len : N.length = X.N.length + 1
  tl : ∀ j y, N[j + 1]? = some y → Vis (relabel scope X.env) y → X.N[j]? = some y ∧ X.env.kindOf y = some .cell ∧ Vis X.env.scope y ∧ ((relabel scope X.env).names.lookup y = some .cell ∨ (relabel scope X.env).names.lookup y = some .free) ∧ cl.lookup y = X.env.cells.lookup y
  sub : ∀ y c, cl.lookup y = some c → X.env.cells.lookup y = some c
  has : ∀ y, ((relabel scope X.env).names.lookup y = some .cell ∨ (relabel scope X.env).names.lookup y = some .free) → ∃ c, cl.lookup y = some c
  nox : cl.lookup x = none
def PTs (X : Cx) (ifs : List Expr) (t : TT) : Prop :=
  ∀ (pins : List (Addr × Obj)) (s : Shared) (σ : St) (H : Hp) (Q : Bool → Hp → Prop), Inv X pins σ H s → t σ H Q →
    wpAny (model X.prog X.w) X.A (forIn ifs true fun c r => if r = true then do let ok ← isTrue c X.env (eval c X.env); pure (ForInStep.yield ok) else pure (ForInStep.yield r)) (TP X pins σ Q) X.xe s
def tTrue : TT := fun _ H Q => Q true H
theorem pts_nil {X : Cx} : PTs X [] tTrue := fun _ _ _ H _ I h => wpAny_tests_nil ⟨H, I, h⟩
def tComp (wi : TI) (tt : TT) (te : TE) : TE := fun σ H Q => wi σ H fun J H1 => ∀ D, H1 D = none → ∃ W : Nat → Nat → Hp → Prop, (∃ m, W 0 m (upd H1 D (.lst []))) ∧ ∀ i m H, W i m H →
  (J.stop i H ∧ Q (.ref D) H) ∨ (J.go i H ∧ ∀ x H', J.yld i H x H' → tt (some x :: σ) H' fun b H2 =>
    if b = true then te (some x :: σ) H2 fun y H3 => ∃ ys, H3 D = some (.lst ys) ∧ ys.length < sizeLine ∧ ∃ m', m' < m ∧ W (i + 1) m' (upd H3 D (.lst (ys ++ [y])))
    else ∃ m', m' < m ∧ W (i + 1) m' H2)
section
variable {X : Cx} {pins : List (Addr × Obj)} {σ : St} {H : Hp} {s : Shared} {N : List Str} {x : Str} {scope : Scope} {cl : List (Str × Addr)} {fp : List Addr} {it : Addr} {tn : Nat → Heap → Prop} {J : It} {px : Pos}
theorem compOk (S : CompScope X N x scope cl) (I : Inv X pins σ H s) (hf : ∀ b ∈ fp, FpOk X pins H b) (hb : ∀ b ∈ fp, b < s.heap.objs.size) : (compCx X N x scope cl s.heap.objs.size s H fp).Ok where
  mod := I.ok.mod
  kind := S.kind
  glob := I.ok.glob
  blt := I.ok.blt
  above := Nat.le_refl _
  inj := fun y z c h1 h2 => I.ok.inj y z c (S.sub y c h1) (S.sub z c h2)
  has := fun y hy => S.has y hy
  cab := fun y c h1 h2 => by
    have e : y = x := of_decide_eq_true h1
    subst e
    have q : cl.lookup y = some c := h2
    rw [S.nox] at q; cases q
  hd := I.ok.hd
  frames := I.ok.frames
  stk := .inl rfl
  exf := fun b hb' => ⟨Nat.ne_of_lt (hb b hb'), fun y c h => (hf b hb').2.2.2.2.1 y c (S.sub y c h)⟩
  bs := I.bs
  bsz := Nat.le_trans I.ok.bsz I.sz
  noex := fun b o e hb' => by
    rcases (hf b hb').2.2.2.1 with z | z
    · exact I.ok.noex b o e z
    · exact absurd (Nat.lt_of_lt_of_le (Heap.lt_size e) (Nat.le_trans I.ok.bsz z)) (Nat.lt_irrefl _)
  exfs := fun b hb' hs => by
    rcases List.mem_cons.mp (I.stkSub b hs) with z | z
    · exact (hf b hb').2.1 z
    · exact (hf b hb').2.2.1 z
  funs := I.stack
  frf := I.stkFree
theorem compInv (S : CompScope X N x scope cl) (I : Inv X pins σ H s) (hf : ∀ b ∈ fp, FpOk X pins H b) (hb : ∀ b ∈ fp, b < s.heap.objs.size) {h' : Heap} {m : Str → Option Value} {tk : Nat} (hn : h'.Ns s.heap.objs.size m)
    (k : ∀ b u, s.heap.get? b = some u → h'.get? b = some u) : Inv (compCx X N x scope cl s.heap.objs.size s H fp) [] (none :: σ) H { s with heap := h', toks := tk } where
  ok := compOk S I hf hb
  os := rfl
  bare := I.bare
  base := Un.kept k
  loc := ⟨m, hn, fun i y v e1 e2 e3 => by
    cases i with
    | zero => simp at e2
    | succ j =>
      obtain ⟨a1, a2, a3, a4, a5⟩ := S.tl j y e1 e3
      obtain ⟨m0, hn0, hl0⟩ := I.loc
      obtain ⟨u, r, l⟩ := hl0 j y v a1 (by simpa using e2) a3
      rcases l with ⟨hk, _⟩ | ⟨_, c, hc, ⟨o, ho, hd⟩⟩
      · rw [a2] at hk; cases hk
      · exact ⟨u, r, .inr ⟨a4, c, a5.trans hc, o, k _ _ ho, hd⟩⟩⟩
  cell := fun y c e => by
    obtain ⟨v, o, ho, hd⟩ := I.cell y c (S.sub y c e)
    exact ⟨v, o, k _ _ ho, hd⟩
  free := I.hok.fresh (Nat.le_refl _)
  freeC := fun y c e => I.freeC y c (S.sub y c e)
  pin := fun p hp => absurd (show p ∈ ([] : List (Addr × Obj)) from hp) (by simp)
  hok := I.hok.kept k
  len := by
    show (none :: σ).length = N.length
    rw [S.len, ← I.len, List.length_cons]
theorem comp_block {elt iter : Expr} {ifs : List Expr} {pos : Pos} {te : TE} {tt : TT} {Q : V → Hp → Prop} {RR : Value → Addr → Result → Shared → Prop} {E : Value → Shared → Prop} (hc : X.calm = true) (S : CompScope X N x scope cl) (T : Turn X.prog X.w X.K (.Name x px) J fp it tn)
    (hts : ∀ C s H fp, PTs (compCx X N x scope cl C s H fp) ifs tt) (helt : ∀ C s H fp, PE (compCx X N x scope cl C s H fp) elt te)
    (I : Inv X pins σ H s) (t0 : tn 0 s.heap) (hf : ∀ b ∈ fp, FpOk X pins H b)
    (hq : ∀ D, H D = none → ∃ W : Nat → Nat → Hp → Prop, (∃ m, W 0 m (upd H D (.lst []))) ∧ ∀ i m H, W i m H →
      (J.stop i H ∧ Q (.ref D) H) ∨ (J.go i H ∧ ∀ x H', J.yld i H x H' → tt (some x :: σ) H' fun b H2 =>
        if b = true then te (some x :: σ) H2 fun y H3 => ∃ ys, H3 D = some (.lst ys) ∧ ys.length < sizeLine ∧ ∃ m', m' < m ∧ W (i + 1) m' (upd H3 D (.lst (ys ++ [y])))
        else ∃ m', m' < m ∧ W (i + 1) m' H2))
    (hRR : ∀ D C H' s', Inv X pins σ H' s' → Q (.ref D) H' → (∃ m, s'.heap.Ns C m) → H' C = none → C ≠ X.env.locals → X.s₀.heap.objs.size ≤ C → (∀ y c, X.env.cells.lookup y = some c → c ≠ C) → (∀ p ∈ X.pn ++ pins, p.1 ≠ C) → RR (.ref D) C (.ok .next) s') :
    wpAny (model X.prog X.w) X.A (newList []) (fun acc s₃ => wpAny (model X.prog X.w) X.A (newFunctionEnv scope X.env.globals cl [] X.env.qual none .none (some X.env)) (fun cenv s₄ =>
      codeAny (model X.prog X.w) X.A (.compStart (.ListComp elt [⟨.Name x px, iter, ifs, 0⟩] scope pos) 0 (.ref it) acc { cenv with scope := relabel scope X.env }) (RR acc cenv.locals) s₄) E s₃) E s := by
  have hD : H s.heap.objs.size = none := I.hok.fresh (Nat.le_refl _)
  obtain ⟨W, ⟨m0, w0⟩, turn⟩ := hq _ hD
  refine wpAny_newObj_type (wpAny_newFunctionEnv S.nocell (by intro y hy; simp at hy) (fun h₁ hns₁ hsb₁ => ?_) S.kind)
  dsimp only at hns₁ hsb₁ ⊢
  have I3 : Inv X pins σ (upd H s.heap.objs.size (.lst [])) { s with heap := s.heap.push { cls := .type "list", data := .seq ([] : List Value).toArray }, toks := s.toks } := I.lnew .nil (Nat.zero_le _)
  have fpLt : ∀ b ∈ fp, b < s.heap.objs.size := fun b hb => by
    obtain ⟨o, ho, _⟩ := T.obj _ _ t0 b hb
    exact Heap.lt_size ho
  have hf3 : ∀ b ∈ fp, FpOk X pins (upd H s.heap.objs.size (.lst [])) b := fun b hb => by
    refine ⟨?_, (hf b hb).2⟩
    rw [upd_ne (Nat.ne_of_lt (fpLt b hb))]
    exact (hf b hb).1
  generalize hH2 : s.heap.push { cls := .type "list", dict := none, data := .seq ([] : List Value).toArray } = G at hns₁ hsb₁ I3 ⊢
  have hG : G.objs.size = s.heap.objs.size + 1 := by rw [← hH2, Heap.size_push]
  have kG : ∀ b o, G.get? b = some o → h₁.get? b = some o := fun b o e => hsb₁.extBut b o (Nat.ne_of_lt (Heap.lt_size e)) (Heap.get?_push_of_some _ e)
  have ks : ∀ b o, s.heap.get? b = some o → h₁.get? b = some o := fun b o e => kG b o (hH2 ▸ Heap.get?_push_of_some _ e)
  have fpLt3 : ∀ b ∈ fp, b < G.objs.size := fun b hb => by rw [hG]; exact Nat.lt_succ_of_lt (fpLt b hb)
  have t1 : tn 0 h₁ := T.keep _ _ _ t0 fun b _ o e => ks b o e
  have I4 := compInv (tk := s.toks + ([] : List (Str × Value)).length) S I3 hf3 fpLt3 hns₁ kG
  generalize hX' : compCx X N x scope cl G.objs.size { s with heap := G, toks := s.toks } (upd H s.heap.objs.size (.lst [])) fp = X' at I4
  have e1 : X'.prog = X.prog := by rw [← hX']; rfl
  have e2 : X'.w = X.w := by rw [← hX']; rfl
  have e3 : X'.A = X.A := by rw [← hX']; rfl
  have e4 : X'.env = compEnvC scope cl G.objs.size X.env := by rw [← hX']; rfl
  have e5 : X'.calm = true := by rw [← hX']; exact hc
  have e6 : X'.xe = fun _ _ => False := by rw [← hX']; rfl
  have e7 : X'.K = X.K := by rw [← hX']; rfl
  have helt' : PE X' elt te := hX' ▸ helt _ _ _ _
  have hts' : PTs X' ifs tt := hX' ▸ hts _ _ _ _
  have hfp : ∀ {H' : Hp}, (∀ b ∈ fp, H' b = none) → ∀ b ∈ fp, FpOk X' [] H' b := fun {H'} hn b hb => by
    obtain ⟨f0, f1, f2, f3, f4, f5⟩ := hf3 b hb
    refine ⟨hn b hb, ?_, ?_, ?_, ?_, ?_⟩
    · rw [e4]; exact Nat.ne_of_lt (fpLt3 b hb)
    · subst hX'
      intro z
      rcases List.mem_cons.mp (I3.stkSub b z) with q | q
      · exact f1 q
      · exact f2 q
    · subst hX'; exact .inl hb
    · rw [e4]; exact fun y c q => f4 y c (S.sub y c q)
    · subst hX'
      intro p hp
      exact absurd (show p ∈ ([] : List (Addr × Obj)) from hp) (by simp)
  have nd' : X'.N.Nodup := by subst hX'; exact S.nd
  have hi' : X'.N[0]? = some x := by subst hX'; exact S.hd
  have hx' : X'.env.scope.names.lookup x = some .local := by rw [e4]; exact lookup_relabel_local S.loc
  have loop : ∀ s₅ : Shared, s₅ = { s with heap := h₁, toks := s.toks + ([] : List (Str × Value)).length } →
      codeAny (model X.prog X.w) X.A (.compLoop (.ListComp elt [⟨.Name x px, iter, ifs, 0⟩] scope pos) 0 (.ref it) (.ref s.heap.objs.size) (compEnvC scope cl G.objs.size X.env)) (RR (.ref s.heap.objs.size) G.objs.size) s₅ := by
    rintro s₅ rfl
    refine comp_loop (fun n s' => ∃ i v0 H', Inv X' [] (v0 :: σ) H' s' ∧ tn i s'.heap ∧ (∀ b ∈ fp, H' b = none) ∧ W i n H') ?_ m0 ⟨0, none, _, I4, t1, fun b hb => (hf3 b hb).1, w0⟩
    rintro n s6 ⟨i, v0, H6, I6, st6, fr6, w6⟩
    rcases turn i n H6 w6 with ⟨stop, qn⟩ | ⟨go, step⟩
    · have dn := T.done X' e1 e2 e7 e5 i [] s6 (v0 :: σ) H6 (fun _ _ => False) I6 (hfp fr6) st6 stop
      rw [e3] at dn
      refine thn dn fun r s7 ⟨hr, I7⟩ => ?_
      subst hr
      have u7 := I7.base
      have J7 : Inv X pins σ H6 s7 := by
        refine I3.call' (ch := fp) ?_ (by subst hX'; exact u7) (by subst hX'; exact I7.hok) I7.bare fun b hb => ?_
        · have := I7.os; subst hX'; exact this
        · obtain ⟨_, f1, _, f3, f4, f5⟩ := hf3 b hb
          exact ⟨f3, f1, f4, f5⟩
      refine hRR _ _ H6 s7 J7 qn ?_ ?_ ?_ ?_ ?_ ?_
      · obtain ⟨m, hm, _⟩ := I7.loc
        rw [e4] at hm
        exact ⟨m, hm⟩
      · have := I7.free
        rw [e4] at this
        exact this
      · exact Nat.ne_of_gt I3.lt
      · exact I3.sz
      · intro y c q
        obtain ⟨v, hv⟩ := I3.cell y c q
        exact Nat.ne_of_lt hv.lt
      · intro p hp
        exact Nat.ne_of_lt (Heap.lt_size (I3.pin p hp).1)
    · have itm := T.item X' e1 e2 e7 e5 i [] s6 (v0 :: σ) H6 (fun _ _ => False) I6 (hfp fr6) st6 go
      rw [e3] at itm
      refine thn itm fun r s7 ⟨u, hr, h7⟩ => ?_
      subst hr
      refine thn h7 fun _ s8 ⟨xv, H8, I8, r8, y8, st8, fr8⟩ => ?_
      have I8' := I8.pinned (hfp fr8) (T.obj _ _ st8)
      have sto : wpAny (model X.prog X.w) X.A (assign (.Name x px) X'.env u) (fun _ s9 => Inv X' ([] ++ pinsAt fp s8.heap) ((v0 :: σ).set 0 (some xv)) H8 s9) (fun _ _ => False) s8 :=
        wpAny_assign_Name (store_ok I8' nd' hi' (.inl hx') r8 (fun s9 I9 => I9) (.inr hx'))
      rw [e4] at sto
      refine thn sto fun _ s9 I9 => ?_
      have I9' : Inv X' ([] ++ pinsAt fp s8.heap) (some xv :: σ) H8 s9 := I9
      have tst := hts' _ s9 (some xv :: σ) H8 _ I9' (step xv H8 y8)
      rw [e1, e2, e3, e4, e6] at tst
      refine thn tst fun ok s10 ⟨H10, I10, q10⟩ => ?_
      have again : ∀ {s11 : Shared} {H11 : Hp}, Inv X' ([] ++ pinsAt fp s8.heap) (some xv :: σ) H11 s11 → (∃ m', m' < n ∧ W (i + 1) m' H11) → ∃ m, m < n ∧ ∃ i v0 H', Inv X' [] (v0 :: σ) H' s11 ∧ tn i s11.heap ∧ (∀ b ∈ fp, H' b = none) ∧ W i m H' := fun {s11 H11} J ⟨m', hm, w11⟩ => by
        have pp : ∀ b ∈ fp, ∀ o, s8.heap.get? b = some o → s11.heap.get? b = some o ∧ H11 b = none := fun b hb o e => by
          have := J.pin (b, o) (List.mem_append_right _ (List.mem_append_right _ (mem_pinsAt hb e)))
          exact ⟨this.1, this.2.1⟩
        refine ⟨m', hm, i + 1, some xv, H11, J.unpinned, T.keep _ _ _ st8 fun b hb o e => (pp b hb o e).1, fun b hb => ?_, w11⟩
        obtain ⟨o, e, d⟩ := T.obj _ _ st8 b hb
        exact (pp b hb o e).2
      cases ok with
      | false =>
        rw [if_neg Bool.false_ne_true] at q10 ⊢
        exact again I10 q10
      | true =>
        rw [if_pos rfl] at q10 ⊢
        have ev := helt' _ s10 (some xv :: σ) H10 _ I10 q10
        rw [e1, e2, e3, e4, e6] at ev
        refine thn ev fun y s11 ⟨yv, H11, I11, r11, ys, hys, hz, q11⟩ => ?_
        have ap := mt_append (X := X') _ s11 (some xv :: σ) H11 (.ref s.heap.objs.size) [yv] (.ref s.heap.objs.size) [y] (fun _ H' => ∃ m', m' < n ∧ W (i + 1) m' H') I11 rfl (.cons r11 .nil) ⟨_, ys, yv, rfl, rfl, hys, hz, q11⟩
        rw [e1, e2, e3, e6] at ap
        exact thn ap fun _ s12 ⟨_, H12, I12, _, q12⟩ => again I12 q12
  exact codeAny_compStart_list (loop _ rfl) (T.self _ 0 _ _ _ t1 (loop _ rfl))
theorem sameBut_keeps {C : Addr} {h h' : Heap} (hs : Heap.SameBut C h h') : ∀ b o, b ≠ C → h.get? b = some o → h'.get? b = some o := fun b o n e => hs.extBut b o n e
theorem pe_comp {elt iter : Expr} {ifs : List Expr} {pos : Pos} {wi : TI} {te : TE} {tt : TT} (hc : X.calm = true) (S : CompScope X N x scope cl) (hi : PI X (.Name x px) iter wi)
    (hts : ∀ C s H fp, PTs (compCx X N x scope cl C s H fp) ifs tt) (helt : ∀ C s H fp, PE (compCx X N x scope cl C s H fp) elt te) (hs : ∀ v, foldedSetIterable iter X.env v = pure v := by intro _; rfl) :
    PE X (.ListComp elt [⟨.Name x px, iter, ifs, 0⟩] scope pos) (tComp wi tt te) := by
  intro pins s σ H Q I h
  rw [eval_ListComp]
  refine wpAny_comprehension_free (use := none) rfl hs S.clos S.kind S.names (thn (hi pins s σ H _ I h) fun v s1 h1 => thn h1 fun itv s2 h2 => ?_)
  obtain ⟨it, fp, tn, J, H2, rfl, I2, T, st2, f2, hq⟩ := h2
  refine comp_block (RR := fun acc C => compPost (model X.prog X.w) X.A X.xe none (EP X pins σ Q) acc C) hc S T hts helt I2 st2 f2 hq fun D C H' s' I' q ⟨m, hm⟩ h1 h2 h3 h4 h5 => ?_
  exact ⟨m, hm, fun h' sb => ⟨.ref D, H', I'.turned (it := C) (t' := s'.toks) (sameBut_keeps sb) h1 h2.symm.symm (.inr h3) h4 h5, rfl, q⟩⟩
theorem ps_setComp {elt iter : Expr} {ifs : List Expr} {pos spos py : Pos} {wi : TI} {te : TE} {tt : TT} {i : Nat} {y : Str} (hc : X.calm = true) (hN : X.N.Nodup) (hi' : X.N[i]? = some y) (hy : Loc X.env.scope y) (S : CompScope X N x scope cl) (hi : PI X (.Name x px) iter wi)
    (hts : ∀ C s H fp, PTs (compCx X N x scope cl C s H fp) ifs tt) (helt : ∀ C s H fp, PE (compCx X N x scope cl C s H fp) elt te)
    (hsw : swapsWith (.ListComp elt [⟨.Name x px, iter, ifs, 0⟩] scope pos) (some (.Name y py)) spos.line X.env = pure true := by rfl) (hs : ∀ v, foldedSetIterable iter X.env v = pure v := by intro _; rfl)
    (hfn : X.fn y = true ∨ X.env.scope.names.lookup y = some .local := by first | exact .inl rfl | exact .inr rfl | assumption) :
    PS X (.Assign [.Name y py] (.ListComp elt [⟨.Name x px, iter, ifs, 0⟩] scope pos) spos) (tAsg (tComp wi tt te) (gName i)) := by
  intro pins s σ H D' I h
  rw [exec_Assign_Name_used _ _ _ _ hsw]
  refine wpAny_bind (wpAny_standAt (wpAny_bind ?_))
  show wpAny _ X.A (do let _ ← comprehension (.ListComp elt [⟨.Name x px, iter, ifs, 0⟩] scope pos) scope X.env _ (newList []) false (eval iter X.env) (some (assign (.Name y py) X.env))) _ _ s
  refine wpAny_bind (wpAny_mono (wpAny_comprehension_free (use := some (assign (.Name y py) X.env)) (Q := fun _ s' => SP X pins D' .next s') rfl hs S.clos S.kind S.names (thn (hi pins s σ H _ I h) fun v s1 h1 => thn h1 fun itv s2 h2 => ?_))
    (fun _ s' hq => wpAny_pure (wpAny_pure hq)) fun _ _ e => e)
  obtain ⟨it, fp, tn, J, H2, rfl, I2, T, st2, f2, hq⟩ := h2
  refine comp_block (Q := fun x H1 => gName i x σ H1 D'.nx) (RR := fun acc C => compPost (model X.prog X.w) X.A X.xe (some (assign (.Name y py) X.env)) (fun _ s' => SP X pins D' .next s') acc C) hc S T hts helt I2 st2 f2 hq fun D C H' s' I' q ⟨m, hm⟩ h1 h2 h3 h4 h5 => ?_
  refine wpAny_assign_Name (store_ok2 I' hN hi' hy (v := .ref D) rfl (fun s'' I'' ⟨a, sa, ha⟩ => ?_) hfn)
  have nC : C ≠ a := by
    rcases ha with z | z
    · rw [z]; exact h2
    · exact (h4 _ _ z).symm
  refine ⟨m, hm.sameBut sa nC, fun h' sb => ⟨_, H', I''.turned (it := C) (t' := s''.toks) (sameBut_keeps sb) h1 h2 (.inr h3) h4 h5, q⟩⟩
end
end L2
namespace M
open PySem
set_option genInjectivity false in
set_option genSizeOf false in
inductive Rl where
  | pt
  | un (to lead : Int) (cap : Option Int) (inner : Rl)
  | ul (to lead cap : Int) (inner last : Rl)
def capD : Option Int → PyData
  | none => .none
  | some c => .int c
abbrev pointD : PyData := .tuple [.str "point"]
abbrev unitD (to lead cap inner last : PyData) : PyData := .tuple [.str "unit", to, lead, cap, inner, last]
def enc : Rl → PyData
  | .pt => pointD
  | .un to lead cap i => unitD (.int to) (.int lead) (capD cap) (enc i) .none
  | .ul to lead cap i l => unitD (.int to) (.int lead) (.int cap) (enc i) (enc l)
def Bd (least i : Int) : Prop := least ≤ i ∧ i ≤ 99
def capOk (to : Int) : Option Int → Prop
  | none => True
  | some c => Bd to c
def ok : Rl → Prop
  | .pt => True
  | .un to lead cap i => Bd 1 to ∧ Bd 1 lead ∧ capOk to cap ∧ ok i
  | .ul to lead cap i l => Bd 1 to ∧ Bd 1 lead ∧ Bd to cap ∧ ok i ∧ ok l
def size : Rl → Nat
  | .pt => 0
  | .un _ _ _ i => 1 + size i
  | .ul _ _ _ i l => 1 + size i + size l
def depth : Rl → Nat
  | .pt => 0
  | .un _ _ _ i => depth i + 1
  | .ul _ _ _ i l => max (depth i) (depth l) + 1
def isN : PyData → Bool
  | .none => true
  | _ => false
theorem eqv_unit (a b c d e : PyData) : PyData.eqv (unitD a b c d e) pointD = false := by rfl
theorem isN_enc (r : Rl) : isN (enc r) = false := by cases r <;> rfl
def U : Nat → Nat → Nat
  | 0, _ => 0
  | d + 1, th => 1 + U d th + (if d ≤ th then U d th else 2 ^ th - 1)
theorem U_full : ∀ {d th : Nat}, d ≤ th → U d th = 2 ^ d - 1
  | 0, _, _ => rfl
  | d + 1, th, h => by
    have e := U_full (d := d) (th := th) (by omega)
    unfold U
    rw [if_pos (by omega), e]
    have : 2 ^ (d + 1) = 2 * 2 ^ d := by rw [Nat.pow_succ, Nat.mul_comm]
    have p : 0 < 2 ^ d := Nat.pos_of_ne_zero (by simp)
    omega
theorem U_min (d th : Nat) : U (min d th) th = (if d ≤ th then U d th else 2 ^ th - 1) := by
  by_cases h : d ≤ th
  · rw [if_pos h, Nat.min_eq_left h]
  · rw [if_neg h, Nat.min_eq_right (by omega), U_full (Nat.le_refl _)]
theorem U_succ (d th : Nat) : U (d + 1) th = 1 + U d th + U (min d th) th := by rw [U_min]; rfl
end M
namespace M
open PySem
def lst : Rl → Option Rl
  | .ul _ _ _ _ l => some l
  | _ => none
end M
namespace M
open PySem
def glue (c : Nat) : List (List Nat) → List Nat
  | [] => []
  | [x] => x
  | x :: r => x ++ c :: glue c r
theorem app_inj (c : Nat) : ∀ {a b x y : List Nat}, c ∉ a → c ∉ b → a ++ c :: x = b ++ c :: y → a = b ∧ x = y
  | [], [], x, y, _, _, h => ⟨rfl, by simpa using h⟩
  | [], z :: b, x, y, _, hb, h => by simp at h; exact absurd h.1 (fun e => hb (by simp [e]))
  | z :: a, [], x, y, ha, _, h => by simp at h; exact absurd h.1.symm (fun e => ha (by simp [e]))
  | z :: a, u :: b, x, y, ha, hb, h => by
    simp only [List.cons_append, List.cons.injEq] at h
    obtain ⟨rfl, h⟩ := h
    obtain ⟨rfl, rfl⟩ := app_inj c (fun m => ha (List.mem_cons_of_mem _ m)) (fun m => hb (List.mem_cons_of_mem _ m)) h
    exact ⟨rfl, rfl⟩
theorem glue_inj (c : Nat) : ∀ {a b : List (List Nat)}, a ≠ [] → b ≠ [] → (∀ x ∈ a, c ∉ x) → (∀ x ∈ b, c ∉ x) → glue c a = glue c b → a = b
  | [], _, h, _, _, _, _ => absurd rfl h
  | _, [], _, h, _, _, _ => absurd rfl h
  | [x], [y], _, _, _, _, h => by simp only [glue] at h; rw [h]
  | [x], y :: z :: r, _, _, ha, _, h => by
    simp only [glue] at h
    exact absurd (by rw [h]; simp) (ha x (List.mem_cons_self ..))
  | x :: z :: r, [y], _, _, _, hb, h => by
    simp only [glue] at h
    exact absurd (by rw [← h]; simp) (hb y (List.mem_cons_self ..))
  | x :: z :: r, y :: u :: q, _, _, ha, hb, h => by
    have e1 : glue c (x :: z :: r) = x ++ c :: glue c (z :: r) := rfl
    have e2 : glue c (y :: u :: q) = y ++ c :: glue c (u :: q) := rfl
    rw [e1, e2] at h
    obtain ⟨rfl, h2⟩ := app_inj c (ha _ (List.mem_cons_self ..)) (hb _ (List.mem_cons_self ..)) h
    rw [glue_inj c (by simp) (by simp) (fun x m => ha x (List.mem_cons_of_mem _ m)) (fun x m => hb x (List.mem_cons_of_mem _ m)) h2]
theorem cps_app (x y : Str) : (x ++ y).cps.toList = x.cps.toList ++ y.cps.toList := by
  show (x.cps ++ y.cps).toList = _
  simp
theorem join_glue (c : Nat) : ∀ ws : List Str, (Str.join ⟨#[c]⟩ ws).cps.toList = glue c (ws.map (·.cps.toList))
  | [] => rfl
  | [x] => rfl
  | x :: y :: r => by
    have e : Str.join ⟨#[c]⟩ (x :: y :: r) = x ++ ⟨#[c]⟩ ++ Str.join ⟨#[c]⟩ (y :: r) := rfl
    rw [e, cps_app, cps_app, join_glue c (y :: r)]
    simp [glue]
theorem str_ext {x y : Str} (h : x.cps.toList = y.cps.toList) : x = y := by
  cases x; cases y
  simp only [Str.mk.injEq]
  exact Array.toList_inj.mp h
theorem strs_inj : ∀ {a b : List Str}, a.map (·.cps.toList) = b.map (·.cps.toList) → a = b
  | [], [], _ => rfl
  | [], _ :: _, h => by simp at h
  | _ :: _, [], h => by simp at h
  | x :: a, y :: b, h => by
    simp only [List.map_cons, List.cons.injEq] at h
    rw [str_ext h.1, strs_inj h.2]
theorem split_ne (x y : Str) : Txt.split x y ≠ [] := by
  intro h
  unfold Txt.split at h
  split at h
  · cases h
  · split at h
    · cases h
    · rename_i c
      have := congrArg List.length h
      rw [length_partsBetween] at this
      simp at this
theorem split_join (c : Nat) {ws : List Str} (hn : ws ≠ []) (hf : ∀ x ∈ ws, c ∉ x.cps.toList) : Txt.split (Str.join ⟨#[c]⟩ ws) ⟨#[c]⟩ = ws := by
  have e := StrLaws.join_split (Str.join ⟨#[c]⟩ ws) ⟨#[c]⟩
  have f := StrLaws.split_free (Str.join ⟨#[c]⟩ ws) c
  refine strs_inj (glue_inj c ?_ ?_ ?_ ?_ ?_)
  · have := split_ne (Str.join ⟨#[c]⟩ ws) ⟨#[c]⟩
    simpa using this
  · simpa using hn
  · intro x hx
    obtain ⟨p, hp, rfl⟩ := List.mem_map.mp hx
    exact f p hp
  · intro x hx
    obtain ⟨p, hp, rfl⟩ := List.mem_map.mp hx
    exact hf p hp
  · rw [← join_glue, ← join_glue, e]
end M
namespace M
open PySem
def numS (i : Int) : Str := Str.ofString (toString i)
def numOk (i : Int) (x : Str) : Bool := (x.length == 1 || x.length == 2) && x.cps.all (fun c => 48 ≤ c && c ≤ 57) && (x.cps.getD 0 0 != 48) && (PySem.intText? x == some i)
theorem num_ok : ∀ n : Nat, n < 99 → numOk ((n : Int) + 1) (numS ((n : Int) + 1)) = true := by decide +kernel
end M
namespace M
open PySem
def wPoint : Str := Str.ofString "point"
def wUnit : Str := Str.ofString "unit"
def wDash : Str := Str.ofString "-"
def capS : Option Int → Str
  | none => wDash
  | some c => numS c
def words : Rl → List Str
  | .pt => [wPoint]
  | .un to lead cap i => [wUnit, numS to, numS lead, capS cap] ++ words i ++ [wDash]
  | .ul to lead cap i l => [wUnit, numS to, numS lead, numS cap] ++ words i ++ words l
theorem words_pos : ∀ r, 0 < (words r).length
  | .pt => by simp [words]
  | .un _ _ _ _ => by simp [words]
  | .ul _ _ _ _ _ => by simp [words]
theorem words_ne (r : Rl) : words r ≠ [] := fun h => by have := words_pos r; rw [h] at this; simp at this
theorem words_len : ∀ r, (words r).length ≤ 6 * size r + 1
  | .pt => by simp [words, size]
  | .un _ _ _ i => by have := words_len i; simp only [words, size, List.length_append, List.length_cons, List.length_nil]; omega
  | .ul _ _ _ i l => by have := words_len i; have := words_len l; simp only [words, size, List.length_append, List.length_cons, List.length_nil]; omega
theorem num_facts {i : Int} (h : Bd 1 i) : ((numS i).length = 1 ∨ (numS i).length = 2) ∧ (∀ c ∈ (numS i).cps.toList, 48 ≤ c ∧ c ≤ 57) ∧ (numS i).cps.getD 0 0 ≠ 48 ∧ PySem.intText? (numS i) = some i := by
  have := num_ok (i - 1).toNat (by have := h.1; have := h.2; omega)
  rw [show (((i - 1).toNat : Nat) : Int) + 1 = i by have := h.1; omega] at this
  simp only [numOk, Bool.and_eq_true, Bool.or_eq_true, beq_iff_eq, bne_iff_ne, Array.all_eq_true_iff_forall_mem, decide_eq_true_eq] at this
  obtain ⟨⟨⟨h1, h2⟩, h3⟩, h4⟩ := this
  exact ⟨h1, fun c hc => h2 c (by simpa using hc), h3, h4⟩
theorem num_free {i : Int} (h : Bd 1 i) : 32 ∉ (numS i).cps.toList := fun m => by have := (num_facts h).2.1 32 m; omega
theorem num_ne {i : Int} (h : Bd 1 i) {w : Str} (hw : ∃ c ∈ w.cps.toList, c < 48 ∨ 57 < c) : numS i ≠ w := fun e => by
  obtain ⟨c, hc, hb⟩ := hw
  rw [← e] at hc
  have := (num_facts h).2.1 c hc
  omega
theorem num_dash {i : Int} (h : Bd 1 i) : numS i ≠ wDash := num_ne h ⟨45, by decide +kernel, by decide⟩
theorem Bd.one {to c : Int} (h1 : 1 ≤ to) (h : Bd to c) : Bd 1 c := ⟨by have := h.1; omega, h.2⟩
theorem cap_free {to : Int} {cap : Option Int} (h1 : 1 ≤ to) (h : capOk to cap) : 32 ∉ (capS cap).cps.toList := by
  cases cap with
  | none => decide +kernel
  | some c => exact num_free (Bd.one h1 h)
theorem words_free : ∀ {r : Rl}, ok r → ∀ x ∈ words r, 32 ∉ x.cps.toList
  | .pt, _, x, h => by simp only [words, List.mem_singleton] at h; subst h; decide +kernel
  | .un to lead cap i, ⟨h1, h2, h3, h4⟩, x, h => by
    simp only [words, List.mem_append, List.mem_cons, List.not_mem_nil, or_false] at h
    rcases h with ((rfl | rfl | rfl | rfl) | h) | rfl
    · decide +kernel
    · exact num_free h1
    · exact num_free h2
    · exact cap_free h1.1 h3
    · exact words_free h4 x h
    · decide +kernel
  | .ul to lead cap i l, ⟨h1, h2, h3, h4, h5⟩, x, h => by
    simp only [words, List.mem_append, List.mem_cons, List.not_mem_nil, or_false] at h
    rcases h with ((rfl | rfl | rfl | rfl) | h) | h
    · decide +kernel
    · exact num_free h1
    · exact num_free h2
    · exact num_free (Bd.one h1.1 h3)
    · exact words_free h4 x h
    · exact words_free h5 x h
def blank : Str := ⟨#[32]⟩
theorem blank_eq : Str.ofString " " = blank := by decide +kernel
def text (r : Rl) : Str := Str.join blank (words r)
theorem split_text {r : Rl} (h : ok r) : Txt.split (text r) blank = words r := split_join 32 (words_ne r) (words_free h)
theorem join_app (s : Str) : ∀ {a b : List Str}, a ≠ [] → b ≠ [] → Str.join s (a ++ b) = Str.join s a ++ s ++ Str.join s b
  | [], _, h, _ => absurd rfl h
  | [x], [], _, h => absurd rfl h
  | [x], y :: b, _, _ => rfl
  | x :: y :: a, b, _, hb => by
    have e := join_app s (a := y :: a) (b := b) (by simp) hb
    have e1 : Str.join s (x :: y :: a ++ b) = x ++ s ++ Str.join s (y :: a ++ b) := rfl
    have e2 : Str.join s (x :: y :: a) = x ++ s ++ Str.join s (y :: a) := rfl
    rw [e1, e, e2]
    apply str_ext
    simp only [cps_app, List.append_assoc]
theorem text_un (to lead : Int) (cap : Option Int) (i : Rl) : text (.un to lead cap i) = Str.join blank [wUnit, numS to, numS lead, capS cap, text i, wDash] := by
  show Str.join blank ([wUnit, numS to, numS lead, capS cap] ++ words i ++ [wDash]) = Str.join blank (([wUnit, numS to, numS lead, capS cap] ++ [text i]) ++ [wDash])
  rw [join_app _ (by simp) (by simp), join_app _ (by simp) (words_ne i), join_app _ (by simp) (by simp), join_app _ (by simp) (by simp)]
  rfl
theorem text_ul (to lead cap : Int) (i l : Rl) : text (.ul to lead cap i l) = Str.join blank [wUnit, numS to, numS lead, numS cap, text i, text l] := by
  show Str.join blank ([wUnit, numS to, numS lead, numS cap] ++ words i ++ words l) = Str.join blank (([wUnit, numS to, numS lead, numS cap] ++ [text i]) ++ [text l])
  rw [join_app _ (by simp) (words_ne l), join_app _ (by simp) (words_ne i), join_app _ (by simp) (by simp), join_app _ (by simp) (by simp)]
  rfl
theorem num_len {i : Int} (h : Bd 1 i) : (numS i).length ≤ 5 := by rcases (num_facts h).1 with e | e <;> omega
theorem cap_len {to : Int} {cap : Option Int} (h1 : 1 ≤ to) (h : capOk to cap) : (capS cap).length ≤ 5 := by
  cases cap with
  | none => decide +kernel
  | some c => exact num_len (Bd.one h1 h)
theorem words_short : ∀ {r : Rl}, ok r → ∀ x ∈ words r, x.length ≤ 5
  | .pt, _, x, h => by simp only [words, List.mem_singleton] at h; subst h; decide +kernel
  | .un to lead cap i, ⟨h1, h2, h3, h4⟩, x, h => by
    simp only [words, List.mem_append, List.mem_cons, List.not_mem_nil, or_false] at h
    rcases h with ((rfl | rfl | rfl | rfl) | h) | rfl
    · decide +kernel
    · exact num_len h1
    · exact num_len h2
    · exact cap_len h1.1 h3
    · exact words_short h4 x h
    · decide +kernel
  | .ul to lead cap i l, ⟨h1, h2, h3, h4, h5⟩, x, h => by
    simp only [words, List.mem_append, List.mem_cons, List.not_mem_nil, or_false] at h
    rcases h with ((rfl | rfl | rfl | rfl) | h) | h
    · decide +kernel
    · exact num_len h1
    · exact num_len h2
    · exact num_len (Bd.one h1.1 h3)
    · exact words_short h4 x h
    · exact words_short h5 x h
end M
namespace M
open PySem
theorem join_ok {ws : List Str} {n m : Nat} (h : ∀ x ∈ ws, x.length ≤ n) (hl : ws.length ≤ m) (hz : m * n + m ≤ 1000000) : JoinOk blank ws = true := by
  unfold JoinOk
  rw [Bool.not_eq_true']
  show decide (_ > sizeLine) = false
  rw [StrLaws.joinTotal]
  have h1 : ∀ l : List Str, (∀ x ∈ l, x.length ≤ n) → (l.map (·.length)).sum ≤ l.length * n := by
    intro l
    induction l with
    | nil => intro _; simp
    | cons x l ih =>
      intro hx
      have := ih fun y hy => hx y (List.mem_cons_of_mem _ hy)
      have := hx x (List.mem_cons_self ..)
      simp only [List.map_cons, List.sum_cons, List.length_cons, Nat.succ_mul]
      omega
  have h2 := h1 ws h
  have h3 : ws.length * n ≤ m * n := Nat.mul_le_mul_right n hl
  have h4 : blank.length = 1 := rfl
  rw [h4]
  apply decide_eq_false
  have : sizeLine = 16777216 := rfl
  omega
theorem text_len {r : Rl} (h : ok r) (hs : size r ≤ 20) : (text r).length ≤ 1000 := by
  have h1 := StrLaws.join_length_le blank (words r)
  have h2 := words_len r
  have h4 : blank.length = 1 := rfl
  have h3 : ∀ l : List Str, (∀ x ∈ l, x.length ≤ 5) → (l.map (·.length)).sum ≤ l.length * 5 := by
    intro l
    induction l with
    | nil => intro _; simp
    | cons x l ih =>
      intro hx
      have := ih fun y hy => hx y (List.mem_cons_of_mem _ hy)
      have := hx x (List.mem_cons_self ..)
      simp only [List.map_cons, List.sum_cons, List.length_cons, Nat.succ_mul]
      omega
  have := h3 _ (words_short h)
  unfold text
  rw [h4] at h1
  omega
end M
namespace M
open PySem
def lastD : Option Rl → PyData
  | none => .none
  | some l => enc l
def lastW : Option Rl → List Str
  | none => [wDash]
  | some l => words l
def lastT : Option Rl → Str
  | none => wDash
  | some l => text l
def lastDp : Option Rl → Nat
  | none => 0
  | some l => depth l
def lastSz : Option Rl → Nat
  | none => 0
  | some l => size l
set_option genInjectivity false in
set_option genSizeOf false in
structure Vw (rl : Rl) (to lead : Int) (cap : Option Int) (i : Rl) (l : Option Rl) : Prop where
  enc : enc rl = unitD (.int to) (.int lead) (capD cap) (enc i) (lastD l)
  words : words rl = [wUnit, numS to, numS lead, capS cap] ++ words i ++ lastW l
  text : text rl = Str.join blank [wUnit, numS to, numS lead, capS cap, text i, lastT l]
  hto : Bd 1 to
  hlead : Bd 1 lead
  hcap : capOk to cap
  hi : ok i
  hl : ∀ r, l = some r → ok r
  cl : cap = none → l = none
  depth : depth rl = max (depth i) (lastDp l) + 1
  size : size rl = 1 + size i + lastSz l
theorem vw_of {rl : Rl} (h : ok rl) (hne : rl ≠ .pt) : ∃ to lead cap i l, Vw rl to lead cap i l := by
  cases rl with
  | pt => exact absurd rfl hne
  | un to lead cap i =>
    exact ⟨to, lead, cap, i, none, rfl, rfl, text_un .., h.1, h.2.1, h.2.2.1, h.2.2.2, fun r e => (by cases e), fun _ => rfl, by simp [M.depth, lastDp], by simp [M.size, lastSz]⟩
  | ul to lead cap i l =>
    exact ⟨to, lead, some cap, i, some l, rfl, rfl, text_ul .., h.1, h.2.1, h.2.2.1, h.2.2.2.1, fun r e => (by cases e; exact h.2.2.2.2), fun e => (by cases e), by simp [M.depth, lastDp], by simp [M.size, lastSz]⟩
theorem log_small {i : Int} (h : Bd 1 i) : i.natAbs.log2 < 1920 := by
  have := Nat.log2_le_self i.natAbs
  have := h.1
  have := h.2
  omega
end M
namespace M
set_option genInjectivity false in
set_option genSizeOf false in
inductive Sd where
  | nil
  | cn (z o : Int) (w : Sd)
deriving DecidableEq
def toR : Rl → Int
  | .pt => 1
  | .un t _ _ _ => t
  | .ul t _ _ _ _ => t
def leadR : Rl → Int
  | .pt => 1
  | .un _ t _ _ => t
  | .ul _ t _ _ _ => t
def capR : Rl → Option Int
  | .pt => none
  | .un _ _ c _ => c
  | .ul _ _ c _ _ => some c
def innR : Rl → Rl
  | .pt => .pt
  | .un _ _ _ i => i
  | .ul _ _ _ i _ => i
def lastR : Rl → Option Rl
  | .pt => none
  | .un _ _ _ _ => none
  | .ul _ _ _ _ l => some l
def atCap (c : Option Int) (z o : Int) : Bool := decide (c = some (z + 1)) && decide (c = some (o + 1))
def now (r : Rl) (z o : Int) : Rl := match lastR r with
  | none => innR r
  | some l => if atCap (capR r) z o then l else innR r
def won (r : Rl) (z o : Int) : Bool := decide (capR r = some (max z o)) || (decide (toR r ≤ max z o) && (decide (leadR r ≤ z - o) || decide (leadR r ≤ o - z)))
def begn : Rl → Sd
  | .pt => .nil
  | .un _ _ _ i => .cn 0 0 (begn i)
  | .ul _ _ c i l => .cn 0 0 (if atCap (some c) 0 0 then begn l else begn i)
def bumpZ (z : Int) (b : Bool) : Int := if b then z else z + 1
def bumpO (o : Int) (b : Bool) : Int := if b then o + 1 else o
def stepU (r : Rl) (z o : Int) (res : Sd × Bool) (b : Bool) : Sd × Bool :=
  if res.2 then (if won r (bumpZ z b) (bumpO o b) then (.cn (bumpZ z b) (bumpO o b) .nil, true) else (.cn (bumpZ z b) (bumpO o b) (begn (now r (bumpZ z b) (bumpO o b))), false)) else (.cn z o res.1, false)
def ral : Rl → Sd → Bool → Sd × Bool
  | .pt, _, _ => (.nil, true)
  | .un to lead cap i, .cn z o w, b => stepU (.un to lead cap i) z o (ral i w b) b
  | .ul to lead c i l, .cn z o w, b => stepU (.ul to lead c i l) z o (if atCap (some c) z o then ral l w b else ral i w b) b
  | _, .nil, _ => (.nil, false)
def stk : Rl → Sd → Bool → Nat
  | _, .nil, _ => 0
  | r, .cn z o w, b => stk (now r z o) w b + (if (ral r (.cn z o w) b).2 then 1 else 0)
set_option genInjectivity false in
set_option genSizeOf false in
structure Out where
  sd : Sd
  side : Option Bool
  at_ : Nat
  ends : List Nat
def walk (r : Rl) : Nat → Sd → List Bool → Out
  | p, s, [] => ⟨s, none, p, []⟩
  | p, s, b :: row =>
    if (ral r s b).2 then ⟨(ral r s b).1, some b, p + 1, List.replicate (stk r s b) (p + 1)⟩
    else ⟨(walk r (p + 1) (ral r s b).1 row).sd, (walk r (p + 1) (ral r s b).1 row).side, (walk r (p + 1) (ral r s b).1 row).at_, List.replicate (stk r s b) (p + 1) ++ (walk r (p + 1) (ral r s b).1 row).ends⟩
theorem walk_nil (r : Rl) (p : Nat) (s : Sd) : walk r p s [] = ⟨s, none, p, []⟩ := rfl
theorem walk_won {r : Rl} {p : Nat} {s : Sd} {b : Bool} {row : List Bool} (h : (ral r s b).2 = true) : walk r p s (b :: row) = ⟨(ral r s b).1, some b, p + 1, List.replicate (stk r s b) (p + 1)⟩ := by
  rw [walk, if_pos h]
theorem walk_on {r : Rl} {p : Nat} {s : Sd} {b : Bool} {row : List Bool} (h : (ral r s b).2 = false) : walk r p s (b :: row) = ⟨(walk r (p + 1) (ral r s b).1 row).sd, (walk r (p + 1) (ral r s b).1 row).side, (walk r (p + 1) (ral r s b).1 row).at_, List.replicate (stk r s b) (p + 1) ++ (walk r (p + 1) (ral r s b).1 row).ends⟩ := by
  rw [walk, if_neg (by rw [h]; simp)]
end M
namespace M
end M
namespace M
open PySem
def sgn (c : Nat) : Str := ⟨#[c]⟩
def asc (w : Str) : Prop := ∀ c ∈ w.cps.toList, c < 128
theorem asc_ok {w : Str} (h : asc w) : PyData.strOk w = true := by
  unfold PyData.strOk
  rw [Array.all_eq_true']
  intro c hc
  have := h c (by simpa using hc)
  simp; omega
theorem len_toList (w : Str) : w.length = w.cps.toList.length := by simp [Str.length]
theorem app_list (a b : Str) : (a ++ b).cps.toList = a.cps.toList ++ b.cps.toList := by
  show (a.cps ++ b.cps).toList = _
  simp
theorem asc_app {a b : Str} (ha : asc a) (hb : asc b) : asc (a ++ b) := fun c hc => by
  rw [app_list] at hc
  exact (List.mem_append.mp hc).elim (ha c) (hb c)
theorem slice_mem {x : Str} {l u : Option Int} {c : Nat} (h : c ∈ (Txt.slice x l u).cps.toList) : c ∈ x.cps.toList := by
  unfold Txt.slice at h
  split at h
  · exact h
  · simp only [List.mem_filterMap] at h
    obtain ⟨i, _, e⟩ := h
    have := Array.mem_of_getElem? e
    simpa using this
theorem asc_slice {x : Str} {l u : Option Int} (h : asc x) : asc (Txt.slice x l u) := fun c hc => h c (slice_mem hc)
theorem slice_take {x : Str} {k : Nat} (h : k ≤ x.length) : (Txt.slice x none (some (k : Int))).cps.toList = x.cps.toList.take k := by
  have : Txt.slice x none (some (k : Int)) = StrLaws.sliceText x (some ((0 : Nat) : Int)) (some (k : Int)) := by
    unfold Txt.slice StrLaws.sliceText
    rw [StrLaws.sliceIdx_none_lo]
    rfl
  rw [this, StrLaws.sliceText_nat x (Nat.zero_le _) h]
  simp
theorem join_sgn : ∀ cs : List Nat, (Str.join Str.empty (cs.map sgn)).cps.toList = cs
  | [] => rfl
  | [c] => rfl
  | c :: d :: cs => by
    show (sgn c ++ Str.empty ++ Str.join Str.empty ((d :: cs).map sgn)).cps.toList = _
    rw [app_list, app_list, join_sgn (d :: cs)]
    rfl
def letters : Str := "abcdefghijklmnopqrstuvwxyz"
def signsS : Str := letters ++ ("0123456789" : Str)
theorem letters_len : letters.cps.toList.length = 26 := by decide +kernel
theorem letters_asc : asc letters := by unfold asc; decide +kernel
theorem signs_list : signsS.cps.toList = letters.cps.toList ++ ("0123456789" : Str).cps.toList := app_list _ _
theorem signs_len : signsS.cps.toList.length = 36 := by rw [signs_list]; decide +kernel
theorem signs_asc : asc signsS := asc_app letters_asc (by unfold asc; decide +kernel)
theorem signs_nd : signsS.cps.toList.Nodup := by rw [signs_list]; decide +kernel
theorem asc_sgn {c : Nat} (h : c < 128) : asc (sgn c) := fun d hd => by
  have : d = c := by simpa [sgn] using hd
  rw [this]; exact h
def nameA (w : Str) (k : Nat) : Str := Txt.slice w none (some ((k : Int) + 1))
theorem nameA_list {w : Str} {k : Nat} (h : k < w.length) : (nameA w k).cps.toList = w.cps.toList.take (k + 1) := by
  unfold nameA
  rw [show ((k : Int) + 1) = ((k + 1 : Nat) : Int) by omega]
  exact slice_take (by omega)
theorem nodup_map {α : Type} {f : Nat → α} {n : Nat} (inj : ∀ a b, a < n → b < n → f a = f b → a = b) : ((List.range n).map f).Nodup := by
  unfold List.Nodup
  rw [List.pairwise_map]
  exact List.Pairwise.imp_of_mem (fun ha hb hne e => hne (inj _ _ (List.mem_range.mp ha) (List.mem_range.mp hb) e)) List.nodup_range
theorem nodupA {w : Str} {n : Nat} (h : n ≤ w.length) : ((List.range n).map (nameA w)).Nodup := by
  refine nodup_map fun a b ha hb e => ?_
  have e1 := nameA_list (w := w) (k := a) (by omega)
  have e2 := nameA_list (w := w) (k := b) (by omega)
  rw [e, e2] at e1
  have := congrArg List.length e1
  rw [List.length_take, List.length_take] at this
  rw [len_toList] at h
  omega
theorem rot_nodup {α : Type} {xs : List α} (t m : Nat) (h : xs.Nodup) : ((xs.drop t ++ xs.take t).take m).Nodup := by
  refine List.Sublist.nodup (List.take_sublist _ _) ?_
  have p : List.Perm (xs.drop t ++ xs.take t) xs := by
    have := List.perm_append_comm (l₁ := xs.drop t) (l₂ := xs.take t)
    rwa [List.take_append_drop] at this
  exact p.nodup_iff.mpr h
def nameB (w : Str) (at' : Nat) (size : Int) (c : Nat) : Str := Txt.slice w none (some (at' : Int)) ++ sgn c ++ Txt.slice w (some ((at' : Int) + 1)) (some size)
theorem nameB_inj {w : Str} {at' : Nat} {size : Int} {c d : Nat} (h : at' ≤ w.length) (e : nameB w at' size c = nameB w at' size d) : c = d := by
  have e1 := congrArg (fun x : Str => x.cps.toList) e
  simp only [nameB, app_list, List.append_assoc, slice_take h] at e1
  have e2 := List.append_cancel_left e1
  simpa [sgn] using e2
def signAt (start : Nat) (k : Nat) : Nat := signsS.cps.toList.getD ((start + 5 * k) % 36) 0
theorem signAt_some (start k : Nat) : signsS.cps.toList[(start + 5 * k) % 36]? = some (signAt start k) := by
  unfold signAt
  rw [List.getD_eq_getElem?_getD, List.getElem?_eq_getElem (by rw [signs_len]; omega)]
  rfl
theorem signAt_inj {start a b : Nat} (ha : a < 36) (hb : b < 36) (e : signAt start a = signAt start b) : a = b := by
  have h1 := signAt_some start a
  have h2 := signAt_some start b
  rw [e] at h1
  have := (List.getElem?_inj (by rw [signs_len]; omega) signs_nd).mp (h1.trans h2.symm)
  omega
theorem signAt_asc (start k : Nat) : signAt start k < 128 := signs_asc _ (List.mem_of_getElem? (signAt_some start k))
theorem nodupB {w : Str} {at' : Nat} {size : Int} {start n : Nat} (h : at' ≤ w.length) (hn : n ≤ 36) : ((List.range n).map fun k => nameB w at' size (signAt start k)).Nodup :=
  nodup_map fun a b ha hb e => signAt_inj (by omega) (by omega) (nameB_inj h e)
theorem ascA {w : Str} {k : Nat} (h : asc w) : asc (nameA w k) := asc_slice h
theorem ascB {w : Str} {at' : Nat} {size : Int} {c : Nat} (h : asc w) (hc : c < 128) : asc (nameB w at' size c) := asc_app (asc_app (asc_slice h) (asc_sgn hc)) (asc_slice h)
theorem app_len (a b : Str) : (a ++ b).length = a.length + b.length := by rw [len_toList, app_list, List.length_append, len_toList, len_toList]
theorem lenA {w : Str} {k : Nat} : (nameA w k).length ≤ w.length := Txt.slice_le _ _ _
theorem lenB {w : Str} {at' : Nat} {size : Int} {c : Nat} : (nameB w at' size c).length ≤ 2 * w.length + 1 := by
  unfold nameB
  rw [app_len, app_len]
  have h1 := Txt.slice_le w none (some (at' : Int))
  have h2 := Txt.slice_le w (some ((at' : Int) + 1)) (some size)
  have h3 : (sgn c).length = 1 := rfl
  omega
end M
namespace M
open PySem
set_option genInjectivity false in
set_option genSizeOf false in
structure Th where
  nm : Str
  wo : Int
  en : Bool
set_option genInjectivity false in
set_option genSizeOf false in
structure Sn where
  cs : List Int
  sd : Nat
  tn : Int
  hd : Int
def encT (t : Th) : PyData := .tuple [.str t.nm, .int t.wo, .bool t.en]
def encI (cs : List Int) : PyData := .tuple (cs.map PyData.int)
end M
namespace M
open PySem
abbrev Rw := List Str × Int
end M
namespace M
open PySem
mutual
def wtD : PyData → Nat
  | .none => 4
  | .bool _ => 5
  | .int _ => 81
  | .str x => 10 * x.length + 2
  | .list xs => wtL xs + 3
  | .tuple xs => wtL xs + 3
  | .dict _ => 0
def wtL : List PyData → Nat
  | [] => 0
  | x :: xs => wtD x + 2 + wtL xs
end
mutual
def okD : PyData → Bool
  | .none => true
  | .bool _ => true
  | .int i => decide (i.natAbs < 10 ^ 80)
  | .str x => x.cps.toList.all fun c => decide (c < 16 ^ 8)
  | .list xs => okL xs
  | .tuple xs => okL xs
  | .dict _ => false
def okL : List PyData → Bool
  | [] => true
  | x :: xs => okD x && okL xs
end
end M
namespace M
open PySem
def low (c : Nat) : Bool := decide (97 ≤ c) && decide (c ≤ 122)
def dig (c : Nat) : Bool := decide (48 ≤ c) && decide (c ≤ 57)
def ld (c : Nat) : Bool := low c || dig c
def fst (cs : List Nat) : Bool := match cs with
  | c :: _ => low c
  | [] => false
def nmS (cs : List Nat) : Bool := decide (1 ≤ cs.length) && decide (cs.length ≤ 8) && (fst cs && cs.all ld)
def nmL (w : Str) : Prop := w.length ≤ 100 ∧ nmS w.cps.toList = true
theorem all128 {f g : Nat → Bool} (h : (List.range 128).all (fun c => f c == g c) = true) : ∀ c, c < 128 → f c = g c := fun c hc => by
  have := List.all_eq_true.mp h c (List.mem_range.mpr hc)
  simpa using this
def leS (a b : Str) : Bool := !decide (b.cps.toList < a.cps.toList)
theorem le_low : ∀ c, c < 128 → (leS "a" (sgn c) && leS (sgn c) "z") = low c := all128 (by decide +kernel)
theorem le_dig : ∀ c, c < 128 → (leS "0" (sgn c) && leS (sgn c) "9") = dig c := all128 (by decide +kernel)
theorem low_asc {c : Nat} (h : low c = true) : c < 128 := by
  simp only [low, Bool.and_eq_true, decide_eq_true_eq] at h
  omega
theorem low_ld {c : Nat} (h : low c = true) : ld c = true := by simp [ld, h]
theorem letters_low : ∀ c ∈ letters.cps.toList, low c = true := by decide +kernel
theorem signs_ld : ∀ c ∈ signsS.cps.toList, ld c = true := by decide +kernel
theorem slice_mid {x : Str} {a b : Nat} (h : a ≤ b) (h2 : b ≤ x.length) : (Txt.slice x (some (a : Int)) (some (b : Int))).cps.toList = (x.cps.toList.drop a).take (b - a) := by
  have : Txt.slice x (some (a : Int)) (some (b : Int)) = StrLaws.sliceText x (some (a : Int)) (some (b : Int)) := rfl
  rw [this, StrLaws.sliceText_nat x h h2]
theorem nmA {w : Str} {k : Nat} (h8 : w.length = 8) (hk : k < 8) (hl : ∀ c ∈ w.cps.toList, low c = true) : nmL (nameA w k) := by
  have e := nameA_list (w := w) (k := k) (by omega)
  refine ⟨Nat.le_trans lenA (by omega), ?_⟩
  rw [e]
  rw [len_toList] at h8
  match hw : w.cps.toList, h8 with
  | c :: cs, h8 =>
    have h1 : ((c :: cs).take (k + 1)).length = k + 1 := by rw [List.length_take]; omega
    have hc : low c = true := hl c (by rw [hw]; exact List.mem_cons_self ..)
    have ha : ((c :: cs).take (k + 1)).all ld = true := by
      rw [List.all_eq_true]
      exact fun d hd => low_ld (hl d (by rw [hw]; exact List.mem_of_mem_take hd))
    unfold nmS
    rw [h1, ha, List.take_succ_cons]
    simp only [fst, hc, Bool.and_true, Bool.and_eq_true, decide_eq_true_eq]
    omega
theorem nmB {w : Str} {a sz c : Nat} (h8 : w.length = 8) (ha : 1 ≤ a) (hs : a < sz) (h2 : sz ≤ 8) (hl : ∀ d ∈ w.cps.toList, low d = true) (hc : ld c = true) : nmL (nameB w a (sz : Int) c) := by
  refine ⟨Nat.le_trans lenB (by omega), ?_⟩
  unfold nameB
  rw [app_list, app_list, slice_take (by omega), show ((a : Int) + 1) = ((a + 1 : Nat) : Int) by omega, slice_mid (by omega) (by omega)]
  rw [len_toList] at h8
  match hw : w.cps.toList, h8 with
  | d :: ds, h8 =>
    obtain ⟨a, rfl⟩ : ∃ b, a = b + 1 := ⟨a - 1, by omega⟩
    have hd : low d = true := hl d (by rw [hw]; exact List.mem_cons_self ..)
    have hl2 : ∀ x ∈ d :: ds, ld x = true := fun x hx => low_ld (hl x (by rw [hw]; exact hx))
    have e : (sgn c).cps.toList = [c] := rfl
    rw [e]
    have hall : ((d :: ds).take (a + 1) ++ [c] ++ ((d :: ds).drop (a + 1 + 1)).take (sz - (a + 1 + 1))).all ld = true := by
      rw [List.all_eq_true]
      intro x hx
      rcases List.mem_append.mp hx with hx | hx
      · rcases List.mem_append.mp hx with hx | hx
        · exact hl2 x (List.mem_of_mem_take hx)
        · rw [List.mem_singleton.mp hx]; exact hc
      · exact hl2 x (List.mem_of_mem_drop (List.mem_of_mem_take hx))
    have hlen : ((d :: ds).take (a + 1) ++ [c] ++ ((d :: ds).drop (a + 1 + 1)).take (sz - (a + 1 + 1))).length = sz := by
      rw [List.length_append, List.length_append, List.length_take, List.length_take, List.length_drop, List.length_singleton]
      omega
    unfold nmS
    rw [hlen, hall, List.take_succ_cons]
    simp only [List.cons_append, fst, hd, Bool.and_true, Bool.and_eq_true, decide_eq_true_eq]
    omega
mutual
def smD : PyData → Bool
  | .none => true
  | .bool _ => true
  | .int i => decide (i.natAbs < 10 ^ 80)
  | .str x => (x.cps.toList.all fun c => decide (c < 128)) && decide (x.length ≤ 1000)
  | .list xs => decide (xs.length ≤ 1000) && smL xs
  | .tuple xs => decide (xs.length ≤ 1000) && smL xs
  | .dict _ => false
def smL : List PyData → Bool
  | [] => true
  | x :: xs => smD x && smL xs
end
def nmD (d : PyData) : Bool := match d with
  | .str x => nmS x.cps.toList
  | _ => false
end M
namespace M
open PySem
set_option genInjectivity false in
set_option genSizeOf false in
structure Lr where
  d : Int
  b : Int
  u : Int
  n : Int
  a : Int
  x : Int
  t : Int
deriving DecidableEq
def encR (r : Lr) : PyData := .tuple [.int r.d, .int r.b, .int r.u, .int r.n, .int r.a, .int r.x, .int r.t]
end M
namespace M
open PySem
theorem num_nat {i : Int} (h : 0 ≤ i) : ∃ m : Nat, i = (m : Int) ∧ (numS i).cps.toList = (Nat.toDigits 10 m).map Char.toNat := by
  obtain ⟨m, rfl⟩ := Int.eq_ofNat_of_zero_le h
  exact ⟨m, rfl, PySem.W.KIN.signs_num m⟩
theorem num_len_eq {i : Int} {m : Nat} (h : (numS i).cps.toList = (Nat.toDigits 10 m).map Char.toNat) : (numS i).length = (Nat.toDigits 10 m).length := by
  have : (numS i).cps.toList.length = (numS i).length := by simp [Str.length]
  rw [← this, h, List.length_map]
theorem num_digs {i : Int} (h : 0 ≤ i) : ∀ c ∈ (numS i).cps.toList, 48 ≤ c ∧ c ≤ 57 := by
  obtain ⟨m, rfl, e⟩ := num_nat h
  intro c hc
  rw [e] at hc
  obtain ⟨ch, hch, rfl⟩ := List.mem_map.mp hc
  have := Nat.isDigit_of_mem_toDigits (by decide) (by decide) hch
  simp only [Char.isDigit, Bool.and_eq_true, decide_eq_true_eq] at this
  obtain ⟨h1, h2⟩ := this
  exact ⟨by have := UInt32.le_iff_toNat_le.mp h1; simpa using this, by have := UInt32.le_iff_toNat_le.mp h2; simpa using this⟩
theorem num_pos {i : Int} (h : 0 ≤ i) : 1 ≤ (numS i).length := by
  obtain ⟨m, rfl, e⟩ := num_nat h
  rw [num_len_eq e]
  exact Nat.length_toDigits_pos
theorem num_mono {i j : Int} (h : 0 ≤ i) (hj : i ≤ j) : (numS i).length ≤ (numS j).length := by
  obtain ⟨m, rfl, e⟩ := num_nat h
  obtain ⟨n, rfl, e'⟩ := num_nat (i := j) (by omega)
  rw [num_len_eq e, num_len_eq e']
  have hp : 0 < (Nat.toDigits 10 n).length := Nat.length_toDigits_pos
  rw [Nat.length_toDigits_le_iff (by decide) hp]
  have := (Nat.length_toDigits_le_iff (b := 10) (n := n) (by decide) hp).mp (Nat.le_refl _)
  omega
theorem num_le {i : Int} {k : Nat} (h : 0 ≤ i) (hk : 0 < k) (hi : i < 10 ^ k) : (numS i).length ≤ k := by
  obtain ⟨m, rfl, e⟩ := num_nat h
  rw [num_len_eq e, Nat.length_toDigits_le_iff (by decide) hk]
  exact_mod_cast hi
theorem lead_nz (m : Nat) : 0 < m → ∃ c r, Nat.toDigits 10 m = c :: r ∧ c.toNat ≠ 48 := by
  induction m using Nat.strongRecOn with
  | _ m ih =>
    intro h
    by_cases c : m < 10
    · rw [Nat.toDigits_of_lt_base c]
      refine ⟨_, [], rfl, ?_⟩
      have : ∀ d : Nat, d < 10 → 0 < d → (Nat.digitChar d).toNat ≠ 48 := by decide
      exact this m c h
    · obtain ⟨x, r, e, hx⟩ := ih (m / 10) (by omega) (by omega)
      rw [Nat.toDigits_of_base_le (by decide) (by omega), e]
      exact ⟨x, _, rfl, hx⟩
theorem num_lead {i : Int} (h : 0 < i) : ∃ c r, (numS i).cps.toList = c :: r ∧ c ≠ 48 := by
  obtain ⟨m, rfl, e⟩ := num_nat (i := i) (by omega)
  obtain ⟨c, r, e2, hc⟩ := lead_nz m (by omega)
  exact ⟨c.toNat, r.map Char.toNat, by rw [e, e2]; rfl, hc⟩
theorem num_zero : numS 0 = Str.ofString "0" := by decide +kernel
theorem num_int {i : Int} (h : 0 ≤ i) (h1 : i < 10 ^ 10) : PySem.intText? (numS i) = some i := PySem.W.KIN.num_reads h h1
theorem num_log {i : Int} (h : 0 ≤ i) (h1 : i < 10 ^ 10) : i.natAbs.log2 < 1920 := by
  by_cases z : i.natAbs = 0
  · rw [z]; decide
  · exact (Nat.log2_lt z).mpr (Nat.lt_of_lt_of_le (show i.natAbs < 2 ^ 40 by omega) (Nat.pow_le_pow_right (by decide) (by decide)))
theorem num_asc {i : Int} (h : 0 ≤ i) : ∀ c ∈ (numS i).cps.toList, c < 128 := fun c hc => by have := num_digs h c hc; omega
end M
namespace M
open PySem
def wBang : Str := Str.ofString "!"
def wColon : Str := ⟨#[58]⟩
theorem colon_eq : Str.ofString ":" = wColon := by decide +kernel
def thP (t : Th) : Str := t.nm ++ Str.ofString ":" ++ numS t.wo
def thW (t : Th) : Str := thP t ++ (if t.en then wBang else Str.ofString "")
def ThOk (x : Th) : Prop := asc x.nm ∧ nmL x.nm ∧ 0 ≤ x.wo ∧ x.wo ≤ 1000000
theorem empty_app (x : Str) : Str.empty ++ x = x := str_ext (by rw [cps_app]; rfl)
theorem app_empty (x : Str) : x ++ Str.ofString "" = x := str_ext (by rw [cps_app, show (Str.ofString "").cps.toList = [] by decide +kernel, List.append_nil])
theorem nm_len {t : Th} (h : ThOk t) : 1 ≤ t.nm.length ∧ t.nm.length ≤ 8 := by
  have := h.2.1.2
  unfold nmS at this
  simp only [Bool.and_eq_true, decide_eq_true_eq] at this
  rw [len_toList]
  exact this.1
theorem nm_ld {t : Th} (h : ThOk t) {c : Nat} (hc : c ∈ t.nm.cps.toList) : (97 ≤ c ∧ c ≤ 122) ∨ (48 ≤ c ∧ c ≤ 57) := by
  have := h.2.1.2
  unfold nmS at this
  simp only [Bool.and_eq_true, decide_eq_true_eq, List.all_eq_true] at this
  have := this.2.2 c hc
  simpa [ld, low, dig] using this
theorem wo_len {t : Th} (h : ThOk t) : (numS t.wo).length ≤ 9 := num_le (k := 9) h.2.2.1 (by decide) (by have := h.2.2.2; omega)
theorem thP_len {t : Th} (h : ThOk t) : (thP t).length ≤ 18 := by
  have := nm_len h
  have := wo_len h
  rw [thP, app_len, app_len, show (Str.ofString ":").length = 1 by decide +kernel]
  omega
theorem thW_len {t : Th} (h : ThOk t) : (thW t).length ≤ 19 := by
  have := thP_len h
  rw [thW, app_len]
  cases t.en
  · rw [show (if false = true then wBang else Str.ofString "").length = 0 by decide +kernel]; omega
  · rw [show (if true = true then wBang else Str.ofString "").length = 1 by decide +kernel]; omega
theorem thP_free {t : Th} (h : ThOk t) : ∀ c ∈ (thP t).cps.toList, c = 58 ∨ (97 ≤ c ∧ c ≤ 122) ∨ (48 ≤ c ∧ c ≤ 57) := fun c hc => by
  rw [thP, cps_app, cps_app, show (Str.ofString ":").cps.toList = [58] by decide +kernel] at hc
  simp only [List.mem_append, List.mem_singleton] at hc
  rcases hc with (hc | hc) | hc
  · exact .inr (nm_ld h hc)
  · exact .inl hc
  · exact .inr (.inr (num_digs h.2.2.1 c hc))
theorem thW_free {t : Th} (h : ThOk t) : 32 ∉ (thW t).cps.toList := fun hc => by
  rw [thW, cps_app, List.mem_append] at hc
  rcases hc with hc | hc
  · have := thP_free h 32 hc; omega
  · revert hc
    cases t.en <;> decide +kernel
theorem thP_ends {t : Th} (h : ThOk t) : Txt.endswith (thP t) wBang = false := by
  have e1 : wBang.length = 1 := by decide +kernel
  rw [thP, PySem.W.KAf.ends_right (by rw [e1]; exact num_pos h.2.2.1)]
  unfold Txt.endswith
  rw [Bool.and_eq_false_iff]
  right
  rw [StrLaws.subAt_eq, beq_eq_false_iff_ne]
  intro e
  rw [show wBang.cps.toList = [33] by decide +kernel] at e
  have : 33 ∈ (numS t.wo).cps.toList := List.mem_of_mem_drop (List.mem_of_mem_take (by rw [e]; exact List.mem_singleton_self _))
  have := num_digs h.2.2.1 33 this
  omega
theorem thW_ends {t : Th} (h : ThOk t) : Txt.endswith (thW t) wBang = t.en := by
  unfold thW
  cases e : t.en
  · rw [if_neg (by decide), app_empty, thP_ends h]
  · rw [if_pos rfl, PySem.W.KAf.ends_right (Nat.le_refl _)]
    decide +kernel
theorem thW_no {t : Th} (e : t.en = false) : thW t = thP t := by rw [thW, e, if_neg (by decide), app_empty]
theorem thW_yes {t : Th} (e : t.en = true) : Txt.slice (thW t) none (some (-1)) = thP t := by
  have hl : (thW t).length = (thP t).length + 1 := by rw [thW, e, if_pos rfl, app_len]; rfl
  have e2 : Txt.slice (thW t) none (some (-1)) = StrLaws.sliceText (thW t) none (some (-1)) := rfl
  rw [e2, StrLaws.sliceText_to_neg (by omega) (by omega)]
  apply str_ext
  show ((thW t).cps.toList.drop 0).take (-1 + ((thW t).length : Int) - 0).toNat = _
  rw [hl, show (-1 + (((thP t).length + 1 : Nat) : Int) - 0).toNat = (thP t).length by omega, List.drop_zero, thW, cps_app, len_toList, List.take_left]
theorem thP_split {t : Th} (h : ThOk t) : Txt.split (thP t) wColon = [t.nm, numS t.wo] := by
  have e : thP t = Str.join ⟨#[58]⟩ [t.nm, numS t.wo] := by rw [thP, colon_eq]; rfl
  rw [e]
  refine split_join 58 (by simp) fun x hx hc => ?_
  simp only [List.mem_cons, List.not_mem_nil, or_false] at hx
  rcases hx with rfl | rfl
  · have := nm_ld h hc; omega
  · have := num_digs h.2.2.1 58 hc; omega
end M
namespace L2
open PySem PySem.W
theorem walkX {q : Program} {loose : List Str} {XP : (Str → Option Value) → Heap → Prop} {ks : List Addr} {K : Params → Frag} {n t : Nat} {r : RowW} {d : DefRec} {kwd : List (Str × Expr)} {run : Value → List Value → Sem Value}
    (e : ∀ P, ks = (K P).map (·.1)) (wo : WalkO q loose XP (fun w h => (K w.params).In h) r d kwd run) : WalkX q loose XP (X.obsZ ks) (X.valZ K n t) r d kwd run :=
  fun w s₀ s₁ mg mb G y a o pm cd doc dV kV ho hd hcd hD hmg hg args vals as L hpre hlay hrd hwl hlo => wo w s₀ s₁ mg mb G (InK.keeps w s₀.heap s₁.heap (X.z_facts e y).2.1 L.keeps) a o pm cd doc dV kV ho hd hcd hD hmg hg args vals as hpre hlay hrd hwl hlo
end L2
namespace L2
end L2
namespace L2
open PySem PySem.Spec PyProof.Rows M
def Tk (K : PySem.W.Frag) (H H' : Hp) : Prop := ∀ a xs, SqT K H a xs → SqT K H' a xs
theorem Tk.refl {K : PySem.W.Frag} (H : Hp) : Tk K H H := fun _ _ h => h
theorem Tk.trans {K : PySem.W.Frag} {H H1 H2 : Hp} (a : Tk K H H1) (b : Tk K H1 H2) : Tk K H H2 := fun c xs h => b c xs (a c xs h)
theorem Ext.tk {K : PySem.W.Frag} {t : Addr} {H H' : Hp} (e : Ext t H H') : Tk K H H' := fun _ _ h => e.sqT h
theorem Same.tk {K : PySem.W.Frag} {H H' : Hp} (e : Same H H') : Tk K H H' := (Same.ext (t := 0) e).tk
theorem Tk.upd {K : PySem.W.Frag} {H : Hp} {a : Addr} {o : HO} (h : ∀ xs, ¬ Rd H a (.tup xs)) : Tk K H (upd H a o) := fun b xs q => by
  by_cases e : b = a
  · subst e
    rcases q with q | q
    · exact absurd q (h xs)
    · exact .inr q
  · rcases q with (q | ⟨u, q⟩) | q
    · exact .inl (.inl (by rw [upd_ne e]; exact q))
    · exact .inl (.inr ⟨u, by rw [upd_ne e]; exact q⟩)
    · exact .inr q
theorem Tk.updL {K : PySem.W.Frag} {H : Hp} {a : Addr} {ys : List V} {o : HO} (h : H a = some (.lst ys)) : Tk K H (L2.upd H a o) := Tk.upd fun xs q => by
  rcases q with q | ⟨u, q⟩
  · rw [h] at q; cases q
  · rw [h] at q; cases q
mutual
def noL : PyData → Bool
  | .list _ => false
  | .dict _ => false
  | .tuple ds => noLs ds
  | _ => true
def noLs : List PyData → Bool
  | [] => true
  | d :: ds => noL d && noLs ds
end
mutual
theorem Dt.tk {K : PySem.W.Frag} {t t' : Addr} {H H' : Hp} (e : Tk K H H') : ∀ (d : PyData) (v : V), noL d = true → Dt K t H d v → Dt K t' H' d v
  | .none, _, _, h => by simp only [Dt] at h ⊢; exact h
  | .bool _, _, _, h => by simp only [Dt] at h ⊢; exact h
  | .int _, _, _, h => by simp only [Dt] at h ⊢; exact h
  | .str _, _, _, h => by simp only [Dt] at h ⊢; exact h
  | .tuple ds, v, n, h => by
    simp only [noL] at n
    simp only [Dt] at h ⊢
    obtain ⟨a, xs, h1, h2, h3⟩ := h
    exact ⟨a, xs, h1, e _ _ h2, DtL.tk e ds xs n h3⟩
  | .list ds, v, n, h => by simp [noL] at n
  | .dict _, _, n, h => by simp [noL] at n
theorem DtL.tk {K : PySem.W.Frag} {t t' : Addr} {H H' : Hp} (e : Tk K H H') : ∀ (ds : List PyData) (vs : List V), noLs ds = true → DtL K t H ds vs → DtL K t' H' ds vs
  | [], _, _, h => by simp only [DtL] at h ⊢; exact h
  | d :: ds, vs, n, h => by
    simp only [noLs, Bool.and_eq_true] at n
    simp only [DtL] at h ⊢
    obtain ⟨v, r, h1, h2, h3⟩ := h
    exact ⟨v, r, h1, Dt.tk e d v n.1 h2, DtL.tk e ds r n.2 h3⟩
end
theorem noL_cap (c : Option Int) : noL (capD c) = true := by cases c <;> rfl
theorem noL_enc : ∀ r : Rl, noL (enc r) = true
  | .pt => rfl
  | .un to lead cap i => by simp only [enc, noL, noLs, noL_enc i, noL_cap]; rfl
  | .ul to lead cap i l => by simp only [enc, noL, noLs, noL_enc i, noL_enc l]; rfl
theorem noLs_enc : ∀ rs : List Rl, noLs (rs.map enc) = true
  | [] => rfl
  | r :: rs => by simp only [List.map_cons, noLs, noL_enc r, noLs_enc rs]; rfl
def RlV (K : PySem.W.Frag) (H : Hp) (r : Rl) (v : V) : Prop := Dt K 0 H (enc r) v
def RlL (K : PySem.W.Frag) (H : Hp) (rs : List Rl) (vs : List V) : Prop := DtL K 0 H (rs.map enc) vs
section
variable {K : PySem.W.Frag} {H H' : Hp} {r : Rl} {rs qs : List Rl} {v : V} {vs us : List V} {t : Addr}
theorem RlV.of (h : Dt K t H (enc r) v) : RlV K H r v := Dt.tk (.refl H) _ _ (noL_enc r) h
theorem RlV.dt (h : RlV K H r v) : Dt K t H (enc r) v := Dt.tk (.refl H) _ _ (noL_enc r) h
theorem RlV.tk (h : RlV K H r v) (e : Tk K H H') : RlV K H' r v := Dt.tk e _ _ (noL_enc r) h
theorem RlV.same (h : RlV K H r v) (e : Same H H') : RlV K H' r v := h.tk e.tk
theorem RlL.nil : RlL K H [] [] := by simp [RlL, DtL]
theorem RlL.one (h : RlV K H r v) : RlL K H [r] [v] := by
  simp only [RlL, List.map_cons, List.map_nil, DtL]
  exact ⟨v, [], rfl, h, rfl⟩
theorem RlL.len (h : RlL K H rs vs) : rs.length = vs.length := by
  have := DtL.len h
  rwa [List.length_map] at this
theorem RlL.get {i : Nat} (h : RlL K H rs vs) (e : vs[i]? = some v) : ∃ r, rs[i]? = some r ∧ RlV K H r v := by
  have hi : i < rs.length := by rw [h.len]; exact (List.getElem?_eq_some_iff.mp e).1
  have e1 : rs[i]? = some rs[i] := List.getElem?_eq_getElem hi
  obtain ⟨u, e2, d⟩ := DtL.get (i := i) h (by rw [List.getElem?_map, e1]; rfl)
  rw [e] at e2
  cases e2
  exact ⟨_, e1, d⟩
end
def plainComp (N : List Str) (x : Str) (scope : Scope) : Bool :=
  decide (scope.kind = .function) && scope.names.all (fun p => decide (p.2 = .local) || decide (p.2 = .globalImplicit))
    && scope.names.all (fun p => !decide (p.2 = .local) || decide (scope.names.lookup p.1 = some .local))
    && decide (scope.names.lookup x = some .local) && decide ((x :: N).Nodup)
    && N.all (fun y => decide (scope.names.lookup y = none) || decide (scope.names.lookup y = some .globalImplicit))
theorem relabel_plain {scope : Scope} {env : Env} (h : ∀ p ∈ scope.names, p.2 ≠ .free) : (relabel scope env).names = scope.names := by
  unfold relabel
  show scope.names.map _ = _
  have : ∀ l : List (Str × NameKind), (∀ p ∈ l, p.2 ≠ .free) → l.map (fun (n, k) => if (k == .free && env.scope.kind == .function && env.kindOf n == some .cell) then (n, NameKind.cell) else (n, k)) = l := by
    intro l
    induction l with
    | nil => intro _; rfl
    | cons p l ih =>
      intro hl
      obtain ⟨n, k⟩ := p
      have hk : k ≠ .free := hl _ (List.mem_cons_self ..)
      rw [List.map_cons, ih fun p hp => hl p (List.mem_cons_of_mem _ hp)]
      have : (k == NameKind.free) = false := by simpa using hk
      simp [this]
  exact this _ h
theorem compPlain {X : Cx} {N : List Str} {x : Str} {scope : Scope} (hN : X.N = N) (h : plainComp N x scope = true) (hc : closureFor scope X.env = pure []) : CompScope X (x :: N) x scope [] := by
  simp only [plainComp, Bool.and_eq_true, decide_eq_true_eq, List.all_eq_true, Bool.or_eq_true, Bool.not_eq_true', decide_eq_false_iff_not] at h
  obtain ⟨⟨⟨⟨⟨h1, h2⟩, h3⟩, h4⟩, h5⟩, h6⟩ := h
  have nf : ∀ p ∈ scope.names, p.2 ≠ .free := fun p hp z => by rcases h2 p hp with e | e <;> rw [z] at e <;> cases e
  have rl := relabel_plain (env := X.env) nf
  have lk : ∀ (l : List (Str × NameKind)), (∀ p ∈ l, p.2 = .local ∨ p.2 = .globalImplicit) → ∀ y k, l.lookup y = some k → k = .local ∨ k = .globalImplicit := by
    intro l
    induction l with
    | nil => intro _ y k e; cases e
    | cons p l ih =>
      intro hl y k e
      obtain ⟨n, kk⟩ := p
      rw [List.lookup_cons] at e
      split at e
      · cases e; exact hl _ (List.mem_cons_self ..)
      · exact ih (fun p hp => hl p (List.mem_cons_of_mem _ hp)) y k e
  refine ⟨hc, fun y hy z => ?_, h1, fun y hy e => ?_, h4, h5, rfl, by rw [hN]; rfl, fun j y e v => ?_, fun y c e => (by cases e), fun y e => ?_, rfl⟩
  · rcases h2 y hy with e | e <;> rw [z] at e <;> cases e
  · rcases h3 y hy with q | q
    · exact absurd e q
    · exact q
  · exfalso
    have hy : y ∈ N := List.mem_of_getElem? (by simpa using e)
    have q := h6 y hy
    unfold Vis at v
    rw [rl] at v
    rcases q with q | q <;> rw [q] at v <;> rcases v with v | v | v <;> cases v
  · exfalso
    rw [rl] at e
    rcases e with e | e <;> rcases lk _ h2 y _ e with z | z <;> cases z
def capComp (N fr : List Str) (x : Str) (scope osc : Scope) : Bool :=
  decide (scope.kind = .function) && decide (osc.kind = .function)
    && scope.names.all (fun p => decide (p.2 = .local) || decide (p.2 = .globalImplicit) || (decide (p.2 = .free) && decide (p.1 ∈ fr) && decide (osc.names.lookup p.1 = some .cell)))
    && scope.names.all (fun p => !decide (p.2 = .local) || decide (scope.names.lookup p.1 = some .local))
    && decide (scope.names.lookup x = some .local) && decide ((x :: N).Nodup) && decide (x ∉ fr)
    && N.all (fun y => !decide (scope.names.lookup y = some .local))
theorem relabel_lookup {scope : Scope} {env : Env} (y : Str) : (relabel scope env).names.lookup y = (scope.names.lookup y).map fun k => if (k == NameKind.free && env.scope.kind == .function && env.kindOf y == some .cell) = true then NameKind.cell else k := by
  unfold relabel
  show List.lookup y (scope.names.map _) = _
  induction scope.names with
  | nil => rfl
  | cons p l ih =>
    obtain ⟨n, k⟩ := p
    by_cases e : y = n
    · subst e
      have h1 : (y == y) = true := beq_self_eq_true y
      rw [List.map_cons, List.lookup_cons, List.lookup_cons, h1]
      by_cases c : (k == NameKind.free && env.scope.kind == .function && env.kindOf y == some .cell) = true
      · rw [if_pos c]; simp only [h1, Option.map_some]; rw [if_pos c]
      · rw [if_neg c]; simp only [h1, Option.map_some]; rw [if_neg c]
    · have h1 : (y == n) = false := beq_eq_false_iff_ne.mpr e
      rw [List.map_cons, List.lookup_cons, List.lookup_cons, h1]
      by_cases c : (k == NameKind.free && env.scope.kind == .function && env.kindOf n == some .cell) = true
      · rw [if_pos c]; simp only [h1]; exact ih
      · rw [if_neg c]; simp only [h1]; exact ih
theorem lookup_mem {α : Type} : ∀ {l : List (Str × α)} {y : Str} {c : α}, l.lookup y = some c → (y, c) ∈ l
  | [], _, _, h => by cases h
  | (n, k) :: l, y, c, h => by
    rw [List.lookup_cons] at h
    split at h
    · rename_i e
      cases h
      have : y = n := by simpa using e
      subst this
      exact List.mem_cons_self ..
    · exact List.mem_cons_of_mem _ (lookup_mem h)
theorem mem_lookup {α : Type} : ∀ {l : List (Str × α)} {y : Str}, y ∈ l.map (·.1) → ∃ c, l.lookup y = some c
  | [], _, h => by simp at h
  | (n, k) :: l, y, h => by
    rw [List.lookup_cons]
    split
    · exact ⟨k, rfl⟩
    · rename_i e
      have : y ≠ n := by simpa using e
      simp only [List.map_cons, List.mem_cons] at h
      rcases h with h | h
      · exact absurd h this
      · exact mem_lookup h
theorem compCap {X : Cx} {N fr : List Str} {x : Str} {scope osc : Scope} {cl : List (Str × Addr)} (hN : X.N = N) (ho : X.env.scope = osc) (h : capComp N fr x scope osc = true) (hc : closureFor scope X.env = pure cl)
    (hf : cl.map (·.1) = fr) (hcl : ∀ p ∈ cl, X.env.cells.lookup p.1 = some p.2) : CompScope X (x :: N) x scope cl := by
  simp only [capComp, Bool.and_eq_true, decide_eq_true_eq, List.all_eq_true, Bool.or_eq_true, Bool.not_eq_true', decide_eq_false_iff_not] at h
  obtain ⟨⟨⟨⟨⟨⟨⟨h1, h0⟩, h2⟩, h3⟩, h4⟩, h5⟩, h7⟩, h6⟩ := h
  subst ho
  have rl := relabel_lookup (scope := scope) (env := X.env)
  have fr_of : ∀ y, scope.names.lookup y = some .free → y ∈ fr ∧ X.env.kindOf y = some .cell := fun y e => by
    rcases h2 _ (lookup_mem e) with (z | z) | z
    · cases z
    · cases z
    · exact ⟨z.1.2, z.2⟩
  have vis : ∀ y k, (relabel scope X.env).names.lookup y = some k → (k = .local ∧ scope.names.lookup y = some .local) ∨ (k = .globalImplicit) ∨ (k = .cell ∧ scope.names.lookup y = some .free) := fun y k e => by
    rw [rl y] at e
    cases e0 : scope.names.lookup y with
    | none => rw [e0] at e; cases e
    | some k0 =>
      rw [e0] at e
      simp only [Option.map_some, Option.some.injEq] at e
      rcases h2 _ (lookup_mem e0) with (z | z) | z
      · have z' : k0 = .local := z
        subst z'
        left
        exact ⟨by rw [← e]; rfl, rfl⟩
      · have z' : k0 = .globalImplicit := z
        subst z'
        right; left
        rw [← e]; rfl
      · have z' : k0 = .free := z.1.1
        subst z'
        right; right
        refine ⟨?_, rfl⟩
        rw [← e, if_pos]
        have hk : X.env.kindOf y = some .cell := z.2
        rw [hk, h0]
        rfl
  refine ⟨hc, fun y hy z => ?_, h1, fun y hy e => ?_, h4, h5, rfl, by rw [hN]; rfl, fun j y e v => ?_, fun y c e => hcl _ (lookup_mem e), fun y e => ?_, ?_⟩
  · rcases h2 y hy with (e | e) | e
    · rw [z] at e; cases e
    · rw [z] at e; cases e
    · rw [z] at e; cases e.1.1
  · rcases h3 y hy with q | q
    · exact absurd e q
    · exact q
  · have e' : N[j]? = some y := by simpa using e
    have hy : y ∈ N := List.mem_of_getElem? e'
    have key : scope.names.lookup y = some .free ∧ (relabel scope X.env).names.lookup y = some .cell := by
      rcases v with v | v | v <;> rcases vis y _ v with z | z | z
      · exact absurd z.2 (h6 y hy)
      · cases z
      · cases z.1
      · cases z.1
      · cases z
      · exact ⟨z.2, v⟩
      · cases z.1
      · cases z
      · cases z.1
    obtain ⟨k1, k2⟩ := key
    obtain ⟨f1, f2⟩ := fr_of y k1
    obtain ⟨c, hcc⟩ := mem_lookup (l := cl) (y := y) (by rw [hf]; exact f1)
    exact ⟨by rw [hN]; exact e', f2, .inr (.inl f2), .inl k2, hcc.trans (hcl _ (lookup_mem hcc)).symm⟩
  · have : scope.names.lookup y = some .free := by
      rcases e with e | e <;> rcases vis y _ e with z | z | z
      · cases z.1
      · cases z
      · exact z.2
      · cases z.1
      · cases z
      · cases z.1
    exact mem_lookup (by rw [hf]; exact (fr_of y this).1)
  · cases e : cl.lookup x with
    | none => rfl
    | some c => exact absurd (by rw [← hf]; exact List.mem_map_of_mem (lookup_mem e)) h7
end L2
namespace L2
open PySem PySem.Spec PyProof.Rows M
section
variable (K : PySem.W.Frag) (ns : List Int)
def spTape : Sp := fun vs H Q _ => ∃ a, vs = [.ref a] ∧ SqL K H a (ns.map V.int) ∧ ∀ t H', Tape K ns t H' → Q (.ref t) H'
def spDraw : Sp := fun vs H Q _ => ∃ t m, vs = [.ref t, .int m] ∧ 0 < m ∧ m < 1073741824 ∧ Tape K ns t H ∧ ∀ (r : Int) (H' : Hp), 0 ≤ r → r < m → Cur K ns t H H' → Q (.int r) H'
def spRule (n : Nat) : Sp := fun vs H Q _ => ∃ t dp th, vs = [.ref t, .int dp, .int th] ∧ 0 ≤ dp ∧ dp < n ∧ 0 ≤ th ∧ Tape K ns t H ∧ ∀ rl r H', ok rl → depth rl ≤ dp.toNat → size rl ≤ U dp.toNat th.toNat → Cur K ns t H H' → Dt K t H' (enc rl) r → Q r H'
def spUnit (n : Nat) : Sp := fun vs H Q _ => ∃ t dp th, vs = [.ref t, .int dp, .int th] ∧ 0 < dp ∧ dp < n ∧ 0 ≤ th ∧ Tape K ns t H ∧ ∀ rl r H', ok rl → depth rl ≤ dp.toNat → size rl ≤ U dp.toNat th.toNat → Cur K ns t H H' → Dt K t H' (enc rl) r → Q r H'
def spAny : Sp := fun vs H Q _ => ∃ t, vs = [.ref t] ∧ Tape K ns t H ∧ ∀ rl r H', ok rl → depth rl ≤ 4 → size rl ≤ 7 → Cur K ns t H H' → Dt K t H' (enc rl) r → Q r H'
def spLaw : Sp := fun vs H Q _ => ∃ (a : Addr) (ns : List Int), vs = [.ref a] ∧ SqL K H a (ns.map V.int) ∧ ns.length ≤ 63 ∧ ∀ H', Q (.bl true) H'
end
section
variable {K : PySem.W.Frag} {ns : List Int} {t : Addr} {H : Hp} {Q : VK} {E : XK}
theorem draw_of {m : Int} (T : Tape K ns t H) (h : ∀ (r : Int) (H' : Hp), 0 ≤ r → r < m → Cur K ns t H H' → Q (.int r) H') (h0 : 0 < m := by decide) (h1 : m < 1073741824 := by decide) : spDraw K ns [.ref t, .int m] H Q E := ⟨t, m, rfl, h0, h1, T, h⟩
end
theorem at0 {ns : List Int} (h : 0 < (ns.map V.int).length) : ∃ n : Int, atI (ns.map V.int) 0 = some (.int n) := by
  cases ns with
  | nil => simp at h
  | cons n r => exact ⟨n, atI_nat (j := 0) rfl⟩
theorem atMod {ns : List Int} (i : Int) (h : 0 < (ns.map V.int).length) : ∃ n : Int, atI (ns.map V.int) (i % ((ns.map V.int).length : Nat)) = some (.int n) := by
  have h1 := Int.emod_nonneg i (show (((ns.map V.int).length : Nat) : Int) ≠ 0 by omega)
  have h2 := Int.emod_lt_of_pos i (show (0 : Int) < ((ns.map V.int).length : Nat) by omega)
  generalize i % (((ns.map V.int).length : Nat) : Int) = j at h1 h2
  rw [List.length_map] at h2
  have hj : j.toNat < ns.length := by omega
  have e : (ns.map V.int)[j.toNat]? = some (.int ns[j.toNat]) := by rw [List.getElem?_map, List.getElem?_eq_getElem hj]; rfl
  have z := atI_nat e
  rw [show ((j.toNat : Nat) : Int) = j by omega] at z
  exact ⟨_, z⟩
theorem small6 {xs : List V} (h : xs.length ≤ 1000) : xs.length ≤ sizeLine := Nat.le_of_lt (small1000 h)
theorem smallA {xs ys : List V} (h : xs.length + ys.length ≤ 1000) : xs.length + ys.length ≤ sizeLine := Nat.le_of_lt (small1000 h)
theorem cmul_l {i j : Int} (h1 : -1000000 ≤ i) (h2 : i ≤ 10000000) : CMul i j := .inl ⟨by omega, by omega⟩
theorem list6 {α : Type} {l : List α} (h : l.length = 6) : ∃ a b c d e f, l = [a, b, c, d, e, f] := match l, h with
  | [a, b, c, d, e, f], _ => ⟨a, b, c, d, e, f, rfl⟩
theorem dtl_hd {K : PySem.W.Frag} {t : Addr} {H : Hp} {d : PyData} {ds : List PyData} {v : V} {vs : List V} (h : DtL K t H (d :: ds) (v :: vs)) : Dt K t H d v ∧ DtL K t H ds vs := by
  simp only [DtL] at h
  obtain ⟨_, _, e, h1, h2⟩ := h
  cases e
  exact ⟨h1, h2⟩
theorem six_of {K : PySem.W.Frag} {t : Addr} {H : Hp} {ds : List PyData} {xs : List V} (q : DtL K t H ds xs) (h : xs.length = 6) : ∃ d0 d1 d2 d3 d4 d5 v0 v1 v2 v3 v4 v5, ds = [d0, d1, d2, d3, d4, d5] ∧ xs = [v0, v1, v2, v3, v4, v5] ∧ Dt K t H d0 v0 ∧ Dt K t H d1 v1 ∧ Dt K t H d2 v2 ∧ Dt K t H d3 v3 ∧ Dt K t H d4 v4 ∧ Dt K t H d5 v5 := by
  obtain ⟨v0, v1, v2, v3, v4, v5, rfl⟩ := list6 h
  obtain ⟨d0, d1, d2, d3, d4, d5, rfl⟩ := list6 (q.len.trans h)
  have a0 := dtl_hd q
  have a1 := dtl_hd a0.2
  have a2 := dtl_hd a1.2
  have a3 := dtl_hd a2.2
  have a4 := dtl_hd a3.2
  have a5 := dtl_hd a4.2
  exact ⟨_, _, _, _, _, _, _, _, _, _, _, _, rfl, rfl, a0.1, a1.1, a2.1, a3.1, a4.1, a5.1⟩
theorem dt_non {K : PySem.W.Frag} {t : Addr} {H : Hp} {d : PyData} {v : V} (h : Dt K t H d v) : decide (v = .non) = isN d := by
  cases d with
  | none => simp only [Dt] at h; subst h; rfl
  | bool b => simp only [Dt] at h; subst h; rfl
  | int b => simp only [Dt] at h; subst h; rfl
  | str b => simp only [Dt] at h; obtain ⟨h, _⟩ := h; subst h; rfl
  | tuple b => simp only [Dt] at h; obtain ⟨_, _, h, _⟩ := h; subst h; rfl
  | list b => simp only [Dt] at h; obtain ⟨_, _, h, _⟩ := h; subst h; rfl
  | dict b => simp [Dt] at h
theorem dep_pt : pointD.depth = 1 := by decide +kernel
theorem pt_dt {K : PySem.W.Frag} {t p : Addr} {H : Hp} (h : SqT K H p [.str "point"]) : Dt K t H pointD (.ref p) := .tup h (.cons (dstr "point") .nil)
theorem eqv_enc_pt (rl : Rl) : PyData.eqv (enc rl) pointD = true ↔ rl = .pt := by
  cases rl with
  | pt => exact ⟨fun _ => rfl, fun _ => rfl⟩
  | un _ _ _ _ => exact ⟨fun h => (by rw [enc, eqv_unit] at h; cases h), fun h => (by cases h)⟩
  | ul _ _ _ _ _ => exact ⟨fun h => (by rw [enc, eqv_unit] at h; cases h), fun h => (by cases h)⟩
theorem same_new {H : Hp} {p : Addr} (h : H p = none) (o : HO) : Same H (upd H p o) := fun b u q => by rw [upd_ne (ne_of_none q h)]; exact q
theorem Same.dt {K : PySem.W.Frag} {t : Addr} {H H' : Hp} {d : PyData} {v : V} (h : Dt K t H d v) (e : Same H H') : Dt K t H' d v := h.on e.ext
theorem Same.sqT {K : PySem.W.Frag} {H H' : Hp} {a : Addr} {xs : List V} (h : SqT K H a xs) (e : Same H H') : SqT K H' a xs := (Same.ext (t := 0) e).sqT h
theorem atMem {xs : List V} {i : Int} (h0 : 0 ≤ i) (h1 : i < xs.length) : ∃ v, atI xs i = some v ∧ v ∈ xs := by
  have hi : i.toNat < xs.length := by omega
  have z := atI_nat (List.getElem?_eq_getElem hi)
  rw [show ((i.toNat : Nat) : Int) = i by omega] at z
  exact ⟨_, z, List.getElem_mem hi⟩
def optI : Option Int → V
  | none => .non
  | some c => .int c
theorem dt_cap {K : PySem.W.Frag} {t : Addr} {H : Hp} (cap : Option Int) : Dt K t H (capD cap) (optI cap) := by
  cases cap with
  | none => exact .non
  | some c => exact .int c
section
variable {X : Cx} {K : PySem.W.Frag} {k : Nat}
theorem ixK_seq (h : X.K = K) : IxR X (rIx K) := h ▸ ix_seq
end
end L2
namespace L2
open PySem PySem.Spec PyProof.Rows
def rLeS : R2 := fun x y H Q => ∃ a b, x = .str a ∧ y = .str b ∧ Q (.bl (!decide (b.cps.toList < a.cps.toList))) H
theorem op_leS {X : Cx} : OpR X (compareOp .LtE) rLeS := by
  intro pins s σ H x y v u Q I rx ry h
  obtain ⟨a, b, rfl, rfl, q⟩ := h
  obtain ⟨t, rfl⟩ := rx
  obtain ⟨t', rfl⟩ := ry
  exact PySem.P.le_str ⟨.bl _, H, I, rfl, q⟩
def strVs (us : List Value) : List (Str × Tok) := us.map fun u => match u with | .str x t => (x, t) | _ => (Str.empty, 0)
theorem vals_strs : ∀ {xs : List Str} {us : List Value}, Vals (xs.map V.str) us → strValues (strVs us) = us ∧ (strVs us).map (·.1) = xs
  | [], us, r => by cases r; exact ⟨rfl, rfl⟩
  | x :: xs, us, r => by
    cases r with
    | cons r1 r2 =>
      obtain ⟨t, rfl⟩ := r1
      obtain ⟨e1, e2⟩ := vals_strs r2
      refine ⟨?_, ?_⟩
      · show Value.str x t :: strValues (strVs _) = _
        rw [e1]
      · show x :: (strVs _).map (·.1) = _
        rw [e2]
def rJoin (K : PySem.W.Frag) : V → List V → Hp → VK → Prop := fun x vs H Q => ∃ sep l ws, x = .str sep ∧ vs = [.ref l] ∧ SqL K H l (ws.map V.str) ∧ JoinOk sep ws = true ∧ Q (.str (Txt.join sep ws)) H
theorem mt_join {X : Cx} : MtR X "str.join" (rJoin X.K) := by
  intro pins s σ H x vs v us Q I rx rv h
  obtain ⟨sep, l, ws, rfl, rfl, hl, hok, q⟩ := h
  obtain ⟨t, rfl⟩ := rx
  obtain ⟨u, rfl, ru⟩ := rv.one
  cases ru
  obtain ⟨its, r, pl, hz⟩ := I.list hl
  obtain ⟨e1, e2⟩ := vals_strs r
  have hI : s.heap.IsList l (strValues (strVs its)).toArray := by rw [e1]; exact pl.isList
  exact SC.join hI e2 hok fun t' k => ⟨.str _, H, I.tok _, ⟨_, rfl⟩, q⟩
theorem strValues_vals : ∀ l : List (Str × Tok), Vals ((l.map (·.1)).map V.str) (strValues l)
  | [] => .nil
  | p :: r => .cons ⟨p.2, rfl⟩ (strValues_vals r)
def rSplit : V → List V → Hp → VK → Prop := fun x vs H Q => ∃ a b, x = .str a ∧ vs = [.str b] ∧ (b.length == 0) = false ∧ a.length + 2 ≤ sizeLine ∧ ∀ l, H l = none → Q (.ref l) (upd H l (.lst ((Txt.split a b).map V.str)))
theorem split_len (x y : Str) (h : x.length + 2 ≤ sizeLine) : (Txt.split x y).length ≤ sizeLine := by
  unfold Txt.split
  split
  · show 1 ≤ sizeLine; omega
  · split
    · show 1 ≤ sizeLine; omega
    · have e1 := StrLaws.occ_length_le x y 0 x.length (x.length + 1)
      rw [length_partsBetween]; omega
theorem mt_split {X : Cx} : MtR X "str.split" rSplit := by
  intro pins s σ H x vs v us Q I rx rv h
  obtain ⟨a, b, rfl, rfl, hb, hz, q⟩ := h
  obtain ⟨t, rfl⟩ := rx
  obtain ⟨u, rfl, ru⟩ := rv.one
  obtain ⟨t', rfl⟩ := ru
  have fin : ∀ (l : List (Str × Tok)) (k : Nat), l.map (·.1) = Txt.split a b → EP X pins σ Q (.ref s.heap.objs.size) { s with heap := s.heap.push { cls := .type "list", data := .seq (strValues l).toArray }, toks := k } := fun l k e => by
    have hv := strValues_vals l
    rw [e] at hv
    exact ⟨.ref _, _, I.lnew (t' := k) hv (by rw [List.length_map]; exact split_len a b hz), rfl, q _ I.fresh⟩
  have hn : (Builtin.Str.partsBetween a (Builtin.Str.occurrences a b 0 a.length (a.length + 1)) b.length).length ≤ sizeLine := by
    have e1 := StrLaws.occ_length_le a b 0 a.length (a.length + 1)
    rw [length_partsBetween]; omega
  cases h1 : (decide (a.length < b.length) || decide (Builtin.Str.strKind a < Builtin.Str.strKind b))
  · cases hf : (Builtin.Str.occurrences a b 0 a.length (a.length + 1)).isEmpty
    · refine call_meets F.slot_str_split (typeIs_str _ _ _) F.entry_str_split (F.args_str_split_2 _ _) (meets_str_split_sep a b t t' h1 hb hf (by omega) hn) ?_
      show wants _ _ _ { s with toks := _, heap := s.heap.push { cls := .type "list", data := .seq (strsFrom s.toks (Builtin.Str.partsBetween a (Builtin.Str.occurrences a b 0 a.length (a.length + 1)) b.length)).toArray } }
      rw [strsFrom_eq]
      exact fin (numbered s.toks _) _ ((numbered_texts _ _).trans ((if_neg (ne_true_of_eq_false h1)).trans (if_neg (ne_true_of_eq_false hf))).symm)
    · exact call_meets F.slot_str_split (typeIs_str _ _ _) F.entry_str_split (F.args_str_split_2 _ _) (meets_str_split_not_found a b t t' h1 hb hf)
        (fin [(a, t)] s.toks ((if_neg (ne_true_of_eq_false h1)).trans (if_pos hf)).symm)
  · exact call_meets F.slot_str_split (typeIs_str _ _ _) F.entry_str_split (F.args_str_split_2 _ _) (meets_str_split_cannot_occur a b t t' h1)
      (fin [(a, t)] s.toks (if_pos h1).symm)
def rAllB (K : PySem.W.Frag) : List V → Hp → VK → Prop := fun xs H Q => ∃ (l : Addr) (bs : List Bool), xs = [.ref l] ∧ SqL K H l (bs.map V.bl) ∧ Q (.bl (bs.all id)) H
theorem vals_bools : ∀ {bs : List Bool} {us : List Value}, Vals (bs.map V.bl) us → us = bs.map Value.bool
  | [], us, r => by cases r; rfl
  | b :: bs, us, r => by
    cases r with
    | cons r1 r2 =>
      cases r1
      rw [vals_bools r2]
      rfl
theorem call_allB {X : Cx} (hc : X.calm = true) : CallR X (.builtin "all") (rAllB X.K) := by
  intro pins s σ H xs us Q I r h
  obtain ⟨l, bs, rfl, hl, q⟩ := h
  obtain ⟨u, rfl, ru⟩ := vals1 r
  cases ru
  obtain ⟨its, rv, pl, hz⟩ := I.list hl
  have e := vals_bools rv
  subst e
  have hI := pl.isList
  have hlt : l < s.heap.objs.size := by obtain ⟨_, e, _⟩ := hI; exact Heap.lt_size e
  refine call_all_walk (wpAny_pyIter_list hI ?_)
  refine ⟨s.heap.objs.size, [s.heap.objs.size, l], [s.heap.objs.size], (bs.map Value.bool).toArray.size, _, _, fun i => (bs[i]?).getD true, rfl, Walks.list (A := X.A.in1) (I.ok.hd hc) _ l (Nat.ne_of_lt hlt) (bs.map Value.bool).toArray,
    ⟨⟨_, Heap.get?_push_size _ rfl, rfl, rfl⟩, hI.push _⟩, fun i v s' Q' E' hP hQ => ?_, fun h' tk hk => ?_⟩
  · have hP' : (bs.map Value.bool)[i]? = some v := by simpa using hP
    rw [List.getElem?_map] at hP'
    cases e : bs[i]? with
    | none => rw [e] at hP'; cases hP'
    | some b =>
      rw [e] at hP'
      cases hP'
      simp only [e, Option.getD_some] at hQ
      exact wpAny_truthy_bool hQ
  · have e : ((List.range (bs.map Value.bool).toArray.size).all fun i => (bs[i]?).getD true) = bs.all id := by
      rw [List.size_toArray, List.length_map]
      exact PyProof.Rows.LSm.range_all bs
    rw [e]
    refine ⟨.bl _, H, I.kept (t' := tk) (fun b o q => hk b o (fun hm => ?_) (Heap.get?_push_of_some _ q)), rfl, q⟩
    rw [List.mem_singleton.mp hm] at q
    exact Nat.lt_irrefl _ (Heap.lt_size q)
def rIntT : List V → Hp → VK → Prop := fun xs H Q => ∃ x n, xs = [.str x] ∧ PySem.intText? x = some n ∧ x.length ≤ 640 ∧ Q (.int n) H
theorem call_intT {X : Cx} : CallR X (.type "int") rIntT := by
  intro pins s σ H xs us Q I r h
  obtain ⟨x, n, rfl, hn, hl, q⟩ := h
  obtain ⟨u, rfl, t, rfl⟩ := vals1 r
  exact PySem.W.KIN.call_text hn hl ⟨.int n, H, I.tok _, ⟨_, rfl⟩, q⟩
def Its (x : Str) : It := ⟨fun i _ => i < x.cps.size, fun i H v H' => H' = H ∧ ∃ c, x.cps[i]? = some c ∧ v = .str ⟨#[c]⟩, fun i _ => x.cps.size ≤ i⟩
theorem turn_ascii {P : Program} {w : World} {K : PySem.W.Frag} {tg : Expr} (x : Str) (t : Tok) (it : Addr) : Turn P w K tg (Its x) [it] it (fun i h => h.IsStrIter it "str_ascii_iterator" x t i) where
  mem := by simp
  obj := fun i h st b hb => by
    have e : b = it := by simpa using hb
    subst e
    obtain ⟨o, e, c, d⟩ := st
    exact ⟨o, e, fun v z => by rw [d] at z; cases z⟩
  keep := fun i h h' st k => by
    obtain ⟨o, e, c, d⟩ := st
    exact ⟨o, k it (by simp) o e, c, d⟩
  item := by
    intro X hP hw hK hc i pins s σ H E I hf st hg
    subst hP hw hK
    have hg' : i < x.cps.size := hg
    obtain ⟨f0, f1, f2, f3, f4, f5⟩ := hf it (by simp)
    refine wpAny_pyNext_ascii_item st (c := x.cps[i]) (by simp [hg']) fun h' st' sb => ?_
    have I1 : Inv X pins σ H { s with heap := h', toks := s.toks + 1 } := I.turned (t' := s.toks + 1) (fun b o hb e => sb.extBut b o hb e) f0 f1 f3 f4 f5
    obtain ⟨o, e, c, d⟩ := id st'
    exact ⟨_, rfl, go_of (s := { s with heap := h', toks := s.toks + 1 }) e c d (by decide) ⟨.str ⟨#[x.cps[i]]⟩, H, I1, ⟨_, rfl⟩, ⟨rfl, _, by simp [hg'], rfl⟩, st', fun b hb => (hf b hb).1⟩⟩
  done := by
    intro X hP hw hK hc i pins s σ H E I hf st hg
    subst hP hw hK
    have hg' : x.cps.size ≤ i := hg
    obtain ⟨f0, f1, f2, f3, f4, f5⟩ := hf it (by simp)
    exact wpAny_pyNext_ascii_end (I.ok.hd hc) st (by simp [hg']) fun h' eb => ⟨rfl, I.turned (t' := s.toks) (fun b o hb e => eb b o hb e) f0 f1 f3 f4 f5⟩
  self := fun _ _ _ _ _ st h => wpAny_pyIter_striter_ascii st h
def iStr (tl : TE) : TI := fun σ H R => tl σ H fun v H1 => ∃ x, v = .str x ∧ x.cps.all (· < 128) = true ∧ R (Its x) H1
theorem pi_str {X : Cx} {tg l : Expr} {tl : TE} (hl : PE X l tl) : PI X tg l (iStr tl) := by
  intro pins s σ H R I h
  refine thn (hl pins s σ H _ I h) fun v s1 ⟨z, H1, I1, r1, q1⟩ => ?_
  obtain ⟨x, e, ha, q⟩ := q1
  subst e
  obtain ⟨t, rfl⟩ := r1
  refine wpAny_pyIter_ascii ha ?_
  refine ⟨s1.heap.objs.size, [s1.heap.objs.size], _, _, H1, rfl, I1.kept (t' := s1.toks) fun b o e => Heap.get?_push_of_some _ e, turn_ascii x t _, ⟨_, Heap.get?_push_size _ rfl, rfl, rfl⟩, fun b hb => ?_, q⟩
  have e : b = s1.heap.objs.size := by simpa using hb
  subst e
  exact I1.fpOk (Nat.le_refl _) (I1.hok.fresh (Nat.le_refl _))
def rStrI : List V → Hp → VK → Prop := fun xs H Q => ∃ i, xs = [.int i] ∧ i.natAbs.log2 < 1920 ∧ Q (.str (M.numS i)) H
theorem call_strI {X : Cx} : CallR X (.type "str") rStrI := call_str_int
theorem strI_of {i : Int} {H : Hp} {Q : VK} (h : i.natAbs.log2 < 1920) (q : Q (.str (M.numS i)) H) : rStrI [.int i] H Q := ⟨i, rfl, h, q⟩
theorem bt_all : bootBuiltins "all" = some (.builtin "all") := by decide +kernel
theorem comp_str {σ : St} {H : Hp} {Q : VK} {te ta : TE} {x : Str} (f : Nat → V) (hta : ∀ R : VK, R (.str x) H → ta σ H R) (ha : x.cps.all (· < 128) = true) (hz : x.cps.size ≤ 1000)
    (elt : ∀ c H', c ∈ x.cps.toList → Same H H' → ∀ Q' : VK, (∀ H'', Same H' H'' → Q' (f c) H'') → te (some (.str ⟨#[c]⟩) :: σ) H' Q')
    (q : ∀ D H', Same H H' → H D = none → H' D = some (.lst (x.cps.toList.map f)) → Q (.ref D) H') : tComp (iStr ta) tTrue te σ H Q := by
  unfold tComp iStr
  refine hta _ ⟨x, rfl, ha, fun D hD => ⟨fun i m H' => m = x.cps.size - i ∧ i ≤ x.cps.size ∧ Same H H' ∧ H' D = some (.lst ((x.cps.toList.take i).map f)),
    ⟨_, rfl, Nat.zero_le _, fun b o h => by rw [upd_ne (ne_of_none h hD)]; exact h, upd_same⟩, ?_⟩⟩
  rintro i m H' ⟨rfl, hi, S, hD'⟩
  by_cases c : i = x.cps.size
  · refine .inl ⟨Nat.le_of_eq c.symm, q D H' S hD ?_⟩
    rw [List.take_of_length_le (by rw [Array.length_toList]; omega)] at hD'
    exact hD'
  · have hlt : i < x.cps.size := by omega
    refine .inr ⟨hlt, ?_⟩
    rintro x' H'' ⟨rfl, c', hc, rfl⟩
    have hc2 : x.cps.toList[i]? = some c' := by rw [Array.getElem?_toList]; exact hc
    unfold tTrue
    dsimp only
    rw [if_pos rfl]
    refine elt c' H'' (List.mem_of_getElem? hc2) S _ fun H3 S3 => ?_
    have h3 := S3 _ _ hD'
    refine ⟨_, h3, small1000 (by rw [List.length_map, List.length_take]; omega), _, by omega, rfl, by omega, fun b o h => ?_, ?_⟩
    · rw [upd_ne (ne_of_none h hD)]
      exact S3 _ _ (S _ _ h)
    · rw [upd_same, List.take_succ, hc2]
      simp
end L2
namespace L2
open PySem PySem.Spec PyProof.Rows
set_option genInjectivity false in
set_option genSizeOf false in
structure Mn (P : Program) (w : World) (K : PySem.W.Frag) (mg : Str → Option Value) (base : Heap) (k : Nat) (C : Addr) (m : Str) (ps : List Str) (sp : Sp) : Prop where
  ex : ∃ (f : Addr) (fd : FuncData), FnOk P w K mg base CX0 k f fd ps sp ∧ Binds K fd ps [] ∧ Meth K C m f
theorem Mn.mono {P : Program} {w : World} {K : PySem.W.Frag} {mg : Str → Option Value} {base : Heap} {j k : Nat} {C : Addr} {m : Str} {ps : List Str} {sp : Sp} (D : Mn P w K mg base j C m ps sp) (h : j ≤ k) : Mn P w K mg base k C m ps sp := by
  obtain ⟨f, fd, a, b, c⟩ := D.ex
  exact ⟨f, fd, a.mono h, b, c⟩
set_option genInjectivity false in
set_option genSizeOf false in
structure Dm (K : PySem.W.Frag) (C : Addr) (m qual : Str) (st : Stmt) (ps : List Str) : Prop where
  ex : ∃ (f : Addr) (fd : FuncData), Fun K m qual st f fd ∧ Binds K fd ps [] ∧ Meth K C m f
theorem Dm.ok {P : Program} {w : World} {K : PySem.W.Frag} {mg : Str → Option Value} {base : Heap} {C : Addr} {x qual : Str} {st : Stmt} {N ps : List Str} {k : Nat} {sp : Sp} (F : Dm K C x qual st ps) (S : FnScope N ps (defScope st))
    (len : ∀ vs H Q E, sp vs H Q E → vs.length = ps.length)
    (hbody : ∀ (f : Addr) (cdv : Value) (A : Around) (outer : List Env) (s : Shared) (H : Hp) (vs : List V) (Q : VK) (E : XK), Room k (A.deeper (envOfC qual (defScope st) s.heap.objs.size f cdv)) → sp vs H Q E →
      ∃ (t : TS) (σ : St), PSs (cxOf CX0 P w K mg base N qual (defScope st) f cdv A outer s H E).nox (defBody st) t ∧ start N vs = σ ∧ t { nx := fun _ H' => Q .non H', rt := Q } σ H) : Mn P w K mg base (k + 1) C x ps sp := by
  obtain ⟨f, fd, F1, b, m⟩ := F.ex
  refine ⟨f, fd, F1.ok S len fun cdv A outer s H vs Q E hr h => ?_, b, m⟩
  obtain ⟨t, σ, h1, rfl, h2⟩ := hbody f cdv A outer s H vs Q E hr h
  exact ⟨t, h1, h2⟩
theorem Dm.void {P : Program} {w : World} {K : PySem.W.Frag} {mg : Str → Option Value} {base : Heap} {C : Addr} {x qual : Str} {st : Stmt} {ps : List Str} {k : Nat} {sp : Sp} (F : Dm K C x qual st ps) (no : ∀ vs H Q E, ¬ sp vs H Q E) : Mn P w K mg base k C x ps sp := by
  obtain ⟨f, fd, F1, b, m⟩ := F.ex
  exact ⟨f, fd, ⟨fun vs H Q E h => absurd h (no vs H Q E), fun A outer s H args us vs Q E _ _ _ _ h => absurd h (no vs H Q E)⟩, b, m⟩
set_option genInjectivity false in
set_option genSizeOf false in
structure Ci (K : PySem.W.Frag) (mg : Str → Option Value) (x qual : Str) (C : Addr) (st : Stmt) (ps : List Str) : Prop where
  ex : ∃ (f : Addr) (fd : FuncData), Fun K "__init__" qual st f fd ∧ Binds K fd ps [] ∧ Mk K C f
  mg : mg x = some (.ref C)
set_option genInjectivity false in
set_option genSizeOf false in
structure Cn (P : Program) (w : World) (K : PySem.W.Frag) (mg : Str → Option Value) (base : Heap) (k : Nat) (x : Str) (C : Addr) (ps : List Str) (sp : Sp) : Prop where
  ex : ∃ (f : Addr) (fd : FuncData), FnOk P w K mg base CX0 k f fd ps sp ∧ Binds K fd ps [] ∧ Mk K C f
  mg : mg x = some (.ref C)
theorem Cn.mono {P : Program} {w : World} {K : PySem.W.Frag} {mg : Str → Option Value} {base : Heap} {j k : Nat} {x : Str} {C : Addr} {ps : List Str} {sp : Sp} (D : Cn P w K mg base j x C ps sp) (h : j ≤ k) : Cn P w K mg base k x C ps sp := by
  obtain ⟨f, fd, a, b, c⟩ := D.ex
  exact ⟨⟨f, fd, a.mono h, b, c⟩, D.mg⟩
theorem Ci.ok {P : Program} {w : World} {K : PySem.W.Frag} {mg : Str → Option Value} {base : Heap} {C : Addr} {x qual : Str} {st : Stmt} {N ps : List Str} {k : Nat} {sp : Sp} (F : Ci K mg x qual C st ps) (S : FnScope N ps (defScope st))
    (len : ∀ vs H Q E, sp vs H Q E → vs.length = ps.length)
    (hbody : ∀ (f : Addr) (cdv : Value) (A : Around) (outer : List Env) (s : Shared) (H : Hp) (vs : List V) (Q : VK) (E : XK), Room k (A.deeper (envOfC qual (defScope st) s.heap.objs.size f cdv)) → sp vs H Q E →
      ∃ (t : TS) (σ : St), PSs (cxOf CX0 P w K mg base N qual (defScope st) f cdv A outer s H E).nox (defBody st) t ∧ start N vs = σ ∧ t { nx := fun _ H' => Q .non H', rt := Q } σ H) : Cn P w K mg base (k + 1) x C ps sp := by
  obtain ⟨f, fd, F1, b, m⟩ := F.ex
  refine ⟨⟨f, fd, F1.ok S len fun cdv A outer s H vs Q E hr h => ?_, b, m⟩, F.mg⟩
  obtain ⟨t, σ, h1, rfl, h2⟩ := hbody f cdv A outer s H vs Q E hr h
  exact ⟨t, h1, h2⟩
theorem pe_mD {X : Cx} {k : Nat} {C : Addr} {m : Str} {ps : List Str} {sp : Sp} {o e : Expr} {es : List Expr} {ta : TE} {t : TA} {apos pos : Pos} {pl : Sem Bool} (he : PE X o ta) (c : Cls X.K C) (D : Mn X.prog X.w X.K X.mg X.base k C m ps sp) (hr : Room k X.A)
    (ha : PA X (e :: es) t) (h : (e :: es).all unst = true := by rfl)
    (ht : eval (.Call (.Attribute o m apos) (e :: es) [] pos) X.env = (do
      let ov ← eval o X.env
      standAt apos.atName
      let (f, first) ← holding [ov] (getMethod ov m pl)
      callWith pos f first (backTo pos (starEach (e :: es) X.env)) (backToKw pos (keywordEach [] X.env))) := by rfl) :
    PE X (.Call (.Attribute o m apos) (e :: es) [] pos) (tMeth C m sp [] E0 ta t) := by
  obtain ⟨f, fd, a, b, d⟩ := D.ex
  exact pe_meth (pl := pl) he c d a hr b .nil pass0 ha (star_un (all_hd h)) (star_any (all_tl h)) ht
theorem pe_mD0 {X : Cx} {k : Nat} {C : Addr} {m : Str} {ps : List Str} {sp : Sp} {o : Expr} {ta : TE} {apos pos : Pos} {pl : Sem Bool} (he : PE X o ta) (c : Cls X.K C) (D : Mn X.prog X.w X.K X.mg X.base k C m ps sp) (hr : Room k X.A)
    (ht : eval (.Call (.Attribute o m apos) [] [] pos) X.env = (do
      let ov ← eval o X.env
      standAt apos.atName
      let (f, first) ← holding [ov] (getMethod ov m pl)
      callWith pos f first (backTo pos (starEach [] X.env)) (backToKw pos (keywordEach [] X.env))) := by rfl) :
    PE X (.Call (.Attribute o m apos) [] [] pos) (tMeth C m sp [] E0 ta tNil) := by
  obtain ⟨f, fd, a, b, d⟩ := D.ex
  exact pe_meth0 (pl := pl) he c d a hr b .nil pass0 ht
theorem pe_mkD {X : Cx} {k : Nat} {C : Addr} {x : Str} {ps : List Str} {sp : Sp} {e : Expr} {es : List Expr} {t : TA} {p pos : Pos} (D : Cn X.prog X.w X.K X.mg X.base k x C ps sp) (hr : Room (k + 1) X.A) (hg : Gl X x)
    (ha : PA X (e :: es) t) (h : (e :: es).all unst = true := by rfl) (hdb : (x == ("__debug__" : Str)) = false := by decide) : PE X (.Call (.Name x p) (e :: es) [] pos) (tMake C sp [] E0 t) := by
  obtain ⟨f, fd, a, b, d⟩ := D.ex
  exact pe_make d a hr hg D.mg b .nil pass0 ha hdb (star_un (all_hd h)) (star_any (all_tl h))
def FldR (K : PySem.W.Frag) (f : Str) (x : V) (H : Hp) (Q : VK) : Prop := ∃ a C dx fs v, x = .ref a ∧ H a = some (.ins C dx fs) ∧ Cls K C ∧ NoAttr K C f ∧ fs.lookup f = some v ∧ Q v H
def SetR (K : PySem.W.Frag) (f : Str) (x y : V) (H : Hp) (G : Hp → Prop) : Prop := ∃ a C dx fs, x = .ref a ∧ H a = some (.ins C dx fs) ∧ Cls K C ∧ NoAttr K C f ∧ fs.length < 1000 ∧ G (upd H a (.ins C dx (putF f y fs)))
def MthR (C : Addr) (m : Str) (sp : Sp) (x : V) (t : TA) (σ : St) (H : Hp) (Q : VK) : Prop := ∃ a dx fs, x = .ref a ∧ H a = some (.ins C dx fs) ∧ fs.lookup m = none ∧ t σ H fun vs H2 => sp (x :: (vs ++ [])) H2 Q E0
section
variable {D : Ends} {σ : St} {H : Hp} {K : PySem.W.Frag} {ta tb : TE} {tr : TA} {Q : VK} {f m : Str} {sp : Sp} {C : Addr}
theorem r_fld : tFld K ta f σ H Q = ta σ H fun x H1 => FldR K f x H1 Q := rfl
theorem r_sfld : sFld K ta tb f D σ H = tb σ H fun y H1 => ta σ H1 fun x H2 => SetR K f x y H2 fun H3 => D.nx σ H3 := rfl
theorem r_meth : tMeth C m sp [] E0 ta tr σ H Q = ta σ H fun x H1 => MthR C m sp x tr σ H1 Q := rfl
theorem r_make : tMake C sp [] E0 tr σ H Q = tr σ H fun vs H1 => ∀ x dx, H1 x = none → H1 dx = none → dx ≠ x → sp (.ref x :: (vs ++ [])) (upd (upd H1 dx (.own x)) x (.ins C dx [])) (fun v H2 => v = .non ∧ Q (.ref x) H2) E0 := rfl
def AugR (K : PySem.W.Frag) (f : Str) (tv : TE) (D : Ends) (σ : St) (x : V) (H : Hp) : Prop := ∃ a C dx fs v, x = .ref a ∧ H a = some (.ins C dx fs) ∧ Cls K C ∧ NoAttr K C f ∧ fs.lookup f = some v ∧
  tv σ H fun y H2 => rAdd v y H2 fun z H3 => ∃ dx' fs', H3 a = some (.ins C dx' fs') ∧ fs'.length < 1000 ∧ D.nx σ (upd H3 a (.ins C dx' (putF f z fs')))
theorem r_aug : sFldAug K ta tb rAdd f D σ H = ta σ H fun x H1 => AugR K f tb D σ x H1 := rfl
end
end L2
namespace L2
open PySem PySem.Spec PyProof.Rows M
def LastV (K : PySem.W.Frag) (H : Hp) : Option Rl → V → Prop
  | none, v => v = .non
  | some l, v => RlV K H l v
section
variable {K : PySem.W.Frag} {H H' : Hp} {l : Option Rl} {v : V}
theorem LastV.tk (h : LastV K H l v) (e : Tk K H H') : LastV K H' l v := by
  cases l with
  | none => exact h
  | some l => exact RlV.tk (H := H) h e
theorem LastV.same (h : LastV K H l v) (e : Same H H') : LastV K H' l v := h.tk e.tk
theorem LastV.is (h : LastV K H l v) : decide (v = .non) = l.isNone := by
  cases l with
  | none => rw [show v = .non from h]; rfl
  | some l =>
    have := dt_non (show Dt K 0 H (enc l) v from h)
    rw [isN_enc] at this
    exact this
theorem LastV.no (h : LastV K H none v) : v = .non := h
theorem LastV.yes {r : Rl} (h : LastV K H (some r) v) : v ≠ .non := by
  have := h.is
  simpa using this
theorem rl_tup {rl i : Rl} {to lead : Int} {cap : Option Int} (h : RlV K H rl v) (w : Vw rl to lead cap i l) : ∃ (a : Addr) (v4 v5 : V), v = .ref a ∧ SqT K H a [.str "unit", .int to, .int lead, optI cap, v4, v5] ∧ RlV K H i v4 ∧ LastV K H l v5 := by
  unfold RlV at h
  rw [w.enc] at h
  obtain ⟨a, xs, rfl, hs, hx⟩ := h.tup_inv
  have hl : xs.length = 6 := hx.len.symm
  obtain ⟨_, _, _, _, _, _, v0, v1, v2, v3, v4, v5, e', rfl, h0, h1, h2, h3, h4, h5⟩ := six_of hx hl
  cases e'
  simp only [Dt] at h0 h1 h2
  obtain ⟨rfl, _⟩ := h0
  subst h1 h2
  have e3 : v3 = optI cap := by
    cases cap with
    | none => simp only [capD, Dt] at h3; exact h3
    | some c => simp only [capD, Dt] at h3; exact h3
  subst e3
  refine ⟨a, v4, v5, rfl, hs, h4, ?_⟩
  cases l with
  | none => simp only [lastD, Dt] at h5; exact h5
  | some l => exact h5
end
end L2
namespace M
open PySem
def encS : Sd → PyData
  | .nil => .tuple []
  | .cn z o w => .tuple [.int z, .int o, encS w]
mutual
def fl (bb : Bool) : PyData → Bool
  | .int _ => true
  | .bool _ => bb
  | .tuple ds => decide (ds.length ≤ 100) && fls bb ds
  | _ => false
def fls (bb : Bool) : List PyData → Bool
  | [] => true
  | d :: ds => fl bb d && fls bb ds
end
end M
namespace L2
open PySem PySem.Spec PyProof.Rows M
theorem noL_encS : ∀ s : Sd, noL (encS s) = true
  | .nil => rfl
  | .cn z o w => by simp only [encS, noL, noLs, noL_encS w]; rfl
def LastE (K : PySem.W.Frag) (H : Hp) : Option Rl → V → Prop
  | none, v => v = .non
  | some l, v => RlV K H l v
theorem LastE.is {K : PySem.W.Frag} {H : Hp} {l : Option Rl} {v : V} (h : LastE K H l v) : decide (v = .non) = l.isNone := by
  cases l with
  | none => rw [show v = .non from h]; rfl
  | some l =>
    have := dt_non (show Dt K 0 H (enc l) v from h)
    rw [isN_enc] at this
    exact this
theorem LastE.yes {K : PySem.W.Frag} {H : Hp} {v : V} {r : Rl} (h : LastE K H (some r) v) : v ≠ .non := by
  have := h.is
  simpa using this
def StV (K : PySem.W.Frag) (H : Hp) (s : Sd) (v : V) : Prop := Dt K 0 H (encS s) v
section
variable {K : PySem.W.Frag} {H H' : Hp} {s w : Sd} {z o : Int} {v : V} {t a p : Addr} {rl : Rl}
end
def rAbs : List V → Hp → VK → Prop := fun xs H Q => ∃ i, xs = [.int i] ∧ Q (.int (if i < 0 then -i else i)) H
section
variable {D : Ends} {σ : St} {H : Hp} {K : PySem.W.Frag} {ta te : TE} {g : TG} {gs : TGs} {Q : VK} {v : V} {vs : List V} {G : St → Hp → Prop} {n i : Nat} {ti : TIp}
theorem r_abs {j : Int} : rAbs [.int j] H Q = Q (.int (if j < 0 then -j else j)) H := by
  unfold rAbs
  exact propext ⟨fun ⟨a, h1, h⟩ => by cases h1; exact h, fun h => ⟨j, rfl, h⟩⟩
theorem r_neB {i j : Bool} : rNe (.bl i) (.bl j) H Q = Q (.bl (!(i == j))) H := rfl
theorem r_gtup : gTup K n gs v σ H G = ∃ a xs, v = .ref a ∧ SqT K H a xs ∧ xs.length = n ∧ gs xs σ H G := rfl
theorem r_gcons : gCons g gs (v :: vs) σ H G = g v σ H fun σ' H' => gs vs σ' H' G := by
  unfold gCons
  exact propext ⟨fun ⟨a, b, h1, h⟩ => by cases h1; exact h, fun h => ⟨v, vs, rfl, h⟩⟩
theorem r_gnil : gNil [] σ H G = G σ H := by
  unfold gNil
  exact propext ⟨fun h => h.2, fun h => ⟨rfl, h⟩⟩
theorem r_augN : tAug i te ti D σ H = ∃ x, σ[i]? = some (some x) ∧ te σ H fun y H1 => ti x y H1 fun z H2 => D.nx (σ.set i (some z)) H2 := rfl
theorem r_ipI {f : Int → Int → Int} {j l : Int} : ipI f (.int j) (.int l) H Q = Q (.int (f j l)) H := by
  unfold ipI
  exact propext ⟨fun ⟨a, b, h1, h2, h⟩ => by cases h1; cases h2; exact h, fun h => ⟨j, l, rfl, rfl, h⟩⟩
end
theorem comp_rg {σ : St} {H : Hp} {Q : VK} {te : TE} {ta : TA} {m : Nat} (f : Nat → V) (hta : ∀ R : List V → Hp → Prop, R [.int m] H → ta σ H R) (hz : m ≤ 1000)
    (elt : ∀ i H', i < m → Same H H' → ∀ Q' : VK, (∀ H'', Same H' H'' → Q' (f i) H'') → te (some (.int (0 + i)) :: σ) H' Q')
    (q : ∀ D H', Same H H' → H D = none → H' D = some (.lst ((List.range m).map f)) → Q (.ref D) H') : tComp (iRng1 ta) tTrue te σ H Q := by
  unfold tComp iRng1
  refine hta _ ⟨m, rfl, by omega, by omega, fun D hD => ⟨fun i n H' => n = m - i ∧ i ≤ m ∧ Same H H' ∧ H' D = some (.lst ((List.range i).map f)),
    ⟨_, rfl, Nat.zero_le _, fun b o h => by rw [upd_ne (ne_of_none h hD)]; exact h, upd_same⟩, ?_⟩⟩
  have em : ((m : Int)).toNat = m := by omega
  rw [em]
  rintro i n H' ⟨rfl, hi, S, hD'⟩
  by_cases c : i = m
  · subst c
    exact .inl ⟨Nat.le_refl _, q D H' S hD hD'⟩
  · have hlt : i < m := by omega
    refine .inr ⟨hlt, ?_⟩
    rintro x' H'' ⟨rfl, rfl⟩
    unfold tTrue
    dsimp only
    rw [if_pos rfl]
    refine elt i H'' hlt S _ fun H3 S3 => ?_
    have h3 := S3 _ _ hD'
    refine ⟨_, h3, small1000 (by rw [List.length_map, List.length_range]; omega), _, by omega, rfl, by omega, fun b o h => ?_, ?_⟩
    · rw [upd_ne (ne_of_none h hD)]
      exact S3 _ _ (S _ _ h)
    · rw [upd_same, List.range_succ, List.map_append]
      rfl
def TapeS (K : PySem.W.Frag) (ns : List Int) (t sc : Addr) (H : Hp) : Prop := ∃ (sp cr wy : Int), H t = some (.lst [.ref sc, .int sp, .int cr, .int wy]) ∧ ScL K t H sc (ns.map V.int)
set_option genInjectivity false in
set_option genSizeOf false in
structure CurS (K : PySem.W.Frag) (ns : List Int) (t sc : Addr) (H₀ H : Hp) : Prop where
  tape : TapeS K ns t sc H
  ext : Ext t H₀ H
section
variable {K : PySem.W.Frag} {ns : List Int} {t sc p : Addr} {H₀ H H' : Hp}
theorem Tape.s (h : Tape K ns t H) : ∃ sc, TapeS K ns t sc H := h
theorem TapeS.tape (h : TapeS K ns t sc H) : Tape K ns t H := ⟨sc, h⟩
theorem CurS.cur (c : CurS K ns t sc H₀ H) : Cur K ns t H₀ H := ⟨c.tape.tape, c.ext⟩
theorem TapeS.keep {o : HO} (h0 : TapeS K ns t sc H₀) (hp : H₀ p = none) (h : TapeS K ns t sc H) : TapeS K ns t sc (upd H p o) := by
  obtain ⟨_, _, _, e0, l0⟩ := h0
  have nt : p ≠ t := (ne_of_none e0 hp).symm
  obtain ⟨sp, cr, wy, e, l⟩ := h
  refine ⟨sp, cr, wy, by rw [upd_ne nt.symm]; exact e, ?_⟩
  have mv : sc ≠ p → ScL K t (upd H p o) sc (ns.map V.int) := fun ne => by
    rcases l with ⟨l1, l2⟩ | l
    · refine .inl ⟨l1, ?_⟩
      rcases l2 with (q | ⟨u, q⟩) | q
      · exact .inl (.inl (by rw [upd_ne ne]; exact q))
      · exact .inl (.inr ⟨u, by rw [upd_ne ne]; exact q⟩)
      · exact .inr q
    · exact .inr l
  rcases l0 with ⟨_, (q | ⟨u, q⟩) | q⟩ | l0
  · exact mv (ne_of_none q hp)
  · exact mv (ne_of_none q hp)
  · exact .inr fun _ => .inr q
  · exact .inr l0
theorem CurS.keep {o : HO} (h0 : TapeS K ns t sc H₀) (hp : H₀ p = none) (c : CurS K ns t sc H₀ H) : CurS K ns t sc H₀ (upd H p o) :=
  ⟨TapeS.keep h0 hp c.tape, fun b u n q => by rw [upd_ne (ne_of_none q hp)]; exact c.ext b u n q⟩
theorem CurS.then (c : CurS K ns t sc H₀ H) (d : CurS K ns t sc H H') : CurS K ns t sc H₀ H' := ⟨d.tape, c.ext.trans d.ext⟩
theorem TapeS.cur (h : TapeS K ns t sc H) : CurS K ns t sc H H := ⟨h, .refl H⟩
end
section
variable (K : PySem.W.Frag) (ns : List Int)
def spDrawS : Sp := fun vs H Q _ => ∃ t sc m, vs = [.ref t, .int m] ∧ 0 < m ∧ m < 1073741824 ∧ TapeS K ns t sc H ∧ ∀ (r : Int) (H' : Hp), 0 ≤ r → r < m → CurS K ns t sc H H' → Q (.int r) H'
end
theorem drawS_of {K : PySem.W.Frag} {ns : List Int} {t sc : Addr} {H : Hp} {Q : VK} {E : XK} {m : Int} (T : TapeS K ns t sc H) (h : ∀ (r : Int) (H' : Hp), 0 ≤ r → r < m → CurS K ns t sc H H' → Q (.int r) H') (h0 : 0 < m := by decide) (h1 : m < 1073741824 := by decide) : spDrawS K ns [.ref t, .int m] H Q E := ⟨t, sc, m, rfl, h0, h1, T, h⟩
theorem comp_draw {K : PySem.W.Frag} {ns : List Int} {t sc : Addr} {σ : St} {H : Hp} {Q : VK} {te : TE} {ta : TA} {m : Nat} (Pr : V → Prop) (hta : ∀ R : List V → Hp → Prop, R [.int m] H → ta σ H R) (hz : m ≤ 1000) (T : TapeS K ns t sc H)
    (elt : ∀ i H', i < m → CurS K ns t sc H H' → ∀ Q' : VK, (∀ y H'', Pr y → CurS K ns t sc H' H'' → Q' y H'') → te (some (.int (0 + i)) :: σ) H' Q')
    (q : ∀ D ys H', CurS K ns t sc H H' → H D = none → H' D = some (.lst ys) → ys.length = m → (∀ y ∈ ys, Pr y) → Q (.ref D) H') : tComp (iRng1 ta) tTrue te σ H Q := by
  unfold tComp iRng1
  refine hta _ ⟨m, rfl, by omega, by omega, fun D hD => ⟨fun i n H' => n = m - i ∧ i ≤ m ∧ CurS K ns t sc H H' ∧ ∃ ys, H' D = some (.lst ys) ∧ ys.length = i ∧ ∀ y ∈ ys, Pr y,
    ⟨_, rfl, Nat.zero_le _, T.cur.keep T hD, [], upd_same, rfl, fun y hy => by simp at hy⟩, ?_⟩⟩
  have em : ((m : Int)).toNat = m := by omega
  rw [em]
  have nDt : D ≠ t := T.tape.ne hD
  rintro i n H' ⟨rfl, hi, C, ys, hD', hl, hP⟩
  by_cases c : i = m
  · exact .inl ⟨Nat.le_of_eq c.symm, q D ys H' C hD hD' (by omega) hP⟩
  · have hlt : i < m := by omega
    refine .inr ⟨hlt, ?_⟩
    rintro x' H'' ⟨rfl, rfl⟩
    unfold tTrue
    dsimp only
    rw [if_pos rfl]
    refine elt i H'' hlt C _ fun y H3 hy C3 => ?_
    have h3 := C3.ext _ _ (fun z => absurd z nDt) hD'
    refine ⟨_, h3, small1000 (by omega), _, by omega, rfl, by omega, (C.then C3).keep T hD, ys ++ [y], upd_same, by simp [hl], fun u hu => ?_⟩
    rcases List.mem_append.mp hu with h | h
    · exact hP u h
    · simp only [List.mem_singleton] at h; subst h; exact hy
theorem cutV_take {xs : List V} {k : Nat} : cutV xs none (some (k : Int)) = xs.take k := by
  unfold cutV
  have h1 : HT.sIx xs.length 0 none = 0 := rfl
  have h2 : HT.sIx xs.length xs.length (some (k : Int)) = min k xs.length := by
    show (if ((k : Nat) : Int) < 0 then (((k : Nat) : Int) + (xs.length : Int)).toNat else min ((k : Nat) : Int).toNat xs.length) = _
    rw [if_neg (by omega)]
    simp
  rw [h1, h2, List.drop_zero, Nat.sub_zero]
  rcases Nat.le_total k xs.length with h | h
  · rw [Nat.min_eq_left h]
  · rw [Nat.min_eq_right h, List.take_of_length_le h, List.take_of_length_le (Nat.le_refl _)]
def StL (K : PySem.W.Frag) (H : Hp) (ss : List Sd) (vs : List V) : Prop := DtL K 0 H (ss.map encS) vs
section
variable {K : PySem.W.Frag} {H H' : Hp} {ss qs : List Sd} {s : Sd} {v : V} {vs us : List V} {t : Addr}
theorem noLs_encS : ∀ rs : List Sd, noLs (rs.map encS) = true
  | [] => rfl
  | r :: rs => by simp only [List.map_cons, noLs, noL_encS r, noLs_encS rs]; rfl
theorem StL.nil : StL K H [] [] := by simp [StL, DtL]
theorem StL.one (h : StV K H s v) : StL K H [s] [v] := by
  simp only [StL, List.map_cons, List.map_nil, DtL]
  exact ⟨v, [], rfl, h, rfl⟩
theorem StL.len (h : StL K H ss vs) : ss.length = vs.length := by
  have := DtL.len h
  rwa [List.length_map] at this
theorem StL.at {i : Nat} (h : StL K H ss vs) (e : ss[i]? = some s) : ∃ v, vs[i]? = some v ∧ StV K H s v := DtL.get (i := i) h (by rw [List.getElem?_map, e]; rfl)
end
end L2
namespace L2
open PySem PySem.Spec PySem.Calls PyProof.Rows
def CX1 (P : Program) (w : World) : CXT := fun outer H s E e s' => ∃ (ea t C : Addr) (B : Heap) (H' : Hp), e = .ref ea ∧ s'.os = s.os ∧ AllBare s'.gens ∧ Heap.FlyingW B outer ea (.ref C) (.ref t) s'.heap ∧
  (∀ h : Heap, B.StaysIn h → s'.heap.UpToSlots h → Un (frs outer) [] H H' s.heap h ∧ HOk P w H' h ∧ h.FunFrames B outer) ∧ (∀ b o, H' b = some o → ∃ u, B.get? b = some u) ∧ (∀ b o, s.heap.get? b = some o → b ∈ frs outer ∨ ∃ u, B.get? b = some u) ∧ E (.ref C) none H'
section
variable {P : Program} {w : World} {K : PySem.W.Frag} {mg : Str → Option Value} {base : Heap} {N : List Str} {qual : Str} {scope : Scope} {f : Addr} {cd : Value} {A : Around} {outer : List Env} {s0 : Shared} {H0 : Hp} {E : XK}
end
end L2
namespace L2
open PySem PySem.Spec PySem.Calls PyProof.Rows
def tRaise (t : TA) (R : Hp → Prop) : TS := fun _ σ H => t σ H fun vs H1 => vs.length ≤ sizeLine ∧ R H1
set_option genInjectivity false in
set_option genSizeOf false in
structure Dx (P : Program) (w : World) (K : PySem.W.Frag) (mg : Str → Option Value) (base : Heap) (k : Nat) (x : Str) (ps : List Str) (sp : Sp) : Prop where
  ex : ∃ (f : Addr) (fd : FuncData), FnOk P w K mg base (CX1 P w) k f fd ps sp ∧ Binds K fd ps [] ∧ PySem.W.keepIn K (.ref f) = true ∧ mg x = some (.ref f)
theorem Dn.dx {P : Program} {w : World} {K : PySem.W.Frag} {mg : Str → Option Value} {base : Heap} {k : Nat} {x : Str} {ps : List Str} {sp : Sp} (D : Dn P w K mg base k x ps sp) : Dx P w K mg base k x ps sp := by
  obtain ⟨f, fd, a, b, c, d⟩ := D.ex
  refine ⟨f, fd, ⟨a.len, fun A outer s H args us vs Q E hr he hb hv hs => codeAny_mono (a.run A outer s H args us vs Q E hr he hb hv hs) fun r s' hq => ?_⟩, b, c, d⟩
  cases r with
  | error e => exact False.elim hq
  | ok fl => cases fl <;> exact hq
section
variable {X : Cx} {k : Nat} {x : Str} {ps : List Str} {sp : Sp} {e : Expr} {es : List Expr} {t : TA} {p pos : Pos}
def Xt (X : Cx) (pn : List (Addr × Obj)) (Ef : St → XK) : Cx := ({ X with pn := pn } : Cx).wish fun ev s' => ∃ pins σ H s, Inv { X with pn := pn } pins σ H s ∧ CX1 X.prog X.w X.stack H s (Ef σ) ev s'
def tCallX (sp : Sp) (Ef : St → XK) (t : TA) : TE := fun σ H Q => t σ H fun vs H1 => sp vs H1 Q (Ef σ)
end
end L2
namespace L2
open PySem PySem.Spec PySem.Calls PyProof.Rows
def excO (a C : Addr) : HO := .ext fun h => ∃ oe vs, h.get? a = some oe ∧ oe.cls = .ref C ∧ oe.data = .fields vs
theorem inv_track {X : Cx} {pins : List (Addr × Obj)} {σ : St} {H : Hp} {s : Shared} {a : Addr} {o : HO} (I : Inv X pins σ H s) (hn : H a = none) (h0 : X.s₀.heap.get? a = none) (hL : a ≠ X.env.locals)
    (hc : ∀ x c, X.env.cells.lookup x = some c → c ≠ a) (hp : ∀ p ∈ X.pn ++ pins, p.1 ≠ a) (new : ObjOk X.prog X.w (upd H a o) s.heap a o) : Inv X pins σ (upd H a o) s := by
  have ne : ∀ b u, H b = some u → b ≠ a := fun b u e => ne_of_none e hn
  have ne0 : ∀ b u, X.s₀.heap.get? b = some u → b ≠ a := fun b u e z => by rw [z, h0] at e; cases e
  have u := I.base
  refine ⟨I.ok, I.os, I.bare, ⟨u.keep, u.slot, fun b ob e n hx => by rw [upd_ne (ne0 b ob e)]; exact u.free b ob e n hx, u.there, fun b xs e => ?_, fun b ob v e => ?_, fun b ps e => ?_⟩, I.loc, I.cell, by rw [upd_ne hL.symm]; exact I.free,
    fun x c e => by rw [upd_ne (hc x c e)]; exact I.freeC x c e, fun p hp' => ?_, fun b v e => ?_, I.len⟩
  · have := u.tups b xs e
    rw [upd_ne (ne b _ this)]; exact this
  · have := u.frzs b ob v e
    rw [upd_ne (ne b _ this)]; exact this
  · obtain ⟨m, this⟩ := u.tbls b ps e
    exact ⟨m, by rw [upd_ne (ne b _ this)]; exact this⟩
  · obtain ⟨q1, q2, q3⟩ := I.pin p hp'
    exact ⟨q1, by rw [upd_ne (hp p hp')]; exact q2, q3⟩
  · by_cases z : b = a
    · subst z
      rw [upd_same] at e
      cases e
      exact new
    · rw [upd_ne z] at e
      exact (I.hok b v e).stay (fun _ _ _ q => q) (fun c q => by rw [upd_ne (ne c _ q)]; exact q) fun c xs q => by rw [upd_ne (ne c _ q)]; exact q
end L2
namespace L2
open PySem PySem.Spec PySem.Calls PyProof.Rows
def Xh (X : Cx) (pn : List (Addr × Obj)) (ea : Addr) : Cx := { X with A := X.A.mark (some (.ref ea)), calm := false, pn := pn, xe := fun _ _ => False }
def tTry (Sub : Addr → Prop) (i : Nat) (tb : (St → XK) → TS) (ts : TS) : TS := fun D σ H =>
  tb (fun σ' cls _ H' => ∃ C, cls = .ref C ∧ Sub C ∧ ∀ ea, H' ea = none → ts { D with nx := fun σ2 H2 => D.nx (σ2.set i none) H2, bk := fun σ2 H2 => D.bk (σ2.set i none) H2, ct := fun σ2 H2 => D.ct (σ2.set i none) H2 } (σ'.set i (some (.ref ea))) (upd H' ea (excO ea C))) D σ H
end L2
namespace L2
open PySem PySem.Spec PySem.Calls PyProof.Rows PySem.W
section
variable {prog : Program} {w : World} {A : Around} {E : Value → Shared → Prop} {h : Heap} {g : Array GenState} {d : Drawn} {t : Nat} {os : OsState} {a C : Addr} {o : Obj} {K : Frag}
end
end L2
namespace L2
open PySem PySem.Spec PySem.Calls PyProof.Rows
section
variable {X : Cx}
end
set_option genInjectivity false in
set_option genSizeOf false in
structure RoomH (k : Nat) (A : Around) : Prop where
  dp : A.depth + 3 * k + 5 < recursionLimit
  un : A.units + 16 * k + 200 < cLine
  gd : A.guards = some []
theorem Room.h {k : Nat} {A : Around} (r : Room k A) : RoomH k A := ⟨r.dp, r.un, r.gd⟩
theorem RoomH.r {k : Nat} {A : Around} (r : RoomH k A) : Room k { A with handled := none } := ⟨rfl, r.dp, r.un, r.gd⟩
def cxH (P : Program) (w : World) (K : PySem.W.Frag) (mg : Str → Option Value) (base : Heap) (N : List Str) (qual : Str) (scope : Scope) (f : Addr) (cd : Value) (A : Around) (outer : List Env) (s : Shared) (H : Hp) : Cx :=
  { cxOf CX0 P w K mg base N qual scope f cd A outer s H E0 with calm := false, xe := fun _ _ => False }
section
variable {D : Ends} {σ : St} {H : Hp} {K : PySem.W.Frag} {Q : VK} {t : TA}
theorem r_raise {R : Hp → Prop} : tRaise t R D σ H = t σ H fun vs H1 => vs.length ≤ sizeLine ∧ R H1 := rfl
theorem r_callX {sp : Sp} {Ef : St → XK} : tCallX sp Ef t σ H Q = t σ H fun vs H1 => sp vs H1 Q (Ef σ) := rfl
end
end L2
namespace L2
open PySem PySem.Spec PySem.Calls PyProof.Rows
section
variable {X : Cx}
def rCatA (K : PySem.W.Frag) : R2 := fun x y H Q => ∃ a b xs ys, x = .ref a ∧ y = .ref b ∧ SqT K H a xs ∧ SqT K H b ys ∧ xs.length + ys.length ≤ sizeLine ∧ ∀ p H', Same H H' → SqT K H' p (xs ++ ys) → Q (.ref p) H'
theorem op_catA : OpR X (binaryOp .Add) (rCatA X.K) := by
  intro pins s σ H x y v u Q I rx ry h
  obtain ⟨a, b, xs, ys, rfl, rfl, ha, hb, hz, q⟩ := h
  by_cases hx : xs = []
  · subst hx
    cases rx
    cases ry
    obtain ⟨its, r1, p1, _⟩ := I.tuple ha
    obtain ⟨its2, r2, p2, _⟩ := I.tuple hb
    cases r1
    obtain ⟨⟨cls, dd, data, sl⟩, ho, hc, n, hd⟩ := id p1
    obtain ⟨⟨cls2, dd2, data2, sl2⟩, ho2, hc2, n2, hd2⟩ := id p2
    simp only at hc hd hc2 hd2
    subst hc hd hc2 hd2
    exact concat_meets ⟨_, ho, rfl⟩ ⟨_, ho2, rfl⟩ noFill_tuple_add seq_tuple_add PySem.F.slot_tuple_add PySem.F.entry_tuple_add (PySem.F.args_tuple_add_2 _ _)
      (tuple_addW0 a b _ _ n n2 dd dd2 sl sl2 (by simp)) ⟨ho, ho2, ⟨.ref b, H, I, rfl, q b H (.refl H) (by simpa using hb)⟩⟩
  · exact op_catT pins s σ H _ _ v u Q I rx ry ⟨a, b, xs, ys, rfl, rfl, ha, hb, hx, hz, fun z => q a H (.refl H) (by rw [z, List.append_nil]; exact ha), fun z p hp => q p _ (fun b o e => by rw [upd_ne (ne_of_none e hp)]; exact e) (.of upd_same)⟩
end
end L2
namespace L2
open PySem PySem.Spec PyProof.Rows
section
variable {P : Program} {w : World} {K : PySem.W.Frag} {mg : Str → Option Value} {base : Heap} {N : List Str} {qual : Str} {scope : Scope} {f : Addr} {cd : Value} {A : Around} {outer : List Env} {s : Shared} {H : Hp} {X : Cx}
theorem r_KH : (cxH P w K mg base N qual scope f cd A outer s H).K = K := rfl
theorem r_Kt {pn : List (Addr × Obj)} {Ef : St → XK} : (Xt X pn Ef).K = X.K := rfl
theorem r_Kh {pn : List (Addr × Obj)} {ea : Addr} : (Xh X pn ea).K = X.K := rfl
theorem r_Kn {g : Value → Shared → Prop} : (X.wish g).K = X.K := rfl
theorem r_try {D : Ends} {σ : St} {Sub : Addr → Prop} {i : Nat} {tb : (St → XK) → TS} {ts : TS} : tTry Sub i tb ts D σ H =
  tb (fun σ' cls _ H' => ∃ C, cls = .ref C ∧ Sub C ∧ ∀ ea, H' ea = none → ts { D with nx := fun σ2 H2 => D.nx (σ2.set i none) H2, bk := fun σ2 H2 => D.bk (σ2.set i none) H2, ct := fun σ2 H2 => D.ct (σ2.set i none) H2 } (σ'.set i (some (.ref ea))) (upd H' ea (excO ea C))) D σ H := rfl
end
end L2
namespace L2
open PySem PySem.Spec PySem.Calls PyProof.Rows
section
variable {X : Cx}
def rSlS : V → Option Int → Option Int → Hp → VK → Prop := fun x lo hi H Q => ∃ z, x = .str z ∧ z.length ≤ sizeLine ∧ Q (.str (Txt.slice z lo hi)) H
theorem sl_str : SlR X rSlS := by
  intro pins s σ H x v vl vu lo hi sl Q I rx hs pl pu h
  obtain ⟨z, rfl, hz, q⟩ := h
  obtain ⟨t, rfl⟩ := rx
  refine ⟨"str", _, F.slot_str_getitem.lookup, typeIs_str _ _ _, ?_⟩
  have fin : ∀ (l u : Option Int) (t' : Tok) (k : Nat), Txt.slice z l u = Txt.slice z lo hi → EP X pins σ Q (.str (Txt.slice z l u) t') { s with toks := k } := fun l u t' k e => ⟨.str _, H, I.tok _, ⟨_, by rw [e]⟩, q⟩
  cases pl with
  | none =>
    cases pu with
    | none => exact wpAny_getItem_str_slice (l := none) (u := none) (st := none) hs rfl (post_val_or_str ⟨Nat.le_trans (Txt.slice_le z _ _) hz, fun t' k => fin _ _ t' k rfl⟩)
    | int j tj => exact wpAny_getItem_str_slice (l := none) (u := some (j, tj)) (st := none) hs rfl (post_val_or_str ⟨Nat.le_trans (Txt.slice_le z _ _) hz, fun t' k => fin _ _ t' k rfl⟩)
  | int i ti =>
    cases pu with
    | none => exact wpAny_getItem_str_slice (l := some (i, ti)) (u := none) (st := none) hs rfl (post_val_or_str ⟨Nat.le_trans (Txt.slice_le z _ _) hz, fun t' k => fin _ _ t' k rfl⟩)
    | int j tj => exact wpAny_getItem_str_slice (l := some (i, ti)) (u := some (j, tj)) (st := none) hs rfl (post_val_or_str ⟨Nat.le_trans (Txt.slice_le z _ _) hz, fun t' k => fin _ _ t' k rfl⟩)
end
section
variable {H : Hp} {Q : VK}
theorem r_ixS {z : Str} {i : Int} : rIxS (.str z) (.int i) H Q = ∃ c, z.length ≤ sizeLine ∧ atI z.cps.toList i = some c ∧ Q (.str ⟨#[c]⟩) H := by
  unfold rIxS
  exact propext ⟨fun ⟨a, b, c, h1, h2, h⟩ => by cases h1; cases h2; exact ⟨c, h⟩, fun ⟨c, h⟩ => ⟨z, i, c, rfl, rfl, h⟩⟩
theorem r_slS {z : Str} {lo hi : Option Int} : rSlS (.str z) lo hi H Q = (z.length ≤ sizeLine ∧ Q (.str (Txt.slice z lo hi)) H) := by
  unfold rSlS
  exact propext ⟨fun ⟨a, h1, h⟩ => by cases h1; exact h, fun h => ⟨z, rfl, h⟩⟩
def rAddS : R2 := fun x y H Q => ∃ i j, x = .str i ∧ y = .str j ∧ i.length + j.length ≤ sizeLine ∧ Q (.str (i ++ j)) H
theorem op_addS {X : Cx} : OpR X (binaryOp .Add) rAddS := op_add_str
theorem r_addS {i j : Str} : rAddS (.str i) (.str j) H Q = (i.length + j.length ≤ sizeLine ∧ Q (.str (i ++ j)) H) := by
  unfold rAddS
  exact propext ⟨fun ⟨a, b, h1, h2, h⟩ => by cases h1; cases h2; exact h, fun h => ⟨i, j, rfl, rfl, h⟩⟩
end
section
variable {K : PySem.W.Frag} {σ : St} {H : Hp} {Q : VK} {te : TE} {ta : TA}
theorem r_bm0 {T : String} {rr : V → List V → Hp → VK → Prop} : tBM0 K T rr te σ H Q = te σ H fun x H1 => tyV K T x H1 ∧ rr x [] H1 Q := rfl
theorem r_rng2 {R : It → Hp → Prop} : iRng2 ta σ H R = ta σ H fun vs H1 => ∃ i j : Int, vs = [.int i, .int j] ∧ (-(2 ^ 62) ≤ i ∧ i < 2 ^ 62 ∧ -(2 ^ 62) ≤ j ∧ j < 2 ^ 62) ∧ R (Itr i (j - i).toNat) H1 := rfl
end
section
variable {X : Cx}
end
end L2
namespace L2
open PySem PySem.Spec PyProof.Rows
def All2 {α β : Type} (P : α → β → Prop) : List α → List β → Prop
  | [], [] => True
  | a :: as, b :: bs => P a b ∧ All2 P as bs
  | _, _ => False
theorem All2.imp {α β : Type} {P R : α → β → Prop} (h : ∀ a b, P a b → R a b) : ∀ {as : List α} {bs : List β}, All2 P as bs → All2 R as bs
  | [], [], _ => trivial
  | a :: as, b :: bs, ⟨h1, h2⟩ => ⟨h a b h1, All2.imp h h2⟩
  | [], _ :: _, z => z.elim
  | _ :: _, [], z => z.elim
theorem All2.snoc {α β : Type} {P : α → β → Prop} {a : α} {b : β} (hp : P a b) : ∀ {as : List α} {bs : List β}, All2 P as bs → All2 P (as ++ [a]) (bs ++ [b])
  | [], [], _ => ⟨hp, trivial⟩
  | _ :: as, _ :: bs, ⟨h1, h2⟩ => ⟨h1, All2.snoc hp h2⟩
  | [], _ :: _, z => z.elim
  | _ :: _, [], z => z.elim
theorem All2.len {α β : Type} {P : α → β → Prop} : ∀ {as : List α} {bs : List β}, All2 P as bs → as.length = bs.length
  | [], [], _ => rfl
  | _ :: as, _ :: bs, ⟨_, h2⟩ => by rw [List.length_cons, List.length_cons, All2.len h2]
  | [], _ :: _, z => z.elim
  | _ :: _, [], z => z.elim
theorem All2.eq {α β : Type} {f : α → β} : ∀ {as : List α} {bs : List β}, All2 (fun a b => b = f a) as bs → bs = as.map f
  | [], [], _ => rfl
  | a :: as, b :: bs, ⟨h1, h2⟩ => by rw [h1, All2.eq h2]; rfl
  | [], _ :: _, z => z.elim
  | _ :: _, [], z => z.elim
theorem small16 {n : Nat} (h : n ≤ 1000000) : n < sizeLine := by rw [sizeLine_eq]; omega
theorem comp_gen {K : PySem.W.Frag} {σ : St} {H : Hp} {Q : VK} {te : TE} {tt : TT} {wi : TI} {J : It} {n : Nat} (val : Nat → V) (f : Nat → Bool) (Pr : Nat → V → Hp → Prop)
    (hwi : ∀ R : It → Hp → Prop, R J H → wi σ H R) (hst : ∀ H', Same H H' → J.stop n H')
    (hgo : ∀ i H', i < n → Same H H' → J.go i H' ∧ ∀ x H'', J.yld i H' x H'' → x = val i ∧ H'' = H') (hz : n ≤ 1000000)
    (mono : ∀ i y H1 H2, Tk K H1 H2 → Pr i y H1 → Pr i y H2)
    (test : ∀ i H', i < n → Same H H' → ∀ Q' : Bool → Hp → Prop, (∀ H'', Same H' H'' → Q' (f i) H'') → tt (some (val i) :: σ) H' Q')
    (elt : ∀ i H', i < n → f i = true → Same H H' → ∀ Q' : VK, (∀ y H'', Same H' H'' → Pr i y H'' → Q' y H'') → te (some (val i) :: σ) H' Q')
    (q : ∀ D ys H', Same H H' → H D = none → H' D = some (.lst ys) → All2 (fun i y => Pr i y H') ((List.range n).filter f) ys → Q (.ref D) H') : tComp wi tt te σ H Q := by
  unfold tComp
  refine hwi _ fun D hD => ⟨fun i m H' => m = n - i ∧ i ≤ n ∧ Same H H' ∧ ∃ ys, H' D = some (.lst ys) ∧ All2 (fun i y => Pr i y H') ((List.range i).filter f) ys, ⟨_, rfl, Nat.zero_le _, fun b o h => by rw [upd_ne (ne_of_none h hD)]; exact h, [], upd_same, trivial⟩, ?_⟩
  rintro i m H1 ⟨rfl, hi, S, ys, hys, ha⟩
  by_cases c : i = n
  · subst c
    exact .inl ⟨hst _ S, q D ys H1 S hD hys ha⟩
  · obtain ⟨g1, g2⟩ := hgo i H1 (by omega) S
    refine .inr ⟨g1, fun x H2 hx => ?_⟩
    obtain ⟨rfl, eH⟩ := g2 x H2 hx
    rw [eH]
    refine test i H1 (by omega) S _ fun H3 S3 => ?_
    have hr : (List.range (i + 1)).filter f = (List.range i).filter f ++ (if f i = true then [i] else []) := by
      rw [List.range_succ, List.filter_append]
      congr 1
      simp only [List.filter_cons, List.filter_nil]
    cases hf : f i with
    | false =>
      rw [if_neg (by simp)]
      rw [hf, if_neg (by simp), List.append_nil] at hr
      exact ⟨_, by omega, rfl, by omega, S.trans S3, ys, S3 _ _ hys, by rw [hr]; exact ha.imp fun i y h => mono i y _ _ S3.tk h⟩
    | true =>
      rw [if_pos rfl]
      rw [hf, if_pos rfl] at hr
      refine elt i H3 (by omega) hf (S.trans S3) _ fun y H4 S4 hy => ?_
      have h4 := S4 _ _ (S3 _ _ hys)
      have hlen : ys.length ≤ i := by
        have := ha.len
        rw [← this]
        exact Nat.le_trans (List.length_filter_le _ _) (by rw [List.length_range]; exact Nat.le_refl _)
      have tku : Tk K H4 (upd H4 D (.lst (ys ++ [y]))) := Tk.updL h4
      refine ⟨ys, h4, small16 (by omega), _, by omega, rfl, by omega, fun b o h => ?_, _, upd_same, ?_⟩
      · rw [upd_ne (ne_of_none h hD)]
        exact S4 _ _ (S3 _ _ (S _ _ h))
      · rw [hr]
        exact All2.snoc (P := fun i z => Pr i z (upd H4 D (.lst (ys ++ [y])))) (mono _ _ _ _ tku hy) (ha.imp fun i y h => mono i y _ _ ((S3.tk.trans S4.tk).trans tku) h)
section
variable {K : PySem.W.Frag} {σ : St} {H : Hp} {Q : VK} {te : TE} {tt : TT}
theorem comp_tG {ta : TE} {a : Addr} {xs : List V} (f : Nat → Bool) (Pr : Nat → V → Hp → Prop) (hta : ∀ R : VK, R (.ref a) H → ta σ H R) (hs : SqT K H a xs) (hz : xs.length ≤ 1000000)
    (mono : ∀ i y H1 H2, Tk K H1 H2 → Pr i y H1 → Pr i y H2)
    (test : ∀ i x H', xs[i]? = some x → Same H H' → ∀ Q' : Bool → Hp → Prop, (∀ H'', Same H' H'' → Q' (f i) H'') → tt (some x :: σ) H' Q')
    (elt : ∀ i x H', xs[i]? = some x → f i = true → Same H H' → ∀ Q' : VK, (∀ y H'', Same H' H'' → Pr i y H'' → Q' y H'') → te (some x :: σ) H' Q')
    (q : ∀ D ys H', Same H H' → H D = none → H' D = some (.lst ys) → All2 (fun i y => Pr i y H') ((List.range xs.length).filter f) ys → Q (.ref D) H') : tComp (iTup K ta) tt te σ H Q := by
  have get : ∀ i, i < xs.length → xs[i]? = some (xs.getD i .non) := fun i hi => by rw [List.getD_eq_getElem?_getD, List.getElem?_eq_getElem hi]; rfl
  refine comp_gen (K := K) (J := Itt K a) (n := xs.length) (fun i => xs.getD i .non) f Pr (fun R h => hta _ ⟨a, rfl, ⟨xs, hs⟩, h⟩) (fun H' S => ⟨xs, Same.sqT hs S, Nat.le_refl _⟩) (fun i H' hi S => ?_) hz mono (fun i H' hi S Q' hq => test i _ H' (get i hi) S Q' hq) (fun i H' hi hf S Q' hq => elt i _ H' (get i hi) hf S Q' hq) q
  refine ⟨⟨xs, _, Same.sqT hs S, get i hi⟩, fun x H'' ⟨h1, h2⟩ => ?_⟩
  have e := h2 xs (Same.sqT hs S)
  rw [get i hi] at e
  exact ⟨(Option.some.inj e).symm, h1⟩
theorem comp_rG {ta : TA} {m : Nat} (f : Nat → Bool) (Pr : Nat → V → Hp → Prop) (hta : ∀ R : List V → Hp → Prop, R [.int m] H → ta σ H R) (hz : m ≤ 1000000)
    (mono : ∀ i y H1 H2, Tk K H1 H2 → Pr i y H1 → Pr i y H2)
    (test : ∀ i H', i < m → Same H H' → ∀ Q' : Bool → Hp → Prop, (∀ H'', Same H' H'' → Q' (f i) H'') → tt (some (.int ((i : Nat) : Int)) :: σ) H' Q')
    (elt : ∀ i H', i < m → f i = true → Same H H' → ∀ Q' : VK, (∀ y H'', Same H' H'' → Pr i y H'' → Q' y H'') → te (some (.int ((i : Nat) : Int)) :: σ) H' Q')
    (q : ∀ D ys H', Same H H' → H D = none → H' D = some (.lst ys) → All2 (fun i y => Pr i y H') ((List.range m).filter f) ys → Q (.ref D) H') : tComp (iRng1 ta) tt te σ H Q := by
  refine comp_gen (K := K) (J := Itr 0 m) (n := m) (fun i => .int ((i : Nat) : Int)) f Pr (fun R h => hta _ ⟨m, rfl, by omega, by omega, by rw [Int.toNat_natCast]; exact h⟩) (fun H' S => ?_) (fun i H' hi S => ?_) hz mono test elt q
  · exact Nat.le_refl _
  · refine ⟨hi, fun x H'' h => ?_⟩
    obtain ⟨h1, h2⟩ := h
    exact ⟨by rw [h2]; congr 1; omega, h1⟩
end
theorem cutV_dropL {vs : List V} {i : Nat} (h : i ≤ vs.length) : cutV vs (some (i : Int)) none = vs.drop i := by
  unfold cutV
  have h1 : HT.sIx vs.length 0 (some (i : Int)) = i := by
    show (if ((i : Nat) : Int) < 0 then (((i : Nat) : Int) + (vs.length : Int)).toNat else min ((i : Nat) : Int).toNat vs.length) = _
    rw [if_neg (by omega)]
    omega
  have h2 : HT.sIx vs.length vs.length none = vs.length := rfl
  rw [h1, h2, List.take_of_length_le (by rw [List.length_drop]; omega)]
section
variable {K : PySem.W.Frag} {ns : List Int} {t sc p : Addr} {H₀ H H' : Hp}
theorem TapeS.same (h : TapeS K ns t sc H) (e : Same H H') : TapeS K ns t sc H' := by
  obtain ⟨sp, cr, wy, e1, l⟩ := h
  exact ⟨sp, cr, wy, e _ _ e1, l.on e.ext⟩
theorem CurS.same (c : CurS K ns t sc H₀ H) (e : Same H H') : CurS K ns t sc H₀ H' := ⟨c.tape.same e, c.ext.trans e.ext⟩
theorem CurS.new {o : HO} (c : CurS K ns t sc H₀ H) (hp : H p = none) : CurS K ns t sc H₀ (upd H p o) := c.same (same_new hp o)
theorem CurS.free (c : CurS K ns t sc H₀ H) (hp : H p = none) : H₀ p = none ∨ p = t := by
  by_cases z : p = t
  · exact .inr z
  · left
    cases q : H₀ p with
    | none => rfl
    | some o =>
      have := c.ext _ _ (fun z' => absurd z' z) q
      rw [hp] at this; cases this
theorem TapeS.ne (h : TapeS K ns t sc H) (hp : H p = none) : p ≠ t := fun z => by
  obtain ⟨_, _, _, e, _⟩ := h
  rw [z, e] at hp; cases hp
theorem CurS.free' (c : CurS K ns t sc H₀ H) (hp : H p = none) : H₀ p = none := (c.free hp).elim id fun z => absurd z (c.tape.ne hp)
end
theorem comp_preT {K : PySem.W.Frag} {σ : St} {H : Hp} {Q : VK} {te : TE} {tt : TT} {ta : TE} (h : ta σ H fun x H1 => tComp (iTup K (tC x)) tt te σ H1 Q) : tComp (iTup K ta) tt te σ H Q := h
end L2
namespace L2
open PySem PySem.Spec PyProof.Rows
section
variable {K : PySem.W.Frag} {t : Addr} {H0 : Hp} {σ : St} {d : PyData} {ds : List PyData} {ta : TE} {tr : TA}
end
end L2
namespace L2
open PySem PySem.Spec PyProof.Rows M
theorem noL_encI (cs : List Int) : noL (encI cs) = true := by
  unfold encI
  simp only [noL]
  induction cs with
  | nil => rfl
  | cons c cs ih => simp only [List.map_cons, noLs, noL, ih]; rfl
theorem noL_encT (t : Th) : noL (encT t) = true := rfl
theorem noLs_encT : ∀ ts : List Th, noLs (ts.map encT) = true
  | [] => rfl
  | t :: ts => by simp only [List.map_cons, noLs, noL_encT t, noLs_encT ts]; rfl
def ThV (K : PySem.W.Frag) (H : Hp) (t : Th) (v : V) : Prop := Dt K 0 H (encT t) v
def ThL (K : PySem.W.Frag) (H : Hp) (ts : List Th) (vs : List V) : Prop := DtL K 0 H (ts.map encT) vs
def DwV (K : PySem.W.Frag) (H : Hp) (n : Nat) (b t : Int) (ts : List Th) (a : Addr) : Prop := ∃ ta vs, SqT K H a [.int n, .int b, .int t, .ref ta] ∧ SqT K H ta vs ∧ ThL K H ts vs
section
variable {K : PySem.W.Frag} {H H' : Hp} {t : Th} {ts : List Th} {s : Sn} {v : V} {vs : List V} {n : Nat} {b tr : Int} {a : Addr}
theorem ThV.tk (h : ThV K H t v) (e : Tk K H H') : ThV K H' t v := Dt.tk e _ _ (noL_encT t) h
theorem ThV.same (h : ThV K H t v) (e : Same H H') : ThV K H' t v := h.tk e.tk
theorem ThL.tk (h : ThL K H ts vs) (e : Tk K H H') : ThL K H' ts vs := DtL.tk e _ _ (noLs_encT ts) h
theorem ThL.same (h : ThL K H ts vs) (e : Same H H') : ThL K H' ts vs := h.tk e.tk
theorem DwV.tk (h : DwV K H n b tr ts a) (e : Tk K H H') : DwV K H' n b tr ts a := by
  obtain ⟨ta, vs, h1, h2, h3⟩ := h
  exact ⟨ta, vs, e _ _ h1, e _ _ h2, h3.tk e⟩
theorem DwV.same (h : DwV K H n b tr ts a) (e : Same H H') : DwV K H' n b tr ts a := h.tk e.tk
theorem th_inv (h : ThV K H t v) : ∃ a, v = .ref a ∧ SqT K H a [.str t.nm, .int t.wo, .bl t.en] ∧ PyData.strOk t.nm = true := by
  unfold ThV encT at h
  obtain ⟨a, xs, rfl, hs, hx⟩ := h.tup_inv
  simp only [DtL, Dt] at hx
  obtain ⟨_, _, rfl, ⟨rfl, hok⟩, _, _, rfl, rfl, _, _, rfl, rfl, rfl⟩ := hx
  exact ⟨a, rfl, hs, hok⟩
theorem th_mk (h : SqT K H a [.str t.nm, .int t.wo, .bl t.en]) (hok : PyData.strOk t.nm = true) : ThV K H t (.ref a) := .tup h (.cons (.str hok) (.cons (.int _) (.cons (.bl _) .nil)))
theorem ThL.len (h : ThL K H ts vs) : ts.length = vs.length := by
  have := DtL.len h
  rwa [List.length_map] at this
theorem ThL.at {i : Nat} (h : ThL K H ts vs) (e : ts[i]? = some t) : ∃ v, vs[i]? = some v ∧ ThV K H t v := DtL.get (i := i) h (by rw [List.getElem?_map, e]; rfl)
theorem ThL.nil : ThL K H [] [] := by simp [ThL, DtL]
theorem ThL.snoc (h : ThL K H ts vs) (q : ThV K H t v) : ThL K H (ts ++ [t]) (vs ++ [v]) := by
  induction ts generalizing vs with
  | nil =>
    simp only [ThL, List.map_nil, DtL] at h
    subst h
    exact .cons q .nil
  | cons u ts ih =>
    simp only [ThL, List.map_cons, DtL] at h
    obtain ⟨w, ws, rfl, h1, h2⟩ := h
    exact .cons h1 (ih h2)
end
end L2
namespace L2
open PySem PySem.Spec PyProof.Rows M
def encNm (ns : List Str) : PyData := .tuple (ns.map PyData.str)
def encRw (r : Rw) : PyData := .tuple [encNm r.1, .int r.2]
theorem noLs_strs : ∀ ns : List Str, noLs (ns.map PyData.str) = true
  | [] => rfl
  | n :: ns => by simp only [List.map_cons, noLs, noL, noLs_strs ns]; rfl
theorem noL_encNm (ns : List Str) : noL (encNm ns) = true := by simp only [encNm, noL, noLs_strs]
theorem noL_encRw (r : Rw) : noL (encRw r) = true := by simp only [encRw, noL, noLs, noL_encNm]; rfl
theorem noLs_encNm : ∀ ns : List (List Str), noLs (ns.map encNm) = true
  | [] => rfl
  | n :: ns => by simp only [List.map_cons, noLs, noL_encNm, noLs_encNm ns]; rfl
theorem noLs_encRw : ∀ ns : List Rw, noLs (ns.map encRw) = true
  | [] => rfl
  | n :: ns => by simp only [List.map_cons, noLs, noL_encRw, noLs_encRw ns]; rfl
def NmV (K : PySem.W.Frag) (H : Hp) (n : List Str) (v : V) : Prop := Dt K 0 H (encNm n) v
def RowV (K : PySem.W.Frag) (H : Hp) (r : Rw) (v : V) : Prop := Dt K 0 H (encRw r) v
def NmsL (K : PySem.W.Frag) (H : Hp) (n : List (List Str)) (vs : List V) : Prop := DtL K 0 H (n.map encNm) vs
def RowL (K : PySem.W.Frag) (H : Hp) (r : List Rw) (vs : List V) : Prop := DtL K 0 H (r.map encRw) vs
section
variable {K : PySem.W.Frag} {H H' : Hp} {ns : List Str} {nss : List (List Str)} {r : Rw} {rs : List Rw} {v : V} {vs : List V} {a : Addr}
theorem NmsL.len (h : NmsL K H nss vs) : nss.length = vs.length := by have := DtL.len h; rwa [List.length_map] at this
theorem RowL.len (h : RowL K H rs vs) : rs.length = vs.length := by have := DtL.len h; rwa [List.length_map] at this
theorem NmsL.nil : NmsL K H [] [] := by simp [NmsL, DtL]
theorem RowL.nil : RowL K H [] [] := by simp [RowL, DtL]
theorem RowL.at {i : Nat} (h : RowL K H rs vs) (e : rs[i]? = some r) : ∃ v, vs[i]? = some v ∧ RowV K H r v := DtL.get (i := i) h (by rw [List.getElem?_map, e]; rfl)
theorem NmsL.at {i : Nat} (h : NmsL K H nss vs) (e : nss[i]? = some ns) : ∃ v, vs[i]? = some v ∧ NmV K H ns v := DtL.get (i := i) h (by rw [List.getElem?_map, e]; rfl)
end
def encRt (r : List Th) : PyData := .tuple (r.map encT)
theorem noL_encRt (r : List Th) : noL (encRt r) = true := by simp only [encRt, noL, noLs_encT]
theorem noLs_encRt : ∀ rs : List (List Th), noLs (rs.map encRt) = true
  | [] => rfl
  | r :: rs => by simp only [List.map_cons, noLs, noL_encRt, noLs_encRt rs]; rfl
def RtV (K : PySem.W.Frag) (H : Hp) (r : List Th) (v : V) : Prop := Dt K 0 H (encRt r) v
def RtL (K : PySem.W.Frag) (H : Hp) (rs : List (List Th)) (vs : List V) : Prop := DtL K 0 H (rs.map encRt) vs
section
variable {K : PySem.W.Frag} {H H' : Hp} {r : List Th} {rs ss : List (List Th)} {v : V} {vs us : List V} {a : Addr}
theorem RtL.len (h : RtL K H rs vs) : rs.length = vs.length := by have := DtL.len h; rwa [List.length_map] at this
theorem RtL.at {i : Nat} (h : RtL K H rs vs) (e : rs[i]? = some r) : ∃ v, vs[i]? = some v ∧ RtV K H r v := DtL.get (i := i) h (by rw [List.getElem?_map, e]; rfl)
theorem RtL.nil : RtL K H [] [] := by simp [RtL, DtL]
theorem rngL_of {g : TG} {t : TS} {D : Ends} {σ : St} {lo : Int} {n : Nat} (Pv : Nat → St → Hp → Prop) (h0 : Pv 0 σ H)
    (hs : ∀ (Pv' : Nat → St → Hp → Prop), (∀ i σ H, Pv i σ H → Pv' i σ H) → ∀ i σ H, i < n → Pv i σ H → g (.int (lo + i)) σ H fun σ2 H2 => t { D with nx := Pv' (i + 1), ct := Pv' (i + 1), bk := D.nx } σ2 H2) (hd : ∀ σ H, Pv n σ H → D.nx σ H) :
    ForR g t D σ (Itr lo n) H := for_range Pv h0 (fun i σ H a b => hs Pv (fun _ _ _ z => z) i σ H a b) hd
end
end L2
namespace L2
open PySem PySem.Spec PyProof.Rows
section
variable {X : Cx} {pins : List (Addr × Obj)} {σ : St} {H : Hp} {s : Shared} {N : List Str} {x z : Str} {scope : Scope} {cl : List (Str × Addr)} {fp : List Addr} {it : Addr} {tn : Nat → Heap → Prop} {J : It} {px pz pt : Pos} {kt : Nat}
end
end L2
namespace L2
open PySem PySem.Spec PyProof.Rows
set_option genInjectivity false in
set_option genSizeOf false in
structure NxOk (prog : Program) (w : World) (it : Addr) (fp : List Addr) (get : Nat → Option Value) (st : Nat → Heap → Prop) : Prop where
  item : ∀ (A : Around) (E : Value → Shared → Prop) (s : Shared) (k : Nat) (x : Value) (Q : Value → Shared → Prop), st k s.heap → get k = some x →
    (∀ h', st (k + 1) h' → Heap.SameBut it s.heap h' → Q x { s with heap := h' }) → wpAny (model prog w) A (Builtin.SmallTypes.nextOf (.ref it)) Q E s
  stop : ∀ (A : Around) (E : Value → Shared → Prop) (s : Shared) (k : Nat) (Q : Value → Shared → Prop), A.handled = none → st k s.heap → get k = none →
    (∀ h' e, Heap.ExtBut it s.heap h' → (∃ o, h'.get? e = some o ∧ o.cls = .type "StopIteration") → E (.ref e) { s with heap := h' }) → wpAny (model prog w) A (Builtin.SmallTypes.nextOf (.ref it)) Q E s
  keep : ∀ k h h', st k h → (∀ b ∈ it :: fp, ∀ o, h.get? b = some o → h'.get? b = some o) → st k h'
  got : ∀ k h, st k h → ∃ o, h.get? it = some o ∧ ∀ v, o.data ≠ .cell v
theorem keep_but {prog : Program} {w : World} {it c : Addr} {fp : List Addr} {get : Nat → Option Value} {st : Nat → Heap → Prop} (N : NxOk prog w it fp get st) {k : Nat} {h h' : Heap} (x : st k h) (hs : Heap.ExtBut c h h') (hc : c ∉ it :: fp) : st k h' :=
  N.keep k h h' x fun b hb o e => hs b o (fun z => hc (z ▸ hb)) e
section
variable {prog : Program} {w : World} {A : Around} {E : Value → Shared → Prop} {s : Shared} {z TI TO i1 i2 : Addr} {f1 f2 : List Addr} {g1 g2 : Nat → Option Value} {s1 s2 : Nat → Heap → Prop} {k : Nat} {x y a b : Value}
end
theorem nx_tuple {prog : Program} {w : World} {it l : Addr} {items : Array Value} (hne : l ≠ it) : NxOk prog w it [l] (fun k => items[k]?) (fun k h => h.IsTupleIter it l k ∧ h.IsTuple l items) where
  item := by
    rintro A E s k x Q ⟨hit, hl⟩ hx hQ
    replace hx : items[k]? = some x := hx
    obtain ⟨o, ho, hc, hd⟩ := id hit
    obtain ⟨ol, hol, hcl, nl, hdl⟩ := id hl
    unfold Builtin.SmallTypes.nextOf
    refine wpAny_bind (wpAny_callSpecial?_slot (name := Str.ofString "__next__") hit.typeIs F.slot_tuple_iterator_next
      (wpAny_call_entry F.slot_tuple_iterator_next hit.typeIs F.entry_tuple_iterator_next ?_ (F.args_tuple_iterator_next_1 _)))
    show wpAny _ _ (field (.ref it) 0 >>= _) _ _ s
    refine wpAny_bind (wpAny_field ho hd (x := .ref l) rfl ?_)
    show wpAny _ _ (if (Value.ref l == Value.none) = true then _ else _) _ _ s
    rw [if_neg (show ¬ ((Value.ref l == Value.none) = true) from Bool.false_ne_true)]
    show wpAny _ _ (field (.ref it) 1 >>= _) _ _ s
    refine wpAny_bind (wpAny_field ho hd (x := .int k 0) rfl ?_)
    show wpAny _ _ (seqItems? (.ref l) >>= _) _ _ s
    refine wpAny_bind (wpAny_seqItems hol hdl ?_)
    simp only [Int.toNat_natCast, hx]
    refine wpAny_bind (wpAny_setField ho hd (by simp) (wpAny_pure ⟨x, rfl, wpAny_pure (hQ _ ⟨?_, ?_⟩ (Heap.SameBut.update ..))⟩))
    · exact ⟨_, Heap.get?_update_self _ ho (Obj.isFreed_of_fields (Obj.data_mapFields hd _)), (Obj.cls_mapFields ..).trans hc, by
        rw [Obj.data_mapFields hd]; simp [rawInt]⟩
    · exact ⟨ol, (Heap.SameBut.update ..).extBut _ _ hne hol, hcl, nl, hdl⟩
  stop := by
    rintro A E s k Q hh ⟨hit, hl⟩ hx hE
    replace hx : items[k]? = none := hx
    obtain ⟨o, ho, hc, hd⟩ := id hit
    obtain ⟨ol, hol, hcl, nl, hdl⟩ := id hl
    unfold Builtin.SmallTypes.nextOf
    refine wpAny_bind (wpAny_callSpecial?_slot (name := Str.ofString "__next__") hit.typeIs F.slot_tuple_iterator_next
      (wpAny_call_entry F.slot_tuple_iterator_next hit.typeIs F.entry_tuple_iterator_next ?_ (F.args_tuple_iterator_next_1 _)))
    show wpAny _ _ (field (.ref it) 0 >>= _) _ _ s
    refine wpAny_bind (wpAny_field ho hd (x := .ref l) rfl ?_)
    show wpAny _ _ (if (Value.ref l == Value.none) = true then _ else _) _ _ s
    rw [if_neg (show ¬ ((Value.ref l == Value.none) = true) from Bool.false_ne_true)]
    show wpAny _ _ (field (.ref it) 1 >>= _) _ _ s
    refine wpAny_bind (wpAny_field ho hd (x := .int k 0) rfl ?_)
    show wpAny _ _ (seqItems? (.ref l) >>= _) _ _ s
    refine wpAny_bind (wpAny_seqItems hol hdl ?_)
    simp only [Int.toNat_natCast, hx]
    refine wpAny_bind (wpAny_rule (wpAny_bind (wpAny_setField ho hd (by simp) ?_)))
    show wpAny _ _ (newExc (.type "StopIteration") [] >>= _) _ _ _
    refine wpAny_bind ?_
    simp only [newExc, newTuple]
    refine wpAny_bind (wpAny_newObj_type ?_ (by size_fits))
    refine wpAny_bind (m := firstArgMember _ _) (wpAny_of_eq (a := Value.none) (by first | rfl | (simp only [firstArgMember]; rfl)) ?_)
    refine wpAny_newObj_type ?_ (by size_fits)
    simp only [raiseNew]
    refine wpAny_bind (wpAny_handled ?_)
    first | rw [show A.in1.handled = none from hh] | rw [hh]
    refine wpAny_bind (wpAny_pure (wpAny_throw ?_))
    exact hE _ _ (((Heap.SameBut.update ..).extBut.push _).push _) ⟨_, Heap.get?_push_size _ rfl, rfl⟩
  keep := fun k h h' ⟨⟨o, e, c, d⟩, ⟨u, e2, c2, d2⟩⟩ hk => ⟨⟨o, hk it (by simp) o e, c, d⟩, ⟨u, hk l (by simp) u e2, c2, d2⟩⟩
  got := fun k h ⟨⟨o, e, c, d⟩, _⟩ => ⟨o, e, fun v z => by rw [d] at z; cases z⟩
end L2
namespace L2
open PySem PySem.Spec PyProof.Rows
section
variable {X : Cx} {pins : List (Addr × Obj)} {σ : St} {H : Hp} {s : Shared}
theorem inv_turnedL {h' : Heap} {t' : Nat} {ch : List Addr} (I : Inv X pins σ H s) (k : ∀ b o, b ∉ ch → s.heap.get? b = some o → h'.get? b = some o) (hf : ∀ b ∈ ch, FpOk X pins H b) : Inv X pins σ H { s with heap := h', toks := t' } := by
  refine I.step (g' := s.gens) (d' := s.drawn) (ch := ch) (fun b hb => ?_) (fun b o _ _ hc e _ => k b o hc e) (fun b o _ _ hc e _ => ⟨o.slots, k b o hc e⟩) (fun _ _ _ _ n => n)
    (fun b o hc e => ⟨o, k b o hc e⟩) (fun _ _ e => e) (fun _ _ _ e => e) (fun b ps e => ⟨#[], by rw [e]; simp⟩) (fun m hm => ?_) (fun b u e => ?_) I.bare
  · obtain ⟨_, f1, _, f3, f4, f5⟩ := hf b hb
    exact ⟨f3, f1, f4, f5⟩
  · obtain ⟨o, es, ep, ho, r⟩ := hm
    exact ⟨o, es, ep, k _ o (fun z => (hf _ z).2.1 rfl) ho, r⟩
  · refine (I.hok b u e).stay (fun c v hc q => k c v (fun z => ?_) q) (fun _ q => q) fun _ _ q => q
    have hn := (hf c z).1
    rcases hc with y | y
    · rw [y, e] at hn; cases hn
    · rw [y] at hn; cases hn
theorem inv_trackN {a : Addr} {o : HO} {s' : Shared} (I0 : Inv X pins σ H s) (I : Inv X pins σ H s') (ha : s.heap.objs.size ≤ a) (new : ObjOk X.prog X.w (upd H a o) s'.heap a o) : Inv X pins σ (upd H a o) s' := by
  refine inv_track I (I0.hok.fresh ha) ?_ (Nat.ne_of_gt (Nat.lt_of_lt_of_le I0.lt ha)) (fun x c e => ?_) (fun p hp => ?_) new
  · cases e : X.s₀.heap.get? a with
    | none => rfl
    | some o => exact absurd (Nat.lt_of_lt_of_le (Heap.lt_size e) (Nat.le_trans I0.sz ha)) (Nat.lt_irrefl _)
  · obtain ⟨v, q⟩ := I0.cell x c e
    exact Nat.ne_of_lt (Nat.lt_of_lt_of_le q.lt ha)
  · exact Nat.ne_of_lt (Nat.lt_of_lt_of_le (Heap.lt_size (I0.pin p hp).1) ha)
end
theorem addr_ne {n i j : Nat} (h : i ≠ j) : n + i ≠ n + j := by omega
end L2
namespace L2
open PySem PySem.Spec PyProof.Rows
theorem bt_enumerate : bootBuiltins "enumerate" = some (.type "enumerate") := by decide +kernel
end L2
namespace L2
open PySem PySem.Spec PyProof.Rows
end L2
namespace L2
open PySem PySem.Spec PyProof.Rows
section
variable {prog : Program} {w : World} {A : Around} {I : Addr} {fp wr : List Addr} {G : Array GenState → Array GenState → Prop} {n : Nat} {P : Nat → Value → Prop} {St : Nat → Shared → Prop} {R : Result → Shared → Prop}
end
section
variable {prog : Program} {w : World} {A : Around} {E : Value → Shared → Prop} {s : Shared}
end
section
variable {X : Cx}
def rFind : V → List V → Hp → VK → Prop := fun x vs H Q => ∃ a b, x = .str a ∧ vs = [.str b] ∧ Q (.int (Txt.find a b)) H
end
end L2
namespace L2
open PySem PySem.Spec PyProof.Rows
section
variable {H : Hp} {Q : VK}
theorem r_leS {a b : Str} : rLeS (.str a) (.str b) H Q = Q (.bl (M.leS a b)) H := by
  unfold rLeS
  exact propext ⟨fun ⟨a, b, h1, h2, h⟩ => by cases h1; cases h2; exact h, fun h => ⟨a, b, rfl, rfl, h⟩⟩
theorem r_findS {a b : Str} : rFind (.str a) [.str b] H Q = Q (.int (Txt.find a b)) H := by
  unfold rFind
  exact propext ⟨fun ⟨a, b, h1, h2, h⟩ => by cases h1; cases h2; exact h, fun h => ⟨a, b, rfl, rfl, h⟩⟩
end
theorem comp_strB {σ : St} {H : Hp} {Q : VK} {te ta : TE} {x : Str} (f : Nat → Bool) (hta : ∀ R : VK, R (.str x) H → ta σ H R) (ha : x.cps.all (· < 128) = true) (hz : x.cps.size ≤ 1000)
    (elt : ∀ c H', c ∈ x.cps.toList → Same H H' → ∀ Q' : VK, (∀ H'', Same H' H'' → Q' (.bl (f c)) H'') → te (some (.str (M.sgn c)) :: σ) H' Q')
    (q : ∀ D H', Same H H' → H' D = some (.lst ((x.cps.toList.map f).map V.bl)) → Q (.ref D) H') : tComp (iStr ta) tTrue te σ H Q :=
  comp_str (fun c => .bl (f c)) hta ha hz elt fun D H' S _ h => q D H' S (by rw [h, List.map_map]; rfl)
end L2
namespace HT
open PySem PySem.Spec PyProof.Rows
section
variable {prog : Program} {w : World} {A : Around} {E : Value → Shared → Prop} {s : Shared}
theorem whole_tup {t sl : Addr} {its : Array Value} {vl vu : Value} {lo hi : Option Int} {Q : Value → Shared → Prop} (ht : IsTup s.heap t its) (hs : s.heap.IsSliceOf sl vl vu .none) (pl : IsPart vl lo) (pu : IsPart vu hi)
    (e0 : sIx its.size 0 lo = 0) (e1 : sIx its.size its.size hi = its.size) (h : Q (.ref t) s) : wpAny (model prog w) A (getItem (.ref t) (.ref sl)) Q E s := by
  obtain ⟨os, g1, g2, g3⟩ := id hs
  have ty : s.TypeIs (.ref sl) "slice" := ⟨os, g1, g2⟩
  unfold getItem
  try with_reducible refine wpAny_holding (?_)
  first | refine wpAny_bind (wpAny_pure (?_)) | skip
  refine wpAny_bind (wpAny_sequenceKey ht.typeIs (by decide) (?_))
  refine wpAny_bind (wpAny_callSpecial?_slot (name := Str.ofString "__getitem__") ht.typeIs PyProof.Rows.slot_tuple_getitem (wpAny_call_entry PyProof.Rows.slot_tuple_getitem ht.typeIs entry_tuple_getitem (?_) (args_tuple_getitem _ _)))
  show wpAny _ _ ((Builtin.Tuple.tupleItemsOf (.ref t)) >>= _) _ _ s
  refine wpAny_bind (tupleItemsOf_ ht (?_))
  refine wpAny_bind (wpAny_typeOf ty (?_))
  rw [if_pos (by decide)]
  refine wpAny_bind (sliceApplied_gen hs pl pu (?_))
  rw [e0, e1]
  have yes : (((0 : Nat) : Int) == 0 && (1 : Int) == 1 && (its.size - 0) == its.size) = true := by simp
  show wpAny _ _ (if (((0 : Nat) : Int) == 0 && (1 : Int) == 1 && (its.size - 0) == its.size) = true then _ else _) _ _ s
  rw [if_pos yes]
  obtain ⟨o, ho, hc, _⟩ := id ht
  have tt : s.TypeIs (.ref t) "tuple" := ⟨o, ho, hc⟩
  unfold Builtin.Tuple.tupleIsExact
  first
    | exact wpAny_bind (wpAny_bind (wpAny_typeOf tt (wpAny_pure (by rw [if_pos (by decide)]; exact wpAny_bind (wpAny_rule (wpAny_pure ⟨_, rfl, wpAny_pure h⟩))))))
    | exact wpAny_bind (wpAny_bind (wpAny_typeOf tt (wpAny_pure (wpAny_bind (wpAny_rule (wpAny_pure ⟨_, rfl, wpAny_pure h⟩))))))
    | skip
end
end HT
namespace L2
open PySem PySem.Spec PyProof.Rows
def rSlA (K : PySem.W.Frag) : V → Option Int → Option Int → Hp → VK → Prop := fun x lo hi H Q => ∃ a xs, x = .ref a ∧ SqT K H a xs ∧ ∀ p H', Same H H' → SqT K H' p (cutV xs lo hi) → Q (.ref p) H'
theorem sl_tupA {X : Cx} : SlR X (rSlA X.K) := by
  intro pins s σ H x v vl vu lo hi sl Q I rx hs pl pu h
  obtain ⟨a, xs, rfl, hx, q⟩ := h
  by_cases c : HT.sIx xs.length 0 lo = 0 ∧ HT.sIx xs.length xs.length hi = xs.length
  · cases rx
    obtain ⟨its, r, ht, hz⟩ := I.tuple hx
    have hlen : its.toArray.size = xs.length := by rw [List.size_toArray]; exact r.length.symm
    refine ⟨"tuple", _, PyProof.Rows.slot_tuple_getitem.lookup, ht.typeIs, HT.whole_tup ht hs pl pu (by rw [hlen]; exact c.1) (by rw [hlen]; exact c.2) ⟨.ref a, H, I, rfl, q a H (.refl H) ?_⟩⟩
    have e : cutV xs lo hi = xs := by
      unfold cutV
      rw [c.1, c.2]
      simp
    rw [e]
    exact hx
  · exact sl_tup pins s σ H _ v vl vu lo hi sl Q I rx hs pl pu ⟨a, xs, rfl, hx, c, fun p hp => q p _ (same_new hp _) (.of upd_same)⟩
theorem slA_tup {X : Cx} : SlR X (rSlA X.K) := sl_tupA
section
variable {K : PySem.W.Frag} {t : Addr} {H0 H : Hp} {σ : St} {d : PyData} {ds es : List PyData} {ta tb : TE} {tr : TA} {Q : VK}
end
section
open M
def Gd (W D : Nat) (d : PyData) : Prop := smD d = true ∧ wtD d ≤ W ∧ d.depth ≤ D
theorem Gd.mono {W D W' D' : Nat} {d : PyData} (h : Gd W D d) (h1 : W ≤ W' := by omega) (h2 : D ≤ D' := by omega) : Gd W' D' d := ⟨h.1, Nat.le_trans h.2.1 h1, Nat.le_trans h.2.2 h2⟩
theorem gdl {W D n : Nat} : ∀ {ds : List PyData}, (∀ d ∈ ds, Gd W D d) → ds.length ≤ n → smL ds = true ∧ wtL ds ≤ n * (W + 2) ∧ PyData.depthAll ds ≤ D
  | [], _, _ => ⟨rfl, by simp only [wtL]; omega, by simp [PyData.depthAll]⟩
  | d :: ds, h, hn => by
    obtain ⟨m, rfl⟩ : ∃ m, n = m + 1 := ⟨n - 1, by simp at hn; omega⟩
    obtain ⟨i1, i2, i3⟩ := gdl (n := m) (fun e he => h e (List.mem_cons_of_mem _ he)) (by simp at hn; omega)
    obtain ⟨g1, g2, g3⟩ := h d (List.mem_cons_self ..)
    refine ⟨by simp only [smL, g1, i1]; rfl, ?_, ?_⟩
    · simp only [wtL]
      rw [Nat.add_mul]
      omega
    · simp only [PyData.depthAll]
      omega
theorem Gd.tup {W D n : Nat} {ds : List PyData} (h : ∀ d ∈ ds, Gd W D d) (hn : ds.length ≤ n) (hz : n ≤ 1000 := by omega) : Gd (n * (W + 2) + 3) (D + 1) (.tuple ds) := by
  obtain ⟨i1, i2, i3⟩ := gdl h hn
  refine ⟨?_, ?_, ?_⟩
  · simp only [smD, i1, Bool.and_true, decide_eq_true_eq]; omega
  · simp only [wtD]; omega
  · simp only [PyData.depth]; omega
theorem Gd.lst {W D n : Nat} {ds : List PyData} (h : ∀ d ∈ ds, Gd W D d) (hn : ds.length ≤ n) (hz : n ≤ 1000 := by omega) : Gd (n * (W + 2) + 3) (D + 1) (.list ds) := by
  obtain ⟨i1, i2, i3⟩ := gdl h hn
  refine ⟨?_, ?_, ?_⟩
  · simp only [smD, i1, Bool.and_true, decide_eq_true_eq]; omega
  · simp only [wtD]; omega
  · simp only [PyData.depth]; omega
theorem Gd.str {x : Str} {n : Nat} (h : asc x) (hn : x.length ≤ n) (hz : n ≤ 1000 := by omega) : Gd (10 * n + 2) 0 (.str x) := by
  refine ⟨?_, ?_, ?_⟩
  · simp only [smD, Bool.and_eq_true, List.all_eq_true, decide_eq_true_eq]
    exact ⟨h, by omega⟩
  · simp only [wtD]; omega
  · simp [PyData.depth]
theorem Gd.int {i : Int} (h : i.natAbs < 10 ^ 80) : Gd 81 0 (.int i) := ⟨by simp only [smD, decide_eq_true_eq]; exact h, by simp only [wtD]; omega, by simp [PyData.depth]⟩
theorem Gd.bl {b : Bool} : Gd 5 0 (.bool b) := ⟨rfl, by simp [wtD], by simp [PyData.depth]⟩
theorem Gd.non : Gd 4 0 .none := ⟨rfl, by simp [wtD], by simp [PyData.depth]⟩
end
end L2
namespace L2
open PySem PySem.Spec PyProof.Rows M
theorem noL_encR (r : Lr) : noL (encR r) = true := rfl
theorem noLs_encR : ∀ rows : List Lr, noLs (rows.map encR) = true
  | [] => rfl
  | r :: rs => by simp only [List.map_cons, noLs, noL_encR r, noLs_encR rs]; rfl
def RwV (K : PySem.W.Frag) (H : Hp) (r : Lr) (v : V) : Prop := Dt K 0 H (encR r) v
def RwL (K : PySem.W.Frag) (H : Hp) (rows : List Lr) (vs : List V) : Prop := DtL K 0 H (rows.map encR) vs
section
variable {K : PySem.W.Frag} {H H' : Hp} {r : Lr} {rows : List Lr} {side : Nat} {v : V} {vs : List V}
theorem RwL.len (h : RwL K H rows vs) : rows.length = vs.length := by
  have := DtL.len h
  rwa [List.length_map] at this
theorem RwL.at {i : Nat} (h : RwL K H rows vs) (e : rows[i]? = some r) : ∃ v, vs[i]? = some v ∧ RwV K H r v := DtL.get (i := i) h (by rw [List.getElem?_map, e]; rfl)
theorem RwL.set {i : Nat} (h : RwL K H rows vs) (hv : RwV K H r v) : RwL K H (rows.set i r) (vs.set i v) := by
  induction rows generalizing vs i with
  | nil =>
    simp only [RwL, List.map_nil, DtL] at h
    subst h
    simp [RwL, DtL]
  | cons q rows ih =>
    simp only [RwL, List.map_cons, DtL] at h
    obtain ⟨w, ws, rfl, h1, h2⟩ := h
    cases i with
    | zero => exact .cons hv h2
    | succ i => exact .cons h1 (ih (i := i) h2)
end
end L2
namespace L2
open PySem PySem.Spec PySem.Calls PyProof.Rows
section
variable {X : Cx}
end
end L2
namespace My
open PySem L2 M
set_option genInjectivity false in
set_option genSizeOf false in
structure DwOk (n : Nat) (b tr : Int) (ths : List Th) : Prop where
  n1 : 1 ≤ n
  n3 : n ≤ 3
  b1 : 1 ≤ b
  b2 : b ≤ 1000000
  t1 : 1 ≤ tr
  t3 : tr ≤ 3
  l1 : 1 ≤ ths.length
  l2 : ths.length ≤ 30
  ok : ∀ x ∈ ths, asc x.nm ∧ nmL x.nm ∧ 0 ≤ x.wo ∧ x.wo ≤ 1000000
def dwD (n : Nat) (b tr : Int) (ths : List Th) : List PyData := [.int n, .int b, .int tr, .tuple (ths.map encT)]
def lnD (s : Nat) (p f : Int) : List PyData := [.int s, .int p, .int f]
set_option genInjectivity false in
set_option genSizeOf false in
inductive Gm where
  | ral (rl : Rl)
  | dn (n : Nat) (b tr : Int) (ths : List Th)
  | ln (s : Nat) (p f : Int)
namespace Gm
def word : Gm → Str
  | .ral _ => "rally"
  | .dn .. => "down"
  | .ln .. => "lane"
def rule : Gm → PyData
  | .ral rl => enc rl
  | .dn n b tr ths => .tuple (dwD n b tr ths)
  | .ln s p f => .tuple (lnD s p f)
theorem dn_ral {n b tr ths} : (Gm.dn n b tr ths).word ≠ Str.ofString "rally" := (show Str.ofString "down" ≠ Str.ofString "rally" by decide +kernel)
theorem ln_ral {s p f} : (Gm.ln s p f).word ≠ Str.ofString "rally" := (show Str.ofString "lane" ≠ Str.ofString "rally" by decide +kernel)
theorem ln_dn {s p f} : (Gm.ln s p f).word ≠ Str.ofString "down" := (show Str.ofString "lane" ≠ Str.ofString "down" by decide +kernel)
end Gm
def encG (g : Gm) : PyData := .tuple [.str g.word, g.rule]
def RuV (K : PySem.W.Frag) (H : Hp) (g : Gm) (v : V) : Prop := match g with
  | .ral rl => RlV K H rl v
  | .dn n b tr ths => ∃ da, v = .ref da ∧ DwV K H n b tr ths da
  | .ln s p f => ∃ la, v = .ref la ∧ SqT K H la [.int s, .int p, .int f]
def GmV (K : PySem.W.Frag) (H : Hp) (g : Gm) (v : V) : Prop := ∃ a rv, v = .ref a ∧ SqT K H a [.str g.word, rv] ∧ RuV K H g rv
def GmOk : Gm → Prop
  | .ral rl => ok rl ∧ depth rl ≤ 4 ∧ size rl ≤ 7
  | .dn n b tr ths => DwOk n b tr ths ∧ (ths.map (·.nm)).Nodup
  | .ln s p f => (1 ≤ s ∧ s ≤ 3) ∧ (1 ≤ p ∧ p ≤ 20) ∧ (1 ≤ f ∧ f ≤ 12)
section
variable {K : PySem.W.Frag} {H H' : Hp} {g : Gm} {v : V} {t : Addr}
theorem RuV.tk (h : RuV K H g v) (e : Tk K H H') : RuV K H' g v := by
  cases g with
  | ral rl => exact RlV.tk h e
  | dn n b tr ths => obtain ⟨da, rfl, h⟩ := h; exact ⟨da, rfl, h.tk e⟩
  | ln s p f => obtain ⟨la, rfl, h⟩ := h; exact ⟨la, rfl, e _ _ h⟩
theorem GmV.tk (h : GmV K H g v) (e : Tk K H H') : GmV K H' g v := by
  obtain ⟨a, rv, rfl, h1, h2⟩ := h
  exact ⟨a, rv, rfl, e _ _ h1, h2.tk e⟩
theorem GmV.same (h : GmV K H g v) (e : Same H H') : GmV K H' g v := h.tk e.tk
theorem dw_dt {n : Nat} {b tr : Int} {ths : List Th} {da : Addr} (h : DwV K H n b tr ths da) : Dt K t H (.tuple (dwD n b tr ths)) (.ref da) := by
  obtain ⟨ta, vs, h1, h2, h3⟩ := h
  exact .tup h1 (.cons (.int _) (.cons (.int _) (.cons (.int _) (.cons (.tup h2 (DtL.tk (.refl H) _ _ (noLs_encT ths) h3)) .nil))))
theorem RuV.dt (h : RuV K H g v) : Dt K t H g.rule v := by
  cases g with
  | ral rl => exact RlV.dt h
  | dn n b tr ths => obtain ⟨da, rfl, h⟩ := h; exact dw_dt h
  | ln s p f => obtain ⟨la, rfl, h⟩ := h; exact .tup h (.cons (.int _) (.cons (.int _) (.cons (.int _) .nil)))
theorem word_ok : ∀ g : Gm, PyData.strOk g.word = true
  | .ral _ => (show PyData.strOk "rally" = true by decide +kernel)
  | .dn .. => (show PyData.strOk "down" = true by decide +kernel)
  | .ln .. => (show PyData.strOk "lane" = true by decide +kernel)
theorem GmV.dt (h : GmV K H g v) : Dt K t H (encG g) v := by
  obtain ⟨a, rv, rfl, h1, h2⟩ := h
  exact .tup h1 (.cons (.str (word_ok g)) (.cons h2.dt .nil))
end
theorem th_gd {x : Th} (h : asc x.nm ∧ nmL x.nm ∧ 0 ≤ x.wo ∧ x.wo ≤ 1000000) : Gd 1211 2 (encT x) := by
  refine (Gd.tup (W := 300) (D := 1) (n := 4) (fun d hd => ?_) (by simp)).mono
  simp only [List.mem_cons, List.not_mem_nil, or_false] at hd
  rcases hd with rfl | rfl | rfl
  · exact (Gd.str (n := 9) h.1 (by have := h.2.1.2; unfold nmS at this; simp only [Bool.and_eq_true, decide_eq_true_eq] at this; rw [len_toList]; omega)).mono
  · exact (Gd.int (Nat.lt_of_le_of_lt (show x.wo.natAbs ≤ 1000000 by omega) (by decide +kernel))).mono
  · exact Gd.bl.mono
theorem ths_gd {ths : List Th} (h : ∀ x ∈ ths, asc x.nm ∧ nmL x.nm ∧ 0 ≤ x.wo ∧ x.wo ≤ 1000000) : ∀ d ∈ ths.map encT, Gd 1211 2 d := fun d hd => by
  obtain ⟨x, hx, rfl⟩ := List.mem_map.mp hd
  exact th_gd (h x hx)
theorem int_gd {i : Int} (h : 0 ≤ i) (h2 : i ≤ 10000000) : Gd 121303 3 (.int i) := (Gd.int (Nat.lt_of_le_of_lt (show i.natAbs ≤ 10000000 by omega) (by decide +kernel))).mono
theorem dw_gd {n : Nat} {b tr : Int} {ths : List Th} (h : DwOk n b tr ths) : ∀ d ∈ dwD n b tr ths, Gd 121303 3 d := fun d hd => by
  have := h.n3; have := h.b1; have := h.b2; have := h.t1; have := h.t3; have := h.l2
  simp only [dwD, List.mem_cons, List.not_mem_nil, or_false] at hd
  rcases hd with rfl | rfl | rfl | rfl
  · exact int_gd (by omega) (by omega)
  · exact int_gd (by omega) (by omega)
  · exact int_gd (by omega) (by omega)
  · exact (Gd.tup (n := 100) (ths_gd h.ok) (by rw [List.length_map]; omega)).mono
def encL : Rl → List PyData
  | .pt => [.str "point"]
  | .un to lead cap i => [.str "unit", .int to, .int lead, capD cap, enc i, .none]
  | .ul to lead cap i l => [.str "unit", .int to, .int lead, .int cap, enc i, enc l]
theorem enc_encL : ∀ r : Rl, enc r = .tuple (encL r)
  | .pt => rfl
  | .un .. => rfl
  | .ul .. => rfl
def Gm.items : Gm → List PyData
  | .ral rl => encL rl
  | .dn n b tr ths => dwD n b tr ths
  | .ln s p f => lnD s p f
theorem rule_items : ∀ g : Gm, g.rule = .tuple g.items
  | .ral rl => enc_encL rl
  | .dn .. => rfl
  | .ln .. => rfl
theorem gd_bd {i l : Int} (h : Bd l i) (hl : 0 ≤ l) : Gd 81 0 (.int i) := Gd.int (Nat.lt_of_le_of_lt (show i.natAbs ≤ 1000000 by have := h.1; have := h.2; omega) (by decide +kernel))
theorem gd_unitw : Gd 62 0 (.str "unit") := (Gd.str (n := 6) (x := "unit") (by unfold asc; decide +kernel) (by decide +kernel)).mono
theorem gd_pointw : Gd 62 0 (.str "point") := (Gd.str (n := 6) (x := "point") (by unfold asc; decide +kernel) (by decide +kernel)).mono
theorem gd_capD {to : Int} {c : Option Int} (h : capOk to c) (ht : 0 ≤ to) : Gd 81 0 (capD c) := by
  cases c with
  | none => exact Gd.non.mono
  | some c => exact gd_bd h ht
theorem Gd.cons6 {W1 W2 D a b c d e f} (ha : Gd 81 0 a) (hb : Gd 81 0 b) (hc : Gd 81 0 c) (hd : Gd 81 0 d) (he : Gd W1 D e) (hf : Gd W2 D f) : Gd (W1 + W2 + 400) (D + 1) (.tuple [a, b, c, d, e, f]) := by
  obtain ⟨a1, a2, a3⟩ := ha; obtain ⟨b1, b2, b3⟩ := hb; obtain ⟨c1, c2, c3⟩ := hc; obtain ⟨d1, d2, d3⟩ := hd; obtain ⟨e1, e2, e3⟩ := he; obtain ⟨f1, f2, f3⟩ := hf
  refine ⟨?_, ?_, ?_⟩
  · simp only [smD, smL, a1, b1, c1, d1, e1, f1]; rfl
  · simp only [wtD, wtL]; omega
  · simp only [PyData.depth, PyData.depthAll]; omega
theorem enc_gd : ∀ r : Rl, ok r → Gd (1000 * size r + 100) (depth r + 1) (enc r)
  | .pt, _ => (Gd.tup (W := 62) (D := 0) (n := 1) (fun d hd => by rw [List.mem_singleton.mp hd]; exact gd_pointw) (by simp)).mono
  | .un to lead cap i, ⟨h1, h2, h3, h4⟩ => by
    have := h1.1
    have ih := enc_gd i h4
    simp only [size, depth]
    exact (Gd.cons6 gd_unitw.mono (gd_bd h1 (by omega)) (gd_bd h2 (by omega)) (gd_capD h3 (by omega)) ih (Gd.non.mono (Nat.le_refl _) (Nat.zero_le _))).mono
  | .ul to lead cap i l, ⟨h1, h2, h3, h4, h5⟩ => by
    have := h1.1
    have ih := enc_gd i h4
    have ih2 := enc_gd l h5
    simp only [size, depth]
    exact (Gd.cons6 gd_unitw.mono (gd_bd h1 (by omega)) (gd_bd h2 (by omega)) (gd_bd h3 (by omega)) (ih.mono (Nat.le_refl _) (D' := max (depth i) (depth l) + 1)) (ih2.mono (Nat.le_refl _) (D' := max (depth i) (depth l) + 1))).mono
theorem items_gd {g : Gm} (h : GmOk g) : (∀ d ∈ g.items, Gd 121303 5 d) ∧ 1 ≤ g.items.length ∧ g.items.length ≤ 6 := by
  cases g with
  | ral rl =>
    obtain ⟨h1, h2, h3⟩ := h
    cases rl with
    | pt => exact ⟨fun d hd => by rw [List.mem_singleton.mp hd]; exact gd_pointw.mono, Nat.le_refl _, by decide⟩
    | un to lead cap i =>
      obtain ⟨k1, k2, k3, k4⟩ := h1
      have := k1.1
      simp only [depth] at h2; simp only [size] at h3
      refine ⟨fun d hd => ?_, by simp [Gm.items, encL], by simp [Gm.items, encL]⟩
      simp only [Gm.items, encL, List.mem_cons, List.not_mem_nil, or_false] at hd
      rcases hd with rfl | rfl | rfl | rfl | rfl | rfl
      · exact gd_unitw.mono
      · exact (gd_bd k1 (by omega)).mono
      · exact (gd_bd k2 (by omega)).mono
      · exact (gd_capD k3 (by omega)).mono
      · exact (enc_gd i k4).mono
      · exact Gd.non.mono
    | ul to lead cap i l =>
      obtain ⟨k1, k2, k3, k4, k5⟩ := h1
      have := k1.1
      simp only [depth] at h2; simp only [size] at h3
      refine ⟨fun d hd => ?_, by simp [Gm.items, encL], by simp [Gm.items, encL]⟩
      simp only [Gm.items, encL, List.mem_cons, List.not_mem_nil, or_false] at hd
      rcases hd with rfl | rfl | rfl | rfl | rfl | rfl
      · exact gd_unitw.mono
      · exact (gd_bd k1 (by omega)).mono
      · exact (gd_bd k2 (by omega)).mono
      · exact (gd_bd k3 (by omega)).mono
      · exact (enc_gd i k4).mono
      · exact (enc_gd l k5).mono
  | dn n b tr ths => exact ⟨fun d hd => (dw_gd h.1 d hd).mono, by simp [Gm.items, dwD], by simp [Gm.items, dwD]⟩
  | ln s p f =>
    obtain ⟨⟨h1, h2⟩, ⟨h3, h4⟩, h5, h6⟩ := h
    refine ⟨fun d hd => ?_, by simp [Gm.items, lnD], by simp [Gm.items, lnD]⟩
    simp only [Gm.items, lnD, List.mem_cons, List.not_mem_nil, or_false] at hd
    rcases hd with rfl | rfl | rfl <;> exact (int_gd (by omega) (by omega)).mono
theorem rule_gd {g : Gm} (h : GmOk g) : Gd 727833 6 g.rule := by
  obtain ⟨h1, _, h2⟩ := items_gd h
  rw [rule_items]
  exact (Gd.tup (n := 6) h1 h2).mono
theorem gd_word : ∀ g : Gm, Gd 62 0 (.str g.word)
  | .ral _ => (Gd.str (n := 6) (x := "rally") (by unfold asc; decide +kernel) (by decide +kernel)).mono
  | .dn .. => (Gd.str (n := 6) (x := "down") (by unfold asc; decide +kernel) (by decide +kernel)).mono
  | .ln .. => (Gd.str (n := 6) (x := "lane") (by unfold asc; decide +kernel) (by decide +kernel)).mono
theorem encG_gd {g : Gm} (h : GmOk g) : Gd 1455673 7 (encG g) := by
  refine (Gd.tup (W := 727833) (D := 6) (n := 2) (fun d hd => ?_) (by simp)).mono
  simp only [List.mem_cons, List.not_mem_nil, or_false] at hd
  rcases hd with rfl | rfl
  · exact (gd_word g).mono
  · exact rule_gd h
section
variable {K : PySem.W.Frag} {t : Addr} {H0 : Hp} {σ : St} {ta : TE} {d d0 : PyData} {ds : List PyData}
end
set_option genInjectivity false in
set_option genSizeOf false in
structure GdL (W D n : Nat) (ds : List PyData) : Prop where
  sm : smL ds = true
  wt : wtL ds ≤ W
  dp : PyData.depthAll ds ≤ D
  ln : ds.length ≤ n
theorem GdL.one {W D : Nat} {d : PyData} (h : Gd W D d) : GdL (W + 2) D 1 [d] := by
  obtain ⟨h1, h2, h3⟩ := h
  refine ⟨by simp only [smL, h1]; rfl, by simp only [wtL]; omega, by simp only [PyData.depthAll]; omega, by simp⟩
theorem GdL.tup {W D n : Nat} {ds : List PyData} (h : GdL W D n ds) (hn : n ≤ 1000 := by omega) : Gd (W + 3) (D + 1) (.tuple ds) := by
  have := h.wt; have := h.dp; have := h.ln
  refine ⟨?_, ?_, ?_⟩
  · simp only [smD, h.sm, Bool.and_true, decide_eq_true_eq]; omega
  · simp only [wtD]; omega
  · simp only [PyData.depth]; omega
end My
namespace L2
open PySem PySem.Spec PySem.Calls PyProof.Rows
abbrev TJ := St → Hp → Str → VK → Prop
def PJ (X : Cx) (es : List Expr) (t : TJ) : Prop :=
  ∀ (pins : List (Addr × Obj)) (s : Shared) (σ : St) (H : Hp) (acc : Str) (Q : VK), Inv X pins σ H s → t σ H acc Q → wpAny (model X.prog X.w) X.A (joinParts acc (evalEach es X.env)) (EP X pins σ Q) X.xe s
def tJn : TJ := fun _ H acc Q => acc.length ≤ sizeLine ∧ Q (.str acc) H
def tJc (x : Str) (r : TJ) : TJ := fun σ H acc Q => (acc ++ x).length ≤ sizeLine ∧ r σ H (acc ++ x) Q
def tJi (te : TE) (r : TJ) : TJ := fun σ H acc Q => te σ H fun v H1 => ∃ i, v = .int i ∧ i.natAbs.log2 < 1920 ∧ (acc ++ M.numS i).length ≤ sizeLine ∧ r σ H1 (acc ++ M.numS i) Q
def tJs (te : TE) (r : TJ) : TJ := fun σ H acc Q => te σ H fun v H1 => ∃ x, v = .str x ∧ x.length ≤ sizeLine ∧ (acc ++ x).length ≤ sizeLine ∧ r σ H1 (acc ++ x) Q
def tFs (t : TJ) : TE := fun σ H Q => t σ H Str.empty Q
section
variable {X : Cx} {e : Expr} {es : List Expr} {te : TE} {r : TJ} {σ : St} {H : Hp} {acc : Str} {Q : VK}
theorem pj_nil : PJ X [] tJn := fun pins s σ H acc Q I h => joinParts_nil ⟨.str acc, H, I.tok _, ⟨_, rfl⟩, h.2⟩ h.1
theorem pj_c {x : Str} {j pos} (hr : PJ X es r) : PJ X (.Constant (.str x) j pos :: es) (tJc x r) := by
  intro pins s σ H acc Q I h
  exact joinParts_cons (Calls.Constant_str ⟨h.1, hr pins _ σ H _ Q (I.tok _) h.2⟩)
theorem pj_i {pos} (he : PE X e te) (hr : PJ X es r) : PJ X (.FormattedValue e (-1) none pos :: es) (tJi te r) := by
  intro pins s σ H acc Q I h
  refine joinParts_cons (PyProof.Rows.FormattedValue_plain (thn (he pins s σ H _ I h) fun v s1 ⟨x, H1, I1, r1, i, hx, hl, hz, q⟩ => ?_))
  subst hx
  obtain ⟨t, rfl⟩ := r1
  exact formatField_int_small hl ⟨hz, hr pins _ σ H1 _ Q ((I1.tok _).tok _) q⟩
theorem pj_s {pos} (he : PE X e te) (hr : PJ X es r) : PJ X (.FormattedValue e (-1) none pos :: es) (tJs te r) := by
  intro pins s σ H acc Q I h
  refine joinParts_cons (PyProof.Rows.FormattedValue_plain (thn (he pins s σ H _ I h) fun v s1 ⟨x, H1, I1, r1, i, hx, hl, hz, q⟩ => ?_))
  subst hx
  obtain ⟨t, rfl⟩ := r1
  exact formatField_str (fun t' k => ⟨hz, hr pins _ σ H1 _ Q (I1.tok _) q⟩) hl
theorem pe_fs {v1 v2 : Expr} {rest : List Expr} {pos : Pos} (h : PJ X (v1 :: v2 :: rest) r) : PE X (.JoinedStr (v1 :: v2 :: rest) pos) (tFs r) := fun pins s σ H Q I q => JoinedStr_many (h pins s σ H Str.empty Q I q)
theorem r_fs : tFs r σ H Q = r σ H Str.empty Q := rfl
theorem r_jn : tJn σ H acc Q = (acc.length ≤ sizeLine ∧ Q (.str acc) H) := rfl
theorem r_jc {x : Str} : tJc x r σ H acc Q = ((acc ++ x).length ≤ sizeLine ∧ r σ H (acc ++ x) Q) := rfl
theorem r_ji : tJi te r σ H acc Q = te σ H fun v H1 => ∃ i, v = .int i ∧ i.natAbs.log2 < 1920 ∧ (acc ++ M.numS i).length ≤ sizeLine ∧ r σ H1 (acc ++ M.numS i) Q := rfl
theorem r_js : tJs te r σ H acc Q = te σ H fun v H1 => ∃ x, v = .str x ∧ x.length ≤ sizeLine ∧ (acc ++ x).length ≤ sizeLine ∧ r σ H1 (acc ++ x) Q := rfl
end
end L2
namespace L2
open PySem PySem.Spec PyProof.Rows
section
variable {κ : Type} [DecidableEq κ]
def valV (kvs : List (κ × V)) (k : κ) : Option V := (kvs.find? fun kv => decide (kv.1 = k)).map (·.2)
def putK (kvs : List (κ × V)) (k : κ) (v : V) : List (κ × V) :=
  if (kvs.any fun kv => decide (kv.1 = k)) = true then kvs.map (fun kv => if kv.1 = k then (kv.1, v) else kv) else kvs ++ [(k, v)]
theorem valV_pos {p : κ × V} {r : List (κ × V)} {k : κ} (e : p.1 = k) : valV (p :: r) k = some p.2 := by simp [valV, List.find?_cons, e]
theorem valV_neg {p : κ × V} {r : List (κ × V)} {k : κ} (e : ¬ p.1 = k) : valV (p :: r) k = valV r k := by simp [valV, List.find?_cons, e]
theorem valV_any (k : κ) : ∀ kvs : List (κ × V), (kvs.any fun kv => decide (kv.1 = k)) = (valV kvs k).isSome
  | [] => rfl
  | p :: r => by
    rw [List.any_cons]
    by_cases e : p.1 = k
    · simp only [valV_pos e, decide_eq_true e, Bool.true_or, Option.isSome_some]
    · rw [valV_neg e, decide_eq_false e, Bool.false_or]; exact valV_any k r
theorem length_putK (kvs : List (κ × V)) (k : κ) (v : V) : (putK kvs k v).length ≤ kvs.length + 1 := by
  unfold putK
  split
  · rw [List.length_map]; omega
  · rw [List.length_append, List.length_cons, List.length_nil]; omega
theorem putK_new {kvs : List (κ × V)} {k : κ} (v : V) (h : valV kvs k = none) : putK kvs k v = kvs ++ [(k, v)] := by
  unfold putK
  rw [valV_any, h]
  exact if_neg (by decide)
theorem RelO.isSome_eq {o : Option V} {u : Option Value} (r : RelO o u) : o.isSome = u.isSome := by
  cases o with
  | none => cases u with
    | none => rfl
    | some _ => exact (show False from r).elim
  | some _ => cases u with
    | none => exact (show False from r).elim
    | some _ => rfl
theorem KV.val {kvs : List (κ × V)} {vs : List (κ × Value)} (r : KV kvs vs) (k : κ) : RelO (valV kvs k) (valueAt vs k) := by
  unfold KV at r
  induction r with
  | nil => exact True.intro
  | @cons p q ps qs h t ih =>
    obtain ⟨h1, h2⟩ := h
    by_cases e : p.1 = k
    · have e' : q.1 = k := h1.symm.trans e
      have b : valueAt (q :: qs) k = some q.2 := by simp [valueAt, List.find?_cons, e']
      rw [valV_pos e, b]; exact h2
    · have e' : ¬ q.1 = k := fun z => e (h1.trans z)
      have b : valueAt (q :: qs) k = valueAt qs k := by simp [valueAt, List.find?_cons, e']
      rw [valV_neg e, b]; exact ih
theorem KV.any {kvs : List (κ × V)} {vs : List (κ × Value)} (r : KV kvs vs) (k : κ) : (kvs.any fun kv => decide (kv.1 = k)) = vs.any fun kv => decide (kv.1 = k) := by
  unfold KV at r
  induction r with
  | nil => rfl
  | cons h t ih => rw [List.any_cons, List.any_cons, ih, h.1]
theorem KV.repl {kvs : List (κ × V)} {vs : List (κ × Value)} (r : KV kvs vs) (k : κ) {y : V} {u : Value} (ry : RelV y u) :
    KV (kvs.map fun kv => if kv.1 = k then (kv.1, y) else kv) (vs.map fun kv => if kv.1 = k then (kv.1, u) else kv) := by
  unfold KV at r ⊢
  induction r with
  | nil => exact .nil
  | @cons p q ps qs h t ih =>
    rw [List.map_cons, List.map_cons]
    refine .cons ?_ ih
    obtain ⟨h1, h2⟩ := h
    by_cases e : p.1 = k
    · rw [if_pos e, if_pos (h1.symm.trans e)]; exact ⟨h1, ry⟩
    · rw [if_neg e, if_neg (fun z => e (h1.trans z))]; exact ⟨h1, h2⟩
theorem KV.put {kvs : List (κ × V)} {vs : List (κ × Value)} (r : KV kvs vs) (k : κ) {y : V} {u : Value} (ry : RelV y u) : KV (putK kvs k y) (stored vs k u) := by
  unfold putK stored
  rw [r.any k]
  by_cases e : (vs.any fun kv => decide (kv.1 = k)) = true
  · rw [if_pos e, if_pos e]; exact r.repl k ry
  · rw [if_neg e, if_neg e]; exact Paired.snoc r ⟨rfl, ry⟩
theorem KV.length {kvs : List (κ × V)} {vs : List (κ × Value)} (r : KV kvs vs) : kvs.length = vs.length := Paired.length r
end
theorem kV_is {P : Program} {w : World} {k : Key} {u : Value} (r : RelV (kV k) u) : (mixKind P w).is k u = true := by
  cases k with
  | inl i => obtain ⟨t, e⟩ := (show ∃ t, u = Value.int i t from r); subst e; exact mixKind_int P w i t
  | inr x => obtain ⟨t, e⟩ := (show ∃ t, u = Value.str x t from r); subst e; exact mixKind_str P w x t
theorem items_are {P : Program} {w : World} : ∀ {ks : List Key} {us : List Value}, Vals (ks.map kV) us → ItemsAre (mixKind P w) ks us
  | [], _, r => by rw [List.map_nil] at r; cases r; exact .nil
  | k :: ks, _, r => by
    rw [List.map_cons] at r
    cases r with
    | cons h t => exact .cons (kV_is h) (items_are t)
abbrev KT (H : Hp) : List (List Key × V) → List (List Key × Addr × Value) → Prop := Paired fun p q => p.1 = q.1 ∧ H q.2.1 = some (.tup (p.1.map kV)) ∧ RelV p.2 q.2.2
theorem KT.val {H : Hp} {kvs : List (List Key × V)} {xs : List (List Key × Addr × Value)} (r : KT H kvs xs) (k : List Key) : RelO (valV kvs k) ((atKey xs k).map (·.2)) := by
  induction r with
  | nil => exact True.intro
  | @cons p q ps qs h t ih =>
    obtain ⟨h1, _, h2⟩ := h
    by_cases e : p.1 = k
    · have e' : q.1 = k := h1.symm.trans e
      have b : atKey (q :: qs) k = some q.2 := by simp [atKey, List.find?_cons, e']
      rw [valV_pos e, b]; exact h2
    · have e' : ¬ q.1 = k := fun z => e (h1.trans z)
      have b : atKey (q :: qs) k = atKey qs k := by simp [atKey, List.find?_cons, e']
      rw [valV_neg e, b]; exact ih
theorem KT.repl {H : Hp} {kvs : List (List Key × V)} {xs : List (List Key × Addr × Value)} (r : KT H kvs xs) (k : List Key) {y : V} {u : Value} (ry : RelV y u) :
    KT H (kvs.map fun kv => if kv.1 = k then (kv.1, y) else kv) (xs.map (putAt k u)) := by
  induction r with
  | nil => exact .nil
  | @cons p q ps qs h t ih =>
    rw [List.map_cons, List.map_cons]
    refine .cons ?_ ih
    obtain ⟨h1, h2, h3⟩ := h
    unfold putAt
    by_cases e : p.1 = k
    · rw [if_pos e, if_pos (h1.symm.trans e)]; exact ⟨h1, h2, ry⟩
    · rw [if_neg e, if_neg (fun z => e (h1.trans z))]; exact ⟨h1, h2, h3⟩
theorem KT.put {H : Hp} {kvs : List (List Key × V)} {xs : List (List Key × Addr × Value)} (r : KT H kvs xs) (k : List Key) {b : Addr} {y : V} {u : Value} (hb : H b = some (.tup (k.map kV))) (ry : RelV y u) :
    KT H (putK kvs k y) (storedH xs k b u) := by
  have e : (kvs.any fun kv => decide (kv.1 = k)) = (atKey xs k).isSome := by
    rw [valV_any, (r.val k).isSome_eq, Option.isSome_map]
  unfold putK storedH
  rw [e]
  by_cases q : (atKey xs k).isSome = true
  · rw [if_pos q, if_pos q]; exact r.repl k ry
  · rw [if_neg q, if_neg q]; exact Paired.snoc r ⟨rfl, hb, ry⟩
theorem KT.keeps {H H' : Hp} {kvs : List (List Key × V)} {xs : List (List Key × Addr × Value)} (r : KT H kvs xs) (ht : ∀ b ys, H b = some (.tup ys) → H' b = some (.tup ys)) : KT H' kvs xs :=
  Paired.mapP r fun _ _ z => ⟨z.1, ht _ _ z.2.1, z.2.2⟩
section
variable {P : Program} {w : World} {H : Hp} {h : Heap} {a : Addr}
theorem rd_of {u : HO} (ok : HOk P w H h) (e : Rd H a u) : ObjOk P w H h a u := e.ok ok
theorem dk_rd {kvs : List (Key × V)} (ok : HOk P w H h) (e : Rd H a (.dK kvs)) : kvs.length ≤ sizeLine ∧ (a == sysModules) = false ∧ ∃ vs, KV kvs vs ∧ h.DictOf (mixKind P w) a vs :=
  show ObjOk P w H h a (.dK kvs) from rd_of ok e
theorem dk_of {kvs : List (Key × V)} (ok : HOk P w H h) (e : H a = some (.dK kvs)) : kvs.length ≤ sizeLine ∧ (a == sysModules) = false ∧ ∃ vs, KV kvs vs ∧ h.DictOf (mixKind P w) a vs := dk_rd ok (.inl e)
theorem key_of {ks : List Key} (ok : HOk P w H h) (e : H a = some (.tup (ks.map kV))) : (tupleKind (mixKind P w)).is h ks a := by
  obtain ⟨_, its, r, o, h1, h2, n, h3⟩ := (show ObjOk P w H h a (.tup (ks.map kV)) from ok a _ e)
  exact ⟨o, its.toArray, n, h1, h2, h3, by simpa using items_are r⟩
theorem dt_rd {kvs : List (List Key × V)} (ok : HOk P w H h) (e : Rd H a (.dT kvs)) : kvs.length ≤ sizeLine ∧ (a == sysModules) = false ∧
    ∃ xs, KT H kvs xs ∧ h.DictOfH (tupleKind (mixKind P w)) a xs := by
  obtain ⟨z, y, xs, r, o, es, ep, h1, h2, h3, h4, h5⟩ := (show ObjOk P w H h a (.dT kvs) from rd_of ok e)
  refine ⟨z, y, xs, r, o, es, ep, h1, h2, h3, h4, fun x hx => ?_, h5⟩
  have all : ∀ {l : List (List Key × V)} {m : List (List Key × Addr × Value)}, KT H l m → ∀ x ∈ m, (tupleKind (mixKind P w)).is h x.1 x.2.1 := by
    intro l m q
    induction q with
    | nil => intro x hx; exact nomatch hx
    | @cons p q ps qs hq t ih =>
      intro x hx
      rcases List.mem_cons.mp hx with e | hx
      · subst e
        exact key_of ok (by rw [← hq.1]; exact hq.2.1)
      · exact ih x hx
  exact all r x hx
theorem dt_of {kvs : List (List Key × V)} (ok : HOk P w H h) (e : H a = some (.dT kvs)) : kvs.length ≤ sizeLine ∧ (a == sysModules) = false ∧
    ∃ xs, KT H kvs xs ∧ h.DictOfH (tupleKind (mixKind P w)) a xs := dt_rd ok (.inl e)
end
def DGet (H : Hp) (a : Addr) (y : V) (r : Option V) : Prop :=
  (∃ kvs k, Rd H a (.dK kvs) ∧ y = kV k ∧ r = valV kvs k) ∨ ∃ kvs k b, Rd H a (.dT kvs) ∧ y = .ref b ∧ H b = some (.tup (k.map kV)) ∧ r = valV kvs k
def DPut (H : Hp) (a : Addr) (y v : V) (H' : Hp) : Prop :=
  (∃ kvs k, H a = some (.dK kvs) ∧ y = kV k ∧ kvs.length < sizeLine ∧ H' = upd H a (.dK (putK kvs k v))) ∨
  ∃ kvs k b, H a = some (.dT kvs) ∧ y = .ref b ∧ H b = some (.tup (k.map kV)) ∧ kvs.length < sizeLine ∧ H' = upd H a (.dT (putK kvs k v))
theorem DGet.k {H : Hp} {a : Addr} {kvs : List (Key × V)} {k : Key} (e : H a = some (.dK kvs)) : DGet H a (kV k) (valV kvs k) := .inl ⟨kvs, k, .inl e, rfl, rfl⟩
theorem DGet.t {H : Hp} {a b : Addr} {kvs : List (List Key × V)} {k : List Key} (e : H a = some (.dT kvs)) (eb : H b = some (.tup (k.map kV))) : DGet H a (.ref b) (valV kvs k) := .inr ⟨kvs, k, b, .inl e, rfl, eb, rfl⟩
theorem DPut.k {H : Hp} {a : Addr} {kvs : List (Key × V)} {k : Key} {v : V} (e : H a = some (.dK kvs)) (hl : kvs.length < sizeLine) : DPut H a (kV k) v (upd H a (.dK (putK kvs k v))) := .inl ⟨kvs, k, e, rfl, hl, rfl⟩
theorem DPut.t {H : Hp} {a b : Addr} {kvs : List (List Key × V)} {k : List Key} {v : V} (e : H a = some (.dT kvs)) (eb : H b = some (.tup (k.map kV))) (hl : kvs.length < sizeLine) :
    DPut H a (.ref b) v (upd H a (.dT (putK kvs k v))) := .inr ⟨kvs, k, b, e, rfl, eb, hl, rfl⟩
section
variable {X : Cx} {pins : List (Addr × Obj)} {σ : St} {H : Hp} {s : Shared} {a : Addr} {y v : V} {u r : Value} {o : Option V} {A : Around} {E : Value → Shared → Prop}
theorem Inv.big (I : Inv X pins σ H s) : sysModules < s.heap.objs.size := by
  have h : mainGlobals < s.heap.objs.size := (I.mod.glob.keeps I.bk).lt
  exact Nat.lt_trans (by decide) h
theorem d_in {Q : Value → Shared → Prop} (hu : A.units + 1 < cLine) (I : Inv X pins σ H s) (g : DGet H a y o) (ry : RelV y u) (h : ∀ s', Inv X pins σ H s' → Q (.bool o.isSome) s') :
    wpAny (model X.prog X.w) A (compareOp .In u (.ref a)) Q E s := by
  rcases g with ⟨kvs, k, e, ey, l⟩ | ⟨kvs, k, b, e, ey, eb, l⟩
  · subst ey
    obtain ⟨z, hd, vs, rel, dd⟩ := dk_rd I.hok e
    refine wpAny_in_of (kV_is ry) hd dd.mapOf ?_
    rw [← (rel.val k).isSome_eq, ← l]
    exact h _ (I.tok _)
  · subst ey
    cases (show u = Value.ref b from ry)
    obtain ⟨z, hd, xs, rel, dd⟩ := dt_rd I.hok e
    refine wpAny_in_heap (tupleKind_room_in1 hu) (key_of I.hok eb) hd dd ?_
    have q := (rel.val k).isSome_eq
    rw [Option.isSome_map] at q
    rw [← q, ← l]
    exact h _ (I.tok _)
theorem d_write {h' : Heap} {t' : Nat} {ob : HO} (I : Inv X pins σ H s) (mu : Mut (H a)) (hs : Heap.SameBut a s.heap h') (he : ∃ q, h'.get? a = some q) (new : ObjOk X.prog X.w (upd H a ob) h' a ob) :
    Inv X pins σ (upd H a ob) { s with heap := h', toks := t' } :=
  I.write (x := a) (e := a) mu (.inl rfl) (fun b q hb z => (hs.2 b hb).trans z) he new
theorem dk_new {P : Program} {w : World} {H' : Hp} {h' : Heap} {kvs : List (Key × V)} {vs : List (Key × Value)} (z : kvs.length ≤ sizeLine) (hd : (a == sysModules) = false) (rel : KV kvs vs) (dd : h'.DictOf (mixKind P w) a vs) :
    ObjOk P w H' h' a (.dK kvs) := ⟨z, hd, vs, rel, dd⟩
theorem d_setItem {H' : Hp} {Q : Unit → Shared → Prop} (hu : A.units + 1 < cLine) (I : Inv X pins σ H s) (g : DPut H a y v H') (ry : RelV y u) (rv : RelV v r) (h : ∀ s', Inv X pins σ H' s' → Q () s') :
    wpAny (model X.prog X.w) A (setItem (.ref a) u r) Q E s := by
  rcases g with ⟨kvs, k, e, ey, l, eH⟩ | ⟨kvs, k, b, e, ey, eb, l, eH⟩
  · subst ey eH
    obtain ⟨z, hd, vs, rel, dd⟩ := dk_of I.hok e
    have hz : vs.length ≤ sizeLine := by rw [← rel.length]; exact z
    have hl : (putK kvs k v).length ≤ sizeLine := by have := length_putK kvs k v; omega
    refine wpAny_setItem_pairs (hsz := hz) (kV_is ry) dd fun h' dd' hs => h _ ?_
    have he : ∃ q, h'.get? a = some q := let ⟨q, _, _, hq, _⟩ := dd'; ⟨q, hq⟩
    exact d_write I (by rw [e]; exact True.intro) hs he (dk_new hl hd (rel.put k rv) dd')
  · subst ey eH
    cases (show u = Value.ref b from ry)
    obtain ⟨z, hd, xs, rel, dd⟩ := dt_of I.hok e
    have hz : xs.length ≤ sizeLine := by rw [← Paired.length rel]; exact z
    have hl : (putK kvs k v).length ≤ sizeLine := by have := length_putK kvs k v; omega
    refine wpAny_setItem_heap (hsz := hz) (tupleKind_room_in1 hu) (key_of I.hok eb) dd fun h' dd' hs => h _ ?_
    obtain ⟨q, es, ep, hq, h2, h3, h4, _, h5⟩ := dd'
    refine d_write I (by rw [e]; exact True.intro) hs ⟨q, hq⟩ ⟨hl, hd, _, (rel.put k eb rv).keeps fun c ys ec => ?_, q, es, ep, hq, h2, h3, h4, h5⟩
    rw [upd_ne (ne_of ec e (fun z => nomatch z))]
    exact ec
end
section
variable {X : Cx} {pins : List (Addr × Obj)} {σ : St} {H : Hp} {s : Shared} {a : Addr} {kvs : List (Key × V)} {k : Key} {u : Value} {A : Around} {E : Value → Shared → Prop}
end
def tDIn (ty td : TE) : TE := fun σ H Q => ty σ H fun y H1 => td σ H1 fun x H2 => ∃ a o, x = .ref a ∧ DGet H2 a y o ∧ Q (.bl o.isSome) H2
def sDPut (td ty tv : TE) : TS := fun D σ H => tv σ H fun v H1 => td σ H1 fun x H2 => ty σ H2 fun y H3 => ∃ a H4, x = .ref a ∧ DPut H3 a y v H4 ∧ D.nx σ H4
section
variable {X : Cx} {o i e value : Expr} {pos pos' tpos : Pos} {td ty tv : TE}
theorem pc_din (hu : X.A.units + 1 < cLine) (hi : PE X i ty) (ho : PE X o td) : PC X .In i o (tDIn ty td) := by
  intro pins s σ H Q I h
  refine thn (hi pins s σ H _ I h) fun iv s1 ⟨y, H1, I1, ry, q1⟩ => thn (ho pins s1 σ H1 _ I1 q1) fun u s2 ⟨x, H2, I2, rx, a, ov, ex, g, q2⟩ => ?_
  subst ex
  obtain rfl : u = Value.ref a := rx
  exact d_in hu I2 g ry fun s3 I3 => ⟨.bl ov.isSome, H2, I3, rfl, q2⟩
theorem ps_dput (hu : X.A.units + 1 < cLine) (ho : PE X o td) (hi : PE X i ty) (hv : PE X value tv) (hs : swapsWith value (some (.Subscript o i pos')) pos.line X.env = pure false) :
    PS X (.Assign [.Subscript o i pos'] value pos) (sDPut td ty tv) := by
  intro pins s σ H D I h
  refine wpAny_Assign_Subscript (thn (hv pins s σ H _ I h) fun r s1 ⟨v, H1, I1, rv, q1⟩ => thn (ho pins s1 σ H1 _ I1 q1) fun u s2 ⟨x, H2, I2, rx, q2⟩ => thn (hi pins s2 σ H2 _ I2 q2) fun iv s3 ⟨y, H3, I3, ry, a, H4, ex, g, q3⟩ => ?_) hs
  subst ex
  obtain rfl : u = Value.ref a := rx
  exact d_setItem hu I3 g ry rv fun s4 I4 => ⟨σ, H4, I4, q3⟩
end
theorem dk_empty {P : Program} {w : World} {H : Hp} (h : Heap) (hb : sysModules < h.objs.size) : ObjOk P w H (h.push { cls := .type "dict", data := .dict #[] }) h.objs.size (.dK []) :=
  ⟨Nat.zero_le _, beq_eq_false_iff_ne.mpr (Ne.symm (Nat.ne_of_lt hb)), [], .nil, Heap.DictOf.new h⟩
def tDNewK : TE := fun _ H Q => ∀ p, H p = none → Q (.ref p) (upd H p (.dK []))
section
variable {X : Cx} {pos : Pos}
theorem pe_dnewK : PE X (.Dict [] [] pos) tDNewK := fun pins s σ H Q I h =>
  wpAny_Dict_empty ⟨.ref s.heap.objs.size, _, I.laid (a := s.heap.objs.size) (o := .dK []) (t' := s.toks) (fun _ _ q => Heap.get?_push_of_some _ q) (Nat.le_refl _) (dk_empty s.heap I.big), rfl, h _ (I.hok.fresh (Nat.le_refl _))⟩
end
section
variable {X : Cx} {pins : List (Addr × Obj)} {σ : St} {H : Hp} {s : Shared} {a : Addr} {y d : V} {u r : Value} {o : Option V} {A : Around} {E : Value → Shared → Prop}
end
section
variable {X : Cx} {o e f : Expr} {apos cpos : Pos} {td ty tx : TE}
end
section
variable {X : Cx} {pins : List (Addr × Obj)} {σ : St} {H : Hp} {s : Shared} {a : Addr} {kvs : List (Key × V)} {A : Around} {E : Value → Shared → Prop}
end
section
variable {X : Cx} {pins : List (Addr × Obj)} {σ : St} {H : Hp} {s : Shared} {a : Addr} {y : V} {u : Value} {A : Around} {E : Value → Shared → Prop}
end
end L2
namespace L2
open PySem PySem.Spec PyProof.Rows
section
variable {X : Cx}
end
section
variable {κ : Type} [DecidableEq κ]
end
end L2
namespace PySem.EtK
open PySem
open PySem.AutoSeq1 (wpAny_loadPart')
set_option maxRecDepth 100000
section
variable {prog : Program} {w : World} {A : Around} {E : Value → Shared → Prop} {s : Shared}
theorem callType_meets_kw {T newId initId : String} {Bn Bi : Builtin} {args : List Value} {kw : List (Str × Value)} {S : Spec} {Q Q₁ : Value → Shared → Prop} (ft : TypeCalled T newId initId)
    (hct : checkTypeCall T ⟨args, kw⟩ = pure ()) (hcn : checkBuiltinCall newId ⟨.type T :: args, kw⟩ = pure ())
    (entryN : entryFor table newId = some Bn) (entryI : entryFor table initId = some Bi) (g : Meets (Bn ⟨.type T :: args, kw⟩) S)
    (h : S A.in1 (wants Q₁ E) s)
    (hnext : ∀ obj s₁, Q₁ obj s₁ → s₁.TypeIs obj T ∧ argsOk initId ⟨obj :: args, kw⟩ ∧ ∃ Si, Meets (Bi ⟨obj :: args, kw⟩) Si ∧ Si A.in1 (wants (fun r s₂ => r = .none ∧ Q obj s₂) E) s₁) :
    wpAny (model prog w) A (call (.type T) args kw) Q E s := by
  obtain ⟨c, tl, hmro⟩ := ft.mro
  have hmade := ft.made
  have hsub := ft.sub
  refine wpAny_call (codeAny_of_tree (show wpAny _ _ (callAny (.type T) _) _ _ _ from
    wpAny_pure ⟨Code.quiet_builtin _ (by decide +kernel), codeAny_builtin F.entry_type_call ?_⟩))
  rw [Around.under_plain (weight_type_call_type T args kw) (units_type_call_type T args kw)]
  have h1 := ft.notType
  have h2 := ft.canCreate
  repeat (any_goals (first | assumption | wp_step))
  refine codeAny_mono (codeAny_call_builtin ft.plain entryN (wpAny_of_eq hcn (g prog w A.in1 _ s h))) fun z sa hr => ?_
  cases z with
  | error e => exact hr
  | ok fl =>
    cases fl with
    | ret obj =>
      obtain ⟨tyO, okO, Si, gi, hsi⟩ := hnext _ _ hr
      have hli := ft.init.lookup
      have hbi := ft.init.bind obj
      repeat (any_goals (first | assumption | wp_step))
      refine codeAny_mono (codeAny_call_builtin ft.init.plain entryI (ft.init.check _ _ _ _ _ _ _ _ tyO okO (gi prog w A.in1 _ sa hsi))) fun y sb hy => ?_
      cases y with
      | error e => exact hy
      | ok fy =>
        cases fy with
        | ret r =>
          obtain ⟨rfl, hq⟩ := hy
          repeat (any_goals (first | assumption | wp_step))
        | _ => exact hy.elim
    | _ => exact hr.elim
end
theorem meets_enumerate_newT (l : Addr) (items : Array Value) (n : Nat) (dct : Option Addr) (sl : Array (Option Value)) (t : Tok) :
    Meets (Builtin.«enumerate.__new__» ⟨[.type "enumerate", .ref l], [("start", .int 1 t)]⟩) (fun _ R s => s.heap.get? l = some { cls := .type "tuple", dict := dct, data := .seq items n, slots := sl } ∧
      R (.ok (.ret (.ref (s.heap.push { cls := .type "tuple_iterator", data := .fields #[.ref l, .int 0 0] }).objs.size)))
        { s with heap := (s.heap.push { cls := .type "tuple_iterator", data := .fields #[.ref l, .int 0 0] }).push { cls := .type "enumerate", data := .fields #[.none, .bool false, .ref s.heap.objs.size, rawInt 1, .none, .none] } }) :=
  .of_wp fun prog w A R s h => by
    obtain ⟨hp, gs, dr, tk, os⟩ := s
    obtain ⟨hl, h⟩ := h
    have hsub := sub_enumerate
    have hL : Heap.IsTuple (Shared.heap ⟨hp, gs, dr, tk, os⟩) l items := ⟨_, hl, rfl, n, rfl⟩
    (wp_walk using wpAny_loadPart' hl)
    refine wpAny_stack_any fun sk => wpAny_pure ?_
    split
    · rename_i c _ _ _ _ _
      cases (c == Value.type "enumerate")
      · wp_walk using wpAny_loadPart' hl, wpAny_pyIter_tuple hL
        exact ⟨_, rfl, h⟩
      · wp_walk using wpAny_loadPart' hl, wpAny_pyIter_tuple hL
        exact ⟨_, rfl, h⟩
    · wp_walk using wpAny_loadPart' hl, wpAny_pyIter_tuple hL
      exact ⟨_, rfl, h⟩
end PySem.EtK
namespace PySem.EtK
open PySem L2 PyProof.Rows
section
variable {prog : Program} {w : World} {A : Around} {E : Value → Shared → Prop} {s : Shared}
theorem typeCall_enumK (a b : Value) : checkTypeCall "enumerate" ⟨[a], [("start", b)]⟩ = pure () := by kernel_rfl
theorem newCall_enumK (a b : Value) : checkBuiltinCall "enumerate.__new__" ⟨[.type "enumerate", a], [("start", b)]⟩ = pure () := by kernel_rfl
open PySem.F in
theorem args_initK (o a b : Value) : argsOk "object.__init__" ⟨[o, a], [("start", b)]⟩ := by
  unfold argsOk
  have e := signature?_of (id := "object.__init__") (n := ['_', '_', 't', 'i', 'n', 'i', '_', '_']) (o := ['t', 'c', 'e', 'j', 'b', 'o']) (by kernel_rfl) owner_object
  rw [e]
  kernel_rfl
theorem init_meetsK {T newId : String} {self a b : Value} (hl : typeLookup (.type T) "__init__" = pure (some (.builtin "object.__init__"))) (hm : Bind.madeBy (.type T) = pure (some newId)) (hne : (some newId != some "object.__new__") = true) :
    Meets (Builtin.«object.__init__» ⟨[self, a], [("start", b)]⟩) (fun _ R s => s.TypeIs self T ∧ R (.ok (.ret .none)) s) := by
  refine Meets.of_wp fun prog w A R s hs => ?_
  obtain ⟨hT, hq⟩ := hs
  repeat (any_goals (first | assumption | wp_step))
  exact ⟨_, rfl, hq⟩
theorem call_enumT {l : Addr} {items : Array Value} {t : Tok} {Q : Value → Shared → Prop} (hL : s.heap.IsTuple l items)
    (h : ∀ h', IsEnum h' (s.heap.objs.size + 1) s.heap.objs.size 1 .none → h'.IsTupleIter s.heap.objs.size l 0 → h'.IsTuple l items → (∀ b o, s.heap.get? b = some o → h'.get? b = some o) → Q (.ref (s.heap.objs.size + 1)) { s with heap := h' }) :
    wpAny (model prog w) A (call (.type "enumerate") [.ref l] [("start", .int 1 t)]) Q E s := by
  have hL' := hL
  obtain ⟨⟨c, dct, dt, sl⟩, hl, hc, n, hd⟩ := hL
  replace hc : c = .type "tuple" := hc
  replace hd : dt = .seq items n := hd
  subst hc hd
  refine callType_meets_kw (Q₁ := fun obj s₁ => s₁.TypeIs obj "enumerate" ∧ Q obj s₁) F.called_enumerate (typeCall_enumK _ _) (newCall_enumK _ _) F.entry_enumerate_new PySem.F.entry_object_init (meets_enumerate_newT l items n dct sl t) ⟨hl, ?_⟩ fun obj s₁ hq => ⟨hq.1, args_initK _ _ _, _, init_meetsK F.called_enumerate.init.lookup F.called_enumerate.made (by decide), hq.1, rfl, hq.2⟩
  generalize hha : s.heap.push { cls := .type "tuple_iterator", data := .fields #[.ref l, .int 0 0] } = ha
  have hz : ha.objs.size = s.heap.objs.size + 1 := by rw [← hha]; exact Heap.size_push ..
  generalize hhb : ha.push { cls := .type "enumerate", data := .fields #[.none, .bool false, .ref s.heap.objs.size, rawInt 1, .none, .none] } = hb
  have he : IsEnum hb (s.heap.objs.size + 1) s.heap.objs.size 1 .none := by rw [← hhb, ← hz]; exact Heap.get?_push_size _ rfl
  have hk : ∀ b o, s.heap.get? b = some o → hb.get? b = some o := fun b o x => by rw [← hhb, ← hha]; exact Heap.get?_push_of_some _ (Heap.get?_push_of_some _ x)
  show _ ∧ _
  rw [hz]
  refine ⟨⟨_, he, rfl⟩, h _ he ?_ ⟨_, hk _ _ hl, rfl, n, rfl⟩ hk⟩
  rw [← hhb, ← hha]
  exact ⟨_, Heap.get?_push_of_some _ (Heap.get?_push_size _ rfl), rfl, rfl⟩
theorem enumG_item {e it : Addr} {fp : List Addr} {get : Nat → Option Value} {st : Nat → Heap → Prop} {k : Nat} {n : Int} {x old : Value} {Q : Value → Shared → Prop} (N : NxOk prog w it fp get st) (hne : e ∉ it :: fp)
    (he : IsEnum s.heap e it n old) (h0 : st k s.heap) (hx : get k = some x) (hlt : ∀ b ∈ it :: fp, b < s.heap.objs.size)
    (hQ : ∀ h', IsEnumOut h' e it (n + 1) x s.heap.objs.size → st (k + 1) h' → h'.get? s.heap.objs.size = some { cls := .type "tuple", data := .seq #[.int n s.toks, x] } →
      (∀ b o, b ≠ e → b ≠ it → s.heap.get? b = some o → h'.get? b = some o) → Q (.ref s.heap.objs.size) { s with heap := h', toks := s.toks + 1 }) :
    wpAny (model prog w) A (Builtin.«enumerate.__next__» ⟨[.ref e], []⟩) (fun fin s' => ∃ v, fin = .done (.ret v) ∧ Q v s') E s := by
  have nit : e ≠ it := fun z => hne (by rw [z]; simp)
  obtain ⟨hp, gs, dr, tk, os⟩ := s
  show wpAny _ _ (field (.ref e) 2 >>= _) _ _ _
  refine wpAny_bind (wpAny_field he rfl (x := .ref it) rfl ?_)
  refine wpAny_bind (N.item _ _ _ _ _ _ h0 hx fun ha s1 ka => ?_)
  replace ka : Heap.SameBut it hp ha := ka
  have ea : IsEnum ha e it n old := (ka.2 e nit).trans he
  show wpAny _ _ (field (.ref e) 3 >>= _) _ _ (Shared.mk ha gs dr tk os)
  refine wpAny_bind (wpAny_field ea rfl (x := rawInt n) rfl ?_)
  show wpAny _ _ (field (.ref e) 4 >>= _) _ _ (Shared.mk ha gs dr tk os)
  refine wpAny_bind (wpAny_field ea rfl (x := .none) rfl ?_)
  show wpAny _ _ (mkInt n >>= _) _ _ (Shared.mk ha gs dr tk os)
  refine wpAny_bind (wpAny_mkInt ?_)
  show wpAny _ _ (setField (.ref e) 3 (rawInt (n + 1)) >>= _) _ _ (Shared.mk ha gs dr (tk + 1) os)
  refine wpAny_bind (wpAny_setField_rec ea (by simp) fun hb eb kb => ?_)
  replace kb : Heap.SameBut e ha hb := kb
  replace eb : IsEnum hb e it (n + 1) old := eb
  show wpAny _ _ (setField (.ref e) 4 .none >>= _) _ _ (Shared.mk hb gs dr (tk + 1) os)
  refine wpAny_bind (wpAny_setField_rec eb (by simp) fun hc ec kc => ?_)
  replace kc : Heap.SameBut e hb hc := kc
  replace ec : IsEnum hc e it (n + 1) old := ec
  show wpAny _ _ (newTuple [.int n tk, x] >>= _) _ _ (Shared.mk hc gs dr (tk + 1) os)
  refine wpAny_bind (wpAny_newTuple ?_)
  have ed : IsEnum (hc.push { cls := .type "tuple", data := .seq #[.int n tk, x] }) e it (n + 1) old := Heap.get?_push_of_some _ ec
  generalize hhd : hc.push { cls := .type "tuple", data := .seq #[.int n tk, x] } = hd at ed
  have hsz : hc.objs.size = hp.objs.size := by rw [kc.1, kb.1, ka.1]
  have hel : e < hp.objs.size := Heap.lt_size he
  have td : hd.get? hp.objs.size = some { cls := .type "tuple", data := .seq #[.int n tk, x] } := by rw [← hhd, ← hsz]; exact Heap.get?_push_size _ rfl
  have kd : ∀ b o, b ≠ e → b ≠ it → hp.get? b = some o → hd.get? b = some o := fun b o n1 n2 q => by
    rw [← hhd]; exact Heap.get?_push_of_some _ (kc.extBut b o n1 (kb.extBut b o n1 (ka.extBut b o n2 q)))
  have sd : st (k + 1) hd := by
    refine N.keep _ hc hd (keep_but N (keep_but N s1 kb.extBut hne) kc.extBut hne) fun b hb o q => ?_
    rw [← hhd]; exact Heap.get?_push_of_some _ q
  show wpAny _ _ (Builtin.SmallTypes.ownedTupleIsFree (.ref e) >>= _) _ _ (Shared.mk hd gs dr (tk + 1) os)
  rw [hsz]
  clear hhd ec kc eb kb ea ka s1 hsz
  refine wpAny_bind ?_
  unfold Builtin.SmallTypes.ownedTupleIsFree
  refine wpAny_bind (wpAny_field ed rfl (x := .none) rfl (wpAny_pure ?_))
  simp only [if_true]
  refine wpAny_bind (wpAny_rule ?_)
  refine wpAny_bind (wpAny_field ed rfl (x := old) rfl ?_)
  refine wpAny_bind (wpAny_setField_rec ed (by simp) fun hf ef kf => ?_)
  replace kf : Heap.SameBut e hd hf := kf
  replace ef : IsEnum hf e it (n + 1) x := ef
  show wpAny _ _ (Builtin.SmallTypes.ownedTupleHandOut (.ref e) (.ref hp.objs.size) >>= _) _ _ (Shared.mk hf gs dr (tk + 1) os)
  refine wpAny_bind ?_
  unfold Builtin.SmallTypes.ownedTupleHandOut
  refine wpAny_bind (wpAny_setField_rec ef (by simp) fun hg eg kg => ?_)
  replace kg : Heap.SameBut e hf hg := kg
  replace eg : IsEnumOut hg e it (n + 1) x hp.objs.size := eg
  refine wpAny_setField_rec eg (by simp) fun hi ei ki => ?_
  replace ki : Heap.SameBut e hg hi := ki
  replace ei : IsEnumOut hi e it (n + 1) x hp.objs.size := ei
  have nel : hp.objs.size ≠ e := Nat.ne_of_gt hel
  refine wpAny_bind (wpAny_letGo (wpAny_pure ⟨_, rfl, hQ hi ei ?_ ?_ ?_⟩))
  · exact keep_but N (keep_but N (keep_but N sd kf.extBut hne) kg.extBut hne) ki.extBut hne
  · exact ki.extBut _ _ nel (kg.extBut _ _ nel (kf.extBut _ _ nel td))
  · exact fun b o n1 n2 q => ki.extBut b o n1 (kg.extBut b o n1 (kf.extBut b o n1 (kd b o n1 n2 q)))
end
end PySem.EtK
namespace L2
open PySem PySem.Spec PyProof.Rows PySem.EtK
def Iu (K : PySem.W.Frag) (a : Addr) : It where
  go i H := ∃ xs x, SqT K H a xs ∧ xs[i]? = some x
  yld i H v H' := ∃ p x, v = .ref p ∧ H p = none ∧ H' = upd H p (.tup [.int ((i : Int) + 1), x]) ∧ (∀ xs, SqT K H a xs → xs[i]? = some x)
  stop i H := ∃ xs, SqT K H a xs ∧ xs.length ≤ i
section
variable {prog : Program} {w : World} {A : Around} {E : Value → Shared → Prop} {s : Shared}
theorem next_enumG {e it : Addr} {fp : List Addr} {get : Nat → Option Value} {st : Nat → Heap → Prop} {k : Nat} {n : Int} {x old : Value} {Q : Option Value → Shared → Prop} (N : NxOk prog w it fp get st) (hne : e ∉ it :: fp)
    (he : IsEnum s.heap e it n old) (h0 : st k s.heap) (hx : get k = some x) (hlt : ∀ b ∈ it :: fp, b < s.heap.objs.size)
    (hQ : ∀ h', IsEnumOut h' e it (n + 1) x s.heap.objs.size → st (k + 1) h' → h'.get? s.heap.objs.size = some { cls := .type "tuple", data := .seq #[.int n s.toks, x] } →
      (∀ b o, b ≠ e → b ≠ it → s.heap.get? b = some o → h'.get? b = some o) → Q (some (.ref s.heap.objs.size)) { s with heap := h', toks := s.toks + 1 }) : wpAny (model prog w) A (pyNext (.ref e)) Q E s := by
  have hT : s.TypeIs (.ref e) "enumerate" := ⟨_, he, rfl⟩
  unfold pyNext
  refine wpAny_bind (wpAny_attempt (wpAny_callSpecial?_slot (name := Str.ofString "__next__") hT F.slot_enumerate_next ?_))
  exact wpAny_call_entry F.slot_enumerate_next hT F.entry_enumerate_next (enumG_item N hne he h0 hx hlt fun h' a b c d => wpAny_pure (hQ h' a b c d)) (F.args_enumerate_next_1 _)
theorem end_enumG {e it : Addr} {fp : List Addr} {get : Nat → Option Value} {st : Nat → Heap → Prop} {k : Nat} {n : Int} {old : Value} {Q : Option Value → Shared → Prop} (hh : A.handled = none) (N : NxOk prog w it fp get st)
    (he : IsEnum s.heap e it n old) (h0 : st k s.heap) (hx : get k = none) (hQ : ∀ h', Heap.ExtBut it s.heap h' → Q none { s with heap := h' }) : wpAny (model prog w) A (pyNext (.ref e)) Q E s := by
  have hT : s.TypeIs (.ref e) "enumerate" := ⟨_, he, rfl⟩
  unfold pyNext
  refine wpAny_bind (wpAny_attempt (wpAny_callSpecial?_slot (name := Str.ofString "__next__") hT F.slot_enumerate_next (wpAny_call_entry F.slot_enumerate_next hT F.entry_enumerate_next ?_ (F.args_enumerate_next_1 _))))
  show wpAny _ _ (field (.ref e) 2 >>= _) _ _ _
  refine wpAny_bind (wpAny_field he rfl (x := .ref it) rfl (wpAny_bind (N.stop _ _ _ _ _ hh h0 hx fun h' y k1 ⟨o, ho, hc⟩ => ?_)))
  exact wpAny_bind (wpAny_isInstance (T := "StopIteration") (b := true) ⟨o, ho, hc⟩ isSubtype_stop (wpAny_pure (hQ _ k1)))
end
theorem turn_enumT {P : Program} {w : World} {K : PySem.W.Frag} {es : List Expr} {kt : Nat} {pt : Pos} {a e it : Addr} (hne : e ≠ it) (hea : e ≠ a) (hia : a ≠ it) :
    Turn P w K (.Tuple es kt pt) (Iu K a) [e, it] e (fun i h => (∃ old, IsEnum h e it ((i : Int) + 1) old) ∧ h.IsTupleIter it a i) where
  mem := by simp
  obj := fun i h ⟨⟨old, he⟩, ⟨o1, e1, c1, d1⟩⟩ bb hb => by
    simp only [List.mem_cons, List.not_mem_nil, or_false] at hb
    rcases hb with rfl | rfl
    · exact ⟨_, he, fun v z => by cases z⟩
    · exact ⟨o1, e1, fun v z => by rw [d1] at z; cases z⟩
  keep := fun i h h' ⟨⟨old, he⟩, ⟨o1, e1, c1, d1⟩⟩ k => ⟨⟨old, k e (by simp) _ he⟩, ⟨o1, k it (by simp) _ e1, c1, d1⟩⟩
  item := by
    intro X hP hw hK hc i pins s σ H E I hf st hg
    subst hP hw hK
    obtain ⟨⟨old, he⟩, hit⟩ := st
    obtain ⟨xs, x, hq, hx⟩ := hg
    obtain ⟨its, rv, p, hz⟩ := I.tuple hq
    obtain ⟨u, hu, ru⟩ := rv.get hx
    have lt : ∀ bb ∈ [e, it], bb < s.heap.objs.size := fun bb hb => by
      obtain ⟨o1, e1, c1, d1⟩ := hit
      simp only [List.mem_cons, List.not_mem_nil, or_false] at hb
      rcases hb with rfl | rfl
      · exact Heap.lt_size he
      · exact Heap.lt_size e1
    have lta : a < s.heap.objs.size := by obtain ⟨o1, e1, _⟩ := p; exact Heap.lt_size e1
    refine next_enumG (nx_tuple (items := its.toArray) hia) (by simp [hne, hea]) he ⟨hit, p⟩ (by simpa using hu) (fun b hb => ?_) fun h' he' st' hT' hk => ?_
    · simp only [List.mem_cons, List.not_mem_nil, or_false] at hb
      rcases hb with rfl | rfl
      · exact lt _ (by simp)
      · exact lta
    refine ⟨_, rfl, wpAny_letOwnedTupleGo_enum he' fun h'' he'' sb => ?_⟩
    have I1 : Inv X pins σ H { s with heap := h'', toks := s.toks + 1 } := inv_turnedL (t' := s.toks + 1) (ch := [e, it]) I (fun c o hc ee => by
      simp only [List.mem_cons, List.not_mem_nil, or_false, not_or] at hc
      exact sb.extBut _ _ hc.1 (hk c o hc.1 hc.2 ee)) hf
    have hpe : s.heap.objs.size ≠ e := Nat.ne_of_gt (lt e (by simp))
    have hpn : H s.heap.objs.size = none := I.hok.fresh (Nat.le_refl _)
    refine ⟨.ref s.heap.objs.size, upd H s.heap.objs.size (.tup [.int ((i : Int) + 1), x]), inv_trackN I I1 (Nat.le_refl _) ⟨small6 (by simp), [.int ((i : Int) + 1) s.toks, u], .cons ⟨_, rfl⟩ (.cons ru .nil), ⟨_, sb.extBut _ _ hpe hT', rfl, _, rfl⟩⟩, rfl, ⟨_, x, rfl, hpn, rfl, fun ys hy => by rw [I.tuple_inj hy hq]; exact hx⟩, ⟨⟨u, ?_⟩, ?_⟩, fun bb hb => ?_⟩
    · have := he''
      rwa [show ((i : Int) + 1 + 1) = (((i + 1 : Nat) : Int) + 1) by omega] at this
    · obtain ⟨⟨o, ee, c, d⟩, _⟩ := st'
      exact ⟨o, sb.extBut _ _ hne.symm ee, c, d⟩
    · rw [upd_ne (Nat.ne_of_lt (lt bb hb))]
      exact (hf bb hb).1
  done := by
    intro X hP hw hK hc i pins s σ H E I hf st hg
    subst hP hw hK
    obtain ⟨⟨old, he⟩, hit⟩ := st
    obtain ⟨xs, hq, hl⟩ := hg
    obtain ⟨its, rv, p, hz⟩ := I.tuple hq
    have la := rv.length
    refine end_enumG (I.ok.hd hc) (nx_tuple (items := its.toArray) hia) he ⟨hit, p⟩ (by simp; omega) fun h' hk => ⟨rfl, ?_⟩
    exact inv_turnedL (t' := s.toks) (ch := [e, it]) I (fun c o hc ee => by
      simp only [List.mem_cons, List.not_mem_nil, or_false, not_or] at hc
      exact hk c o hc.2 ee) hf
  self := fun _ _ _ _ _ st h => by
    obtain ⟨⟨old, he⟩, _⟩ := st
    exact wpAny_pyIter_enum he h
def iEnumT (K : PySem.W.Frag) (ta : TA) : TI := fun σ H R => ta σ H fun vs H1 => ∃ a, vs = [.ref a] ∧ (∃ xs, SqT K H1 a xs) ∧ R (Iu K a) H1
theorem callWith_typeK {M : Model} {A : Around} {E : Value → Shared → Prop} {s : Shared} {pos : Pos} {T : String} {first : List Value} {args : List (Bool × Sem Value)} {keywords : List (Option Str × Sem Value)} {Q : Value → Shared → Prop}
    (hplain : args.any (·.1) = false) (hkw : keywords.any (·.1.isNone) = false)
    (h : wpAny M A (evalArgs (.type T) true args keywords) (fun a s₁ => wpAny M A (call (.type T) (first ++ a.pos) a.kw) Q E s₁) E s) : wpAny M A (callWith pos (.type T) first args keywords) Q E s := by
  unfold callWith
  refine wpAny_bind (wpAny_holding (wpAny_mono h (fun a sa ha => wpAny_bind (wpAny_standAt ?_)) fun _ _ x => x))
  simp only [hplain, hkw, Bool.or_false]
  refine wpAny_bind (wpAny_pure ?_)
  exact wpAny_bind (wpAny_mono ha (fun r sb hr => wpAny_bind (wpAny_holding (wpAny_point (wpAny_pure hr)))) fun _ _ x => x)
theorem pi_enumT {X : Cx} {es : List Expr} {kt : Nat} {pt : Pos} {a : Expr} {ta : TA} {p pos kp cp : Pos} {j : Nat} (hg : Gl X "enumerate") (hm : X.mg "enumerate" = none) (ha : PA X [a] ta) (hs : starEach [a] X.env = [(false, eval a X.env)] := by rfl) :
    PI X (.Tuple es kt pt) (.Call (.Name "enumerate" p) [a] [⟨some "start", .Constant (.int 1) j cp, kp⟩] pos) (iEnumT X.K ta) := by
  intro pins s σ H R I h
  show wpAny _ _ (eval (.Name "enumerate" p) X.env >>= fun f => callWith pos f [] (backTo pos (starEach [a] X.env)) (backToKw pos (keywordEach [⟨some "start", .Constant (.int 1) j cp, kp⟩] X.env))) _ _ _
  refine wpAny_bind (ld_blt I hg hm bt_enumerate (callWith_typeK (by rw [hs]; rfl) rfl ?_))
  have q0 := ha pos pins s σ H _ I h
  rw [hs] at q0 ⊢
  refine evalArgs_kwB rfl (thn q0 fun us s1 ⟨vs, H1, I1, r1, q1⟩ => ?_)
  refine kws_cons (wpAny_Constant_int (kws_nil ?_))
  obtain ⟨a, e, ⟨xs, hq⟩, q⟩ := q1
  subst e
  cases r1 with
  | cons r rr =>
    cases rr
    cases r
    have I2 := I1.tok s1.toks.succ
    obtain ⟨its, rv, p, hz⟩ := I2.tuple hq
    have lta : a < s1.heap.objs.size := by obtain ⟨o1, e1, _⟩ := p; exact Heap.lt_size e1
    refine call_enumT p fun h' a1 a2 a3 k => ?_
    refine wpAny_pyIter_enum a1 ?_
    refine ⟨s1.heap.objs.size + 1, [s1.heap.objs.size + 1, s1.heap.objs.size], _, _, H1, rfl, I2.kept (t' := _) k, turn_enumT (a := a) (addr_ne (j := 0) (by decide)) (Nat.ne_of_gt (Nat.lt_succ_of_lt lta)) (Nat.ne_of_lt lta), ⟨⟨_, a1⟩, a2⟩, fun bb hb => ?_, q⟩
    simp only [List.mem_cons, List.not_mem_nil, or_false] at hb
    have hbb : s1.heap.objs.size ≤ bb := by rcases hb with rfl | rfl <;> first | exact Nat.le_refl _ | exact Nat.le_add_right _ _
    exact I2.fpOk hbb (I2.hok.fresh hbb)
theorem r_enumT {K : PySem.W.Frag} {ta : TA} {σ : St} {H : Hp} {R : It → Hp → Prop} : iEnumT K ta σ H R = ta σ H fun vs H1 => ∃ a, vs = [.ref a] ∧ (∃ xs, SqT K H1 a xs) ∧ R (Iu K a) H1 := rfl
theorem enuT_of {K : PySem.W.Frag} {a : Addr} {xs : List V} {g : TG} {t : TS} {D : Ends} {σ : St} {H : Hp} (Pv : Nat → St → Hp → Prop) (h0 : Pv 0 σ H) (hl : ∀ i σ H, i ≤ xs.length → Pv i σ H → SqT K H a xs)
    (hs : ∀ (Pw : Nat → St → Hp → Prop), (∀ i σ H, Pv i σ H → Pw i σ H) → ∀ i x σ H p, xs[i]? = some x → Pv i σ H → H p = none → g (.ref p) σ (upd H p (.tup [.int ((i : Int) + 1), x])) fun σ2 H2 => t { D with nx := Pw (i + 1), ct := Pw (i + 1), bk := D.nx } σ2 H2)
    (hd : ∀ σ H, Pv xs.length σ H → D.nx σ H) : ForR g t D σ (Iu K a) H := by
  refine ⟨fun i m σ H => m = xs.length - i ∧ i ≤ xs.length ∧ Pv i σ H, ⟨xs.length, by simp, Nat.zero_le _, h0⟩, ?_⟩
  rintro i m σ H ⟨rfl, hi, q⟩
  have hq := hl i σ H hi q
  by_cases c : i = xs.length
  · subst c
    exact .inl ⟨⟨xs, hq, Nat.le_refl _⟩, hd _ _ q⟩
  · have hx : xs[i]? = some xs[i] := List.getElem?_eq_getElem (by omega)
    refine .inr ⟨⟨xs, _, hq, hx⟩, Pv (i + 1), fun σ' H' q' => ⟨xs.length - (i + 1), by omega, rfl, by omega, q'⟩, ?_⟩
    rintro v H' ⟨p, x, rfl, hp, rfl, ex⟩
    exact hs Pv (fun _ _ _ z => z) i x σ H p (ex xs hq) q hp
end L2
namespace L2
open PySem PySem.Spec PySem.Calls PyProof.Rows
def rEnds : V → List V → Hp → VK → Prop := fun x vs H Q => ∃ a b, x = .str a ∧ vs = [.str b] ∧ Q (.bl (Txt.endswith a b)) H
theorem mt_endswith {X : Cx} : MtR X "str.endswith" rEnds := by
  intro pins s σ H x vs v us Q I rx rv h
  obtain ⟨a, b, rfl, rfl, q⟩ := h
  obtain ⟨t, rfl⟩ := rx
  obtain ⟨u, rfl, ru⟩ := rv.one
  obtain ⟨t', rfl⟩ := ru
  exact SC.endswith ⟨.bl _, H, I, rfl, q⟩
end L2
namespace L2
open PySem PySem.Spec PyProof.Rows
theorem ps_tryN {X : Cx} {body : List Stmt} {h0 : ExceptHandler} {hs : List ExceptHandler} {pos : Pos} {tb : TS} (hb : PSs (X.wish fun _ _ => False) body tb) : PS X (.Try body (h0 :: hs) [] [] pos) tb := by
  intro pins s σ H D I h
  refine wpAny_Try_except (wpAny_mono (hb pins s σ H D (I.wish _) h) (fun f s1 q => ?_) fun e s1 q => False.elim q)
  have q' : SP X pins D f s1 := q.unwish
  cases f with
  | next => obtain ⟨σ', H', I', q2⟩ := q'; exact (pss_nil (X := X)) pins s1 σ' H' D I' q2
  | brk => exact q'
  | cont => exact q'
  | ret u => exact q'
end L2
local macro_rules | `(tactic| walk_at "rd") => `(tactic| try simp only [L2.r_next, L2.r_asg, L2.r_ret, L2.r_retN, L2.r_drop, L2.r_ifS, L2.r_name, L2.r_sub, L2.r_var, L2.r_varS, L2.r_c, L2.r_op, L2.r_un, L2.r_test, L2.r_tB, L2.r_and, L2.r_or, L2.r_not, L2.r_andV, L2.r_orV, L2.r_notV, L2.r_ifE, L2.r_chain, L2.r_nil, L2.r_cons, L2.r_tup, L2.r_lst, L2.r_call, L2.r_cb, L2.r_I, L2.r_I0, L2.r_eqI, L2.r_neI, L2.r_eqB, L2.r_ixL, L2.r_ixT, L2.r_setL, L2.r_sl, L2.r_noP, L2.r_bm, L2.r_part, L2.r_for, L2.r_rng1, L2.r_iL, L2.r_iT, L2.rU, L2.r_K, L2.r_min2, L2.r_max2, L2.r_neB, L2.r_eqS, L2.r_neS, L2.r_raise, L2.r_callX, L2.r_try, L2.r_ixS, L2.r_slS, L2.r_addS, L2.r_bm0, L2.r_rng2, L2.r_KH, L2.r_Kt, L2.r_Kh, L2.r_Kn, L2.r_abs, L2.r_gtup, L2.r_gcons, L2.r_gnil, L2.r_augN, L2.r_ipI, L2.r_isNf, L2.r_isNt, L2.r_leS, L2.r_findS, L2.r_fs, L2.r_fld, L2.r_sfld, L2.r_meth, L2.r_make, L2.r_aug, L2.r_enumT, L2.r_jn, L2.r_jc, L2.r_ji, L2.r_js,
  List.getElem?_cons_zero, List.getElem?_cons_succ, List.set_cons_zero, List.set_cons_succ, Option.some.injEq, exists_eq_left', L2.V.int.injEq, L2.V.str.injEq, L2.V.bl.injEq, L2.V.ref.injEq, true_and, decide_eq_true_eq, List.cons_append, List.nil_append, List.append_nil, Bool.not_eq_true', decide_eq_false_iff_not, if_true, if_false, Bool.false_eq_true, Bool.true_eq_false, Bool.not_true, Bool.not_false, not_true_eq_false, not_false_eq_true])
local macro_rules | `(tactic| walk_at "st") => `(tactic| (walk_at "rd"; rw [L2.r_seq]; walk_at "rd"))
local macro_rules | `(tactic| walk_at "cl") => `(tactic| try simp only [L2.r_K, L2.r_KH, L2.r_Kt, L2.r_Kh, L2.r_Kn])
local macro_rules | `(tactic| walk_at "T") => `(tactic| rw [if_pos (by first | rfl | trivial)])
local macro_rules | `(tactic| walk_at "F") => `(tactic| rw [if_neg (by intro h; cases h)])
local macro_rules | `(tactic| walk_at "gd") => `(tactic| repeat' first | exact L2.gd_nil | exact My.gd_ix0 (L2.gd_var rfl (by assumption)) | exact My.gd_ix1 (L2.gd_var rfl (by assumption)) | exact L2.gd_non | exact L2.gd_bl | exact L2.gd_int | exact L2.gd_str | exact L2.gd_neg | exact L2.gd_pow ⟨by decide, by decide, by decide⟩ | exact L2.gd_var rfl (by assumption) | refine L2.gd_cons ?_ ?_ | refine L2.gd_tup ?_ | refine L2.gd_lst (by assumption) ?_ | refine L2.gd_slA ?_ (by first | exact L2.gp_no | exact L2.gp_c | exact L2.gp_v rfl | exact L2.gp_v1 rfl) (by first | exact L2.gp_no | exact L2.gp_c | exact L2.gp_v rfl | exact L2.gp_v1 rfl) | refine L2.gd_listOf (by assumption) ?_ | refine L2.gd_catA ?_ ?_ (by first | assumption | (simp; done) | exact Nat.le_of_ble_eq_true rfl))
namespace My
open PySem L2 M
def top (i : Nat) : Stmt := PySem.Challenge.pw_tally_k44_games_written.main.body.getD i (.Pass ⟨0, 0, 0, 0⟩)
abbrev s_writes_whole : Stmt := top 4
theorem sc_writes_whole : FnScope ["word", "least", "most"] ["word", "least", "most"] (defScope s_writes_whole) := ⟨rfl, rfl, rfl, by decide +kernel, rfl, by decide +kernel, by decide +kernel⟩
abbrev s_is_name : Stmt := top 10
theorem sc_is_name : FnScope ["thing"] ["thing"] (defScope s_is_name) := ⟨rfl, rfl, rfl, by decide +kernel, rfl, by decide +kernel, by decide +kernel⟩
abbrev s_show_rule : Stmt := top 17
theorem sc_show_rule : FnScope ["rule"] ["rule"] (defScope s_show_rule) := ⟨rfl, rfl, rfl, by decide +kernel, rfl, by decide +kernel, by decide +kernel⟩
abbrev s_read_rule : Stmt := top 18
theorem sc_read_rule : FnScope ["text", "reader", "rule"] ["text"] (defScope s_read_rule) := ⟨rfl, rfl, rfl, by decide +kernel, rfl, by decide +kernel, by decide +kernel⟩
abbrev s_words_of : Stmt := top 19
theorem sc_words_of : FnScope ["rule", "words"] ["rule"] (defScope s_words_of) := ⟨rfl, rfl, rfl, by decide +kernel, rfl, by decide +kernel, by decide +kernel⟩
abbrev s_RuleReader___init__ : Stmt := inClass (top 20) 0
theorem sc_RuleReader___init__ : FnScope ["self", "words"] ["self", "words"] (defScope s_RuleReader___init__) := ⟨rfl, rfl, rfl, by decide +kernel, rfl, by decide +kernel, by decide +kernel⟩
abbrev s_RuleReader_refuse_more : Stmt := inClass (top 20) 1
theorem sc_RuleReader_refuse_more : FnScope ["self"] ["self"] (defScope s_RuleReader_refuse_more) := ⟨rfl, rfl, rfl, by decide +kernel, rfl, by decide +kernel, by decide +kernel⟩
abbrev s_RuleReader_word_here : Stmt := inClass (top 20) 2
theorem sc_RuleReader_word_here : FnScope ["self"] ["self"] (defScope s_RuleReader_word_here) := ⟨rfl, rfl, rfl, by decide +kernel, rfl, by decide +kernel, by decide +kernel⟩
abbrev s_RuleReader_read_part : Stmt := inClass (top 20) 3
theorem sc_RuleReader_read_part : FnScope ["self", "room", "word"] ["self", "room"] (defScope s_RuleReader_read_part) := ⟨rfl, rfl, rfl, by decide +kernel, rfl, by decide +kernel, by decide +kernel⟩
abbrev s_RuleReader_read_unit : Stmt := inClass (top 20) 4
theorem sc_RuleReader_read_unit : FnScope ["self", "room", "to", "lead", "cap", "inner", "last"] ["self", "room"] (defScope s_RuleReader_read_unit) := ⟨rfl, rfl, rfl, by decide +kernel, rfl, by decide +kernel, by decide +kernel⟩
abbrev s_RuleReader_read_number : Stmt := inClass (top 20) 5
theorem sc_RuleReader_read_number : FnScope ["self", "least", "word"] ["self", "least"] (defScope s_RuleReader_read_number) := ⟨rfl, rfl, rfl, by decide +kernel, rfl, by decide +kernel, by decide +kernel⟩
abbrev s_RuleReader_read_cap : Stmt := inClass (top 20) 6
theorem sc_RuleReader_read_cap : FnScope ["self", "to"] ["self", "to"] (defScope s_RuleReader_read_cap) := ⟨rfl, rfl, rfl, by decide +kernel, rfl, by decide +kernel, by decide +kernel⟩
abbrev s_RuleReader_read_last : Stmt := inClass (top 20) 7
theorem sc_RuleReader_read_last : FnScope ["self", "cap", "room"] ["self", "cap", "room"] (defScope s_RuleReader_read_last) := ⟨rfl, rfl, rfl, by decide +kernel, rfl, by decide +kernel, by decide +kernel⟩
abbrev s_show_game : Stmt := top 22
theorem sc_show_game : FnScope ["game", "kind", "rule", "words"] ["game"] (defScope s_show_game) := ⟨rfl, rfl, rfl, by decide +kernel, rfl, by decide +kernel, by decide +kernel⟩
abbrev s_read_game : Stmt := top 23
theorem sc_read_game : FnScope ["text", "words"] ["text"] (defScope s_read_game) := ⟨rfl, rfl, rfl, by decide +kernel, rfl, by decide +kernel, by decide +kernel⟩
abbrev s_word_of : Stmt := top 24
theorem sc_word_of : FnScope ["throw", "name", "worth"] ["throw"] (defScope s_word_of) := ⟨rfl, rfl, rfl, by decide +kernel, rfl, by decide +kernel, by decide +kernel⟩
abbrev s_read_behind_rally : Stmt := top 25
theorem sc_read_behind_rally : FnScope ["words", "refusal"] ["words"] (defScope s_read_behind_rally) := ⟨rfl, rfl, rfl, by decide +kernel, rfl, by decide +kernel, by decide +kernel⟩
abbrev s_read_down : Stmt := top 26
theorem sc_read_down : FnScope ["words", "numbers", "throws", "names", "at", "throw"] ["words"] (defScope s_read_down) := ⟨rfl, rfl, rfl, by decide +kernel, rfl, by decide +kernel, by decide +kernel⟩
abbrev s_read_lane : Stmt := top 27
theorem sc_read_lane : FnScope ["words", "numbers"] ["words"] (defScope s_read_lane) := ⟨rfl, rfl, rfl, by decide +kernel, rfl, by decide +kernel, by decide +kernel⟩
abbrev s_read_numbers : Stmt := top 28
theorem sc_read_numbers : FnScope ["words", "mosts", "numbers", "at", "most"] ["words", "mosts"] (defScope s_read_numbers) := ⟨rfl, rfl, rfl, by decide +kernel, rfl, by decide +kernel, by decide +kernel⟩
abbrev s_read_throw : Stmt := top 29
theorem sc_read_throw : FnScope ["word", "ends", "plain", "parts"] ["word"] (defScope s_read_throw) := ⟨rfl, rfl, rfl, by decide +kernel, rfl, by decide +kernel, by decide +kernel⟩
abbrev s_law_tape : Stmt := top 31
theorem sc_law_tape : FnScope ["_law_script", "_law_way"] ["_law_script"] (defScope s_law_tape) := ⟨rfl, rfl, rfl, by decide +kernel, rfl, by decide +kernel, by decide +kernel⟩
abbrev s_law_draw : Stmt := top 32
theorem sc_law_draw : FnScope ["_law_tape_here", "_law_many", "_law_script", "_law_spot", "_law_cell", "_law_left", "_law_mixed"] ["_law_tape_here", "_law_many"] (defScope s_law_draw) := ⟨rfl, rfl, rfl, by decide +kernel, rfl, by decide +kernel, by decide +kernel⟩
abbrev s_law_great : Stmt := top 33
theorem sc_law_great : FnScope ["_law_tape_here"] ["_law_tape_here"] (defScope s_law_great) := ⟨rfl, rfl, rfl, by decide +kernel, rfl, by decide +kernel, by decide +kernel⟩
abbrev s_law_alike : Stmt := top 34
theorem sc_law_alike : FnScope ["_law_due", "_law_found"] ["_law_due", "_law_found"] (defScope s_law_alike) := ⟨rfl, rfl, rfl, by decide +kernel, rfl, by decide +kernel, by decide +kernel⟩
abbrev s_law_unit : Stmt := top 35
theorem sc_law_unit : FnScope ["_law_tape_here", "_law_deep", "_law_thin", "_law_to", "_law_lead", "_law_cap", "_law_last", "_law_inner"] ["_law_tape_here", "_law_deep", "_law_thin"] (defScope s_law_unit) := ⟨rfl, rfl, rfl, by decide +kernel, rfl, by decide +kernel, by decide +kernel⟩
abbrev s_law_rule : Stmt := top 36
theorem sc_law_rule : FnScope ["_law_tape_here", "_law_deep", "_law_thin"] ["_law_tape_here", "_law_deep", "_law_thin"] (defScope s_law_rule) := ⟨rfl, rfl, rfl, by decide +kernel, rfl, by decide +kernel, by decide +kernel⟩
abbrev s_law_any_rule : Stmt := top 37
theorem sc_law_any_rule : FnScope ["_law_tape_here", "_law_way"] ["_law_tape_here"] (defScope s_law_any_rule) := ⟨rfl, rfl, rfl, by decide +kernel, rfl, by decide +kernel, by decide +kernel⟩
abbrev s_law_names : Stmt := top 38
theorem sc_law_names : FnScope ["_law_tape_here", "_law_many", "_law_letters", "_law_word", "_law_way", "_law_turn", "_law_names_here", "_law_size", "_law_at", "_law_signs", "_law_start"] ["_law_tape_here", "_law_many"] (defScope s_law_names) := ⟨rfl, rfl, rfl, by decide +kernel, rfl, by decide +kernel, by decide +kernel⟩
abbrev s_law_throws : Stmt := top 39
theorem sc_law_throws : FnScope ["_law_tape_here", "_law_names_here", "_law_count", "_law_throws_here", "_law_name", "_law_worths"] ["_law_tape_here", "_law_names_here", "_law_count"] (defScope s_law_throws) := ⟨rfl, rfl, rfl, by decide +kernel, rfl, by decide +kernel, by decide +kernel⟩
abbrev s_law_down : Stmt := top 40
theorem sc_law_down : FnScope ["_law_tape_here", "_law_many", "_law_begins", "_law_begin", "_law_throws_here"] ["_law_tape_here"] (defScope s_law_down) := ⟨rfl, rfl, rfl, by decide +kernel, rfl, by decide +kernel, by decide +kernel⟩
abbrev s_law_lane : Stmt := top 41
theorem sc_law_lane : FnScope ["_law_tape_here", "_law_pins", "_law_frames"] ["_law_tape_here"] (defScope s_law_lane) := ⟨rfl, rfl, rfl, by decide +kernel, rfl, by decide +kernel, by decide +kernel⟩
abbrev s_law_game : Stmt := top 42
theorem sc_law_game : FnScope ["_law_tape_here", "_law_kind"] ["_law_tape_here"] (defScope s_law_game) := ⟨rfl, rfl, rfl, by decide +kernel, rfl, by decide +kernel, by decide +kernel⟩
abbrev s_law_rule_words : Stmt := top 43
theorem sc_law_rule_words : FnScope ["_law_rule_here", "_law_words"] ["_law_rule_here"] (defScope s_law_rule_words) := ⟨rfl, rfl, rfl, by decide +kernel, rfl, by decide +kernel, by decide +kernel⟩
abbrev s_law_game_words : Stmt := top 44
theorem sc_law_game_words : FnScope ["_law_game_here", "_law_words", "_law_name", "_law_worth", "_law_ends"] ["_law_game_here"] (defScope s_law_game_words) := ⟨rfl, rfl, rfl, by decide +kernel, rfl, by decide +kernel, by decide +kernel⟩
abbrev s_law : Stmt := top 45
theorem sc_law : FnScope ["_law_script", "_law_tape_here", "_law_games", "_law_k", "_law_text"] ["_law_script"] (defScope s_law) := ⟨rfl, rfl, rfl, by decide +kernel, rfl, by decide +kernel, by decide +kernel⟩
section
variable {P : Program} {w : World} {K : PySem.W.Frag} {mg : Str → Option Value} {base : Heap} {ns : List Int} {k : Nat}
theorem ok_law_tape (F : Df K mg "_law_tape" s_law_tape ["_law_script"]) (m_len : mg "len" = none) : Dn P w K mg base (k + 1) "_law_tape" ["_law_script"] (spTape K ns) := by
  refine F.ok sc_law_tape (fun vs H Q E h => ?_) (fun f cdv A outer s H vs Q E hr h => ?_)
  · obtain ⟨a, rfl, _⟩ := h; rfl
  obtain ⟨a, rfl, hs, q⟩ := h
  refine ⟨_, [some _, none], 
      (@pss_cons _ _ _ _ _ (@ps_set _ _ 1 _ _ _ _ sc_law_tape.nd rfl (Or.inl rfl) (@pe_int _ _ _ _) (by rfl) (by first | exact .inl rfl | exact .inr rfl | assumption)) 
      (@pss_cut _ _ _ _ _ (@ps_if _ _ _ _ _ _ _ _ (@pt_cmpR _ _ _ _ _ _ _ _ op_gt (@pe_callBu _ _ _ _ _ _ _ _ _ call_lenS rfl m_len PySem.boot_len (@pa_u _ _ _ _ _ (@pv _ 0 _ _ (by rfl) (by first | exact Or.inl rfl | exact Or.inr (Or.inl rfl) | exact Or.inr (Or.inr rfl)) (by decide) (by decide)) (@pa_nil _) (by rfl)) (by rfl) (by decide) (by decide)) (@pe_int _ _ _ _) (nomark _)) (@pss_one _ _ _ (@ps_set _ _ 1 _ _ _ _ sc_law_tape.nd rfl (Or.inl rfl) (@pe_op _ _ _ _ _ _ _ _ op_mod (@pe_ix _ _ _ _ _ _ _ ix_list (@pv _ 0 _ _ (by rfl) (by first | exact Or.inl rfl | exact Or.inr (Or.inl rfl) | exact Or.inr (Or.inr rfl)) (by decide) (by decide)) (@pe_int _ _ _ _) (fun _ _ => rfl)) (@pe_int _ _ _ _)) (by rfl) (by first | exact .inl rfl | exact .inr rfl | assumption))) (@pss_nil _)) (@pss_one _ _ _ (@ps_ret _ _ _ _ (@pe_lst _ _ _ _ (@pa_u _ _ _ _ _ (@pv _ 0 _ _ (by rfl) (by first | exact Or.inl rfl | exact Or.inr (Or.inl rfl) | exact Or.inr (Or.inr rfl)) (by decide) (by decide)) (@pa_u _ _ _ _ _ (@pe_int _ _ _ _) (@pa_u _ _ _ _ _ (@pe_int _ _ _ _) (@pa_u _ _ _ _ _ (@pv _ 1 _ _ (by rfl) (by first | exact Or.inl rfl | exact Or.inr (Or.inl rfl) | exact Or.inr (Or.inr rfl)) (by decide) (by decide)) (@pa_nil _) (by rfl)) (by rfl)) (by rfl)) (by rfl))))))), rfl, ?_⟩
  walk_at "cl"
  walk_at "st"
  refine r_cut (fun σ' H' => ∃ c : Int, σ' = [some (.ref a), some (.int c)] ∧ H' = H) (fun M hM => ?_) ?_
  · walk_at "rd"
    refine len_of hs ?_
    walk_at "rd"
    refine ite2 (fun c => ?_) (fun c => hM _ _ ⟨_, rfl, rfl⟩)
    obtain ⟨n, hn⟩ := at0 (ns := ns) (by omega)
    refine ⟨_, hs, _, hn, ?_⟩
    walk_at "rd"
    exact ⟨by decide, hM _ _ ⟨_, rfl, rfl⟩⟩
  · rintro _ _ ⟨c, rfl, rfl⟩
    walk_at "rd"
    exact ⟨small6 (by simp), fun p hp => q p _ ⟨a, 0, 0, c, upd_same, .of hs hp _⟩⟩
theorem ok_law_drawS (F : Df K mg "_law_draw" s_law_draw ["_law_tape_here", "_law_many"]) (m_len : mg "len" = none) : Dn P w K mg base (k + 1) "_law_draw" ["_law_tape_here", "_law_many"] (spDrawS K ns) := by
  refine F.ok sc_law_draw (fun vs H Q E h => ?_) (fun f cdv A outer s H vs Q E hr h => ?_)
  · obtain ⟨t, sc, m, rfl, _⟩ := h; rfl
  obtain ⟨t, sc, m, rfl, m0, m1, ⟨sp, cr, wy, ht, hc⟩, q⟩ := h
  refine ⟨_, [some _, some _, none, none, none, none, none], 
      (@pss_cons _ _ _ _ _ (@ps_set _ _ 2 _ _ _ _ sc_law_draw.nd rfl (Or.inl rfl) (@pe_ix _ _ _ _ _ _ _ ix_list (@pv _ 0 _ _ (by rfl) (by first | exact Or.inl rfl | exact Or.inr (Or.inl rfl) | exact Or.inr (Or.inr rfl)) (by decide) (by decide)) (@pe_int _ _ _ _) (fun _ _ => rfl)) (by rfl) (by first | exact .inl rfl | exact .inr rfl | assumption)) 
      (@pss_cons _ _ _ _ _ (@ps_set _ _ 3 _ _ _ _ sc_law_draw.nd rfl (Or.inl rfl) (@pe_ix _ _ _ _ _ _ _ ix_list (@pv _ 0 _ _ (by rfl) (by first | exact Or.inl rfl | exact Or.inr (Or.inl rfl) | exact Or.inr (Or.inr rfl)) (by decide) (by decide)) (@pe_int _ _ _ _) (fun _ _ => rfl)) (by rfl) (by first | exact .inl rfl | exact .inr rfl | assumption)) 
      (@pss_cons _ _ _ _ _ (@ps_asg _ _ _ _ _ _ (@pe_op _ _ _ _ _ _ _ _ op_add (@pv _ 3 _ _ (by rfl) (by first | exact Or.inl rfl | exact Or.inr (Or.inl rfl) | exact Or.inr (Or.inr rfl)) (by decide) (by decide)) (@pe_int _ _ _ _)) (@pg_sub _ _ _ _ _ _ _ (@pv _ 0 _ _ (by rfl) (by first | exact Or.inl rfl | exact Or.inr (Or.inl rfl) | exact Or.inr (Or.inr rfl)) (by decide) (by decide)) (@pe_int _ _ _ _) set_list (by intro _; rfl)) (by rfl) (by rfl) (by rfl)) 
      (@pss_cons _ _ _ _ _ (@ps_set _ _ 4 _ _ _ _ sc_law_draw.nd rfl (Or.inl rfl) (@pe_int _ _ _ _) (by rfl) (by first | exact .inl rfl | exact .inr rfl | assumption)) 
      (@pss_cut _ _ _ _ _ (@ps_if _ _ _ _ _ _ _ _ (@pt_cmpR _ _ _ _ _ _ _ _ op_gt (@pe_callBu _ _ _ _ _ _ _ _ _ call_lenS rfl m_len PySem.boot_len (@pa_u _ _ _ _ _ (@pv _ 2 _ _ (by rfl) (by first | exact Or.inl rfl | exact Or.inr (Or.inl rfl) | exact Or.inr (Or.inr rfl)) (by decide) (by decide)) (@pa_nil _) (by rfl)) (by rfl) (by decide) (by decide)) (@pe_int _ _ _ _) (nomark _)) (@pss_one _ _ _ (@ps_set _ _ 4 _ _ _ _ sc_law_draw.nd rfl (Or.inl rfl) (@pe_ix _ _ _ _ _ _ _ ix_list (@pv _ 2 _ _ (by rfl) (by first | exact Or.inl rfl | exact Or.inr (Or.inl rfl) | exact Or.inr (Or.inr rfl)) (by decide) (by decide)) (@pe_op _ _ _ _ _ _ _ _ op_mod (@pe_ifExp _ _ _ _ _ _ _ _ (@pt_cmpR _ _ _ _ _ _ _ _ op_eq (@pe_ix _ _ _ _ _ _ _ ix_list (@pv _ 0 _ _ (by rfl) (by first | exact Or.inl rfl | exact Or.inr (Or.inl rfl) | exact Or.inr (Or.inr rfl)) (by decide) (by decide)) (@pe_int _ _ _ _) (fun _ _ => rfl)) (@pe_int _ _ _ _) (nomark _)) (@pe_op _ _ _ _ _ _ _ _ op_fdiv (@pv _ 3 _ _ (by rfl) (by first | exact Or.inl rfl | exact Or.inr (Or.inl rfl) | exact Or.inr (Or.inr rfl)) (by decide) (by decide)) (@pe_int _ _ _ _)) (@pv _ 3 _ _ (by rfl) (by first | exact Or.inl rfl | exact Or.inr (Or.inl rfl) | exact Or.inr (Or.inr rfl)) (by decide) (by decide))) (@pe_callBu _ _ _ _ _ _ _ _ _ call_lenS rfl m_len PySem.boot_len (@pa_u _ _ _ _ _ (@pv _ 2 _ _ (by rfl) (by first | exact Or.inl rfl | exact Or.inr (Or.inl rfl) | exact Or.inr (Or.inr rfl)) (by decide) (by decide)) (@pa_nil _) (by rfl)) (by rfl) (by decide) (by decide))) (fun _ _ => rfl)) (by rfl) (by first | exact .inl rfl | exact .inr rfl | assumption))) (@pss_nil _)) 
      (@pss_cons _ _ _ _ _ (@ps_if _ _ _ _ _ _ _ _ (@pt_cmpR _ _ _ _ _ _ _ _ op_eq (@pe_ix _ _ _ _ _ _ _ ix_list (@pv _ 0 _ _ (by rfl) (by first | exact Or.inl rfl | exact Or.inr (Or.inl rfl) | exact Or.inr (Or.inr rfl)) (by decide) (by decide)) (@pe_int _ _ _ _) (fun _ _ => rfl)) (@pe_int _ _ _ _) (nomark _)) 
      (@pss_cut _ _ _ _ _ (@ps_if _ _ _ _ _ _ _ _ (@pt_cmpR _ _ _ _ _ _ _ _ op_eq (@pe_op _ _ _ _ _ _ _ _ op_mod (@pv _ 3 _ _ (by rfl) (by first | exact Or.inl rfl | exact Or.inr (Or.inl rfl) | exact Or.inr (Or.inr rfl)) (by decide) (by decide)) (@pe_int _ _ _ _)) (@pe_int _ _ _ _) (nomark _)) (@pss_one _ _ _ (@ps_asg _ _ _ _ _ _ (@pe_op _ _ _ _ _ _ _ _ op_fdiv (@pv _ 4 _ _ (by rfl) (by first | exact Or.inl rfl | exact Or.inr (Or.inl rfl) | exact Or.inr (Or.inr rfl)) (by decide) (by decide)) (@pe_int _ _ _ _)) (@pg_sub _ _ _ _ _ _ _ (@pv _ 0 _ _ (by rfl) (by first | exact Or.inl rfl | exact Or.inr (Or.inl rfl) | exact Or.inr (Or.inr rfl)) (by decide) (by decide)) (@pe_int _ _ _ _) set_list (by intro _; rfl)) (by rfl) (by rfl) (by rfl))) (@pss_nil _)) 
      (@pss_cons _ _ _ _ _ (@ps_set _ _ 5 _ _ _ _ sc_law_draw.nd rfl (Or.inl rfl) (@pe_ix _ _ _ _ _ _ _ ix_list (@pv _ 0 _ _ (by rfl) (by first | exact Or.inl rfl | exact Or.inr (Or.inl rfl) | exact Or.inr (Or.inr rfl)) (by decide) (by decide)) (@pe_int _ _ _ _) (fun _ _ => rfl)) (by rfl) (by first | exact .inl rfl | exact .inr rfl | assumption)) 
      (@pss_cons _ _ _ _ _ (@ps_asg _ _ _ _ _ _ (@pe_op _ _ _ _ _ _ _ _ op_fdiv (@pv _ 5 _ _ (by rfl) (by first | exact Or.inl rfl | exact Or.inr (Or.inl rfl) | exact Or.inr (Or.inr rfl)) (by decide) (by decide)) (@pv _ 1 _ _ (by rfl) (by first | exact Or.inl rfl | exact Or.inr (Or.inl rfl) | exact Or.inr (Or.inr rfl)) (by decide) (by decide))) (@pg_sub _ _ _ _ _ _ _ (@pv _ 0 _ _ (by rfl) (by first | exact Or.inl rfl | exact Or.inr (Or.inl rfl) | exact Or.inr (Or.inr rfl)) (by decide) (by decide)) (@pe_int _ _ _ _) set_list (by intro _; rfl)) (by rfl) (by rfl) (by rfl)) (@pss_one _ _ _ (@ps_ret _ _ _ _ (@pe_op _ _ _ _ _ _ _ _ op_mod (@pv _ 5 _ _ (by rfl) (by first | exact Or.inl rfl | exact Or.inr (Or.inl rfl) | exact Or.inr (Or.inr rfl)) (by decide) (by decide)) (@pv _ 1 _ _ (by rfl) (by first | exact Or.inl rfl | exact Or.inr (Or.inl rfl) | exact Or.inr (Or.inr rfl)) (by decide) (by decide)))))))) (@pss_nil _)) 
      (@pss_cons _ _ _ _ _ (@ps_set _ _ 6 _ _ _ _ sc_law_draw.nd rfl (Or.inl rfl) (@pe_op _ _ _ _ _ _ _ _ op_mod (@pe_op _ _ _ _ _ _ _ _ op_mul (@pe_op _ _ _ _ _ _ _ _ op_add (@pe_op _ _ _ _ _ _ _ _ op_mod (@pv _ 4 _ _ (by rfl) (by first | exact Or.inl rfl | exact Or.inr (Or.inl rfl) | exact Or.inr (Or.inr rfl)) (by decide) (by decide)) (@pe_int _ _ _ _)) (@pe_int _ _ _ _)) (@pe_op _ _ _ _ _ _ _ _ op_add (@pe_op _ _ _ _ _ _ _ _ op_add (@pe_op _ _ _ _ _ _ _ _ op_mul (@pe_op _ _ _ _ _ _ _ _ op_mod (@pv _ 3 _ _ (by rfl) (by first | exact Or.inl rfl | exact Or.inr (Or.inl rfl) | exact Or.inr (Or.inr rfl)) (by decide) (by decide)) (@pe_int _ _ _ _)) (@pe_int _ _ _ _)) (@pe_int _ _ _ _)) (@pv _ 3 _ _ (by rfl) (by first | exact Or.inl rfl | exact Or.inr (Or.inl rfl) | exact Or.inr (Or.inr rfl)) (by decide) (by decide)))) (@pe_int _ _ _ _)) (by rfl) (by first | exact .inl rfl | exact .inr rfl | assumption)) 
      (@pss_cons _ _ _ _ _ (@ps_set _ _ 6 _ _ _ _ sc_law_draw.nd rfl (Or.inl rfl) (@pe_op _ _ _ _ _ _ _ _ op_mod (@pe_op _ _ _ _ _ _ _ _ op_add (@pe_op _ _ _ _ _ _ _ _ op_add (@pe_op _ _ _ _ _ _ _ _ op_mul (@pv _ 6 _ _ (by rfl) (by first | exact Or.inl rfl | exact Or.inr (Or.inl rfl) | exact Or.inr (Or.inr rfl)) (by decide) (by decide)) (@pv _ 6 _ _ (by rfl) (by first | exact Or.inl rfl | exact Or.inr (Or.inl rfl) | exact Or.inr (Or.inr rfl)) (by decide) (by decide))) (@pe_op _ _ _ _ _ _ _ _ op_mul (@pe_int _ _ _ _) (@pv _ 6 _ _ (by rfl) (by first | exact Or.inl rfl | exact Or.inr (Or.inl rfl) | exact Or.inr (Or.inr rfl)) (by decide) (by decide)))) (@pv _ 3 _ _ (by rfl) (by first | exact Or.inl rfl | exact Or.inr (Or.inl rfl) | exact Or.inr (Or.inr rfl)) (by decide) (by decide))) (@pe_int _ _ _ _)) (by rfl) (by first | exact .inl rfl | exact .inr rfl | assumption)) (@pss_one _ _ _ (@ps_ret _ _ _ _ (@pe_op _ _ _ _ _ _ _ _ op_mod (@pe_op _ _ _ _ _ _ _ _ op_mod (@pe_op _ _ _ _ _ _ _ _ op_mul (@pv _ 6 _ _ (by rfl) (by first | exact Or.inl rfl | exact Or.inr (Or.inl rfl) | exact Or.inr (Or.inr rfl)) (by decide) (by decide)) (@pe_int _ _ _ _)) (@pe_int _ _ _ _)) (@pv _ 1 _ _ (by rfl) (by first | exact Or.inl rfl | exact Or.inr (Or.inl rfl) | exact Or.inr (Or.inr rfl)) (by decide) (by decide))))))))))))), rfl, ?_⟩
  walk_at "cl"
  walk_at "st"
  refine ⟨_, .of ht, _, rfl, ?_⟩
  walk_at "st"
  refine ⟨_, .of ht, _, rfl, ?_⟩
  walk_at "st"
  refine ⟨_, ht, _, rfl, ?_⟩
  have e1 : Ext t H (upd H t (HO.lst ([V.ref sc, V.int sp, V.int cr, V.int wy].set (Int.toNat 1) (V.int (sp + 1))))) := .at ht _
  have ht1 : (upd H t (HO.lst ([V.ref sc, V.int sp, V.int cr, V.int wy].set (Int.toNat 1) (V.int (sp + 1))))) t = some (HO.lst [V.ref sc, V.int (sp + 1), V.int cr, V.int wy]) := upd_same
  have hs1 := (hc.on e1).sq
  generalize upd H t (HO.lst ([V.ref sc, V.int sp, V.int cr, V.int wy].set (Int.toNat 1) (V.int (sp + 1)))) = H1 at e1 ht1 hs1 ⊢
  walk_at "st"
  refine r_cut (fun σ' H' => ∃ c : Int, σ' = [some (V.ref t), some (V.int m), some (V.ref sc), some (V.int sp), some (V.int c), none, none] ∧ H' = H1) (fun M hM => ?_) ?_
  · walk_at "rd"
    refine len_of hs1 ?_
    walk_at "rd"
    refine ite2 (fun c => ?_) (fun c => hM _ _ ⟨_, rfl, rfl⟩)
    refine ⟨_, .of ht1, _, rfl, ?_⟩
    walk_at "rd"
    refine ite2 (fun c1 => ⟨⟨by decide, by decide⟩, len_of hs1 ?_⟩) (fun c1 => len_of hs1 ?_)
    · walk_at "rd"
      obtain ⟨n, hn⟩ := atMod (ns := ns) (sp / 60) (by omega)
      exact ⟨by omega, _, hs1, _, hn, hM _ _ ⟨_, rfl, rfl⟩⟩
    · walk_at "rd"
      obtain ⟨n, hn⟩ := atMod (ns := ns) sp (by omega)
      exact ⟨by omega, _, hs1, _, hn, hM _ _ ⟨_, rfl, rfl⟩⟩
  · rintro _ _ ⟨c, rfl, rfl⟩
    walk_at "st"
    refine ⟨_, .of ht1, _, rfl, ?_⟩
    walk_at "rd"
    refine ite2 (fun c1 => ?_) (fun c1 => ?_)
    · refine r_cut (fun σ' H' => ∃ z : Int, σ' = [some (V.ref t), some (V.int m), some (V.ref sc), some (V.int sp), some (V.int c), none, none] ∧ H' t = some (HO.lst [V.ref sc, V.int (sp + 1), V.int z, V.int wy]) ∧ Ext t H H') (fun M hM => ?_) ?_
      · walk_at "rd"
        refine ⟨by decide, ite2 (fun c2 => ?_) (fun c2 => hM _ _ ⟨cr, rfl, ht1, e1⟩)⟩
        exact ⟨⟨by decide, by decide⟩, _, ht1, _, rfl, hM _ _ ⟨_, rfl, upd_same, e1.trans (.at ht1 _)⟩⟩
      · rintro _ H2 ⟨z, rfl, ht2, e2⟩
        walk_at "st"
        refine ⟨_, .of ht2, _, rfl, ?_⟩
        walk_at "st"
        refine ⟨⟨m0, m1⟩, _, ht2, _, rfl, m0, ?_⟩
        exact q _ _ (Int.emod_nonneg _ (by omega)) (Int.emod_lt_of_pos _ m0) ⟨⟨_, _, _, upd_same, hc.on (e2.trans (.at ht2 _))⟩, e2.trans (.at ht2 _)⟩
    · walk_at "st"
      have b1 := Int.emod_nonneg sp (show (997 : Int) ≠ 0 by decide)
      have b2 := Int.emod_lt_of_pos sp (show (0 : Int) < 997 by decide)
      have b3 := Int.emod_nonneg c (show (1000003 : Int) ≠ 0 by decide)
      have b4 := Int.emod_lt_of_pos c (show (0 : Int) < 1000003 by decide)
      refine ⟨by decide, by decide, cmul_l (by omega) (by omega), cmul_l (by omega) (by omega), by decide, ?_⟩
      generalize hx : (c % 1000003 + 1) * (sp % 997 * 7919 + 104729 + sp) % 1000033 = x
      have b5 : 0 ≤ x := by rw [← hx]; exact Int.emod_nonneg _ (by decide)
      have b6 : x < 1000033 := by rw [← hx]; exact Int.emod_lt_of_pos _ (by decide)
      walk_at "st"
      refine ⟨cmul_l (by omega) (by omega), cmul_l (by omega) (by omega), by decide, ?_⟩
      generalize hy : (x * x + 3 * x + sp) % 999983 = y
      have b7 : 0 ≤ y := by rw [← hy]; exact Int.emod_nonneg _ (by decide)
      have b8 : y < 999983 := by rw [← hy]; exact Int.emod_lt_of_pos _ (by decide)
      refine ⟨cmul_l (by omega) (by omega), by decide, m0, ?_⟩
      exact q _ _ (Int.emod_nonneg _ (by omega)) (Int.emod_lt_of_pos _ m0) ⟨⟨_, _, _, ht1, hc.on e1⟩, e1⟩
theorem ok_law_draw (F : Df K mg "_law_draw" s_law_draw ["_law_tape_here", "_law_many"]) (m_len : mg "len" = none) : Dn P w K mg base (k + 1) "_law_draw" ["_law_tape_here", "_law_many"] (spDraw K ns) :=
  (ok_law_drawS F m_len).imp fun vs H Q E ⟨t, m, e, m0, m1, ⟨sc, T⟩, q⟩ => ⟨t, sc, m, e, m0, m1, T, fun r H' a b c => q r H' a b c.cur⟩
end
end My
namespace My
open PySem L2 M
section
variable {P : Program} {w : World} {K : PySem.W.Frag} {mg : Str → Option Value} {base : Heap} {ns : List Int} {k : Nat}
theorem ok_law_unit {n : Nat} (F : Df K mg "_law_unit" s_law_unit ["_law_tape_here", "_law_deep", "_law_thin"]) (m_min : mg "min" = none) (d_law_draw : Dn P w K mg base k "_law_draw" ["_law_tape_here", "_law_many"] (spDraw K ns))
    (d_law_rule : Dn P w K mg base k "_law_rule" ["_law_tape_here", "_law_deep", "_law_thin"] (spRule K ns n)) : Dn P w K mg base (k + 1) "_law_unit" ["_law_tape_here", "_law_deep", "_law_thin"] (spUnit K ns (n + 1)) := by
  refine F.ok sc_law_unit (fun vs H Q E h => ?_) (fun f cdv A outer s H vs Q E hr h => ?_)
  · obtain ⟨t, dp, th, rfl, _⟩ := h; rfl
  obtain ⟨t, dp, th, rfl, dp0, dpn, th0, T, q⟩ := h
  refine ⟨_, [some _, some _, some _, none, none, none, none, none], 
      (@pss_cons _ _ _ _ _ (@ps_set _ _ 3 _ _ _ _ sc_law_unit.nd rfl (Or.inl rfl) (@pe_op _ _ _ _ _ _ _ _ op_add (@pe_int _ _ _ _) (@pe_callD _ _ _ _ _ _ _ _ _ _ d_law_draw hr rfl (@pa_u _ _ _ _ _ (@pv _ 0 _ _ (by rfl) (by first | exact Or.inl rfl | exact Or.inr (Or.inl rfl) | exact Or.inr (Or.inr rfl)) (by decide) (by decide)) (@pa_u _ _ _ _ _ (@pe_ix _ _ _ _ _ _ _ ix_list (@pe_lst _ _ _ _ (@pa_u _ _ _ _ _ (@pe_int _ _ _ _) (@pa_u _ _ _ _ _ (@pe_int _ _ _ _) (@pa_u _ _ _ _ _ (@pe_int _ _ _ _) (@pa_nil _) (by rfl)) (by rfl)) (by rfl))) (@pe_op _ _ _ _ _ _ _ _ op_fdiv (@pe_callD _ _ _ _ _ _ _ _ _ _ d_law_draw hr rfl (@pa_u _ _ _ _ _ (@pv _ 0 _ _ (by rfl) (by first | exact Or.inl rfl | exact Or.inr (Or.inl rfl) | exact Or.inr (Or.inr rfl)) (by decide) (by decide)) (@pa_u _ _ _ _ _ (@pe_int _ _ _ _) (@pa_nil _) (by rfl)) (by rfl)) (by rfl) (by decide)) (@pe_int _ _ _ _)) (fun _ _ => rfl)) (@pa_nil _) (by rfl)) (by rfl)) (by rfl) (by decide))) (by rfl) (by first | exact .inl rfl | exact .inr rfl | assumption)) 
      (@pss_cons _ _ _ _ _ (@ps_set _ _ 4 _ _ _ _ sc_law_unit.nd rfl (Or.inl rfl) (@pe_op _ _ _ _ _ _ _ _ op_add (@pe_int _ _ _ _) (@pe_callD _ _ _ _ _ _ _ _ _ _ d_law_draw hr rfl (@pa_u _ _ _ _ _ (@pv _ 0 _ _ (by rfl) (by first | exact Or.inl rfl | exact Or.inr (Or.inl rfl) | exact Or.inr (Or.inr rfl)) (by decide) (by decide)) (@pa_u _ _ _ _ _ (@pe_ix _ _ _ _ _ _ _ ix_list (@pe_lst _ _ _ _ (@pa_u _ _ _ _ _ (@pe_int _ _ _ _) (@pa_u _ _ _ _ _ (@pe_int _ _ _ _) (@pa_u _ _ _ _ _ (@pe_int _ _ _ _) (@pa_nil _) (by rfl)) (by rfl)) (by rfl))) (@pe_op _ _ _ _ _ _ _ _ op_fdiv (@pe_callD _ _ _ _ _ _ _ _ _ _ d_law_draw hr rfl (@pa_u _ _ _ _ _ (@pv _ 0 _ _ (by rfl) (by first | exact Or.inl rfl | exact Or.inr (Or.inl rfl) | exact Or.inr (Or.inr rfl)) (by decide) (by decide)) (@pa_u _ _ _ _ _ (@pe_int _ _ _ _) (@pa_nil _) (by rfl)) (by rfl)) (by rfl) (by decide)) (@pe_int _ _ _ _)) (fun _ _ => rfl)) (@pa_nil _) (by rfl)) (by rfl)) (by rfl) (by decide))) (by rfl) (by first | exact .inl rfl | exact .inr rfl | assumption)) 
      (@pss_cons _ _ _ _ _ (@ps_set _ _ 5 _ _ _ _ sc_law_unit.nd rfl (Or.inl rfl) (@pe_non _ _ _) (by rfl) (by first | exact .inl rfl | exact .inr rfl | assumption)) 
      (@pss_cons _ _ _ _ _ (@ps_set _ _ 6 _ _ _ _ sc_law_unit.nd rfl (Or.inl rfl) (@pe_non _ _ _) (by rfl) (by first | exact .inl rfl | exact .inr rfl | assumption)) 
      (@pss_cut _ _ _ _ _ (@ps_if _ _ _ _ _ _ _ _ (@pt_cmpR _ _ _ _ _ _ _ _ op_eq (@pe_callD _ _ _ _ _ _ _ _ _ _ d_law_draw hr rfl (@pa_u _ _ _ _ _ (@pv _ 0 _ _ (by rfl) (by first | exact Or.inl rfl | exact Or.inr (Or.inl rfl) | exact Or.inr (Or.inr rfl)) (by decide) (by decide)) (@pa_u _ _ _ _ _ (@pe_int _ _ _ _) (@pa_nil _) (by rfl)) (by rfl)) (by rfl) (by decide)) (@pe_int _ _ _ _) (nomark _)) (@pss_one _ _ _ (@ps_set _ _ 5 _ _ _ _ sc_law_unit.nd rfl (Or.inl rfl) (@pe_callBu _ _ _ _ _ _ _ _ _ (call_minS rfl) rfl m_min bt_min (@pa_u _ _ _ _ _ (@pe_int _ _ _ _) (@pa_u _ _ _ _ _ (@pe_op _ _ _ _ _ _ _ _ op_add (@pv _ 3 _ _ (by rfl) (by first | exact Or.inl rfl | exact Or.inr (Or.inl rfl) | exact Or.inr (Or.inr rfl)) (by decide) (by decide)) (@pe_callD _ _ _ _ _ _ _ _ _ _ d_law_draw hr rfl (@pa_u _ _ _ _ _ (@pv _ 0 _ _ (by rfl) (by first | exact Or.inl rfl | exact Or.inr (Or.inl rfl) | exact Or.inr (Or.inr rfl)) (by decide) (by decide)) (@pa_u _ _ _ _ _ (@pe_int _ _ _ _) (@pa_nil _) (by rfl)) (by rfl)) (by rfl) (by decide))) (@pa_nil _) (by rfl)) (by rfl)) (by rfl) (by decide) (by decide)) (by rfl) (by first | exact .inl rfl | exact .inr rfl | assumption))) (@pss_nil _)) 
      (@pss_cons _ _ _ _ _ (@ps_set _ _ 7 _ _ _ _ sc_law_unit.nd rfl (Or.inl rfl) (@pe_callD _ _ _ _ _ _ _ _ _ _ d_law_rule hr rfl (@pa_u _ _ _ _ _ (@pv _ 0 _ _ (by rfl) (by first | exact Or.inl rfl | exact Or.inr (Or.inl rfl) | exact Or.inr (Or.inr rfl)) (by decide) (by decide)) (@pa_u _ _ _ _ _ (@pe_op _ _ _ _ _ _ _ _ op_sub (@pv _ 1 _ _ (by rfl) (by first | exact Or.inl rfl | exact Or.inr (Or.inl rfl) | exact Or.inr (Or.inr rfl)) (by decide) (by decide)) (@pe_int _ _ _ _)) (@pa_u _ _ _ _ _ (@pv _ 2 _ _ (by rfl) (by first | exact Or.inl rfl | exact Or.inr (Or.inl rfl) | exact Or.inr (Or.inr rfl)) (by decide) (by decide)) (@pa_nil _) (by rfl)) (by rfl)) (by rfl)) (by rfl) (by decide)) (by rfl) (by first | exact .inl rfl | exact .inr rfl | assumption)) 
      (@pss_cut _ _ _ _ _ (@ps_if _ _ _ _ _ _ _ _ (@PW.pt _ _ _ (@pw_and _ _ _ _ _ _ _ (@pt_cmpR _ _ _ _ _ _ _ _ op_notNS (@pv _ 5 _ _ (by rfl) (by first | exact Or.inl rfl | exact Or.inr (Or.inl rfl) | exact Or.inr (Or.inr rfl)) (by decide) (by decide)) (@pe_non _ _ _) (nomark _)) (@pw_and1 _ _ _ _ (@pt_cmpR _ _ _ _ _ _ _ _ op_gt (@pe_callD _ _ _ _ _ _ _ _ _ _ d_law_draw hr rfl (@pa_u _ _ _ _ _ (@pv _ 0 _ _ (by rfl) (by first | exact Or.inl rfl | exact Or.inr (Or.inl rfl) | exact Or.inr (Or.inr rfl)) (by decide) (by decide)) (@pa_u _ _ _ _ _ (@pe_int _ _ _ _) (@pa_nil _) (by rfl)) (by rfl)) (by rfl) (by decide)) (@pe_int _ _ _ _) (nomark _))))) (@pss_one _ _ _ (@ps_set _ _ 6 _ _ _ _ sc_law_unit.nd rfl (Or.inl rfl) (@pe_callD _ _ _ _ _ _ _ _ _ _ d_law_rule hr rfl (@pa_u _ _ _ _ _ (@pv _ 0 _ _ (by rfl) (by first | exact Or.inl rfl | exact Or.inr (Or.inl rfl) | exact Or.inr (Or.inr rfl)) (by decide) (by decide)) (@pa_u _ _ _ _ _ (@pe_callBu _ _ _ _ _ _ _ _ _ (call_minS rfl) rfl m_min bt_min (@pa_u _ _ _ _ _ (@pe_op _ _ _ _ _ _ _ _ op_sub (@pv _ 1 _ _ (by rfl) (by first | exact Or.inl rfl | exact Or.inr (Or.inl rfl) | exact Or.inr (Or.inr rfl)) (by decide) (by decide)) (@pe_int _ _ _ _)) (@pa_u _ _ _ _ _ (@pv _ 2 _ _ (by rfl) (by first | exact Or.inl rfl | exact Or.inr (Or.inl rfl) | exact Or.inr (Or.inr rfl)) (by decide) (by decide)) (@pa_nil _) (by rfl)) (by rfl)) (by rfl) (by decide) (by decide)) (@pa_u _ _ _ _ _ (@pv _ 2 _ _ (by rfl) (by first | exact Or.inl rfl | exact Or.inr (Or.inl rfl) | exact Or.inr (Or.inr rfl)) (by decide) (by decide)) (@pa_nil _) (by rfl)) (by rfl)) (by rfl)) (by rfl) (by decide)) (by rfl) (by first | exact .inl rfl | exact .inr rfl | assumption))) (@pss_nil _)) (@pss_one _ _ _ (@ps_ret _ _ _ _ (@pe_tup _ _ _ _ _ (@pa_u _ _ _ _ _ (@pe_str _ _ _ _) (@pa_u _ _ _ _ _ (@pv _ 3 _ _ (by rfl) (by first | exact Or.inl rfl | exact Or.inr (Or.inl rfl) | exact Or.inr (Or.inr rfl)) (by decide) (by decide)) (@pa_u _ _ _ _ _ (@pv _ 4 _ _ (by rfl) (by first | exact Or.inl rfl | exact Or.inr (Or.inl rfl) | exact Or.inr (Or.inr rfl)) (by decide) (by decide)) (@pa_u _ _ _ _ _ (@pv _ 5 _ _ (by rfl) (by first | exact Or.inl rfl | exact Or.inr (Or.inl rfl) | exact Or.inr (Or.inr rfl)) (by decide) (by decide)) (@pa_u _ _ _ _ _ (@pv _ 7 _ _ (by rfl) (by first | exact Or.inl rfl | exact Or.inr (Or.inl rfl) | exact Or.inr (Or.inr rfl)) (by decide) (by decide)) (@pa_u _ _ _ _ _ (@pv _ 6 _ _ (by rfl) (by first | exact Or.inl rfl | exact Or.inr (Or.inl rfl) | exact Or.inr (Or.inr rfl)) (by decide) (by decide)) (@pa_nil _) (by rfl)) (by rfl)) (by rfl)) (by rfl)) (by rfl)) (by rfl)))))))))))), rfl, ?_⟩
  walk_at "cl"
  walk_at "st"
  refine ⟨small6 (by simp), fun p1 hp1 => draw_of (T.new hp1 _) fun r1 H1 r10 r11 c1 => ?_⟩
  have s1 : SqL K H1 p1 [V.int 3, V.int 5, V.int 99] := c1.ext.sqL (T.ne hp1) (.of upd_same)
  walk_at "rd"
  obtain ⟨v1, hv1, m1⟩ := atMem (xs := [V.int 3, V.int 5, V.int 99]) (i := r1 / 8) (by omega) (by simp; omega)
  obtain ⟨k1, rfl, k10, k11⟩ : ∃ k : Int, v1 = .int k ∧ 0 < k ∧ k ≤ 99 := by
    simp at m1
    rcases m1 with rfl | rfl | rfl <;> exact ⟨_, rfl, by decide, by decide⟩
  refine ⟨⟨by decide, by decide⟩, _, s1, _, hv1, draw_of c1.tape (fun r2 H2 r20 r21 c2 => ?_) k10 (by omega)⟩
  have C2 : Cur K ns t H H2 := ((T.cur.new hp1 _).then c1).then c2
  walk_at "st"
  refine ⟨small6 (by simp), fun p2 hp2 => draw_of (C2.tape.new hp2 _) fun r3 H3 r30 r31 c3 => ?_⟩
  have s3 : SqL K H3 p2 [V.int 2, V.int 3, V.int 99] := c3.ext.sqL (C2.ne hp2) (.of upd_same)
  walk_at "rd"
  obtain ⟨v3, hv3, m3⟩ := atMem (xs := [V.int 2, V.int 3, V.int 99]) (i := r3 / 9) (by omega) (by simp; omega)
  obtain ⟨k3, rfl, k30, k31⟩ : ∃ k : Int, v3 = .int k ∧ 0 < k ∧ k ≤ 99 := by
    simp at m3
    rcases m3 with rfl | rfl | rfl <;> exact ⟨_, rfl, by decide, by decide⟩
  refine ⟨⟨by decide, by decide⟩, _, s3, _, hv3, draw_of c3.tape (fun r4 H4 r40 r41 c4 => ?_) k30 (by omega)⟩
  have C4 : Cur K ns t H H4 := ((C2.new hp2 _).then c3).then c4
  clear c1 s1 m1 c2 c3 s3 m3 c4
  walk_at "st"
  walk_at "st"
  refine r_cut (fun σ' H' => ∃ cap : Option Int, σ' = [some (.ref t), some (.int dp), some (.int th), some (.int (1 + r2)), some (.int (1 + r4)), some (optI cap), some .non, none] ∧ capOk (1 + r2) cap ∧ Cur K ns t H H') (fun M hM => ?_) ?_
  · walk_at "rd"
    refine draw_of C4.tape fun r5 H5 r50 r51 c5 => ?_
    walk_at "rd"
    refine ite2 (fun c => ?_) (fun c => hM _ _ ⟨none, rfl, trivial, C4.then c5⟩)
    refine draw_of c5.tape fun r6 H6 r60 r61 c6 => ?_
    walk_at "rd"
    refine hM _ _ ⟨some _, rfl, ⟨?_, ?_⟩, (C4.then c5).then c6⟩
    · split <;> omega
    · split <;> omega
  · rintro _ H6 ⟨cap, rfl, hcap, C6⟩
    walk_at "st"
    refine ⟨t, dp - 1, th, rfl, by omega, by omega, th0, C6.tape, fun i iv H7 oki dpi szi c7 di => ?_⟩
    walk_at "rd"
    have C7 := C6.then c7
    have hU : U dp.toNat th.toNat = 1 + U (dp - 1).toNat th.toNat + U (min (dp - 1).toNat th.toNat) th.toNat := by
      rw [show dp.toNat = (dp - 1).toNat + 1 by omega, U_succ]
    refine r_cut (fun σ' H' => ∃ (lv : V) (rl : Rl) (d5 : PyData), σ' = [some (.ref t), some (.int dp), some (.int th), some (.int (1 + r2)), some (.int (1 + r4)), some (optI cap), some lv, some iv] ∧
      enc rl = unitD (.int (1 + r2)) (.int (1 + r4)) (capD cap) (enc i) d5 ∧ ok rl ∧ depth rl ≤ dp.toNat ∧ size rl ≤ U dp.toNat th.toNat ∧ Cur K ns t H H' ∧ Dt K t H' (enc i) iv ∧ Dt K t H' d5 lv) (fun M hM => ?_) ?_
    · have plain : ∀ H', Cur K ns t H H' → Dt K t H' (enc i) iv → M [some (.ref t), some (.int dp), some (.int th), some (.int (1 + r2)), some (.int (1 + r4)), some (optI cap), some .non, some iv] H' := fun H' C' d' =>
        hM _ _ ⟨.non, .un (1 + r2) (1 + r4) cap i, .none, rfl, rfl, ⟨⟨by omega, by omega⟩, ⟨by omega, by omega⟩, hcap, oki⟩, by simp only [depth]; omega, by simp only [size]; omega, C', d', .non⟩
      walk_at "rd"
      cases cap with
      | none =>
        rw [if_neg (by simp [optI])]
        exact plain _ C7 di
      | some c =>
        rw [if_pos (by simp [optI])]
        refine draw_of C7.tape fun r8 H8 r80 r81 c8 => ?_
        walk_at "rd"
        refine ite2 (fun z => ?_) (fun z => plain _ (C7.then c8) (di.on c8.ext))
        have hmin : (if th < dp - 1 then th else dp - 1).toNat = min (dp - 1).toNat th.toNat := by split <;> omega
        refine ⟨t, _, th, rfl, by split <;> omega, by split <;> omega, th0, c8.tape, fun l lv H9 okl dpl szl c9 dl => ?_⟩
        rw [hmin] at dpl szl
        walk_at "rd"
        refine hM _ _ ⟨lv, .ul (1 + r2) (1 + r4) c i l, enc l, rfl, rfl, ⟨⟨by omega, by omega⟩, ⟨by omega, by omega⟩, hcap, oki, okl⟩, by simp only [depth]; omega, by simp only [size]; omega, (C7.then c8).then c9, di.on (c8.ext.trans c9.ext), dl⟩
    · rintro _ H9 ⟨lv, rl, d5, rfl, e, okr, dpr, szr, C9, di9, dl9⟩
      walk_at "rd"
      refine ⟨small6 (by simp), fun p hp => q rl _ _ okr dpr szr (C9.new hp _) ?_⟩
      rw [e]
      exact .newT hp (.cons (dstr "unit") (.cons (.int _) (.cons (.int _) (.cons (dt_cap cap) (.cons di9 (.cons dl9 .nil))))))
theorem ok_law_rule {n : Nat} (F : Df K mg "_law_rule" s_law_rule ["_law_tape_here", "_law_deep", "_law_thin"]) (d_law_draw : Dn P w K mg base k "_law_draw" ["_law_tape_here", "_law_many"] (spDraw K ns))
    (d_law_unit : Dn P w K mg base k "_law_unit" ["_law_tape_here", "_law_deep", "_law_thin"] (spUnit K ns n)) : Dn P w K mg base (k + 1) "_law_rule" ["_law_tape_here", "_law_deep", "_law_thin"] (spRule K ns n) := by
  refine F.ok sc_law_rule (fun vs H Q E h => ?_) (fun f cdv A outer s H vs Q E hr h => ?_)
  · obtain ⟨t, dp, th, rfl, _⟩ := h; rfl
  obtain ⟨t, dp, th, rfl, dp0, dpn, th0, T, q⟩ := h
  refine ⟨_, [some _, some _, some _], 
      (@pss_cons _ _ _ _ _ (@ps_if _ _ _ _ _ _ _ _ (@PW.pt _ _ _ (@pw_or _ _ _ _ _ _ _ (@pt_cmpR _ _ _ _ _ _ _ _ op_eq (@pv _ 1 _ _ (by rfl) (by first | exact Or.inl rfl | exact Or.inr (Or.inl rfl) | exact Or.inr (Or.inr rfl)) (by decide) (by decide)) (@pe_int _ _ _ _) (nomark _)) (@pw_or1 _ _ _ _ (@pt_cmpR _ _ _ _ _ _ _ _ op_eq (@pe_callD _ _ _ _ _ _ _ _ _ _ d_law_draw hr rfl (@pa_u _ _ _ _ _ (@pv _ 0 _ _ (by rfl) (by first | exact Or.inl rfl | exact Or.inr (Or.inl rfl) | exact Or.inr (Or.inr rfl)) (by decide) (by decide)) (@pa_u _ _ _ _ _ (@pe_int _ _ _ _) (@pa_nil _) (by rfl)) (by rfl)) (by rfl) (by decide)) (@pe_int _ _ _ _) (nomark _))))) (@pss_one _ _ _ (@ps_ret _ _ _ _ (@pe_tup _ _ _ _ _ (@pa_u _ _ _ _ _ (@pe_str _ _ _ _) (@pa_nil _) (by rfl))))) (@pss_nil _)) (@pss_one _ _ _ (@ps_ret _ _ _ _ (@pe_callD _ _ _ _ _ _ _ _ _ _ d_law_unit hr rfl (@pa_u _ _ _ _ _ (@pv _ 0 _ _ (by rfl) (by first | exact Or.inl rfl | exact Or.inr (Or.inl rfl) | exact Or.inr (Or.inr rfl)) (by decide) (by decide)) (@pa_u _ _ _ _ _ (@pv _ 1 _ _ (by rfl) (by first | exact Or.inl rfl | exact Or.inr (Or.inl rfl) | exact Or.inr (Or.inr rfl)) (by decide) (by decide)) (@pa_u _ _ _ _ _ (@pv _ 2 _ _ (by rfl) (by first | exact Or.inl rfl | exact Or.inr (Or.inl rfl) | exact Or.inr (Or.inr rfl)) (by decide) (by decide)) (@pa_nil _) (by rfl)) (by rfl)) (by rfl)) (by rfl) (by decide))))), rfl, ?_⟩
  walk_at "cl"
  have pt : ∀ H', Cur K ns t H H' → ∀ p, H' p = none → Q (.ref p) (upd H' p (.tup [.str "point"])) := fun H' C' p hp =>
    q .pt _ _ trivial (Nat.zero_le _) (Nat.zero_le _) (C'.new hp _) (.newT hp (.cons (dstr "point") .nil))
  walk_at "st"
  refine ite2 (fun c => ⟨small6 (by simp), pt H T.cur⟩) (fun c => ?_)
  refine draw_of T fun r1 H1 r10 r11 c1 => ?_
  walk_at "rd"
  refine ite2 (fun z => ⟨small6 (by simp), pt H1 c1⟩) (fun z => ?_)
  exact ⟨t, dp, th, rfl, by omega, dpn, th0, c1.tape, fun rl r H2 a b c C d => q rl r H2 a b c (c1.then C) d⟩
theorem all_rule {n : Nat} (Fr : Df K mg "_law_rule" s_law_rule ["_law_tape_here", "_law_deep", "_law_thin"]) (Fu : Df K mg "_law_unit" s_law_unit ["_law_tape_here", "_law_deep", "_law_thin"]) (m_min : mg "min" = none)
    (d_law_draw : Dn P w K mg base k "_law_draw" ["_law_tape_here", "_law_many"] (spDraw K ns)) : Dn P w K mg base (k + 2 * n) "_law_rule" ["_law_tape_here", "_law_deep", "_law_thin"] (spRule K ns n) := by
  induction n with
  | zero => exact Fr.void fun vs H Q E ⟨_, _, _, _, h, h1, _⟩ => by omega
  | succ n ih => exact ok_law_rule Fr (d_law_draw.mono (Nat.le_add_right k _)) (ok_law_unit Fu m_min (d_law_draw.mono (Nat.le_add_right k _)) ih)
theorem ok_law_any_rule (F : Df K mg "_law_any_rule" s_law_any_rule ["_law_tape_here"]) (d_law_draw : Dn P w K mg base k "_law_draw" ["_law_tape_here", "_law_many"] (spDraw K ns))
    (d_law_rule : Dn P w K mg base k "_law_rule" ["_law_tape_here", "_law_deep", "_law_thin"] (spRule K ns 5)) : Dn P w K mg base (k + 1) "_law_any_rule" ["_law_tape_here"] (spAny K ns) := by
  refine F.ok sc_law_any_rule (fun vs H Q E h => ?_) (fun f cdv A outer s H vs Q E hr h => ?_)
  · obtain ⟨t, rfl, _⟩ := h; rfl
  obtain ⟨t, rfl, T, q⟩ := h
  refine ⟨_, [some _, none], 
      (@pss_cons _ _ _ _ _ (@ps_set _ _ 1 _ _ _ _ sc_law_any_rule.nd rfl (Or.inl rfl) (@pe_callD _ _ _ _ _ _ _ _ _ _ d_law_draw hr rfl (@pa_u _ _ _ _ _ (@pv _ 0 _ _ (by rfl) (by first | exact Or.inl rfl | exact Or.inr (Or.inl rfl) | exact Or.inr (Or.inr rfl)) (by decide) (by decide)) (@pa_u _ _ _ _ _ (@pe_int _ _ _ _) (@pa_nil _) (by rfl)) (by rfl)) (by rfl) (by decide)) (by rfl) (by first | exact .inl rfl | exact .inr rfl | assumption)) (@pss_one _ _ _ (@ps_ret _ _ _ _ (@pe_callD _ _ _ _ _ _ _ _ _ _ d_law_rule hr rfl (@pa_u _ _ _ _ _ (@pv _ 0 _ _ (by rfl) (by first | exact Or.inl rfl | exact Or.inr (Or.inl rfl) | exact Or.inr (Or.inr rfl)) (by decide) (by decide)) (@pa_u _ _ _ _ _ (@pe_ix _ _ _ _ _ _ _ ix_list (@pe_lst _ _ _ _ (@pa_u _ _ _ _ _ (@pe_int _ _ _ _) (@pa_u _ _ _ _ _ (@pe_int _ _ _ _) (@pa_u _ _ _ _ _ (@pe_int _ _ _ _) (@pa_u _ _ _ _ _ (@pe_int _ _ _ _) (@pa_u _ _ _ _ _ (@pe_int _ _ _ _) (@pa_u _ _ _ _ _ (@pe_int _ _ _ _) (@pa_nil _) (by rfl)) (by rfl)) (by rfl)) (by rfl)) (by rfl)) (by rfl))) (@pv _ 1 _ _ (by rfl) (by first | exact Or.inl rfl | exact Or.inr (Or.inl rfl) | exact Or.inr (Or.inr rfl)) (by decide) (by decide)) (fun _ _ => rfl)) (@pa_u _ _ _ _ _ (@pe_ix _ _ _ _ _ _ _ ix_list (@pe_lst _ _ _ _ (@pa_u _ _ _ _ _ (@pe_int _ _ _ _) (@pa_u _ _ _ _ _ (@pe_int _ _ _ _) (@pa_u _ _ _ _ _ (@pe_int _ _ _ _) (@pa_u _ _ _ _ _ (@pe_int _ _ _ _) (@pa_u _ _ _ _ _ (@pe_int _ _ _ _) (@pa_u _ _ _ _ _ (@pe_int _ _ _ _) (@pa_nil _) (by rfl)) (by rfl)) (by rfl)) (by rfl)) (by rfl)) (by rfl))) (@pv _ 1 _ _ (by rfl) (by first | exact Or.inl rfl | exact Or.inr (Or.inl rfl) | exact Or.inr (Or.inr rfl)) (by decide) (by decide)) (fun _ _ => rfl)) (@pa_nil _) (by rfl)) (by rfl)) (by rfl)) (by rfl) (by decide))))), rfl, ?_⟩
  walk_at "cl"
  walk_at "st"
  refine draw_of T fun r1 H1 r10 r11 c1 => ?_
  walk_at "rd"
  refine ⟨small6 (by simp), fun p1 hp1 => ⟨_, .of upd_same, ?_⟩⟩
  have cs : r1 = 0 ∨ r1 = 1 ∨ r1 = 2 ∨ r1 = 3 ∨ r1 = 4 ∨ r1 = 5 := by omega
  rcases cs with rfl | rfl | rfl | rfl | rfl | rfl <;>
    exact ⟨_, rfl, small6 (by simp), fun p hp => ⟨_, .of upd_same, _, rfl, t, _, _, rfl, by decide, by decide, by decide, (c1.tape.new hp1 _).new hp _,
      fun rl r H2 a b c C d => q rl r H2 a (Nat.le_trans b (by decide)) (Nat.le_trans c (by decide)) (((c1.new hp1 _).new hp _).then C) d⟩⟩
end
end My
namespace My
open PySem L2 M
section
variable (K : PySem.W.Frag) (ns : List Int)
def spGreat : Sp := fun vs H Q _ => ∃ t sc, vs = [.ref t] ∧ TapeS K ns t sc H ∧ ∀ r H', 0 ≤ r → r ≤ 999999 → CurS K ns t sc H H' → Q (.int r) H'
def spNames : Sp := fun vs H Q _ => ∃ (t sc : Addr) (m : Nat), vs = [.ref t, .int m] ∧ 1 ≤ m ∧ m ≤ 30 ∧ TapeS K ns t sc H ∧ ∀ a (ws : List Str) H', CurS K ns t sc H H' → H a = none → H' a = some (.lst (ws.map V.str)) → ws.length = m → ws.Nodup → (∀ w ∈ ws, asc w ∧ nmL w) → Q (.ref a) H'
def spThrows : Sp := fun vs H Q _ => ∃ (t sc na : Addr) (ws : List Str) (c : Int), vs = [.ref t, .ref na, .int c] ∧ TapeS K ns t sc H ∧ na ≠ t ∧ H na = some (.lst (ws.map V.str)) ∧ 1 ≤ ws.length ∧ ws.length ≤ 30 ∧ (∀ w ∈ ws, asc w) ∧ 1 ≤ c ∧ c ≤ 1000000 ∧
  ∀ a vs (ths : List Th) H', CurS K ns t sc H H' → SqT K H' a vs → ThL K H' ths vs → ths.map (·.nm) = ws → (∀ x ∈ ths, 0 ≤ x.wo ∧ x.wo ≤ 1000000) → Q (.ref a) H'
end
section
variable {P : Program} {w : World} {K : PySem.W.Frag} {mg : Str → Option Value} {base : Heap} {ns : List Int} {k : Nat}
theorem ok_law_great (F : Df K mg "_law_great" s_law_great ["_law_tape_here"]) (d_law_draw : Dn P w K mg base k "_law_draw" ["_law_tape_here", "_law_many"] (spDrawS K ns)) : Dn P w K mg base (k + 1) "_law_great" ["_law_tape_here"] (spGreat K ns) := by
  refine F.ok sc_law_great (fun vs H Q E h => ?_) (fun f cdv A outer s H vs Q E hr h => ?_)
  · obtain ⟨t, sc, rfl, _⟩ := h; rfl
  obtain ⟨t, sc, rfl, T, q⟩ := h
  refine ⟨_, [some _], (@pss_one _ _ _ (@ps_ret _ _ _ _ (@pe_op _ _ _ _ _ _ _ _ op_add (@pe_op _ _ _ _ _ _ _ _ op_mul (@pe_int _ _ _ _) (@pe_callD _ _ _ _ _ _ _ _ _ _ d_law_draw hr rfl (@pa_u _ _ _ _ _ (@pv _ 0 _ _ (by rfl) (by first | exact Or.inl rfl | exact Or.inr (Or.inl rfl) | exact Or.inr (Or.inr rfl)) (by decide) (by decide)) (@pa_u _ _ _ _ _ (@pe_int _ _ _ _) (@pa_nil _) (by rfl)) (by rfl)) (by rfl) (by decide))) (@pe_callD _ _ _ _ _ _ _ _ _ _ d_law_draw hr rfl (@pa_u _ _ _ _ _ (@pv _ 0 _ _ (by rfl) (by first | exact Or.inl rfl | exact Or.inr (Or.inl rfl) | exact Or.inr (Or.inr rfl)) (by decide) (by decide)) (@pa_u _ _ _ _ _ (@pe_int _ _ _ _) (@pa_nil _) (by rfl)) (by rfl)) (by rfl) (by decide))))), rfl, ?_⟩
  walk_at "cl"
  walk_at "rd"
  refine drawS_of T fun r1 H1 r10 r11 c1 => ?_
  walk_at "rd"
  refine ⟨cmul_l (by omega) (by omega), drawS_of c1.tape fun r2 H2 r20 r21 c2 => ?_⟩
  walk_at "rd"
  exact q _ _ (by omega) (by omega) (c1.then c2)
theorem small16' {n : Nat} (h : n ≤ 1000000) : n ≤ sizeLine := Nat.le_of_lt (small16 h)
theorem iteA {a b X Y : Prop} [Decidable a] [Decidable b] (h1 : a ∧ b → X) (h2 : ¬ (a ∧ b) → Y) : if a then (if b then X else Y) else Y :=
  ite2 (fun ca => ite2 (fun cb => h1 ⟨ca, cb⟩) fun cb => h2 fun z => cb z.2) fun ca => h2 fun z => ca z.1
theorem atS {z : Str} {i : Int} (h0 : 0 ≤ i) (h1 : i < z.cps.toList.length) : ∃ c, atI z.cps.toList i = some c ∧ c ∈ z.cps.toList := by
  have hi : i.toNat < z.cps.toList.length := by omega
  have e := atI_nat (List.getElem?_eq_getElem hi)
  rw [show ((i.toNat : Nat) : Int) = i by omega] at e
  exact ⟨_, e, List.getElem_mem _⟩
theorem sgns_of {n : Nat} : ∀ {ys : List V}, (∀ y ∈ ys, ∃ c : Nat, y = .str (sgn c) ∧ low c = true) → ys.length = n → ∃ cs : List Nat, ys = (cs.map sgn).map V.str ∧ cs.length = n ∧ ∀ c ∈ cs, low c = true := by
  intro ys
  induction ys generalizing n with
  | nil => intro _ h; exact ⟨[], rfl, h, fun c hc => nomatch hc⟩
  | cons y ys ih =>
    intro h hn
    obtain ⟨c, rfl, hc⟩ := h y (List.mem_cons_self ..)
    obtain ⟨cs, rfl, h1, h2⟩ := ih (n := ys.length) (fun z hz => h z (List.mem_cons_of_mem _ hz)) rfl
    refine ⟨c :: cs, rfl, by rw [List.length_cons, h1]; exact hn, fun d hd => ?_⟩
    rcases List.mem_cons.mp hd with rfl | hd
    · exact hc
    · exact h2 d hd
theorem word_list (cs : List Nat) : (Txt.join "" (cs.map sgn)).cps.toList = cs := by
  unfold Txt.join
  rw [StrLaws.glued_eq_join]
  exact join_sgn cs
theorem ok_law_names (F : Df K mg "_law_names" s_law_names ["_law_tape_here", "_law_many"]) (m_range : mg "range" = none) (d_law_draw : Dn P w K mg base k "_law_draw" ["_law_tape_here", "_law_many"] (spDrawS K ns)) : Dn P w K mg base (k + 1) "_law_names" ["_law_tape_here", "_law_many"] (spNames K ns) := by
  refine F.ok sc_law_names (fun vs H Q E h => ?_) (fun f cdv A outer s H vs Q E hr h => ?_)
  · obtain ⟨t, sc, m, rfl, _⟩ := h; rfl
  obtain ⟨t, sc, m, rfl, m0, m1, T, q⟩ := h
  refine ⟨_, [some _, some _, none, none, none, none, none, none, none, none, none], 
      (@pss_cons _ _ _ _ _ (@ps_set _ _ 2 _ _ _ _ sc_law_names.nd rfl (Or.inr rfl) (@pe_str _ _ _ _) (by rfl) (by first | exact .inl rfl | exact .inr rfl | assumption)) 
      (@pss_cons _ _ _ _ _ (@ps_set _ _ 3 _ _ _ _ sc_law_names.nd rfl (Or.inr rfl) (@pe_bm _ _ _ _ _ _ _ _ _ _ _ _ PySem.F.plainAttrs_str PySem.F.slot_str_join PySem.F.type_str_join mt_join (@pe_str _ _ _ _) (@pa_u _ _ _ _ _ (@pe_comp _ _ _ _ _ _ _ _ _ _ _ _ _ rfl (compCap (N := ["_law_tape_here", "_law_many", "_law_letters", "_law_word", "_law_way", "_law_turn", "_law_names_here", "_law_size", "_law_at", "_law_signs", "_law_start"]) (fr := ["_law_tape_here", "_law_letters"]) (osc := defScope s_law_names) rfl rfl (by decide +kernel) rfl rfl (by intro p hp; simp only [List.mem_cons, List.not_mem_nil, or_false] at hp; rcases hp with rfl | rfl <;> rfl)) (@pi_range1 _ _ _ _ _ _ rfl m_range (@pa_u _ _ _ _ _ (@pe_int _ _ _ _) (@pa_nil _) (by rfl)) (by rfl)) (fun _ _ _ _ => (@pts_nil _)) (fun _ _ _ _ => (@pe_ix _ _ _ _ _ _ _ ix_str (@pv _ 3 _ _ (by rfl) (by first | exact Or.inl rfl | exact Or.inr (Or.inl rfl) | exact Or.inr (Or.inr rfl)) (by decide) (by decide)) (@pe_callD _ _ _ _ _ _ _ _ _ _ d_law_draw hr rfl (@pa_u _ _ _ _ _ (@pv _ 1 _ _ (by rfl) (by first | exact Or.inl rfl | exact Or.inr (Or.inl rfl) | exact Or.inr (Or.inr rfl)) (by decide) (by decide)) (@pa_u _ _ _ _ _ (@pe_int _ _ _ _) (@pa_nil _) (by rfl)) (by rfl)) (by rfl) (by decide)) (fun _ _ => rfl))) (by intro _; rfl)) (@pa_nil _) (by rfl)) (by rfl) (by rfl) (by rfl) (by rfl) (by rfl)) (by rfl) (by first | exact .inl rfl | exact .inr rfl | assumption)) 
      (@pss_cons _ _ _ _ _ (@ps_set _ _ 4 _ _ _ _ sc_law_names.nd rfl (Or.inl rfl) (@pe_callD _ _ _ _ _ _ _ _ _ _ d_law_draw hr rfl (@pa_u _ _ _ _ _ (@pv _ 0 _ _ (by rfl) (by first | exact Or.inl rfl | exact Or.inr (Or.inl rfl) | exact Or.inr (Or.inr rfl)) (by decide) (by decide)) (@pa_u _ _ _ _ _ (@pe_int _ _ _ _) (@pa_nil _) (by rfl)) (by rfl)) (by rfl) (by decide)) (by rfl) (by first | exact .inl rfl | exact .inr rfl | assumption)) 
      (@pss_cons _ _ _ _ _ (@ps_set _ _ 5 _ _ _ _ sc_law_names.nd rfl (Or.inl rfl) (@pe_callD _ _ _ _ _ _ _ _ _ _ d_law_draw hr rfl (@pa_u _ _ _ _ _ (@pv _ 0 _ _ (by rfl) (by first | exact Or.inl rfl | exact Or.inr (Or.inl rfl) | exact Or.inr (Or.inr rfl)) (by decide) (by decide)) (@pa_u _ _ _ _ _ (@pe_int _ _ _ _) (@pa_nil _) (by rfl)) (by rfl)) (by rfl) (by decide)) (by rfl) (by first | exact .inl rfl | exact .inr rfl | assumption)) 
      (@pss_cons _ _ _ _ _ (@ps_if _ _ _ _ _ _ _ _ (@PW.pt _ _ _ (@pw_and _ _ _ _ _ _ _ (@pt_cmpR _ _ _ _ _ _ _ _ op_le (@pv _ 1 _ _ (by rfl) (by first | exact Or.inl rfl | exact Or.inr (Or.inl rfl) | exact Or.inr (Or.inr rfl)) (by decide) (by decide)) (@pe_int _ _ _ _) (nomark _)) (@pw_and1 _ _ _ _ (@pt_cmpR _ _ _ _ _ _ _ _ op_eq (@pv _ 4 _ _ (by rfl) (by first | exact Or.inl rfl | exact Or.inr (Or.inl rfl) | exact Or.inr (Or.inr rfl)) (by decide) (by decide)) (@pe_int _ _ _ _) (nomark _))))) 
      (@pss_cons _ _ _ _ _ (@ps_setComp _ _ _ _ _ _ _ _ _ _ _ _ _ _ _ 6 _ rfl sc_law_names.nd rfl (Or.inl rfl) (compCap (N := ["_law_tape_here", "_law_many", "_law_letters", "_law_word", "_law_way", "_law_turn", "_law_names_here", "_law_size", "_law_at", "_law_signs", "_law_start"]) (fr := ["_law_word"]) (osc := defScope s_law_names) rfl rfl (by decide +kernel) rfl rfl (by intro p hp; simp only [List.mem_cons, List.not_mem_nil, or_false] at hp; rcases hp with rfl <;> rfl)) (@pi_range1 _ _ _ _ _ _ rfl m_range (@pa_u _ _ _ _ _ (@pe_int _ _ _ _) (@pa_nil _) (by rfl)) (by rfl)) (fun _ _ _ _ => (@pts_nil _)) (fun _ _ _ _ => (@pe_slice _ _ _ _ _ _ _ _ _ _ sl_str (@pv _ 4 _ _ (by rfl) (by first | exact Or.inl rfl | exact Or.inr (Or.inl rfl) | exact Or.inr (Or.inr rfl)) (by decide) (by decide)) (@po_none _) (@po_some _ _ _ (@pe_op _ _ _ _ _ _ _ _ op_add (@pv _ 0 _ _ (by rfl) (by first | exact Or.inl rfl | exact Or.inr (Or.inl rfl) | exact Or.inr (Or.inr rfl)) (by decide) (by decide)) (@pe_int _ _ _ _))))) (by rfl) (by intro _; rfl) (by first | exact .inl rfl | exact .inr rfl | assumption)) (@pss_one _ _ _ (@ps_ret _ _ _ _ (@pe_slice _ _ _ _ _ _ _ _ _ _ sl_list (@pe_op _ _ _ _ _ _ _ _ op_cat (@pe_slice _ _ _ _ _ _ _ _ _ _ sl_list (@pv _ 6 _ _ (by rfl) (by first | exact Or.inl rfl | exact Or.inr (Or.inl rfl) | exact Or.inr (Or.inr rfl)) (by decide) (by decide)) (@po_some _ _ _ (@pv _ 5 _ _ (by rfl) (by first | exact Or.inl rfl | exact Or.inr (Or.inl rfl) | exact Or.inr (Or.inr rfl)) (by decide) (by decide))) (@po_none _)) (@pe_slice _ _ _ _ _ _ _ _ _ _ sl_list (@pv _ 6 _ _ (by rfl) (by first | exact Or.inl rfl | exact Or.inr (Or.inl rfl) | exact Or.inr (Or.inr rfl)) (by decide) (by decide)) (@po_none _) (@po_some _ _ _ (@pv _ 5 _ _ (by rfl) (by first | exact Or.inl rfl | exact Or.inr (Or.inl rfl) | exact Or.inr (Or.inr rfl)) (by decide) (by decide))))) (@po_none _) (@po_some _ _ _ (@pv _ 1 _ _ (by rfl) (by first | exact Or.inl rfl | exact Or.inr (Or.inl rfl) | exact Or.inr (Or.inr rfl)) (by decide) (by decide))))))) (@pss_nil _)) 
      (@pss_cons _ _ _ _ _ (@ps_set _ _ 7 _ _ _ _ sc_law_names.nd rfl (Or.inr rfl) (@pe_op _ _ _ _ _ _ _ _ op_add (@pe_int _ _ _ _) (@pe_callD _ _ _ _ _ _ _ _ _ _ d_law_draw hr rfl (@pa_u _ _ _ _ _ (@pv _ 0 _ _ (by rfl) (by first | exact Or.inl rfl | exact Or.inr (Or.inl rfl) | exact Or.inr (Or.inr rfl)) (by decide) (by decide)) (@pa_u _ _ _ _ _ (@pe_int _ _ _ _) (@pa_nil _) (by rfl)) (by rfl)) (by rfl) (by decide))) (by rfl) (by first | exact .inl rfl | exact .inr rfl | assumption)) 
      (@pss_cons _ _ _ _ _ (@ps_set _ _ 8 _ _ _ _ sc_law_names.nd rfl (Or.inr rfl) (@pe_op _ _ _ _ _ _ _ _ op_add (@pe_int _ _ _ _) (@pe_callD _ _ _ _ _ _ _ _ _ _ d_law_draw hr rfl (@pa_u _ _ _ _ _ (@pv _ 0 _ _ (by rfl) (by first | exact Or.inl rfl | exact Or.inr (Or.inl rfl) | exact Or.inr (Or.inr rfl)) (by decide) (by decide)) (@pa_u _ _ _ _ _ (@pe_op _ _ _ _ _ _ _ _ op_sub (@pv _ 7 _ _ (by rfl) (by first | exact Or.inl rfl | exact Or.inr (Or.inl rfl) | exact Or.inr (Or.inr rfl)) (by decide) (by decide)) (@pe_int _ _ _ _)) (@pa_nil _) (by rfl)) (by rfl)) (by rfl) (by decide))) (by rfl) (by first | exact .inl rfl | exact .inr rfl | assumption)) 
      (@pss_cons _ _ _ _ _ (@ps_set _ _ 9 _ _ _ _ sc_law_names.nd rfl (Or.inr rfl) (@pe_op _ _ _ _ _ _ _ _ op_addS (@pv _ 2 _ _ (by rfl) (by first | exact Or.inl rfl | exact Or.inr (Or.inl rfl) | exact Or.inr (Or.inr rfl)) (by decide) (by decide)) (@pe_str _ _ _ _)) (by rfl) (by first | exact .inl rfl | exact .inr rfl | assumption)) 
      (@pss_cons _ _ _ _ _ (@ps_set _ _ 10 _ _ _ _ sc_law_names.nd rfl (Or.inr rfl) (@pe_callD _ _ _ _ _ _ _ _ _ _ d_law_draw hr rfl (@pa_u _ _ _ _ _ (@pv _ 0 _ _ (by rfl) (by first | exact Or.inl rfl | exact Or.inr (Or.inl rfl) | exact Or.inr (Or.inr rfl)) (by decide) (by decide)) (@pa_u _ _ _ _ _ (@pe_int _ _ _ _) (@pa_nil _) (by rfl)) (by rfl)) (by rfl) (by decide)) (by rfl) (by first | exact .inl rfl | exact .inr rfl | assumption)) (@pss_one _ _ _ (@ps_ret _ _ _ _ (@pe_comp _ _ _ _ _ _ _ _ _ _ _ _ _ rfl (compCap (N := ["_law_tape_here", "_law_many", "_law_letters", "_law_word", "_law_way", "_law_turn", "_law_names_here", "_law_size", "_law_at", "_law_signs", "_law_start"]) (fr := ["_law_word", "_law_start", "_law_size", "_law_signs", "_law_at"]) (osc := defScope s_law_names) rfl rfl (by decide +kernel) rfl rfl (by intro p hp; simp only [List.mem_cons, List.not_mem_nil, or_false] at hp; rcases hp with rfl | rfl | rfl | rfl | rfl <;> rfl)) (@pi_range1 _ _ _ _ _ _ rfl m_range (@pa_u _ _ _ _ _ (@pv _ 1 _ _ (by rfl) (by first | exact Or.inl rfl | exact Or.inr (Or.inl rfl) | exact Or.inr (Or.inr rfl)) (by decide) (by decide)) (@pa_nil _) (by rfl)) (by rfl)) (fun _ _ _ _ => (@pts_nil _)) (fun _ _ _ _ => (@pe_op _ _ _ _ _ _ _ _ op_addS (@pe_op _ _ _ _ _ _ _ _ op_addS (@pe_slice _ _ _ _ _ _ _ _ _ _ sl_str (@pv _ 4 _ _ (by rfl) (by first | exact Or.inl rfl | exact Or.inr (Or.inl rfl) | exact Or.inr (Or.inr rfl)) (by decide) (by decide)) (@po_none _) (@po_some _ _ _ (@pv _ 9 _ _ (by rfl) (by first | exact Or.inl rfl | exact Or.inr (Or.inl rfl) | exact Or.inr (Or.inr rfl)) (by decide) (by decide)))) (@pe_ix _ _ _ _ _ _ _ ix_str (@pv _ 10 _ _ (by rfl) (by first | exact Or.inl rfl | exact Or.inr (Or.inl rfl) | exact Or.inr (Or.inr rfl)) (by decide) (by decide)) (@pe_op _ _ _ _ _ _ _ _ op_mod (@pe_op _ _ _ _ _ _ _ _ op_add (@pv _ 11 _ _ (by rfl) (by first | exact Or.inl rfl | exact Or.inr (Or.inl rfl) | exact Or.inr (Or.inr rfl)) (by decide) (by decide)) (@pe_op _ _ _ _ _ _ _ _ op_mul (@pe_int _ _ _ _) (@pv _ 0 _ _ (by rfl) (by first | exact Or.inl rfl | exact Or.inr (Or.inl rfl) | exact Or.inr (Or.inr rfl)) (by decide) (by decide)))) (@pe_int _ _ _ _)) (fun _ _ => rfl))) (@pe_slice _ _ _ _ _ _ _ _ _ _ sl_str (@pv _ 4 _ _ (by rfl) (by first | exact Or.inl rfl | exact Or.inr (Or.inl rfl) | exact Or.inr (Or.inr rfl)) (by decide) (by decide)) (@po_some _ _ _ (@pe_op _ _ _ _ _ _ _ _ op_add (@pv _ 9 _ _ (by rfl) (by first | exact Or.inl rfl | exact Or.inr (Or.inl rfl) | exact Or.inr (Or.inr rfl)) (by decide) (by decide)) (@pe_int _ _ _ _))) (@po_some _ _ _ (@pv _ 8 _ _ (by rfl) (by first | exact Or.inl rfl | exact Or.inr (Or.inl rfl) | exact Or.inr (Or.inr rfl)) (by decide) (by decide)))))) (by intro _; rfl))))))))))))), rfl, ?_⟩
  walk_at "cl"
  walk_at "st"
  walk_at "st"
  refine ⟨rfl, comp_draw (m := 8) (fun y => ∃ c : Nat, y = .str (sgn c) ∧ low c = true) (fun R h => h) (by decide) T (fun i H' hi C' Q' hq => ?_) (fun D1 ys1 H1 C1 hD1 hD1' hl1 hP1 => ?_)⟩
  · walk_at "rd"
    refine drawS_of C'.tape fun r1 H1 r10 r11 c1 => ?_
    walk_at "rd"
    obtain ⟨c, hc, hm⟩ := atS (z := letters) r10 (by rw [letters_len]; omega)
    exact ⟨c, small16' (by decide +kernel), hc, hq _ _ ⟨c, rfl, letters_low c hm⟩ c1⟩
  obtain ⟨cs, rfl, hc8, hcs⟩ := sgns_of hP1 hl1
  refine ⟨_, D1, _, rfl, rfl, .of hD1', ?_, ?_⟩
  · unfold JoinOk
    rw [StrLaws.joinFits (B := 1)]
    · rfl
    · intro y hy
      obtain ⟨c, _, rfl⟩ := List.mem_map.mp hy
      exact Nat.le_refl _
    · rw [List.length_map, hc8]
      decide +kernel
  have hwl := word_list cs
  generalize Txt.join "" (cs.map sgn) = wd at hwl ⊢
  have hw8 : wd.length = 8 := by rw [len_toList, hwl, hc8]
  have hwlow : ∀ c ∈ wd.cps.toList, low c = true := fun c hc => by rw [hwl] at hc; exact hcs c hc
  have hwa : asc wd := fun c hc => low_asc (hwlow c hc)
  have C1' := C1
  walk_at "st"
  refine drawS_of C1.tape fun r2 H2 r20 r21 c2 => ?_
  walk_at "st"
  refine drawS_of c2.tape fun r3 H3 r30 r31 c3 => ?_
  have C3 := (C1.then c2).then c3
  have hlw : ∀ k, (nameA wd k).length ≤ 100 := fun k => Nat.le_trans lenA (by omega)
  walk_at "st"
  refine iteA (fun c => ?_) (fun c => ?_)
  · walk_at "st"
    refine comp_rg (m := 8) (fun i => .str (nameA wd i)) (fun R h => h) (by decide) (fun i H' hi S' Q' hq => ?_) (fun D4 H4 S4 hD4 hD4' => ?_)
    · walk_at "rd"
      refine ⟨small16' (by omega), ?_⟩
      have := hq _ (.refl _)
      rw [show (0 : Int) + (i : Int) + 1 = (i : Int) + 1 by omega]
      exact this
    have exs : (List.range 8).map (fun i => V.str (nameA wd i)) = ((List.range 8).map (nameA wd)).map V.str := by rw [List.map_map]; rfl
    rw [exs] at hD4'
    have hnd : ((List.range 8).map (nameA wd)).Nodup := nodupA (by omega)
    have hpr : ∀ u ∈ (List.range 8).map (nameA wd), asc u ∧ nmL u := fun u hu => by
      obtain ⟨i, hi, rfl⟩ := List.mem_map.mp hu
      exact ⟨ascA hwa, nmA hw8 (List.mem_range.mp hi) hwlow⟩
    have hl8 : ((List.range 8).map (nameA wd)).length = 8 := by simp
    generalize (List.range 8).map (nameA wd) = ws at hD4' hnd hpr hl8
    have e3 : r3 = ((r3.toNat : Nat) : Int) := by omega
    have C4 := C3.same S4
    refine ⟨D4, _, rfl, .of hD4', fun p5 hp5 => ?_⟩
    have s5 := same_new hp5 (.lst (cutV (ws.map V.str) (some r3) none))
    refine ⟨D4, _, rfl, .of (s5 _ _ hD4'), fun p6 hp6 => ?_⟩
    have s6 := same_new hp6 (.lst (cutV (ws.map V.str) none (some r3)))
    have l5 := s6 _ _ (show (upd H4 p5 (.lst (cutV (ws.map V.str) (some r3) none))) p5 = _ from upd_same)
    have e5 : cutV (ws.map V.str) (some r3) none = (ws.drop r3.toNat).map V.str := by
      rw [e3, cutV_dropL (by rw [List.length_map]; omega), List.map_drop]; rfl
    have e6 : cutV (ws.map V.str) none (some r3) = (ws.take r3.toNat).map V.str := by
      rw [e3, cutV_take, List.map_take]; rfl
    rw [e5, e6] at l5
    rw [e5] at s5 hp6
    rw [e5, e6] at s6 ⊢
    refine cat_of l5 upd_same (smallA ?_) fun p7 hp7 => ?_
    · rw [List.length_map, List.length_map, List.length_drop, List.length_take]; omega
    rw [← List.map_append]
    have s7 := same_new hp7 (.lst ((ws.drop r3.toNat ++ ws.take r3.toNat).map V.str))
    refine ⟨p7, _, rfl, .of upd_same, fun p8 hp8 => ?_⟩
    have s8 := same_new hp8 (.lst (cutV ((ws.drop r3.toNat ++ ws.take r3.toNat).map V.str) none (some (m : Int))))
    rw [cutV_take, ← List.map_take] at s8 ⊢
    have SS := ((s5.trans s6).trans s7).trans s8
    refine q p8 ((ws.drop r3.toNat ++ ws.take r3.toNat).take m) _ (C4.same SS) ?_ upd_same ?_ (rot_nodup _ _ hnd) ?_
    · exact C4.free' (((s5.trans s6).trans s7).free hp8)
    · rw [List.length_take, List.length_append, List.length_drop, List.length_take]
      omega
    · intro u hu
      have := List.mem_of_mem_take hu
      rcases List.mem_append.mp this with z | z
      · exact hpr u (List.mem_of_mem_drop z)
      · exact hpr u (List.mem_of_mem_take z)
  · walk_at "st"
    refine drawS_of C3.tape fun r4 H4 r40 r41 c4 => ?_
    walk_at "st"
    refine drawS_of c4.tape (fun r5 H5 r50 r51 c5 => ?_) (by omega) (by omega)
    walk_at "st"
    refine ⟨small16' (by decide +kernel), ?_⟩
    walk_at "st"
    refine drawS_of c5.tape fun r6 H6 r60 r61 c6 => ?_
    have C6 := ((C3.then c4).then c5).then c6
    walk_at "rd"
    have e1 : (1 : Int) + r5 = ((1 + r5.toNat : Nat) : Int) := by omega
    have e6 : r6 = ((r6.toNat : Nat) : Int) := by omega
    refine comp_rg (m := m) (fun i => .str (nameB wd (1 + r5.toNat) (2 + r4) (signAt r6.toNat i))) (fun R h => h) (by omega) (fun i H' hi S' Q' hq => ?_) (fun D7 H7 S7 hD7 hD7' => ?_)
    · walk_at "rd"
      have hi' : ((r6 + 5 * (0 + (i : Int))) % 36) = (((r6.toNat + 5 * i) % 36 : Nat) : Int) := by rw [Int.natCast_emod]; congr 1; omega
      have hsl1 := Txt.slice_le wd none (some (1 + r5))
      have hsl2 := Txt.slice_le wd (some (1 + r5 + 1)) (some (2 + r4))
      have hs1 : (sgn (signAt r6.toNat i)).length = 1 := rfl
      refine ⟨small16' (by omega), cmul_l (by omega) (by omega), by decide, signAt r6.toNat i, small16' (by decide +kernel), ?_, ?_, small16' (by omega), ?_, ?_⟩
      · rw [hi']
        exact atI_nat (signAt_some _ _)
      · exact small16' (by show _ + (sgn (signAt r6.toNat i)).length ≤ _; omega)
      · refine small16' ?_
        show (Txt.slice wd none (some (1 + r5)) ++ sgn (signAt r6.toNat i)).length + _ ≤ _
        rw [app_len]
        omega
      · have := hq _ (.refl _)
        unfold nameB at this
        rw [e1]
        exact this
    · have exs : (List.range m).map (fun i => V.str (nameB wd (1 + r5.toNat) (2 + r4) (signAt r6.toNat i))) = ((List.range m).map fun i => nameB wd (1 + r5.toNat) (2 + r4) (signAt r6.toNat i)).map V.str := by rw [List.map_map]; rfl
      rw [exs] at hD7'
      refine q D7 _ H7 (C6.same S7) (C6.free' hD7) hD7' (by simp) (nodupB (by omega) (by omega)) fun u hu => ?_
      obtain ⟨i, _, rfl⟩ := List.mem_map.mp hu
      have hnb := nmB (w := wd) (a := 1 + r5.toNat) (sz := 2 + r4.toNat) (c := signAt r6.toNat i) hw8 (by omega) (by omega) (by omega) hwlow (signs_ld _ (List.mem_of_getElem? (signAt_some _ _)))
      rw [show ((2 + r4.toNat : Nat) : Int) = 2 + r4 by omega] at hnb
      exact ⟨ascB hwa (signAt_asc _ _), hnb⟩
theorem CurS.at {t sc p : Addr} {H H1 : Hp} {xs : List V} (c : CurS K ns t sc H H1) (n : p ≠ t) (h : H p = some (.lst xs)) : H1 p = some (.lst xs) := c.ext _ _ (fun z => absurd z n) h
theorem ok_law_throws (F : Df K mg "_law_throws" s_law_throws ["_law_tape_here", "_law_names_here", "_law_count"]) (m_tuple : mg "tuple" = none) (d_law_draw : Dn P w K mg base k "_law_draw" ["_law_tape_here", "_law_many"] (spDrawS K ns)) (d_law_great : Dn P w K mg base k "_law_great" ["_law_tape_here"] (spGreat K ns)) : Dn P w K mg base (k + 1) "_law_throws" ["_law_tape_here", "_law_names_here", "_law_count"] (spThrows K ns) := by
  refine F.ok sc_law_throws (fun vs H Q E h => ?_) (fun f cdv A outer s H vs Q E hr h => ?_)
  · obtain ⟨t, sc, na, ws, c, rfl, _⟩ := h; rfl
  obtain ⟨t, sc, na, ws, c, rfl, T, hnt, hna, hw1, hw30, hasc, hc1, hc2, q⟩ := h
  refine ⟨_, [some _, some _, some _, none, none, none], 
      (@pss_cons _ _ _ _ _ (@ps_set _ _ 3 _ _ _ _ sc_law_throws.nd rfl (Or.inl rfl) (@pe_lst _ _ _ _ (@pa_nil _)) (by rfl) (by first | exact .inl rfl | exact .inr rfl | assumption)) 
      (@pss_cons _ _ _ _ _ (@ps_for _ _ _ _ _ _ _ _ PassesOwn.never rfl (@pi_list _ _ _ _ (@pv _ 1 _ _ (by rfl) (by first | exact Or.inl rfl | exact Or.inr (Or.inl rfl) | exact Or.inr (Or.inr rfl)) (by decide) (by decide))) (@pg_name _ _ 4 _ sc_law_throws.nd rfl (Or.inl rfl) (by first | exact .inl rfl | exact .inr rfl | assumption)) 
      (@pss_cons _ _ _ _ _ (@ps_set _ _ 5 _ _ _ _ sc_law_throws.nd rfl (Or.inl rfl) (@pe_lst _ _ _ _ (@pa_u _ _ _ _ _ (@pe_callD _ _ _ _ _ _ _ _ _ _ d_law_draw hr rfl (@pa_u _ _ _ _ _ (@pv _ 0 _ _ (by rfl) (by first | exact Or.inl rfl | exact Or.inr (Or.inl rfl) | exact Or.inr (Or.inr rfl)) (by decide) (by decide)) (@pa_u _ _ _ _ _ (@pe_int _ _ _ _) (@pa_nil _) (by rfl)) (by rfl)) (by rfl) (by decide)) (@pa_u _ _ _ _ _ (@pe_callD _ _ _ _ _ _ _ _ _ _ d_law_draw hr rfl (@pa_u _ _ _ _ _ (@pv _ 0 _ _ (by rfl) (by first | exact Or.inl rfl | exact Or.inr (Or.inl rfl) | exact Or.inr (Or.inr rfl)) (by decide) (by decide)) (@pa_u _ _ _ _ _ (@pe_int _ _ _ _) (@pa_nil _) (by rfl)) (by rfl)) (by rfl) (by decide)) (@pa_u _ _ _ _ _ (@pe_op _ _ _ _ _ _ _ _ op_fdiv (@pv _ 2 _ _ (by rfl) (by first | exact Or.inl rfl | exact Or.inr (Or.inl rfl) | exact Or.inr (Or.inr rfl)) (by decide) (by decide)) (@pe_int _ _ _ _)) (@pa_u _ _ _ _ _ (@pe_op _ _ _ _ _ _ _ _ op_sub (@pv _ 2 _ _ (by rfl) (by first | exact Or.inl rfl | exact Or.inr (Or.inl rfl) | exact Or.inr (Or.inr rfl)) (by decide) (by decide)) (@pe_callD _ _ _ _ _ _ _ _ _ _ d_law_draw hr rfl (@pa_u _ _ _ _ _ (@pv _ 0 _ _ (by rfl) (by first | exact Or.inl rfl | exact Or.inr (Or.inl rfl) | exact Or.inr (Or.inr rfl)) (by decide) (by decide)) (@pa_u _ _ _ _ _ (@pv _ 2 _ _ (by rfl) (by first | exact Or.inl rfl | exact Or.inr (Or.inl rfl) | exact Or.inr (Or.inr rfl)) (by decide) (by decide)) (@pa_nil _) (by rfl)) (by rfl)) (by rfl) (by decide))) (@pa_nil _) (by rfl)) (by rfl)) (by rfl)) (by rfl))) (by rfl) (by first | exact .inl rfl | exact .inr rfl | assumption)) 
      (@pss_cons _ _ _ _ _ (@ps_expr _ _ _ _ (@pe_bm _ _ _ _ _ _ _ _ _ _ _ _ PySem.F.plainAttrs_list PySem.F.slot_list_append PySem.F.type_list_append mt_append (@pv _ 5 _ _ (by rfl) (by first | exact Or.inl rfl | exact Or.inr (Or.inl rfl) | exact Or.inr (Or.inr rfl)) (by decide) (by decide)) (@pa_u _ _ _ _ _ (@pe_op _ _ _ _ _ _ _ _ op_add (@pe_callD _ _ _ _ _ _ _ _ _ _ d_law_great hr rfl (@pa_u _ _ _ _ _ (@pv _ 0 _ _ (by rfl) (by first | exact Or.inl rfl | exact Or.inr (Or.inl rfl) | exact Or.inr (Or.inr rfl)) (by decide) (by decide)) (@pa_nil _) (by rfl)) (by rfl) (by decide)) (@pe_callD _ _ _ _ _ _ _ _ _ _ d_law_draw hr rfl (@pa_u _ _ _ _ _ (@pv _ 0 _ _ (by rfl) (by first | exact Or.inl rfl | exact Or.inr (Or.inl rfl) | exact Or.inr (Or.inr rfl)) (by decide) (by decide)) (@pa_u _ _ _ _ _ (@pe_int _ _ _ _) (@pa_nil _) (by rfl)) (by rfl)) (by rfl) (by decide))) (@pa_nil _) (by rfl)) (by rfl) (by rfl) (by rfl) (by rfl) (by rfl)) (by rfl)) (@pss_one _ _ _ (@ps_expr _ _ _ _ (@pe_bm _ _ _ _ _ _ _ _ _ _ _ _ PySem.F.plainAttrs_list PySem.F.slot_list_append PySem.F.type_list_append mt_append (@pv _ 3 _ _ (by rfl) (by first | exact Or.inl rfl | exact Or.inr (Or.inl rfl) | exact Or.inr (Or.inr rfl)) (by decide) (by decide)) (@pa_u _ _ _ _ _ (@pe_tup _ _ _ _ _ (@pa_u _ _ _ _ _ (@pv _ 4 _ _ (by rfl) (by first | exact Or.inl rfl | exact Or.inr (Or.inl rfl) | exact Or.inr (Or.inr rfl)) (by decide) (by decide)) (@pa_u _ _ _ _ _ (@pe_ix _ _ _ _ _ _ _ ix_list (@pv _ 5 _ _ (by rfl) (by first | exact Or.inl rfl | exact Or.inr (Or.inl rfl) | exact Or.inr (Or.inr rfl)) (by decide) (by decide)) (@pe_callD _ _ _ _ _ _ _ _ _ _ d_law_draw hr rfl (@pa_u _ _ _ _ _ (@pv _ 0 _ _ (by rfl) (by first | exact Or.inl rfl | exact Or.inr (Or.inl rfl) | exact Or.inr (Or.inr rfl)) (by decide) (by decide)) (@pa_u _ _ _ _ _ (@pe_int _ _ _ _) (@pa_nil _) (by rfl)) (by rfl)) (by rfl) (by decide)) (fun _ _ => rfl)) (@pa_u _ _ _ _ _ (@pe_cmpR _ _ _ _ _ _ _ _ op_eq (@pe_callD _ _ _ _ _ _ _ _ _ _ d_law_draw hr rfl (@pa_u _ _ _ _ _ (@pv _ 0 _ _ (by rfl) (by first | exact Or.inl rfl | exact Or.inr (Or.inl rfl) | exact Or.inr (Or.inr rfl)) (by decide) (by decide)) (@pa_u _ _ _ _ _ (@pe_int _ _ _ _) (@pa_nil _) (by rfl)) (by rfl)) (by rfl) (by decide)) (@pe_int _ _ _ _) (nomark _)) (@pa_nil _) (by rfl)) (by rfl)) (by rfl))) (@pa_nil _) (by rfl)) (by rfl) (by rfl) (by rfl) (by rfl) (by rfl)) (by rfl))))) (by intro _; rfl)) (@pss_one _ _ _ (@ps_ret _ _ _ _ (@pe_callTu _ _ _ _ _ _ _ _ _ call_tuple_of rfl m_tuple bt_tuple (@pa_u _ _ _ _ _ (@pv _ 3 _ _ (by rfl) (by first | exact Or.inl rfl | exact Or.inr (Or.inl rfl) | exact Or.inr (Or.inr rfl)) (by decide) (by decide)) (@pa_nil _) (by rfl)) (by rfl) (by decide) (by decide)))))), rfl, ?_⟩
  walk_at "cl"
  have hwl : (ws.map V.str).length = ws.length := List.length_map ..
  walk_at "st"
  refine ⟨small6 (by simp), fun D hD => ?_⟩
  have C0 : CurS K ns t sc H (upd H D (.lst [])) := T.cur.keep T hD
  have hD0 : (upd H D (.lst [])) D = some (.lst []) := upd_same
  have hna0 := same_new hD (.lst []) _ _ hna
  have hDt : D ≠ t := T.ne hD
  have hDn : D ≠ na := (ne_of_none hna hD).symm
  generalize upd H D (.lst []) = H0 at C0 hD0 hna0 ⊢
  walk_at "st"
  refine ⟨⟨_, .of hna0⟩, lst_of (xs := ws.map V.str) (fun i σ' H' => ∃ (ths : List Th) (vs : List V) (x1 x2 : Option V), σ' = [some (.ref t), some (.ref na), some (.int c), some (.ref D), x1, x2] ∧ H' D = some (.lst vs) ∧ ThL K H' ths vs ∧ ths.map (·.nm) = ws.take i ∧ (∀ x ∈ ths, 0 ≤ x.wo ∧ x.wo ≤ 1000000) ∧ CurS K ns t sc H H' ∧ H' na = some (.lst (ws.map V.str))) ⟨[], [], none, none, rfl, hD0, .nil, by simp, (fun x hx => nomatch hx), C0, hna0⟩ (fun i σ' H' _ h => ?_) ?_ ?_⟩
  · obtain ⟨_, _, _, _, _, _, _, _, _, _, h⟩ := h; exact .of h
  · rintro Pv hP i x _ H1 hx ⟨ths, vs, x1, x2, rfl, hD1, hth, hnm, hbd, C1, hna1⟩
    have hi : i < ws.length := by
      have := (List.getElem?_eq_some_iff.mp hx).1
      rwa [hwl] at this
    have hxe : x = .str ws[i] := by
      rw [List.getElem?_map, List.getElem?_eq_getElem hi] at hx
      exact (Option.some.inj hx).symm
    subst hxe
    have hvl : vs.length ≤ 30 := by
      have e1 := congrArg List.length hnm
      rw [List.length_map, List.length_take] at e1
      have := hth.len
      omega
    walk_at "st"
    refine drawS_of C1.tape fun r1 H2 r10 r11 c2 => ?_
    walk_at "rd"
    refine drawS_of c2.tape fun r2 H3 r20 r21 c3 => ?_
    walk_at "rd"
    refine ⟨⟨by decide, by decide⟩, drawS_of c3.tape (fun r3 H4 r30 r31 c4 => ?_) (by omega) (by omega)⟩
    have c14 := (c2.then c3).then c4
    walk_at "rd"
    refine ⟨small6 (by simp), fun W hW => ?_⟩
    have C4 := C1.then c14
    have hWH : H W = none := C4.free' hW
    have hD4 := CurS.at c14 hDt hD1
    have hna4 := CurS.at c14 hnt hna1
    have hWD : W ≠ D := (ne_of_none hD4 hW).symm
    have hWn : W ≠ na := (ne_of_none hna4 hW).symm
    have hWt : W ≠ t := c4.tape.ne hW
    have s5 := same_new hW (.lst [V.int r1, V.int r2, V.int (c / 2), V.int (c - r3)])
    have C5 : CurS K ns t sc H (upd H4 W (.lst [V.int r1, V.int r2, V.int (c / 2), V.int (c - r3)])) := C4.keep T hWH
    have hW5 : (upd H4 W (.lst [V.int r1, V.int r2, V.int (c / 2), V.int (c - r3)])) W = some (.lst [V.int r1, V.int r2, V.int (c / 2), V.int (c - r3)]) := upd_same
    have hD5 := s5 _ _ hD4
    have hna5 := s5 _ _ hna4
    have tk5 : Tk K H1 (upd H4 W (.lst [V.int r1, V.int r2, V.int (c / 2), V.int (c - r3)])) := c14.ext.tk.trans s5.tk
    generalize upd H4 W (.lst [V.int r1, V.int r2, V.int (c / 2), V.int (c - r3)]) = H5 at s5 C5 hW5 hD5 hna5 tk5 ⊢
    walk_at "st"
    refine ⟨.inl ⟨rfl, _, .of hW5⟩, t, sc, rfl, C5.tape, fun r6 H6 r60 r61 c6 => ?_⟩
    walk_at "rd"
    refine drawS_of c6.tape fun r7 H7 r70 r71 c7 => ?_
    have c57 := c6.then c7
    have hW7 := CurS.at c57 hWt hW5
    have hD7 := CurS.at c57 hDt hD5
    have hna7 := CurS.at c57 hnt hna5
    walk_at "rd"
    refine ⟨W, _, _, rfl, rfl, hW7, small1000 (by simp), ?_⟩
    have tk8 : Tk K H1 (upd H7 W (.lst ([V.int r1, V.int r2, V.int (c / 2), V.int (c - r3)] ++ [V.int (r6 + r7)]))) := tk5.trans (c57.ext.tk.trans (Tk.updL hW7))
    have C8 : CurS K ns t sc H (upd H7 W (.lst ([V.int r1, V.int r2, V.int (c / 2), V.int (c - r3)] ++ [V.int (r6 + r7)]))) := (C5.then c57).keep T hWH
    have hW8 : (upd H7 W (.lst ([V.int r1, V.int r2, V.int (c / 2), V.int (c - r3)] ++ [V.int (r6 + r7)]))) W = some (.lst [V.int r1, V.int r2, V.int (c / 2), V.int (c - r3), V.int (r6 + r7)]) := upd_same
    have hD8 : (upd H7 W (.lst ([V.int r1, V.int r2, V.int (c / 2), V.int (c - r3)] ++ [V.int (r6 + r7)]))) D = some (.lst vs) := by rw [upd_ne hWD.symm]; exact hD7
    have hna8 : (upd H7 W (.lst ([V.int r1, V.int r2, V.int (c / 2), V.int (c - r3)] ++ [V.int (r6 + r7)]))) na = some (.lst (ws.map V.str)) := by rw [upd_ne hWn.symm]; exact hna7
    generalize upd H7 W (.lst ([V.int r1, V.int r2, V.int (c / 2), V.int (c - r3)] ++ [V.int (r6 + r7)])) = H8 at tk8 C8 hW8 hD8 hna8 ⊢
    walk_at "rd"
    refine ⟨.inl ⟨rfl, _, .of hD8⟩, drawS_of C8.tape fun r9 H9 r90 r91 c9 => ?_⟩
    have hW9 := CurS.at c9 hWt hW8
    walk_at "rd"
    obtain ⟨v9, hv9, m9⟩ := atMem (xs := [V.int r1, V.int r2, V.int (c / 2), V.int (c - r3), V.int (r6 + r7)]) (i := r9) (by omega) (by simp; omega)
    obtain ⟨wo, rfl, wo0, wo1⟩ : ∃ k : Int, v9 = .int k ∧ 0 ≤ k ∧ k ≤ 1000000 := by
      simp at m9
      rcases m9 with rfl | rfl | rfl | rfl | rfl <;> exact ⟨_, rfl, by omega, by omega⟩
    refine ⟨_, .of hW9, _, hv9, drawS_of c9.tape fun r10' H10 r100 r101 c10 => ?_⟩
    have c910 := c9.then c10
    walk_at "rd"
    refine ⟨small6 (by simp), fun p11 hp11 => ?_⟩
    have s11 := same_new hp11 (.tup [V.str ws[i], V.int wo, V.bl (decide (r10' = 0))])
    have hD10 := CurS.at c910 hDt hD8
    refine ⟨D, _, _, rfl, rfl, s11 _ _ hD10, small1000 (by omega), ?_⟩
    have hna11 := s11 _ _ (CurS.at c910 hnt hna8)
    have tk11 : Tk K H1 (upd H10 p11 (.tup [V.str ws[i], V.int wo, V.bl (decide (r10' = 0))])) := tk8.trans (c910.ext.tk.trans s11.tk)
    have tk12 : Tk K (upd H10 p11 (.tup [V.str ws[i], V.int wo, V.bl (decide (r10' = 0))])) (upd (upd H10 p11 (.tup [V.str ws[i], V.int wo, V.bl (decide (r10' = 0))])) D (.lst (vs ++ [.ref p11]))) := Tk.updL (s11 _ _ hD10)
    have hnew : ThV K (upd H10 p11 (.tup [V.str ws[i], V.int wo, V.bl (decide (r10' = 0))])) ⟨ws[i], wo, decide (r10' = 0)⟩ (.ref p11) := th_mk (.of upd_same) (asc_ok (hasc _ (List.getElem_mem _)))
    refine hP _ _ _ ⟨ths ++ [⟨ws[i], wo, decide (r10' = 0)⟩], vs ++ [.ref p11], _, _, rfl, upd_same, ((hth.tk tk11).snoc hnew).tk tk12, ?_, ?_, ?_, ?_⟩
    · rw [List.map_append, hnm, List.take_add_one, List.getElem?_eq_getElem hi]
      rfl
    · intro y hy
      rcases List.mem_append.mp hy with z | z
      · exact hbd y z
      · rw [List.mem_singleton.mp z]
        exact ⟨wo0, wo1⟩
    · exact (((C8.then c910).keep T ((C8.then c910).free' hp11))).keep T hD
    · rw [upd_ne hDn.symm]; exact hna11
  · rintro _ H1 ⟨ths, vs, x1, x2, rfl, hD1, hth, hnm, hbd, C1, hna1⟩
    rw [hwl, List.take_length] at hnm
    walk_at "rd"
    refine ⟨D, _, rfl, .inl ⟨.of hD1, fun l hl => ?_⟩⟩
    have s2 := same_new hl (.tup vs)
    exact q l vs ths _ (C1.same s2) (.of upd_same) (hth.same s2) hnm hbd
end
end My
namespace My
open PySem L2 M
section
variable (K : PySem.W.Frag) (ns : List Int)
def spDown : Sp := fun vs H Q _ => ∃ t sc, vs = [.ref t] ∧ TapeS K ns t sc H ∧ ∀ (da : Addr) (n : Nat) (b tr : Int) (ths : List Th) H', CurS K ns t sc H H' → DwV K H' n b tr ths da → 1 ≤ n → n ≤ 3 → 1 ≤ b → b ≤ 1000000 → 1 ≤ tr → tr ≤ 3 → 1 ≤ ths.length → ths.length ≤ 30 → (ths.map (·.nm)).Nodup → (∀ x ∈ ths, asc x.nm ∧ nmL x.nm ∧ 0 ≤ x.wo ∧ x.wo ≤ 1000000) → Q (.ref da) H'
end
section
variable {P : Program} {w : World} {K : PySem.W.Frag} {mg : Str → Option Value} {base : Heap} {ns : List Int} {k : Nat}
theorem ok_law_down (F : Df K mg "_law_down" s_law_down ["_law_tape_here"]) (d_law_draw : Dn P w K mg base k "_law_draw" ["_law_tape_here", "_law_many"] (spDrawS K ns)) (d_law_great : Dn P w K mg base k "_law_great" ["_law_tape_here"] (spGreat K ns)) (d_law_names : Dn P w K mg base k "_law_names" ["_law_tape_here", "_law_many"] (spNames K ns)) (d_law_throws : Dn P w K mg base k "_law_throws" ["_law_tape_here", "_law_names_here", "_law_count"] (spThrows K ns)) : Dn P w K mg base (k + 1) "_law_down" ["_law_tape_here"] (spDown K ns) := by
  refine F.ok sc_law_down (fun vs H Q E h => ?_) (fun f cdv A outer s H vs Q E hr h => ?_)
  · obtain ⟨t, sc, rfl, _⟩ := h; rfl
  obtain ⟨t, sc, rfl, T, q⟩ := h
  refine ⟨_, [some _, none, none, none, none], 
      (@pss_cons _ _ _ _ _ (@ps_set _ _ 1 _ _ _ _ sc_law_down.nd rfl (Or.inl rfl) (@pe_ix _ _ _ _ _ _ _ ix_list (@pe_lst _ _ _ _ (@pa_u _ _ _ _ _ (@pe_op _ _ _ _ _ _ _ _ op_add (@pe_int _ _ _ _) (@pe_callD _ _ _ _ _ _ _ _ _ _ d_law_draw hr rfl (@pa_u _ _ _ _ _ (@pv _ 0 _ _ (by rfl) (by first | exact Or.inl rfl | exact Or.inr (Or.inl rfl) | exact Or.inr (Or.inr rfl)) (by decide) (by decide)) (@pa_u _ _ _ _ _ (@pe_int _ _ _ _) (@pa_nil _) (by rfl)) (by rfl)) (by rfl) (by decide))) (@pa_u _ _ _ _ _ (@pe_op _ _ _ _ _ _ _ _ op_add (@pe_int _ _ _ _) (@pe_callD _ _ _ _ _ _ _ _ _ _ d_law_draw hr rfl (@pa_u _ _ _ _ _ (@pv _ 0 _ _ (by rfl) (by first | exact Or.inl rfl | exact Or.inr (Or.inl rfl) | exact Or.inr (Or.inr rfl)) (by decide) (by decide)) (@pa_u _ _ _ _ _ (@pe_int _ _ _ _) (@pa_nil _) (by rfl)) (by rfl)) (by rfl) (by decide))) (@pa_nil _) (by rfl)) (by rfl))) (@pe_op _ _ _ _ _ _ _ _ op_fdiv (@pe_callD _ _ _ _ _ _ _ _ _ _ d_law_draw hr rfl (@pa_u _ _ _ _ _ (@pv _ 0 _ _ (by rfl) (by first | exact Or.inl rfl | exact Or.inr (Or.inl rfl) | exact Or.inr (Or.inr rfl)) (by decide) (by decide)) (@pa_u _ _ _ _ _ (@pe_int _ _ _ _) (@pa_nil _) (by rfl)) (by rfl)) (by rfl) (by decide)) (@pe_int _ _ _ _)) (fun _ _ => rfl)) (by rfl) (by first | exact .inl rfl | exact .inr rfl | assumption)) 
      (@pss_cons _ _ _ _ _ (@ps_set _ _ 2 _ _ _ _ sc_law_down.nd rfl (Or.inl rfl) (@pe_lst _ _ _ _ (@pa_u _ _ _ _ _ (@pe_op _ _ _ _ _ _ _ _ op_add (@pe_int _ _ _ _) (@pe_callD _ _ _ _ _ _ _ _ _ _ d_law_draw hr rfl (@pa_u _ _ _ _ _ (@pv _ 0 _ _ (by rfl) (by first | exact Or.inl rfl | exact Or.inr (Or.inl rfl) | exact Or.inr (Or.inr rfl)) (by decide) (by decide)) (@pa_u _ _ _ _ _ (@pe_int _ _ _ _) (@pa_nil _) (by rfl)) (by rfl)) (by rfl) (by decide))) (@pa_u _ _ _ _ _ (@pe_op _ _ _ _ _ _ _ _ op_add (@pe_int _ _ _ _) (@pe_callD _ _ _ _ _ _ _ _ _ _ d_law_draw hr rfl (@pa_u _ _ _ _ _ (@pv _ 0 _ _ (by rfl) (by first | exact Or.inl rfl | exact Or.inr (Or.inl rfl) | exact Or.inr (Or.inr rfl)) (by decide) (by decide)) (@pa_u _ _ _ _ _ (@pe_int _ _ _ _) (@pa_nil _) (by rfl)) (by rfl)) (by rfl) (by decide))) (@pa_u _ _ _ _ _ (@pe_op _ _ _ _ _ _ _ _ op_add (@pe_int _ _ _ _) (@pe_callD _ _ _ _ _ _ _ _ _ _ d_law_great hr rfl (@pa_u _ _ _ _ _ (@pv _ 0 _ _ (by rfl) (by first | exact Or.inl rfl | exact Or.inr (Or.inl rfl) | exact Or.inr (Or.inr rfl)) (by decide) (by decide)) (@pa_nil _) (by rfl)) (by rfl) (by decide))) (@pa_nil _) (by rfl)) (by rfl)) (by rfl))) (by rfl) (by first | exact .inl rfl | exact .inr rfl | assumption)) 
      (@pss_cons _ _ _ _ _ (@ps_set _ _ 3 _ _ _ _ sc_law_down.nd rfl (Or.inl rfl) (@pe_ix _ _ _ _ _ _ _ ix_list (@pv _ 2 _ _ (by rfl) (by first | exact Or.inl rfl | exact Or.inr (Or.inl rfl) | exact Or.inr (Or.inr rfl)) (by decide) (by decide)) (@pe_callD _ _ _ _ _ _ _ _ _ _ d_law_draw hr rfl (@pa_u _ _ _ _ _ (@pv _ 0 _ _ (by rfl) (by first | exact Or.inl rfl | exact Or.inr (Or.inl rfl) | exact Or.inr (Or.inr rfl)) (by decide) (by decide)) (@pa_u _ _ _ _ _ (@pe_int _ _ _ _) (@pa_nil _) (by rfl)) (by rfl)) (by rfl) (by decide)) (fun _ _ => rfl)) (by rfl) (by first | exact .inl rfl | exact .inr rfl | assumption)) 
      (@pss_cons _ _ _ _ _ (@ps_set _ _ 4 _ _ _ _ sc_law_down.nd rfl (Or.inl rfl) (@pe_callD _ _ _ _ _ _ _ _ _ _ d_law_throws hr rfl (@pa_u _ _ _ _ _ (@pv _ 0 _ _ (by rfl) (by first | exact Or.inl rfl | exact Or.inr (Or.inl rfl) | exact Or.inr (Or.inr rfl)) (by decide) (by decide)) (@pa_u _ _ _ _ _ (@pe_callD _ _ _ _ _ _ _ _ _ _ d_law_names hr rfl (@pa_u _ _ _ _ _ (@pv _ 0 _ _ (by rfl) (by first | exact Or.inl rfl | exact Or.inr (Or.inl rfl) | exact Or.inr (Or.inr rfl)) (by decide) (by decide)) (@pa_u _ _ _ _ _ (@pv _ 1 _ _ (by rfl) (by first | exact Or.inl rfl | exact Or.inr (Or.inl rfl) | exact Or.inr (Or.inr rfl)) (by decide) (by decide)) (@pa_nil _) (by rfl)) (by rfl)) (by rfl) (by decide)) (@pa_u _ _ _ _ _ (@pv _ 3 _ _ (by rfl) (by first | exact Or.inl rfl | exact Or.inr (Or.inl rfl) | exact Or.inr (Or.inr rfl)) (by decide) (by decide)) (@pa_nil _) (by rfl)) (by rfl)) (by rfl)) (by rfl) (by decide)) (by rfl) (by first | exact .inl rfl | exact .inr rfl | assumption)) (@pss_one _ _ _ (@ps_ret _ _ _ _ (@pe_tup _ _ _ _ _ (@pa_u _ _ _ _ _ (@pe_op _ _ _ _ _ _ _ _ op_add (@pe_int _ _ _ _) (@pe_callD _ _ _ _ _ _ _ _ _ _ d_law_draw hr rfl (@pa_u _ _ _ _ _ (@pv _ 0 _ _ (by rfl) (by first | exact Or.inl rfl | exact Or.inr (Or.inl rfl) | exact Or.inr (Or.inr rfl)) (by decide) (by decide)) (@pa_u _ _ _ _ _ (@pe_int _ _ _ _) (@pa_nil _) (by rfl)) (by rfl)) (by rfl) (by decide))) (@pa_u _ _ _ _ _ (@pv _ 3 _ _ (by rfl) (by first | exact Or.inl rfl | exact Or.inr (Or.inl rfl) | exact Or.inr (Or.inr rfl)) (by decide) (by decide)) (@pa_u _ _ _ _ _ (@pe_op _ _ _ _ _ _ _ _ op_add (@pe_int _ _ _ _) (@pe_callD _ _ _ _ _ _ _ _ _ _ d_law_draw hr rfl (@pa_u _ _ _ _ _ (@pv _ 0 _ _ (by rfl) (by first | exact Or.inl rfl | exact Or.inr (Or.inl rfl) | exact Or.inr (Or.inr rfl)) (by decide) (by decide)) (@pa_u _ _ _ _ _ (@pe_int _ _ _ _) (@pa_nil _) (by rfl)) (by rfl)) (by rfl) (by decide))) (@pa_u _ _ _ _ _ (@pv _ 4 _ _ (by rfl) (by first | exact Or.inl rfl | exact Or.inr (Or.inl rfl) | exact Or.inr (Or.inr rfl)) (by decide) (by decide)) (@pa_nil _) (by rfl)) (by rfl)) (by rfl)) (by rfl))))))))), rfl, ?_⟩
  walk_at "cl"
  walk_at "st"
  refine drawS_of T fun r1 H1 r10 r11 c1 => ?_
  walk_at "rd"
  refine drawS_of c1.tape fun r2 H2 r20 r21 c2 => ?_
  walk_at "rd"
  have C2 := c1.then c2
  refine ⟨small6 (by simp), fun p1 hp1 => drawS_of (C2.tape.same (same_new hp1 _)) fun r3 H3 r30 r31 c3 => ?_⟩
  have s3 : SqL K H3 p1 [V.int (1 + r1), V.int (1 + r2)] := c3.ext.sqL (C2.tape.ne hp1) (.of upd_same)
  have C3 : CurS K ns t sc H H3 := (C2.new hp1).then c3
  walk_at "rd"
  obtain ⟨v3, hv3, m3⟩ := atMem (xs := [V.int (1 + r1), V.int (1 + r2)]) (i := r3 / 7) (by omega) (by simp; omega)
  obtain ⟨mn, rfl, mn0, mn1⟩ : ∃ k : Nat, v3 = .int k ∧ 1 ≤ k ∧ k ≤ 30 := by
    simp at m3
    rcases m3 with rfl | rfl
    · exact ⟨(1 + r1).toNat, by rw [Int.toNat_of_nonneg (by omega)], by omega, by omega⟩
    · exact ⟨(1 + r2).toNat, by rw [Int.toNat_of_nonneg (by omega)], by omega, by omega⟩
  refine ⟨⟨by decide, by decide⟩, _, s3, _, hv3, ?_⟩
  walk_at "st"
  refine drawS_of C3.tape fun r4 H4 r40 r41 c4 => ?_
  walk_at "rd"
  refine drawS_of c4.tape fun r5 H5 r50 r51 c5 => ?_
  walk_at "rd"
  refine ⟨t, sc, rfl, c5.tape, fun r6 H6 r60 r61 c6 => ?_⟩
  walk_at "rd"
  refine ⟨small6 (by simp), fun p2 hp2 => ?_⟩
  have C6 := ((C3.then c4).then c5).then c6
  have C7 : CurS K ns t sc H (upd H6 p2 (.lst [V.int (1 + r4), V.int (1 + r5), V.int (1 + r6)])) := C6.new hp2
  have h7 : (upd H6 p2 (.lst [V.int (1 + r4), V.int (1 + r5), V.int (1 + r6)])) p2 = some (.lst [V.int (1 + r4), V.int (1 + r5), V.int (1 + r6)]) := upd_same
  have n7 : p2 ≠ t := c6.tape.ne hp2
  generalize upd H6 p2 (.lst [V.int (1 + r4), V.int (1 + r5), V.int (1 + r6)]) = H7 at C7 h7 ⊢
  walk_at "st"
  refine drawS_of C7.tape fun r8 H8 r80 r81 c8 => ?_
  have s8 : SqL K H8 p2 [V.int (1 + r4), V.int (1 + r5), V.int (1 + r6)] := c8.ext.sqL n7 (.of h7)
  walk_at "rd"
  obtain ⟨v8, hv8, m8⟩ := atMem (xs := [V.int (1 + r4), V.int (1 + r5), V.int (1 + r6)]) (i := r8) (by omega) (by simp; omega)
  obtain ⟨bg, rfl, bg0, bg1⟩ : ∃ k : Int, v8 = .int k ∧ 1 ≤ k ∧ k ≤ 1000000 := by
    simp at m8
    rcases m8 with rfl | rfl | rfl <;> exact ⟨_, rfl, by omega, by omega⟩
  have C8 := C7.then c8
  refine ⟨_, s8, _, hv8, ?_⟩
  walk_at "st"
  refine ⟨t, sc, mn, rfl, mn0, mn1, C8.tape, fun na ws H9 c9 hna0 hna hwl hnd hws => ?_⟩
  walk_at "rd"
  refine ⟨t, sc, na, ws, bg, rfl, c9.tape, C8.tape.ne hna0, hna, by omega, by omega, fun u hu => (hws u hu).1, bg0, bg1, fun ta vs ths H10 c10 hta htl hnm hbd => ?_⟩
  have C10 := (C8.then c9).then c10
  walk_at "rd"
  refine drawS_of C10.tape fun r11' H11 r110 r111 c11 => ?_
  walk_at "rd"
  refine drawS_of c11.tape fun r12 H12 r120 r121 c12 => ?_
  have c1012 := c11.then c12
  walk_at "rd"
  refine ⟨small6 (by simp), fun p3 hp3 => ?_⟩
  have s13 := same_new hp3 (.tup [V.int (1 + r11'), V.int bg, V.int (1 + r12), V.ref ta])
  have hlen : ths.length = ws.length := by rw [← hnm, List.length_map]
  have e1 : (1 : Int) + r11' = ((1 + r11'.toNat : Nat) : Int) := by omega
  rw [e1] at s13 ⊢
  refine q p3 (1 + r11'.toNat) bg (1 + r12) ths _ ((C10.then c1012).same s13) ⟨ta, vs, .of upd_same, Same.sqT (c1012.ext.tk _ _ hta) s13, (htl.tk c1012.ext.tk).same s13⟩ (by omega) (by omega) bg0 bg1 (by omega) (by omega) (by omega) (by omega) (by rw [hnm]; exact hnd) fun x hx => ?_
  have hxm : x.nm ∈ ws := by rw [← hnm]; exact List.mem_map_of_mem hx
  exact ⟨(hws _ hxm).1, (hws _ hxm).2, hbd x hx⟩
end
end My
namespace My
open PySem L2 M
section
variable (K : PySem.W.Frag) (ns : List Int)
def spLane : Sp := fun vs H Q _ => ∃ t sc, vs = [.ref t] ∧ TapeS K ns t sc H ∧ ∀ (la : Addr) (s : Nat) (p f : Int) H', 1 ≤ s → s ≤ 3 → 1 ≤ p → p ≤ 20 → 1 ≤ f → f ≤ 12 → CurS K ns t sc H H' → SqT K H' la [.int s, .int p, .int f] → Q (.ref la) H'
end
section
variable {P : Program} {w : World} {K : PySem.W.Frag} {mg : Str → Option Value} {base : Heap} {ns : List Int} {k : Nat}
theorem ok_law_lane (F : Df K mg "_law_lane" s_law_lane ["_law_tape_here"]) (d_law_draw : Dn P w K mg base k "_law_draw" ["_law_tape_here", "_law_many"] (spDrawS K ns)) : Dn P w K mg base (k + 1) "_law_lane" ["_law_tape_here"] (spLane K ns) := by
  refine F.ok sc_law_lane (fun vs H Q E h => ?_) (fun f cdv A outer s H vs Q E hr h => ?_)
  · obtain ⟨t, sc, rfl, _⟩ := h; rfl
  obtain ⟨t, sc, rfl, T, q⟩ := h
  refine ⟨_, [some _, none, none], 
      (@pss_cons _ _ _ _ _ (@ps_set _ _ 1 _ _ _ _ sc_law_lane.nd rfl (Or.inl rfl) (@pe_ix _ _ _ _ _ _ _ ix_list (@pe_lst _ _ _ _ (@pa_u _ _ _ _ _ (@pe_op _ _ _ _ _ _ _ _ op_add (@pe_int _ _ _ _) (@pe_callD _ _ _ _ _ _ _ _ _ _ d_law_draw hr rfl (@pa_u _ _ _ _ _ (@pv _ 0 _ _ (by rfl) (by first | exact Or.inl rfl | exact Or.inr (Or.inl rfl) | exact Or.inr (Or.inr rfl)) (by decide) (by decide)) (@pa_u _ _ _ _ _ (@pe_int _ _ _ _) (@pa_nil _) (by rfl)) (by rfl)) (by rfl) (by decide))) (@pa_u _ _ _ _ _ (@pe_int _ _ _ _) (@pa_u _ _ _ _ _ (@pe_op _ _ _ _ _ _ _ _ op_add (@pe_int _ _ _ _) (@pe_callD _ _ _ _ _ _ _ _ _ _ d_law_draw hr rfl (@pa_u _ _ _ _ _ (@pv _ 0 _ _ (by rfl) (by first | exact Or.inl rfl | exact Or.inr (Or.inl rfl) | exact Or.inr (Or.inr rfl)) (by decide) (by decide)) (@pa_u _ _ _ _ _ (@pe_int _ _ _ _) (@pa_nil _) (by rfl)) (by rfl)) (by rfl) (by decide))) (@pa_nil _) (by rfl)) (by rfl)) (by rfl))) (@pe_callD _ _ _ _ _ _ _ _ _ _ d_law_draw hr rfl (@pa_u _ _ _ _ _ (@pv _ 0 _ _ (by rfl) (by first | exact Or.inl rfl | exact Or.inr (Or.inl rfl) | exact Or.inr (Or.inr rfl)) (by decide) (by decide)) (@pa_u _ _ _ _ _ (@pe_int _ _ _ _) (@pa_nil _) (by rfl)) (by rfl)) (by rfl) (by decide)) (fun _ _ => rfl)) (by rfl) (by first | exact .inl rfl | exact .inr rfl | assumption)) 
      (@pss_cons _ _ _ _ _ (@ps_set _ _ 2 _ _ _ _ sc_law_lane.nd rfl (Or.inl rfl) (@pe_ix _ _ _ _ _ _ _ ix_list (@pe_lst _ _ _ _ (@pa_u _ _ _ _ _ (@pe_op _ _ _ _ _ _ _ _ op_add (@pe_int _ _ _ _) (@pe_callD _ _ _ _ _ _ _ _ _ _ d_law_draw hr rfl (@pa_u _ _ _ _ _ (@pv _ 0 _ _ (by rfl) (by first | exact Or.inl rfl | exact Or.inr (Or.inl rfl) | exact Or.inr (Or.inr rfl)) (by decide) (by decide)) (@pa_u _ _ _ _ _ (@pe_int _ _ _ _) (@pa_nil _) (by rfl)) (by rfl)) (by rfl) (by decide))) (@pa_u _ _ _ _ _ (@pe_op _ _ _ _ _ _ _ _ op_add (@pe_int _ _ _ _) (@pe_callD _ _ _ _ _ _ _ _ _ _ d_law_draw hr rfl (@pa_u _ _ _ _ _ (@pv _ 0 _ _ (by rfl) (by first | exact Or.inl rfl | exact Or.inr (Or.inl rfl) | exact Or.inr (Or.inr rfl)) (by decide) (by decide)) (@pa_u _ _ _ _ _ (@pe_int _ _ _ _) (@pa_nil _) (by rfl)) (by rfl)) (by rfl) (by decide))) (@pa_nil _) (by rfl)) (by rfl))) (@pe_callD _ _ _ _ _ _ _ _ _ _ d_law_draw hr rfl (@pa_u _ _ _ _ _ (@pv _ 0 _ _ (by rfl) (by first | exact Or.inl rfl | exact Or.inr (Or.inl rfl) | exact Or.inr (Or.inr rfl)) (by decide) (by decide)) (@pa_u _ _ _ _ _ (@pe_int _ _ _ _) (@pa_nil _) (by rfl)) (by rfl)) (by rfl) (by decide)) (fun _ _ => rfl)) (by rfl) (by first | exact .inl rfl | exact .inr rfl | assumption)) (@pss_one _ _ _ (@ps_ret _ _ _ _ (@pe_tup _ _ _ _ _ (@pa_u _ _ _ _ _ (@pe_op _ _ _ _ _ _ _ _ op_add (@pe_int _ _ _ _) (@pe_callD _ _ _ _ _ _ _ _ _ _ d_law_draw hr rfl (@pa_u _ _ _ _ _ (@pv _ 0 _ _ (by rfl) (by first | exact Or.inl rfl | exact Or.inr (Or.inl rfl) | exact Or.inr (Or.inr rfl)) (by decide) (by decide)) (@pa_u _ _ _ _ _ (@pe_int _ _ _ _) (@pa_nil _) (by rfl)) (by rfl)) (by rfl) (by decide))) (@pa_u _ _ _ _ _ (@pv _ 1 _ _ (by rfl) (by first | exact Or.inl rfl | exact Or.inr (Or.inl rfl) | exact Or.inr (Or.inr rfl)) (by decide) (by decide)) (@pa_u _ _ _ _ _ (@pv _ 2 _ _ (by rfl) (by first | exact Or.inl rfl | exact Or.inr (Or.inl rfl) | exact Or.inr (Or.inr rfl)) (by decide) (by decide)) (@pa_nil _) (by rfl)) (by rfl)) (by rfl))))))), rfl, ?_⟩
  walk_at "cl"
  walk_at "st"
  refine drawS_of T fun r1 H1 r10 r11 c1 => ?_
  walk_at "rd"
  refine drawS_of c1.tape fun r2 H2 r20 r21 c2 => ?_
  walk_at "rd"
  have C2 := c1.then c2
  refine ⟨small6 (by simp), fun p1 hp1 => drawS_of (C2.tape.same (same_new hp1 _)) fun r3 H3 r30 r31 c3 => ?_⟩
  have s3 : SqL K H3 p1 [V.int (1 + r1), V.int 10, V.int (1 + r2)] := c3.ext.sqL (C2.tape.ne hp1) (.of upd_same)
  have C3 : CurS K ns t sc H H3 := (C2.new hp1).then c3
  walk_at "rd"
  obtain ⟨v3, hv3, m3⟩ := atMem (xs := [V.int (1 + r1), V.int 10, V.int (1 + r2)]) (i := r3) (by omega) (by simp; omega)
  obtain ⟨pn, rfl, pn0, pn1⟩ : ∃ k : Int, v3 = .int k ∧ 1 ≤ k ∧ k ≤ 20 := by
    simp at m3
    rcases m3 with rfl | rfl | rfl
    · exact ⟨_, rfl, by omega, by omega⟩
    · exact ⟨_, rfl, by decide, by decide⟩
    · exact ⟨_, rfl, by omega, by omega⟩
  refine ⟨_, s3, _, hv3, ?_⟩
  walk_at "st"
  refine drawS_of C3.tape fun r4 H4 r40 r41 c4 => ?_
  walk_at "rd"
  refine drawS_of c4.tape fun r5 H5 r50 r51 c5 => ?_
  walk_at "rd"
  have C5 := (C3.then c4).then c5
  refine ⟨small6 (by simp), fun p2 hp2 => drawS_of (C5.tape.same (same_new hp2 _)) fun r6 H6 r60 r61 c6 => ?_⟩
  have s6 : SqL K H6 p2 [V.int (1 + r4), V.int (1 + r5)] := c6.ext.sqL (C5.tape.ne hp2) (.of upd_same)
  have C6 : CurS K ns t sc H H6 := (C5.new hp2).then c6
  walk_at "rd"
  obtain ⟨v6, hv6, m6⟩ := atMem (xs := [V.int (1 + r4), V.int (1 + r5)]) (i := r6) (by omega) (by simp; omega)
  obtain ⟨fr, rfl, fr0, fr1⟩ : ∃ k : Int, v6 = .int k ∧ 1 ≤ k ∧ k ≤ 12 := by
    simp at m6
    rcases m6 with rfl | rfl
    · exact ⟨_, rfl, by omega, by omega⟩
    · exact ⟨_, rfl, by omega, by omega⟩
  refine ⟨_, s6, _, hv6, ?_⟩
  walk_at "rd"
  refine drawS_of C6.tape fun r7 H7 r70 r71 c7 => ?_
  walk_at "rd"
  have C7 := C6.then c7
  refine ⟨small6 (by simp), fun p3 hp3 => ?_⟩
  have e : (1 : Int) + r7 = ((1 + r7.toNat : Nat) : Int) := by omega
  rw [e]
  exact q p3 (1 + r7.toNat) pn fr _ (by omega) (by omega) pn0 pn1 fr0 fr1 (C7.new hp3) (.of upd_same)
end
end My
namespace My
open PySem L2 M
section
variable (K : PySem.W.Frag) (ns : List Int)
def spGame : Sp := fun vs H Q _ => ∃ t, vs = [.ref t] ∧ Tape K ns t H ∧ ∀ g v H', Cur K ns t H H' → GmV K H' g v → GmOk g → Q v H'
end
section
variable {P : Program} {w : World} {K : PySem.W.Frag} {mg : Str → Option Value} {base : Heap} {ns : List Int} {k : Nat}
theorem ok_law_game (F : Df K mg "_law_game" s_law_game ["_law_tape_here"]) (d_law_draw : Dn P w K mg base k "_law_draw" ["_law_tape_here", "_law_many"] (spDraw K ns)) (d_law_any_rule : Dn P w K mg base k "_law_any_rule" ["_law_tape_here"] (spAny K ns)) (d_law_down : Dn P w K mg base k "_law_down" ["_law_tape_here"] (spDown K ns)) (d_law_lane : Dn P w K mg base k "_law_lane" ["_law_tape_here"] (spLane K ns)) : Dn P w K mg base (k + 1) "_law_game" ["_law_tape_here"] (spGame K ns) := by
  refine F.ok sc_law_game (fun vs H Q E h => ?_) (fun f cdv A outer s H vs Q E hr h => ?_)
  · obtain ⟨t, rfl, _⟩ := h; rfl
  obtain ⟨t, rfl, T, q⟩ := h
  refine ⟨_, [some _, none], 
      (@pss_cons _ _ _ _ _ (@ps_set _ _ 1 _ _ _ _ sc_law_game.nd rfl (Or.inl rfl) (@pe_callD _ _ _ _ _ _ _ _ _ _ d_law_draw hr rfl (@pa_u _ _ _ _ _ (@pv _ 0 _ _ (by rfl) (by first | exact Or.inl rfl | exact Or.inr (Or.inl rfl) | exact Or.inr (Or.inr rfl)) (by decide) (by decide)) (@pa_u _ _ _ _ _ (@pe_int _ _ _ _) (@pa_nil _) (by rfl)) (by rfl)) (by rfl) (by decide)) (by rfl) (by first | exact .inl rfl | exact .inr rfl | assumption)) 
      (@pss_cons _ _ _ _ _ (@ps_if _ _ _ _ _ _ _ _ (@pt_cmpR _ _ _ _ _ _ _ _ op_eq (@pv _ 1 _ _ (by rfl) (by first | exact Or.inl rfl | exact Or.inr (Or.inl rfl) | exact Or.inr (Or.inr rfl)) (by decide) (by decide)) (@pe_int _ _ _ _) (nomark _)) (@pss_one _ _ _ (@ps_ret _ _ _ _ (@pe_tup _ _ _ _ _ (@pa_u _ _ _ _ _ (@pe_str _ _ _ _) (@pa_u _ _ _ _ _ (@pe_callD _ _ _ _ _ _ _ _ _ _ d_law_any_rule hr rfl (@pa_u _ _ _ _ _ (@pv _ 0 _ _ (by rfl) (by first | exact Or.inl rfl | exact Or.inr (Or.inl rfl) | exact Or.inr (Or.inr rfl)) (by decide) (by decide)) (@pa_nil _) (by rfl)) (by rfl) (by decide)) (@pa_nil _) (by rfl)) (by rfl))))) (@pss_nil _)) 
      (@pss_cons _ _ _ _ _ (@ps_if _ _ _ _ _ _ _ _ (@pt_cmpR _ _ _ _ _ _ _ _ op_eq (@pv _ 1 _ _ (by rfl) (by first | exact Or.inl rfl | exact Or.inr (Or.inl rfl) | exact Or.inr (Or.inr rfl)) (by decide) (by decide)) (@pe_int _ _ _ _) (nomark _)) (@pss_one _ _ _ (@ps_ret _ _ _ _ (@pe_tup _ _ _ _ _ (@pa_u _ _ _ _ _ (@pe_str _ _ _ _) (@pa_u _ _ _ _ _ (@pe_callD _ _ _ _ _ _ _ _ _ _ d_law_down hr rfl (@pa_u _ _ _ _ _ (@pv _ 0 _ _ (by rfl) (by first | exact Or.inl rfl | exact Or.inr (Or.inl rfl) | exact Or.inr (Or.inr rfl)) (by decide) (by decide)) (@pa_nil _) (by rfl)) (by rfl) (by decide)) (@pa_nil _) (by rfl)) (by rfl))))) (@pss_nil _)) (@pss_one _ _ _ (@ps_ret _ _ _ _ (@pe_tup _ _ _ _ _ (@pa_u _ _ _ _ _ (@pe_str _ _ _ _) (@pa_u _ _ _ _ _ (@pe_callD _ _ _ _ _ _ _ _ _ _ d_law_lane hr rfl (@pa_u _ _ _ _ _ (@pv _ 0 _ _ (by rfl) (by first | exact Or.inl rfl | exact Or.inr (Or.inl rfl) | exact Or.inr (Or.inr rfl)) (by decide) (by decide)) (@pa_nil _) (by rfl)) (by rfl) (by decide)) (@pa_nil _) (by rfl)) (by rfl)))))))), rfl, ?_⟩
  walk_at "cl"
  walk_at "st"
  refine draw_of T fun r1 H1 r10 r11 c1 => ?_
  walk_at "st"
  refine ite2 (fun _ => ?_) (fun _ => ?_)
  · refine ⟨t, rfl, c1.tape, fun rl r H2 o1 o2 o3 c2 hd => ⟨small6 (by simp), fun p hp => ?_⟩⟩
    exact q (.ral rl) _ _ ((c1.then c2).new hp _) ⟨p, _, rfl, .of upd_same, (RlV.of hd).same (same_new hp _)⟩ ⟨o1, o2, o3⟩
  walk_at "st"
  refine ite2 (fun _ => ?_) (fun _ => ?_)
  · obtain ⟨sc, T1⟩ := c1.tape.s
    refine ⟨t, sc, rfl, T1, fun da n b tr ths H2 c2 hdw n1 n3 b1 b2 t1 t3 l1 l2 hnd hok => ⟨small6 (by simp), fun p hp => ?_⟩⟩
    exact q (.dn n b tr ths) _ _ ((c1.then c2.cur).new hp _) ⟨p, _, rfl, .of upd_same, da, rfl, hdw.same (same_new hp _)⟩ ⟨⟨n1, n3, b1, b2, t1, t3, l1, l2, hok⟩, hnd⟩
  · obtain ⟨sc, T1⟩ := c1.tape.s
    refine ⟨t, sc, rfl, T1, fun la s p f H2 s1 s3 p1 p20 f1 f12 c2 hs => ⟨small6 (by simp), fun p' hp => ?_⟩⟩
    exact q (.ln s p f) _ _ ((c1.then c2.cur).new hp _) ⟨p', _, rfl, .of upd_same, la, rfl, Same.sqT hs (same_new hp _)⟩ ⟨⟨s1, s3⟩, ⟨p1, p20⟩, f1, f12⟩
end
end My
namespace My
open PySem L2 M
section
mutual
def fl2 : PyData → Bool
  | .none => true
  | .bool _ => true
  | .int _ => true
  | .str _ => true
  | .tuple ds => decide (ds.length ≤ 100000) && fls2 ds
  | _ => false
def fls2 : List PyData → Bool
  | [] => true
  | d :: ds => fl2 d && fls2 ds
end
theorem fls2_mem : ∀ {ds : List PyData} {d : PyData}, fls2 ds = true → d ∈ ds → fl2 d = true
  | e :: ds, d, h, hm => by
    simp only [fls2, Bool.and_eq_true] at h
    rcases List.mem_cons.mp hm with rfl | hm
    · exact h.1
    · exact fls2_mem h.2 hm
theorem depAll_mem2 : ∀ {ds : List PyData} {d : PyData}, d ∈ ds → d.depth ≤ PyData.depthAll ds
  | e :: ds, d, hm => by
    simp only [PyData.depthAll]
    rcases List.mem_cons.mp hm with rfl | hm
    · omega
    · have := depAll_mem2 hm
      omega
variable (K : PySem.W.Frag)
def spAl2 (n : Nat) : Sp := fun vs H Q _ => ∃ t d x y, vs = [x, y] ∧ Dt K t H d x ∧ Dt K t H d y ∧ fl2 d = true ∧ d.depth < n ∧ n ≤ 100 ∧ ∀ H', Same H H' → Q (.bl true) H'
end
section
variable {P : Program} {w : World} {K : PySem.W.Frag} {mg : Str → Option Value} {base : Heap} {ns : List Int} {k : Nat}
theorem ok_law_al2 {n : Nat} (F : Df K mg "_law_alike" s_law_alike ["_law_due", "_law_found"]) (m_isinstance : mg "isinstance" = none) (m_tuple : mg "tuple" = none) (m_list : mg "list" = none) (m_str : mg "str" = none) (m_len : mg "len" = none) (m_range : mg "range" = none) (m_int : mg "int" = none) (m_bool : mg "bool" = none) (m_all : mg "all" = none)
    (d_law_alike : Dn P w K mg base k "_law_alike" ["_law_due", "_law_found"] (spAl2 K n)) : Dn P w K mg base (k + 1) "_law_alike" ["_law_due", "_law_found"] (spAl2 K (n + 1)) := by
  refine F.ok sc_law_alike (fun vs H Q E h => ?_) (fun f cdv A outer s H vs Q E hr h => ?_)
  · obtain ⟨t, d, x, y, rfl, _⟩ := h; rfl
  obtain ⟨t, d, x, y, rfl, hx, hy, hf, hn, hn1, q⟩ := h
  refine ⟨_, [some _, some _], 
      (@pss_cons _ _ _ _ _ (@ps_if _ _ _ _ _ _ _ _ (@PW.pt _ _ _ (@pw_or _ _ _ _ _ _ _ (@pt_val _ _ _ (@pe_callBu _ _ _ _ _ _ _ _ _ call_isi rfl m_isinstance bt_isinstance (@pa_u _ _ _ _ _ (@pv _ 0 _ _ (by rfl) (by first | exact Or.inl rfl | exact Or.inr (Or.inl rfl) | exact Or.inr (Or.inr rfl)) (by decide) (by decide)) (@pa_u _ _ _ _ _ (@pe_bltn _ _ (.ty "tuple") _ _ rfl m_tuple bt_tuple rfl (by decide) (by decide)) (@pa_nil _) (by rfl)) (by rfl)) (by rfl) (by decide) (by decide)) (by intro _; rfl)) (@pw_or1 _ _ _ _ (@pt_val _ _ _ (@pe_callBu _ _ _ _ _ _ _ _ _ call_isi rfl m_isinstance bt_isinstance (@pa_u _ _ _ _ _ (@pv _ 0 _ _ (by rfl) (by first | exact Or.inl rfl | exact Or.inr (Or.inl rfl) | exact Or.inr (Or.inr rfl)) (by decide) (by decide)) (@pa_u _ _ _ _ _ (@pe_bltn _ _ (.ty "list") _ _ rfl m_list bt_list rfl (by decide) (by decide)) (@pa_nil _) (by rfl)) (by rfl)) (by rfl) (by decide) (by decide)) (by intro _; rfl))))) 
      (@pss_cons _ _ _ _ _ (@ps_if _ _ _ _ _ _ _ _ (@PW.pt _ _ _ (@pw_or _ _ _ _ _ _ _ (@pt_cmpR _ _ _ _ _ _ _ _ op_ne (@pe_callBu _ _ _ _ _ _ _ _ _ call_isi rfl m_isinstance bt_isinstance (@pa_u _ _ _ _ _ (@pv _ 0 _ _ (by rfl) (by first | exact Or.inl rfl | exact Or.inr (Or.inl rfl) | exact Or.inr (Or.inr rfl)) (by decide) (by decide)) (@pa_u _ _ _ _ _ (@pe_bltn _ _ (.ty "tuple") _ _ rfl m_tuple bt_tuple rfl (by decide) (by decide)) (@pa_nil _) (by rfl)) (by rfl)) (by rfl) (by decide) (by decide)) (@pe_callBu _ _ _ _ _ _ _ _ _ call_isi rfl m_isinstance bt_isinstance (@pa_u _ _ _ _ _ (@pv _ 1 _ _ (by rfl) (by first | exact Or.inl rfl | exact Or.inr (Or.inl rfl) | exact Or.inr (Or.inr rfl)) (by decide) (by decide)) (@pa_u _ _ _ _ _ (@pe_bltn _ _ (.ty "tuple") _ _ rfl m_tuple bt_tuple rfl (by decide) (by decide)) (@pa_nil _) (by rfl)) (by rfl)) (by rfl) (by decide) (by decide)) (nomark _)) (@pw_or1 _ _ _ _ (@pt_cmpR _ _ _ _ _ _ _ _ op_ne (@pe_callBu _ _ _ _ _ _ _ _ _ call_isi rfl m_isinstance bt_isinstance (@pa_u _ _ _ _ _ (@pv _ 0 _ _ (by rfl) (by first | exact Or.inl rfl | exact Or.inr (Or.inl rfl) | exact Or.inr (Or.inr rfl)) (by decide) (by decide)) (@pa_u _ _ _ _ _ (@pe_bltn _ _ (.ty "list") _ _ rfl m_list bt_list rfl (by decide) (by decide)) (@pa_nil _) (by rfl)) (by rfl)) (by rfl) (by decide) (by decide)) (@pe_callBu _ _ _ _ _ _ _ _ _ call_isi rfl m_isinstance bt_isinstance (@pa_u _ _ _ _ _ (@pv _ 1 _ _ (by rfl) (by first | exact Or.inl rfl | exact Or.inr (Or.inl rfl) | exact Or.inr (Or.inr rfl)) (by decide) (by decide)) (@pa_u _ _ _ _ _ (@pe_bltn _ _ (.ty "list") _ _ rfl m_list bt_list rfl (by decide) (by decide)) (@pa_nil _) (by rfl)) (by rfl)) (by rfl) (by decide) (by decide)) (nomark _))))) (@pss_one _ _ _ (@ps_ret _ _ _ _ (@pe_bl _ _ _ _))) (@pss_nil _)) (@pss_one _ _ _ (@ps_ret _ _ _ _ (@pe_and _ _ _ _ _ _ _ (@pe_cmpR _ _ _ _ _ _ _ _ op_eq (@pe_callBu _ _ _ _ _ _ _ _ _ call_lenS rfl m_len PySem.boot_len (@pa_u _ _ _ _ _ (@pv _ 0 _ _ (by rfl) (by first | exact Or.inl rfl | exact Or.inr (Or.inl rfl) | exact Or.inr (Or.inr rfl)) (by decide) (by decide)) (@pa_nil _) (by rfl)) (by rfl) (by decide) (by decide)) (@pe_callBu _ _ _ _ _ _ _ _ _ call_lenS rfl m_len PySem.boot_len (@pa_u _ _ _ _ _ (@pv _ 1 _ _ (by rfl) (by first | exact Or.inl rfl | exact Or.inr (Or.inl rfl) | exact Or.inr (Or.inr rfl)) (by decide) (by decide)) (@pa_nil _) (by rfl)) (by rfl) (by decide) (by decide)) (nomark _)) (@pe_one _ _ _ _ _ (@pe_callBu _ _ _ _ _ _ _ _ _ (call_allB rfl) rfl m_all bt_all (@pa_u _ _ _ _ _ (@pe_comp _ _ _ _ _ _ _ _ _ _ _ _ _ rfl (compCap (N := ["_law_due", "_law_found"]) (fr := ["_law_found", "_law_due"]) (osc := defScope s_law_alike) rfl rfl (by decide +kernel) rfl rfl (by intro p hp; simp only [List.mem_cons, List.not_mem_nil, or_false] at hp; rcases hp with rfl | rfl <;> rfl)) (@pi_range1 _ _ _ _ _ _ rfl m_range (@pa_u _ _ _ _ _ (@pe_callBu _ _ _ _ _ _ _ _ _ call_lenS rfl m_len PySem.boot_len (@pa_u _ _ _ _ _ (@pv _ 0 _ _ (by rfl) (by first | exact Or.inl rfl | exact Or.inr (Or.inl rfl) | exact Or.inr (Or.inr rfl)) (by decide) (by decide)) (@pa_nil _) (by rfl)) (by rfl) (by decide) (by decide)) (@pa_nil _) (by rfl)) (by rfl)) (fun _ _ _ _ => (@pts_nil _)) (fun _ _ _ _ => (@pe_callD _ _ _ _ _ _ _ _ _ _ d_law_alike hr rfl (@pa_u _ _ _ _ _ (@pe_ix _ _ _ _ _ _ _ (ixK_seq (K := K) rfl) (@pv _ 1 _ _ (by rfl) (by first | exact Or.inl rfl | exact Or.inr (Or.inl rfl) | exact Or.inr (Or.inr rfl)) (by decide) (by decide)) (@pv _ 0 _ _ (by rfl) (by first | exact Or.inl rfl | exact Or.inr (Or.inl rfl) | exact Or.inr (Or.inr rfl)) (by decide) (by decide)) (fun _ _ => rfl)) (@pa_u _ _ _ _ _ (@pe_ix _ _ _ _ _ _ _ (ixK_seq (K := K) rfl) (@pv _ 2 _ _ (by rfl) (by first | exact Or.inl rfl | exact Or.inr (Or.inl rfl) | exact Or.inr (Or.inr rfl)) (by decide) (by decide)) (@pv _ 0 _ _ (by rfl) (by first | exact Or.inl rfl | exact Or.inr (Or.inl rfl) | exact Or.inr (Or.inr rfl)) (by decide) (by decide)) (fun _ _ => rfl)) (@pa_nil _) (by rfl)) (by rfl)) (by rfl) (by decide))) (by intro _; rfl)) (@pa_nil _) (by rfl)) (by rfl) (by decide) (by decide))))))) (@pss_nil _)) 
      (@pss_cons _ _ _ _ _ (@ps_if _ _ _ _ _ _ _ _ (@pt_cmpR _ _ _ _ _ _ _ _ op_isNS (@pv _ 0 _ _ (by rfl) (by first | exact Or.inl rfl | exact Or.inr (Or.inl rfl) | exact Or.inr (Or.inr rfl)) (by decide) (by decide)) (@pe_non _ _ _) (nomark _)) (@pss_one _ _ _ (@ps_ret _ _ _ _ (@pe_cmpR _ _ _ _ _ _ _ _ op_isNS (@pv _ 1 _ _ (by rfl) (by first | exact Or.inl rfl | exact Or.inr (Or.inl rfl) | exact Or.inr (Or.inr rfl)) (by decide) (by decide)) (@pe_non _ _ _) (nomark _)))) (@pss_nil _)) 
      (@pss_cons _ _ _ _ _ (@ps_if _ _ _ _ _ _ _ _ (@pt_val _ _ _ (@pe_callBu _ _ _ _ _ _ _ _ _ call_isi rfl m_isinstance bt_isinstance (@pa_u _ _ _ _ _ (@pv _ 0 _ _ (by rfl) (by first | exact Or.inl rfl | exact Or.inr (Or.inl rfl) | exact Or.inr (Or.inr rfl)) (by decide) (by decide)) (@pa_u _ _ _ _ _ (@pe_bltn _ _ (.ty "str") _ _ rfl m_str bt_str rfl (by decide) (by decide)) (@pa_nil _) (by rfl)) (by rfl)) (by rfl) (by decide) (by decide)) (by intro _; rfl)) (@pss_one _ _ _ (@ps_ret _ _ _ _ (@pe_and _ _ _ _ _ _ _ (@pe_callBu _ _ _ _ _ _ _ _ _ call_isi rfl m_isinstance bt_isinstance (@pa_u _ _ _ _ _ (@pv _ 1 _ _ (by rfl) (by first | exact Or.inl rfl | exact Or.inr (Or.inl rfl) | exact Or.inr (Or.inr rfl)) (by decide) (by decide)) (@pa_u _ _ _ _ _ (@pe_bltn _ _ (.ty "str") _ _ rfl m_str bt_str rfl (by decide) (by decide)) (@pa_nil _) (by rfl)) (by rfl)) (by rfl) (by decide) (by decide)) (@pe_one _ _ _ _ _ (@pe_cmpR _ _ _ _ _ _ _ _ (op_eqD hr) (@pv _ 1 _ _ (by rfl) (by first | exact Or.inl rfl | exact Or.inr (Or.inl rfl) | exact Or.inr (Or.inr rfl)) (by decide) (by decide)) (@pv _ 0 _ _ (by rfl) (by first | exact Or.inl rfl | exact Or.inr (Or.inl rfl) | exact Or.inr (Or.inr rfl)) (by decide) (by decide)) (nomark _)))))) (@pss_nil _)) 
      (@pss_cons _ _ _ _ _ (@ps_if _ _ _ _ _ _ _ _ (@pt_val _ _ _ (@pe_callBu _ _ _ _ _ _ _ _ _ call_isi rfl m_isinstance bt_isinstance (@pa_u _ _ _ _ _ (@pv _ 0 _ _ (by rfl) (by first | exact Or.inl rfl | exact Or.inr (Or.inl rfl) | exact Or.inr (Or.inr rfl)) (by decide) (by decide)) (@pa_u _ _ _ _ _ (@pe_bltn _ _ (.ty "bool") _ _ rfl m_bool bt_bool rfl (by decide) (by decide)) (@pa_nil _) (by rfl)) (by rfl)) (by rfl) (by decide) (by decide)) (by intro _; rfl)) (@pss_one _ _ _ (@ps_ret _ _ _ _ (@pe_and _ _ _ _ _ _ _ (@pe_callBu _ _ _ _ _ _ _ _ _ call_isi rfl m_isinstance bt_isinstance (@pa_u _ _ _ _ _ (@pv _ 1 _ _ (by rfl) (by first | exact Or.inl rfl | exact Or.inr (Or.inl rfl) | exact Or.inr (Or.inr rfl)) (by decide) (by decide)) (@pa_u _ _ _ _ _ (@pe_bltn _ _ (.ty "bool") _ _ rfl m_bool bt_bool rfl (by decide) (by decide)) (@pa_nil _) (by rfl)) (by rfl)) (by rfl) (by decide) (by decide)) (@pe_one _ _ _ _ _ (@pe_cmpR _ _ _ _ _ _ _ _ (op_eqD hr) (@pv _ 1 _ _ (by rfl) (by first | exact Or.inl rfl | exact Or.inr (Or.inl rfl) | exact Or.inr (Or.inr rfl)) (by decide) (by decide)) (@pv _ 0 _ _ (by rfl) (by first | exact Or.inl rfl | exact Or.inr (Or.inl rfl) | exact Or.inr (Or.inr rfl)) (by decide) (by decide)) (nomark _)))))) (@pss_nil _)) (@pss_one _ _ _ (@ps_ret _ _ _ _ (@pe_and _ _ _ _ _ _ _ (@pe_callBu _ _ _ _ _ _ _ _ _ call_isi rfl m_isinstance bt_isinstance (@pa_u _ _ _ _ _ (@pv _ 1 _ _ (by rfl) (by first | exact Or.inl rfl | exact Or.inr (Or.inl rfl) | exact Or.inr (Or.inr rfl)) (by decide) (by decide)) (@pa_u _ _ _ _ _ (@pe_bltn _ _ (.ty "int") _ _ rfl m_int bt_int rfl (by decide) (by decide)) (@pa_nil _) (by rfl)) (by rfl)) (by rfl) (by decide) (by decide)) (@pe_and _ _ _ _ _ _ _ (@pe_not _ _ _ _ (@pe_callBu _ _ _ _ _ _ _ _ _ call_isi rfl m_isinstance bt_isinstance (@pa_u _ _ _ _ _ (@pv _ 1 _ _ (by rfl) (by first | exact Or.inl rfl | exact Or.inr (Or.inl rfl) | exact Or.inr (Or.inr rfl)) (by decide) (by decide)) (@pa_u _ _ _ _ _ (@pe_bltn _ _ (.ty "bool") _ _ rfl m_bool bt_bool rfl (by decide) (by decide)) (@pa_nil _) (by rfl)) (by rfl)) (by rfl) (by decide) (by decide))) (@pe_one _ _ _ _ _ (@pe_cmpR _ _ _ _ _ _ _ _ (op_eqD hr) (@pv _ 1 _ _ (by rfl) (by first | exact Or.inl rfl | exact Or.inr (Or.inl rfl) | exact Or.inr (Or.inr rfl)) (by decide) (by decide)) (@pv _ 0 _ _ (by rfl) (by first | exact Or.inl rfl | exact Or.inr (Or.inl rfl) | exact Or.inr (Or.inr rfl)) (by decide) (by decide)) (nomark _))))))))))), rfl, ?_⟩
  walk_at "cl"
  have seq : ∀ (ds : List PyData) (xs ys : List V) (a b : Addr), (∀ H1, Same H H1 → (SqL K H1 a xs ∨ SqT K H1 a xs)) → (∀ H1, Same H H1 → (SqL K H1 b ys ∨ SqT K H1 b ys)) → DtL K t H ds xs → DtL K t H ds ys → fls2 ds = true → ds.length ≤ 100000 → PyData.depthAll ds + 1 < n + 1 →
      rLenS K [.ref a] H fun x H1 => rLenS K [.ref b] H1 fun y H2 => rEq x y H2 fun x H1 => ∃ c, x = .bl c ∧ if c = true then tComp (iRng1 (tCons (tCB (rLenS K) (tCons (tVar 0) tNil)) tNil)) tTrue (tCall (spAl2 K n) [] E0 (tCons (tOp (rIx K) (tVar 1) (tVar 0)) (tCons (tOp (rIx K) (tVar 2) (tVar 0)) tNil))) [some (.ref a), some (.ref b)] H1 fun x H1 => rAllB K [x] H1 Q else Q (.bl false) H1 := by
    intro ds xs ys a b ha hb hxs hys hfs hln hdp
    have el := hxs.len
    have el2 := hys.len
    refine ⟨a, xs, rfl, ha _ (.refl _), b, ys, rfl, hb _ (.refl _), ?_⟩
    walk_at "rd"
    rw [if_pos (by omega)]
    refine comp_rG (K := K) (m := xs.length) (fun _ => true) (fun _ y _ => y = V.bl true) (fun R h => ?_) (by omega) (fun _ _ _ _ _ h => h) (fun i H1 hi S1 Q' hq => hq _ (.refl _)) (fun i H1 hi _ S1 Q' hq => ?_) (fun Dl zs H1 S1 hD1 hD1' hall => ?_)
    · walk_at "rd"
      exact ⟨a, xs, rfl, ha _ (.refl _), h⟩
    · have hdi : ds[i]? = some ds[i] := List.getElem?_eq_getElem (by omega)
      obtain ⟨vx, ex, dx⟩ := hxs.get hdi
      obtain ⟨vy, ey, dy⟩ := hys.get hdi
      have ixx : ∀ (a : Addr) (us : List V) (v : V) (H2 : Hp) (Qx : VK), (SqL K H2 a us ∨ SqT K H2 a us) → us[i]? = some v → Qx v H2 → rIx K (.ref a) (.int ((i : Nat) : Int)) H2 Qx := fun a us v H2 Qx hs e hq => by
        rcases hs with z | z
        · exact .inl (by rw [r_ixL]; exact ⟨_, z, _, atI_nat e, hq⟩)
        · exact .inr (.inl (by rw [r_ixT]; exact ⟨_, z, _, atI_nat e, hq⟩))
      walk_at "rd"
      refine ixx a xs vx H1 _ (ha _ S1) ex ?_
      walk_at "rd"
      refine ixx b ys vy H1 _ (hb _ S1) ey ?_
      walk_at "rd"
      refine ⟨t, ds[i], vx, vy, rfl, Same.dt dx S1, Same.dt dy S1, fls2_mem hfs (List.getElem_mem _), ?_, by omega, fun H2 S2 => hq _ _ S2 rfl⟩
      have := depAll_mem2 (ds := ds) (List.getElem_mem (h := (by omega : i < ds.length)))
      omega
    · have e : zs = ((List.range xs.length).map fun _ => true).map V.bl := by
        have := All2.eq (f := fun _ => V.bl true) hall
        rw [this, List.filter_eq_self.mpr (by simp), List.map_map]
        rfl
      refine ⟨Dl, (List.range xs.length).map fun _ => true, rfl, .of (by rw [hD1', e]), ?_⟩
      rw [show ((List.range xs.length).map fun _ => true).all id = true by simp]
      exact q _ S1
  walk_at "st"
  refine isi_of hx ?_
  cases d with
  | tuple ds =>
    refine ⟨_, rfl, ?_⟩
    walk_at "T"
    simp only [fl2, Bool.and_eq_true, decide_eq_true_eq] at hf
    obtain ⟨a, xs, rfl, hxs, hxd⟩ := hx.tup_inv
    obtain ⟨b, ys, rfl, hys, hyd⟩ := hy.tup_inv
    walk_at "st"
    refine isi_of hx ?_
    walk_at "rd"
    refine isi_of hy ?_
    walk_at "rd"
    rw [if_neg (by simp [isiD])]
    refine isi_of hx ?_
    walk_at "rd"
    refine isi_of hy ?_
    walk_at "rd"
    rw [if_neg (by simp [isiD])]
    exact seq ds xs ys a b (fun H1 S1 => .inr (Same.sqT hxs S1)) (fun H1 S1 => .inr (Same.sqT hys S1)) hxd hyd hf.2 hf.1 (by simp only [PyData.depth] at hn; omega)
  | list ds => exact absurd hf (by simp [fl2])
  | none =>
    refine ⟨_, rfl, ?_⟩
    walk_at "F"
    refine isi_of hx ⟨_, rfl, ?_⟩
    walk_at "F"
    simp only [Dt] at hx hy
    subst hx hy
    walk_at "st"
    exact q _ (.refl _)
  | str b =>
    refine ⟨_, rfl, ?_⟩
    walk_at "F"
    refine isi_of hx ⟨_, rfl, ?_⟩
    walk_at "F"
    have hx' := hx
    simp only [Dt] at hx'
    obtain ⟨rfl, hok⟩ := hx'
    walk_at "st"
    rw [if_neg (by simp)]
    walk_at "st"
    refine isi_of hx ⟨_, rfl, ?_⟩
    walk_at "T"
    walk_at "rd"
    refine isi_of hy ⟨_, rfl, ?_⟩
    walk_at "T"
    refine eqF_of hy hx (depR (n := 0) (by simp [PyData.depth])) ?_
    rw [show PyData.eqv (.str b) (.str b) = true by simp [PyData.eqv]]
    exact q _ (.refl _)
  | bool b =>
    refine ⟨_, rfl, ?_⟩
    walk_at "F"
    refine isi_of hx ⟨_, rfl, ?_⟩
    walk_at "F"
    have hx' := hx
    simp only [Dt] at hx'
    subst hx'
    walk_at "st"
    rw [if_neg (by simp)]
    walk_at "st"
    refine isi_of hx ⟨_, rfl, ?_⟩
    walk_at "F"
    walk_at "st"
    refine isi_of hx ⟨_, rfl, ?_⟩
    walk_at "T"
    walk_at "rd"
    refine isi_of hy ⟨_, rfl, ?_⟩
    walk_at "T"
    refine eqF_of hy hx (depR (n := 0) (by simp [PyData.depth])) ?_
    rw [show PyData.eqv (.bool b) (.bool b) = true by simp [PyData.eqv]]
    exact q _ (.refl _)
  | int b =>
    refine ⟨_, rfl, ?_⟩
    walk_at "F"
    refine isi_of hx ⟨_, rfl, ?_⟩
    walk_at "F"
    have hx' := hx
    simp only [Dt] at hx'
    subst hx'
    walk_at "st"
    rw [if_neg (by simp)]
    walk_at "st"
    refine isi_of hx ⟨_, rfl, ?_⟩
    walk_at "F"
    walk_at "st"
    refine isi_of hx ⟨_, rfl, ?_⟩
    walk_at "F"
    walk_at "rd"
    refine isi_of hy ⟨_, rfl, ?_⟩
    walk_at "T"
    refine isi_of hy ?_
    walk_at "rd"
    walk_at "T"
    refine eqF_of hy hx (depR (n := 0) (by simp [PyData.depth])) ?_
    rw [show PyData.eqv (.int b) (.int b) = true by simp [PyData.eqv]]
    exact q _ (.refl _)
  | dict b => simp [fl2] at hf
theorem all_law_al2 {n : Nat} (F : Df K mg "_law_alike" s_law_alike ["_law_due", "_law_found"]) (m_isinstance : mg "isinstance" = none) (m_tuple : mg "tuple" = none) (m_list : mg "list" = none) (m_str : mg "str" = none) (m_len : mg "len" = none) (m_range : mg "range" = none) (m_int : mg "int" = none) (m_bool : mg "bool" = none) (m_all : mg "all" = none) : Dn P w K mg base (k + n) "_law_alike" ["_law_due", "_law_found"] (spAl2 K n) := by
  induction n with
  | zero => exact F.void fun vs H Q E ⟨_, _, _, _, _, _, _, _, h, _⟩ => by omega
  | succ n ih => exact ok_law_al2 F m_isinstance m_tuple m_list m_str m_len m_range m_int m_bool m_all ih
end
end My
namespace My
open PySem L2 M
section
variable (K : PySem.W.Frag)
def spB (f : PyData → Bool) : Sp := fun vs H Q _ => ∃ t d v, vs = [v] ∧ Dt K t H d v ∧ smD d = true ∧ ∀ H', Same H H' → Q (.bl (f d)) H'
end
section
variable {P : Program} {w : World} {K : PySem.W.Frag} {mg : Str → Option Value} {base : Heap} {ns : List Int} {k : Nat}
theorem sm_str {x : Str} (h : smD (.str x) = true) : asc x ∧ x.length ≤ 1000 ∧ x.cps.all (· < 128) = true := by
  simp only [smD, Bool.and_eq_true, List.all_eq_true, decide_eq_true_eq] at h
  refine ⟨h.1, h.2, ?_⟩
  rw [Array.all_eq_true']
  intro c hc
  simp only [decide_eq_true_eq]
  exact h.1 c (by simpa using hc)
theorem fst_at {x : Str} (h : 1 ≤ x.length) : ∃ c, atI x.cps.toList 0 = some c ∧ fst x.cps.toList = low c ∧ c ∈ x.cps.toList := by
  rw [len_toList] at h
  match hx : x.cps.toList, h with
  | c :: cs, _ => exact ⟨c, atI_nat (j := 0) rfl, rfl, List.mem_cons_self ..⟩
theorem ok_is_name (F : Df K mg "is_name" s_is_name ["thing"]) (m_isinstance : mg "isinstance" = none) (m_str : mg "str" = none) (m_len : mg "len" = none) (m_all : mg "all" = none) (g_MOST_SIGNS : Gc mg "MOST_SIGNS" (.int 8)) : Dn P w K mg base (k + 1) "is_name" ["thing"] (spB K nmD) := by
  refine F.ok sc_is_name (fun vs H Q E h => ?_) (fun f cdv A outer s H vs Q E hr h => ?_)
  · obtain ⟨t, d, v, rfl, _⟩ := h; rfl
  obtain ⟨t, d, v, rfl, hd, hk, q⟩ := h
  refine ⟨_, [some _], 
      (@pss_cons _ _ _ _ _ (@ps_if _ _ _ _ _ _ _ _ (@PW.pt _ _ _ (@pw_or _ _ _ _ _ _ _ (@pt_not _ _ _ _ (@pt_val _ _ _ (@pe_callBu _ _ _ _ _ _ _ _ _ call_isi rfl m_isinstance bt_isinstance (@pa_u _ _ _ _ _ (@pv _ 0 _ _ (by rfl) (by first | exact Or.inl rfl | exact Or.inr (Or.inl rfl) | exact Or.inr (Or.inr rfl)) (by decide) (by decide)) (@pa_u _ _ _ _ _ (@pe_bltn _ _ (.ty "str") _ _ rfl m_str bt_str rfl (by decide) (by decide)) (@pa_nil _) (by rfl)) (by rfl)) (by rfl) (by decide) (by decide)) (by intro _; rfl))) (@pw_or1 _ _ _ _ (@pt_not _ _ _ _ (@pt_chain _ _ _ _ _ _ _ _ _ _ _ _ op_le op_le (@pe_int _ _ _ _) (@pe_callBu _ _ _ _ _ _ _ _ _ call_len_str rfl m_len PySem.boot_len (@pa_u _ _ _ _ _ (@pv _ 0 _ _ (by rfl) (by first | exact Or.inl rfl | exact Or.inr (Or.inl rfl) | exact Or.inr (Or.inr rfl)) (by decide) (by decide)) (@pa_nil _) (by rfl)) (by rfl) (by decide) (by decide)) (@pe_gc _ _ _ _ g_MOST_SIGNS rfl (by decide)) (by with_unfolding_all rfl)))))) (@pss_one _ _ _ (@ps_ret _ _ _ _ (@pe_bl _ _ _ _))) (@pss_nil _)) 
      (@pss_cons _ _ _ _ _ (@ps_if _ _ _ _ _ _ _ _ (@pt_not _ _ _ _ (@pt_chain _ _ _ _ _ _ _ _ _ _ _ _ op_leS op_leS (@pe_str _ _ _ _) (@pe_ix _ _ _ _ _ _ _ ix_str (@pv _ 0 _ _ (by rfl) (by first | exact Or.inl rfl | exact Or.inr (Or.inl rfl) | exact Or.inr (Or.inr rfl)) (by decide) (by decide)) (@pe_int _ _ _ _) (fun _ _ => rfl)) (@pe_str _ _ _ _) (by with_unfolding_all rfl))) (@pss_one _ _ _ (@ps_ret _ _ _ _ (@pe_bl _ _ _ _))) (@pss_nil _)) (@pss_one _ _ _ (@ps_ret _ _ _ _ (@pe_callBu _ _ _ _ _ _ _ _ _ (call_allB rfl) rfl m_all bt_all (@pa_u _ _ _ _ _ (@pe_comp _ _ _ _ _ _ _ _ _ _ _ _ _ rfl (compPlain (N := ["thing"]) rfl (by decide +kernel) rfl) (@pi_str _ _ _ _ (@pv _ 0 _ _ (by rfl) (by first | exact Or.inl rfl | exact Or.inr (Or.inl rfl) | exact Or.inr (Or.inr rfl)) (by decide) (by decide))) (fun _ _ _ _ => (@pts_nil _)) (fun _ _ _ _ => (@pe_or _ _ _ _ _ _ _ (@pe_chain _ _ _ _ _ _ _ _ _ _ _ _ op_leS op_leS (@pe_str _ _ _ _) (@pv _ 0 _ _ (by rfl) (by first | exact Or.inl rfl | exact Or.inr (Or.inl rfl) | exact Or.inr (Or.inr rfl)) (by decide) (by decide)) (@pe_str _ _ _ _) (by with_unfolding_all rfl)) (@pe_one _ _ _ _ _ (@pe_chain _ _ _ _ _ _ _ _ _ _ _ _ op_leS op_leS (@pe_str _ _ _ _) (@pv _ 0 _ _ (by rfl) (by first | exact Or.inl rfl | exact Or.inr (Or.inl rfl) | exact Or.inr (Or.inr rfl)) (by decide) (by decide)) (@pe_str _ _ _ _) (by with_unfolding_all rfl))))) (by intro _; rfl)) (@pa_nil _) (by rfl)) (by rfl) (by decide) (by decide)))))), rfl, ?_⟩
  walk_at "cl"
  walk_at "st"
  refine isi_of hd ?_
  walk_at "rd"
  cases d with
  | str x =>
    simp only [Dt] at hd
    obtain ⟨rfl, _⟩ := hd
    obtain ⟨ha, hl, hal⟩ := sm_str hk
    rw [if_neg (by simp [isiD])]
    refine ⟨_, rfl, small16' (by omega), ?_⟩
    walk_at "rd"
    have no : nmD (.str x) = false → ∀ H', Same H H' → Q (.bl false) H' := fun e H' S => by have := q H' S; rw [e] at this; exact this
    have hx : nmD (.str x) = nmS x.cps.toList := rfl
    have hxl := len_toList x
    refine ite2 (fun c1 => ite2 (fun c2 => ?_) (fun c2 => ?_)) (fun c1 => ?_)
    · exact no (by rw [hx]; unfold nmS; rw [decide_eq_false (p := x.cps.toList.length ≤ 8) (by omega)]; simp) _ (.refl _)
    · obtain ⟨c, hc, hf, hm⟩ := fst_at (x := x) (by omega)
      have e1 : nmS x.cps.toList = (fst x.cps.toList && x.cps.toList.all ld) := by unfold nmS; rw [decide_eq_true (p := x.cps.toList.length ≤ 8) (by omega), decide_eq_true (p := 1 ≤ x.cps.toList.length) (by omega)]; rfl
      have hc8 := ha c hm
      have hlo := le_low c hc8
      walk_at "st"
      refine ⟨c, small16' (by omega), hc, ?_⟩
      show if leS (Str.ofString "a") (sgn c) = true then (if leS (sgn c) (Str.ofString "z") = false then _ else _) else _
      rw [hf, ← hlo] at e1
      refine ite2 (fun d1 => ite2 (fun d2 => ?_) (fun d2 => ?_)) (fun d1 => ?_)
      · exact no (by rw [hx, e1, d2]; simp) _ (.refl _)
      · rw [d1, show leS (sgn c) (Str.ofString "z") = true by simpa using d2] at e1
        refine comp_strB ld (fun R h => h) hal (by show x.length ≤ 1000; omega) (fun d H1 hd1 S1 Q' hq => ?_) (fun D H1 S1 hD => ?_)
        · have b1 := le_low d (ha d hd1)
          have b2 := le_dig d (ha d hd1)
          have hq' := hq _ (.refl _)
          rw [show ld d = (low d || dig d) from rfl, ← b1, ← b2] at hq'
          walk_at "rd"
          revert hq'
          cases leS (Str.ofString "a") (sgn d) <;> cases leS (sgn d) (Str.ofString "z") <;> cases leS (Str.ofString "0") (sgn d) <;> cases leS (sgn d) (Str.ofString "9") <;> intro h <;> simpa using h
        · refine ⟨D, _, rfl, .of hD, ?_⟩
          rw [List.all_map, show (id ∘ ld) = ld from rfl]
          have := q _ S1
          rw [hx, e1] at this
          exact this
      · exact no (by rw [hx, e1, show leS (Str.ofString "a") (sgn c) = false by simpa using d1]; simp) _ (.refl _)
    · exact no (by rw [hx]; unfold nmS; rw [decide_eq_false (p := 1 ≤ x.cps.toList.length) (by omega)]; simp) _ (.refl _)
  | none => rw [if_pos (by simp [isiD])]; exact q _ (.refl _)
  | bool b => rw [if_pos (by simp [isiD])]; exact q _ (.refl _)
  | int i => rw [if_pos (by simp [isiD])]; exact q _ (.refl _)
  | tuple x => rw [if_pos (by simp [isiD])]; exact q _ (.refl _)
  | list x => rw [if_pos (by simp [isiD])]; exact q _ (.refl _)
  | dict x => rw [if_pos (by simp [isiD])]; exact q _ (.refl _)
end
end My
namespace My
open PySem L2 M
section
variable (K : PySem.W.Frag)
def sV (ws : List Str) : List V := ws.map V.str
def spWords (n : Nat) : Sp := fun vs H Q _ => ∃ rl v, vs = [v] ∧ RlV K H rl v ∧ ok rl ∧ depth rl < n ∧ size rl ≤ 10 ∧ ∀ D H', Same H H' → H D = none → H' D = some (.lst (sV (words rl))) → Q (.ref D) H'
def spShow : Sp := fun vs H Q _ => ∃ rl v, vs = [v] ∧ RlV K H rl v ∧ ok rl ∧ depth rl ≤ 4 ∧ size rl ≤ 10 ∧ ∀ H', Same H H' → Q (.str (text rl)) H'
def spNum : Sp := fun vs H Q _ => ∃ i least, vs = [.str (numS i), .int least, .int 99] ∧ Bd 1 i ∧ least ≤ i ∧ ∀ H', Same H H' → Q (.bl true) H'
end
section
variable {P : Program} {w : World} {K : PySem.W.Frag} {mg : Str → Option Value} {base : Heap} {ns : List Int} {k : Nat}
theorem _root_.L2.Same.at {H H' : Hp} {p : Addr} {o : HO} (S : Same H H') (hp : H p = none) : Same H (upd H' p o) := fun b u h => by rw [upd_ne (ne_of_none h hp)]; exact S _ _ h
theorem sV_len (ws : List Str) : (sV ws).length = ws.length := List.length_map ..
theorem sV_app (a b : List Str) : sV a ++ sV b = sV (a ++ b) := (List.map_append ..).symm
theorem ok_words_of {n : Nat} {pP : Addr} (F : Df K mg "words_of" s_words_of ["rule"]) (m_str : mg "str" = none) (g_POINT : Gc mg "POINT" (.ref pP)) (tP : ∀ H, SqT K H pP [.str "point"]) (d_words_of : Dn P w K mg base k "words_of" ["rule"] (spWords K n)) : Dn P w K mg base (k + 1) "words_of" ["rule"] (spWords K (n + 1)) := by
  refine F.ok sc_words_of (fun vs H Q E h => ?_) (fun f cdv A outer s H vs Q E hr h => ?_)
  · obtain ⟨d, v, rfl, _⟩ := h; rfl
  obtain ⟨rl, v, rfl, hd, okr, hn, hsz, q⟩ := h
  refine ⟨_, [some _, none], 
      (@pss_cons _ _ _ _ _ (@ps_if _ _ _ _ _ _ _ _ (@pt_cmpR _ _ _ _ _ _ _ _ (op_eqD hr) (@pv _ 0 _ _ (by rfl) (by first | exact Or.inl rfl | exact Or.inr (Or.inl rfl) | exact Or.inr (Or.inr rfl)) (by decide) (by decide)) (@pe_gc _ _ _ _ g_POINT rfl (by decide)) (nomark _)) (@pss_one _ _ _ (@ps_ret _ _ _ _ (@pe_lst _ _ _ _ (@pa_u _ _ _ _ _ (@pe_str _ _ _ _) (@pa_nil _) (by rfl))))) (@pss_nil _)) 
      (@pss_cons _ _ _ _ _ (@ps_set _ _ 1 _ _ _ _ sc_words_of.nd rfl (Or.inl rfl) (@pe_lst _ _ _ _ (@pa_u _ _ _ _ _ (@pe_str _ _ _ _) (@pa_u _ _ _ _ _ (@pe_callTu _ _ _ _ _ _ _ _ _ call_strI rfl m_str bt_str (@pa_u _ _ _ _ _ (@pe_ix _ _ _ _ _ _ _ ix_tup (@pv _ 0 _ _ (by rfl) (by first | exact Or.inl rfl | exact Or.inr (Or.inl rfl) | exact Or.inr (Or.inr rfl)) (by decide) (by decide)) (@pe_int _ _ _ _) (fun _ _ => rfl)) (@pa_nil _) (by rfl)) (by rfl) (by decide) (by decide)) (@pa_u _ _ _ _ _ (@pe_callTu _ _ _ _ _ _ _ _ _ call_strI rfl m_str bt_str (@pa_u _ _ _ _ _ (@pe_ix _ _ _ _ _ _ _ ix_tup (@pv _ 0 _ _ (by rfl) (by first | exact Or.inl rfl | exact Or.inr (Or.inl rfl) | exact Or.inr (Or.inr rfl)) (by decide) (by decide)) (@pe_int _ _ _ _) (fun _ _ => rfl)) (@pa_nil _) (by rfl)) (by rfl) (by decide) (by decide)) (@pa_nil _) (by rfl)) (by rfl)) (by rfl))) (by rfl) (by first | exact .inl rfl | exact .inr rfl | assumption)) 
      (@pss_cut _ _ _ _ _ (@ps_expr _ _ _ _ (@pe_bm _ _ _ _ _ _ _ _ _ _ _ _ PySem.F.plainAttrs_list PySem.F.slot_list_append PySem.F.type_list_append mt_append (@pv _ 1 _ _ (by rfl) (by first | exact Or.inl rfl | exact Or.inr (Or.inl rfl) | exact Or.inr (Or.inr rfl)) (by decide) (by decide)) (@pa_u _ _ _ _ _ (@pe_ifExp _ _ _ _ _ _ _ _ (@pt_cmpR _ _ _ _ _ _ _ _ op_isNS (@pe_ix _ _ _ _ _ _ _ ix_tup (@pv _ 0 _ _ (by rfl) (by first | exact Or.inl rfl | exact Or.inr (Or.inl rfl) | exact Or.inr (Or.inr rfl)) (by decide) (by decide)) (@pe_int _ _ _ _) (fun _ _ => rfl)) (@pe_non _ _ _) (nomark _)) (@pe_str _ _ _ _) (@pe_callTu _ _ _ _ _ _ _ _ _ call_strI rfl m_str bt_str (@pa_u _ _ _ _ _ (@pe_ix _ _ _ _ _ _ _ ix_tup (@pv _ 0 _ _ (by rfl) (by first | exact Or.inl rfl | exact Or.inr (Or.inl rfl) | exact Or.inr (Or.inr rfl)) (by decide) (by decide)) (@pe_int _ _ _ _) (fun _ _ => rfl)) (@pa_nil _) (by rfl)) (by rfl) (by decide) (by decide))) (@pa_nil _) (by rfl)) (by rfl) (by rfl) (by rfl) (by rfl) (by rfl)) (by rfl)) 
      (@pss_cons _ _ _ _ _ (@ps_expr _ _ _ _ (@pe_bm _ _ _ _ _ _ _ _ _ _ _ _ PySem.F.plainAttrs_list PySem.F.slot_list_extend PySem.F.type_list_extend mt_extend (@pv _ 1 _ _ (by rfl) (by first | exact Or.inl rfl | exact Or.inr (Or.inl rfl) | exact Or.inr (Or.inr rfl)) (by decide) (by decide)) (@pa_u _ _ _ _ _ (@pe_callD _ _ _ _ _ _ _ _ _ _ d_words_of hr rfl (@pa_u _ _ _ _ _ (@pe_ix _ _ _ _ _ _ _ ix_tup (@pv _ 0 _ _ (by rfl) (by first | exact Or.inl rfl | exact Or.inr (Or.inl rfl) | exact Or.inr (Or.inr rfl)) (by decide) (by decide)) (@pe_int _ _ _ _) (fun _ _ => rfl)) (@pa_nil _) (by rfl)) (by rfl) (by decide)) (@pa_nil _) (by rfl)) (by rfl) (by rfl) (by rfl) (by rfl) (by rfl)) (by rfl)) 
      (@pss_cut _ _ _ _ _ (@ps_expr _ _ _ _ (@pe_bm _ _ _ _ _ _ _ _ _ _ _ _ PySem.F.plainAttrs_list PySem.F.slot_list_extend PySem.F.type_list_extend mt_extend (@pv _ 1 _ _ (by rfl) (by first | exact Or.inl rfl | exact Or.inr (Or.inl rfl) | exact Or.inr (Or.inr rfl)) (by decide) (by decide)) (@pa_u _ _ _ _ _ (@pe_ifExp _ _ _ _ _ _ _ _ (@pt_cmpR _ _ _ _ _ _ _ _ op_isNS (@pe_ix _ _ _ _ _ _ _ ix_tup (@pv _ 0 _ _ (by rfl) (by first | exact Or.inl rfl | exact Or.inr (Or.inl rfl) | exact Or.inr (Or.inr rfl)) (by decide) (by decide)) (@pe_int _ _ _ _) (fun _ _ => rfl)) (@pe_non _ _ _) (nomark _)) (@pe_lst _ _ _ _ (@pa_u _ _ _ _ _ (@pe_str _ _ _ _) (@pa_nil _) (by rfl))) (@pe_callD _ _ _ _ _ _ _ _ _ _ d_words_of hr rfl (@pa_u _ _ _ _ _ (@pe_ix _ _ _ _ _ _ _ ix_tup (@pv _ 0 _ _ (by rfl) (by first | exact Or.inl rfl | exact Or.inr (Or.inl rfl) | exact Or.inr (Or.inr rfl)) (by decide) (by decide)) (@pe_int _ _ _ _) (fun _ _ => rfl)) (@pa_nil _) (by rfl)) (by rfl) (by decide))) (@pa_nil _) (by rfl)) (by rfl) (by rfl) (by rfl) (by rfl) (by rfl)) (by rfl)) (@pss_one _ _ _ (@ps_ret _ _ _ _ (@pv _ 1 _ _ (by rfl) (by first | exact Or.inl rfl | exact Or.inr (Or.inl rfl) | exact Or.inr (Or.inr rfl)) (by decide) (by decide))))))))), rfl, ?_⟩
  walk_at "cl"
  walk_at "st"
  refine eqF_of (t := 0) hd (pt_dt (tP H)) (depR dep_pt) ?_
  walk_at "rd"
  refine ite2 (fun c => ?_) (fun c => ?_)
  · rw [eqv_enc_pt] at c
    subst c
    exact ⟨small6 (by simp), fun p hp => q p _ (same_new hp _) hp upd_same⟩
  · have hne : rl ≠ .pt := fun z => c ((eqv_enc_pt rl).mpr z)
    obtain ⟨to, lead, cap, i, l, W⟩ := vw_of okr hne
    obtain ⟨a, v4, v5, rfl, hs, hi, hl⟩ := rl_tup hd W
    have hwl := words_len rl
    have hww := congrArg List.length W.words
    simp only [List.length_append, List.length_cons, List.length_nil] at hww
    have hdd := W.depth
    have hss := W.size
    walk_at "st"
    refine ⟨_, hs, _, rfl, strI_of (log_small W.hto) ?_⟩
    walk_at "rd"
    refine ⟨_, hs, _, rfl, strI_of (log_small W.hlead) ?_⟩
    walk_at "rd"
    refine ⟨small6 (by simp), fun p hp => ?_⟩
    have S1 := same_new hp (.lst [V.str "unit", V.str (numS to), V.str (numS lead)])
    have hp1 : (upd H p (.lst [V.str "unit", V.str (numS to), V.str (numS lead)])) p = some (.lst (sV [wUnit, numS to, numS lead])) := upd_same
    generalize upd H p (.lst [V.str "unit", V.str (numS to), V.str (numS lead)]) = H1 at S1 hp1 ⊢
    refine r_cut (fun σ' H' => σ' = [some (.ref a), some (.ref p)] ∧ Same H H' ∧ H' p = some (.lst (sV ([wUnit, numS to, numS lead] ++ [capS cap])))) (fun M hM => ?_) ?_
    · walk_at "rd"
      refine ⟨.inl ⟨rfl, _, .of hp1⟩, _, Same.sqT hs S1, _, rfl, ?_⟩
      walk_at "rd"
      cases cap with
      | none =>
        rw [if_pos (show optI none = V.non from rfl)]
        exact ⟨p, _, _, rfl, rfl, hp1, small1000 (by simp [sV]), hM _ _ ⟨rfl, Same.at S1 hp, upd_same⟩⟩
      | some c =>
        rw [if_neg (by intro h; cases h)]
        refine ⟨_, Same.sqT hs S1, _, rfl, strI_of (log_small (Bd.one W.hto.1 W.hcap)) ?_⟩
        exact ⟨p, _, _, rfl, rfl, hp1, small1000 (by simp [sV]), hM _ _ ⟨rfl, Same.at S1 hp, upd_same⟩⟩
    · rintro _ H2 ⟨rfl, S2, hp2⟩
      walk_at "st"
      refine ⟨.inl ⟨rfl, _, .of hp2⟩, _, Same.sqT hs S2, _, rfl, i, v4, rfl, hi.same S2, W.hi, by omega, by omega, fun D H3 S3 hD hD' => ?_⟩
      refine ⟨p, D, _, _, rfl, rfl, S3 _ _ hp2, hD', smallA (by simp only [List.length_append, sV_len, List.length_cons, List.length_nil]; omega), ?_⟩
      rw [sV_app]
      have S4 := Same.at (o := .lst (sV ([wUnit, numS to, numS lead] ++ [capS cap] ++ words i))) (S2.trans S3) hp
      have hp4 : (upd H3 p (.lst (sV ([wUnit, numS to, numS lead] ++ [capS cap] ++ words i)))) p = some (.lst (sV ([wUnit, numS to, numS lead] ++ [capS cap] ++ words i))) := upd_same
      generalize upd H3 p (.lst (sV ([wUnit, numS to, numS lead] ++ [capS cap] ++ words i))) = H4 at S4 hp4 ⊢
      refine r_cut (fun σ' H' => σ' = [some (.ref a), some (.ref p)] ∧ Same H H' ∧ H' p = some (.lst (sV (words rl)))) (fun M hM => ?_) ?_
      · walk_at "rd"
        refine ⟨.inl ⟨rfl, _, .of hp4⟩, _, Same.sqT hs S4, _, rfl, ?_⟩
        walk_at "rd"
        cases l with
        | none =>
          rw [if_pos hl.no]
          refine ⟨small6 (by simp), fun p5 hp5 => ?_⟩
          have S5 := same_new hp5 (.lst [V.str wDash])
          refine ⟨p, p5, _, _, rfl, rfl, S5 _ _ hp4, upd_same, smallA (by simp only [List.length_append, sV_len, List.length_cons, List.length_nil]; omega), hM _ _ ⟨rfl, Same.at (S4.trans S5) hp, ?_⟩⟩
          rw [upd_same, W.words]
          show some (HO.lst (sV _ ++ sV [wDash])) = _
          rw [sV_app]
          rfl
        | some l =>
          rw [if_neg hl.yes]
          refine ⟨_, Same.sqT hs S4, _, rfl, l, v5, rfl, hl.same S4, W.hl _ rfl, by simp only [lastDp] at hdd; omega, by simp only [lastSz] at hss; omega, fun D5 H5 S5 hD5 hD5' => ?_⟩
          refine ⟨p, D5, _, _, rfl, rfl, S5 _ _ hp4, hD5', smallA (by simp only [lastW] at hww; simp only [List.length_append, sV_len, List.length_cons, List.length_nil]; omega), hM _ _ ⟨rfl, Same.at (S4.trans S5) hp, ?_⟩⟩
          rw [upd_same, W.words, sV_app]
          rfl
      · rintro _ H6 ⟨rfl, S6, hp6⟩
        walk_at "rd"
        exact q p _ S6 hp hp6
theorem all_words {n : Nat} {pP : Addr} (F : Df K mg "words_of" s_words_of ["rule"]) (m_str : mg "str" = none) (g_POINT : Gc mg "POINT" (.ref pP)) (tP : ∀ H, SqT K H pP [.str "point"]) : Dn P w K mg base (k + n) "words_of" ["rule"] (spWords K n) := by
  induction n with
  | zero => exact F.void fun vs H Q E ⟨_, _, _, _, _, h, _⟩ => by omega
  | succ n ih => exact ok_words_of F m_str g_POINT tP ih
theorem join_text (rl : Rl) : Txt.join (Str.ofString " ") (words rl) = text rl := by
  rw [blank_eq]
  exact StrLaws.glued_eq_join ..
theorem ok_show_rule (F : Df K mg "show_rule" s_show_rule ["rule"]) (d_words_of : Dn P w K mg base k "words_of" ["rule"] (spWords K 5)) : Dn P w K mg base (k + 1) "show_rule" ["rule"] (spShow K) := by
  refine F.ok sc_show_rule (fun vs H Q E h => ?_) (fun f cdv A outer s H vs Q E hr h => ?_)
  · obtain ⟨d, v, rfl, _⟩ := h; rfl
  obtain ⟨rl, v, rfl, hd, okr, hn, hsz, q⟩ := h
  refine ⟨_, [some _], (@pss_one _ _ _ (@ps_ret _ _ _ _ (@pe_bm _ _ _ _ _ _ _ _ _ _ _ _ PySem.F.plainAttrs_str PySem.F.slot_str_join PySem.F.type_str_join mt_join (@pe_str _ _ _ _) (@pa_u _ _ _ _ _ (@pe_callD _ _ _ _ _ _ _ _ _ _ d_words_of hr rfl (@pa_u _ _ _ _ _ (@pv _ 0 _ _ (by rfl) (by first | exact Or.inl rfl | exact Or.inr (Or.inl rfl) | exact Or.inr (Or.inr rfl)) (by decide) (by decide)) (@pa_nil _) (by rfl)) (by rfl) (by decide)) (@pa_nil _) (by rfl)) (by rfl) (by rfl) (by rfl) (by rfl) (by rfl)))), rfl, ?_⟩
  walk_at "cl"
  walk_at "rd"
  refine ⟨rfl, rl, v, rfl, hd, okr, by omega, hsz, fun D H1 S1 hD hD' => ?_⟩
  have hwl := words_len rl
  refine ⟨_, D, words rl, rfl, rfl, .of hD', ?_, ?_⟩
  · rw [blank_eq]; exact join_ok (n := 5) (m := 100) (words_short okr) (by omega) (by decide)
  · rw [join_text]
    exact q _ S1
end
end My
namespace My
open PySem L2 M
section
def spNumG : Sp := fun vs H Q _ => ∃ i least most : Int, vs = [.str (numS i), .int least, .int most] ∧ 0 ≤ i ∧ least ≤ i ∧ i ≤ most ∧ most < 10 ^ 9 ∧ ∀ H', Same H H' → Q (.bl true) H'
end
section
variable {P : Program} {w : World} {K : PySem.W.Frag} {mg : Str → Option Value} {base : Heap} {ns : List Int} {k : Nat}
theorem dig_in {c : Nat} (h : 48 ≤ c ∧ c ≤ 57) : leS (Str.ofString "0") (sgn c) = true ∧ leS (sgn c) (Str.ofString "9") = true := by
  have e := le_dig c (by omega)
  rw [show dig c = true by simp [dig, h]] at e
  rw [Bool.and_eq_true] at e
  exact e
theorem ok_writes_whole (F : Df K mg "writes_whole" s_writes_whole ["word", "least", "most"]) (m_len : mg "len" = none) (m_all : mg "all" = none) (m_int : mg "int" = none) (m_str : mg "str" = none) : Dn P w K mg base (k + 1) "writes_whole" ["word", "least", "most"] (spNumG) := by
  refine F.ok sc_writes_whole (fun vs H Q E h => ?_) (fun f cdv A outer s H vs Q E hr h => ?_)
  · obtain ⟨i, l, m, rfl, _⟩ := h; rfl
  obtain ⟨i, least, most, rfl, h0, hl, hm, hm9, q⟩ := h
  refine ⟨_, [some _, some _, some _], 
      (@pss_cons _ _ _ _ _ (@ps_if _ _ _ _ _ _ _ _ (@pt_not _ _ _ _ (@pt_chain _ _ _ _ _ _ _ _ _ _ _ _ op_le op_le (@pe_int _ _ _ _) (@pe_callBu _ _ _ _ _ _ _ _ _ call_len_str rfl m_len PySem.boot_len (@pa_u _ _ _ _ _ (@pv _ 0 _ _ (by rfl) (by first | exact Or.inl rfl | exact Or.inr (Or.inl rfl) | exact Or.inr (Or.inr rfl)) (by decide) (by decide)) (@pa_nil _) (by rfl)) (by rfl) (by decide) (by decide)) (@pe_callBu _ _ _ _ _ _ _ _ _ call_len_str rfl m_len PySem.boot_len (@pa_u _ _ _ _ _ (@pe_callTu _ _ _ _ _ _ _ _ _ call_strI rfl m_str bt_str (@pa_u _ _ _ _ _ (@pv _ 2 _ _ (by rfl) (by first | exact Or.inl rfl | exact Or.inr (Or.inl rfl) | exact Or.inr (Or.inr rfl)) (by decide) (by decide)) (@pa_nil _) (by rfl)) (by rfl) (by decide) (by decide)) (@pa_nil _) (by rfl)) (by rfl) (by decide) (by decide)) (by with_unfolding_all rfl))) (@pss_one _ _ _ (@ps_ret _ _ _ _ (@pe_bl _ _ _ _))) (@pss_nil _)) 
      (@pss_cons _ _ _ _ _ (@ps_if _ _ _ _ _ _ _ _ (@pt_not _ _ _ _ (@pt_val _ _ _ (@pe_callBu _ _ _ _ _ _ _ _ _ (call_allB rfl) rfl m_all bt_all (@pa_u _ _ _ _ _ (@pe_comp _ _ _ _ _ _ _ _ _ _ _ _ _ rfl (compPlain (N := ["word", "least", "most"]) rfl (by decide +kernel) rfl) (@pi_str _ _ _ _ (@pv _ 0 _ _ (by rfl) (by first | exact Or.inl rfl | exact Or.inr (Or.inl rfl) | exact Or.inr (Or.inr rfl)) (by decide) (by decide))) (fun _ _ _ _ => (@pts_nil _)) (fun _ _ _ _ => (@pe_chain _ _ _ _ _ _ _ _ _ _ _ _ op_leS op_leS (@pe_str _ _ _ _) (@pv _ 0 _ _ (by rfl) (by first | exact Or.inl rfl | exact Or.inr (Or.inl rfl) | exact Or.inr (Or.inr rfl)) (by decide) (by decide)) (@pe_str _ _ _ _) (by with_unfolding_all rfl))) (by intro _; rfl)) (@pa_nil _) (by rfl)) (by rfl) (by decide) (by decide)) (by intro _; rfl))) (@pss_one _ _ _ (@ps_ret _ _ _ _ (@pe_bl _ _ _ _))) (@pss_nil _)) 
      (@pss_cons _ _ _ _ _ (@ps_if _ _ _ _ _ _ _ _ (@PW.pt _ _ _ (@pw_and _ _ _ _ _ _ _ (@pt_cmpR _ _ _ _ _ _ _ _ op_eq (@pe_ix _ _ _ _ _ _ _ ix_str (@pv _ 0 _ _ (by rfl) (by first | exact Or.inl rfl | exact Or.inr (Or.inl rfl) | exact Or.inr (Or.inr rfl)) (by decide) (by decide)) (@pe_int _ _ _ _) (fun _ _ => rfl)) (@pe_str _ _ _ _) (nomark _)) (@pw_and1 _ _ _ _ (@pt_cmpR _ _ _ _ _ _ _ _ op_ne (@pv _ 0 _ _ (by rfl) (by first | exact Or.inl rfl | exact Or.inr (Or.inl rfl) | exact Or.inr (Or.inr rfl)) (by decide) (by decide)) (@pe_str _ _ _ _) (nomark _))))) (@pss_one _ _ _ (@ps_ret _ _ _ _ (@pe_bl _ _ _ _))) (@pss_nil _)) (@pss_one _ _ _ (@ps_ret _ _ _ _ (@pe_chain _ _ _ _ _ _ _ _ _ _ _ _ op_le op_le (@pv _ 1 _ _ (by rfl) (by first | exact Or.inl rfl | exact Or.inr (Or.inl rfl) | exact Or.inr (Or.inr rfl)) (by decide) (by decide)) (@pe_callTu _ _ _ _ _ _ _ _ _ call_intT rfl m_int bt_int (@pa_u _ _ _ _ _ (@pv _ 0 _ _ (by rfl) (by first | exact Or.inl rfl | exact Or.inr (Or.inl rfl) | exact Or.inr (Or.inr rfl)) (by decide) (by decide)) (@pa_nil _) (by rfl)) (by rfl) (by decide) (by decide)) (@pv _ 2 _ _ (by rfl) (by first | exact Or.inl rfl | exact Or.inr (Or.inl rfl) | exact Or.inr (Or.inr rfl)) (by decide) (by decide)) (by with_unfolding_all rfl))))))), rfl, ?_⟩
  walk_at "cl"
  have hlen := num_le (k := 9) h0 (by decide) (by omega)
  have hlenM := num_le (i := most) (k := 9) (by omega) (by decide) hm9
  have hpos := num_pos h0
  have hmono := num_mono h0 hm
  have hsz : (numS i).length ≤ sizeLine := Nat.le_of_lt (small1000 (by omega))
  have hxl := len_toList (numS i)
  walk_at "st"
  refine ⟨_, rfl, hsz, ?_⟩
  walk_at "rd"
  rw [if_pos (by omega)]
  refine strI_of (num_log (by omega) (by omega)) ⟨_, rfl, Nat.le_of_lt (small1000 (by omega)), ?_⟩
  walk_at "rd"
  rw [if_neg (by omega)]
  walk_at "st"
  refine comp_strB (fun _ => true) (fun R h => h) ?_ (by show (numS i).length ≤ 1000; omega) (fun c' H2 hc' S2 Q' hq => ?_) (fun D H2 S2 hD => ?_)
  · rw [Array.all_eq_true_iff_forall_mem]
    intro c hc
    exact decide_eq_true (num_asc h0 c (by simpa using hc))
  · obtain ⟨e1, e2⟩ := dig_in (num_digs h0 c' hc')
    walk_at "rd"
    rw [e1]
    walk_at "rd"
    rw [e2]
    exact hq _ (.refl _)
  · refine ⟨D, _, rfl, .of hD, ?_⟩
    rw [show (((numS i).cps.toList.map fun _ => true).all id) = true by simp]
    walk_at "st"
    have body : rIntT [V.str (numS i)] H2 (fun y H3 => rI0 (fun i j => V.bl (decide (i ≤ j))) (V.int least) y H3 fun z H4 => ∃ k, z = V.bl k ∧ if k = true then rI0 (fun i j => V.bl (decide (i ≤ j))) y (V.int most) H4 Q else Q (V.bl false) H4) := by
      refine ⟨_, i, rfl, num_int h0 (by omega), by omega, ?_⟩
      walk_at "rd"
      rw [if_pos hl]
      walk_at "rd"
      rw [decide_eq_true hm]
      exact q _ S2
    by_cases hz : i = 0
    · subst hz
      refine ⟨48, hsz, by rw [num_zero]; decide +kernel, ?_⟩
      rw [if_pos (by decide +kernel), if_neg (by rw [num_zero]; simp)]
      exact body
    · obtain ⟨c, r, hc, hc48⟩ := num_lead (i := i) (by omega)
      refine ⟨c, hsz, by rw [hc]; exact atI_nat (j := 0) rfl, ?_⟩
      rw [if_neg (show ¬ (⟨#[c]⟩ : Str) = (Str.ofString "0") by rw [show (Str.ofString "0") = ⟨#[48]⟩ by decide +kernel]; intro z; simp at z; exact hc48 z)]
      exact body
theorem ok_writes_num (F : Df K mg "writes_whole" s_writes_whole ["word", "least", "most"]) (m_len : mg "len" = none) (m_all : mg "all" = none) (m_int : mg "int" = none) (m_str : mg "str" = none) : Dn P w K mg base (k + 1) "writes_whole" ["word", "least", "most"] (spNum) :=
  (ok_writes_whole F m_len m_all m_int m_str).imp fun vs H Q E ⟨i, l, e, hb, hl, q⟩ => ⟨i, l, 99, e, by have := hb.1; omega, hl, hb.2, by decide, q⟩
end
end My
namespace My
open PySem L2 M
def rf (wl : Addr) (sp cn : Int) : List (Str × V) := [("words", .ref wl), ("spot", .int sp), ("unit_count", .int cn)]
theorem lk_hd {x : Str} {v : V} {r : List (Str × V)} : ((x, v) :: r).lookup x = some v := by simp [List.lookup]
theorem lk_tl {x y : Str} {v : V} {r : List (Str × V)} (h : (y == x) = false) : ((x, v) :: r).lookup y = r.lookup y := by simp [List.lookup, h]
section
variable {wl : Addr} {sp cn z : Int}
theorem rf_words : (rf wl sp cn).lookup ("words" : Str) = some (V.ref wl) := lk_hd
theorem rf_spot : (rf wl sp cn).lookup ("spot" : Str) = some (V.int sp) := (lk_tl (by decide +kernel)).trans lk_hd
theorem rf_cnt : (rf wl sp cn).lookup ("unit_count" : Str) = some (V.int cn) := (lk_tl (by decide +kernel)).trans ((lk_tl (by decide +kernel)).trans lk_hd)
theorem rf_no {m : Str} (h1 : (m == ("words" : Str)) = false) (h2 : (m == ("spot" : Str)) = false) (h3 : (m == ("unit_count" : Str)) = false) : (rf wl sp cn).lookup m = none := (lk_tl h1).trans ((lk_tl h2).trans (lk_tl h3))
theorem rf_setS : putF "spot" (.int z) (rf wl sp cn) = rf wl z cn := by
  have h1 : ¬ (("words" : Str) = "spot") := by decide +kernel
  simp only [rf, putF, if_neg h1, if_true]
theorem rf_setC : putF "unit_count" (.int z) (rf wl sp cn) = rf wl sp z := by
  have h2 : ¬ (("words" : Str) = "unit_count") := by decide +kernel
  have h3 : ¬ (("spot" : Str) = "unit_count") := by decide +kernel
  simp only [rf, putF, if_neg h2, if_neg h3, if_true]
theorem rf_init (a b c : V) : putF "unit_count" c (putF "spot" b (putF "words" a [])) = ([("words", a), ("spot", b), ("unit_count", c)] : List (Str × V)) := by
  have h1 : ¬ (("words" : Str) = "spot") := by decide +kernel
  have h2 : ¬ (("words" : Str) = "unit_count") := by decide +kernel
  have h3 : ¬ (("spot" : Str) = "unit_count") := by decide +kernel
  simp only [putF, if_neg h1, if_neg h2, if_neg h3]
end
set_option genInjectivity false in
set_option genSizeOf false in
structure RdC (K : PySem.W.Frag) (C : Addr) : Prop where
  c : Cls K C
  nw : NoAttr K C "words"
  ns : NoAttr K C "spot"
  nu : NoAttr K C "unit_count"
set_option genInjectivity false in
set_option genSizeOf false in
structure RdAt (C : Addr) (H : Hp) (p wl : Addr) (ws : List Str) (sp cn : Int) : Prop where
  ob : ∃ dx, H p = some (.ins C dx (rf wl sp cn))
  wl : H wl = some (.lst (sV ws))
def But (p : Addr) (H H' : Hp) : Prop := ∀ b o, H b = some o → b ≠ p → H' b = some o
section
variable {K : PySem.W.Frag} {C p wl : Addr} {H H' H2 : Hp} {ws : List Str} {sp cn : Int} {Q : VK} {D : Ends} {σ : St}
theorem But.trans (a : But p H H') (b : But p H' H2) : But p H H2 := fun c o h n => b c o (a c o h n) n
theorem Same.but (s : Same H H') : But p H H' := fun b o h _ => s b o h
theorem RdAt.ne (A : RdAt C H p wl ws sp cn) : wl ≠ p := by
  obtain ⟨⟨dx, h1⟩, h2⟩ := A
  exact ne_of h2 h1 (by intro z; cases z)
theorem RdAt.cast {sp' cn' : Int} (A : RdAt C H p wl ws sp cn) (h : sp' = sp) (h2 : cn' = cn) : RdAt C H p wl ws sp' cn' := by subst h h2; exact A
theorem RdAt.same (A : RdAt C H p wl ws sp cn) (s : Same H H') : RdAt C H' p wl ws sp cn := by
  obtain ⟨⟨dx, h1⟩, h2⟩ := A
  exact ⟨⟨dx, s _ _ h1⟩, s _ _ h2⟩
theorem But.tk (b : But p H H') (A : RdAt C H p wl ws sp cn) : Tk K H H' := fun a xs h => by
  obtain ⟨⟨dx, h1⟩, h2⟩ := A
  rcases h with (h | ⟨o, h⟩) | h
  · exact .inl (.inl (b _ _ h (ne_of h h1 (by intro z; cases z))))
  · exact .inl (.inr ⟨o, b _ _ h (ne_of h h1 (by intro z; cases z))⟩)
  · exact .inr h
theorem rd_words (R : RdC K C) (A : RdAt C H p wl ws sp cn) (q : Q (.ref wl) H) : FldR K "words" (.ref p) H Q := by
  obtain ⟨⟨dx, h1⟩, h2⟩ := A
  exact ⟨p, C, dx, _, _, rfl, h1, R.c, R.nw, rf_words, q⟩
theorem rd_spot (R : RdC K C) (A : RdAt C H p wl ws sp cn) (q : Q (.int sp) H) : FldR K "spot" (.ref p) H Q := by
  obtain ⟨⟨dx, h1⟩, h2⟩ := A
  exact ⟨p, C, dx, _, _, rfl, h1, R.c, R.ns, rf_spot, q⟩
theorem rd_cnt (R : RdC K C) (A : RdAt C H p wl ws sp cn) (q : Q (.int cn) H) : FldR K "unit_count" (.ref p) H Q := by
  obtain ⟨⟨dx, h1⟩, h2⟩ := A
  exact ⟨p, C, dx, _, _, rfl, h1, R.c, R.nu, rf_cnt, q⟩
theorem inc_spot (R : RdC K C) (A : RdAt C H p wl ws sp cn) (q : ∀ H', RdAt C H' p wl ws (sp + 1) cn → But p H H' → D.nx σ H') : AugR K "spot" (tC (.int 1)) D σ (.ref p) H := by
  have n := A.ne
  obtain ⟨⟨dx, h1⟩, h2⟩ := A
  refine ⟨p, C, dx, _, _, rfl, h1, R.c, R.ns, rf_spot, sp, 1, rfl, rfl, dx, _, h1, by show 3 < 1000; decide, q _ ⟨⟨dx, by rw [upd_same, rf_setS]⟩, by rw [upd_ne n]; exact h2⟩ fun b o h nb => by rw [upd_ne nb]; exact h⟩
theorem inc_cnt (R : RdC K C) (A : RdAt C H p wl ws sp cn) (q : ∀ H', RdAt C H' p wl ws sp (cn + 1) → But p H H' → D.nx σ H') : AugR K "unit_count" (tC (.int 1)) D σ (.ref p) H := by
  have n := A.ne
  obtain ⟨⟨dx, h1⟩, h2⟩ := A
  refine ⟨p, C, dx, _, _, rfl, h1, R.c, R.nu, rf_cnt, cn, 1, rfl, rfl, dx, _, h1, by show 3 < 1000; decide, q _ ⟨⟨dx, by rw [upd_same, rf_setC]⟩, by rw [upd_ne n]; exact h2⟩ fun b o h nb => by rw [upd_ne nb]; exact h⟩
theorem mth_of {m : Str} {t : TA} {spm : Sp} (A : RdAt C H p wl ws sp cn) (h : (m == ("words" : Str)) = false ∧ (m == ("spot" : Str)) = false ∧ (m == ("unit_count" : Str)) = false) (q : t σ H fun vs H2 => spm (.ref p :: (vs ++ [])) H2 Q E0) : MthR C m spm (.ref p) t σ H Q := by
  obtain ⟨⟨dx, h1⟩, h2⟩ := A
  exact ⟨p, dx, _, rfl, h1, rf_no h.1 h.2.1 h.2.2, q⟩
end
section
variable (K : PySem.W.Frag) (C : Addr)
def spInit : Sp := fun vs H Q _ => ∃ p wl dx, vs = [.ref p, .ref wl] ∧ H p = some (.ins C dx []) ∧ ∀ H', H' p = some (.ins C dx (rf wl 0 0)) → But p H H' → Q .non H'
def spMore : Sp := fun vs H Q _ => ∃ p wl ws cn, vs = [.ref p] ∧ RdAt C H p wl ws (ws.length : Nat) cn ∧ Q .non H
def spHere : Sp := fun vs H Q _ => ∃ p wl pre x post cn, vs = [.ref p] ∧ RdAt C H p wl (pre ++ x :: post) (pre.length : Nat) cn ∧ Q (.str x) H
def spNumber : Sp := fun vs H Q _ => ∃ p wl pre i least post cn, vs = [.ref p, .int least] ∧ RdAt C H p wl (pre ++ numS i :: post) (pre.length : Nat) cn ∧ Bd 1 i ∧ least ≤ i ∧ ∀ H', RdAt C H' p wl (pre ++ numS i :: post) (pre.length + 1 : Nat) cn → But p H H' → Q (.int i) H'
def spCap : Sp := fun vs H Q _ => ∃ p wl pre cap to post cn, vs = [.ref p, .int to] ∧ RdAt C H p wl (pre ++ capS cap :: post) (pre.length : Nat) cn ∧ 1 ≤ to ∧ capOk to cap ∧ ∀ H', RdAt C H' p wl (pre ++ capS cap :: post) (pre.length + 1 : Nat) cn → But p H H' → Q (optI cap) H'
def spPart (n : Nat) : Sp := fun vs H Q _ => ∃ p wl pre rl post room, ∃ cn : Nat, vs = [.ref p, .int room] ∧ ok rl ∧ (depth rl : Int) ≤ room ∧ depth rl < n ∧ cn + size rl ≤ 10 ∧ RdAt C H p wl (pre ++ words rl ++ post) (pre.length : Nat) (cn : Nat) ∧
  ∀ r H', RlV K H' rl r → RdAt C H' p wl (pre ++ words rl ++ post) (pre.length + (words rl).length : Nat) (cn + size rl : Nat) → But p H H' → Q r H'
def spLast (n : Nat) : Sp := fun vs H Q _ => ∃ p wl pre l post room cap, ∃ cn : Nat, vs = [.ref p, optI cap, .int room] ∧ (∀ r, l = some r → ok r) ∧ (cap = none → l = none) ∧ (lastDp l : Int) ≤ room ∧ lastDp l < n ∧ cn + lastSz l ≤ 10 ∧ RdAt C H p wl (pre ++ lastW l ++ post) (pre.length : Nat) (cn : Nat) ∧
  ∀ r H', LastV K H' l r → RdAt C H' p wl (pre ++ lastW l ++ post) (pre.length + (lastW l).length : Nat) (cn + lastSz l : Nat) → But p H H' → Q r H'
def spUnitR (n : Nat) : Sp := fun vs H Q _ => ∃ p wl pre rl to lead cap i l post room, ∃ cn : Nat, vs = [.ref p, .int room] ∧ Vw rl to lead cap i l ∧ (depth i : Int) ≤ room ∧ (lastDp l : Int) ≤ room ∧ depth i < n ∧ lastDp l < n ∧ cn + (size i + lastSz l) ≤ 10 ∧
  RdAt C H p wl (pre ++ ([numS to, numS lead, capS cap] ++ words i ++ lastW l) ++ post) (pre.length : Nat) (cn : Nat) ∧
  ∀ r H', RlV K H' rl r → RdAt C H' p wl (pre ++ ([numS to, numS lead, capS cap] ++ words i ++ lastW l) ++ post) (pre.length + (3 + (words i).length + (lastW l).length) : Nat) (cn + (size i + lastSz l) : Nat) → But p H H' → Q r H'
end
section
variable {P : Program} {w : World} {K : PySem.W.Frag} {mg : Str → Option Value} {base : Heap} {ns : List Int} {k : Nat} {C : Addr}
theorem ok_init (F : Ci K mg "RuleReader" "RuleReader.__init__" C s_RuleReader___init__ ["self", "words"]) (R : RdC K C) : Cn P w K mg base (k + 1) "RuleReader" C ["self", "words"] (spInit C) := by
  refine F.ok sc_RuleReader___init__ (fun vs H Q E h => ?_) (fun f cdv A outer s H vs Q E hr h => ?_)
  · obtain ⟨p, wl, dx, rfl, _⟩ := h; rfl
  obtain ⟨p, wl, dx, rfl, hp, q⟩ := h
  refine ⟨_, [some _, some _], 
      (@pss_cons _ _ _ _ _ (@ps_fld _ _ _ _ _ _ _ _ (@pv _ 0 _ _ (by rfl) (by first | exact Or.inl rfl | exact Or.inr (Or.inl rfl) | exact Or.inr (Or.inr rfl)) (by decide) (by decide)) (@pv _ 1 _ _ (by rfl) (by first | exact Or.inl rfl | exact Or.inr (Or.inl rfl) | exact Or.inr (Or.inr rfl)) (by decide) (by decide)) rfl) 
      (@pss_cons _ _ _ _ _ (@ps_fld _ _ _ _ _ _ _ _ (@pv _ 0 _ _ (by rfl) (by first | exact Or.inl rfl | exact Or.inr (Or.inl rfl) | exact Or.inr (Or.inr rfl)) (by decide) (by decide)) (@pe_int _ _ _ _) rfl) (@pss_one _ _ _ (@ps_fld _ _ _ _ _ _ _ _ (@pv _ 0 _ _ (by rfl) (by first | exact Or.inl rfl | exact Or.inr (Or.inl rfl) | exact Or.inr (Or.inr rfl)) (by decide) (by decide)) (@pe_int _ _ _ _) rfl)))), rfl, ?_⟩
  walk_at "cl"
  walk_at "st"
  refine ⟨p, C, dx, _, rfl, hp, R.c, R.nw, by show 0 < 1000; decide, ?_⟩
  walk_at "st"
  refine ⟨p, C, dx, _, rfl, upd_same, R.c, R.ns, by show 1 < 1000; decide, ?_⟩
  walk_at "rd"
  refine ⟨p, C, dx, _, rfl, upd_same, R.c, R.nu, by show (if ("words" : Str) = "spot" then _ else (("words" : Str), V.ref wl) :: [(("spot" : Str), V.int 0)]).length < 1000; rw [if_neg (by decide +kernel)]; show 2 < 1000; decide, ?_⟩
  refine q _ (by rw [upd_same, rf_init]; rfl) fun b o h nb => by rw [upd_ne nb, upd_ne nb, upd_ne nb]; exact h
theorem ok_more (F : Dm K C "refuse_more" "RuleReader.refuse_more" s_RuleReader_refuse_more ["self"]) (R : RdC K C) (m_len : mg "len" = none) : Mn P w K mg base (k + 1) C "refuse_more" ["self"] (spMore C) := by
  refine F.ok sc_RuleReader_refuse_more (fun vs H Q E h => ?_) (fun f cdv A outer s H vs Q E hr h => ?_)
  · obtain ⟨p, wl, ws, cn, rfl, _⟩ := h; rfl
  obtain ⟨p, wl, ws, cn, rfl, A, q⟩ := h
  refine ⟨_, [some _], (@pss_one _ _ _ (@ps_if _ _ _ _ _ _ _ _ (@pt_cmpR _ _ _ _ _ _ _ _ op_lt (@pe_fld _ _ _ _ _ (@pv _ 0 _ _ (by rfl) (by first | exact Or.inl rfl | exact Or.inr (Or.inl rfl) | exact Or.inr (Or.inr rfl)) (by decide) (by decide)) rfl) (@pe_callBu _ _ _ _ _ _ _ _ _ call_lenS rfl m_len PySem.boot_len (@pa_u _ _ _ _ _ (@pe_fld _ _ _ _ _ (@pv _ 0 _ _ (by rfl) (by first | exact Or.inl rfl | exact Or.inr (Or.inl rfl) | exact Or.inr (Or.inr rfl)) (by decide) (by decide)) rfl) (@pa_nil _) (by rfl)) (by rfl) (by decide) (by decide)) (nomark _)) (@pss_one _ _ _ (@ps_never _ _)) (@pss_nil _))), rfl, ?_⟩
  walk_at "cl"
  walk_at "rd"
  refine rd_spot R A (rd_words R A (len_of (.of A.wl) ?_))
  walk_at "rd"
  rw [if_neg (by rw [sV_len]; omega)]
  exact q
theorem ok_here (F : Dm K C "word_here" "RuleReader.word_here" s_RuleReader_word_here ["self"]) (R : RdC K C) (m_len : mg "len" = none) : Mn P w K mg base (k + 1) C "word_here" ["self"] (spHere C) := by
  refine F.ok sc_RuleReader_word_here (fun vs H Q E h => ?_) (fun f cdv A outer s H vs Q E hr h => ?_)
  · obtain ⟨p, wl, pre, x, post, cn, rfl, _⟩ := h; rfl
  obtain ⟨p, wl, pre, x, post, cn, rfl, A, q⟩ := h
  refine ⟨_, [some _], 
      (@pss_cons _ _ _ _ _ (@ps_if _ _ _ _ _ _ _ _ (@pt_cmpR _ _ _ _ _ _ _ _ op_eq (@pe_fld _ _ _ _ _ (@pv _ 0 _ _ (by rfl) (by first | exact Or.inl rfl | exact Or.inr (Or.inl rfl) | exact Or.inr (Or.inr rfl)) (by decide) (by decide)) rfl) (@pe_callBu _ _ _ _ _ _ _ _ _ call_lenS rfl m_len PySem.boot_len (@pa_u _ _ _ _ _ (@pe_fld _ _ _ _ _ (@pv _ 0 _ _ (by rfl) (by first | exact Or.inl rfl | exact Or.inr (Or.inl rfl) | exact Or.inr (Or.inr rfl)) (by decide) (by decide)) rfl) (@pa_nil _) (by rfl)) (by rfl) (by decide) (by decide)) (nomark _)) (@pss_one _ _ _ (@ps_never _ _)) (@pss_nil _)) (@pss_one _ _ _ (@ps_ret _ _ _ _ (@pe_ix _ _ _ _ _ _ _ ix_list (@pe_fld _ _ _ _ _ (@pv _ 0 _ _ (by rfl) (by first | exact Or.inl rfl | exact Or.inr (Or.inl rfl) | exact Or.inr (Or.inr rfl)) (by decide) (by decide)) rfl) (@pe_fld _ _ _ _ _ (@pv _ 0 _ _ (by rfl) (by first | exact Or.inl rfl | exact Or.inr (Or.inl rfl) | exact Or.inr (Or.inr rfl)) (by decide) (by decide)) rfl) (fun _ _ => rfl))))), rfl, ?_⟩
  walk_at "cl"
  walk_at "st"
  refine rd_spot R A (rd_words R A (len_of (.of A.wl) ?_))
  walk_at "rd"
  rw [if_neg (by rw [sV_len, List.length_append, List.length_cons]; omega)]
  walk_at "rd"
  refine rd_words R A (rd_spot R A ?_)
  walk_at "rd"
  exact ⟨_, .of A.wl, _, atI_nat (j := pre.length) (by simp [sV]), q⟩
theorem ok_number (F : Dm K C "read_number" "RuleReader.read_number" s_RuleReader_read_number ["self", "least"]) (R : RdC K C) (c_RuleReader : Cls K C) (m_int : mg "int" = none) (g_MOST : Gc mg "MOST" (.int 99)) (d_RuleReader_word_here : Mn P w K mg base k C "word_here" ["self"] (spHere C))
    (d_writes_whole : Dn P w K mg base k "writes_whole" ["word", "least", "most"] (spNum)) : Mn P w K mg base (k + 1) C "read_number" ["self", "least"] (spNumber C) := by
  refine F.ok sc_RuleReader_read_number (fun vs H Q E h => ?_) (fun f cdv A outer s H vs Q E hr h => ?_)
  · obtain ⟨p, wl, pre, i, least, post, cn, rfl, _⟩ := h; rfl
  obtain ⟨p, wl, pre, i, least, post, cn, rfl, A, hb, hl, q⟩ := h
  refine ⟨_, [some _, some _, none], 
      (@pss_cons _ _ _ _ _ (@ps_set _ _ 2 _ _ _ _ sc_RuleReader_read_number.nd rfl (Or.inl rfl) (@pe_mD0 _ _ _ _ _ _ _ _ _ _ _ (@pv _ 0 _ _ (by rfl) (by first | exact Or.inl rfl | exact Or.inr (Or.inl rfl) | exact Or.inr (Or.inr rfl)) (by decide) (by decide)) c_RuleReader d_RuleReader_word_here hr (by rfl)) (by rfl) (by first | exact .inl rfl | exact .inr rfl | assumption)) 
      (@pss_cons _ _ _ _ _ (@ps_if _ _ _ _ _ _ _ _ (@pt_not _ _ _ _ (@pt_val _ _ _ (@pe_callD _ _ _ _ _ _ _ _ _ _ d_writes_whole hr rfl (@pa_u _ _ _ _ _ (@pv _ 2 _ _ (by rfl) (by first | exact Or.inl rfl | exact Or.inr (Or.inl rfl) | exact Or.inr (Or.inr rfl)) (by decide) (by decide)) (@pa_u _ _ _ _ _ (@pv _ 1 _ _ (by rfl) (by first | exact Or.inl rfl | exact Or.inr (Or.inl rfl) | exact Or.inr (Or.inr rfl)) (by decide) (by decide)) (@pa_u _ _ _ _ _ (@pe_gc _ _ _ _ g_MOST rfl (by decide)) (@pa_nil _) (by rfl)) (by rfl)) (by rfl)) (by rfl) (by decide)) (by intro _; rfl))) (@pss_one _ _ _ (@ps_never _ _)) (@pss_nil _)) 
      (@pss_cons _ _ _ _ _ (@ps_fldaug _ _ _ _ _ _ _ _ _ _ (@pv _ 0 _ _ (by rfl) (by first | exact Or.inl rfl | exact Or.inr (Or.inl rfl) | exact Or.inr (Or.inr rfl)) (by decide) (by decide)) (@pe_int _ _ _ _) in_add) (@pss_one _ _ _ (@ps_ret _ _ _ _ (@pe_callTu _ _ _ _ _ _ _ _ _ call_intT rfl m_int bt_int (@pa_u _ _ _ _ _ (@pv _ 2 _ _ (by rfl) (by first | exact Or.inl rfl | exact Or.inr (Or.inl rfl) | exact Or.inr (Or.inr rfl)) (by decide) (by decide)) (@pa_nil _) (by rfl)) (by rfl) (by decide) (by decide))))))), rfl, ?_⟩
  walk_at "cl"
  walk_at "st"
  refine mth_of A (by decide +kernel) ?_
  walk_at "rd"
  refine ⟨p, wl, pre, _, post, cn, rfl, A, ?_⟩
  walk_at "st"
  refine ⟨i, least, rfl, hb, hl, fun H1 S1 => ?_⟩
  walk_at "rd"
  walk_at "st"
  refine inc_spot R (A.same S1) fun H2 A2 B2 => ?_
  walk_at "rd"
  refine ⟨_, i, rfl, (num_facts hb).2.2.2, by have := num_len hb; omega, ?_⟩
  exact q _ (by rw [show (((pre.length + 1 : Nat)) : Int) = (pre.length : Int) + 1 by omega]; exact A2) ((Same.but S1).trans B2)
theorem ok_cap (F : Dm K C "read_cap" "RuleReader.read_cap" s_RuleReader_read_cap ["self", "to"]) (R : RdC K C) (c_RuleReader : Cls K C) (d_RuleReader_word_here : Mn P w K mg base k C "word_here" ["self"] (spHere C))
    (d_RuleReader_read_number : Mn P w K mg base k C "read_number" ["self", "least"] (spNumber C)) : Mn P w K mg base (k + 1) C "read_cap" ["self", "to"] (spCap C) := by
  refine F.ok sc_RuleReader_read_cap (fun vs H Q E h => ?_) (fun f cdv A outer s H vs Q E hr h => ?_)
  · obtain ⟨p, wl, pre, cap, to, post, cn, rfl, _⟩ := h; rfl
  obtain ⟨p, wl, pre, cap, to, post, cn, rfl, A, h1, hc, q⟩ := h
  refine ⟨_, [some _, some _], 
      (@pss_cons _ _ _ _ _ (@ps_if _ _ _ _ _ _ _ _ (@pt_cmpR _ _ _ _ _ _ _ _ op_eq (@pe_mD0 _ _ _ _ _ _ _ _ _ _ _ (@pv _ 0 _ _ (by rfl) (by first | exact Or.inl rfl | exact Or.inr (Or.inl rfl) | exact Or.inr (Or.inr rfl)) (by decide) (by decide)) c_RuleReader d_RuleReader_word_here hr (by rfl)) (@pe_str _ _ _ _) (nomark _)) 
      (@pss_cons _ _ _ _ _ (@ps_fldaug _ _ _ _ _ _ _ _ _ _ (@pv _ 0 _ _ (by rfl) (by first | exact Or.inl rfl | exact Or.inr (Or.inl rfl) | exact Or.inr (Or.inr rfl)) (by decide) (by decide)) (@pe_int _ _ _ _) in_add) (@pss_one _ _ _ (@ps_ret _ _ _ _ (@pe_non _ _ _)))) (@pss_nil _)) (@pss_one _ _ _ (@ps_ret _ _ _ _ (@pe_mD _ _ _ _ _ _ _ _ _ _ _ _ _ _ (@pv _ 0 _ _ (by rfl) (by first | exact Or.inl rfl | exact Or.inr (Or.inl rfl) | exact Or.inr (Or.inr rfl)) (by decide) (by decide)) c_RuleReader d_RuleReader_read_number hr (@pa_u _ _ _ _ _ (@pv _ 1 _ _ (by rfl) (by first | exact Or.inl rfl | exact Or.inr (Or.inl rfl) | exact Or.inr (Or.inr rfl)) (by decide) (by decide)) (@pa_nil _) (by rfl)) (by rfl) (by rfl))))), rfl, ?_⟩
  walk_at "cl"
  walk_at "st"
  refine mth_of A (by decide +kernel) ?_
  walk_at "rd"
  refine ⟨p, wl, pre, _, post, cn, rfl, A, ?_⟩
  walk_at "rd"
  cases cap with
  | none =>
    rw [if_pos (show capS none = ("-" : Str) from rfl)]
    walk_at "st"
    refine inc_spot R A fun H2 A2 B2 => ?_
    walk_at "rd"
    exact q _ (by rw [show (((pre.length + 1 : Nat)) : Int) = (pre.length : Int) + 1 by omega]; exact A2) B2
  | some c =>
    rw [if_neg (show ¬ capS (some c) = ("-" : Str) from num_dash (Bd.one h1 hc))]
    walk_at "rd"
    refine mth_of A (by decide +kernel) ?_
    walk_at "rd"
    exact ⟨p, wl, pre, c, to, post, cn, rfl, A, Bd.one h1 hc, hc.1, q⟩
theorem cast_add (a b : Nat) : ((a + b : Nat) : Int) = (a : Int) + (b : Int) := by omega
theorem ok_last {n : Nat} (F : Dm K C "read_last" "RuleReader.read_last" s_RuleReader_read_last ["self", "cap", "room"]) (R : RdC K C) (c_RuleReader : Cls K C) (d_RuleReader_word_here : Mn P w K mg base k C "word_here" ["self"] (spHere C))
    (d_RuleReader_read_part : Mn P w K mg base k C "read_part" ["self", "room"] (spPart K C n)) : Mn P w K mg base (k + 1) C "read_last" ["self", "cap", "room"] (spLast K C n) := by
  refine F.ok sc_RuleReader_read_last (fun vs H Q E h => ?_) (fun f cdv A outer s H vs Q E hr h => ?_)
  · obtain ⟨p, wl, pre, l, post, room, cap, cn, rfl, _⟩ := h; rfl
  obtain ⟨p, wl, pre, l, post, room, cap, cn, rfl, hok, hcl, hdp, hdn, hsz, A, q⟩ := h
  refine ⟨_, [some _, some _, some _], 
      (@pss_cons _ _ _ _ _ (@ps_if _ _ _ _ _ _ _ _ (@pt_cmpR _ _ _ _ _ _ _ _ op_eq (@pe_mD0 _ _ _ _ _ _ _ _ _ _ _ (@pv _ 0 _ _ (by rfl) (by first | exact Or.inl rfl | exact Or.inr (Or.inl rfl) | exact Or.inr (Or.inr rfl)) (by decide) (by decide)) c_RuleReader d_RuleReader_word_here hr (by rfl)) (@pe_str _ _ _ _) (nomark _)) 
      (@pss_cons _ _ _ _ _ (@ps_fldaug _ _ _ _ _ _ _ _ _ _ (@pv _ 0 _ _ (by rfl) (by first | exact Or.inl rfl | exact Or.inr (Or.inl rfl) | exact Or.inr (Or.inr rfl)) (by decide) (by decide)) (@pe_int _ _ _ _) in_add) (@pss_one _ _ _ (@ps_ret _ _ _ _ (@pe_non _ _ _)))) (@pss_nil _)) 
      (@pss_cons _ _ _ _ _ (@ps_if _ _ _ _ _ _ _ _ (@pt_cmpR _ _ _ _ _ _ _ _ op_isNS (@pv _ 1 _ _ (by rfl) (by first | exact Or.inl rfl | exact Or.inr (Or.inl rfl) | exact Or.inr (Or.inr rfl)) (by decide) (by decide)) (@pe_non _ _ _) (nomark _)) (@pss_one _ _ _ (@ps_never _ _)) (@pss_nil _)) (@pss_one _ _ _ (@ps_ret _ _ _ _ (@pe_mD _ _ _ _ _ _ _ _ _ _ _ _ _ _ (@pv _ 0 _ _ (by rfl) (by first | exact Or.inl rfl | exact Or.inr (Or.inl rfl) | exact Or.inr (Or.inr rfl)) (by decide) (by decide)) c_RuleReader d_RuleReader_read_part hr (@pa_u _ _ _ _ _ (@pv _ 2 _ _ (by rfl) (by first | exact Or.inl rfl | exact Or.inr (Or.inl rfl) | exact Or.inr (Or.inr rfl)) (by decide) (by decide)) (@pa_nil _) (by rfl)) (by rfl) (by rfl)))))), rfl, ?_⟩
  walk_at "cl"
  walk_at "st"
  refine mth_of A (by decide +kernel) ?_
  walk_at "rd"
  cases l with
  | none =>
    have A' : RdAt C H p wl (pre ++ wDash :: post) (pre.length : Nat) (cn : Nat) := by simpa [lastW] using A
    refine ⟨p, wl, pre, _, post, cn, rfl, A', ?_⟩
    walk_at "rd"
    rw [if_pos (show wDash = ("-" : Str) from rfl)]
    walk_at "st"
    refine inc_spot R A fun H2 A2 B2 => ?_
    walk_at "rd"
    refine q .non _ rfl ?_ B2
    rw [cast_add, cast_add]
    simpa [lastW, lastSz] using A2
  | some l =>
    obtain ⟨x, r, hx, hxe⟩ : ∃ x r, words l = x :: r ∧ x ≠ wDash := by
      cases l with
      | pt => exact ⟨wPoint, [], rfl, by decide +kernel⟩
      | un _ _ _ _ => exact ⟨wUnit, _, rfl, by decide +kernel⟩
      | ul _ _ _ _ _ => exact ⟨wUnit, _, rfl, by decide +kernel⟩
    have A' : RdAt C H p wl (pre ++ x :: (r ++ post)) (pre.length : Nat) (cn : Nat) := by simpa [lastW, hx] using A
    refine ⟨p, wl, pre, _, _, cn, rfl, A', ?_⟩
    walk_at "rd"
    rw [if_neg (show ¬ x = ("-" : Str) from hxe)]
    walk_at "st"
    have hcap : cap ≠ none := fun e => by cases hcl e
    rw [if_neg (by cases cap with | none => exact absurd rfl hcap | some c => intro h; cases h)]
    walk_at "rd"
    refine mth_of A (by decide +kernel) ?_
    walk_at "rd"
    exact ⟨p, wl, pre, l, post, room, cn, rfl, hok _ rfl, hdp, hdn, hsz, A, q⟩
theorem ok_unit {n : Nat} (F : Dm K C "read_unit" "RuleReader.read_unit" s_RuleReader_read_unit ["self", "room"]) (R : RdC K C) (c_RuleReader : Cls K C) (d_RuleReader_read_number : Mn P w K mg base k C "read_number" ["self", "least"] (spNumber C)) (d_RuleReader_read_cap : Mn P w K mg base k C "read_cap" ["self", "to"] (spCap C))
    (d_RuleReader_read_part : Mn P w K mg base k C "read_part" ["self", "room"] (spPart K C n)) (d_RuleReader_read_last : Mn P w K mg base k C "read_last" ["self", "cap", "room"] (spLast K C n)) : Mn P w K mg base (k + 1) C "read_unit" ["self", "room"] (spUnitR K C n) := by
  refine F.ok sc_RuleReader_read_unit (fun vs H Q E h => ?_) (fun f cdv A outer s H vs Q E hr h => ?_)
  · obtain ⟨p, wl, pre, rl, to, lead, cap, i, l, post, room, cn, rfl, _⟩ := h; rfl
  obtain ⟨p, wl, pre, rl, to, lead, cap, i, l, post, room, cn, rfl, W, hd1, hd2, hn1, hn2, hsz, A, q⟩ := h
  refine ⟨_, [some _, some _, none, none, none, none, none], 
      (@pss_cons _ _ _ _ _ (@ps_set _ _ 2 _ _ _ _ sc_RuleReader_read_unit.nd rfl (Or.inl rfl) (@pe_mD _ _ _ _ _ _ _ _ _ _ _ _ _ _ (@pv _ 0 _ _ (by rfl) (by first | exact Or.inl rfl | exact Or.inr (Or.inl rfl) | exact Or.inr (Or.inr rfl)) (by decide) (by decide)) c_RuleReader d_RuleReader_read_number hr (@pa_u _ _ _ _ _ (@pe_int _ _ _ _) (@pa_nil _) (by rfl)) (by rfl) (by rfl)) (by rfl) (by first | exact .inl rfl | exact .inr rfl | assumption)) 
      (@pss_cons _ _ _ _ _ (@ps_set _ _ 3 _ _ _ _ sc_RuleReader_read_unit.nd rfl (Or.inl rfl) (@pe_mD _ _ _ _ _ _ _ _ _ _ _ _ _ _ (@pv _ 0 _ _ (by rfl) (by first | exact Or.inl rfl | exact Or.inr (Or.inl rfl) | exact Or.inr (Or.inr rfl)) (by decide) (by decide)) c_RuleReader d_RuleReader_read_number hr (@pa_u _ _ _ _ _ (@pe_int _ _ _ _) (@pa_nil _) (by rfl)) (by rfl) (by rfl)) (by rfl) (by first | exact .inl rfl | exact .inr rfl | assumption)) 
      (@pss_cons _ _ _ _ _ (@ps_set _ _ 4 _ _ _ _ sc_RuleReader_read_unit.nd rfl (Or.inl rfl) (@pe_mD _ _ _ _ _ _ _ _ _ _ _ _ _ _ (@pv _ 0 _ _ (by rfl) (by first | exact Or.inl rfl | exact Or.inr (Or.inl rfl) | exact Or.inr (Or.inr rfl)) (by decide) (by decide)) c_RuleReader d_RuleReader_read_cap hr (@pa_u _ _ _ _ _ (@pv _ 2 _ _ (by rfl) (by first | exact Or.inl rfl | exact Or.inr (Or.inl rfl) | exact Or.inr (Or.inr rfl)) (by decide) (by decide)) (@pa_nil _) (by rfl)) (by rfl) (by rfl)) (by rfl) (by first | exact .inl rfl | exact .inr rfl | assumption)) 
      (@pss_cons _ _ _ _ _ (@ps_set _ _ 5 _ _ _ _ sc_RuleReader_read_unit.nd rfl (Or.inl rfl) (@pe_mD _ _ _ _ _ _ _ _ _ _ _ _ _ _ (@pv _ 0 _ _ (by rfl) (by first | exact Or.inl rfl | exact Or.inr (Or.inl rfl) | exact Or.inr (Or.inr rfl)) (by decide) (by decide)) c_RuleReader d_RuleReader_read_part hr (@pa_u _ _ _ _ _ (@pv _ 1 _ _ (by rfl) (by first | exact Or.inl rfl | exact Or.inr (Or.inl rfl) | exact Or.inr (Or.inr rfl)) (by decide) (by decide)) (@pa_nil _) (by rfl)) (by rfl) (by rfl)) (by rfl) (by first | exact .inl rfl | exact .inr rfl | assumption)) 
      (@pss_cons _ _ _ _ _ (@ps_set _ _ 6 _ _ _ _ sc_RuleReader_read_unit.nd rfl (Or.inl rfl) (@pe_mD _ _ _ _ _ _ _ _ _ _ _ _ _ _ (@pv _ 0 _ _ (by rfl) (by first | exact Or.inl rfl | exact Or.inr (Or.inl rfl) | exact Or.inr (Or.inr rfl)) (by decide) (by decide)) c_RuleReader d_RuleReader_read_last hr (@pa_u _ _ _ _ _ (@pv _ 4 _ _ (by rfl) (by first | exact Or.inl rfl | exact Or.inr (Or.inl rfl) | exact Or.inr (Or.inr rfl)) (by decide) (by decide)) (@pa_u _ _ _ _ _ (@pv _ 1 _ _ (by rfl) (by first | exact Or.inl rfl | exact Or.inr (Or.inl rfl) | exact Or.inr (Or.inr rfl)) (by decide) (by decide)) (@pa_nil _) (by rfl)) (by rfl)) (by rfl) (by rfl)) (by rfl) (by first | exact .inl rfl | exact .inr rfl | assumption)) (@pss_one _ _ _ (@ps_ret _ _ _ _ (@pe_tup _ _ _ _ _ (@pa_u _ _ _ _ _ (@pe_str _ _ _ _) (@pa_u _ _ _ _ _ (@pv _ 2 _ _ (by rfl) (by first | exact Or.inl rfl | exact Or.inr (Or.inl rfl) | exact Or.inr (Or.inr rfl)) (by decide) (by decide)) (@pa_u _ _ _ _ _ (@pv _ 3 _ _ (by rfl) (by first | exact Or.inl rfl | exact Or.inr (Or.inl rfl) | exact Or.inr (Or.inr rfl)) (by decide) (by decide)) (@pa_u _ _ _ _ _ (@pv _ 4 _ _ (by rfl) (by first | exact Or.inl rfl | exact Or.inr (Or.inl rfl) | exact Or.inr (Or.inr rfl)) (by decide) (by decide)) (@pa_u _ _ _ _ _ (@pv _ 5 _ _ (by rfl) (by first | exact Or.inl rfl | exact Or.inr (Or.inl rfl) | exact Or.inr (Or.inr rfl)) (by decide) (by decide)) (@pa_u _ _ _ _ _ (@pv _ 6 _ _ (by rfl) (by first | exact Or.inl rfl | exact Or.inr (Or.inl rfl) | exact Or.inr (Or.inr rfl)) (by decide) (by decide)) (@pa_nil _) (by rfl)) (by rfl)) (by rfl)) (by rfl)) (by rfl)) (by rfl)))))))))), rfl, ?_⟩
  walk_at "cl"
  generalize hws : pre ++ ([numS to, numS lead, capS cap] ++ words i ++ lastW l) ++ post = ws at A q
  have e1 : ws = pre ++ numS to :: (numS lead :: capS cap :: (words i ++ (lastW l ++ post))) := by simp [← hws]
  have e2 : ws = (pre ++ [numS to]) ++ numS lead :: (capS cap :: (words i ++ (lastW l ++ post))) := by simp [← hws]
  have e3 : ws = (pre ++ [numS to, numS lead]) ++ capS cap :: (words i ++ (lastW l ++ post)) := by simp [← hws]
  have e4 : ws = (pre ++ [numS to, numS lead, capS cap]) ++ words i ++ (lastW l ++ post) := by simp [← hws]
  have e5 : ws = (pre ++ [numS to, numS lead, capS cap] ++ words i) ++ lastW l ++ post := by simp [← hws]
  walk_at "st"
  refine mth_of A (by decide +kernel) ?_
  walk_at "rd"
  refine ⟨p, wl, pre, to, 1, _, cn, rfl, e1 ▸ A, W.hto, W.hto.1, fun H1 A1 B1 => ?_⟩
  rw [← e1] at A1
  walk_at "st"
  refine mth_of A1 (by decide +kernel) ?_
  walk_at "rd"
  refine ⟨p, wl, pre ++ [numS to], lead, 1, capS cap :: (words i ++ (lastW l ++ post)), cn, rfl, ?_, W.hlead, W.hlead.1, fun H2 A2 B2 => ?_⟩
  · rw [← e2]; exact A1.cast (by simp only [List.length_append, List.length_cons, List.length_nil] <;> omega) rfl
  rw [← e2] at A2
  walk_at "st"
  refine mth_of A2 (by decide +kernel) ?_
  walk_at "rd"
  refine ⟨p, wl, pre ++ [numS to, numS lead], cap, to, words i ++ (lastW l ++ post), cn, rfl, ?_, W.hto.1, W.hcap, fun H3 A3 B3 => ?_⟩
  · rw [← e3]; exact A2.cast (by simp only [List.length_append, List.length_cons, List.length_nil] <;> omega) rfl
  rw [← e3] at A3
  walk_at "st"
  refine mth_of A3 (by decide +kernel) ?_
  walk_at "rd"
  refine ⟨p, wl, pre ++ [numS to, numS lead, capS cap], i, lastW l ++ post, room, cn, rfl, W.hi, hd1, hn1, by omega, ?_, fun iv H4 ri A4 B4 => ?_⟩
  · rw [← e4]; exact A3.cast (by simp only [List.length_append, List.length_cons, List.length_nil] <;> omega) rfl
  rw [← e4] at A4
  walk_at "st"
  refine mth_of A4 (by decide +kernel) ?_
  walk_at "rd"
  refine ⟨p, wl, pre ++ [numS to, numS lead, capS cap] ++ words i, l, post, room, cap, cn + size i, rfl, W.hl, W.cl, hd2, hn2, by omega, ?_, fun lv H5 rl5 A5 B5 => ?_⟩
  · rw [← e5]; exact A4.cast (by simp only [List.length_append, List.length_cons, List.length_nil] <;> omega) rfl
  rw [← e5] at A5
  walk_at "rd"
  have ri5 := ri.tk (But.tk (K := K) B5 A4)
  refine ⟨small6 (by simp), fun p6 hp6 => ?_⟩
  have S6 := same_new hp6 (.tup [.str "unit", .int to, .int lead, optI cap, iv, lv])
  refine q _ _ ?_ ?_ ((((B1.trans B2).trans B3).trans B4).trans (B5.trans (Same.but S6)))
  · unfold RlV
    rw [W.enc]
    refine .newT hp6 (.cons (dstr "unit") (.cons (.int _) (.cons (.int _) (.cons (dt_cap cap) (.cons ri5 (.cons ?_ .nil))))))
    cases l with
    | none => rw [rl5.no]; exact .non
    | some l => exact rl5
  · have := A5.same S6
    rw [show pre.length + (3 + (words i).length + (lastW l).length) = (pre ++ [numS to, numS lead, capS cap] ++ words i).length + (lastW l).length by simp only [List.length_append, List.length_cons, List.length_nil]; omega, show cn + (size i + lastSz l) = cn + size i + lastSz l by omega]
    exact this
theorem ok_part {n : Nat} {pP : Addr} (F : Dm K C "read_part" "RuleReader.read_part" s_RuleReader_read_part ["self", "room"]) (R : RdC K C) (c_RuleReader : Cls K C) (g_POINT : Gc mg "POINT" (.ref pP)) (tP : ∀ H, SqT K H pP [.str "point"]) (g_MOST_UNITS : Gc mg "MOST_UNITS" (.int 10))
    (d_RuleReader_word_here : Mn P w K mg base k C "word_here" ["self"] (spHere C)) (d_RuleReader_read_unit : Mn P w K mg base k C "read_unit" ["self", "room"] (spUnitR K C n)) : Mn P w K mg base (k + 1) C "read_part" ["self", "room"] (spPart K C (n + 1)) := by
  refine F.ok sc_RuleReader_read_part (fun vs H Q E h => ?_) (fun f cdv A outer s H vs Q E hr h => ?_)
  · obtain ⟨p, wl, pre, rl, post, room, cn, rfl, _⟩ := h; rfl
  obtain ⟨p, wl, pre, rl, post, room, cn, rfl, okr, hdp, hdn, hsz, A, q⟩ := h
  refine ⟨_, [some _, some _, none], 
      (@pss_cons _ _ _ _ _ (@ps_set _ _ 2 _ _ _ _ sc_RuleReader_read_part.nd rfl (Or.inl rfl) (@pe_mD0 _ _ _ _ _ _ _ _ _ _ _ (@pv _ 0 _ _ (by rfl) (by first | exact Or.inl rfl | exact Or.inr (Or.inl rfl) | exact Or.inr (Or.inr rfl)) (by decide) (by decide)) c_RuleReader d_RuleReader_word_here hr (by rfl)) (by rfl) (by first | exact .inl rfl | exact .inr rfl | assumption)) 
      (@pss_cons _ _ _ _ _ (@ps_if _ _ _ _ _ _ _ _ (@pt_cmpR _ _ _ _ _ _ _ _ op_eq (@pv _ 2 _ _ (by rfl) (by first | exact Or.inl rfl | exact Or.inr (Or.inl rfl) | exact Or.inr (Or.inr rfl)) (by decide) (by decide)) (@pe_str _ _ _ _) (nomark _)) 
      (@pss_cons _ _ _ _ _ (@ps_fldaug _ _ _ _ _ _ _ _ _ _ (@pv _ 0 _ _ (by rfl) (by first | exact Or.inl rfl | exact Or.inr (Or.inl rfl) | exact Or.inr (Or.inr rfl)) (by decide) (by decide)) (@pe_int _ _ _ _) in_add) (@pss_one _ _ _ (@ps_ret _ _ _ _ (@pe_gc _ _ _ _ g_POINT rfl (by decide))))) (@pss_nil _)) 
      (@pss_cons _ _ _ _ _ (@ps_if _ _ _ _ _ _ _ _ (@PW.pt _ _ _ (@pw_or _ _ _ _ _ _ _ (@pt_cmpR _ _ _ _ _ _ _ _ op_ne (@pv _ 2 _ _ (by rfl) (by first | exact Or.inl rfl | exact Or.inr (Or.inl rfl) | exact Or.inr (Or.inr rfl)) (by decide) (by decide)) (@pe_str _ _ _ _) (nomark _)) (@pw_or _ _ _ _ _ _ _ (@pt_cmpR _ _ _ _ _ _ _ _ op_eq (@pv _ 1 _ _ (by rfl) (by first | exact Or.inl rfl | exact Or.inr (Or.inl rfl) | exact Or.inr (Or.inr rfl)) (by decide) (by decide)) (@pe_int _ _ _ _) (nomark _)) (@pw_or1 _ _ _ _ (@pt_cmpR _ _ _ _ _ _ _ _ op_eq (@pe_fld _ _ _ _ _ (@pv _ 0 _ _ (by rfl) (by first | exact Or.inl rfl | exact Or.inr (Or.inl rfl) | exact Or.inr (Or.inr rfl)) (by decide) (by decide)) rfl) (@pe_gc _ _ _ _ g_MOST_UNITS rfl (by decide)) (nomark _)))))) (@pss_one _ _ _ (@ps_never _ _)) (@pss_nil _)) 
      (@pss_cons _ _ _ _ _ (@ps_fldaug _ _ _ _ _ _ _ _ _ _ (@pv _ 0 _ _ (by rfl) (by first | exact Or.inl rfl | exact Or.inr (Or.inl rfl) | exact Or.inr (Or.inr rfl)) (by decide) (by decide)) (@pe_int _ _ _ _) in_add) 
      (@pss_cons _ _ _ _ _ (@ps_fldaug _ _ _ _ _ _ _ _ _ _ (@pv _ 0 _ _ (by rfl) (by first | exact Or.inl rfl | exact Or.inr (Or.inl rfl) | exact Or.inr (Or.inr rfl)) (by decide) (by decide)) (@pe_int _ _ _ _) in_add) (@pss_one _ _ _ (@ps_ret _ _ _ _ (@pe_mD _ _ _ _ _ _ _ _ _ _ _ _ _ _ (@pv _ 0 _ _ (by rfl) (by first | exact Or.inl rfl | exact Or.inr (Or.inl rfl) | exact Or.inr (Or.inr rfl)) (by decide) (by decide)) c_RuleReader d_RuleReader_read_unit hr (@pa_u _ _ _ _ _ (@pe_op _ _ _ _ _ _ _ _ op_sub (@pv _ 1 _ _ (by rfl) (by first | exact Or.inl rfl | exact Or.inr (Or.inl rfl) | exact Or.inr (Or.inr rfl)) (by decide) (by decide)) (@pe_int _ _ _ _)) (@pa_nil _) (by rfl)) (by rfl) (by rfl))))))))), rfl, ?_⟩
  walk_at "cl"
  walk_at "st"
  refine mth_of A (by decide +kernel) ?_
  walk_at "rd"
  by_cases hp : rl = .pt
  · subst hp
    have A' : RdAt C H p wl (pre ++ wPoint :: post) (pre.length : Nat) (cn : Nat) := by simpa [words] using A
    refine ⟨p, wl, pre, _, post, cn, rfl, A', ?_⟩
    walk_at "st"
    rw [if_pos (show wPoint = ("point" : Str) from rfl)]
    walk_at "st"
    refine inc_spot R A fun H2 A2 B2 => ?_
    walk_at "rd"
    refine q _ _ (pt_dt (tP _)) ?_ B2
    rw [cast_add, cast_add]
    simpa [words, size] using A2
  · obtain ⟨to, lead, cap, i, l, W⟩ := vw_of okr hp
    have hww := W.words
    have hss := W.size
    have hdd := W.depth
    have e0 : pre ++ words rl ++ post = pre ++ wUnit :: ([numS to, numS lead, capS cap] ++ words i ++ lastW l ++ post) := by rw [hww]; simp
    refine ⟨p, wl, pre, _, _, cn, rfl, e0 ▸ A, ?_⟩
    walk_at "st"
    rw [if_neg (show ¬ wUnit = ("point" : Str) by decide +kernel)]
    walk_at "st"
    rw [if_neg (show ¬ ¬ wUnit = ("unit" : Str) from fun h => h rfl)]
    rw [if_neg (show ¬ room = 0 by omega)]
    refine rd_cnt R A ?_
    walk_at "rd"
    rw [if_neg (show ¬ ((cn : Nat) : Int) = 10 by omega)]
    walk_at "st"
    refine inc_spot R A fun H1 A1 B1 => ?_
    walk_at "st"
    refine inc_cnt R A1 fun H2 A2 B2 => ?_
    walk_at "rd"
    refine mth_of A2 (by decide +kernel) ?_
    walk_at "rd"
    have e1 : pre ++ words rl ++ post = (pre ++ [wUnit]) ++ ([numS to, numS lead, capS cap] ++ words i ++ lastW l) ++ post := by rw [hww]; simp
    refine ⟨p, wl, pre ++ [wUnit], rl, to, lead, cap, i, l, post, room - 1, cn + 1, rfl, W, by omega, by omega, by omega, by omega, by omega, ?_, fun r H3 rv A3 B3 => ?_⟩
    · rw [← e1]
      exact A2.cast (by simp only [List.length_append, List.length_cons, List.length_nil]; omega) (by omega)
    · rw [← e1] at A3
      refine q r H3 rv ?_ ((B1.trans B2).trans B3)
      rw [hww] at A3 ⊢
      rw [hss]
      rw [show pre.length + ([wUnit, numS to, numS lead, capS cap] ++ words i ++ lastW l).length = (pre ++ [wUnit]).length + (3 + (words i).length + (lastW l).length) by simp only [List.length_append, List.length_cons, List.length_nil]; omega, show cn + (1 + size i + lastSz l) = cn + 1 + (size i + lastSz l) by omega]
      exact A3
theorem all_part {n : Nat} {pP : Addr} (Fp : Dm K C "read_part" "RuleReader.read_part" s_RuleReader_read_part ["self", "room"]) (Fu : Dm K C "read_unit" "RuleReader.read_unit" s_RuleReader_read_unit ["self", "room"]) (Fl : Dm K C "read_last" "RuleReader.read_last" s_RuleReader_read_last ["self", "cap", "room"]) (R : RdC K C) (g_POINT : Gc mg "POINT" (.ref pP)) (tP : ∀ H, SqT K H pP [.str "point"]) (g_MOST_UNITS : Gc mg "MOST_UNITS" (.int 10))
    (dh : Mn P w K mg base k C "word_here" ["self"] (spHere C)) (dn : Mn P w K mg base k C "read_number" ["self", "least"] (spNumber C)) (dc : Mn P w K mg base k C "read_cap" ["self", "to"] (spCap C)) : Mn P w K mg base (k + 3 * n) C "read_part" ["self", "room"] (spPart K C n) := by
  induction n with
  | zero => exact Fp.void fun vs H Q E ⟨_, _, _, _, _, _, _, _, _, _, h, _⟩ => by omega
  | succ n ih =>
    have j1 : k ≤ k + 3 * n := Nat.le_add_right ..
    have dl := ok_last Fl R R.c (dh.mono j1) ih
    have du := ok_unit Fu R R.c (dn.mono (Nat.le_succ_of_le j1)) (dc.mono (Nat.le_succ_of_le j1)) (ih.mono (Nat.le_succ _)) dl
    exact ok_part Fp R R.c g_POINT tP g_MOST_UNITS (dh.mono (Nat.le_succ_of_le (Nat.le_succ_of_le j1))) du
end
end My
namespace My
open PySem L2 M
section
variable (K : PySem.W.Frag) (C : Addr)
def spRead : Sp := fun vs H Q _ => ∃ rl, vs = [.str (text rl)] ∧ ok rl ∧ depth rl ≤ 4 ∧ size rl ≤ 10 ∧ ∀ r H', Same H H' → RlV K H' rl r → Q r H'
end
section
variable {P : Program} {w : World} {K : PySem.W.Frag} {mg : Str → Option Value} {base : Heap} {ns : List Int} {k : Nat} {C : Addr}
theorem ok_read_rule (F : Df K mg "read_rule" s_read_rule ["text"]) (R : RdC K C) (c_RuleReader : Cls K C) (g_MOST_DEPTH : Gc mg "MOST_DEPTH" (.int 4)) (d_RuleReader : Cn P w K mg base k "RuleReader" C ["self", "words"] (spInit C)) (d_RuleReader_read_part : Mn P w K mg base (k + 1) C "read_part" ["self", "room"] (spPart K C 5))
    (d_RuleReader_refuse_more : Mn P w K mg base (k + 1) C "refuse_more" ["self"] (spMore C)) : Dn P w K mg base (k + 2) "read_rule" ["text"] (spRead K) := by
  refine F.ok sc_read_rule (fun vs H Q E h => ?_) (fun f cdv A outer s H vs Q E hr h => ?_)
  · obtain ⟨rl, rfl, _⟩ := h; rfl
  obtain ⟨rl, rfl, okr, hdp, hsz, q⟩ := h
  have hr1 := hr
  refine ⟨_, [some _, none, none], 
      (@pss_cons _ _ _ _ _ (@ps_set _ _ 1 _ _ _ _ sc_read_rule.nd rfl (Or.inl rfl) (@pe_mkD _ _ _ _ _ _ _ _ _ _ _ d_RuleReader hr1 rfl (@pa_u _ _ _ _ _ (@pe_bm _ _ _ _ _ _ _ _ _ _ _ _ PySem.F.plainAttrs_str PySem.F.slot_str_split PySem.F.type_str_split mt_split (@pv _ 0 _ _ (by rfl) (by first | exact Or.inl rfl | exact Or.inr (Or.inl rfl) | exact Or.inr (Or.inr rfl)) (by decide) (by decide)) (@pa_u _ _ _ _ _ (@pe_str _ _ _ _) (@pa_nil _) (by rfl)) (by rfl) (by rfl) (by rfl) (by rfl) (by rfl)) (@pa_nil _) (by rfl)) (by rfl) (by decide)) (by rfl) (by first | exact .inl rfl | exact .inr rfl | assumption)) 
      (@pss_cons _ _ _ _ _ (@ps_set _ _ 2 _ _ _ _ sc_read_rule.nd rfl (Or.inl rfl) (@pe_mD _ _ _ _ _ _ _ _ _ _ _ _ _ _ (@pv _ 1 _ _ (by rfl) (by first | exact Or.inl rfl | exact Or.inr (Or.inl rfl) | exact Or.inr (Or.inr rfl)) (by decide) (by decide)) c_RuleReader d_RuleReader_read_part hr (@pa_u _ _ _ _ _ (@pe_gc _ _ _ _ g_MOST_DEPTH rfl (by decide)) (@pa_nil _) (by rfl)) (by rfl) (by rfl)) (by rfl) (by first | exact .inl rfl | exact .inr rfl | assumption)) 
      (@pss_cons _ _ _ _ _ (@ps_expr _ _ _ _ (@pe_mD0 _ _ _ _ _ _ _ _ _ _ _ (@pv _ 1 _ _ (by rfl) (by first | exact Or.inl rfl | exact Or.inr (Or.inl rfl) | exact Or.inr (Or.inr rfl)) (by decide) (by decide)) c_RuleReader d_RuleReader_refuse_more hr (by rfl)) (by rfl)) (@pss_one _ _ _ (@ps_ret _ _ _ _ (@pv _ 2 _ _ (by rfl) (by first | exact Or.inl rfl | exact Or.inr (Or.inl rfl) | exact Or.inr (Or.inr rfl)) (by decide) (by decide))))))), rfl, ?_⟩
  walk_at "cl"
  walk_at "st"
  have hl2 : (text rl).length + 2 ≤ sizeLine := by have := text_len okr (by omega); have h : sizeLine = 16777216 := rfl; omega
  refine ⟨rfl, _, _, rfl, rfl, by decide +kernel, hl2, fun l hl => ?_⟩
  rw [blank_eq, split_text okr]
  have S1 := same_new hl (.lst (List.map V.str (words rl)))
  have hl1 : (upd H l (.lst (List.map V.str (words rl)))) l = some (.lst (sV (words rl))) := upd_same
  generalize upd H l (.lst (List.map V.str (words rl))) = H1 at S1 hl1 ⊢
  intro x dx hx hdx hne
  have S2 : Same H1 (upd (upd H1 dx (.own x)) x (.ins C dx [])) := (same_new hdx _).trans (same_new (by rw [upd_ne (Ne.symm hne)]; exact hx) _)
  refine ⟨x, l, dx, rfl, upd_same, fun H3 h3 B3 => ⟨rfl, ?_⟩⟩
  have nlx : l ≠ x := ne_of_none hl1 hx
  have A3 : RdAt C H3 x l ([] ++ words rl ++ []) ((([] : List Str).length : Nat) : Int) ((0 : Nat) : Int) := ⟨⟨dx, h3⟩, by rw [List.nil_append, List.append_nil]; exact B3 _ _ (S2 _ _ hl1) nlx⟩
  walk_at "st"
  refine mth_of A3 (by decide +kernel) ?_
  walk_at "rd"
  refine ⟨x, l, [], rl, [], 4, 0, rfl, okr, by omega, by omega, by omega, A3, fun r H4 rv A4 B4 => ?_⟩
  walk_at "st"
  refine mth_of A4 (by decide +kernel) ?_
  walk_at "rd"
  have A4' : RdAt C H4 x l (words rl) ((words rl).length : Nat) ((0 + size rl : Nat) : Int) := by
    have e : ([] : List Str) ++ words rl ++ [] = words rl := by simp
    rw [e] at A4
    exact A4.cast (by simp) rfl
  refine ⟨x, l, words rl, _, rfl, A4', ?_⟩
  walk_at "rd"
  refine q r H4 (fun b o h => ?_) rv
  have nb : b ≠ x := ne_of_none (S1 _ _ h) hx
  exact B4 _ _ (B3 _ _ (S2 _ _ (S1 _ _ h)) nb) nb
end
end My
namespace My
open PySem L2 M
section
variable (K : PySem.W.Frag)
def spNumbers : Sp := fun vs H Q _ => ∃ (W Mo : Addr) (ws : List Str) (ms is : List Int), vs = [.ref W, .ref Mo] ∧ H W = some (.lst (sV ws)) ∧ SqT K H Mo (ms.map V.int) ∧ is.length = ms.length ∧ ms.length ≤ 3 ∧ (∀ (j : Nat) (i m : Int), is[j]? = some i → ms[j]? = some m → ws[j + 1]? = some (numS i) ∧ 1 ≤ i ∧ i ≤ m ∧ m < 10 ^ 9) ∧ ∀ p H', Same H H' → SqT K H' p (is.map V.int) → Q (.ref p) H'
end
section
variable {P : Program} {w : World} {K : PySem.W.Frag} {mg : Str → Option Value} {base : Heap} {ns : List Int} {k : Nat}
theorem ok_read_numbers (F : Df K mg "read_numbers" s_read_numbers ["words", "mosts"]) (m_enumerate : mg "enumerate" = none) (m_len : mg "len" = none) (m_int : mg "int" = none) (m_tuple : mg "tuple" = none) (d_writes_whole : Dn P w K mg base k "writes_whole" ["word", "least", "most"] (spNumG)) : Dn P w K mg base (k + 1) "read_numbers" ["words", "mosts"] (spNumbers K) := by
  refine F.ok sc_read_numbers (fun vs H Q E h => ?_) (fun f cdv A outer s H vs Q E hr h => ?_)
  · obtain ⟨W, Mo, ws, ms, is, rfl, _⟩ := h; rfl
  obtain ⟨W, Mo, ws, ms, is, rfl, hW, hMo, hl, hl3, hall, q⟩ := h
  refine ⟨_, [some _, some _, none, none, none], 
      (@pss_cons _ _ _ _ _ (@ps_set _ _ 2 _ _ _ _ sc_read_numbers.nd rfl (Or.inl rfl) (@pe_lst _ _ _ _ (@pa_nil _)) (by rfl) (by first | exact .inl rfl | exact .inr rfl | assumption)) 
      (@pss_cons _ _ _ _ _ (@ps_for _ _ _ _ _ _ _ _ PassesOwn.never rfl (@pi_enumT _ _ _ _ _ _ _ _ _ _ _ rfl m_enumerate (@pa_u _ _ _ _ _ (@pv _ 1 _ _ (by rfl) (by first | exact Or.inl rfl | exact Or.inr (Or.inl rfl) | exact Or.inr (Or.inr rfl)) (by decide) (by decide)) (@pa_nil _) (by rfl)) (by rfl)) (@pg_tup _ _ _ _ _ _ rfl (@pgs_cons _ _ _ _ _ (@pg_name _ _ 3 _ sc_read_numbers.nd rfl (Or.inl rfl) (by first | exact .inl rfl | exact .inr rfl | assumption)) (@pgs_cons _ _ _ _ _ (@pg_name _ _ 4 _ sc_read_numbers.nd rfl (Or.inl rfl) (by first | exact .inl rfl | exact .inr rfl | assumption)) (@pgs_nil _) (by rfl)) (by rfl)) (by rfl) (by rfl)) 
      (@pss_cons _ _ _ _ _ (@ps_if _ _ _ _ _ _ _ _ (@PW.pt _ _ _ (@pw_or _ _ _ _ _ _ _ (@pt_cmpR _ _ _ _ _ _ _ _ op_eq (@pv _ 3 _ _ (by rfl) (by first | exact Or.inl rfl | exact Or.inr (Or.inl rfl) | exact Or.inr (Or.inr rfl)) (by decide) (by decide)) (@pe_callBu _ _ _ _ _ _ _ _ _ call_lenS rfl m_len PySem.boot_len (@pa_u _ _ _ _ _ (@pv _ 0 _ _ (by rfl) (by first | exact Or.inl rfl | exact Or.inr (Or.inl rfl) | exact Or.inr (Or.inr rfl)) (by decide) (by decide)) (@pa_nil _) (by rfl)) (by rfl) (by decide) (by decide)) (nomark _)) (@pw_or1 _ _ _ _ (@pt_not _ _ _ _ (@pt_val _ _ _ (@pe_callD _ _ _ _ _ _ _ _ _ _ d_writes_whole hr rfl (@pa_u _ _ _ _ _ (@pe_ix _ _ _ _ _ _ _ ix_list (@pv _ 0 _ _ (by rfl) (by first | exact Or.inl rfl | exact Or.inr (Or.inl rfl) | exact Or.inr (Or.inr rfl)) (by decide) (by decide)) (@pv _ 3 _ _ (by rfl) (by first | exact Or.inl rfl | exact Or.inr (Or.inl rfl) | exact Or.inr (Or.inr rfl)) (by decide) (by decide)) (fun _ _ => rfl)) (@pa_u _ _ _ _ _ (@pe_int _ _ _ _) (@pa_u _ _ _ _ _ (@pv _ 4 _ _ (by rfl) (by first | exact Or.inl rfl | exact Or.inr (Or.inl rfl) | exact Or.inr (Or.inr rfl)) (by decide) (by decide)) (@pa_nil _) (by rfl)) (by rfl)) (by rfl)) (by rfl) (by decide)) (by intro _; rfl)))))) (@pss_one _ _ _ (@ps_never _ _)) (@pss_nil _)) (@pss_one _ _ _ (@ps_expr _ _ _ _ (@pe_bm _ _ _ _ _ _ _ _ _ _ _ _ PySem.F.plainAttrs_list PySem.F.slot_list_append PySem.F.type_list_append mt_append (@pv _ 2 _ _ (by rfl) (by first | exact Or.inl rfl | exact Or.inr (Or.inl rfl) | exact Or.inr (Or.inr rfl)) (by decide) (by decide)) (@pa_u _ _ _ _ _ (@pe_callTu _ _ _ _ _ _ _ _ _ call_intT rfl m_int bt_int (@pa_u _ _ _ _ _ (@pe_ix _ _ _ _ _ _ _ ix_list (@pv _ 0 _ _ (by rfl) (by first | exact Or.inl rfl | exact Or.inr (Or.inl rfl) | exact Or.inr (Or.inr rfl)) (by decide) (by decide)) (@pv _ 3 _ _ (by rfl) (by first | exact Or.inl rfl | exact Or.inr (Or.inl rfl) | exact Or.inr (Or.inr rfl)) (by decide) (by decide)) (fun _ _ => rfl)) (@pa_nil _) (by rfl)) (by rfl) (by decide) (by decide)) (@pa_nil _) (by rfl)) (by rfl) (by rfl) (by rfl) (by rfl) (by rfl)) (by rfl)))) (by intro _; rfl)) (@pss_one _ _ _ (@ps_ret _ _ _ _ (@pe_callTu _ _ _ _ _ _ _ _ _ call_tuple_of rfl m_tuple bt_tuple (@pa_u _ _ _ _ _ (@pv _ 2 _ _ (by rfl) (by first | exact Or.inl rfl | exact Or.inr (Or.inl rfl) | exact Or.inr (Or.inr rfl)) (by decide) (by decide)) (@pa_nil _) (by rfl)) (by rfl) (by decide) (by decide)))))), rfl, ?_⟩
  walk_at "cl"
  walk_at "st"
  refine ⟨small6 (by simp), fun D hD => ?_⟩
  have S1 := same_new hD (.lst [])
  have hD1 : (upd H D (.lst [])) D = some (.lst []) := upd_same
  generalize upd H D (.lst []) = H1 at S1 hD1
  walk_at "st"
  refine ⟨_, rfl, ⟨_, Same.sqT hMo S1⟩, enuT_of (xs := ms.map V.int) (fun i σ' H' => ∃ x y, σ' = [some (.ref W), some (.ref Mo), some (.ref D), x, y] ∧ Same H H' ∧ H' D = some (.lst ((is.take i).map V.int))) ⟨none, none, rfl, S1, hD1⟩ (fun i σ' H' hi ⟨x, y, e, S, _⟩ => Same.sqT hMo S) ?_ ?_⟩
  · rintro Pw hP i x σ' H2 p hx ⟨x1, y1, rfl, S2, hD2⟩ hp
    rw [List.getElem?_map] at hx
    cases hm : ms[i]? with
    | none => rw [hm] at hx; cases hx
    | some m =>
      rw [hm] at hx
      cases hx
      have hi := (List.getElem?_eq_some_iff.mp hm).1
      have hii : is[i]? = some is[i] := List.getElem?_eq_getElem (by omega)
      obtain ⟨hw, h1, h2, h3⟩ := hall i _ _ hii hm
      have hwl := (List.getElem?_eq_some_iff.mp hw).1
      have S3 := S2.trans (same_new hp (.tup [.int ((i : Int) + 1), .int m]))
      have hp3 : (upd H2 p (.tup [.int ((i : Int) + 1), .int m])) p = some (.tup [.int ((i : Int) + 1), .int m]) := upd_same
      have hD3 := same_new hp (.tup [.int ((i : Int) + 1), .int m]) _ _ hD2
      generalize upd H2 p (.tup [.int ((i : Int) + 1), .int m]) = H3 at S3 hp3 hD3 ⊢
      walk_at "rd"
      refine ⟨_, _, rfl, .of hp3, rfl, ?_⟩
      walk_at "rd"
      walk_at "st"
      refine ⟨W, _, rfl, .inl (.of (S3 _ _ hW)), ?_⟩
      walk_at "rd"
      rw [if_neg (by rw [sV_len]; omega)]
      have hat : atI (sV ws) ((i : Int) + 1) = some (V.str (numS is[i])) := atI_nat (j := i + 1) (by rw [sV, List.getElem?_map, hw]; rfl)
      refine ⟨_, .of (S3 _ _ hW), _, hat, _, _, _, rfl, by omega, h1, h2, h3, fun H4 S4 => ?_⟩
      walk_at "rd"
      refine ⟨.inl ⟨rfl, _, .of (S4 _ _ hD3)⟩, _, .of (S4 _ _ (S3 _ _ hW)), _, hat, ?_⟩
      refine ⟨_, _, rfl, num_int (by omega) (by omega), Nat.le_trans (num_le (k := 9) (by omega) (by decide) (by omega)) (by decide), ?_⟩
      refine ⟨D, _, _, rfl, rfl, S4 _ _ hD3, small1000 (by simp only [List.length_map, List.length_take]; omega), hP _ _ _ ⟨_, _, rfl, Same.at (S3.trans S4) hD, ?_⟩⟩
      rw [upd_same, ← List.take_append_getElem (show i < is.length by omega), List.map_append]
      rfl
  · rintro σ' H2 ⟨x1, y1, rfl, S2, hD2⟩
    rw [List.length_map, List.take_of_length_le (by omega)] at hD2
    walk_at "rd"
    refine ⟨D, _, rfl, .inl ⟨.of hD2, fun l hl => q l _ (S2.trans (same_new hl _)) (.of upd_same)⟩⟩
end
end My
namespace My
open PySem L2 M
def wRally : Str := "rally"
def wDown : Str := "down"
def wLane : Str := "lane"
def wordsG : Gm → List Str
  | .ral rl => wRally :: words rl
  | .dn n b tr ths => [wDown, numS n, numS b, numS tr] ++ ths.map thW
  | .ln s p f => [wLane, numS s, numS p, numS f]
def textG (g : Gm) : Str := Str.join blank (wordsG g)
theorem wordsG_ne (g : Gm) : wordsG g ≠ [] := by cases g <;> simp [wordsG]
theorem wordsG_len {g : Gm} (h : GmOk g) : (wordsG g).length ≤ 70 := by
  cases g with
  | ral rl => have := words_len rl; have := h.2.2; simp only [wordsG, List.length_cons]; omega
  | dn n b tr ths => have := h.1.l2; simp only [wordsG, List.length_append, List.length_cons, List.length_nil, List.length_map]; omega
  | ln s p f => simp [wordsG]
theorem numW {i : Int} (h : 0 ≤ i) (h2 : i ≤ 1000000) : (numS i).length ≤ 19 ∧ 32 ∉ (numS i).cps.toList :=
  ⟨Nat.le_trans (num_le (k := 9) h (by decide) (by omega)) (by decide), fun m => by have := num_digs h 32 m; omega⟩
theorem wordsG_ok {g : Gm} (h : GmOk g) : ∀ x ∈ wordsG g, x.length ≤ 19 ∧ 32 ∉ x.cps.toList := fun x hx => by
  cases g with
  | ral rl =>
    simp only [wordsG, List.mem_cons] at hx
    rcases hx with rfl | hx
    · decide +kernel
    · exact ⟨Nat.le_trans (words_short h.1 x hx) (by decide), words_free h.1 x hx⟩
  | dn n b tr ths =>
    have hd := h.1
    have := hd.n3
    have := hd.b1
    have := hd.b2
    have := hd.t1
    have := hd.t3
    simp only [wordsG, List.mem_append, List.mem_cons, List.not_mem_nil, or_false, List.mem_map] at hx
    rcases hx with (rfl | rfl | rfl | rfl) | ⟨t, ht, rfl⟩
    · decide +kernel
    · exact numW (by omega) (by omega)
    · exact numW (by omega) (by omega)
    · exact numW (by omega) (by omega)
    · exact ⟨thW_len (hd.ok t ht), thW_free (hd.ok t ht)⟩
  | ln s p f =>
    obtain ⟨⟨h1, h2⟩, ⟨h3, h4⟩, h5, h6⟩ := h
    simp only [wordsG, List.mem_cons, List.not_mem_nil, or_false] at hx
    rcases hx with rfl | rfl | rfl | rfl
    · decide +kernel
    · exact numW (by omega) (by omega)
    · exact numW (by omega) (by omega)
    · exact numW (by omega) (by omega)
theorem textG_split {g : Gm} (h : GmOk g) : Txt.split (textG g) blank = wordsG g := split_join 32 (wordsG_ne g) fun x hx => (wordsG_ok h x hx).2
theorem wordsG_join {g : Gm} (h : GmOk g) : JoinOk blank (wordsG g) = true := join_ok (n := 19) (m := 70) (fun x hx => (wordsG_ok h x hx).1) (wordsG_len h) (by decide)
theorem textG_len {g : Gm} (h : GmOk g) : (textG g).length ≤ 10000 := by
  have h1 := StrLaws.join_length_le blank (wordsG g)
  have h2 := wordsG_len h
  have h4 : blank.length = 1 := rfl
  have h3 : ∀ l : List Str, (∀ x ∈ l, x.length ≤ 19) → (l.map (·.length)).sum ≤ l.length * 19 := by
    intro l
    induction l with
    | nil => intro _; simp
    | cons x l ih =>
      intro hx
      have := ih fun y hy => hx y (List.mem_cons_of_mem _ hy)
      have := hx x (List.mem_cons_self ..)
      simp only [List.map_cons, List.sum_cons, List.length_cons, Nat.succ_mul]
      omega
  have := h3 _ fun x hx => (wordsG_ok h x hx).1
  unfold textG
  rw [h4] at h1
  omega
theorem textG_ral (rl : Rl) : Str.ofString "rally " ++ text rl = textG (.ral rl) := by
  show _ = Str.join blank ([wRally] ++ words rl)
  rw [join_app _ (by simp) (words_ne rl), show Str.ofString "rally " = Str.join blank [wRally] ++ blank by decide +kernel]
  rfl
theorem join_G (g : Gm) : Txt.join (Str.ofString " ") (wordsG g) = textG g := by
  rw [blank_eq]
  exact StrLaws.glued_eq_join ..
end My
namespace My
open PySem L2 M
section
variable (K : PySem.W.Frag)
def spWordOf : Sp := fun vs H Q _ => ∃ t v, vs = [v] ∧ ThV K H t v ∧ ThOk t ∧ Q (.str (thW t)) H
def spShowG : Sp := fun vs H Q _ => ∃ g v, vs = [v] ∧ GmV K H g v ∧ GmOk g ∧ ∀ H', Same H H' → Q (.str (textG g)) H'
end
section
variable {P : Program} {w : World} {K : PySem.W.Frag} {mg : Str → Option Value} {base : Heap} {ns : List Int} {k : Nat}
theorem vals_of {α : Type} {xs : List α} {g : α → V} {ys : List V} (h : All2 (fun j y => ∃ u, xs[j]? = some u ∧ y = g u) (List.range xs.length) ys) : ys = xs.map g := by
  have e : ∀ (as : List Nat) (ys : List V), All2 (fun j y => ∃ u, xs[j]? = some u ∧ y = g u) as ys → ys = as.map fun j => ((xs[j]?.map g).getD .non) := by
    intro as
    induction as with
    | nil => intro ys h; cases ys with | nil => rfl | cons _ _ => exact h.elim
    | cons j as ih =>
      intro ys h
      cases ys with
      | nil => exact h.elim
      | cons y ys =>
        obtain ⟨⟨u, hu, rfl⟩, h2⟩ := h
        rw [ih ys h2, List.map_cons, hu]
        rfl
  rw [e _ _ h]
  refine List.ext_getElem (by simp) fun j h1 h2 => ?_
  simp only [List.length_map] at h2
  simp [h2]
theorem ok_word_of (F : Df K mg "word_of" s_word_of ["throw"]) : Dn P w K mg base (k + 1) "word_of" ["throw"] (spWordOf K) := by
  refine F.ok sc_word_of (fun vs H Q E h => ?_) (fun f cdv A outer s H vs Q E hr h => ?_)
  · obtain ⟨t, v, rfl, _⟩ := h; rfl
  obtain ⟨t, v, rfl, ht, ho, q⟩ := h
  refine ⟨_, [some _, none, none], 
      (@pss_cons _ _ _ _ _ (@ps_set _ _ 1 _ _ _ _ sc_word_of.nd rfl (Or.inl rfl) (@pe_ix _ _ _ _ _ _ _ ix_tup (@pv _ 0 _ _ (by rfl) (by first | exact Or.inl rfl | exact Or.inr (Or.inl rfl) | exact Or.inr (Or.inr rfl)) (by decide) (by decide)) (@pe_int _ _ _ _) (fun _ _ => rfl)) (by rfl) (by first | exact .inl rfl | exact .inr rfl | assumption)) 
      (@pss_cons _ _ _ _ _ (@ps_set _ _ 2 _ _ _ _ sc_word_of.nd rfl (Or.inl rfl) (@pe_ix _ _ _ _ _ _ _ ix_tup (@pv _ 0 _ _ (by rfl) (by first | exact Or.inl rfl | exact Or.inr (Or.inl rfl) | exact Or.inr (Or.inr rfl)) (by decide) (by decide)) (@pe_int _ _ _ _) (fun _ _ => rfl)) (by rfl) (by first | exact .inl rfl | exact .inr rfl | assumption)) (@pss_one _ _ _ (@ps_ret _ _ _ _ (@pe_ifExp _ _ _ _ _ _ _ _ (@pt_val _ _ _ (@pe_ix _ _ _ _ _ _ _ ix_tup (@pv _ 0 _ _ (by rfl) (by first | exact Or.inl rfl | exact Or.inr (Or.inl rfl) | exact Or.inr (Or.inr rfl)) (by decide) (by decide)) (@pe_int _ _ _ _) (fun _ _ => rfl)) (by intro _; rfl)) (@pe_fs _ _ _ _ _ _ (@pj_s _ _ _ _ _ _ (@pv _ 1 _ _ (by rfl) (by first | exact Or.inl rfl | exact Or.inr (Or.inl rfl) | exact Or.inr (Or.inr rfl)) (by decide) (by decide)) (@pj_c _ _ _ _ _ _ (@pj_i _ _ _ _ _ _ (@pv _ 2 _ _ (by rfl) (by first | exact Or.inl rfl | exact Or.inr (Or.inl rfl) | exact Or.inr (Or.inr rfl)) (by decide) (by decide)) (@pj_c _ _ _ _ _ _ (@pj_nil _)))))) (@pe_fs _ _ _ _ _ _ (@pj_s _ _ _ _ _ _ (@pv _ 1 _ _ (by rfl) (by first | exact Or.inl rfl | exact Or.inr (Or.inl rfl) | exact Or.inr (Or.inr rfl)) (by decide) (by decide)) (@pj_c _ _ _ _ _ _ (@pj_i _ _ _ _ _ _ (@pv _ 2 _ _ (by rfl) (by first | exact Or.inl rfl | exact Or.inr (Or.inl rfl) | exact Or.inr (Or.inr rfl)) (by decide) (by decide)) (@pj_nil _)))))))))), rfl, ?_⟩
  walk_at "cl"
  obtain ⟨a, rfl, hs, _⟩ := th_inv ht
  have hl := thP_len ho
  have hl2 := thW_len ho
  have hn := nm_len ho
  have hg := num_log ho.2.2.1 (by have := ho.2.2.2; omega)
  walk_at "st"
  refine ⟨_, hs, _, atI_nat (j := 0) rfl, ?_⟩
  walk_at "st"
  refine ⟨_, hs, _, atI_nat (j := 1) rfl, ?_⟩
  walk_at "rd"
  refine ⟨_, hs, _, atI_nat (j := 2) rfl, ?_⟩
  walk_at "rd"
  simp only [empty_app]
  have z : ∀ {n : Nat}, n ≤ 20 → n ≤ sizeLine := fun h => Nat.le_of_lt (small1000 (by omega))
  have hc : (t.nm ++ Str.ofString ":").length ≤ 20 := by rw [app_len, show (Str.ofString ":").length = 1 by decide +kernel]; omega
  cases e : t.en with
  | true =>
    have e2 : thW t = t.nm ++ Str.ofString ":" ++ numS t.wo ++ Str.ofString "!" := by rw [thW, e, if_pos rfl]; rfl
    rw [e2] at q hl2
    rw [if_pos rfl]
    exact ⟨z (by omega), z (by omega), z hc, hg, z (show (thP t).length ≤ 20 by omega), z (by omega), z (by omega), q⟩
  | false =>
    rw [thW_no e] at q
    rw [if_neg (by decide)]
    exact ⟨z (by omega), z (by omega), z hc, hg, z (show (thP t).length ≤ 20 by omega), z (show (thP t).length ≤ 20 by omega), q⟩
theorem comp_strs {σ : St} {H : Hp} {Q : VK} {a : Addr} {is : List Int} (hs : SqT K H a (is.map V.int)) (hb : ∀ i ∈ is, 0 ≤ i ∧ i ≤ 1000000) (hz : is.length ≤ 1000) (q : ∀ D H', Same H H' → H D = none → H' D = some (.lst ((is.map numS).map V.str)) → Q (.ref D) H') : tComp (iTup K (tC (.ref a))) tTrue (tCB rStrI (tCons (tVar 0) tNil)) σ H Q := by
  refine comp_tG (K := K) (a := a) (xs := is.map V.int) (fun _ => true) (fun j y _ => ∃ i, is[j]? = some i ∧ y = .str (numS i)) (fun R h => h) hs (by rw [List.length_map]; omega) (fun _ _ _ _ _ h => h) (fun j x H' hx S' Q' hq => hq _ (.refl _)) (fun j x H' hx _ S' Q' hq => ?_) (fun D1 ys H1 S1 hD1 hD1' hall => ?_)
  · rw [List.getElem?_map] at hx
    cases hm : is[j]? with
    | none => rw [hm] at hx; cases hx
    | some i =>
      rw [hm] at hx
      cases hx
      have := hb i (List.mem_of_getElem? hm)
      walk_at "rd"
      exact strI_of (num_log (by omega) (by omega)) (hq _ _ (.refl _) ⟨i, hm, rfl⟩)
  · rw [List.filter_eq_self.mpr (by simp), List.length_map] at hall
    refine q _ _ S1 hD1 ?_
    rw [hD1', vals_of hall, List.map_map]
    rfl
theorem ok_show_game (F : Df K mg "show_game" s_show_game ["game"]) (m_str : mg "str" = none) (d_show_rule : Dn P w K mg base k "show_rule" ["rule"] (spShow K)) (d_word_of : Dn P w K mg base k "word_of" ["throw"] (spWordOf K)) : Dn P w K mg base (k + 1) "show_game" ["game"] (spShowG K) := by
  refine F.ok sc_show_game (fun vs H Q E h => ?_) (fun f cdv A outer s H vs Q E hr h => ?_)
  · obtain ⟨g, v, rfl, _⟩ := h; rfl
  obtain ⟨g, v, rfl, hg, ho, q⟩ := h
  refine ⟨_, [some _, none, none, none], 
      (@pss_cons _ _ _ _ _ (@ps_set _ _ 1 _ _ _ _ sc_show_game.nd rfl (Or.inl rfl) (@pe_ix _ _ _ _ _ _ _ ix_tup (@pv _ 0 _ _ (by rfl) (by first | exact Or.inl rfl | exact Or.inr (Or.inl rfl) | exact Or.inr (Or.inr rfl)) (by decide) (by decide)) (@pe_int _ _ _ _) (fun _ _ => rfl)) (by rfl) (by first | exact .inl rfl | exact .inr rfl | assumption)) 
      (@pss_cons _ _ _ _ _ (@ps_set _ _ 2 _ _ _ _ sc_show_game.nd rfl (Or.inl rfl) (@pe_ix _ _ _ _ _ _ _ ix_tup (@pv _ 0 _ _ (by rfl) (by first | exact Or.inl rfl | exact Or.inr (Or.inl rfl) | exact Or.inr (Or.inr rfl)) (by decide) (by decide)) (@pe_int _ _ _ _) (fun _ _ => rfl)) (by rfl) (by first | exact .inl rfl | exact .inr rfl | assumption)) 
      (@pss_cons _ _ _ _ _ (@ps_if _ _ _ _ _ _ _ _ (@pt_cmpR _ _ _ _ _ _ _ _ op_eq (@pv _ 1 _ _ (by rfl) (by first | exact Or.inl rfl | exact Or.inr (Or.inl rfl) | exact Or.inr (Or.inr rfl)) (by decide) (by decide)) (@pe_str _ _ _ _) (nomark _)) (@pss_one _ _ _ (@ps_ret _ _ _ _ (@pe_op _ _ _ _ _ _ _ _ op_addS (@pe_str _ _ _ _) (@pe_callD _ _ _ _ _ _ _ _ _ _ d_show_rule hr rfl (@pa_u _ _ _ _ _ (@pv _ 2 _ _ (by rfl) (by first | exact Or.inl rfl | exact Or.inr (Or.inl rfl) | exact Or.inr (Or.inr rfl)) (by decide) (by decide)) (@pa_nil _) (by rfl)) (by rfl) (by decide))))) (@pss_nil _)) 
      (@pss_cons _ _ _ _ _ (@ps_set _ _ 3 _ _ _ _ sc_show_game.nd rfl (Or.inl rfl) (@pe_op _ _ _ _ _ _ _ _ op_cat (@pe_lst _ _ _ _ (@pa_u _ _ _ _ _ (@pv _ 1 _ _ (by rfl) (by first | exact Or.inl rfl | exact Or.inr (Or.inl rfl) | exact Or.inr (Or.inr rfl)) (by decide) (by decide)) (@pa_nil _) (by rfl))) (@pe_comp _ _ _ _ _ _ _ _ _ _ _ _ _ rfl (compPlain (N := ["game", "kind", "rule", "words"]) rfl (by decide +kernel) rfl) (@pi_tup _ _ _ _ (@pe_slice _ _ _ _ _ _ _ _ _ _ slA_tup (@pv _ 2 _ _ (by rfl) (by first | exact Or.inl rfl | exact Or.inr (Or.inl rfl) | exact Or.inr (Or.inr rfl)) (by decide) (by decide)) (@po_none _) (@po_some _ _ _ (@pe_int _ _ _ _)))) (fun _ _ _ _ => (@pts_nil _)) (fun _ _ _ _ => (@pe_callTu _ _ _ _ _ _ _ _ _ call_strI rfl m_str bt_str (@pa_u _ _ _ _ _ (@pv _ 0 _ _ (by rfl) (by first | exact Or.inl rfl | exact Or.inr (Or.inl rfl) | exact Or.inr (Or.inr rfl)) (by decide) (by decide)) (@pa_nil _) (by rfl)) (by rfl) (by decide) (by decide))) (by intro _; rfl))) (by rfl) (by first | exact .inl rfl | exact .inr rfl | assumption)) 
      (@pss_cut _ _ _ _ _ (@ps_if _ _ _ _ _ _ _ _ (@pt_cmpR _ _ _ _ _ _ _ _ op_eq (@pv _ 1 _ _ (by rfl) (by first | exact Or.inl rfl | exact Or.inr (Or.inl rfl) | exact Or.inr (Or.inr rfl)) (by decide) (by decide)) (@pe_str _ _ _ _) (nomark _)) (@pss_one _ _ _ (@ps_expr _ _ _ _ (@pe_bm _ _ _ _ _ _ _ _ _ _ _ _ PySem.F.plainAttrs_list PySem.F.slot_list_extend PySem.F.type_list_extend mt_extend (@pv _ 3 _ _ (by rfl) (by first | exact Or.inl rfl | exact Or.inr (Or.inl rfl) | exact Or.inr (Or.inr rfl)) (by decide) (by decide)) (@pa_u _ _ _ _ _ (@pe_comp _ _ _ _ _ _ _ _ _ _ _ _ _ rfl (compPlain (N := ["game", "kind", "rule", "words"]) rfl (by decide +kernel) rfl) (@pi_tup _ _ _ _ (@pe_ix _ _ _ _ _ _ _ ix_tup (@pv _ 2 _ _ (by rfl) (by first | exact Or.inl rfl | exact Or.inr (Or.inl rfl) | exact Or.inr (Or.inr rfl)) (by decide) (by decide)) (@pe_int _ _ _ _) (fun _ _ => rfl))) (fun _ _ _ _ => (@pts_nil _)) (fun _ _ _ _ => (@pe_callD _ _ _ _ _ _ _ _ _ _ d_word_of hr rfl (@pa_u _ _ _ _ _ (@pv _ 0 _ _ (by rfl) (by first | exact Or.inl rfl | exact Or.inr (Or.inl rfl) | exact Or.inr (Or.inr rfl)) (by decide) (by decide)) (@pa_nil _) (by rfl)) (by rfl) (by decide))) (by intro _; rfl)) (@pa_nil _) (by rfl)) (by rfl) (by rfl) (by rfl) (by rfl) (by rfl)) (by rfl))) (@pss_nil _)) (@pss_one _ _ _ (@ps_ret _ _ _ _ (@pe_bm _ _ _ _ _ _ _ _ _ _ _ _ PySem.F.plainAttrs_str PySem.F.slot_str_join PySem.F.type_str_join mt_join (@pe_str _ _ _ _) (@pa_u _ _ _ _ _ (@pv _ 3 _ _ (by rfl) (by first | exact Or.inl rfl | exact Or.inr (Or.inl rfl) | exact Or.inr (Or.inr rfl)) (by decide) (by decide)) (@pa_nil _) (by rfl)) (by rfl) (by rfl) (by rfl) (by rfl) (by rfl))))))))), rfl, ?_⟩
  walk_at "cl"
  obtain ⟨a, rv, rfl, hga, hru⟩ := hg
  walk_at "st"
  refine ⟨_, hga, _, atI_nat (j := 0) rfl, ?_⟩
  walk_at "st"
  refine ⟨_, hga, _, atI_nat (j := 1) rfl, ?_⟩
  walk_at "st"
  cases g with
  | ral rl =>
    rw [if_pos (show (Gm.ral rl).word = Str.ofString "rally" from rfl)]
    refine ⟨rl, rv, rfl, hru, ho.1, ho.2.1, by have := ho.2.2; omega, fun H' S => ?_⟩
    have hl := textG_len (g := .ral rl) ho
    rw [← textG_ral, app_len] at hl
    exact ⟨_, _, rfl, rfl, Nat.le_trans hl (by decide), by rw [textG_ral]; exact q _ S⟩
  | dn n b tr ths =>
    rw [if_neg Gm.dn_ral]
    obtain ⟨da, rfl, ta, us, hda, hta, htl⟩ := hru
    have hd := ho.1
    have := hd.n3; have := hd.b1; have := hd.b2; have := hd.t1; have := hd.t3; have := hd.l2
    have hul := htl.len
    walk_at "st"
    refine ⟨small6 (by simp), fun p hp => ?_⟩
    have S1 := same_new hp (.lst [V.str (Gm.dn n b tr ths).word])
    have hp1 : (upd H p (.lst [V.str (Gm.dn n b tr ths).word])) p = some (.lst [V.str (Gm.dn n b tr ths).word]) := upd_same
    generalize upd H p (.lst [V.str (Gm.dn n b tr ths).word]) = H1 at S1 hp1 ⊢
    refine comp_preT ?_
    walk_at "rd"
    refine ⟨da, _, rfl, Same.sqT hda S1, fun c H2 S2 hc => ?_⟩
    refine comp_strs (is := [(n : Int), b, tr]) hc (by simp only [List.mem_cons, List.not_mem_nil, or_false]; rintro i (rfl | rfl | rfl) <;> omega) (by simp) fun D H3 S3 hD hD3 => ?_
    refine cat_of (S3 _ _ (S2 _ _ hp1)) hD3 (Nat.le_of_lt (small1000 (by simp))) fun l hl => ?_
    have S0 := (S1.trans S2).trans S3
    have S4 := S0.trans (same_new hl (.lst ([V.str (Gm.dn n b tr ths).word] ++ List.map V.str (List.map numS [(n : Int), b, tr]))))
    have hl4 := upd_same (H := H3) (a := l) (o := .lst ([V.str (Gm.dn n b tr ths).word] ++ List.map V.str (List.map numS [(n : Int), b, tr])))
    generalize upd H3 l (.lst ([V.str (Gm.dn n b tr ths).word] ++ List.map V.str (List.map numS [(n : Int), b, tr]))) = H4 at S4 hl4 ⊢
    walk_at "rd"
    refine r_cut (fun σ' H' => σ' = [some (V.ref a), some (V.str (Gm.dn n b tr ths).word), some (V.ref da), some (V.ref l)] ∧ Same H H' ∧ H' l = some (.lst ((wordsG (.dn n b tr ths)).map V.str))) (fun M' hM => ?_) ?_
    · walk_at "rd"
      rw [if_pos (show (Gm.dn n b tr ths).word = Str.ofString "down" from rfl)]
      walk_at "rd"
      refine ⟨.inl ⟨rfl, _, .of hl4⟩, ?_⟩
      refine comp_preT ?_
      walk_at "rd"
      refine ⟨_, Same.sqT hda S4, _, atI_nat (j := 3) rfl, ?_⟩
      refine comp_tG (K := K) (a := ta) (xs := us) (fun _ => true) (fun j y _ => ∃ t, ths[j]? = some t ∧ y = .str (thW t)) (fun R h => h) (Same.sqT hta S4) (by omega) (fun _ _ _ _ _ h => h) (fun j x H' hx S' Q' hq => hq _ (.refl _)) (fun j x H' hx _ S' Q' hq => ?_) (fun D1 ys H5 S5 hD1 hD1' hall => ?_)
      · have hjl : j < ths.length := by rw [hul]; exact (List.getElem?_eq_some_iff.mp hx).1
        have hjt : ths[j]? = some ths[j] := List.getElem?_eq_getElem hjl
        obtain ⟨v, hv, hvt⟩ := htl.at hjt
        rw [hx] at hv
        cases hv
        walk_at "rd"
        exact ⟨_, _, rfl, hvt.same (S4.trans S'), hd.ok _ (List.getElem_mem hjl), hq _ _ (.refl _) ⟨_, hjt, rfl⟩⟩
      · rw [List.filter_eq_self.mpr (by simp), ← hul] at hall
        rw [vals_of hall] at hD1'
        refine ⟨l, D1, _, _, rfl, rfl, S5 _ _ hl4, hD1', Nat.le_of_lt (small1000 ?_), hM _ _ ⟨rfl, ?_, ?_⟩⟩
        · simp; omega
        · exact fun b o hb => by
            have hbl : b ≠ l := fun e => by subst e; exact absurd (S0 _ _ hb) (by rw [hl]; simp)
            rw [upd_ne hbl]; exact S5 _ _ (S4 _ _ hb)
        · rw [upd_same, List.append_assoc]
          simp [wordsG, Gm.word, wDown]
    · rintro _ H5 ⟨rfl, S5, hl5⟩
      walk_at "rd"
      refine ⟨rfl, _, l, wordsG (.dn n b tr ths), rfl, rfl, .of hl5, ?_, ?_⟩
      · rw [blank_eq]; exact wordsG_join ho
      · rw [join_G]; exact q _ S5
  | ln s p f =>
    rw [if_neg Gm.ln_ral]
    obtain ⟨la, rfl, hla⟩ := hru
    obtain ⟨⟨h1, h2⟩, ⟨h3, h4⟩, h5, h6⟩ := id ho
    walk_at "st"
    refine ⟨small6 (by simp), fun p' hp => ?_⟩
    have S1 := same_new hp (.lst [V.str (Gm.ln s p f).word])
    have hp1 : (upd H p' (.lst [V.str (Gm.ln s p f).word])) p' = some (.lst [V.str (Gm.ln s p f).word]) := upd_same
    generalize upd H p' (.lst [V.str (Gm.ln s p f).word]) = H1 at S1 hp1 ⊢
    refine comp_preT ?_
    walk_at "rd"
    refine ⟨la, _, rfl, Same.sqT hla S1, fun c H2 S2 hc => ?_⟩
    refine comp_strs (is := [(s : Int), p, f]) hc (by simp only [List.mem_cons, List.not_mem_nil, or_false]; rintro i (rfl | rfl | rfl) <;> omega) (by simp) fun D H3 S3 hD hD3 => ?_
    refine cat_of (S3 _ _ (S2 _ _ hp1)) hD3 (Nat.le_of_lt (small1000 (by simp))) fun l hl => ?_
    have S4 := ((S1.trans S2).trans S3).trans (same_new hl (.lst ([V.str (Gm.ln s p f).word] ++ List.map V.str (List.map numS [(s : Int), p, f]))))
    have hl4 := upd_same (H := H3) (a := l) (o := .lst ([V.str (Gm.ln s p f).word] ++ List.map V.str (List.map numS [(s : Int), p, f])))
    generalize upd H3 l (.lst ([V.str (Gm.ln s p f).word] ++ List.map V.str (List.map numS [(s : Int), p, f]))) = H4 at S4 hl4 ⊢
    walk_at "rd"
    refine r_cut (fun σ' H' => σ' = [some (V.ref a), some (V.str (Gm.ln s p f).word), some (V.ref la), some (V.ref l)] ∧ Same H H' ∧ H' l = some (.lst ((wordsG (.ln s p f)).map V.str))) (fun M' hM => ?_) ?_
    · walk_at "rd"
      rw [if_neg Gm.ln_dn]
      walk_at "rd"
      exact hM _ _ ⟨rfl, S4, hl4⟩
    · rintro _ H5 ⟨rfl, S5, hl5⟩
      walk_at "rd"
      refine ⟨rfl, _, l, wordsG (.ln s p f), rfl, rfl, .of hl5, ?_, ?_⟩
      · rw [blank_eq]; exact wordsG_join ho
      · rw [join_G]; exact q _ S5
end
end My
namespace My
open PySem L2 M
section
variable (K : PySem.W.Frag)
def spReadT : Sp := fun vs H Q _ => ∃ t, vs = [.str (thW t)] ∧ ThOk t ∧ ∀ v H', Same H H' → ThV K H' t v → Q v H'
end
section
variable {P : Program} {w : World} {K : PySem.W.Frag} {mg : Str → Option Value} {base : Heap} {ns : List Int} {k : Nat}
theorem ok_read_throw (F : Df K mg "read_throw" s_read_throw ["word"]) (m_len : mg "len" = none) (m_int : mg "int" = none) (g_MOST_WORTH : Gc mg "MOST_WORTH" (.int 1000000)) (d_is_name : Dn P w K mg base k "is_name" ["thing"] (spB K nmD)) (d_writes_whole : Dn P w K mg base k "writes_whole" ["word", "least", "most"] (spNumG)) : Dn P w K mg base (k + 1) "read_throw" ["word"] (spReadT K) := by
  refine F.ok sc_read_throw (fun vs H Q E h => ?_) (fun f cdv A outer s H vs Q E hr h => ?_)
  · obtain ⟨t, rfl, _⟩ := h; rfl
  obtain ⟨t, rfl, ho, q⟩ := h
  refine ⟨_, [some _, none, none, none], 
      (@pss_cons _ _ _ _ _ (@ps_set _ _ 1 _ _ _ _ sc_read_throw.nd rfl (Or.inl rfl) (@pe_bm _ _ _ _ _ _ _ _ _ _ _ _ PySem.F.plainAttrs_str PySem.F.slot_str_endswith PySem.F.type_str_endswith mt_endswith (@pv _ 0 _ _ (by rfl) (by first | exact Or.inl rfl | exact Or.inr (Or.inl rfl) | exact Or.inr (Or.inr rfl)) (by decide) (by decide)) (@pa_u _ _ _ _ _ (@pe_str _ _ _ _) (@pa_nil _) (by rfl)) (by rfl) (by rfl) (by rfl) (by rfl) (by rfl)) (by rfl) (by first | exact .inl rfl | exact .inr rfl | assumption)) 
      (@pss_cut _ _ _ _ _ (@ps_set _ _ 2 _ _ _ _ sc_read_throw.nd rfl (Or.inl rfl) (@pe_ifExp _ _ _ _ _ _ _ _ (@pt_val _ _ _ (@pv _ 1 _ _ (by rfl) (by first | exact Or.inl rfl | exact Or.inr (Or.inl rfl) | exact Or.inr (Or.inr rfl)) (by decide) (by decide)) (by intro _; rfl)) (@pe_slice _ _ _ _ _ _ _ _ _ _ sl_str (@pv _ 0 _ _ (by rfl) (by first | exact Or.inl rfl | exact Or.inr (Or.inl rfl) | exact Or.inr (Or.inr rfl)) (by decide) (by decide)) (@po_none _) (@po_some _ _ _ (@pe_un _ _ _ _ _ _ un_neg (@pe_int _ _ _ _)))) (@pv _ 0 _ _ (by rfl) (by first | exact Or.inl rfl | exact Or.inr (Or.inl rfl) | exact Or.inr (Or.inr rfl)) (by decide) (by decide))) (by rfl) (by first | exact .inl rfl | exact .inr rfl | assumption)) 
      (@pss_cons _ _ _ _ _ (@ps_set _ _ 3 _ _ _ _ sc_read_throw.nd rfl (Or.inl rfl) (@pe_bm _ _ _ _ _ _ _ _ _ _ _ _ PySem.F.plainAttrs_str PySem.F.slot_str_split PySem.F.type_str_split mt_split (@pv _ 2 _ _ (by rfl) (by first | exact Or.inl rfl | exact Or.inr (Or.inl rfl) | exact Or.inr (Or.inr rfl)) (by decide) (by decide)) (@pa_u _ _ _ _ _ (@pe_str _ _ _ _) (@pa_nil _) (by rfl)) (by rfl) (by rfl) (by rfl) (by rfl) (by rfl)) (by rfl) (by first | exact .inl rfl | exact .inr rfl | assumption)) 
      (@pss_cons _ _ _ _ _ (@ps_if _ _ _ _ _ _ _ _ (@PW.pt _ _ _ (@pw_or _ _ _ _ _ _ _ (@pt_cmpR _ _ _ _ _ _ _ _ op_ne (@pe_callBu _ _ _ _ _ _ _ _ _ call_lenS rfl m_len PySem.boot_len (@pa_u _ _ _ _ _ (@pv _ 3 _ _ (by rfl) (by first | exact Or.inl rfl | exact Or.inr (Or.inl rfl) | exact Or.inr (Or.inr rfl)) (by decide) (by decide)) (@pa_nil _) (by rfl)) (by rfl) (by decide) (by decide)) (@pe_int _ _ _ _) (nomark _)) (@pw_or _ _ _ _ _ _ _ (@pt_not _ _ _ _ (@pt_val _ _ _ (@pe_callD _ _ _ _ _ _ _ _ _ _ d_is_name hr rfl (@pa_u _ _ _ _ _ (@pe_ix _ _ _ _ _ _ _ ix_list (@pv _ 3 _ _ (by rfl) (by first | exact Or.inl rfl | exact Or.inr (Or.inl rfl) | exact Or.inr (Or.inr rfl)) (by decide) (by decide)) (@pe_int _ _ _ _) (fun _ _ => rfl)) (@pa_nil _) (by rfl)) (by rfl) (by decide)) (by intro _; rfl))) (@pw_or1 _ _ _ _ (@pt_not _ _ _ _ (@pt_val _ _ _ (@pe_callD _ _ _ _ _ _ _ _ _ _ d_writes_whole hr rfl (@pa_u _ _ _ _ _ (@pe_ix _ _ _ _ _ _ _ ix_list (@pv _ 3 _ _ (by rfl) (by first | exact Or.inl rfl | exact Or.inr (Or.inl rfl) | exact Or.inr (Or.inr rfl)) (by decide) (by decide)) (@pe_int _ _ _ _) (fun _ _ => rfl)) (@pa_u _ _ _ _ _ (@pe_int _ _ _ _) (@pa_u _ _ _ _ _ (@pe_gc _ _ _ _ g_MOST_WORTH rfl (by decide)) (@pa_nil _) (by rfl)) (by rfl)) (by rfl)) (by rfl) (by decide)) (by intro _; rfl))))))) (@pss_one _ _ _ (@ps_ret _ _ _ _ (@pe_non _ _ _))) (@pss_nil _)) (@pss_one _ _ _ (@ps_ret _ _ _ _ (@pe_tup _ _ _ _ _ (@pa_u _ _ _ _ _ (@pe_ix _ _ _ _ _ _ _ ix_list (@pv _ 3 _ _ (by rfl) (by first | exact Or.inl rfl | exact Or.inr (Or.inl rfl) | exact Or.inr (Or.inr rfl)) (by decide) (by decide)) (@pe_int _ _ _ _) (fun _ _ => rfl)) (@pa_u _ _ _ _ _ (@pe_callTu _ _ _ _ _ _ _ _ _ call_intT rfl m_int bt_int (@pa_u _ _ _ _ _ (@pe_ix _ _ _ _ _ _ _ ix_list (@pv _ 3 _ _ (by rfl) (by first | exact Or.inl rfl | exact Or.inr (Or.inl rfl) | exact Or.inr (Or.inr rfl)) (by decide) (by decide)) (@pe_int _ _ _ _) (fun _ _ => rfl)) (@pa_nil _) (by rfl)) (by rfl) (by decide) (by decide)) (@pa_u _ _ _ _ _ (@pv _ 1 _ _ (by rfl) (by first | exact Or.inl rfl | exact Or.inr (Or.inl rfl) | exact Or.inr (Or.inr rfl)) (by decide) (by decide)) (@pa_nil _) (by rfl)) (by rfl)) (by rfl))))))))), rfl, ?_⟩
  walk_at "cl"
  have hl := thP_len ho
  have hl2 := thW_len ho
  have hn := nm_len ho
  walk_at "st"
  have hz : (thW t).length ≤ sizeLine := Nat.le_of_lt (small1000 (by omega))
  refine ⟨rfl, _, _, rfl, rfl, ?_⟩
  rw [show Txt.endswith (thW t) (Str.ofString "!") = t.en from thW_ends ho]
  refine r_cut (fun σ' H' => σ' = [some (V.str (thW t)), some (V.bl t.en), some (V.str (thP t)), none] ∧ H' = H) (fun M' hM => ?_) ?_
  · walk_at "rd"
    cases e : t.en with
    | true =>
      walk_at "rd"
      refine ⟨hz, hM _ _ ⟨?_, rfl⟩⟩
      rw [thW_yes e, e]
    | false =>
      walk_at "rd"
      refine hM _ _ ⟨?_, rfl⟩
      rw [← thW_no e, e]
  rintro _ Hx ⟨rfl, eHx⟩
  rw [eHx]; clear eHx Hx
  walk_at "st"
  refine ⟨rfl, _, _, rfl, rfl, by decide +kernel, Nat.le_of_lt (small1000 (by omega)), fun l hl3 => ?_⟩
  rw [colon_eq, thP_split ho]
  have S1 := same_new hl3 (.lst ([t.nm, numS t.wo].map V.str))
  have h1 : (upd H l (.lst ([t.nm, numS t.wo].map V.str))) l = some (.lst [V.str t.nm, V.str (numS t.wo)]) := upd_same
  generalize upd H l (.lst ([t.nm, numS t.wo].map V.str)) = H1 at S1 h1 ⊢
  walk_at "st"
  refine ⟨l, _, rfl, .inl (.of h1), ?_⟩
  walk_at "rd"
  refine ⟨_, .of h1, _, atI_nat (j := 0) rfl, 0, .str t.nm, _, rfl, .str (asc_ok ho.1), (Gd.str (n := 9) ho.1 (by omega)).1, fun H2 S2 => ?_⟩
  rw [show nmD (.str t.nm) = true from ho.2.1.2]
  walk_at "rd"
  refine ⟨_, .of (S2 _ _ h1), _, atI_nat (j := 1) rfl, _, _, _, rfl, ho.2.2.1, ho.2.2.1, ho.2.2.2, by decide, fun H3 S3 => ?_⟩
  walk_at "rd"
  refine ⟨_, .of (S3 _ _ (S2 _ _ h1)), _, atI_nat (j := 0) rfl, _, .of (S3 _ _ (S2 _ _ h1)), _, atI_nat (j := 1) rfl, ?_⟩
  refine ⟨_, _, rfl, num_int ho.2.2.1 (by have := ho.2.2.2; omega), by have := wo_len ho; omega, ?_⟩
  exact ⟨small6 (by simp), fun p hp => q _ _ (((S1.trans S2).trans S3).trans (same_new hp _)) (th_mk (.of upd_same) (asc_ok ho.1))⟩
end
end My
namespace My
open PySem L2 M
section
variable (K : PySem.W.Frag)
def spReadDn : Sp := fun vs H Q _ => ∃ (W : Addr) (n : Nat) (b tr : Int) (ths : List Th), vs = [.ref W] ∧ H W = some (.lst (sV (wordsG (.dn n b tr ths)))) ∧ GmOk (.dn n b tr ths) ∧ ∀ a H', Same H H' → DwV K H' n b tr ths a → Q (.ref a) H'
def spReadLn : Sp := fun vs H Q _ => ∃ (W : Addr) (s : Nat) (p f : Int), vs = [.ref W] ∧ H W = some (.lst (sV (wordsG (.ln s p f)))) ∧ GmOk (.ln s p f) ∧ ∀ a H', Same H H' → SqT K H' a [.int s, .int p, .int f] → Q (.ref a) H'
end
section
variable {P : Program} {w : World} {K : PySem.W.Frag} {mg : Str → Option Value} {base : Heap} {ns : List Int} {k : Nat}
theorem ok_read_lane {pL : Addr} (F : Df K mg "read_lane" s_read_lane ["words"]) (m_len : mg "len" = none) (g_LANE_MOSTS : Gc mg "LANE_MOSTS" (.ref pL)) (tL : ∀ H : Hp, SqT K H pL [.int 3, .int 20, .int 12]) (d_read_numbers : Dn P w K mg base k "read_numbers" ["words", "mosts"] (spNumbers K)) : Dn P w K mg base (k + 1) "read_lane" ["words"] (spReadLn K) := by
  refine F.ok sc_read_lane (fun vs H Q E h => ?_) (fun f cdv A outer s H vs Q E hr h => ?_)
  · obtain ⟨W, s, p, f, rfl, _⟩ := h; rfl
  obtain ⟨W, s, p, f, rfl, hW, ho, q⟩ := h
  refine ⟨_, [some _, none], 
      (@pss_cons _ _ _ _ _ (@ps_set _ _ 1 _ _ _ _ sc_read_lane.nd rfl (Or.inl rfl) (@pe_callD _ _ _ _ _ _ _ _ _ _ d_read_numbers hr rfl (@pa_u _ _ _ _ _ (@pv _ 0 _ _ (by rfl) (by first | exact Or.inl rfl | exact Or.inr (Or.inl rfl) | exact Or.inr (Or.inr rfl)) (by decide) (by decide)) (@pa_u _ _ _ _ _ (@pe_gc _ _ _ _ g_LANE_MOSTS rfl (by decide)) (@pa_nil _) (by rfl)) (by rfl)) (by rfl) (by decide)) (by rfl) (by first | exact .inl rfl | exact .inr rfl | assumption)) 
      (@pss_cons _ _ _ _ _ (@ps_if _ _ _ _ _ _ _ _ (@pt_cmpR _ _ _ _ _ _ _ _ op_gt (@pe_callBu _ _ _ _ _ _ _ _ _ call_lenS rfl m_len PySem.boot_len (@pa_u _ _ _ _ _ (@pv _ 0 _ _ (by rfl) (by first | exact Or.inl rfl | exact Or.inr (Or.inl rfl) | exact Or.inr (Or.inr rfl)) (by decide) (by decide)) (@pa_nil _) (by rfl)) (by rfl) (by decide) (by decide)) (@pe_op _ _ _ _ _ _ _ _ op_add (@pe_callBu _ _ _ _ _ _ _ _ _ call_lenS rfl m_len PySem.boot_len (@pa_u _ _ _ _ _ (@pv _ 1 _ _ (by rfl) (by first | exact Or.inl rfl | exact Or.inr (Or.inl rfl) | exact Or.inr (Or.inr rfl)) (by decide) (by decide)) (@pa_nil _) (by rfl)) (by rfl) (by decide) (by decide)) (@pe_int _ _ _ _)) (nomark _)) (@pss_one _ _ _ (@ps_never _ _)) (@pss_nil _)) (@pss_one _ _ _ (@ps_ret _ _ _ _ (@pv _ 1 _ _ (by rfl) (by first | exact Or.inl rfl | exact Or.inr (Or.inl rfl) | exact Or.inr (Or.inr rfl)) (by decide) (by decide)))))), rfl, ?_⟩
  walk_at "cl"
  obtain ⟨⟨h1, h2⟩, ⟨h3, h4⟩, h5, h6⟩ := id ho
  walk_at "st"
  refine ⟨W, pL, wordsG (.ln s p f), [3, 20, 12], [(s : Int), p, f], rfl, hW, tL _, rfl, by simp, ?_, fun a H1 S1 ha => ?_⟩
  · intro j i m hi hm
    match j with
    | 0 => cases hi; cases hm; exact ⟨rfl, by omega, by omega, by decide⟩
    | 1 => cases hi; cases hm; exact ⟨rfl, by omega, by omega, by decide⟩
    | 2 => cases hi; cases hm; exact ⟨rfl, by omega, by omega, by decide⟩
    | j + 3 => cases hi
  walk_at "st"
  refine ⟨W, _, rfl, .inl (.of (S1 _ _ hW)), a, _, rfl, .inr ha, ?_⟩
  walk_at "rd"
  rw [if_neg (by rw [sV_len]; simp [wordsG])]
  exact q _ _ S1 ha
theorem _root_.L2.Tk.updD {K : PySem.W.Frag} {H : Hp} {a : Addr} {ys : List (Key × V)} {o : HO} (h : H a = some (.dK ys)) : Tk K H (L2.upd H a o) := Tk.upd fun xs q => by
  rcases q with q | ⟨u, q⟩
  · rw [h] at q; cases q
  · rw [h] at q; cases q
def nmK (ths : List Th) : List (Key × V) := ths.map fun t => (.inr t.nm, .bl true)
theorem nmK_not {x : Str} : ∀ {ths : List Th}, x ∉ ths.map (·.nm) → valV (nmK ths) (.inr x) = none
  | [], _ => rfl
  | t :: ths, h => by
    rw [List.map_cons, List.mem_cons, not_or] at h
    rw [nmK, List.map_cons, valV_neg (fun e => h.1 (Sum.inr.inj e).symm)]
    exact nmK_not h.2
theorem ok_read_down {pM : Addr} (F : Df K mg "read_down" s_read_down ["words"]) (m_len : mg "len" = none) (m_range : mg "range" = none) (m_tuple : mg "tuple" = none) (g_MOST_THROWS : Gc mg "MOST_THROWS" (.int 30)) (g_DOWN_MOSTS : Gc mg "DOWN_MOSTS" (.ref pM)) (tM : ∀ H : Hp, SqT K H pM [.int 3, .int 1000000, .int 3]) (d_read_numbers : Dn P w K mg base k "read_numbers" ["words", "mosts"] (spNumbers K)) (d_read_throw : Dn P w K mg base k "read_throw" ["word"] (spReadT K)) : Dn P w K mg base (k + 1) "read_down" ["words"] (spReadDn K) := by
  refine F.ok sc_read_down (fun vs H Q E h => ?_) (fun f cdv A outer s H vs Q E hr h => ?_)
  · obtain ⟨W, n, b, tr, ths, rfl, _⟩ := h; rfl
  obtain ⟨W, n, b, tr, ths, rfl, hW, ho, q⟩ := h
  refine ⟨_, [some _, none, none, none, none, none], 
      (@pss_cons _ _ _ _ _ (@ps_set _ _ 1 _ _ _ _ sc_read_down.nd rfl (Or.inl rfl) (@pe_callD _ _ _ _ _ _ _ _ _ _ d_read_numbers hr rfl (@pa_u _ _ _ _ _ (@pv _ 0 _ _ (by rfl) (by first | exact Or.inl rfl | exact Or.inr (Or.inl rfl) | exact Or.inr (Or.inr rfl)) (by decide) (by decide)) (@pa_u _ _ _ _ _ (@pe_gc _ _ _ _ g_DOWN_MOSTS rfl (by decide)) (@pa_nil _) (by rfl)) (by rfl)) (by rfl) (by decide)) (by rfl) (by first | exact .inl rfl | exact .inr rfl | assumption)) 
      (@pss_cons _ _ _ _ _ (@ps_set _ _ 2 _ _ _ _ sc_read_down.nd rfl (Or.inl rfl) (@pe_lst _ _ _ _ (@pa_nil _)) (by rfl) (by first | exact .inl rfl | exact .inr rfl | assumption)) 
      (@pss_cons _ _ _ _ _ (@ps_set _ _ 3 _ _ _ _ sc_read_down.nd rfl (Or.inl rfl) (@pe_dnewK _ _) (by rfl) (by first | exact .inl rfl | exact .inr rfl | assumption)) 
      (@pss_cons _ _ _ _ _ (@ps_for _ _ _ _ _ _ _ _ PassesOwn.never rfl (@pi_range2 _ _ _ _ _ _ _ rfl m_range (@pa_u _ _ _ _ _ (@pe_op _ _ _ _ _ _ _ _ op_add (@pe_callBu _ _ _ _ _ _ _ _ _ call_lenS rfl m_len PySem.boot_len (@pa_u _ _ _ _ _ (@pv _ 1 _ _ (by rfl) (by first | exact Or.inl rfl | exact Or.inr (Or.inl rfl) | exact Or.inr (Or.inr rfl)) (by decide) (by decide)) (@pa_nil _) (by rfl)) (by rfl) (by decide) (by decide)) (@pe_int _ _ _ _)) (@pa_u _ _ _ _ _ (@pe_callBu _ _ _ _ _ _ _ _ _ call_lenS rfl m_len PySem.boot_len (@pa_u _ _ _ _ _ (@pv _ 0 _ _ (by rfl) (by first | exact Or.inl rfl | exact Or.inr (Or.inl rfl) | exact Or.inr (Or.inr rfl)) (by decide) (by decide)) (@pa_nil _) (by rfl)) (by rfl) (by decide) (by decide)) (@pa_nil _) (by rfl)) (by rfl)) (by rfl) (by rfl)) (@pg_name _ _ 4 _ sc_read_down.nd rfl (Or.inl rfl) (by first | exact .inl rfl | exact .inr rfl | assumption)) 
      (@pss_cons _ _ _ _ _ (@ps_set _ _ 5 _ _ _ _ sc_read_down.nd rfl (Or.inl rfl) (@pe_callD _ _ _ _ _ _ _ _ _ _ d_read_throw hr rfl (@pa_u _ _ _ _ _ (@pe_ix _ _ _ _ _ _ _ ix_list (@pv _ 0 _ _ (by rfl) (by first | exact Or.inl rfl | exact Or.inr (Or.inl rfl) | exact Or.inr (Or.inr rfl)) (by decide) (by decide)) (@pv _ 4 _ _ (by rfl) (by first | exact Or.inl rfl | exact Or.inr (Or.inl rfl) | exact Or.inr (Or.inr rfl)) (by decide) (by decide)) (fun _ _ => rfl)) (@pa_nil _) (by rfl)) (by rfl) (by decide)) (by rfl) (by first | exact .inl rfl | exact .inr rfl | assumption)) 
      (@pss_cons _ _ _ _ _ (@ps_if _ _ _ _ _ _ _ _ (@PW.pt _ _ _ (@pw_or _ _ _ _ _ _ _ (@pt_cmpR _ _ _ _ _ _ _ _ op_isNS (@pv _ 5 _ _ (by rfl) (by first | exact Or.inl rfl | exact Or.inr (Or.inl rfl) | exact Or.inr (Or.inr rfl)) (by decide) (by decide)) (@pe_non _ _ _) (nomark _)) (@pw_or _ _ _ _ _ _ _ (@pt_cmp _ _ _ _ _ _ (@pc_din _ _ _ _ _ (hu_of hr) (@pe_ix _ _ _ _ _ _ _ ix_tup (@pv _ 5 _ _ (by rfl) (by first | exact Or.inl rfl | exact Or.inr (Or.inl rfl) | exact Or.inr (Or.inr rfl)) (by decide) (by decide)) (@pe_int _ _ _ _) (fun _ _ => rfl)) (@pv _ 3 _ _ (by rfl) (by first | exact Or.inl rfl | exact Or.inr (Or.inl rfl) | exact Or.inr (Or.inr rfl)) (by decide) (by decide))) (by first | exact nobehind _ (by decide) (by decide) | rfl)) (@pw_or1 _ _ _ _ (@pt_cmpR _ _ _ _ _ _ _ _ op_eq (@pe_callBu _ _ _ _ _ _ _ _ _ call_lenS rfl m_len PySem.boot_len (@pa_u _ _ _ _ _ (@pv _ 2 _ _ (by rfl) (by first | exact Or.inl rfl | exact Or.inr (Or.inl rfl) | exact Or.inr (Or.inr rfl)) (by decide) (by decide)) (@pa_nil _) (by rfl)) (by rfl) (by decide) (by decide)) (@pe_gc _ _ _ _ g_MOST_THROWS rfl (by decide)) (nomark _)))))) (@pss_one _ _ _ (@ps_never _ _)) (@pss_nil _)) 
      (@pss_cons _ _ _ _ _ (@ps_expr _ _ _ _ (@pe_bm _ _ _ _ _ _ _ _ _ _ _ _ PySem.F.plainAttrs_list PySem.F.slot_list_append PySem.F.type_list_append mt_append (@pv _ 2 _ _ (by rfl) (by first | exact Or.inl rfl | exact Or.inr (Or.inl rfl) | exact Or.inr (Or.inr rfl)) (by decide) (by decide)) (@pa_u _ _ _ _ _ (@pv _ 5 _ _ (by rfl) (by first | exact Or.inl rfl | exact Or.inr (Or.inl rfl) | exact Or.inr (Or.inr rfl)) (by decide) (by decide)) (@pa_nil _) (by rfl)) (by rfl) (by rfl) (by rfl) (by rfl) (by rfl)) (by rfl)) (@pss_one _ _ _ (@ps_dput _ _ _ _ _ _ _ _ _ (hu_of hr) (@pv _ 3 _ _ (by rfl) (by first | exact Or.inl rfl | exact Or.inr (Or.inl rfl) | exact Or.inr (Or.inr rfl)) (by decide) (by decide)) (@pe_ix _ _ _ _ _ _ _ ix_tup (@pv _ 5 _ _ (by rfl) (by first | exact Or.inl rfl | exact Or.inr (Or.inl rfl) | exact Or.inr (Or.inr rfl)) (by decide) (by decide)) (@pe_int _ _ _ _) (fun _ _ => rfl)) (@pe_bl _ _ _ _) rfl))))) (by intro _; rfl)) 
      (@pss_cons _ _ _ _ _ (@ps_if _ _ _ _ _ _ _ _ (@pt_cmpR _ _ _ _ _ _ _ _ (op_eqD hr) (@pv _ 2 _ _ (by rfl) (by first | exact Or.inl rfl | exact Or.inr (Or.inl rfl) | exact Or.inr (Or.inr rfl)) (by decide) (by decide)) (@pe_lst _ _ _ _ (@pa_nil _)) (nomark _)) (@pss_one _ _ _ (@ps_never _ _)) (@pss_nil _)) (@pss_one _ _ _ (@ps_ret _ _ _ _ (@pe_op _ _ _ _ _ _ _ _ op_catA (@pv _ 1 _ _ (by rfl) (by first | exact Or.inl rfl | exact Or.inr (Or.inl rfl) | exact Or.inr (Or.inr rfl)) (by decide) (by decide)) (@pe_tup _ _ _ _ _ (@pa_u _ _ _ _ _ (@pe_callTu _ _ _ _ _ _ _ _ _ call_tuple_of rfl m_tuple bt_tuple (@pa_u _ _ _ _ _ (@pv _ 2 _ _ (by rfl) (by first | exact Or.inl rfl | exact Or.inr (Or.inl rfl) | exact Or.inr (Or.inr rfl)) (by decide) (by decide)) (@pa_nil _) (by rfl)) (by rfl) (by decide) (by decide)) (@pa_nil _) (by rfl))))))))))), rfl, ?_⟩
  walk_at "cl"
  have hd := ho.1
  have := hd.n1; have := hd.n3; have := hd.b1; have := hd.b2; have := hd.t1; have := hd.t3; have h30 := hd.l2; have := hd.l1
  have hlw : (wordsG (.dn n b tr ths)).length = 4 + ths.length := by simp [wordsG]; omega
  walk_at "st"
  refine ⟨W, pM, wordsG (.dn n b tr ths), [3, 1000000, 3], [(n : Int), b, tr], rfl, hW, tM _, rfl, by simp, ?_, fun a H1 S1 ha => ?_⟩
  · intro j i m hi hm
    match j with
    | 0 => cases hi; cases hm; exact ⟨rfl, by omega, by omega, by decide⟩
    | 1 => cases hi; cases hm; exact ⟨rfl, by omega, by omega, by decide⟩
    | 2 => cases hi; cases hm; exact ⟨rfl, by omega, by omega, by decide⟩
    | j + 3 => cases hi
  walk_at "st"
  refine ⟨small6 (by simp), fun D hD => ?_⟩
  walk_at "st"
  intro Nn hN
  have eND : Nn ≠ D := fun e => by subst e; rw [upd_same] at hN; cases hN
  have hN1 : H1 Nn = none := by rwa [upd_ne eND] at hN
  have S2 : Same H1 (upd (upd H1 D (.lst [])) Nn (.dK [])) := (same_new hD _).trans (same_new hN _)
  have hD2 : (upd (upd H1 D (.lst [])) Nn (.dK [])) D = some (.lst []) := by rw [upd_ne (Ne.symm eND), upd_same]
  have hN2 : (upd (upd H1 D (.lst [])) Nn (.dK [])) Nn = some (.dK []) := upd_same
  generalize upd (upd H1 D (.lst [])) Nn (.dK []) = H2 at S2 hD2 hN2 ⊢
  walk_at "st"
  refine ⟨a, _, rfl, .inr (Same.sqT ha S2), ?_⟩
  walk_at "rd"
  refine ⟨W, _, rfl, .inl (.of (S2 _ _ (S1 _ _ hW))), _, _, rfl, ?_, ?_⟩
  · rw [sV_len, hlw]; refine ⟨?_, ?_, ?_, ?_⟩ <;> simp <;> omega
  have hn : (((sV (wordsG (.dn n b tr ths))).length : Int) - ((([(n : Int), b, tr].map V.int).length : Int) + 1)).toNat = ths.length := by rw [sV_len, hlw]; simp; omega
  rw [hn]
  refine rngL_of (fun i σ' H' => ∃ (vs : List V) (x y : Option V), σ' = [some (.ref W), some (.ref a), some (.ref D), some (.ref Nn), x, y] ∧ Same H1 H' ∧ H' D = some (.lst vs) ∧ ThL K H' (ths.take i) vs ∧ H' Nn = some (.dK (nmK (ths.take i)))) ⟨[], none, none, rfl, S2, hD2, .nil, hN2⟩ ?_ ?_
  · rintro Pw hP i σ' H3 hi ⟨vs, x, y, rfl, S3, hD3, hvs, hN3⟩
    have hvl := hvs.len
    rw [List.length_take, Nat.min_eq_left (Nat.le_of_lt hi)] at hvl
    walk_at "rd"
    walk_at "st"
    have hw : (wordsG (.dn n b tr ths))[4 + i]? = some (thW ths[i]) := by simp [wordsG, hi, Nat.add_comm 4 i]
    have hat : atI (sV (wordsG (.dn n b tr ths))) ((([(n : Int), b, tr].map V.int).length : Int) + 1 + i) = some (V.str (thW ths[i])) := atI_nat (j := 4 + i) (by rw [sV, List.getElem?_map, hw]; rfl)
    refine ⟨_, .of (S3 _ _ (S1 _ _ hW)), _, hat, _, rfl, hd.ok _ (List.getElem_mem hi), fun v H4 S4 hv => ?_⟩
    obtain ⟨va, rfl, hvs4, _⟩ := th_inv hv
    walk_at "st"
    walk_at "F"
    unfold tDIn
    walk_at "rd"
    refine ⟨_, hvs4, _, atI_nat (j := 0) rfl, Nn, _, rfl, DGet.k (k := .inr ths[i].nm) (S4 _ _ hN3), ?_⟩
    have hnew : ths[i].nm ∉ (ths.take i).map (·.nm) := fun hm => by
      have e : ths.take i ++ ths[i] :: ths.drop (i + 1) = ths := by rw [List.getElem_cons_drop, List.take_append_drop]
      have hnd : ((ths.take i ++ ths[i] :: ths.drop (i + 1)).map (·.nm)).Nodup := by rw [e]; exact ho.2
      rw [List.map_append, List.nodup_append] at hnd
      exact hnd.2.2 _ hm _ (List.mem_cons_self ..) rfl
    rw [nmK_not hnew]
    walk_at "rd"
    refine ⟨D, _, rfl, .inl (.of (S4 _ _ hD3)), ?_⟩
    walk_at "rd"
    rw [if_neg (by omega)]
    walk_at "st"
    refine ⟨.inl ⟨rfl, _, .of (S4 _ _ hD3)⟩, D, _, _, rfl, rfl, S4 _ _ hD3, small1000 (by omega), ?_⟩
    have S5 : Same H1 (upd H4 D (.lst (vs ++ [V.ref va]))) := Same.at (S3.trans S4) hD
    have k5 : Tk K H4 (upd H4 D (.lst (vs ++ [V.ref va]))) := Tk.updL (S4 _ _ hD3)
    have hD5 : (upd H4 D (.lst (vs ++ [V.ref va]))) D = some (.lst (vs ++ [V.ref va])) := upd_same
    have hN5 : (upd H4 D (.lst (vs ++ [V.ref va]))) Nn = _ := (upd_ne eND).trans (S4 _ _ hN3)
    generalize upd H4 D (.lst (vs ++ [V.ref va])) = H5 at S5 k5 hD5 hN5 ⊢
    unfold sDPut
    walk_at "rd"
    refine ⟨_, k5 _ _ hvs4, _, atI_nat (j := 0) rfl, Nn, _, rfl, DPut.k (k := .inr ths[i].nm) hN5 (small1000 (by simp [nmK]; omega)), hP _ _ _ ⟨_, _, _, rfl, Same.at S5 hN1, (upd_ne (Ne.symm eND)).trans hD5, ?_, ?_⟩⟩
    · rw [← List.take_append_getElem hi]
      exact (((hvs.same S4).tk k5).tk (Tk.updD hN5)).snoc ((hv.tk k5).tk (Tk.updD hN5))
    · rw [upd_same, putK_new _ (nmK_not hnew), ← List.take_append_getElem hi]
      unfold nmK
      rw [List.map_append]
      rfl
  · rintro σ' H3 ⟨vs, x, y, rfl, S3, hD3, hvs, hN3⟩
    rw [List.take_of_length_le (Nat.le_refl _)] at hvs
    have hvl := hvs.len
    have eDW : D ≠ W := fun e => by subst e; rw [S1 _ _ hW] at hD; cases hD
    walk_at "st"
    refine ⟨small6 (by simp), fun p hp => ?_⟩
    have S4 := same_new hp (.lst [])
    have epW : p ≠ W := fun e => by subst e; rw [S3 _ _ (S1 _ _ hW)] at hp; cases hp
    refine eqF_of (t := W) (d := .list (ths.map encT)) (e := .list []) (.lst eDW (.of (S4 _ _ hD3)) (DtL.tk (.refl _) _ _ (noLs_encT ths) (hvs.same S4))) (.lst epW (.of upd_same) .nil) (Nat.le_trans (Nat.min_le_right ..) (by simp [PyData.depth, PyData.depthAll])) ?_
    have e1 : PyData.eqv (.list (ths.map encT)) (.list []) = false := by
      cases ths with
      | nil => simp at *
      | cons t ths => simp [PyData.eqv, PyData.eqvAll]
    rw [e1]
    walk_at "rd"
    have S5 : Same H (upd H3 p (.lst [])) := (S1.trans S3).trans S4
    have hD5 := S4 _ _ hD3
    have ha5 := Same.sqT ha (S3.trans S4)
    have hvs5 := hvs.same S4
    generalize upd H3 p (.lst []) = H5 at S5 hD5 ha5 hvs5 ⊢
    refine ⟨D, _, rfl, .inl ⟨.of hD5, fun l hl => ⟨small6 (by simp), fun c hc => ?_⟩⟩⟩
    have S6 := same_new hl (.tup vs)
    have S7 := S6.trans (same_new hc (.tup [V.ref l]))
    have hl7 := same_new hc (.tup [V.ref l]) _ _ (show (upd H5 l (.tup vs)) l = _ from upd_same)
    have hc7 : (upd (upd H5 l (.tup vs)) c (.tup [V.ref l])) c = some (.tup [V.ref l]) := upd_same
    generalize upd (upd H5 l (.tup vs)) c (.tup [V.ref l]) = H7 at S7 hl7 hc7 ⊢
    exact ⟨a, c, _, _, rfl, rfl, Same.sqT ha5 S7, .of hc7, Nat.le_of_lt (small1000 (by simp)), fun r H8 S8 hr8 => q _ _ ((S5.trans S7).trans S8) ⟨l, vs, hr8, Same.sqT (.of hl7) S8, hvs5.same (S7.trans S8)⟩⟩
end
end My
namespace My
open PySem L2 M
section
variable (K : PySem.W.Frag)
def spReadBeh : Sp := fun vs H Q _ => ∃ (W : Addr) (rl : Rl), vs = [.ref W] ∧ H W = some (.lst (sV (words rl))) ∧ GmOk (.ral rl) ∧ ∀ r H', Same H H' → RlV K H' rl r → Q r H'
def spReadG : Sp := fun vs H Q _ => ∃ g, vs = [.str (textG g)] ∧ GmOk g ∧ ∀ v H', Same H H' → GmV K H' g v → Q v H'
end
section
variable {P : Program} {w : World} {K : PySem.W.Frag} {mg : Str → Option Value} {base : Heap} {ns : List Int} {k : Nat}
theorem ok_read_behind_rally (F : Df K mg "read_behind_rally" s_read_behind_rally ["words"]) (d_read_rule : Dn P w K mg base k "read_rule" ["text"] (spRead K)) : Dn P w K mg base (k + 1) "read_behind_rally" ["words"] (spReadBeh K) := by
  refine F.ok sc_read_behind_rally (fun vs H Q E h => ?_) (fun f cdv A outer s H vs Q E hr h => ?_)
  · obtain ⟨W, rl, rfl, _⟩ := h; rfl
  obtain ⟨W, rl, rfl, hW, ho, q⟩ := h
  refine ⟨_, [some _, none], (@pss_one _ _ _ (@ps_tryN _ _ _ _ _ _ (@pss_one _ _ _ (@ps_ret _ _ _ _ (@pe_callD _ _ _ _ _ _ _ _ _ _ d_read_rule hr rfl (@pa_u _ _ _ _ _ (@pe_bm _ _ _ _ _ _ _ _ _ _ _ _ PySem.F.plainAttrs_str PySem.F.slot_str_join PySem.F.type_str_join mt_join (@pe_str _ _ _ _) (@pa_u _ _ _ _ _ (@pv _ 0 _ _ (by rfl) (by first | exact Or.inl rfl | exact Or.inr (Or.inl rfl) | exact Or.inr (Or.inr rfl)) (by decide) (by decide)) (@pa_nil _) (by rfl)) (by rfl) (by rfl) (by rfl) (by rfl) (by rfl)) (@pa_nil _) (by rfl)) (by rfl) (by decide)))))), rfl, ?_⟩
  walk_at "cl"
  walk_at "rd"
  have hwl := words_len rl
  have := ho.2.2
  refine ⟨rfl, _, W, words rl, rfl, rfl, .of hW, ?_, ?_⟩
  · rw [blank_eq]; exact join_ok (n := 5) (m := 100) (words_short ho.1) (by omega) (by decide)
  · rw [join_text]
    exact ⟨rl, rfl, ho.1, ho.2.1, by omega, q⟩
theorem ok_read_game (F : Df K mg "read_game" s_read_game ["text"]) (d_read_behind_rally : Dn P w K mg base k "read_behind_rally" ["words"] (spReadBeh K)) (d_read_down : Dn P w K mg base k "read_down" ["words"] (spReadDn K)) (d_read_lane : Dn P w K mg base k "read_lane" ["words"] (spReadLn K)) : Dn P w K mg base (k + 1) "read_game" ["text"] (spReadG K) := by
  refine F.ok sc_read_game (fun vs H Q E h => ?_) (fun f cdv A outer s H vs Q E hr h => ?_)
  · obtain ⟨g, rfl, _⟩ := h; rfl
  obtain ⟨g, rfl, ho, q⟩ := h
  refine ⟨_, [some _, none], 
      (@pss_cons _ _ _ _ _ (@ps_set _ _ 1 _ _ _ _ sc_read_game.nd rfl (Or.inl rfl) (@pe_bm _ _ _ _ _ _ _ _ _ _ _ _ PySem.F.plainAttrs_str PySem.F.slot_str_split PySem.F.type_str_split mt_split (@pv _ 0 _ _ (by rfl) (by first | exact Or.inl rfl | exact Or.inr (Or.inl rfl) | exact Or.inr (Or.inr rfl)) (by decide) (by decide)) (@pa_u _ _ _ _ _ (@pe_str _ _ _ _) (@pa_nil _) (by rfl)) (by rfl) (by rfl) (by rfl) (by rfl) (by rfl)) (by rfl) (by first | exact .inl rfl | exact .inr rfl | assumption)) 
      (@pss_cons _ _ _ _ _ (@ps_if _ _ _ _ _ _ _ _ (@pt_cmpR _ _ _ _ _ _ _ _ op_eq (@pe_ix _ _ _ _ _ _ _ ix_list (@pv _ 1 _ _ (by rfl) (by first | exact Or.inl rfl | exact Or.inr (Or.inl rfl) | exact Or.inr (Or.inr rfl)) (by decide) (by decide)) (@pe_int _ _ _ _) (fun _ _ => rfl)) (@pe_str _ _ _ _) (nomark _)) (@pss_one _ _ _ (@ps_ret _ _ _ _ (@pe_tup _ _ _ _ _ (@pa_u _ _ _ _ _ (@pe_str _ _ _ _) (@pa_u _ _ _ _ _ (@pe_callD _ _ _ _ _ _ _ _ _ _ d_read_behind_rally hr rfl (@pa_u _ _ _ _ _ (@pe_slice _ _ _ _ _ _ _ _ _ _ sl_list (@pv _ 1 _ _ (by rfl) (by first | exact Or.inl rfl | exact Or.inr (Or.inl rfl) | exact Or.inr (Or.inr rfl)) (by decide) (by decide)) (@po_some _ _ _ (@pe_int _ _ _ _)) (@po_none _)) (@pa_nil _) (by rfl)) (by rfl) (by decide)) (@pa_nil _) (by rfl)) (by rfl))))) (@pss_nil _)) 
      (@pss_cons _ _ _ _ _ (@ps_if _ _ _ _ _ _ _ _ (@pt_cmpR _ _ _ _ _ _ _ _ op_eq (@pe_ix _ _ _ _ _ _ _ ix_list (@pv _ 1 _ _ (by rfl) (by first | exact Or.inl rfl | exact Or.inr (Or.inl rfl) | exact Or.inr (Or.inr rfl)) (by decide) (by decide)) (@pe_int _ _ _ _) (fun _ _ => rfl)) (@pe_str _ _ _ _) (nomark _)) (@pss_one _ _ _ (@ps_ret _ _ _ _ (@pe_tup _ _ _ _ _ (@pa_u _ _ _ _ _ (@pe_str _ _ _ _) (@pa_u _ _ _ _ _ (@pe_callD _ _ _ _ _ _ _ _ _ _ d_read_down hr rfl (@pa_u _ _ _ _ _ (@pv _ 1 _ _ (by rfl) (by first | exact Or.inl rfl | exact Or.inr (Or.inl rfl) | exact Or.inr (Or.inr rfl)) (by decide) (by decide)) (@pa_nil _) (by rfl)) (by rfl) (by decide)) (@pa_nil _) (by rfl)) (by rfl))))) (@pss_nil _)) 
      (@pss_cons _ _ _ _ _ (@ps_if _ _ _ _ _ _ _ _ (@pt_cmpR _ _ _ _ _ _ _ _ op_eq (@pe_ix _ _ _ _ _ _ _ ix_list (@pv _ 1 _ _ (by rfl) (by first | exact Or.inl rfl | exact Or.inr (Or.inl rfl) | exact Or.inr (Or.inr rfl)) (by decide) (by decide)) (@pe_int _ _ _ _) (fun _ _ => rfl)) (@pe_str _ _ _ _) (nomark _)) (@pss_one _ _ _ (@ps_ret _ _ _ _ (@pe_tup _ _ _ _ _ (@pa_u _ _ _ _ _ (@pe_str _ _ _ _) (@pa_u _ _ _ _ _ (@pe_callD _ _ _ _ _ _ _ _ _ _ d_read_lane hr rfl (@pa_u _ _ _ _ _ (@pv _ 1 _ _ (by rfl) (by first | exact Or.inl rfl | exact Or.inr (Or.inl rfl) | exact Or.inr (Or.inr rfl)) (by decide) (by decide)) (@pa_nil _) (by rfl)) (by rfl) (by decide)) (@pa_nil _) (by rfl)) (by rfl))))) (@pss_nil _)) (@pss_one _ _ _ (@ps_never _ _)))))), rfl, ?_⟩
  walk_at "cl"
  have htl := textG_len ho
  walk_at "st"
  refine ⟨rfl, _, _, rfl, rfl, by decide +kernel, Nat.le_trans (Nat.add_le_add_right htl 2) (by decide), fun W hW => ?_⟩
  rw [blank_eq, textG_split ho]
  have S1 := same_new hW (.lst ((wordsG g).map V.str))
  have hW1 : (upd H W (.lst ((wordsG g).map V.str))) W = some (.lst (sV (wordsG g))) := upd_same
  generalize upd H W (.lst ((wordsG g).map V.str)) = H1 at S1 hW1 ⊢
  walk_at "st"
  cases g with
  | ral rl =>
    refine ⟨_, .of hW1, _, atI_nat (j := 0) rfl, ?_⟩
    walk_at "rd"
    rw [if_pos (show wRally = Str.ofString "rally" from rfl)]
    refine ⟨W, _, rfl, .of hW1, fun p hp => ?_⟩
    have S2 := same_new hp (.lst (cutV (sV (wordsG (.ral rl))) (some 1) none))
    have hp2 : (upd H1 p (.lst (cutV (sV (wordsG (.ral rl))) (some 1) none))) p = some (.lst (sV (words rl))) := by
      rw [upd_same, show ((1 : Int)) = ((1 : Nat) : Int) from rfl, cutV_dropL (by simp [sV, wordsG])]
      rfl
    generalize upd H1 p (.lst (cutV (sV (wordsG (.ral rl))) (some 1) none)) = H2 at S2 hp2 ⊢
    refine ⟨p, rl, rfl, hp2, ho, fun r H3 S3 hr3 => ⟨small6 (by simp), fun c hc => ?_⟩⟩
    have S4 := same_new hc (.tup [V.str (Str.ofString "rally"), r])
    exact q _ _ (((S1.trans S2).trans S3).trans S4) ⟨c, r, rfl, .of upd_same, RlV.tk hr3 S4.tk⟩
  | dn n b tr ths =>
    refine ⟨_, .of hW1, _, atI_nat (j := 0) rfl, ?_⟩
    walk_at "rd"
    rw [if_neg (show ¬ wDown = Str.ofString "rally" by decide +kernel)]
    walk_at "st"
    refine ⟨_, .of hW1, _, atI_nat (j := 0) rfl, ?_⟩
    walk_at "rd"
    rw [if_pos (show wDown = Str.ofString "down" from rfl)]
    refine ⟨W, n, b, tr, ths, rfl, hW1, ho, fun r H3 S3 hr3 => ⟨small6 (by simp), fun c hc => ?_⟩⟩
    have S4 := same_new hc (.tup [V.str (Str.ofString "down"), .ref r])
    exact q _ _ ((S1.trans S3).trans S4) ⟨c, .ref r, rfl, .of upd_same, r, rfl, hr3.same S4⟩
  | ln s p f =>
    refine ⟨_, .of hW1, _, atI_nat (j := 0) rfl, ?_⟩
    walk_at "rd"
    rw [if_neg (show ¬ wLane = Str.ofString "rally" by decide +kernel)]
    walk_at "st"
    refine ⟨_, .of hW1, _, atI_nat (j := 0) rfl, ?_⟩
    walk_at "rd"
    rw [if_neg (show ¬ wLane = Str.ofString "down" by decide +kernel)]
    walk_at "st"
    refine ⟨_, .of hW1, _, atI_nat (j := 0) rfl, ?_⟩
    walk_at "rd"
    rw [if_pos (show wLane = Str.ofString "lane" from rfl)]
    refine ⟨W, s, p, f, rfl, hW1, ho, fun r H3 S3 hr3 => ⟨small6 (by simp), fun c hc => ?_⟩⟩
    have S4 := same_new hc (.tup [V.str (Str.ofString "lane"), .ref r])
    exact q _ _ ((S1.trans S3).trans S4) ⟨c, .ref r, rfl, .of upd_same, r, rfl, Same.sqT hr3 S4⟩
end
end My
namespace My
open PySem L2 M
section
variable (K : PySem.W.Frag)
def spLW (n : Nat) : Sp := fun vs H Q _ => ∃ l v, vs = [v] ∧ LastV K H l v ∧ (∀ r, l = some r → ok r) ∧ lastDp l < n ∧ lastSz l ≤ 10 ∧ ∀ D H', Same H H' → H D = none → H' D = some (.lst (sV (lastW l))) → Q (.ref D) H'
def spGW : Sp := fun vs H Q _ => ∃ g v, vs = [v] ∧ GmV K H g v ∧ GmOk g ∧ ∀ D H', Same H H' → H D = none → H' D = some (.lst (sV (wordsG g))) → Q (.ref D) H'
end
section
variable {P : Program} {w : World} {K : PySem.W.Frag} {mg : Str → Option Value} {base : Heap} {ns : List Int} {k : Nat}
theorem same_no {H H' : Hp} {p : Addr} (S : Same H H') (h : H' p = none) : H p = none := by
  cases e : H p with
  | none => rfl
  | some o => rw [S _ _ e] at h; cases h
theorem ok_law_rule_words {n : Nat} (F : Df K mg "_law_rule_words" s_law_rule_words ["_law_rule_here"]) (m_str : mg "str" = none) (d_law_rule_words : Dn P w K mg base k "_law_rule_words" ["_law_rule_here"] (spLW K n)) : Dn P w K mg base (k + 1) "_law_rule_words" ["_law_rule_here"] (spLW K (n + 1)) := by
  refine F.ok sc_law_rule_words (fun vs H Q E h => ?_) (fun f cdv A outer s H vs Q E hr h => ?_)
  · obtain ⟨d, v, rfl, _⟩ := h; rfl
  obtain ⟨l0, v, rfl, hd, hok, hn, hsz, q⟩ := h
  refine ⟨_, [some _, none], 
      (@pss_cons _ _ _ _ _ (@ps_if _ _ _ _ _ _ _ _ (@pt_cmpR _ _ _ _ _ _ _ _ op_isNS (@pv _ 0 _ _ (by rfl) (by first | exact Or.inl rfl | exact Or.inr (Or.inl rfl) | exact Or.inr (Or.inr rfl)) (by decide) (by decide)) (@pe_non _ _ _) (nomark _)) (@pss_one _ _ _ (@ps_ret _ _ _ _ (@pe_lst _ _ _ _ (@pa_u _ _ _ _ _ (@pe_str _ _ _ _) (@pa_nil _) (by rfl))))) (@pss_nil _)) 
      (@pss_cons _ _ _ _ _ (@ps_if _ _ _ _ _ _ _ _ (@pt_cmpR _ _ _ _ _ _ _ _ (op_eqD hr) (@pv _ 0 _ _ (by rfl) (by first | exact Or.inl rfl | exact Or.inr (Or.inl rfl) | exact Or.inr (Or.inr rfl)) (by decide) (by decide)) (@pe_tup _ _ _ _ _ (@pa_u _ _ _ _ _ (@pe_str _ _ _ _) (@pa_nil _) (by rfl))) (nomark _)) (@pss_one _ _ _ (@ps_ret _ _ _ _ (@pe_lst _ _ _ _ (@pa_u _ _ _ _ _ (@pe_str _ _ _ _) (@pa_nil _) (by rfl))))) (@pss_nil _)) 
      (@pss_cons _ _ _ _ _ (@ps_set _ _ 1 _ _ _ _ sc_law_rule_words.nd rfl (Or.inl rfl) (@pe_lst _ _ _ _ (@pa_u _ _ _ _ _ (@pe_str _ _ _ _) (@pa_u _ _ _ _ _ (@pe_callTu _ _ _ _ _ _ _ _ _ call_strI rfl m_str bt_str (@pa_u _ _ _ _ _ (@pe_ix _ _ _ _ _ _ _ ix_tup (@pv _ 0 _ _ (by rfl) (by first | exact Or.inl rfl | exact Or.inr (Or.inl rfl) | exact Or.inr (Or.inr rfl)) (by decide) (by decide)) (@pe_int _ _ _ _) (fun _ _ => rfl)) (@pa_nil _) (by rfl)) (by rfl) (by decide) (by decide)) (@pa_u _ _ _ _ _ (@pe_callTu _ _ _ _ _ _ _ _ _ call_strI rfl m_str bt_str (@pa_u _ _ _ _ _ (@pe_ix _ _ _ _ _ _ _ ix_tup (@pv _ 0 _ _ (by rfl) (by first | exact Or.inl rfl | exact Or.inr (Or.inl rfl) | exact Or.inr (Or.inr rfl)) (by decide) (by decide)) (@pe_int _ _ _ _) (fun _ _ => rfl)) (@pa_nil _) (by rfl)) (by rfl) (by decide) (by decide)) (@pa_nil _) (by rfl)) (by rfl)) (by rfl))) (by rfl) (by first | exact .inl rfl | exact .inr rfl | assumption)) 
      (@pss_cut _ _ _ _ _ (@ps_expr _ _ _ _ (@pe_bm _ _ _ _ _ _ _ _ _ _ _ _ PySem.F.plainAttrs_list PySem.F.slot_list_append PySem.F.type_list_append mt_append (@pv _ 1 _ _ (by rfl) (by first | exact Or.inl rfl | exact Or.inr (Or.inl rfl) | exact Or.inr (Or.inr rfl)) (by decide) (by decide)) (@pa_u _ _ _ _ _ (@pe_ifExp _ _ _ _ _ _ _ _ (@pt_cmpR _ _ _ _ _ _ _ _ op_isNS (@pe_ix _ _ _ _ _ _ _ ix_tup (@pv _ 0 _ _ (by rfl) (by first | exact Or.inl rfl | exact Or.inr (Or.inl rfl) | exact Or.inr (Or.inr rfl)) (by decide) (by decide)) (@pe_int _ _ _ _) (fun _ _ => rfl)) (@pe_non _ _ _) (nomark _)) (@pe_str _ _ _ _) (@pe_callTu _ _ _ _ _ _ _ _ _ call_strI rfl m_str bt_str (@pa_u _ _ _ _ _ (@pe_ix _ _ _ _ _ _ _ ix_tup (@pv _ 0 _ _ (by rfl) (by first | exact Or.inl rfl | exact Or.inr (Or.inl rfl) | exact Or.inr (Or.inr rfl)) (by decide) (by decide)) (@pe_int _ _ _ _) (fun _ _ => rfl)) (@pa_nil _) (by rfl)) (by rfl) (by decide) (by decide))) (@pa_nil _) (by rfl)) (by rfl) (by rfl) (by rfl) (by rfl) (by rfl)) (by rfl)) (@pss_one _ _ _ (@ps_ret _ _ _ _ (@pe_op _ _ _ _ _ _ _ _ op_cat (@pe_op _ _ _ _ _ _ _ _ op_cat (@pv _ 1 _ _ (by rfl) (by first | exact Or.inl rfl | exact Or.inr (Or.inl rfl) | exact Or.inr (Or.inr rfl)) (by decide) (by decide)) (@pe_callD _ _ _ _ _ _ _ _ _ _ d_law_rule_words hr rfl (@pa_u _ _ _ _ _ (@pe_ix _ _ _ _ _ _ _ ix_tup (@pv _ 0 _ _ (by rfl) (by first | exact Or.inl rfl | exact Or.inr (Or.inl rfl) | exact Or.inr (Or.inr rfl)) (by decide) (by decide)) (@pe_int _ _ _ _) (fun _ _ => rfl)) (@pa_nil _) (by rfl)) (by rfl) (by decide))) (@pe_callD _ _ _ _ _ _ _ _ _ _ d_law_rule_words hr rfl (@pa_u _ _ _ _ _ (@pe_ix _ _ _ _ _ _ _ ix_tup (@pv _ 0 _ _ (by rfl) (by first | exact Or.inl rfl | exact Or.inr (Or.inl rfl) | exact Or.inr (Or.inr rfl)) (by decide) (by decide)) (@pe_int _ _ _ _) (fun _ _ => rfl)) (@pa_nil _) (by rfl)) (by rfl) (by decide))))))))), rfl, ?_⟩
  walk_at "cl"
  cases l0 with
  | none =>
    walk_at "st"
    rw [if_pos hd.no]
    exact ⟨small6 (by simp), fun p hp => q p _ (same_new hp _) hp upd_same⟩
  | some rl =>
    have hne0 := hd.yes
    replace hd : RlV K H rl v := hd
    have okr := hok _ rfl
    replace hn : depth rl < n + 1 := hn
    replace hsz : size rl ≤ 10 := hsz
    walk_at "st"
    rw [if_neg hne0]
    walk_at "st"
    refine ⟨small6 (by simp), fun pp hpp => ?_⟩
    have S0 := same_new hpp (.tup [V.str "point"])
    have hpp0 : (upd H pp (.tup [V.str "point"])) pp = some (.tup [V.str "point"]) := upd_same
    have q0 : ∀ D H', Same (upd H pp (.tup [V.str "point"])) H' → (upd H pp (.tup [V.str "point"])) D = none → H' D = some (.lst (sV (words rl))) → Q (.ref D) H' := fun D H' S hD hD' => q D H' (S0.trans S) (by
      by_cases e : D = pp
      · subst e; exact hpp
      · rwa [upd_ne e] at hD) hD'
    replace hd := hd.same S0
    generalize upd H pp (.tup [V.str "point"]) = H0 at S0 hpp0 q0 hd ⊢
    refine eqF_of (t := 0) hd (pt_dt (.of hpp0)) (depR dep_pt) ?_
    walk_at "rd"
    refine ite2 (fun c => ?_) (fun c => ?_)
    · rw [eqv_enc_pt] at c
      subst c
      exact ⟨small6 (by simp), fun p hp => q0 p _ (same_new hp _) hp upd_same⟩
    have hne : rl ≠ .pt := fun z => c ((eqv_enc_pt rl).mpr z)
    obtain ⟨to, lead, cap, i, l, W⟩ := vw_of okr hne
    obtain ⟨a, v4, v5, rfl, hs, hi, hl⟩ := rl_tup hd W
    have hwl := words_len rl
    have hww := congrArg List.length W.words
    simp only [List.length_append, List.length_cons, List.length_nil] at hww
    have hdd := W.depth
    have hss := W.size
    walk_at "st"
    refine ⟨_, hs, _, rfl, strI_of (log_small W.hto) ?_⟩
    walk_at "rd"
    refine ⟨_, hs, _, rfl, strI_of (log_small W.hlead) ?_⟩
    walk_at "rd"
    refine ⟨small6 (by simp), fun p hp => ?_⟩
    have S1 := same_new hp (.lst [V.str "unit", V.str (numS to), V.str (numS lead)])
    have hp1 : (upd H0 p (.lst [V.str "unit", V.str (numS to), V.str (numS lead)])) p = some (.lst (sV [wUnit, numS to, numS lead])) := upd_same
    generalize upd H0 p (.lst [V.str "unit", V.str (numS to), V.str (numS lead)]) = H1 at S1 hp1 ⊢
    refine r_cut (fun σ' H' => σ' = [some (.ref a), some (.ref p)] ∧ Same H0 H' ∧ H' p = some (.lst (sV ([wUnit, numS to, numS lead] ++ [capS cap])))) (fun M hM => ?_) ?_
    · walk_at "rd"
      refine ⟨.inl ⟨rfl, _, .of hp1⟩, _, Same.sqT hs S1, _, rfl, ?_⟩
      walk_at "rd"
      cases cap with
      | none =>
        rw [if_pos (show optI none = V.non from rfl)]
        exact ⟨p, _, _, rfl, rfl, hp1, small1000 (by simp [sV]), hM _ _ ⟨rfl, Same.at S1 hp, upd_same⟩⟩
      | some c =>
        rw [if_neg (by intro h; cases h)]
        refine ⟨_, Same.sqT hs S1, _, rfl, strI_of (log_small (Bd.one W.hto.1 W.hcap)) ?_⟩
        exact ⟨p, _, _, rfl, rfl, hp1, small1000 (by simp [sV]), hM _ _ ⟨rfl, Same.at S1 hp, upd_same⟩⟩
    · rintro _ H2 ⟨rfl, S2, hp2⟩
      walk_at "rd"
      refine ⟨_, Same.sqT hs S2, _, rfl, some i, v4, rfl, hi.same S2, (fun r e => by cases e; exact W.hi), (show depth i < n by omega), (show size i ≤ 10 by omega), fun D H3 S3 hD hD' => ?_⟩
      replace hD' : H3 D = some (.lst (sV (words i))) := hD'
      refine cat_of (S3 _ _ hp2) hD' (smallA (by simp only [List.length_append, sV_len, List.length_cons, List.length_nil]; omega)) fun p4 hp4 => ?_
      rw [sV_app]
      have S4 := (S2.trans S3).trans (same_new hp4 (.lst (sV ([wUnit, numS to, numS lead] ++ [capS cap] ++ words i))))
      have hp4' : (upd H3 p4 (.lst (sV ([wUnit, numS to, numS lead] ++ [capS cap] ++ words i)))) p4 = some (.lst (sV ([wUnit, numS to, numS lead] ++ [capS cap] ++ words i))) := upd_same
      generalize upd H3 p4 (.lst (sV ([wUnit, numS to, numS lead] ++ [capS cap] ++ words i))) = H4 at S4 hp4' ⊢
      walk_at "rd"
      refine ⟨_, Same.sqT hs S4, _, rfl, l, v5, rfl, hl.same S4, W.hl, by omega, by omega, fun D5 H5 S5 hD5 hD5' => ?_⟩
      refine cat_of (S5 _ _ hp4') hD5' (smallA (by simp only [List.length_append, sV_len, List.length_cons, List.length_nil]; omega)) fun p6 hp6 => ?_
      rw [sV_app]
      refine q0 _ _ ((S4.trans S5).trans (same_new hp6 _)) (same_no (S4.trans S5) hp6) ?_
      rw [upd_same, W.words]
      rfl
theorem all_law_rule_words {n : Nat} (F : Df K mg "_law_rule_words" s_law_rule_words ["_law_rule_here"]) (m_str : mg "str" = none) : Dn P w K mg base (k + n) "_law_rule_words" ["_law_rule_here"] (spLW K n) := by
  induction n with
  | zero => exact F.void fun vs H Q E ⟨_, _, _, _, _, h, _⟩ => by omega
  | succ n ih => exact ok_law_rule_words F m_str ih
theorem ok_law_game_words (F : Df K mg "_law_game_words" s_law_game_words ["_law_game_here"]) (m_str : mg "str" = none) (m_int : mg "int" = none) (d_law_rule_words : Dn P w K mg base k "_law_rule_words" ["_law_rule_here"] (spLW K 5)) : Dn P w K mg base (k + 1) "_law_game_words" ["_law_game_here"] (spGW K) := by
  refine F.ok sc_law_game_words (fun vs H Q E h => ?_) (fun f cdv A outer s H vs Q E hr h => ?_)
  · obtain ⟨g, v, rfl, _⟩ := h; rfl
  obtain ⟨g, v, rfl, hg, ho, q⟩ := h
  refine ⟨_, [some _, none, none, none, none], 
      (@pss_cons _ _ _ _ _ (@ps_if _ _ _ _ _ _ _ _ (@pt_cmpR _ _ _ _ _ _ _ _ op_eq (@pe_ix _ _ _ _ _ _ _ ix_tup (@pv _ 0 _ _ (by rfl) (by first | exact Or.inl rfl | exact Or.inr (Or.inl rfl) | exact Or.inr (Or.inr rfl)) (by decide) (by decide)) (@pe_int _ _ _ _) (fun _ _ => rfl)) (@pe_str _ _ _ _) (nomark _)) (@pss_one _ _ _ (@ps_ret _ _ _ _ (@pe_op _ _ _ _ _ _ _ _ op_cat (@pe_lst _ _ _ _ (@pa_u _ _ _ _ _ (@pe_str _ _ _ _) (@pa_nil _) (by rfl))) (@pe_callD _ _ _ _ _ _ _ _ _ _ d_law_rule_words hr rfl (@pa_u _ _ _ _ _ (@pe_ix _ _ _ _ _ _ _ ix_tup (@pv _ 0 _ _ (by rfl) (by first | exact Or.inl rfl | exact Or.inr (Or.inl rfl) | exact Or.inr (Or.inr rfl)) (by decide) (by decide)) (@pe_int _ _ _ _) (fun _ _ => rfl)) (@pa_nil _) (by rfl)) (by rfl) (by decide))))) (@pss_nil _)) 
      (@pss_cons _ _ _ _ _ (@ps_set _ _ 1 _ _ _ _ sc_law_game_words.nd rfl (Or.inl rfl) (@pe_op _ _ _ _ _ _ _ _ op_cat (@pe_lst _ _ _ _ (@pa_u _ _ _ _ _ (@pe_ix _ _ _ _ _ _ _ ix_tup (@pv _ 0 _ _ (by rfl) (by first | exact Or.inl rfl | exact Or.inr (Or.inl rfl) | exact Or.inr (Or.inr rfl)) (by decide) (by decide)) (@pe_int _ _ _ _) (fun _ _ => rfl)) (@pa_nil _) (by rfl))) (@pe_comp _ _ _ _ _ _ _ _ _ _ _ _ _ rfl (compPlain (N := ["_law_game_here", "_law_words", "_law_name", "_law_worth", "_law_ends"]) rfl (by decide +kernel) rfl) (@pi_tup _ _ _ _ (@pe_slice _ _ _ _ _ _ _ _ _ _ slA_tup (@pe_ix _ _ _ _ _ _ _ ix_tup (@pv _ 0 _ _ (by rfl) (by first | exact Or.inl rfl | exact Or.inr (Or.inl rfl) | exact Or.inr (Or.inr rfl)) (by decide) (by decide)) (@pe_int _ _ _ _) (fun _ _ => rfl)) (@po_none _) (@po_some _ _ _ (@pe_int _ _ _ _)))) (fun _ _ _ _ => (@pts_nil _)) (fun _ _ _ _ => (@pe_callTu _ _ _ _ _ _ _ _ _ call_strI rfl m_str bt_str (@pa_u _ _ _ _ _ (@pv _ 0 _ _ (by rfl) (by first | exact Or.inl rfl | exact Or.inr (Or.inl rfl) | exact Or.inr (Or.inr rfl)) (by decide) (by decide)) (@pa_nil _) (by rfl)) (by rfl) (by decide) (by decide))) (by intro _; rfl))) (by rfl) (by first | exact .inl rfl | exact .inr rfl | assumption)) 
      (@pss_cut _ _ _ _ _ (@ps_if _ _ _ _ _ _ _ _ (@pt_cmpR _ _ _ _ _ _ _ _ op_eq (@pe_ix _ _ _ _ _ _ _ ix_tup (@pv _ 0 _ _ (by rfl) (by first | exact Or.inl rfl | exact Or.inr (Or.inl rfl) | exact Or.inr (Or.inr rfl)) (by decide) (by decide)) (@pe_int _ _ _ _) (fun _ _ => rfl)) (@pe_str _ _ _ _) (nomark _)) (@pss_one _ _ _ (@ps_for _ _ _ _ _ _ _ _ PassesOwn.never rfl (@pi_tup _ _ _ _ (@pe_ix _ _ _ _ _ _ _ ix_tup (@pe_ix _ _ _ _ _ _ _ ix_tup (@pv _ 0 _ _ (by rfl) (by first | exact Or.inl rfl | exact Or.inr (Or.inl rfl) | exact Or.inr (Or.inr rfl)) (by decide) (by decide)) (@pe_int _ _ _ _) (fun _ _ => rfl)) (@pe_int _ _ _ _) (fun _ _ => rfl))) (@pg_tup _ _ _ _ _ _ rfl (@pgs_cons _ _ _ _ _ (@pg_name _ _ 2 _ sc_law_game_words.nd rfl (Or.inl rfl) (by first | exact .inl rfl | exact .inr rfl | assumption)) (@pgs_cons _ _ _ _ _ (@pg_name _ _ 3 _ sc_law_game_words.nd rfl (Or.inl rfl) (by first | exact .inl rfl | exact .inr rfl | assumption)) (@pgs_cons _ _ _ _ _ (@pg_name _ _ 4 _ sc_law_game_words.nd rfl (Or.inl rfl) (by first | exact .inl rfl | exact .inr rfl | assumption)) (@pgs_nil _) (by rfl)) (by rfl)) (by rfl)) (by rfl) (by rfl)) (@pss_one _ _ _ (@ps_expr _ _ _ _ (@pe_bm _ _ _ _ _ _ _ _ _ _ _ _ PySem.F.plainAttrs_list PySem.F.slot_list_append PySem.F.type_list_append mt_append (@pv _ 1 _ _ (by rfl) (by first | exact Or.inl rfl | exact Or.inr (Or.inl rfl) | exact Or.inr (Or.inr rfl)) (by decide) (by decide)) (@pa_u _ _ _ _ _ (@pe_op _ _ _ _ _ _ _ _ op_addS (@pe_op _ _ _ _ _ _ _ _ op_addS (@pe_op _ _ _ _ _ _ _ _ op_addS (@pv _ 2 _ _ (by rfl) (by first | exact Or.inl rfl | exact Or.inr (Or.inl rfl) | exact Or.inr (Or.inr rfl)) (by decide) (by decide)) (@pe_str _ _ _ _)) (@pe_callTu _ _ _ _ _ _ _ _ _ call_strI rfl m_str bt_str (@pa_u _ _ _ _ _ (@pv _ 3 _ _ (by rfl) (by first | exact Or.inl rfl | exact Or.inr (Or.inl rfl) | exact Or.inr (Or.inr rfl)) (by decide) (by decide)) (@pa_nil _) (by rfl)) (by rfl) (by decide) (by decide))) (@pe_ix _ _ _ _ _ _ _ ix_list (@pe_lst _ _ _ _ (@pa_u _ _ _ _ _ (@pe_str _ _ _ _) (@pa_u _ _ _ _ _ (@pe_str _ _ _ _) (@pa_nil _) (by rfl)) (by rfl))) (@pe_callTu _ _ _ _ _ _ _ _ _ call_int1 rfl m_int bt_int (@pa_u _ _ _ _ _ (@pv _ 4 _ _ (by rfl) (by first | exact Or.inl rfl | exact Or.inr (Or.inl rfl) | exact Or.inr (Or.inr rfl)) (by decide) (by decide)) (@pa_nil _) (by rfl)) (by rfl) (by decide) (by decide)) (fun _ _ => rfl))) (@pa_nil _) (by rfl)) (by rfl) (by rfl) (by rfl) (by rfl) (by rfl)) (by rfl))) (by intro _; rfl))) (@pss_nil _)) (@pss_one _ _ _ (@ps_ret _ _ _ _ (@pv _ 1 _ _ (by rfl) (by first | exact Or.inl rfl | exact Or.inr (Or.inl rfl) | exact Or.inr (Or.inr rfl)) (by decide) (by decide))))))), rfl, ?_⟩
  walk_at "cl"
  obtain ⟨a, rv, rfl, hga, hru⟩ := hg
  walk_at "st"
  refine ⟨_, hga, _, atI_nat (j := 0) rfl, ?_⟩
  walk_at "rd"
  cases g with
  | ral rl =>
    rw [if_pos (show (Gm.ral rl).word = Str.ofString "rally" from rfl)]
    refine ⟨small6 (by simp), fun p hp => ?_⟩
    have S1 := same_new hp (.lst [V.str "rally"])
    have hp1 : (upd H p (.lst [V.str "rally"])) p = some (.lst (sV [wRally])) := upd_same
    generalize upd H p (.lst [V.str "rally"]) = H1 at S1 hp1 ⊢
    have hwl := words_len rl
    have h7 := ho.2.2
    refine ⟨_, Same.sqT hga S1, _, atI_nat (j := 1) rfl, some rl, rv, rfl, LastV.same (show LastV K H (some rl) rv from hru) S1, (fun r e => by cases e; exact ho.1), (show depth rl < 5 by have := ho.2.1; omega), (show size rl ≤ 10 by omega), fun D H2 S2 hD hD' => ?_⟩
    replace hD' : H2 D = some (.lst (sV (words rl))) := hD'
    refine cat_of (S2 _ _ hp1) hD' (smallA (by simp only [sV_len, List.length_cons, List.length_nil]; omega)) fun c hc => ?_
    exact q _ _ ((S1.trans S2).trans (same_new hc _)) (same_no (S1.trans S2) hc) upd_same
  | dn n b tr ths =>
    rw [if_neg Gm.dn_ral]
    obtain ⟨da, rfl, ta, us, hda, hta, htl⟩ := hru
    have hd := ho.1
    have := hd.n3; have := hd.b1; have := hd.b2; have := hd.t1; have := hd.t3; have := hd.l2
    have hul := htl.len
    walk_at "st"
    refine ⟨_, hga, _, atI_nat (j := 0) rfl, small6 (by simp), fun p hp => ?_⟩
    have S1 := same_new hp (.lst [V.str (Gm.dn n b tr ths).word])
    have hp1 : (upd H p (.lst [V.str (Gm.dn n b tr ths).word])) p = some (.lst [V.str (Gm.dn n b tr ths).word]) := upd_same
    generalize upd H p (.lst [V.str (Gm.dn n b tr ths).word]) = H1 at S1 hp1 ⊢
    refine comp_preT ?_
    walk_at "rd"
    refine ⟨_, Same.sqT hga S1, _, atI_nat (j := 1) rfl, da, _, rfl, Same.sqT hda S1, fun c H2 S2 hc => ?_⟩
    refine comp_strs (is := [(n : Int), b, tr]) hc (by simp only [List.mem_cons, List.not_mem_nil, or_false]; rintro i (rfl | rfl | rfl) <;> omega) (by simp) fun D H3 S3 hD hD3 => ?_
    refine cat_of (S3 _ _ (S2 _ _ hp1)) hD3 (Nat.le_of_lt (small1000 (by simp))) fun l hl => ?_
    have S0 := (S1.trans S2).trans S3
    have hl0 := same_no S0 hl
    have S4 := S0.trans (same_new hl (.lst ([V.str (Gm.dn n b tr ths).word] ++ List.map V.str (List.map numS [(n : Int), b, tr]))))
    have hl4 : (upd H3 l (.lst ([V.str (Gm.dn n b tr ths).word] ++ List.map V.str (List.map numS [(n : Int), b, tr])))) l = some (.lst (sV [wDown, numS n, numS b, numS tr])) := upd_same
    generalize upd H3 l (.lst ([V.str (Gm.dn n b tr ths).word] ++ List.map V.str (List.map numS [(n : Int), b, tr]))) = H4 at S4 hl4 ⊢
    walk_at "rd"
    refine r_cut (fun σ' H' => ∃ x y z : Option V, σ' = [some (V.ref a), some (V.ref l), x, y, z] ∧ Same H H' ∧ H' l = some (.lst (sV (wordsG (.dn n b tr ths))))) (fun M' hM => ?_) ?_
    · walk_at "rd"
      refine ⟨_, Same.sqT hga S4, _, atI_nat (j := 0) rfl, ?_⟩
      walk_at "rd"
      rw [if_pos (show (Gm.dn n b tr ths).word = Str.ofString "down" from rfl)]
      walk_at "rd"
      refine ⟨_, Same.sqT hga S4, _, atI_nat (j := 1) rfl, ?_⟩
      walk_at "rd"
      refine ⟨_, Same.sqT hda S4, _, atI_nat (j := 3) rfl, ?_⟩
      refine ⟨_, rfl, ⟨_, Same.sqT hta S4⟩, tup_of (xs := us) (fun i σ' H' => ∃ x y z : Option V, σ' = [some (V.ref a), some (V.ref l), x, y, z] ∧ Same H H' ∧ H' l = some (.lst (sV ([wDown, numS n, numS b, numS tr] ++ (ths.take i).map thW)))) ⟨none, none, none, rfl, S4, hl4⟩ ?_ ?_ ?_⟩
      · rintro i σ' H5 _ ⟨x, y, z, _, S5, _⟩
        exact Same.sqT hta S5
      · rintro Pw hP i v σ' H5 hv ⟨x, y, z, rfl, S5, hl5⟩
        have hi : i < ths.length := by rw [hul]; exact (List.getElem?_eq_some_iff.mp hv).1
        have hit : ths[i]? = some ths[i] := List.getElem?_eq_getElem hi
        have ht := hd.ok _ (List.getElem_mem hi)
        obtain ⟨v', hv', hvt⟩ := htl.at hit
        rw [hv] at hv'
        cases hv'
        obtain ⟨va, rfl, hvs, _⟩ := th_inv (hvt.same S5)
        generalize ths[i] = t at *
        walk_at "rd"
        refine ⟨_, _, rfl, hvs, rfl, ?_⟩
        walk_at "rd"
        have ht : ThOk t := ht
        have hlP := thP_len ht
        have hlW := thW_len ht
        have hnl := nm_len ht
        have e1 : (Str.ofString ":").length = 1 := by decide +kernel
        have hc : (t.nm ++ Str.ofString ":").length ≤ 20 := by rw [app_len, e1]; omega
        refine ⟨.inl ⟨rfl, _, .of hl5⟩, Nat.le_of_lt (small1000 (by omega)), strI_of (num_log ht.2.2.1 (by have := ht.2.2.2; omega)) ⟨_, _, rfl, rfl, Nat.le_of_lt (small1000 (by rw [← app_len]; exact Nat.le_trans hlP (by decide))), small6 (by simp), fun p6 hp6 => .inr ⟨_, rfl, ?_⟩⟩⟩
        have S6 := same_new hp6 (.lst [V.str (Str.ofString ""), V.str (Str.ofString "!")])
        have hp6' : (upd H5 p6 (.lst [V.str (Str.ofString ""), V.str (Str.ofString "!")])) p6 = some (.lst [V.str (Str.ofString ""), V.str (Str.ofString "!")]) := upd_same
        generalize upd H5 p6 (.lst [V.str (Str.ofString ""), V.str (Str.ofString "!")]) = H6 at S6 hp6' ⊢
        refine ⟨_, .of hp6', V.str (if t.en then wBang else Str.ofString ""), ?_, _, _, rfl, rfl, Nat.le_of_lt (small1000 (by rw [← app_len]; exact Nat.le_trans hlW (by decide))), ?_⟩
        · cases t.en
          · exact atI_nat (j := 0) rfl
          · exact atI_nat (j := 1) rfl
        refine ⟨l, _, _, rfl, rfl, S6 _ _ hl5, small1000 (by rw [sV_len]; simp; omega), hP _ _ _ ⟨_, _, _, rfl, Same.at (S5.trans S6) hl0, ?_⟩⟩
        rw [upd_same, List.take_succ, hit, List.map_append, ← List.append_assoc]
        exact congrArg (fun z => some (HO.lst z)) (sV_app _ [thW t])
      · rintro σ' H5 ⟨x, y, z, rfl, S5, hl5⟩
        rw [List.take_of_length_le (by omega)] at hl5
        exact hM _ _ ⟨_, _, _, rfl, S5, hl5⟩
    · rintro _ H5 ⟨x, y, z, rfl, S5, hl5⟩
      walk_at "rd"
      exact q _ _ S5 hl0 hl5
  | ln s p f =>
    rw [if_neg Gm.ln_ral]
    obtain ⟨la, rfl, hla⟩ := hru
    obtain ⟨⟨h1, h2⟩, ⟨h3, h4⟩, h5, h6⟩ := id ho
    walk_at "st"
    refine ⟨_, hga, _, atI_nat (j := 0) rfl, small6 (by simp), fun p' hp => ?_⟩
    have S1 := same_new hp (.lst [V.str (Gm.ln s p f).word])
    have hp1 : (upd H p' (.lst [V.str (Gm.ln s p f).word])) p' = some (.lst [V.str (Gm.ln s p f).word]) := upd_same
    generalize upd H p' (.lst [V.str (Gm.ln s p f).word]) = H1 at S1 hp1 ⊢
    refine comp_preT ?_
    walk_at "rd"
    refine ⟨_, Same.sqT hga S1, _, atI_nat (j := 1) rfl, la, _, rfl, Same.sqT hla S1, fun c H2 S2 hc => ?_⟩
    refine comp_strs (is := [(s : Int), p, f]) hc (by simp only [List.mem_cons, List.not_mem_nil, or_false]; rintro i (rfl | rfl | rfl) <;> omega) (by simp) fun D H3 S3 hD hD3 => ?_
    refine cat_of (S3 _ _ (S2 _ _ hp1)) hD3 (Nat.le_of_lt (small1000 (by simp))) fun l hl => ?_
    have S0 := (S1.trans S2).trans S3
    have hl0 := same_no S0 hl
    have S4 := S0.trans (same_new hl (.lst ([V.str (Gm.ln s p f).word] ++ List.map V.str (List.map numS [(s : Int), p, f]))))
    have hl4 : (upd H3 l (.lst ([V.str (Gm.ln s p f).word] ++ List.map V.str (List.map numS [(s : Int), p, f])))) l = some (.lst (sV (wordsG (.ln s p f)))) := upd_same
    generalize upd H3 l (.lst ([V.str (Gm.ln s p f).word] ++ List.map V.str (List.map numS [(s : Int), p, f]))) = H4 at S4 hl4 ⊢
    walk_at "rd"
    refine r_cut (fun σ' H' => ∃ x y z : Option V, σ' = [some (V.ref a), some (V.ref l), x, y, z] ∧ Same H H' ∧ H' l = some (.lst (sV (wordsG (.ln s p f))))) (fun M' hM => ?_) ?_
    · walk_at "rd"
      refine ⟨_, Same.sqT hga S4, _, atI_nat (j := 0) rfl, ?_⟩
      walk_at "rd"
      rw [if_neg Gm.ln_dn]
      walk_at "rd"
      exact hM _ _ ⟨_, _, _, rfl, S4, hl4⟩
    · rintro _ H5 ⟨x, y, z, rfl, S5, hl5⟩
      walk_at "rd"
      exact q _ _ S5 hl0 hl5
end
end My
namespace My
open PySem L2 M
theorem strOk_of {x : Str} (h : ∀ c ∈ x.cps.toList, c < 128) : PyData.strOk x = true := by
  unfold PyData.strOk
  rw [Array.all_eq_true_iff_forall_mem]
  intro c hc
  exact decide_eq_true (by have := h c (by simpa using hc); omega)
theorem join_ascii : ∀ {ws : List Str}, (∀ x ∈ ws, ∀ c ∈ x.cps.toList, c < 128) → ∀ c ∈ (Str.join blank ws).cps.toList, c < 128
  | [], _, c, h => by simp [Str.join, Str.empty] at h
  | [x], hw, c, h => hw x (List.mem_cons_self ..) c h
  | x :: y :: r, hw, c, h => by
    have e : Str.join blank (x :: y :: r) = x ++ blank ++ Str.join blank (y :: r) := rfl
    rw [e, cps_app, cps_app, List.mem_append, List.mem_append] at h
    rcases h with (h | h) | h
    · exact hw x (List.mem_cons_self ..) c h
    · simp [blank] at h; omega
    · exact join_ascii (fun z hz => hw z (List.mem_cons_of_mem _ hz)) c h
theorem num_ascii {i : Int} (h : Bd 1 i) : ∀ c ∈ (numS i).cps.toList, c < 128 := fun c hc => by have := (num_facts h).2.1 c hc; omega
theorem lit_ascii {x : Str} (h : x.cps.toList.all (fun c => decide (c < 128)) = true) : ∀ c ∈ x.cps.toList, c < 128 := fun c hc => of_decide_eq_true (List.all_eq_true.mp h c hc)
theorem words_ascii : ∀ {r : Rl}, ok r → ∀ x ∈ words r, ∀ c ∈ x.cps.toList, c < 128
  | .pt, _, x, h => by simp only [words, List.mem_singleton] at h; subst h; exact lit_ascii (by decide +kernel)
  | .un to lead cap i, ⟨h1, h2, h3, h4⟩, x, h => by
    simp only [words, List.mem_append, List.mem_cons, List.not_mem_nil, or_false] at h
    rcases h with ((rfl | rfl | rfl | rfl) | h) | rfl
    · exact lit_ascii (by decide +kernel)
    · exact num_ascii h1
    · exact num_ascii h2
    · cases cap with
      | none => exact lit_ascii (by decide +kernel)
      | some c => exact num_ascii (Bd.one h1.1 h3)
    · exact words_ascii h4 x h
    · exact lit_ascii (by decide +kernel)
  | .ul to lead cap i l, ⟨h1, h2, h3, h4, h5⟩, x, h => by
    simp only [words, List.mem_append, List.mem_cons, List.not_mem_nil, or_false] at h
    rcases h with ((rfl | rfl | rfl | rfl) | h) | h
    · exact lit_ascii (by decide +kernel)
    · exact num_ascii h1
    · exact num_ascii h2
    · exact num_ascii (Bd.one h1.1 h3)
    · exact words_ascii h4 x h
    · exact words_ascii h5 x h
theorem thW_ascii {t : Th} (h : ThOk t) : ∀ c ∈ (thW t).cps.toList, c < 128 := fun c hc => by
  rw [thW, cps_app, List.mem_append] at hc
  rcases hc with hc | hc
  · have := thP_free h c hc; omega
  · revert hc
    cases t.en
    · exact lit_ascii (x := Str.ofString "") (by decide +kernel) c
    · exact lit_ascii (x := wBang) (by decide +kernel) c
theorem wordsG_ascii {g : Gm} (h : GmOk g) : ∀ x ∈ wordsG g, ∀ c ∈ x.cps.toList, c < 128 := fun x hx => by
  cases g with
  | ral rl =>
    simp only [wordsG, List.mem_cons] at hx
    rcases hx with rfl | hx
    · exact lit_ascii (by decide +kernel)
    · exact words_ascii h.1 x hx
  | dn n b tr ths =>
    have hd := h.1
    have := hd.b1; have := hd.t1
    simp only [wordsG, List.mem_append, List.mem_cons, List.not_mem_nil, or_false, List.mem_map] at hx
    rcases hx with (rfl | rfl | rfl | rfl) | ⟨t, ht, rfl⟩
    · exact lit_ascii (by decide +kernel)
    · exact num_asc (by omega)
    · exact num_asc (by omega)
    · exact num_asc (by omega)
    · exact thW_ascii (hd.ok t ht)
  | ln s p f =>
    obtain ⟨⟨h1, h2⟩, ⟨h3, h4⟩, h5, h6⟩ := h
    simp only [wordsG, List.mem_cons, List.not_mem_nil, or_false] at hx
    rcases hx with rfl | rfl | rfl | rfl
    · exact lit_ascii (by decide +kernel)
    · exact num_asc (by omega)
    · exact num_asc (by omega)
    · exact num_asc (by omega)
theorem textG_ok {g : Gm} (h : GmOk g) : PyData.strOk (textG g) = true := strOk_of (join_ascii (wordsG_ascii h))
theorem fl2_enc : ∀ r : Rl, fl2 (enc r) = true
  | .pt => by simp [enc, fl2, fls2]
  | .un to lead cap i => by
    have := fl2_enc i
    cases cap <;> simp [enc, unitD, capD, fl2, fls2, this]
  | .ul to lead cap i l => by
    have h1 := fl2_enc i
    have h2 := fl2_enc l
    simp [enc, unitD, capD, fl2, fls2, h1, h2]
theorem fls2_encT : ∀ ths : List Th, fls2 (ths.map encT) = true
  | [] => rfl
  | t :: ths => by
    have := fls2_encT ths
    simp [encT, fl2, fls2, this]
theorem fl2_encG {g : Gm} (h : GmOk g) : fl2 (encG g) = true := by
  cases g with
  | ral rl => simp [encG, Gm.rule, fl2, fls2, fl2_enc rl]
  | dn n b tr ths => have := h.1.l2; simp [encG, Gm.rule, dwD, fl2, fls2, fls2_encT]; omega
  | ln s p f => simp [encG, Gm.rule, lnD, fl2, fls2]
end My
namespace My
open PySem L2 M
section
variable {P : Program} {w : World} {K : PySem.W.Frag} {mg : Str → Option Value} {base : Heap} {ns : List Int} {k : Nat}
theorem ok_law {fa : Addr} {fd : FuncData} (F : Fun K "law" "law" s_law fa fd) (d_law_tape : ∀ ns, Dn P w K mg base k "_law_tape" ["_law_script"] (spTape K ns)) (d_law_game : ∀ ns, Dn P w K mg base k "_law_game" ["_law_tape_here"] (spGame K ns)) (d_law_game_words : Dn P w K mg base k "_law_game_words" ["_law_game_here"] (spGW K)) (d_show_game : Dn P w K mg base k "show_game" ["game"] (spShowG K)) (d_read_game : Dn P w K mg base k "read_game" ["text"] (spReadG K)) (d_law_alike : Dn P w K mg base k "_law_alike" ["_law_due", "_law_found"] (spAl2 K 20)) : FnOk P w K mg base CX0 (k + 1) fa fd ["_law_script"] (spLaw K) := by
  refine F.okS sc_law (fun vs H Q E h => ?_) (fun cdv A outer s H vs Q E hr h => ?_)
  · obtain ⟨a, ns, rfl, _⟩ := h; rfl
  obtain ⟨a, ns, rfl, hs, _, q⟩ := h
  replace d_law_tape := d_law_tape ns
  replace d_law_game := d_law_game ns
  refine ⟨_, [some _, none, none, none, none], 
      (@pss_cons _ _ _ _ _ (@ps_set _ _ 1 _ _ _ _ sc_law.nd rfl (Or.inl rfl) (@pe_callD _ _ _ _ _ _ _ _ _ _ d_law_tape hr rfl (@pa_u _ _ _ _ _ (@pv _ 0 _ _ (by rfl) (by first | exact Or.inl rfl | exact Or.inr (Or.inl rfl) | exact Or.inr (Or.inr rfl)) (by decide) (by decide)) (@pa_nil _) (by rfl)) (by rfl) (by decide)) (by rfl) (by first | exact .inl rfl | exact .inr rfl | assumption)) 
      (@pss_cons _ _ _ _ _ (@ps_set _ _ 2 _ _ _ _ sc_law.nd rfl (Or.inl rfl) (@pe_lst _ _ _ _ (@pa_u _ _ _ _ _ (@pe_callD _ _ _ _ _ _ _ _ _ _ d_law_game hr rfl (@pa_u _ _ _ _ _ (@pv _ 1 _ _ (by rfl) (by first | exact Or.inl rfl | exact Or.inr (Or.inl rfl) | exact Or.inr (Or.inr rfl)) (by decide) (by decide)) (@pa_nil _) (by rfl)) (by rfl) (by decide)) (@pa_u _ _ _ _ _ (@pe_callD _ _ _ _ _ _ _ _ _ _ d_law_game hr rfl (@pa_u _ _ _ _ _ (@pv _ 1 _ _ (by rfl) (by first | exact Or.inl rfl | exact Or.inr (Or.inl rfl) | exact Or.inr (Or.inr rfl)) (by decide) (by decide)) (@pa_nil _) (by rfl)) (by rfl) (by decide)) (@pa_nil _) (by rfl)) (by rfl))) (by rfl) (by first | exact .inl rfl | exact .inr rfl | assumption)) 
      (@pss_cons _ _ _ _ _ (@ps_for _ _ _ _ _ _ _ _ PassesOwn.never rfl (@pi_list _ _ _ _ (@pe_lst _ _ _ _ (@pa_u _ _ _ _ _ (@pe_int _ _ _ _) (@pa_u _ _ _ _ _ (@pe_int _ _ _ _) (@pa_u _ _ _ _ _ (@pe_int _ _ _ _) (@pa_u _ _ _ _ _ (@pe_int _ _ _ _) (@pa_nil _) (by rfl)) (by rfl)) (by rfl)) (by rfl)))) (@pg_name _ _ 3 _ sc_law.nd rfl (Or.inl rfl) (by first | exact .inl rfl | exact .inr rfl | assumption)) 
      (@pss_cons _ _ _ _ _ (@ps_set _ _ 4 _ _ _ _ sc_law.nd rfl (Or.inl rfl) (@pe_bm _ _ _ _ _ _ _ _ _ _ _ _ PySem.F.plainAttrs_str PySem.F.slot_str_join PySem.F.type_str_join mt_join (@pe_str _ _ _ _) (@pa_u _ _ _ _ _ (@pe_callD _ _ _ _ _ _ _ _ _ _ d_law_game_words hr rfl (@pa_u _ _ _ _ _ (@pe_ix _ _ _ _ _ _ _ ix_list (@pv _ 2 _ _ (by rfl) (by first | exact Or.inl rfl | exact Or.inr (Or.inl rfl) | exact Or.inr (Or.inr rfl)) (by decide) (by decide)) (@pv _ 3 _ _ (by rfl) (by first | exact Or.inl rfl | exact Or.inr (Or.inl rfl) | exact Or.inr (Or.inr rfl)) (by decide) (by decide)) (fun _ _ => rfl)) (@pa_nil _) (by rfl)) (by rfl) (by decide)) (@pa_nil _) (by rfl)) (by rfl) (by rfl) (by rfl) (by rfl) (by rfl)) (by rfl) (by first | exact .inl rfl | exact .inr rfl | assumption)) (@pss_one _ _ _ (@ps_if _ _ _ _ _ _ _ _ (@PW.pt _ _ _ (@pw_or _ _ _ _ _ _ _ (@pt_not _ _ _ _ (@pt_val _ _ _ (@pe_callD _ _ _ _ _ _ _ _ _ _ d_law_alike hr rfl (@pa_u _ _ _ _ _ (@pv _ 4 _ _ (by rfl) (by first | exact Or.inl rfl | exact Or.inr (Or.inl rfl) | exact Or.inr (Or.inr rfl)) (by decide) (by decide)) (@pa_u _ _ _ _ _ (@pe_callD _ _ _ _ _ _ _ _ _ _ d_show_game hr rfl (@pa_u _ _ _ _ _ (@pe_ix _ _ _ _ _ _ _ ix_list (@pv _ 2 _ _ (by rfl) (by first | exact Or.inl rfl | exact Or.inr (Or.inl rfl) | exact Or.inr (Or.inr rfl)) (by decide) (by decide)) (@pv _ 3 _ _ (by rfl) (by first | exact Or.inl rfl | exact Or.inr (Or.inl rfl) | exact Or.inr (Or.inr rfl)) (by decide) (by decide)) (fun _ _ => rfl)) (@pa_nil _) (by rfl)) (by rfl) (by decide)) (@pa_nil _) (by rfl)) (by rfl)) (by rfl) (by decide)) (by intro _; rfl))) (@pw_or1 _ _ _ _ (@pt_not _ _ _ _ (@pt_val _ _ _ (@pe_callD _ _ _ _ _ _ _ _ _ _ d_law_alike hr rfl (@pa_u _ _ _ _ _ (@pe_ix _ _ _ _ _ _ _ ix_list (@pv _ 2 _ _ (by rfl) (by first | exact Or.inl rfl | exact Or.inr (Or.inl rfl) | exact Or.inr (Or.inr rfl)) (by decide) (by decide)) (@pv _ 3 _ _ (by rfl) (by first | exact Or.inl rfl | exact Or.inr (Or.inl rfl) | exact Or.inr (Or.inr rfl)) (by decide) (by decide)) (fun _ _ => rfl)) (@pa_u _ _ _ _ _ (@pe_callD _ _ _ _ _ _ _ _ _ _ d_read_game hr rfl (@pa_u _ _ _ _ _ (@pv _ 4 _ _ (by rfl) (by first | exact Or.inl rfl | exact Or.inr (Or.inl rfl) | exact Or.inr (Or.inr rfl)) (by decide) (by decide)) (@pa_nil _) (by rfl)) (by rfl) (by decide)) (@pa_nil _) (by rfl)) (by rfl)) (by rfl) (by decide)) (by intro _; rfl)))))) (@pss_one _ _ _ (@ps_ret _ _ _ _ (@pe_bl _ _ _ _))) (@pss_nil _)))) (by intro _; rfl)) (@pss_one _ _ _ (@ps_ret _ _ _ _ (@pe_bl _ _ _ _)))))), rfl, ?_⟩
  walk_at "cl"
  walk_at "st"
  refine ⟨a, rfl, hs, fun t H1 T => ?_⟩
  walk_at "st"
  refine ⟨t, rfl, T, fun g1 v1 H2 c2 hg1 ho1 => ?_⟩
  walk_at "rd"
  refine ⟨t, rfl, c2.tape, fun g2 v2 H3 c3 hg2 ho2 => ?_⟩
  walk_at "rd"
  refine ⟨small6 (by simp), fun p hp => ?_⟩
  have S4 := same_new hp (.lst [v1, v2])
  have h4 : (upd H3 p (.lst [v1, v2])) p = some (.lst [v1, v2]) := upd_same
  have q1 : GmV K (upd H3 p (.lst [v1, v2])) g1 v1 := (hg1.tk c3.ext.tk).same S4
  have q2 : GmV K (upd H3 p (.lst [v1, v2])) g2 v2 := hg2.same S4
  generalize upd H3 p (.lst [v1, v2]) = H4 at S4 h4 q1 q2 ⊢
  walk_at "st"
  refine ⟨small6 (by simp), fun r hr4 => ?_⟩
  have S5 := same_new hr4 (.lst [V.int 0, V.int 1, V.int 0, V.int 1])
  have h5 := S5 _ _ h4
  have hr5 : (upd H4 r (.lst [V.int 0, V.int 1, V.int 0, V.int 1])) r = some (.lst [V.int 0, V.int 1, V.int 0, V.int 1]) := upd_same
  replace q1 := q1.same S5
  replace q2 := q2.same S5
  generalize upd H4 r (.lst [V.int 0, V.int 1, V.int 0, V.int 1]) = H5 at S5 h5 hr5 q1 q2 ⊢
  refine ⟨⟨_, .of hr5⟩, lst_of (xs := [V.int 0, V.int 1, V.int 0, V.int 1]) (fun i σ' H' => (∃ x y : Option V, σ' = [some (V.ref a), some (V.ref t), some (V.ref p), x, y]) ∧ Same H5 H') ⟨⟨none, none, rfl⟩, .refl _⟩ (fun i σ' H' _ ⟨_, S'⟩ => .of (S' _ _ hr5)) ?_ ?_⟩
  · rintro Pv hP i x _ H6 hi ⟨⟨x0, y0, rfl⟩, S6⟩
    obtain ⟨g, v, j, rfl, hv, hg, ho⟩ : ∃ (g : Gm) (v : V) (j : Nat), x = V.int j ∧ atI [v1, v2] (j : Int) = some v ∧ GmV K H6 g v ∧ GmOk g := by
      match i, hi with
      | 0, hi => cases hi; exact ⟨g1, v1, 0, rfl, atI_nat rfl, q1.same S6, ho1⟩
      | 1, hi => cases hi; exact ⟨g2, v2, 1, rfl, atI_nat rfl, q2.same S6, ho2⟩
      | 2, hi => cases hi; exact ⟨g1, v1, 0, rfl, atI_nat rfl, q1.same S6, ho1⟩
      | 3, hi => cases hi; exact ⟨g2, v2, 1, rfl, atI_nat rfl, q2.same S6, ho2⟩
      | i + 4, hi => cases hi
    have h6 := S6 _ _ h5
    walk_at "rd"
    walk_at "st"
    refine ⟨rfl, _, .of h6, _, hv, g, v, rfl, hg, ho, fun D H7 S7 hD hD7 => ?_⟩
    refine ⟨_, D, wordsG g, rfl, rfl, .of hD7, by rw [blank_eq]; exact wordsG_join ho, ?_⟩
    rw [join_G]
    walk_at "rd"
    refine ⟨_, .of (S7 _ _ h6), _, hv, g, v, rfl, hg.same S7, ho, fun H8 S8 => ?_⟩
    walk_at "rd"
    refine ⟨0, .str (textG g), _, _, rfl, .str (textG_ok ho), .str (textG_ok ho), rfl, by simp [PyData.depth], by decide, fun H9 S9 => ?_⟩
    have S69 := (S7.trans S8).trans S9
    walk_at "rd"
    refine ⟨_, .of (S69 _ _ h6), _, hv, ?_⟩
    walk_at "rd"
    refine ⟨g, rfl, ho, fun v2' H10 S10 hg10 => ?_⟩
    walk_at "rd"
    refine ⟨0, encG g, _, _, rfl, ((hg.same S69).same S10).dt, hg10.dt, fl2_encG ho, by have := (encG_gd ho).2.2; omega, by decide, fun H11 S11 => ?_⟩
    walk_at "rd"
    exact hP _ _ _ ⟨⟨_, _, rfl⟩, S6.trans ((S69.trans S10).trans S11)⟩
  · rintro _ H6 ⟨⟨x, y, rfl⟩, S6⟩
    walk_at "rd"
    exact q _
end
set_option genInjectivity false in
set_option genSizeOf false in
structure Txt (K : PySem.W.Frag) (mg : Str → Option Value) (p_DOWN_MOSTS : Addr) (p_LANE_MOSTS : Addr) (p_POINT : Addr) (C_RuleReader : Addr) : Prop where
  F_writes_whole : Df K mg "writes_whole" s_writes_whole ["word", "least", "most"]
  F_is_name : Df K mg "is_name" s_is_name ["thing"]
  F_show_rule : Df K mg "show_rule" s_show_rule ["rule"]
  F_read_rule : Df K mg "read_rule" s_read_rule ["text"]
  F_words_of : Df K mg "words_of" s_words_of ["rule"]
  F_RuleReader___init__ : Ci K mg "RuleReader" "RuleReader.__init__" C_RuleReader s_RuleReader___init__ ["self", "words"]
  F_RuleReader_refuse_more : Dm K C_RuleReader "refuse_more" "RuleReader.refuse_more" s_RuleReader_refuse_more ["self"]
  F_RuleReader_word_here : Dm K C_RuleReader "word_here" "RuleReader.word_here" s_RuleReader_word_here ["self"]
  F_RuleReader_read_part : Dm K C_RuleReader "read_part" "RuleReader.read_part" s_RuleReader_read_part ["self", "room"]
  F_RuleReader_read_unit : Dm K C_RuleReader "read_unit" "RuleReader.read_unit" s_RuleReader_read_unit ["self", "room"]
  F_RuleReader_read_number : Dm K C_RuleReader "read_number" "RuleReader.read_number" s_RuleReader_read_number ["self", "least"]
  F_RuleReader_read_cap : Dm K C_RuleReader "read_cap" "RuleReader.read_cap" s_RuleReader_read_cap ["self", "to"]
  F_RuleReader_read_last : Dm K C_RuleReader "read_last" "RuleReader.read_last" s_RuleReader_read_last ["self", "cap", "room"]
  F_show_game : Df K mg "show_game" s_show_game ["game"]
  F_read_game : Df K mg "read_game" s_read_game ["text"]
  F_word_of : Df K mg "word_of" s_word_of ["throw"]
  F_read_behind_rally : Df K mg "read_behind_rally" s_read_behind_rally ["words"]
  F_read_down : Df K mg "read_down" s_read_down ["words"]
  F_read_lane : Df K mg "read_lane" s_read_lane ["words"]
  F_read_numbers : Df K mg "read_numbers" s_read_numbers ["words", "mosts"]
  F_read_throw : Df K mg "read_throw" s_read_throw ["word"]
  F_law_tape : Df K mg "_law_tape" s_law_tape ["_law_script"]
  F_law_draw : Df K mg "_law_draw" s_law_draw ["_law_tape_here", "_law_many"]
  F_law_great : Df K mg "_law_great" s_law_great ["_law_tape_here"]
  F_law_alike : Df K mg "_law_alike" s_law_alike ["_law_due", "_law_found"]
  F_law_unit : Df K mg "_law_unit" s_law_unit ["_law_tape_here", "_law_deep", "_law_thin"]
  F_law_rule : Df K mg "_law_rule" s_law_rule ["_law_tape_here", "_law_deep", "_law_thin"]
  F_law_any_rule : Df K mg "_law_any_rule" s_law_any_rule ["_law_tape_here"]
  F_law_names : Df K mg "_law_names" s_law_names ["_law_tape_here", "_law_many"]
  F_law_throws : Df K mg "_law_throws" s_law_throws ["_law_tape_here", "_law_names_here", "_law_count"]
  F_law_down : Df K mg "_law_down" s_law_down ["_law_tape_here"]
  F_law_lane : Df K mg "_law_lane" s_law_lane ["_law_tape_here"]
  F_law_game : Df K mg "_law_game" s_law_game ["_law_tape_here"]
  F_law_rule_words : Df K mg "_law_rule_words" s_law_rule_words ["_law_rule_here"]
  F_law_game_words : Df K mg "_law_game_words" s_law_game_words ["_law_game_here"]
  m_all : mg "all" = none
  m_bool : mg "bool" = none
  m_enumerate : mg "enumerate" = none
  m_int : mg "int" = none
  m_isinstance : mg "isinstance" = none
  m_len : mg "len" = none
  m_list : mg "list" = none
  m_min : mg "min" = none
  m_range : mg "range" = none
  m_str : mg "str" = none
  m_tuple : mg "tuple" = none
  g_DOWN_MOSTS : Gc mg "DOWN_MOSTS" (.ref p_DOWN_MOSTS)
  t_DOWN_MOSTS : ∀ H : Hp, SqT K H p_DOWN_MOSTS [.int 3, .int 1000000, .int 3]
  g_MOST_THROWS : Gc mg "MOST_THROWS" (.int 30)
  g_MOST_SIGNS : Gc mg "MOST_SIGNS" (.int 8)
  g_MOST_WORTH : Gc mg "MOST_WORTH" (.int 1000000)
  g_LANE_MOSTS : Gc mg "LANE_MOSTS" (.ref p_LANE_MOSTS)
  t_LANE_MOSTS : ∀ H : Hp, SqT K H p_LANE_MOSTS [.int 3, .int 20, .int 12]
  g_MOST : Gc mg "MOST" (.int 99)
  g_MOST_UNITS : Gc mg "MOST_UNITS" (.int 10)
  g_MOST_DEPTH : Gc mg "MOST_DEPTH" (.int 4)
  g_POINT : Gc mg "POINT" (.ref p_POINT)
  t_POINT : ∀ H : Hp, SqT K H p_POINT [.str "point"]
  c_RuleReader : Cls K C_RuleReader
  n_RuleReader_spot : NoAttr K C_RuleReader "spot"
  n_RuleReader_unit_count : NoAttr K C_RuleReader "unit_count"
  n_RuleReader_words : NoAttr K C_RuleReader "words"
theorem txt_mk {K : PySem.W.Frag} {h : Heap} {mg : Str → Option Value} {fa : Addr} (X : K.In h) (G : h.Ns mainGlobals mg) (hfa : mg "law" = some (.ref fa))
    {f1 : Addr} {od1 an1 : Option Addr} {sl1 : Array (Option Value)} {oc1 kV1 dc1 pm1 cd1 ct1 : Value}
    {f2 : Addr} {od2 an2 : Option Addr} {sl2 : Array (Option Value)} {oc2 kV2 dc2 pm2 cd2 ct2 : Value}
    {f3 : Addr} {od3 an3 : Option Addr} {sl3 : Array (Option Value)} {oc3 kV3 dc3 pm3 cd3 ct3 : Value}
    {f4 : Addr} {od4 an4 : Option Addr} {sl4 : Array (Option Value)} {oc4 kV4 dc4 pm4 cd4 ct4 : Value}
    {f5 : Addr} {od5 an5 : Option Addr} {sl5 : Array (Option Value)} {oc5 kV5 dc5 pm5 cd5 ct5 : Value}
    {f6 : Addr} {od6 an6 : Option Addr} {sl6 : Array (Option Value)} {oc6 kV6 dc6 pm6 cd6 ct6 : Value}
    {f7 : Addr} {od7 an7 : Option Addr} {sl7 : Array (Option Value)} {oc7 kV7 dc7 pm7 cd7 ct7 : Value}
    {f8 : Addr} {od8 an8 : Option Addr} {sl8 : Array (Option Value)} {oc8 kV8 dc8 pm8 cd8 ct8 : Value}
    {f9 : Addr} {od9 an9 : Option Addr} {sl9 : Array (Option Value)} {oc9 kV9 dc9 pm9 cd9 ct9 : Value}
    {f10 : Addr} {od10 an10 : Option Addr} {sl10 : Array (Option Value)} {oc10 kV10 dc10 pm10 cd10 ct10 : Value}
    {f11 : Addr} {od11 an11 : Option Addr} {sl11 : Array (Option Value)} {oc11 kV11 dc11 pm11 cd11 ct11 : Value}
    {f12 : Addr} {od12 an12 : Option Addr} {sl12 : Array (Option Value)} {oc12 kV12 dc12 pm12 cd12 ct12 : Value}
    {f13 : Addr} {od13 an13 : Option Addr} {sl13 : Array (Option Value)} {oc13 kV13 dc13 pm13 cd13 ct13 : Value}
    {f14 : Addr} {od14 an14 : Option Addr} {sl14 : Array (Option Value)} {oc14 kV14 dc14 pm14 cd14 ct14 : Value}
    {f15 : Addr} {od15 an15 : Option Addr} {sl15 : Array (Option Value)} {oc15 kV15 dc15 pm15 cd15 ct15 : Value}
    {f16 : Addr} {od16 an16 : Option Addr} {sl16 : Array (Option Value)} {oc16 kV16 dc16 pm16 cd16 ct16 : Value}
    {f17 : Addr} {od17 an17 : Option Addr} {sl17 : Array (Option Value)} {oc17 kV17 dc17 pm17 cd17 ct17 : Value}
    {f18 : Addr} {od18 an18 : Option Addr} {sl18 : Array (Option Value)} {oc18 kV18 dc18 pm18 cd18 ct18 : Value}
    {f19 : Addr} {od19 an19 : Option Addr} {sl19 : Array (Option Value)} {oc19 kV19 dc19 pm19 cd19 ct19 : Value}
    {f20 : Addr} {od20 an20 : Option Addr} {sl20 : Array (Option Value)} {oc20 kV20 dc20 pm20 cd20 ct20 : Value}
    {f21 : Addr} {od21 an21 : Option Addr} {sl21 : Array (Option Value)} {oc21 kV21 dc21 pm21 cd21 ct21 : Value}
    {f22 : Addr} {od22 an22 : Option Addr} {sl22 : Array (Option Value)} {oc22 kV22 dc22 pm22 cd22 ct22 : Value}
    {f23 : Addr} {od23 an23 : Option Addr} {sl23 : Array (Option Value)} {oc23 kV23 dc23 pm23 cd23 ct23 : Value}
    {f24 : Addr} {od24 an24 : Option Addr} {sl24 : Array (Option Value)} {oc24 kV24 dc24 pm24 cd24 ct24 : Value}
    {f25 : Addr} {od25 an25 : Option Addr} {sl25 : Array (Option Value)} {oc25 kV25 dc25 pm25 cd25 ct25 : Value}
    {f26 : Addr} {od26 an26 : Option Addr} {sl26 : Array (Option Value)} {oc26 kV26 dc26 pm26 cd26 ct26 : Value}
    {f27 : Addr} {od27 an27 : Option Addr} {sl27 : Array (Option Value)} {oc27 kV27 dc27 pm27 cd27 ct27 : Value}
    {f28 : Addr} {od28 an28 : Option Addr} {sl28 : Array (Option Value)} {oc28 kV28 dc28 pm28 cd28 ct28 : Value}
    {f29 : Addr} {od29 an29 : Option Addr} {sl29 : Array (Option Value)} {oc29 kV29 dc29 pm29 cd29 ct29 : Value}
    {f30 : Addr} {od30 an30 : Option Addr} {sl30 : Array (Option Value)} {oc30 kV30 dc30 pm30 cd30 ct30 : Value}
    {f31 : Addr} {od31 an31 : Option Addr} {sl31 : Array (Option Value)} {oc31 kV31 dc31 pm31 cd31 ct31 : Value}
    {f32 : Addr} {od32 an32 : Option Addr} {sl32 : Array (Option Value)} {oc32 kV32 dc32 pm32 cd32 ct32 : Value}
    {f33 : Addr} {od33 an33 : Option Addr} {sl33 : Array (Option Value)} {oc33 kV33 dc33 pm33 cd33 ct33 : Value}
    {f34 : Addr} {od34 an34 : Option Addr} {sl34 : Array (Option Value)} {oc34 kV34 dc34 pm34 cd34 ct34 : Value}
    {f35 : Addr} {od35 an35 : Option Addr} {sl35 : Array (Option Value)} {oc35 kV35 dc35 pm35 cd35 ct35 : Value}
    {f36 : Addr} {od36 an36 : Option Addr} {sl36 : Array (Option Value)} {oc36 kV36 dc36 pm36 cd36 ct36 : Value}
    {p_DOWN_MOSTS n_DOWN_MOSTS : Nat} {o_DOWN_MOSTS : Option Addr} {s_DOWN_MOSTS : Array (Option Value)} {tk_DOWN_MOSTS0 : Tok} {tk_DOWN_MOSTS1 : Tok} {tk_DOWN_MOSTS2 : Tok}
    {tk_MOST_THROWS : Tok}
    {tk_MOST_SIGNS : Tok}
    {tk_MOST_WORTH : Tok}
    {p_LANE_MOSTS n_LANE_MOSTS : Nat} {o_LANE_MOSTS : Option Addr} {s_LANE_MOSTS : Array (Option Value)} {tk_LANE_MOSTS0 : Tok} {tk_LANE_MOSTS1 : Tok} {tk_LANE_MOSTS2 : Tok}
    {tk_MOST : Tok}
    {tk_MOST_UNITS : Tok}
    {tk_MOST_DEPTH : Tok}
    {p_POINT n_POINT : Nat} {o_POINT : Option Addr} {s_POINT : Array (Option Value)} {tk_POINT0 : Tok}
    {C_RuleReader : Addr}
    (aC_RuleReader : PySem.W.nsIn K mainGlobals "RuleReader" = some (some (.ref C_RuleReader))) (pg_RuleReader : PySem.W.plainGet K C_RuleReader Str.empty = true) (hd_RuleReader : PySem.W.hasDictIn K C_RuleReader = true) (po_RuleReader : PySem.W.plainOver K C_RuleReader = true) (sa_RuleReader : PySem.W.findIn K (.ref C_RuleReader) "__setattr__" = some (some (.builtin "object.__setattr__"))) (mk_RuleReader : PySem.W.makesIn K C_RuleReader = true) (kc_RuleReader : PySem.W.keepIn K (.ref C_RuleReader) = true)
    (a1 : PySem.W.nsIn K mainGlobals "writes_whole" = some (some (.ref f1))) (l1 : K.lookup f1 = some ⟨oc1, od1, .func (PySem.W.fnOf "writes_whole" "writes_whole" (defArgs s_writes_whole) (defBody s_writes_whole) (defScope s_writes_whole) .none kV1 dc1 pm1 an1 cd1 ct1), sl1⟩) (c1 : PySem.W.codeIn K cd1 "writes_whole" = true) (k1 : PySem.W.keepIn K (.ref f1) = true)
    (a2 : PySem.W.nsIn K mainGlobals "is_name" = some (some (.ref f2))) (l2 : K.lookup f2 = some ⟨oc2, od2, .func (PySem.W.fnOf "is_name" "is_name" (defArgs s_is_name) (defBody s_is_name) (defScope s_is_name) .none kV2 dc2 pm2 an2 cd2 ct2), sl2⟩) (c2 : PySem.W.codeIn K cd2 "is_name" = true) (k2 : PySem.W.keepIn K (.ref f2) = true)
    (a3 : PySem.W.nsIn K mainGlobals "show_rule" = some (some (.ref f3))) (l3 : K.lookup f3 = some ⟨oc3, od3, .func (PySem.W.fnOf "show_rule" "show_rule" (defArgs s_show_rule) (defBody s_show_rule) (defScope s_show_rule) .none kV3 dc3 pm3 an3 cd3 ct3), sl3⟩) (c3 : PySem.W.codeIn K cd3 "show_rule" = true) (k3 : PySem.W.keepIn K (.ref f3) = true)
    (a4 : PySem.W.nsIn K mainGlobals "read_rule" = some (some (.ref f4))) (l4 : K.lookup f4 = some ⟨oc4, od4, .func (PySem.W.fnOf "read_rule" "read_rule" (defArgs s_read_rule) (defBody s_read_rule) (defScope s_read_rule) .none kV4 dc4 pm4 an4 cd4 ct4), sl4⟩) (c4 : PySem.W.codeIn K cd4 "read_rule" = true) (k4 : PySem.W.keepIn K (.ref f4) = true)
    (a5 : PySem.W.nsIn K mainGlobals "words_of" = some (some (.ref f5))) (l5 : K.lookup f5 = some ⟨oc5, od5, .func (PySem.W.fnOf "words_of" "words_of" (defArgs s_words_of) (defBody s_words_of) (defScope s_words_of) .none kV5 dc5 pm5 an5 cd5 ct5), sl5⟩) (c5 : PySem.W.codeIn K cd5 "words_of" = true) (k5 : PySem.W.keepIn K (.ref f5) = true)
    (a6 : PySem.W.findIn K (.ref C_RuleReader) "__init__" = some (some (.ref f6))) (i6 : PySem.W.isFn K (.ref f6) = true) (l6 : K.lookup f6 = some ⟨oc6, od6, .func (PySem.W.fnOf "__init__" "RuleReader.__init__" (defArgs s_RuleReader___init__) (defBody s_RuleReader___init__) (defScope s_RuleReader___init__) .none kV6 dc6 pm6 an6 cd6 ct6), sl6⟩) (c6 : PySem.W.codeIn K cd6 "RuleReader.__init__" = true) (k6 : PySem.W.keepIn K (.ref f6) = true)
    (a7 : PySem.W.findIn K (.ref C_RuleReader) "refuse_more" = some (some (.ref f7))) (i7 : PySem.W.isFn K (.ref f7) = true) (l7 : K.lookup f7 = some ⟨oc7, od7, .func (PySem.W.fnOf "refuse_more" "RuleReader.refuse_more" (defArgs s_RuleReader_refuse_more) (defBody s_RuleReader_refuse_more) (defScope s_RuleReader_refuse_more) .none kV7 dc7 pm7 an7 cd7 ct7), sl7⟩) (c7 : PySem.W.codeIn K cd7 "RuleReader.refuse_more" = true) (k7 : PySem.W.keepIn K (.ref f7) = true)
    (a8 : PySem.W.findIn K (.ref C_RuleReader) "word_here" = some (some (.ref f8))) (i8 : PySem.W.isFn K (.ref f8) = true) (l8 : K.lookup f8 = some ⟨oc8, od8, .func (PySem.W.fnOf "word_here" "RuleReader.word_here" (defArgs s_RuleReader_word_here) (defBody s_RuleReader_word_here) (defScope s_RuleReader_word_here) .none kV8 dc8 pm8 an8 cd8 ct8), sl8⟩) (c8 : PySem.W.codeIn K cd8 "RuleReader.word_here" = true) (k8 : PySem.W.keepIn K (.ref f8) = true)
    (a9 : PySem.W.findIn K (.ref C_RuleReader) "read_part" = some (some (.ref f9))) (i9 : PySem.W.isFn K (.ref f9) = true) (l9 : K.lookup f9 = some ⟨oc9, od9, .func (PySem.W.fnOf "read_part" "RuleReader.read_part" (defArgs s_RuleReader_read_part) (defBody s_RuleReader_read_part) (defScope s_RuleReader_read_part) .none kV9 dc9 pm9 an9 cd9 ct9), sl9⟩) (c9 : PySem.W.codeIn K cd9 "RuleReader.read_part" = true) (k9 : PySem.W.keepIn K (.ref f9) = true)
    (a10 : PySem.W.findIn K (.ref C_RuleReader) "read_unit" = some (some (.ref f10))) (i10 : PySem.W.isFn K (.ref f10) = true) (l10 : K.lookup f10 = some ⟨oc10, od10, .func (PySem.W.fnOf "read_unit" "RuleReader.read_unit" (defArgs s_RuleReader_read_unit) (defBody s_RuleReader_read_unit) (defScope s_RuleReader_read_unit) .none kV10 dc10 pm10 an10 cd10 ct10), sl10⟩) (c10 : PySem.W.codeIn K cd10 "RuleReader.read_unit" = true) (k10 : PySem.W.keepIn K (.ref f10) = true)
    (a11 : PySem.W.findIn K (.ref C_RuleReader) "read_number" = some (some (.ref f11))) (i11 : PySem.W.isFn K (.ref f11) = true) (l11 : K.lookup f11 = some ⟨oc11, od11, .func (PySem.W.fnOf "read_number" "RuleReader.read_number" (defArgs s_RuleReader_read_number) (defBody s_RuleReader_read_number) (defScope s_RuleReader_read_number) .none kV11 dc11 pm11 an11 cd11 ct11), sl11⟩) (c11 : PySem.W.codeIn K cd11 "RuleReader.read_number" = true) (k11 : PySem.W.keepIn K (.ref f11) = true)
    (a12 : PySem.W.findIn K (.ref C_RuleReader) "read_cap" = some (some (.ref f12))) (i12 : PySem.W.isFn K (.ref f12) = true) (l12 : K.lookup f12 = some ⟨oc12, od12, .func (PySem.W.fnOf "read_cap" "RuleReader.read_cap" (defArgs s_RuleReader_read_cap) (defBody s_RuleReader_read_cap) (defScope s_RuleReader_read_cap) .none kV12 dc12 pm12 an12 cd12 ct12), sl12⟩) (c12 : PySem.W.codeIn K cd12 "RuleReader.read_cap" = true) (k12 : PySem.W.keepIn K (.ref f12) = true)
    (a13 : PySem.W.findIn K (.ref C_RuleReader) "read_last" = some (some (.ref f13))) (i13 : PySem.W.isFn K (.ref f13) = true) (l13 : K.lookup f13 = some ⟨oc13, od13, .func (PySem.W.fnOf "read_last" "RuleReader.read_last" (defArgs s_RuleReader_read_last) (defBody s_RuleReader_read_last) (defScope s_RuleReader_read_last) .none kV13 dc13 pm13 an13 cd13 ct13), sl13⟩) (c13 : PySem.W.codeIn K cd13 "RuleReader.read_last" = true) (k13 : PySem.W.keepIn K (.ref f13) = true)
    (a14 : PySem.W.nsIn K mainGlobals "show_game" = some (some (.ref f14))) (l14 : K.lookup f14 = some ⟨oc14, od14, .func (PySem.W.fnOf "show_game" "show_game" (defArgs s_show_game) (defBody s_show_game) (defScope s_show_game) .none kV14 dc14 pm14 an14 cd14 ct14), sl14⟩) (c14 : PySem.W.codeIn K cd14 "show_game" = true) (k14 : PySem.W.keepIn K (.ref f14) = true)
    (a15 : PySem.W.nsIn K mainGlobals "read_game" = some (some (.ref f15))) (l15 : K.lookup f15 = some ⟨oc15, od15, .func (PySem.W.fnOf "read_game" "read_game" (defArgs s_read_game) (defBody s_read_game) (defScope s_read_game) .none kV15 dc15 pm15 an15 cd15 ct15), sl15⟩) (c15 : PySem.W.codeIn K cd15 "read_game" = true) (k15 : PySem.W.keepIn K (.ref f15) = true)
    (a16 : PySem.W.nsIn K mainGlobals "word_of" = some (some (.ref f16))) (l16 : K.lookup f16 = some ⟨oc16, od16, .func (PySem.W.fnOf "word_of" "word_of" (defArgs s_word_of) (defBody s_word_of) (defScope s_word_of) .none kV16 dc16 pm16 an16 cd16 ct16), sl16⟩) (c16 : PySem.W.codeIn K cd16 "word_of" = true) (k16 : PySem.W.keepIn K (.ref f16) = true)
    (a17 : PySem.W.nsIn K mainGlobals "read_behind_rally" = some (some (.ref f17))) (l17 : K.lookup f17 = some ⟨oc17, od17, .func (PySem.W.fnOf "read_behind_rally" "read_behind_rally" (defArgs s_read_behind_rally) (defBody s_read_behind_rally) (defScope s_read_behind_rally) .none kV17 dc17 pm17 an17 cd17 ct17), sl17⟩) (c17 : PySem.W.codeIn K cd17 "read_behind_rally" = true) (k17 : PySem.W.keepIn K (.ref f17) = true)
    (a18 : PySem.W.nsIn K mainGlobals "read_down" = some (some (.ref f18))) (l18 : K.lookup f18 = some ⟨oc18, od18, .func (PySem.W.fnOf "read_down" "read_down" (defArgs s_read_down) (defBody s_read_down) (defScope s_read_down) .none kV18 dc18 pm18 an18 cd18 ct18), sl18⟩) (c18 : PySem.W.codeIn K cd18 "read_down" = true) (k18 : PySem.W.keepIn K (.ref f18) = true)
    (a19 : PySem.W.nsIn K mainGlobals "read_lane" = some (some (.ref f19))) (l19 : K.lookup f19 = some ⟨oc19, od19, .func (PySem.W.fnOf "read_lane" "read_lane" (defArgs s_read_lane) (defBody s_read_lane) (defScope s_read_lane) .none kV19 dc19 pm19 an19 cd19 ct19), sl19⟩) (c19 : PySem.W.codeIn K cd19 "read_lane" = true) (k19 : PySem.W.keepIn K (.ref f19) = true)
    (a20 : PySem.W.nsIn K mainGlobals "read_numbers" = some (some (.ref f20))) (l20 : K.lookup f20 = some ⟨oc20, od20, .func (PySem.W.fnOf "read_numbers" "read_numbers" (defArgs s_read_numbers) (defBody s_read_numbers) (defScope s_read_numbers) .none kV20 dc20 pm20 an20 cd20 ct20), sl20⟩) (c20 : PySem.W.codeIn K cd20 "read_numbers" = true) (k20 : PySem.W.keepIn K (.ref f20) = true)
    (a21 : PySem.W.nsIn K mainGlobals "read_throw" = some (some (.ref f21))) (l21 : K.lookup f21 = some ⟨oc21, od21, .func (PySem.W.fnOf "read_throw" "read_throw" (defArgs s_read_throw) (defBody s_read_throw) (defScope s_read_throw) .none kV21 dc21 pm21 an21 cd21 ct21), sl21⟩) (c21 : PySem.W.codeIn K cd21 "read_throw" = true) (k21 : PySem.W.keepIn K (.ref f21) = true)
    (a22 : PySem.W.nsIn K mainGlobals "_law_tape" = some (some (.ref f22))) (l22 : K.lookup f22 = some ⟨oc22, od22, .func (PySem.W.fnOf "_law_tape" "_law_tape" (defArgs s_law_tape) (defBody s_law_tape) (defScope s_law_tape) .none kV22 dc22 pm22 an22 cd22 ct22), sl22⟩) (c22 : PySem.W.codeIn K cd22 "_law_tape" = true) (k22 : PySem.W.keepIn K (.ref f22) = true)
    (a23 : PySem.W.nsIn K mainGlobals "_law_draw" = some (some (.ref f23))) (l23 : K.lookup f23 = some ⟨oc23, od23, .func (PySem.W.fnOf "_law_draw" "_law_draw" (defArgs s_law_draw) (defBody s_law_draw) (defScope s_law_draw) .none kV23 dc23 pm23 an23 cd23 ct23), sl23⟩) (c23 : PySem.W.codeIn K cd23 "_law_draw" = true) (k23 : PySem.W.keepIn K (.ref f23) = true)
    (a24 : PySem.W.nsIn K mainGlobals "_law_great" = some (some (.ref f24))) (l24 : K.lookup f24 = some ⟨oc24, od24, .func (PySem.W.fnOf "_law_great" "_law_great" (defArgs s_law_great) (defBody s_law_great) (defScope s_law_great) .none kV24 dc24 pm24 an24 cd24 ct24), sl24⟩) (c24 : PySem.W.codeIn K cd24 "_law_great" = true) (k24 : PySem.W.keepIn K (.ref f24) = true)
    (a25 : PySem.W.nsIn K mainGlobals "_law_alike" = some (some (.ref f25))) (l25 : K.lookup f25 = some ⟨oc25, od25, .func (PySem.W.fnOf "_law_alike" "_law_alike" (defArgs s_law_alike) (defBody s_law_alike) (defScope s_law_alike) .none kV25 dc25 pm25 an25 cd25 ct25), sl25⟩) (c25 : PySem.W.codeIn K cd25 "_law_alike" = true) (k25 : PySem.W.keepIn K (.ref f25) = true)
    (a26 : PySem.W.nsIn K mainGlobals "_law_unit" = some (some (.ref f26))) (l26 : K.lookup f26 = some ⟨oc26, od26, .func (PySem.W.fnOf "_law_unit" "_law_unit" (defArgs s_law_unit) (defBody s_law_unit) (defScope s_law_unit) .none kV26 dc26 pm26 an26 cd26 ct26), sl26⟩) (c26 : PySem.W.codeIn K cd26 "_law_unit" = true) (k26 : PySem.W.keepIn K (.ref f26) = true)
    (a27 : PySem.W.nsIn K mainGlobals "_law_rule" = some (some (.ref f27))) (l27 : K.lookup f27 = some ⟨oc27, od27, .func (PySem.W.fnOf "_law_rule" "_law_rule" (defArgs s_law_rule) (defBody s_law_rule) (defScope s_law_rule) .none kV27 dc27 pm27 an27 cd27 ct27), sl27⟩) (c27 : PySem.W.codeIn K cd27 "_law_rule" = true) (k27 : PySem.W.keepIn K (.ref f27) = true)
    (a28 : PySem.W.nsIn K mainGlobals "_law_any_rule" = some (some (.ref f28))) (l28 : K.lookup f28 = some ⟨oc28, od28, .func (PySem.W.fnOf "_law_any_rule" "_law_any_rule" (defArgs s_law_any_rule) (defBody s_law_any_rule) (defScope s_law_any_rule) .none kV28 dc28 pm28 an28 cd28 ct28), sl28⟩) (c28 : PySem.W.codeIn K cd28 "_law_any_rule" = true) (k28 : PySem.W.keepIn K (.ref f28) = true)
    (a29 : PySem.W.nsIn K mainGlobals "_law_names" = some (some (.ref f29))) (l29 : K.lookup f29 = some ⟨oc29, od29, .func (PySem.W.fnOf "_law_names" "_law_names" (defArgs s_law_names) (defBody s_law_names) (defScope s_law_names) .none kV29 dc29 pm29 an29 cd29 ct29), sl29⟩) (c29 : PySem.W.codeIn K cd29 "_law_names" = true) (k29 : PySem.W.keepIn K (.ref f29) = true)
    (a30 : PySem.W.nsIn K mainGlobals "_law_throws" = some (some (.ref f30))) (l30 : K.lookup f30 = some ⟨oc30, od30, .func (PySem.W.fnOf "_law_throws" "_law_throws" (defArgs s_law_throws) (defBody s_law_throws) (defScope s_law_throws) .none kV30 dc30 pm30 an30 cd30 ct30), sl30⟩) (c30 : PySem.W.codeIn K cd30 "_law_throws" = true) (k30 : PySem.W.keepIn K (.ref f30) = true)
    (a31 : PySem.W.nsIn K mainGlobals "_law_down" = some (some (.ref f31))) (l31 : K.lookup f31 = some ⟨oc31, od31, .func (PySem.W.fnOf "_law_down" "_law_down" (defArgs s_law_down) (defBody s_law_down) (defScope s_law_down) .none kV31 dc31 pm31 an31 cd31 ct31), sl31⟩) (c31 : PySem.W.codeIn K cd31 "_law_down" = true) (k31 : PySem.W.keepIn K (.ref f31) = true)
    (a32 : PySem.W.nsIn K mainGlobals "_law_lane" = some (some (.ref f32))) (l32 : K.lookup f32 = some ⟨oc32, od32, .func (PySem.W.fnOf "_law_lane" "_law_lane" (defArgs s_law_lane) (defBody s_law_lane) (defScope s_law_lane) .none kV32 dc32 pm32 an32 cd32 ct32), sl32⟩) (c32 : PySem.W.codeIn K cd32 "_law_lane" = true) (k32 : PySem.W.keepIn K (.ref f32) = true)
    (a33 : PySem.W.nsIn K mainGlobals "_law_game" = some (some (.ref f33))) (l33 : K.lookup f33 = some ⟨oc33, od33, .func (PySem.W.fnOf "_law_game" "_law_game" (defArgs s_law_game) (defBody s_law_game) (defScope s_law_game) .none kV33 dc33 pm33 an33 cd33 ct33), sl33⟩) (c33 : PySem.W.codeIn K cd33 "_law_game" = true) (k33 : PySem.W.keepIn K (.ref f33) = true)
    (a34 : PySem.W.nsIn K mainGlobals "_law_rule_words" = some (some (.ref f34))) (l34 : K.lookup f34 = some ⟨oc34, od34, .func (PySem.W.fnOf "_law_rule_words" "_law_rule_words" (defArgs s_law_rule_words) (defBody s_law_rule_words) (defScope s_law_rule_words) .none kV34 dc34 pm34 an34 cd34 ct34), sl34⟩) (c34 : PySem.W.codeIn K cd34 "_law_rule_words" = true) (k34 : PySem.W.keepIn K (.ref f34) = true)
    (a35 : PySem.W.nsIn K mainGlobals "_law_game_words" = some (some (.ref f35))) (l35 : K.lookup f35 = some ⟨oc35, od35, .func (PySem.W.fnOf "_law_game_words" "_law_game_words" (defArgs s_law_game_words) (defBody s_law_game_words) (defScope s_law_game_words) .none kV35 dc35 pm35 an35 cd35 ct35), sl35⟩) (c35 : PySem.W.codeIn K cd35 "_law_game_words" = true) (k35 : PySem.W.keepIn K (.ref f35) = true)
    (a36 : PySem.W.nsIn K mainGlobals "law" = some (some (.ref f36))) (l36 : K.lookup f36 = some ⟨oc36, od36, .func (PySem.W.fnOf "law" "law" (defArgs s_law) (defBody s_law) (defScope s_law) .none kV36 dc36 pm36 an36 cd36 ct36), sl36⟩) (c36 : PySem.W.codeIn K cd36 "law" = true) (k36 : PySem.W.keepIn K (.ref f36) = true)
    (z_all : PySem.W.nsIn K mainGlobals "all" = some none)
    (z_bool : PySem.W.nsIn K mainGlobals "bool" = some none)
    (z_enumerate : PySem.W.nsIn K mainGlobals "enumerate" = some none)
    (z_int : PySem.W.nsIn K mainGlobals "int" = some none)
    (z_isinstance : PySem.W.nsIn K mainGlobals "isinstance" = some none)
    (z_len : PySem.W.nsIn K mainGlobals "len" = some none)
    (z_list : PySem.W.nsIn K mainGlobals "list" = some none)
    (z_min : PySem.W.nsIn K mainGlobals "min" = some none)
    (z_range : PySem.W.nsIn K mainGlobals "range" = some none)
    (z_str : PySem.W.nsIn K mainGlobals "str" = some none)
    (z_tuple : PySem.W.nsIn K mainGlobals "tuple" = some none)
    (v_DOWN_MOSTS : PySem.W.nsIn K mainGlobals "DOWN_MOSTS" = some (some (.ref p_DOWN_MOSTS))) (w_DOWN_MOSTS : K.lookup p_DOWN_MOSTS = some ⟨.type "tuple", o_DOWN_MOSTS, .seq #[.int 3 tk_DOWN_MOSTS0, .int 1000000 tk_DOWN_MOSTS1, .int 3 tk_DOWN_MOSTS2] n_DOWN_MOSTS, s_DOWN_MOSTS⟩)
    (v_MOST_THROWS : PySem.W.nsIn K mainGlobals "MOST_THROWS" = some (some (.int 30 tk_MOST_THROWS)))
    (v_MOST_SIGNS : PySem.W.nsIn K mainGlobals "MOST_SIGNS" = some (some (.int 8 tk_MOST_SIGNS)))
    (v_MOST_WORTH : PySem.W.nsIn K mainGlobals "MOST_WORTH" = some (some (.int 1000000 tk_MOST_WORTH)))
    (v_LANE_MOSTS : PySem.W.nsIn K mainGlobals "LANE_MOSTS" = some (some (.ref p_LANE_MOSTS))) (w_LANE_MOSTS : K.lookup p_LANE_MOSTS = some ⟨.type "tuple", o_LANE_MOSTS, .seq #[.int 3 tk_LANE_MOSTS0, .int 20 tk_LANE_MOSTS1, .int 12 tk_LANE_MOSTS2] n_LANE_MOSTS, s_LANE_MOSTS⟩)
    (v_MOST : PySem.W.nsIn K mainGlobals "MOST" = some (some (.int 99 tk_MOST)))
    (v_MOST_UNITS : PySem.W.nsIn K mainGlobals "MOST_UNITS" = some (some (.int 10 tk_MOST_UNITS)))
    (v_MOST_DEPTH : PySem.W.nsIn K mainGlobals "MOST_DEPTH" = some (some (.int 4 tk_MOST_DEPTH)))
    (v_POINT : PySem.W.nsIn K mainGlobals "POINT" = some (some (.ref p_POINT))) (w_POINT : K.lookup p_POINT = some ⟨.type "tuple", o_POINT, .seq #[.str "point" tk_POINT0] n_POINT, s_POINT⟩)
    (na_RuleReader_spot : PySem.W.findIn K (.ref C_RuleReader) "spot" = some none)
    (na_RuleReader_unit_count : PySem.W.findIn K (.ref C_RuleReader) "unit_count" = some none)
    (na_RuleReader_words : PySem.W.findIn K (.ref C_RuleReader) "words" = some none) :
    ∃ (fd : FuncData) (p_DOWN_MOSTS : Addr) (p_LANE_MOSTS : Addr) (p_POINT : Addr) (C_RuleReader : Addr), (∀ (s : Shared) (v : Value), BindsTo s fd ⟨[v], []⟩ [("_law_script", v)]) ∧ Fun K "law" "law" s_law fa fd ∧ Txt K mg p_DOWN_MOSTS p_LANE_MOSTS p_POINT C_RuleReader := by
  have e := hfa.symm.trans (PySem.W.mg_of X G a36)
  cases e
  exact ⟨_, _, _, _, _, fun s v => .of_eq rfl, fun_mk (st := s_law) l36 c36 k36, ⟨⟨⟨f1, _, fun_mk (st := s_writes_whole) l1 c1 k1, (fun_mk (st := s_writes_whole) l1 c1 k1).binds (ps := ["word", "least", "most"]) fun _ _ _ _ _ _ us hl => match us, hl with | [_, _, _], _ => rfl, PySem.W.mg_of X G a1⟩⟩,
    ⟨⟨f2, _, fun_mk (st := s_is_name) l2 c2 k2, (fun_mk (st := s_is_name) l2 c2 k2).binds (ps := ["thing"]) fun _ _ _ _ _ _ us hl => match us, hl with | [_], _ => rfl, PySem.W.mg_of X G a2⟩⟩,
    ⟨⟨f3, _, fun_mk (st := s_show_rule) l3 c3 k3, (fun_mk (st := s_show_rule) l3 c3 k3).binds (ps := ["rule"]) fun _ _ _ _ _ _ us hl => match us, hl with | [_], _ => rfl, PySem.W.mg_of X G a3⟩⟩,
    ⟨⟨f4, _, fun_mk (st := s_read_rule) l4 c4 k4, (fun_mk (st := s_read_rule) l4 c4 k4).binds (ps := ["text"]) fun _ _ _ _ _ _ us hl => match us, hl with | [_], _ => rfl, PySem.W.mg_of X G a4⟩⟩,
    ⟨⟨f5, _, fun_mk (st := s_words_of) l5 c5 k5, (fun_mk (st := s_words_of) l5 c5 k5).binds (ps := ["rule"]) fun _ _ _ _ _ _ us hl => match us, hl with | [_], _ => rfl, PySem.W.mg_of X G a5⟩⟩,
    ⟨⟨f6, _, fun_mk (st := s_RuleReader___init__) l6 c6 k6, (fun_mk (st := s_RuleReader___init__) l6 c6 k6).binds (ps := ["self", "words"]) fun _ _ _ _ _ _ us hl => match us, hl with | [_, _], _ => rfl, ⟨mk_RuleReader, a6, i6, kc_RuleReader⟩⟩, PySem.W.mg_of X G aC_RuleReader⟩,
    ⟨⟨f7, _, fun_mk (st := s_RuleReader_refuse_more) l7 c7 k7, (fun_mk (st := s_RuleReader_refuse_more) l7 c7 k7).binds (ps := ["self"]) fun _ _ _ _ _ _ us hl => match us, hl with | [_], _ => rfl, ⟨a7, i7, k7⟩⟩⟩,
    ⟨⟨f8, _, fun_mk (st := s_RuleReader_word_here) l8 c8 k8, (fun_mk (st := s_RuleReader_word_here) l8 c8 k8).binds (ps := ["self"]) fun _ _ _ _ _ _ us hl => match us, hl with | [_], _ => rfl, ⟨a8, i8, k8⟩⟩⟩,
    ⟨⟨f9, _, fun_mk (st := s_RuleReader_read_part) l9 c9 k9, (fun_mk (st := s_RuleReader_read_part) l9 c9 k9).binds (ps := ["self", "room"]) fun _ _ _ _ _ _ us hl => match us, hl with | [_, _], _ => rfl, ⟨a9, i9, k9⟩⟩⟩,
    ⟨⟨f10, _, fun_mk (st := s_RuleReader_read_unit) l10 c10 k10, (fun_mk (st := s_RuleReader_read_unit) l10 c10 k10).binds (ps := ["self", "room"]) fun _ _ _ _ _ _ us hl => match us, hl with | [_, _], _ => rfl, ⟨a10, i10, k10⟩⟩⟩,
    ⟨⟨f11, _, fun_mk (st := s_RuleReader_read_number) l11 c11 k11, (fun_mk (st := s_RuleReader_read_number) l11 c11 k11).binds (ps := ["self", "least"]) fun _ _ _ _ _ _ us hl => match us, hl with | [_, _], _ => rfl, ⟨a11, i11, k11⟩⟩⟩,
    ⟨⟨f12, _, fun_mk (st := s_RuleReader_read_cap) l12 c12 k12, (fun_mk (st := s_RuleReader_read_cap) l12 c12 k12).binds (ps := ["self", "to"]) fun _ _ _ _ _ _ us hl => match us, hl with | [_, _], _ => rfl, ⟨a12, i12, k12⟩⟩⟩,
    ⟨⟨f13, _, fun_mk (st := s_RuleReader_read_last) l13 c13 k13, (fun_mk (st := s_RuleReader_read_last) l13 c13 k13).binds (ps := ["self", "cap", "room"]) fun _ _ _ _ _ _ us hl => match us, hl with | [_, _, _], _ => rfl, ⟨a13, i13, k13⟩⟩⟩,
    ⟨⟨f14, _, fun_mk (st := s_show_game) l14 c14 k14, (fun_mk (st := s_show_game) l14 c14 k14).binds (ps := ["game"]) fun _ _ _ _ _ _ us hl => match us, hl with | [_], _ => rfl, PySem.W.mg_of X G a14⟩⟩,
    ⟨⟨f15, _, fun_mk (st := s_read_game) l15 c15 k15, (fun_mk (st := s_read_game) l15 c15 k15).binds (ps := ["text"]) fun _ _ _ _ _ _ us hl => match us, hl with | [_], _ => rfl, PySem.W.mg_of X G a15⟩⟩,
    ⟨⟨f16, _, fun_mk (st := s_word_of) l16 c16 k16, (fun_mk (st := s_word_of) l16 c16 k16).binds (ps := ["throw"]) fun _ _ _ _ _ _ us hl => match us, hl with | [_], _ => rfl, PySem.W.mg_of X G a16⟩⟩,
    ⟨⟨f17, _, fun_mk (st := s_read_behind_rally) l17 c17 k17, (fun_mk (st := s_read_behind_rally) l17 c17 k17).binds (ps := ["words"]) fun _ _ _ _ _ _ us hl => match us, hl with | [_], _ => rfl, PySem.W.mg_of X G a17⟩⟩,
    ⟨⟨f18, _, fun_mk (st := s_read_down) l18 c18 k18, (fun_mk (st := s_read_down) l18 c18 k18).binds (ps := ["words"]) fun _ _ _ _ _ _ us hl => match us, hl with | [_], _ => rfl, PySem.W.mg_of X G a18⟩⟩,
    ⟨⟨f19, _, fun_mk (st := s_read_lane) l19 c19 k19, (fun_mk (st := s_read_lane) l19 c19 k19).binds (ps := ["words"]) fun _ _ _ _ _ _ us hl => match us, hl with | [_], _ => rfl, PySem.W.mg_of X G a19⟩⟩,
    ⟨⟨f20, _, fun_mk (st := s_read_numbers) l20 c20 k20, (fun_mk (st := s_read_numbers) l20 c20 k20).binds (ps := ["words", "mosts"]) fun _ _ _ _ _ _ us hl => match us, hl with | [_, _], _ => rfl, PySem.W.mg_of X G a20⟩⟩,
    ⟨⟨f21, _, fun_mk (st := s_read_throw) l21 c21 k21, (fun_mk (st := s_read_throw) l21 c21 k21).binds (ps := ["word"]) fun _ _ _ _ _ _ us hl => match us, hl with | [_], _ => rfl, PySem.W.mg_of X G a21⟩⟩,
    ⟨⟨f22, _, fun_mk (st := s_law_tape) l22 c22 k22, (fun_mk (st := s_law_tape) l22 c22 k22).binds (ps := ["_law_script"]) fun _ _ _ _ _ _ us hl => match us, hl with | [_], _ => rfl, PySem.W.mg_of X G a22⟩⟩,
    ⟨⟨f23, _, fun_mk (st := s_law_draw) l23 c23 k23, (fun_mk (st := s_law_draw) l23 c23 k23).binds (ps := ["_law_tape_here", "_law_many"]) fun _ _ _ _ _ _ us hl => match us, hl with | [_, _], _ => rfl, PySem.W.mg_of X G a23⟩⟩,
    ⟨⟨f24, _, fun_mk (st := s_law_great) l24 c24 k24, (fun_mk (st := s_law_great) l24 c24 k24).binds (ps := ["_law_tape_here"]) fun _ _ _ _ _ _ us hl => match us, hl with | [_], _ => rfl, PySem.W.mg_of X G a24⟩⟩,
    ⟨⟨f25, _, fun_mk (st := s_law_alike) l25 c25 k25, (fun_mk (st := s_law_alike) l25 c25 k25).binds (ps := ["_law_due", "_law_found"]) fun _ _ _ _ _ _ us hl => match us, hl with | [_, _], _ => rfl, PySem.W.mg_of X G a25⟩⟩,
    ⟨⟨f26, _, fun_mk (st := s_law_unit) l26 c26 k26, (fun_mk (st := s_law_unit) l26 c26 k26).binds (ps := ["_law_tape_here", "_law_deep", "_law_thin"]) fun _ _ _ _ _ _ us hl => match us, hl with | [_, _, _], _ => rfl, PySem.W.mg_of X G a26⟩⟩,
    ⟨⟨f27, _, fun_mk (st := s_law_rule) l27 c27 k27, (fun_mk (st := s_law_rule) l27 c27 k27).binds (ps := ["_law_tape_here", "_law_deep", "_law_thin"]) fun _ _ _ _ _ _ us hl => match us, hl with | [_, _, _], _ => rfl, PySem.W.mg_of X G a27⟩⟩,
    ⟨⟨f28, _, fun_mk (st := s_law_any_rule) l28 c28 k28, (fun_mk (st := s_law_any_rule) l28 c28 k28).binds (ps := ["_law_tape_here"]) fun _ _ _ _ _ _ us hl => match us, hl with | [_], _ => rfl, PySem.W.mg_of X G a28⟩⟩,
    ⟨⟨f29, _, fun_mk (st := s_law_names) l29 c29 k29, (fun_mk (st := s_law_names) l29 c29 k29).binds (ps := ["_law_tape_here", "_law_many"]) fun _ _ _ _ _ _ us hl => match us, hl with | [_, _], _ => rfl, PySem.W.mg_of X G a29⟩⟩,
    ⟨⟨f30, _, fun_mk (st := s_law_throws) l30 c30 k30, (fun_mk (st := s_law_throws) l30 c30 k30).binds (ps := ["_law_tape_here", "_law_names_here", "_law_count"]) fun _ _ _ _ _ _ us hl => match us, hl with | [_, _, _], _ => rfl, PySem.W.mg_of X G a30⟩⟩,
    ⟨⟨f31, _, fun_mk (st := s_law_down) l31 c31 k31, (fun_mk (st := s_law_down) l31 c31 k31).binds (ps := ["_law_tape_here"]) fun _ _ _ _ _ _ us hl => match us, hl with | [_], _ => rfl, PySem.W.mg_of X G a31⟩⟩,
    ⟨⟨f32, _, fun_mk (st := s_law_lane) l32 c32 k32, (fun_mk (st := s_law_lane) l32 c32 k32).binds (ps := ["_law_tape_here"]) fun _ _ _ _ _ _ us hl => match us, hl with | [_], _ => rfl, PySem.W.mg_of X G a32⟩⟩,
    ⟨⟨f33, _, fun_mk (st := s_law_game) l33 c33 k33, (fun_mk (st := s_law_game) l33 c33 k33).binds (ps := ["_law_tape_here"]) fun _ _ _ _ _ _ us hl => match us, hl with | [_], _ => rfl, PySem.W.mg_of X G a33⟩⟩,
    ⟨⟨f34, _, fun_mk (st := s_law_rule_words) l34 c34 k34, (fun_mk (st := s_law_rule_words) l34 c34 k34).binds (ps := ["_law_rule_here"]) fun _ _ _ _ _ _ us hl => match us, hl with | [_], _ => rfl, PySem.W.mg_of X G a34⟩⟩,
    ⟨⟨f35, _, fun_mk (st := s_law_game_words) l35 c35 k35, (fun_mk (st := s_law_game_words) l35 c35 k35).binds (ps := ["_law_game_here"]) fun _ _ _ _ _ _ us hl => match us, hl with | [_], _ => rfl, PySem.W.mg_of X G a35⟩⟩,
    PySem.W.mg_none_of X G z_all,
    PySem.W.mg_none_of X G z_bool,
    PySem.W.mg_none_of X G z_enumerate,
    PySem.W.mg_none_of X G z_int,
    PySem.W.mg_none_of X G z_isinstance,
    PySem.W.mg_none_of X G z_len,
    PySem.W.mg_none_of X G z_list,
    PySem.W.mg_none_of X G z_min,
    PySem.W.mg_none_of X G z_range,
    PySem.W.mg_none_of X G z_str,
    PySem.W.mg_none_of X G z_tuple,
    ⟨⟨_, PySem.W.mg_of X G v_DOWN_MOSTS, rfl⟩⟩,
    fun H => .inr ⟨_, _, _, w_DOWN_MOSTS, rfl, rfl, (by show 3 ≤ sizeLine; decide), .cons ⟨_, rfl⟩ (.cons ⟨_, rfl⟩ (.cons ⟨_, rfl⟩ (.nil)))⟩,
    ⟨⟨_, PySem.W.mg_of X G v_MOST_THROWS, ⟨_, rfl⟩⟩⟩,
    ⟨⟨_, PySem.W.mg_of X G v_MOST_SIGNS, ⟨_, rfl⟩⟩⟩,
    ⟨⟨_, PySem.W.mg_of X G v_MOST_WORTH, ⟨_, rfl⟩⟩⟩,
    ⟨⟨_, PySem.W.mg_of X G v_LANE_MOSTS, rfl⟩⟩,
    fun H => .inr ⟨_, _, _, w_LANE_MOSTS, rfl, rfl, (by show 3 ≤ sizeLine; decide), .cons ⟨_, rfl⟩ (.cons ⟨_, rfl⟩ (.cons ⟨_, rfl⟩ (.nil)))⟩,
    ⟨⟨_, PySem.W.mg_of X G v_MOST, ⟨_, rfl⟩⟩⟩,
    ⟨⟨_, PySem.W.mg_of X G v_MOST_UNITS, ⟨_, rfl⟩⟩⟩,
    ⟨⟨_, PySem.W.mg_of X G v_MOST_DEPTH, ⟨_, rfl⟩⟩⟩,
    ⟨⟨_, PySem.W.mg_of X G v_POINT, rfl⟩⟩,
    fun H => .inr ⟨_, _, _, w_POINT, rfl, rfl, (by show 1 ≤ sizeLine; decide), .cons ⟨_, rfl⟩ (.nil)⟩,
    ⟨pg_RuleReader, hd_RuleReader, po_RuleReader, sa_RuleReader⟩,
    na_RuleReader_spot,
    na_RuleReader_unit_count,
    na_RuleReader_words⟩⟩
section
variable {P : Program} {w : World} {K : PySem.W.Frag} {mg : Str → Option Value} {base : Heap}
theorem law_all {fa : Addr} {fd : FuncData} {p_DOWN_MOSTS p_LANE_MOSTS p_POINT C : Addr} (F : Fun K "law" "law" s_law fa fd) (T : Txt K mg p_DOWN_MOSTS p_LANE_MOSTS p_POINT C) : FnOk P w K mg base CX0 40 fa fd ["_law_script"] (spLaw K) := by
  have R : RdC K C := ⟨T.c_RuleReader, T.n_RuleReader_words, T.n_RuleReader_spot, T.n_RuleReader_unit_count⟩
  have d0 : ∀ ns, Dn P w K mg base 1 "_law_draw" ["_law_tape_here", "_law_many"] (spDraw K ns) := fun ns => ok_law_draw T.F_law_draw T.m_len
  have ds : ∀ ns, Dn P w K mg base 1 "_law_draw" ["_law_tape_here", "_law_many"] (spDrawS K ns) := fun ns => ok_law_drawS T.F_law_draw T.m_len
  have dgr : ∀ ns, Dn P w K mg base 2 "_law_great" ["_law_tape_here"] (spGreat K ns) := fun ns => ok_law_great T.F_law_great (ds ns)
  have dnm : ∀ ns, Dn P w K mg base 3 "_law_names" ["_law_tape_here", "_law_many"] (spNames K ns) := fun ns => (ok_law_names T.F_law_names T.m_range (ds ns)).mono (by decide)
  have dtr : ∀ ns, Dn P w K mg base 3 "_law_throws" ["_law_tape_here", "_law_names_here", "_law_count"] (spThrows K ns) := fun ns => ok_law_throws T.F_law_throws T.m_tuple ((ds ns).mono (by decide)) (dgr ns)
  have ddw : ∀ ns, Dn P w K mg base 4 "_law_down" ["_law_tape_here"] (spDown K ns) := fun ns => ok_law_down T.F_law_down ((ds ns).mono (by decide)) ((dgr ns).mono (by decide)) (dnm ns) (dtr ns)
  have dlN : ∀ ns, Dn P w K mg base 2 "_law_lane" ["_law_tape_here"] (spLane K ns) := fun ns => ok_law_lane T.F_law_lane (ds ns)
  have drl : ∀ ns, Dn P w K mg base 20 "_law_rule" ["_law_tape_here", "_law_deep", "_law_thin"] (spRule K ns 5) := fun ns => (all_rule (k := 2) T.F_law_rule T.F_law_unit T.m_min ((d0 ns).mono (by decide))).mono (by decide)
  have dan : ∀ ns, Dn P w K mg base 21 "_law_any_rule" ["_law_tape_here"] (spAny K ns) := fun ns => ok_law_any_rule T.F_law_any_rule ((d0 ns).mono (by decide)) (drl ns)
  have dgm : ∀ ns, Dn P w K mg base 22 "_law_game" ["_law_tape_here"] (spGame K ns) := fun ns => ok_law_game T.F_law_game ((d0 ns).mono (by decide)) (dan ns) ((ddw ns).mono (by decide)) ((dlN ns).mono (by decide))
  have dww : Dn P w K mg base 1 "writes_whole" ["word", "least", "most"] (spNumG) := ok_writes_whole (k := 0) T.F_writes_whole T.m_len T.m_all T.m_int T.m_str
  have dwn : Dn P w K mg base 1 "writes_whole" ["word", "least", "most"] (spNum) := ok_writes_num (k := 0) T.F_writes_whole T.m_len T.m_all T.m_int T.m_str
  have din : Dn P w K mg base 1 "is_name" ["thing"] (spB K nmD) := ok_is_name T.F_is_name T.m_isinstance T.m_str T.m_len T.m_all T.g_MOST_SIGNS
  have dh : Mn P w K mg base 1 C "word_here" ["self"] (spHere C) := ok_here (k := 0) T.F_RuleReader_word_here R T.m_len
  have dm := ok_number (k := 1) T.F_RuleReader_read_number R R.c T.m_int T.g_MOST dh dwn
  have dc := ok_cap (k := 2) T.F_RuleReader_read_cap R R.c (dh.mono (by decide)) dm
  have dp := all_part (k := 3) (n := 5) T.F_RuleReader_read_part T.F_RuleReader_read_unit T.F_RuleReader_read_last R T.g_POINT T.t_POINT T.g_MOST_UNITS (dh.mono (by decide)) (dm.mono (by decide)) dc
  have di : Cn P w K mg base 1 "RuleReader" C ["self", "words"] (spInit C) := ok_init (k := 0) T.F_RuleReader___init__ R
  have de : Mn P w K mg base 1 C "refuse_more" ["self"] (spMore C) := ok_more (k := 0) T.F_RuleReader_refuse_more R T.m_len
  have drr := ok_read_rule (k := 17) T.F_read_rule R R.c T.g_MOST_DEPTH (di.mono (by decide)) dp (de.mono (by decide))
  have dw := all_words (k := 1) (n := 5) (P := P) (w := w) (base := base) T.F_words_of T.m_str T.g_POINT T.t_POINT
  have dsr : Dn P w K mg base 7 "show_rule" ["rule"] (spShow K) := ok_show_rule T.F_show_rule dw
  have dwo : Dn P w K mg base 1 "word_of" ["throw"] (spWordOf K) := ok_word_of T.F_word_of
  have dsg : Dn P w K mg base 8 "show_game" ["game"] (spShowG K) := ok_show_game T.F_show_game T.m_str dsr (dwo.mono (by decide))
  have drn : Dn P w K mg base 2 "read_numbers" ["words", "mosts"] (spNumbers K) := ok_read_numbers T.F_read_numbers T.m_enumerate T.m_len T.m_int T.m_tuple dww
  have drt : Dn P w K mg base 2 "read_throw" ["word"] (spReadT K) := ok_read_throw T.F_read_throw T.m_len T.m_int T.g_MOST_WORTH din dww
  have drd : Dn P w K mg base 3 "read_down" ["words"] (spReadDn K) := ok_read_down T.F_read_down T.m_len T.m_range T.m_tuple T.g_MOST_THROWS T.g_DOWN_MOSTS T.t_DOWN_MOSTS drn drt
  have drL : Dn P w K mg base 3 "read_lane" ["words"] (spReadLn K) := ok_read_lane T.F_read_lane T.m_len T.g_LANE_MOSTS T.t_LANE_MOSTS drn
  have drb : Dn P w K mg base 20 "read_behind_rally" ["words"] (spReadBeh K) := (ok_read_behind_rally T.F_read_behind_rally drr).mono (by decide)
  have drg : Dn P w K mg base 21 "read_game" ["text"] (spReadG K) := ok_read_game T.F_read_game drb (drd.mono (by decide)) (drL.mono (by decide))
  have dlw : Dn P w K mg base 6 "_law_rule_words" ["_law_rule_here"] (spLW K 5) := all_law_rule_words (k := 1) (n := 5) T.F_law_rule_words T.m_str
  have dgw : Dn P w K mg base 7 "_law_game_words" ["_law_game_here"] (spGW K) := ok_law_game_words T.F_law_game_words T.m_str T.m_int dlw
  have dal : Dn P w K mg base 21 "_law_alike" ["_law_due", "_law_found"] (spAl2 K 20) := all_law_al2 (k := 1) (n := 20) T.F_law_alike T.m_isinstance T.m_tuple T.m_list T.m_str T.m_len T.m_range T.m_int T.m_bool T.m_all
  exact ok_law (k := 39) F (fun ns => (ok_law_tape T.F_law_tape T.m_len).mono (show 1 ≤ 39 by decide)) (fun ns => (dgm ns).mono (by decide)) (dgw.mono (by decide)) (dsg.mono (by decide)) (drg.mono (by decide)) (dal.mono (by decide))
end
theorem walkL {l : PySem.W.OpenLaw} {q : Program} {loose : List Str} {XP : (Str → Option Value) → Heap → Prop} {YP : World → Heap → Prop} {d : DefRec} {K : Params → PySem.W.Frag} (hn : l.most = some 63) (hdf : d.params.defaults = [])
    (hY : ∀ (w : World) (h : Heap), YP w h → (K w.params).In h)
    (F : ∀ (w : World) (mg : Str → Option Value) (fa : Addr) (h : Heap), (K w.params).In h → h.Ns mainGlobals mg → mg d.name = some (.ref fa) →
      ∃ (fd : FuncData) (p_DOWN_MOSTS : Addr) (p_LANE_MOSTS : Addr) (p_POINT : Addr) (C_RuleReader : Addr), (∀ (s : Shared) (v : Value), BindsTo s fd ⟨[v], []⟩ [("_law_script", v)]) ∧ Fun (K w.params) "law" "law" s_law fa fd ∧ Txt (K w.params) mg p_DOWN_MOSTS p_LANE_MOSTS p_POINT C_RuleReader) :
    PySem.W.WalkO q loose XP YP l.row.toRowW d [] (fun f vs => PySem.call f vs) :=
  L2.walk_of (n := 63) (k := 40) (x := "_law_script") (CX := fun _ => CX0) (sp := fun w => spLaw (K w.params)) hn (by decide) hdf ⟨rfl, by decide, by decide, rfl⟩ hY (fun w mg fa h X G e => by
    obtain ⟨fd, p_DOWN_MOSTS, p_LANE_MOSTS, p_POINT, C_RuleReader, b, Fl, T⟩ := F w mg fa h X G e
    exact ⟨fd, b, fun base _ _ => law_all Fl T⟩) (fun _ _ a ns hl _ hS => ⟨a, ns, rfl, hS, hl, fun _ => rfl⟩) fun _ _ _ _ _ z => z
end My
open PySem PySem.W PyProof.Rows
set_option maxRecDepth 100000 in
set_option maxHeartbeats 0 in
theorem PySem.Challenge.cw_tally_k44_games_written_holds : PySem.Challenge.rw_tally_k44_games_written.Holds := by
  w_on; o_law; z_head; (case hw => w_witness2)
  k_fill
  refine L2.walkX (fun P => by kernel_rfl) (My.walkL (l := PySem.Challenge.rw_tally_k44_games_written) rfl rfl (fun w h Y => Y) ?F)
  case F =>
    intro w mg fa h KX G hmg
    refine' My.txt_mk KX G hmg ?aC_RuleReader ?pg_RuleReader ?hd_RuleReader ?po_RuleReader ?sa_RuleReader ?mk_RuleReader ?kc_RuleReader ?a1 ?l1 ?c1 ?k1 ?a2 ?l2 ?c2 ?k2 ?a3 ?l3 ?c3 ?k3 ?a4 ?l4 ?c4 ?k4 ?a5 ?l5 ?c5 ?k5 ?a6 ?i6 ?l6 ?c6 ?k6 ?a7 ?i7 ?l7 ?c7 ?k7 ?a8 ?i8 ?l8 ?c8 ?k8 ?a9 ?i9 ?l9 ?c9 ?k9 ?a10 ?i10 ?l10 ?c10 ?k10 ?a11 ?i11 ?l11 ?c11 ?k11 ?a12 ?i12 ?l12 ?c12 ?k12 ?a13 ?i13 ?l13 ?c13 ?k13 ?a14 ?l14 ?c14 ?k14 ?a15 ?l15 ?c15 ?k15 ?a16 ?l16 ?c16 ?k16 ?a17 ?l17 ?c17 ?k17 ?a18 ?l18 ?c18 ?k18 ?a19 ?l19 ?c19 ?k19 ?a20 ?l20 ?c20 ?k20 ?a21 ?l21 ?c21 ?k21 ?a22 ?l22 ?c22 ?k22 ?a23 ?l23 ?c23 ?k23 ?a24 ?l24 ?c24 ?k24 ?a25 ?l25 ?c25 ?k25 ?a26 ?l26 ?c26 ?k26 ?a27 ?l27 ?c27 ?k27 ?a28 ?l28 ?c28 ?k28 ?a29 ?l29 ?c29 ?k29 ?a30 ?l30 ?c30 ?k30 ?a31 ?l31 ?c31 ?k31 ?a32 ?l32 ?c32 ?k32 ?a33 ?l33 ?c33 ?k33 ?a34 ?l34 ?c34 ?k34 ?a35 ?l35 ?c35 ?k35 ?a36 ?l36 ?c36 ?k36 ?z_all ?z_bool ?z_enumerate ?z_int ?z_isinstance ?z_len ?z_list ?z_min ?z_range ?z_str ?z_tuple ?v_DOWN_MOSTS ?w_DOWN_MOSTS ?v_MOST_THROWS ?v_MOST_SIGNS ?v_MOST_WORTH ?v_LANE_MOSTS ?w_LANE_MOSTS ?v_MOST ?v_MOST_UNITS ?v_MOST_DEPTH ?v_POINT ?w_POINT ?na_RuleReader_spot ?na_RuleReader_unit_count ?na_RuleReader_words
    (case aC_RuleReader => k_is)
    (case pg_RuleReader => k_is)
    (case hd_RuleReader => k_is)
    (case po_RuleReader => k_is)
    (case sa_RuleReader => k_is)
    (case mk_RuleReader => k_is)
    (case kc_RuleReader => k_is)
    (case a1 => k_is)
    (case l1 => k_is)
    (case c1 => k_is)
    (case k1 => k_is)
    (case a2 => k_is)
    (case l2 => k_is)
    (case c2 => k_is)
    (case k2 => k_is)
    (case a3 => k_is)
    (case l3 => k_is)
    (case c3 => k_is)
    (case k3 => k_is)
    (case a4 => k_is)
    (case l4 => k_is)
    (case c4 => k_is)
    (case k4 => k_is)
    (case a5 => k_is)
    (case l5 => k_is)
    (case c5 => k_is)
    (case k5 => k_is)
    (case a6 => k_is)
    (case i6 => k_is)
    (case l6 => k_is)
    (case c6 => k_is)
    (case k6 => k_is)
    (case a7 => k_is)
    (case i7 => k_is)
    (case l7 => k_is)
    (case c7 => k_is)
    (case k7 => k_is)
    (case a8 => k_is)
    (case i8 => k_is)
    (case l8 => k_is)
    (case c8 => k_is)
    (case k8 => k_is)
    (case a9 => k_is)
    (case i9 => k_is)
    (case l9 => k_is)
    (case c9 => k_is)
    (case k9 => k_is)
    (case a10 => k_is)
    (case i10 => k_is)
    (case l10 => k_is)
    (case c10 => k_is)
    (case k10 => k_is)
    (case a11 => k_is)
    (case i11 => k_is)
    (case l11 => k_is)
    (case c11 => k_is)
    (case k11 => k_is)
    (case a12 => k_is)
    (case i12 => k_is)
    (case l12 => k_is)
    (case c12 => k_is)
    (case k12 => k_is)
    (case a13 => k_is)
    (case i13 => k_is)
    (case l13 => k_is)
    (case c13 => k_is)
    (case k13 => k_is)
    (case a14 => k_is)
    (case l14 => k_is)
    (case c14 => k_is)
    (case k14 => k_is)
    (case a15 => k_is)
    (case l15 => k_is)
    (case c15 => k_is)
    (case k15 => k_is)
    (case a16 => k_is)
    (case l16 => k_is)
    (case c16 => k_is)
    (case k16 => k_is)
    (case a17 => k_is)
    (case l17 => k_is)
    (case c17 => k_is)
    (case k17 => k_is)
    (case a18 => k_is)
    (case l18 => k_is)
    (case c18 => k_is)
    (case k18 => k_is)
    (case a19 => k_is)
    (case l19 => k_is)
    (case c19 => k_is)
    (case k19 => k_is)
    (case a20 => k_is)
    (case l20 => k_is)
    (case c20 => k_is)
    (case k20 => k_is)
    (case a21 => k_is)
    (case l21 => k_is)
    (case c21 => k_is)
    (case k21 => k_is)
    (case a22 => k_is)
    (case l22 => k_is)
    (case c22 => k_is)
    (case k22 => k_is)
    (case a23 => k_is)
    (case l23 => k_is)
    (case c23 => k_is)
    (case k23 => k_is)
    (case a24 => k_is)
    (case l24 => k_is)
    (case c24 => k_is)
    (case k24 => k_is)
    (case a25 => k_is)
    (case l25 => k_is)
    (case c25 => k_is)
    (case k25 => k_is)
    (case a26 => k_is)
    (case l26 => k_is)
    (case c26 => k_is)
    (case k26 => k_is)
    (case a27 => k_is)
    (case l27 => k_is)
    (case c27 => k_is)
    (case k27 => k_is)
    (case a28 => k_is)
    (case l28 => k_is)
    (case c28 => k_is)
    (case k28 => k_is)
    (case a29 => k_is)
    (case l29 => k_is)
    (case c29 => k_is)
    (case k29 => k_is)
    (case a30 => k_is)
    (case l30 => k_is)
    (case c30 => k_is)
    (case k30 => k_is)
    (case a31 => k_is)
    (case l31 => k_is)
    (case c31 => k_is)
    (case k31 => k_is)
    (case a32 => k_is)
    (case l32 => k_is)
    (case c32 => k_is)
    (case k32 => k_is)
    (case a33 => k_is)
    (case l33 => k_is)
    (case c33 => k_is)
    (case k33 => k_is)
    (case a34 => k_is)
    (case l34 => k_is)
    (case c34 => k_is)
    (case k34 => k_is)
    (case a35 => k_is)
    (case l35 => k_is)
    (case c35 => k_is)
    (case k35 => k_is)
    (case a36 => k_is)
    (case l36 => k_is)
    (case c36 => k_is)
    (case k36 => k_is)
    (case z_all => k_is)
    (case z_bool => k_is)
    (case z_enumerate => k_is)
    (case z_int => k_is)
    (case z_isinstance => k_is)
    (case z_len => k_is)
    (case z_list => k_is)
    (case z_min => k_is)
    (case z_range => k_is)
    (case z_str => k_is)
    (case z_tuple => k_is)
    (case v_DOWN_MOSTS => k_is)
    (case w_DOWN_MOSTS => k_is)
    (case v_MOST_THROWS => k_is)
    (case v_MOST_SIGNS => k_is)
    (case v_MOST_WORTH => k_is)
    (case v_LANE_MOSTS => k_is)
    (case w_LANE_MOSTS => k_is)
    (case v_MOST => k_is)
    (case v_MOST_UNITS => k_is)
    (case v_MOST_DEPTH => k_is)
    (case v_POINT => k_is)
    (case w_POINT => k_is)
    (case na_RuleReader_spot => k_is)
    (case na_RuleReader_unit_count => k_is)
    (case na_RuleReader_words => k_is)