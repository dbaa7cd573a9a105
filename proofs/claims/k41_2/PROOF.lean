import PyProof.Rows.All
import Wide.All
import OpenK.AllK
import Wide.FinOn
import Lean
import PyProof.EqAt
import PyProof.EqKinds
import PyProof.TupleCall
import PyProof.P3Eq
import PyProof.NeData
import PyProof.P3Statements
import PyProof.StrLawsChain
import PyProof.StrLawsTight
import PyProof.StrLawsReplace
import PyProof.FitsReplace
import KE.IntText
import PyProof.StrBlockL
import PyProof.StrLawsIdx
import PyProof.StrBlockI
import KE.KStrOpen
import PyProof.ReprRoads
import PyProof.StrLawsRepr
import PyProof.FitsInt
import PyProof.ExcArgsOwn
import PyProof.ExcAttrAll.ValueError
import KE.KxWritten
import PyProof.ListRange
import PyProof.ZipIter
import PyProof.TupleIter
import PyProof.EnumFor
import PyProof.EnumMake
import PyProof.EnumStmt
import PyProof.WalkInts
import PyProof.SumWalkG
import PyProof.SeqI3
import PyProof.CallFns
import PyProof.IsRules
import PyProof.Rows.SetFrom
import PyProof.StrOps2
import PyProof.SetRoads
import PySem.Challenge.RW_tally_k41_what_is_a_game
set_option maxHeartbeats 4000000
set_option Elab.async false
set_option linter.all false
set_option maxRecDepth 100000
namespace L2
open PySem PySem.Spec PyProof.Rows
abbrev Key := Sum Int Str
def keyIs : Key → Value → Bool
  | .inl k, v => Value.isInt k v
  | .inr x, v => Value.isStrOf x v
def keyH (w : World) : Key → Int
  | .inl k => hashInt k
  | .inr x => hashStr w x
theorem keyIs_shape : ∀ {k : Key} {v : Value}, keyIs k v = true → (∃ i t, k = Sum.inl i ∧ v = Value.int i t) ∨ (∃ x t, k = Sum.inr x ∧ v = Value.str x t)
  | .inl i, v, h => by
    obtain ⟨t, e⟩ := Value.isInt_shape (k := i) (v := v) h
    exact .inl ⟨i, t, rfl, e⟩
  | .inr x, v, h => by
    obtain ⟨t, e⟩ := Value.isStrOf_shape (x := x) (v := v) h
    exact .inr ⟨x, t, rfl, e⟩
theorem key_ll (a b : Int) : decide ((Sum.inl a : Key) = Sum.inl b) = (a == b) := by
  by_cases e : a = b
  · subst e; simp
  · have h : ¬ (Sum.inl a : Key) = Sum.inl b := fun q => e (Sum.inl.inj q)
    rw [decide_eq_false h]
    exact (beq_eq_false_iff_ne.mpr e).symm
theorem key_rr (a b : Str) : decide ((Sum.inr a : Key) = Sum.inr b) = decide (a = b) := by
  by_cases e : a = b
  · subst e; simp
  · have h : ¬ (Sum.inr a : Key) = Sum.inr b := fun q => e (Sum.inr.inj q)
    rw [decide_eq_false h, decide_eq_false e]
theorem key_lr (a : Int) (b : Str) : decide ((Sum.inl a : Key) = Sum.inr b) = false := decide_eq_false (fun q => nomatch q)
theorem key_rl (a : Str) (b : Int) : decide ((Sum.inr a : Key) = Sum.inl b) = false := decide_eq_false (fun q => nomatch q)
def mixKind (prog : Program) (w : World) : PySem.KeyKind prog w Key where
  is := keyIs
  hash := keyH w
  inj := fun v a b ha hb => by
    rcases keyIs_shape ha with ⟨i, t, rfl, rfl⟩ | ⟨x, t, rfl, rfl⟩
    · rcases keyIs_shape hb with ⟨j, u, rfl, e⟩ | ⟨y, u, rfl, e⟩
      · injection e with e1 _; rw [e1]
      · exact nomatch e
    · rcases keyIs_shape hb with ⟨j, u, rfl, e⟩ | ⟨y, u, rfl, e⟩
      · exact nomatch e
      · injection e with e1 _; rw [e1]
  byValue := fun k v h => by
    rcases keyIs_shape h with ⟨i, t, rfl, rfl⟩ | ⟨x, t, rfl, rfl⟩ <;> rfl
  pyHash := fun hv h => by
    rcases keyIs_shape hv with ⟨i, t, rfl, rfl⟩ | ⟨x, t, rfl, rfl⟩
    · exact wpAny_pyHash_int h
    · exact wpAny_pyHash_str h
  eqBool := fun hu hv h => by
    rcases keyIs_shape hu with ⟨i, t, rfl, rfl⟩ | ⟨x, t, rfl, rfl⟩
    · rcases keyIs_shape hv with ⟨j, u, rfl, rfl⟩ | ⟨y, u, rfl, rfl⟩
      · rw [key_ll] at h; exact wpAny_eqBool_int h
      · rw [key_lr] at h; exact SeqAt.EqAt.int_str i t y u _ _ _ _ h
    · rcases keyIs_shape hv with ⟨j, u, rfl, rfl⟩ | ⟨y, u, rfl, rfl⟩
      · rw [key_rl] at h; exact SeqAt.EqAt.str_int x t j u _ _ _ _ h
      · rw [key_rr] at h; exact wpAny_eqBool_str h
  «strs» := fun k x t v h => by
    rcases keyIs_shape h with ⟨i, u, rfl, e⟩ | ⟨y, u, rfl, e⟩
    · exact nomatch e
    · injection e with e1 _
      subst e1
      cases v <;> rfl
end L2
namespace L2
open PySem PySem.Spec PyProof.Rows
inductive V where
  | non | bl (b : Bool) | int (i : Int) | str (x : Str) | byt (b : Array UInt8) | flt (b : UInt64) | ref (a : Addr) | ty (n : String)
  deriving DecidableEq
def RelV : V → Value → Prop
  | .non, u => u = Value.none
  | .bl b, u => u = Value.bool b
  | .int i, u => ∃ t, u = Value.int i t
  | .str x, u => ∃ t, u = Value.str x t
  | .byt b, u => ∃ t, u = Value.bytes b t
  | .flt b, u => ∃ t, u = Value.float b t
  | .ref a, u => u = Value.ref a
  | .ty n, u => u = Value.type n
abbrev Vals : List V → List Value → Prop := Paired RelV
theorem Vals.length {xs : List V} {us : List Value} (r : Vals xs us) : xs.length = us.length := Paired.length r
theorem Vals.get : ∀ {xs : List V} {us : List Value} {i : Nat} {x : V}, Vals xs us → xs[i]? = some x → ∃ u, us[i]? = some u ∧ RelV x u
  | _, _, _, _, .nil, e => by simp at e
  | _, _, 0, _, .cons r _, e => by simp at e; subst e; exact ⟨_, rfl, r⟩
  | _, _, i + 1, x, .cons _ t, e => by
    obtain ⟨u, h1, h2⟩ := Vals.get (i := i) (x := x) t (by simpa using e)
    exact ⟨u, by simpa using h1, h2⟩
theorem Vals.set {x : V} {u : Value} (r : RelV x u) : ∀ {xs : List V} {us : List Value} (i : Nat), Vals xs us → Vals (xs.set i x) (us.set i u)
  | _, _, _, .nil => .nil
  | _, _, 0, .cons _ t => .cons r t
  | _, _, i + 1, .cons q t => .cons q (Vals.set r i t)
theorem Vals.append : ∀ {xs ys : List V} {us ws : List Value}, Vals xs us → Vals ys ws → Vals (xs ++ ys) (us ++ ws)
  | _, _, _, _, .nil, s => s
  | _, _, _, _, .cons r t, s => .cons r (Vals.append t s)
theorem Vals.take : ∀ {xs : List V} {us : List Value} (n : Nat), Vals xs us → Vals (xs.take n) (us.take n)
  | _, _, 0, _ => .nil
  | _, _, _ + 1, .nil => .nil
  | _, _, n + 1, .cons r t => .cons r (Vals.take n t)
theorem Vals.drop : ∀ {xs : List V} {us : List Value} (n : Nat), Vals xs us → Vals (xs.drop n) (us.drop n)
  | _, _, 0, r => r
  | _, _, _ + 1, .nil => .nil
  | _, _, n + 1, .cons _ t => Vals.drop n t
def RelO : Option V → Option Value → Prop
  | some v, some u => RelV v u
  | none, none => True
  | _, _ => False
def KV {κ : Type} : List (κ × V) → List (κ × Value) → Prop := Paired fun (p : κ × V) (q : κ × Value) => p.1 = q.1 ∧ RelV p.2 q.2
def kV : Key → V
  | .inl i => .int i
  | .inr x => .str x
inductive HO where
  | lst (xs : List V)
  | tup (xs : List V)
  | dK (kvs : List (Key × V)) | dT (kvs : List (List Key × V))
  | set (S : Int → Bool) (n : Nat)
  | ins (C dx : Addr) (fs : List (Str × V))
  | own (x : Addr)
  | xd (fs : List (Str × V))
  | met (f x : Addr)
  | rng (lo hi : Int)
  | frz (o : Obj) (u : HO)
  | tbl (ps : Array Value)
  | ext (φ : Heap → Prop)
abbrev Hp := Addr → Option HO
def upd (H : Hp) (a : Addr) (o : HO) : Hp := fun b => if b = a then some o else H b
theorem upd_same {H : Hp} {a : Addr} {o : HO} : upd H a o a = some o := by unfold upd; rw [if_pos rfl]
theorem upd_ne {H : Hp} {a b : Addr} {o : HO} (h : b ≠ a) : upd H a o b = H b := by unfold upd; rw [if_neg h]
theorem ne_of_none {H : Hp} {a b : Addr} {o : HO} (h : H a = some o) (h' : H b = none) : a ≠ b := by
  intro e; subst e; rw [h] at h'; cases h'
section
variable (P : Program) (w : World)
def ObjOk (H : Hp) (h : Heap) (a : Addr) : HO → Prop
  | .lst xs => xs.length ≤ sizeLine ∧ ∃ (its : List Value) (n : Nat), Vals xs its ∧ h.get? a = some { cls := .type "list", data := .seq its.toArray n }
  | .tup xs => xs.length ≤ sizeLine ∧ ∃ its : List Value, Vals xs its ∧ IsTup h a its.toArray
  | .dK kvs => kvs.length ≤ sizeLine ∧ (a == sysModules) = false ∧ ∃ vs, KV kvs vs ∧ h.DictOf (mixKind P w) a vs
  | .dT kvs => kvs.length ≤ sizeLine ∧ (a == sysModules) = false ∧ ∃ xs : List (List Key × Addr × Value),
      Paired (fun (p : List Key × V) (q : List Key × Addr × Value) => p.1 = q.1 ∧ H q.2.1 = some (.tup (p.1.map kV)) ∧ RelV p.2 q.2.2) kvs xs ∧
      ∃ o es ep, h.get? a = some o ∧ o.ExactDict ∧ o.data = .dict es ep ∧ es.toList = xs.map (entryOfKey (tupleKind (mixKind P w))) ∧ (xs.map (·.1)).Nodup
  | .set S n => h.SetOf (intKind P w) a S n
  | .ins C dx fs => H dx = some (.own a) ∧ fs.length ≤ 1000 ∧ dx ≠ a ∧ h.get? a = some (PySem.W.instObj C dx) ∧
      ∃ mA, h.Ns1 dx mA ∧ (∀ f, RelO (fs.lookup f) (mA f)) ∧ PySem.Within mA (fs.map (·.1))
  | .own _ => ∃ o, h.get? a = some o
  | .xd fs => ∃ mA, h.Ns1 a mA ∧ ∀ f, RelO (fs.lookup f) (mA f)
  | .rng lo hi => ∃ t u v, h.get? a = some { cls := .type "range", data := .fields #[.int lo t, .int hi u, .int 1 v] }
  | .frz o u => h.get? a = some o ∧ ObjOk H h a u
  | .tbl ps => h.get? a = some { cls := .none, data := .fields ps }
  | .met f x => h.get? a = some (PySem.W.methodObj (.ref f) (.ref x))
  | .ext φ => φ h ∧ (∃ o, h.get? a = some o) ∧ ∀ h1 h2 : Heap, φ h1 → (∀ o, h1.get? a = some o → h2.get? a = some o) → φ h2
def HOk (H : Hp) (h : Heap) : Prop := ∀ a o, H a = some o → ObjOk P w H h a o
end
section
variable {P : Program} {w : World} {H H' : Hp} {h h' : Heap} {a : Addr} {o : HO}
theorem ObjOk.lt (x : ObjOk P w H h a o) : a < h.objs.size := by
  cases o with
  | lst xs => obtain ⟨_, _, _, _, e⟩ := x; exact Heap.lt_size e
  | tup xs => obtain ⟨_, _, _, p⟩ := x; exact p.lt
  | dK kvs => obtain ⟨_, _, _, _, o, _, _, e, _⟩ := x; exact Heap.lt_size e
  | dT kvs => obtain ⟨_, _, _, _, o, _, _, e, _⟩ := x; exact Heap.lt_size e
  | set S n => obtain ⟨o, _, _, _, e, _⟩ := x; exact Heap.lt_size e
  | ins C dx fs => obtain ⟨_, _, _, e, _⟩ := x; exact Heap.lt_size e
  | own y => obtain ⟨_, e⟩ := x; exact Heap.lt_size e
  | xd fs => obtain ⟨_, ⟨_, _, _, e, _⟩, _⟩ := x; exact Heap.lt_size e
  | rng lo hi => obtain ⟨_, _, _, e⟩ := x; exact Heap.lt_size e
  | frz ob u => obtain ⟨e, _⟩ := x; exact Heap.lt_size e
  | tbl ps => exact Heap.lt_size (show h.get? a = some _ from x)
  | met f y => exact Heap.lt_size (show h.get? a = some _ from x)
  | ext φ => obtain ⟨_, ⟨_, e⟩, _⟩ := x; exact Heap.lt_size e
theorem Paired.mapP {α β : Type} {F G : α → β → Prop} : ∀ {l₁ : List α} {l₂ : List β}, Paired F l₁ l₂ → (∀ a b, F a b → G a b) → Paired G l₁ l₂
  | _, _, .nil, _ => .nil
  | _, _, .cons r t, f => .cons (f _ _ r) (Paired.mapP t f)
theorem ObjOk.stay (x : ObjOk P w H h a o) (k : ∀ b u, (b = a ∨ H b = some (.own a)) → h.get? b = some u → h'.get? b = some u)
    (ho : ∀ b, H b = some (.own a) → H' b = some (.own a)) (ht : ∀ b xs, H b = some (.tup xs) → H' b = some (.tup xs)) : ObjOk P w H' h' a o := by
  induction o with
  | lst xs => obtain ⟨z, its, n, r, e⟩ := x; exact ⟨z, its, n, r, k _ _ (.inl rfl) e⟩
  | tup xs => obtain ⟨z, its, r, ob, e, c⟩ := x; exact ⟨z, its, r, ob, k _ _ (.inl rfl) e, c⟩
  | dK kvs => obtain ⟨z, y, vs, r, ob, es, ep, e, c⟩ := x; exact ⟨z, y, vs, r, ob, es, ep, k _ _ (.inl rfl) e, c⟩
  | dT kvs =>
    obtain ⟨z, y, xs, r, ob, es, ep, e, c⟩ := x
    exact ⟨z, y, xs, Paired.mapP r fun p q z => ⟨z.1, ht _ _ z.2.1, z.2.2⟩, ob, es, ep, k _ _ (.inl rfl) e, c⟩
  | set S n => obtain ⟨ob, es, ep, t, e, c⟩ := x; exact ⟨ob, es, ep, t, k _ _ (.inl rfl) e, c⟩
  | ins C dx fs =>
    obtain ⟨d, z, ne, e, mA, ⟨od, es, ep, e2, c⟩, r⟩ := x
    exact ⟨ho _ d, z, ne, k _ _ (.inl rfl) e, mA, ⟨od, es, ep, k _ _ (.inr d) e2, c⟩, r⟩
  | own y => obtain ⟨ob, e⟩ := x; exact ⟨ob, k _ _ (.inl rfl) e⟩
  | xd fs => obtain ⟨mA, ⟨od, es, ep, e, c⟩, r⟩ := x; exact ⟨mA, ⟨od, es, ep, k _ _ (.inl rfl) e, c⟩, r⟩
  | rng lo hi => obtain ⟨t, u, v, e⟩ := x; exact ⟨t, u, v, k _ _ (.inl rfl) e⟩
  | frz ob u ih => obtain ⟨e, q⟩ := x; exact ⟨k _ _ (.inl rfl) e, ih q⟩
  | tbl ps =>
    have e : h.get? a = some { cls := .none, data := .fields ps } := x
    show h'.get? a = some { cls := .none, data := .fields ps }
    exact k a _ (.inl rfl) e
  | met f y =>
    have e : h.get? a = some (PySem.W.methodObj (.ref f) (.ref y)) := x
    show h'.get? a = some (PySem.W.methodObj (.ref f) (.ref y))
    exact k a _ (.inl rfl) e
  | ext φ => obtain ⟨p, ⟨o, e⟩, st⟩ := x; exact ⟨st _ _ p fun o q => k _ _ (.inl rfl) q, ⟨o, k _ _ (.inl rfl) e⟩, st⟩
theorem HOk.lt (x : HOk P w H h) (e : H a = some o) : a < h.objs.size := (x a o e).lt
theorem HOk.fresh (x : HOk P w H h) (e : h.objs.size ≤ a) : H a = none := by
  cases q : H a with
  | none => rfl
  | some u => exact absurd (Nat.lt_of_lt_of_le (x.lt q) e) (Nat.lt_irrefl _)
theorem HOk.kept (x : HOk P w H h) (k : ∀ b u, h.get? b = some u → h'.get? b = some u) : HOk P w H h' := fun a o e =>
  (x a o e).stay (fun b u _ q => k b u q) (fun _ q => q) fun _ _ q => q
theorem HOk.laid (x : HOk P w H h) (k : ∀ b u, h.get? b = some u → h'.get? b = some u) (hp : h.objs.size ≤ a) (new : ObjOk P w (upd H a o) h' a o) : HOk P w (upd H a o) h' := fun b u e => by
  have hn := x.fresh hp
  by_cases hb : b = a
  · subst hb; rw [upd_same] at e; cases e; exact new
  · rw [upd_ne hb] at e
    exact (x b u e).stay (fun c v _ q => k c v q) (fun c q => by rw [upd_ne (ne_of_none q hn)]; exact q) fun c xs q => by rw [upd_ne (ne_of_none q hn)]; exact q
end
def Rd (H : Hp) (a : Addr) (u : HO) : Prop := H a = some u ∨ ∃ o, H a = some (.frz o u)
theorem Rd.ok {P : Program} {w : World} {H : Hp} {h : Heap} {a : Addr} {u : HO} (r : Rd H a u) (x : HOk P w H h) : ObjOk P w H h a u := by
  rcases r with r | ⟨o, r⟩
  · exact x a u r
  · obtain ⟨_, q⟩ := x a _ r
    exact q
def Mut : Option HO → Prop
  | some (.lst _) => True
  | some (.dK _) => True
  | some (.dT _) => True
  | some (.set _ _) => True
  | some (.ins _ _ _) => True
  | some (.ext _) => True
  | _ => False
section
variable {P : Program} {w : World} {H : Hp} {h h' : Heap} {x e : Addr} {o' : HO}
theorem HOk.write (ok : HOk P w H h) (mu : Mut (H x)) (he : e = x ∨ H e = some (.own x)) (k : ∀ b u, b ≠ e → h.get? b = some u → h'.get? b = some u) (heo : ∃ u, h'.get? e = some u)
    (new : ObjOk P w (upd H x o') h' x o') : HOk P w (upd H x o') h' := fun b u q => by
  have nown : ∀ c y, H c = some (.own y) → c ≠ x := fun c y r z => by subst z; rw [r] at mu; exact mu
  have ntup : ∀ c xs, H c = some (.tup xs) → c ≠ x := fun c xs r z => by subst z; rw [r] at mu; exact mu
  by_cases hb : b = x
  · subst hb; rw [upd_same] at q; cases q; exact new
  · rw [upd_ne hb] at q
    by_cases hbe : b = e
    · have q' : H b = some (.own x) := by
        rcases he with z | z
        · exact absurd (hbe.trans z) hb
        · rw [hbe]; exact z
      rw [q] at q'; cases q'
      obtain ⟨v, hv⟩ := heo
      exact ⟨v, by rw [hbe]; exact hv⟩
    · refine (ok b u q).stay (fun c v hc r => k c v ?_ r) (fun c r => by rw [upd_ne (nown c b r)]; exact r) fun c xs r => by rw [upd_ne (ntup c xs r)]; exact r
      rcases hc with rfl | hc
      · exact hbe
      · rintro rfl
        rcases he with z | z
        · exact nown c b hc z
        · rw [hc] at z; cases z; exact hb rfl
end
set_option genInjectivity false in
set_option genSizeOf false in
structure Un (fs ex : List Addr) (H H' : Hp) (h h' : Heap) : Prop where
  keep : ∀ b o, h.get? b = some o → H b = none → b ∉ fs → b ∉ ex → h'.get? b = some o
  slot : ∀ b o, h.get? b = some o → H b = none → b ∈ fs → b ∉ ex → ∃ sl, h'.get? b = some { o with slots := sl }
  free : ∀ b o, h.get? b = some o → H b = none → b ∉ ex → H' b = none
  there : ∀ b o, h.get? b = some o → b ∉ ex → ∃ o', h'.get? b = some o'
  tups : ∀ b xs, H b = some (.tup xs) → H' b = some (.tup xs)
  frzs : ∀ b o u, H b = some (.frz o u) → H' b = some (.frz o u)
  tbls : ∀ b ps, H b = some (.tbl ps) → ∃ more, H' b = some (.tbl (ps ++ more))
section
variable {fs fs' ex ex' : List Addr} {H H1 H2 : Hp} {h h1 h2 h' : Heap} {a x e : Addr} {o : HO}
theorem Un.any (u : Un fs ex H H1 h h1) {b : Addr} {ob : Obj} (q : h.get? b = some ob) (n : H b = none) (hx : b ∉ ex) : ∃ sl, h1.get? b = some { ob with slots := sl } := by
  by_cases hb : b ∈ fs
  · exact u.slot b ob q n hb hx
  · exact ⟨ob.slots, u.keep b ob q n hb hx⟩
theorem Un.kept (k : ∀ b u, h.get? b = some u → h'.get? b = some u) : Un fs ex H H h h' :=
  ⟨fun b ob q _ _ _ => k b ob q, fun b ob q _ _ _ => ⟨ob.slots, k b ob q⟩, fun _ _ _ n _ => n, fun b ob q _ => ⟨ob, k b ob q⟩, fun _ _ q => q, fun _ _ _ q => q, fun _ ps q => ⟨#[], by rw [q]; simp⟩⟩
theorem Un.refl : Un fs ex H H h h := Un.kept fun _ _ q => q
theorem Un.laid (k : ∀ b u, h.get? b = some u → h'.get? b = some u) (hp : h.objs.size ≤ a) (hn : H a = none) : Un fs ex H (upd H a o) h h' where
  keep := fun b u q _ _ _ => k b u q
  slot := fun b u q _ _ _ => ⟨u.slots, k b u q⟩
  free := fun b u q n _ => by rw [upd_ne (Nat.ne_of_lt (Nat.lt_of_lt_of_le (Heap.lt_size q) hp))]; exact n
  there := fun b u q _ => ⟨u, k b u q⟩
  tups := fun b xs q => by rw [upd_ne (ne_of_none q hn)]; exact q
  frzs := fun b u xs q => by rw [upd_ne (ne_of_none q hn)]; exact q
  tbls := fun b ps q => ⟨#[], by rw [upd_ne (ne_of_none q hn), q]; simp⟩
theorem Un.write (mu : Mut (H x)) (he : e = x ∨ H e = some (.own x)) (k : ∀ b u, b ≠ e → h.get? b = some u → h'.get? b = some u) (heo : ∃ u, h'.get? e = some u) : Un fs ex H (upd H x o) h h' := by
  have hx : ∀ b, H b = none → b ≠ x := fun b n z => by subst z; rw [n] at mu; exact mu
  have hb : ∀ b, H b = none → b ≠ e := fun b n z => by
    subst z
    rcases he with r | r
    · exact hx b n r
    · rw [n] at r; cases r
  have hm : ∀ b u, H b = some u → ¬ Mut (some u) → b ≠ x := fun b u q nm z => by subst z; rw [q] at mu; exact nm mu
  refine ⟨fun b u q n _ _ => k b u (hb b n) q, fun b u q n _ _ => ⟨u.slots, k b u (hb b n) q⟩, fun b u q n _ => by rw [upd_ne (hx b n)]; exact n, fun b u q _ => ?_,
    fun b xs q => by rw [upd_ne (hm b _ q fun z => z)]; exact q, fun b u xs q => by rw [upd_ne (hm b _ q fun z => z)]; exact q, fun b ps q => ⟨#[], by rw [upd_ne (hm b _ q fun z => z), q]; simp⟩⟩
  by_cases hbe : b = e
  · subst hbe; exact heo
  · exact ⟨u, k b u hbe q⟩
end
def trk (h : Heap) (H : Hp) : List Addr := (List.range h.objs.size).filter fun a => (H a).isSome
def hidT (h : Heap) (H : Hp) : Heap := PySem.W.hideAll h (trk h H)
theorem hidT_size (h : Heap) (H : Hp) : (hidT h H).objs.size = h.objs.size := PySem.W.hideAll_size _ _
theorem hidT_get {h : Heap} {H : Hp} {b : Addr} {o : Obj} (e : h.get? b = some o) (n : H b = none) : (hidT h H).get? b = some o :=
  PySem.W.hideAll_get _ e fun hm => by
    have q : (H b).isSome = true := (List.mem_filter.mp hm).2
    rw [n] at q; simp at q
theorem of_hidT {h : Heap} {H : Hp} {b : Addr} {o : Obj} (e : (hidT h H).get? b = some o) : h.get? b = some o ∧ H b = none := by
  have e' : h.get? b = some o := PySem.W.of_hideAll (trk h H) e
  refine ⟨e', ?_⟩
  cases q : H b with
  | none => rfl
  | some x =>
    have hm : b ∈ trk h H := List.mem_filter.mpr ⟨List.mem_range.mpr (Heap.lt_size e'), by simp [q]⟩
    have z : (hidT h H).get? b = none := PySem.W.hideAll_none (trk h H) hm
    rw [z] at e; cases e
def allNews (g h : Heap) (L : Addr) : List (Addr × Obj) := (List.range h.objs.size).filterMap fun a => if a = L ∨ (g.get? a).isSome = true then none else (h.get? a).map fun o => (a, o)
def rest (g h : Heap) (L d : Addr) : List (Addr × Obj) := (allNews g h L).filter fun p => decide (p.1 ≠ d)
end L2
namespace L2
open PySem PySem.Spec PyProof.Rows
set_option genInjectivity false in
set_option genSizeOf false in
structure Mod (K : PySem.W.Frag) (mg : Str → Option Value) (base : Heap) : Prop where
  kin : K.In base
  glob : base.Ns mainGlobals mg
  blt : ∃ mb, base.Ns builtinsNs mb ∧ ∀ x : Str, x ≠ "__name__" → mb x = bootBuiltins x
  nolimit : base.NoLimit
set_option genInjectivity false in
set_option genSizeOf false in
structure Cx where
  prog : Program
  w : World
  K : PySem.W.Frag
  mg : Str → Option Value
  base : Heap
  A : Around
  N : List Str
  s₀ : Shared
  H₀ : Hp
  env : Env
  outer : List Env
  stack : List Env
  ex : List Addr
  fn : Str → Bool
  calm : Bool
  pn : List (Addr × Obj)
  xe : Value → Shared → Prop
def frs (l : List Env) : List Addr := l.filterMap (·.frame)
abbrev Cx.fs (X : Cx) : List Addr := frs X.outer
def Vis (sc : Scope) (x : Str) : Prop := sc.names.lookup x = some .local ∨ sc.names.lookup x = some .cell ∨ sc.names.lookup x = some .free
def Loc (sc : Scope) (x : Str) : Prop := sc.names.lookup x = some .local ∨ sc.names.lookup x = some .cell
def Look (env : Env) (h : Heap) (m : Str → Option Value) (x : Str) (u : Value) : Prop :=
  (env.kindOf x = some .local ∧ m x = some u) ∨ ((env.kindOf x = some .cell ∨ env.kindOf x = some .free) ∧ ∃ c, env.cells.lookup x = some c ∧ h.IsCell c (some u))
set_option genInjectivity false in
set_option genSizeOf false in
structure Cx.Ok (X : Cx) : Prop where
  mod : Mod X.K X.mg X.base
  kind : X.env.scope.kind = .function
  glob : X.env.globals = mainGlobals
  blt : X.env.builtins = builtinsNs
  above : X.s₀.heap.objs.size ≤ X.env.locals
  inj : ∀ x y c, X.env.cells.lookup x = some c → X.env.cells.lookup y = some c → x = y
  has : ∀ x, (X.env.kindOf x = some .cell ∨ X.env.kindOf x = some .free) → ∃ c, X.env.cells.lookup x = some c
  cab : ∀ x c, X.fn x = true → X.env.cells.lookup x = some c → X.s₀.heap.objs.size ≤ c
  hd : X.calm = true → X.A.handled = none
  frames : X.A.frames = some X.stack
  stk : X.stack = X.outer ∨ (X.stack = X.env :: X.outer ∧ X.env.frame = some X.env.locals)
  exf : ∀ b ∈ X.ex, b ≠ X.env.locals ∧ ∀ x c, X.env.cells.lookup x = some c → c ≠ b
  bs : ∀ b o, X.base.get? b = some o → X.s₀.heap.get? b = some o ∧ X.H₀ b = none
  bsz : X.base.objs.size ≤ X.s₀.heap.objs.size
  noex : ∀ b o, X.base.get? b = some o → b ∉ X.ex
  exfs : ∀ b ∈ X.ex, b ∉ X.fs
  funs : X.s₀.heap.FunFrames X.base X.outer
  frf : ∀ b ∈ X.fs, X.H₀ b = none
set_option genInjectivity false in
set_option genSizeOf false in
structure Inv (X : Cx) (pins : List (Addr × Obj)) (σ : List (Option V)) (H : Hp) (s : Shared) : Prop where
  ok : X.Ok
  os : s.os = X.s₀.os
  bare : AllBare s.gens
  base : Un X.fs X.ex X.H₀ H X.s₀.heap s.heap
  loc : ∃ m, s.heap.Ns X.env.locals m ∧ ∀ (i : Nat) (x : Str) (v : V), X.N[i]? = some x → σ[i]? = some (some v) → Vis X.env.scope x → ∃ u, RelV v u ∧ Look X.env s.heap m x u
  cell : ∀ x c, X.env.cells.lookup x = some c → ∃ v, s.heap.IsCell c v
  free : H X.env.locals = none
  freeC : ∀ x c, X.env.cells.lookup x = some c → H c = none
  pin : ∀ p ∈ X.pn ++ pins, s.heap.get? p.1 = some p.2 ∧ H p.1 = none ∧ p.1 ≠ X.env.locals ∧ p.1 ∉ X.fs ∧ ∀ v, p.2.data ≠ .cell v
  hok : HOk X.prog X.w H s.heap
  len : σ.length = X.N.length
section
variable {X : Cx} {pins : List (Addr × Obj)} {σ : List (Option V)} {H H' : Hp} {s : Shared} {h' : Heap}
theorem Cx.Ok.nofr (ok : X.Ok) {b : Addr} {o : Obj} (e : X.base.get? b = some o) : b ∉ X.fs := fun hb => by
  have := (ok.funs.mem hb).1
  rw [e] at this; cases this
theorem Inv.bs (I : Inv X pins σ H s) : ∀ b o, X.base.get? b = some o → s.heap.get? b = some o ∧ H b = none := fun b o e =>
  ⟨I.base.keep b o (I.ok.bs b o e).1 (I.ok.bs b o e).2 (I.ok.nofr e) (I.ok.noex b o e), I.base.free b o (I.ok.bs b o e).1 (I.ok.bs b o e).2 (I.ok.noex b o e)⟩
theorem Inv.bk (I : Inv X pins σ H s) : ∀ b o, X.base.get? b = some o → s.heap.get? b = some o := fun b o e => (I.bs b o e).1
theorem Inv.mod (I : Inv X pins σ H s) : Mod X.K X.mg X.base := I.ok.mod
theorem Inv.kIn (I : Inv X pins σ H s) : X.K.In s.heap := I.ok.mod.kin.keeps I.bk
theorem Inv.lt (I : Inv X pins σ H s) : X.env.locals < s.heap.objs.size := let ⟨_, hn, _⟩ := I.loc; hn.lt
theorem Inv.sz (I : Inv X pins σ H s) : X.s₀.heap.objs.size ≤ s.heap.objs.size := Nat.le_trans I.ok.above (Nat.le_of_lt I.lt)
theorem Inv.nofs (I : Inv X pins σ H s) {a : Addr} (h : s.heap.objs.size ≤ a) : a ∉ X.fs := fun hb => by
  obtain ⟨_, o, ho, _⟩ := I.ok.funs.mem hb
  exact absurd (Nat.lt_of_lt_of_le (Heap.lt_size ho) (Nat.le_trans I.sz h)) (Nat.lt_irrefl _)
theorem Inv.cne (I : Inv X pins σ H s) : ∀ x c, X.env.cells.lookup x = some c → c ≠ X.env.locals := fun x c e z => by
  obtain ⟨v, o, ho, hd⟩ := I.cell x c e
  obtain ⟨m, ⟨o', es, ep, ho', hd', _⟩, _⟩ := I.loc
  rw [z, ho'] at ho; cases ho; rw [hd'] at hd; cases hd
theorem Inv.funs (I : Inv X pins σ H s) : s.heap.FunFrames X.base X.outer := by
  have all : ∀ (l : List Env), (∀ b ∈ frs l, b ∈ X.fs) → X.s₀.heap.FunFrames X.base l → s.heap.FunFrames X.base l := by
    intro l
    induction l with
    | nil => intro _ _; trivial
    | cons env r ih =>
      intro hs hl
      obtain ⟨hk, ⟨L, o, hf, hn, ho, hd⟩, hr⟩ := hl
      have hL : L ∈ X.fs := hs L (by unfold frs; rw [List.filterMap_cons, hf]; exact List.mem_cons_self)
      obtain ⟨sl, e⟩ := I.base.slot L o ho (I.ok.frf L hL) hL fun z => I.ok.exfs L z hL
      exact ⟨hk, ⟨L, _, hf, hn, e, hd⟩, ih (fun b hb => hs b (by unfold frs; rw [List.filterMap_cons, hf]; exact List.mem_cons_of_mem _ hb)) hr⟩
  exact all X.outer (fun _ hb => hb) I.ok.funs
theorem Inv.stack (I : Inv X pins σ H s) : s.heap.FunFrames X.base X.stack := by
  rcases I.ok.stk with e | ⟨e, hf⟩
  · rw [e]; exact I.funs
  · rw [e]
    obtain ⟨m, hn, _⟩ := I.loc
    refine .cons (by rw [I.ok.kind]; decide) hf hn ?_ I.funs
    exact Heap.get?_none_of_le (Nat.le_trans I.ok.bsz I.ok.above)
theorem Inv.stkSub (I : Inv X pins σ H s) : ∀ b ∈ frs X.stack, b ∈ X.env.locals :: X.fs := fun b hb => by
  rcases I.ok.stk with e | ⟨e, hf⟩
  · rw [e] at hb; exact List.mem_cons_of_mem _ hb
  · rw [e] at hb
    unfold frs at hb
    rw [List.filterMap_cons, hf] at hb
    exact hb
theorem Inv.stkFree (I : Inv X pins σ H s) : ∀ b ∈ frs X.stack, H b = none := fun b hb => by
  rcases List.mem_cons.mp (I.stkSub b hb) with e | hb
  · rw [e]; exact I.free
  · obtain ⟨_, o, ho, _⟩ := I.ok.funs.mem hb
    exact I.base.free b o ho (I.ok.frf b hb) fun z => I.ok.exfs b z hb
theorem Inv.step {g' : Array GenState} {t' : Nat} {d' : Drawn} {ch : List Addr} (I : Inv X pins σ H s)
    (hch : ∀ b ∈ ch, (b ∈ X.ex ∨ X.s₀.heap.objs.size ≤ b) ∧ b ≠ X.env.locals ∧ (∀ x c, X.env.cells.lookup x = some c → c ≠ b) ∧ ∀ p ∈ X.pn ++ pins, p.1 ≠ b)
    (keep : ∀ b o, b ≠ X.env.locals → b ∉ X.fs → b ∉ ch → s.heap.get? b = some o → H b = none → h'.get? b = some o)
    (slot : ∀ b o, b ≠ X.env.locals → b ∈ X.fs → b ∉ ch → s.heap.get? b = some o → H b = none → ∃ sl, h'.get? b = some { o with slots := sl }) (free : ∀ b o, b ∉ ch → s.heap.get? b = some o → H b = none → H' b = none)
    (there : ∀ b o, b ∉ ch → s.heap.get? b = some o → ∃ o', h'.get? b = some o')
    (tups : ∀ b xs, H b = some (.tup xs) → H' b = some (.tup xs)) (frzs : ∀ b o u, H b = some (.frz o u) → H' b = some (.frz o u)) (tbls : ∀ b ps, H b = some (.tbl ps) → ∃ more, H' b = some (.tbl (ps ++ more)))
    (ns : ∀ m, s.heap.Ns X.env.locals m → h'.Ns X.env.locals m) (hok : HOk X.prog X.w H' h') (hg : AllBare g') :
    Inv X pins σ H' { s with heap := h', gens := g', drawn := d', toks := t' } := by
  have neL : ∀ b o, X.s₀.heap.get? b = some o → b ≠ X.env.locals := fun b o e => Nat.ne_of_lt (Nat.lt_of_lt_of_le (Heap.lt_size e) I.ok.above)
  have neC : ∀ b o, X.s₀.heap.get? b = some o → b ∉ X.ex → b ∉ ch := fun b o e hx hb => by
    rcases (hch b hb).1 with z | z
    · exact hx z
    · exact absurd (Nat.lt_of_lt_of_le (Heap.lt_size e) z) (Nat.lt_irrefl _)
  have cellK : ∀ x c, X.env.cells.lookup x = some c → ∀ v, s.heap.IsCell c v → h'.IsCell c v := fun x c e v ⟨o, ho, hd⟩ => by
    have nch : c ∉ ch := fun z => (hch c z).2.2.1 x c e rfl
    by_cases hc : c ∈ X.fs
    · obtain ⟨sl, q⟩ := slot c o (I.cne x c e) hc nch ho (I.freeC x c e)
      exact ⟨_, q, hd⟩
    · exact ⟨o, keep c o (I.cne x c e) hc nch ho (I.freeC x c e), hd⟩
  refine ⟨I.ok, I.os, hg, ⟨fun b o e n hb hx => ?_, fun b o e n hb hx => ?_, fun b o e n hx => ?_, fun b o e hx => ?_, fun b xs e => tups b xs (I.base.tups b xs e), fun b o xs e => frzs b o xs (I.base.frzs b o xs e), fun b ps e => ?_⟩, ?_, fun x c e => ?_, ?_, fun x c e => ?_, fun p hp => ?_, hok, I.len⟩
  · exact keep b o (neL b o e) hb (neC b o e hx) (I.base.keep b o e n hb hx) (I.base.free b o e n hx)
  · obtain ⟨sl, e1⟩ := I.base.slot b o e n hb hx
    obtain ⟨sl', e2⟩ := slot b _ (neL b o e) hb (neC b o e hx) e1 (I.base.free b o e n hx)
    exact ⟨sl', e2⟩
  · obtain ⟨o', e1⟩ := I.base.there b o e hx
    exact free b o' (neC b o e hx) e1 (I.base.free b o e n hx)
  · obtain ⟨o', e1⟩ := I.base.there b o e hx
    exact there b o' (neC b o e hx) e1
  · obtain ⟨m1, e1⟩ := I.base.tbls b ps e
    obtain ⟨m2, e2⟩ := tbls b _ e1
    exact ⟨m1 ++ m2, by rw [e2, Array.append_assoc]⟩
  · obtain ⟨m, hn, hl⟩ := I.loc
    refine ⟨m, ns m hn, fun i x v e1 e2 e3 => ?_⟩
    obtain ⟨u, r, l⟩ := hl i x v e1 e2 e3
    refine ⟨u, r, ?_⟩
    rcases l with l | ⟨k, c, e, z⟩
    · exact .inl l
    · exact .inr ⟨k, c, e, cellK x c e _ z⟩
  · obtain ⟨v, z⟩ := I.cell x c e
    exact ⟨v, cellK x c e v z⟩
  · obtain ⟨m, ⟨o, _, _, ho, _⟩, _⟩ := I.loc
    exact free _ o (fun z => (hch _ z).2.1 rfl) ho I.free
  · obtain ⟨v, o, ho, hd⟩ := I.cell x c e
    exact free c o (fun z => (hch c z).2.2.1 x c e rfl) ho (I.freeC x c e)
  · obtain ⟨e, n, ne, nf, d⟩ := I.pin p hp
    have nch : p.1 ∉ ch := fun z => (hch p.1 z).2.2.2 p hp rfl
    exact ⟨keep p.1 p.2 ne nf nch e n, free p.1 p.2 nch e n, ne, nf, d⟩
theorem Inv.un {t' : Nat} (I : Inv X pins σ H s) (u : Un X.fs [] H H' s.heap h') (hok : HOk X.prog X.w H' h') : Inv X pins σ H' { s with heap := h', toks := t' } := by
  obtain ⟨m, ⟨o, es, ep, ho, r⟩, _⟩ := id I.loc
  obtain ⟨sl, hL⟩ := u.any ho I.free (by simp)
  exact I.step (g' := s.gens) (d' := s.drawn) (ch := []) (fun _ z => nomatch z) (fun b o _ hb _ e n => u.keep b o e n hb (by simp)) (fun b o _ hb _ e n => u.slot b o e n hb (by simp)) (fun b o _ e n => u.free b o e n (by simp)) (fun b o _ e => u.there b o e (by simp)) u.tups u.frzs u.tbls (fun m' hm => by
    obtain ⟨o', es', ep', ho', r'⟩ := hm
    rw [ho] at ho'; cases ho'
    exact ⟨_, es', ep', hL, r'⟩) hok I.bare
theorem Inv.call {g' : Array GenState} {t' : Nat} {d' : Drawn} {ch : List Addr} (I : Inv X pins σ H s) (u : Un (frs X.stack) ch H H' s.heap h') (hok : HOk X.prog X.w H' h') (hg : AllBare g')
    (hch : ∀ b ∈ ch, (b ∈ X.ex ∨ X.s₀.heap.objs.size ≤ b) ∧ b ≠ X.env.locals ∧ (∀ x c, X.env.cells.lookup x = some c → c ≠ b) ∧ ∀ p ∈ X.pn ++ pins, p.1 ≠ b) :
    Inv X pins σ H' { s with heap := h', gens := g', drawn := d', toks := t' } := by
  obtain ⟨m, ⟨o, es, ep, ho, r⟩, _⟩ := id I.loc
  obtain ⟨sl, hL⟩ := u.any ho I.free fun z => (hch _ z).2.1 rfl
  exact I.step (ch := ch) hch (fun b o hL hb hc e n => u.keep b o e n (fun z => (List.mem_cons.mp (I.stkSub b z)).elim hL hb) hc) (fun b o _ _ hc e n => u.any e n hc) (fun b o hc e n => u.free b o e n hc) (fun b o hc e => u.there b o e hc) u.tups u.frzs u.tbls (fun m' hm => by
    obtain ⟨o', es', ep', ho', r'⟩ := hm
    rw [ho] at ho'; cases ho'
    exact ⟨_, es', ep', hL, r'⟩) hok hg
theorem Inv.turned {t' : Nat} {it : Addr} (I : Inv X pins σ H s) (k : ∀ b o, b ≠ it → s.heap.get? b = some o → h'.get? b = some o) (hn : H it = none) (hL : it ≠ X.env.locals)
    (h1 : it ∈ X.ex ∨ X.s₀.heap.objs.size ≤ it) (h2 : ∀ x c, X.env.cells.lookup x = some c → c ≠ it) (h3 : ∀ p ∈ X.pn ++ pins, p.1 ≠ it) : Inv X pins σ H { s with heap := h', toks := t' } := by
  have nit : ∀ b u, H b = some u → b ≠ it := fun b u e z => by rw [z, hn] at e; cases e
  refine I.step (g' := s.gens) (d' := s.drawn) (ch := [it]) (fun b hb => ?_) (fun b o _ _ hc e _ => k b o (fun z => hc (by simp [z])) e) (fun b o _ _ hc e _ => ⟨o.slots, k b o (fun z => hc (by simp [z])) e⟩) (fun _ _ _ _ n => n)
    (fun b o hc e => ⟨o, k b o (fun z => hc (by simp [z])) e⟩) (fun _ _ e => e) (fun _ _ _ e => e) (fun b ps e => ⟨#[], by rw [e]; simp⟩) (fun m hm => ?_) (fun b u e => ?_) I.bare
  · have e : b = it := by simpa using hb
    subst e
    exact ⟨h1, hL, h2, h3⟩
  · obtain ⟨o, es, ep, ho, r⟩ := hm
    exact ⟨o, es, ep, k _ o (Ne.symm hL) ho, r⟩
  · refine (I.hok b u e).stay (fun c v hc q => k c v ?_ q) (fun _ q => q) fun _ _ q => q
    rcases hc with z | z
    · rw [z]; exact nit b u e
    · exact nit c _ z
theorem Inv.tok (I : Inv X pins σ H s) (t : Nat) : Inv X pins σ H { s with toks := t } := I.un (h' := s.heap) (t' := t) Un.refl I.hok
theorem Inv.kept {t' : Nat} (I : Inv X pins σ H s) (k : ∀ b u, s.heap.get? b = some u → h'.get? b = some u) : Inv X pins σ H { s with heap := h', toks := t' } := I.un (Un.kept k) (I.hok.kept k)
theorem Inv.laid {a : Addr} {o : HO} {t' : Nat} (I : Inv X pins σ H s) (k : ∀ b u, s.heap.get? b = some u → h'.get? b = some u) (hp : s.heap.objs.size ≤ a) (new : ObjOk X.prog X.w (upd H a o) h' a o) :
    Inv X pins σ (upd H a o) { s with heap := h', toks := t' } := I.un (Un.laid k hp (I.hok.fresh hp)) (I.hok.laid k hp new)
theorem Inv.write {x e : Addr} {o : HO} {t' : Nat} (I : Inv X pins σ H s) (mu : Mut (H x)) (he : e = x ∨ H e = some (.own x)) (k : ∀ b u, b ≠ e → s.heap.get? b = some u → h'.get? b = some u) (heo : ∃ u, h'.get? e = some u)
    (new : ObjOk X.prog X.w (upd H x o) h' x o) : Inv X pins σ (upd H x o) { s with heap := h', toks := t' } := I.un (Un.write mu he k heo) (I.hok.write mu he k heo new)
theorem Inv.pins_of {pins' : List (Addr × Obj)} (I : Inv X pins σ H s) (h : ∀ p ∈ pins', s.heap.get? p.1 = some p.2 ∧ H p.1 = none ∧ p.1 ≠ X.env.locals ∧ p.1 ∉ X.fs ∧ ∀ v, p.2.data ≠ .cell v) : Inv X pins' σ H s :=
  ⟨I.ok, I.os, I.bare, I.base, I.loc, I.cell, I.free, I.freeC, fun p hp => (List.mem_append.mp hp).elim (fun z => I.pin p (List.mem_append_left _ z)) (h p), I.hok, I.len⟩
theorem nodup_ix {N : List Str} (hN : N.Nodup) {i j : Nat} {x : Str} (a : N[i]? = some x) (b : N[j]? = some x) : i = j := by
  obtain ⟨h1, e1⟩ := List.getElem?_eq_some_iff.mp a
  obtain ⟨h2, e2⟩ := List.getElem?_eq_some_iff.mp b
  exact (List.getElem_inj hN).mp (e1.trans e2.symm)
theorem store_ok2 {M : Model} {A : Around} {E : Value → Shared → Prop} {i : Nat} {x : Str} {v : V} {u : Value} {Q : Unit → Shared → Prop} (I : Inv X pins σ H s) (hN : X.N.Nodup) (hi : X.N[i]? = some x) (hx : Loc X.env.scope x) (r : RelV v u)
    (h : ∀ s', Inv X pins (σ.set i (some v)) H s' → (∃ a, Heap.SameBut a s.heap s'.heap ∧ (a = X.env.locals ∨ X.env.cells.lookup x = some a)) → Q () s') (hf : X.fn x = true ∨ X.env.scope.names.lookup x = some .local := by first | exact .inl rfl | exact .inr rfl | assumption) : wpAny M A (storeName X.env x u) Q E s := by
  obtain ⟨m, hn, hl⟩ := id I.loc
  have hcls : (X.env.scope.kind == .class || (X.env.scope.kind == .module && X.env.locals != X.env.globals)) = false := by rw [I.ok.kind]; rfl
  have hiσ : i < σ.length := by rw [I.len]; exact (List.getElem?_eq_some_iff.mp hi).1
  have cne := I.cne
  have tracked : ∀ {a : Addr} {h' : Heap}, (∃ o, s.heap.get? a = some o ∧ H a = none) → Heap.SameBut a s.heap h' → HOk X.prog X.w H h' := fun {a h'} ha hs b ob e => by
    obtain ⟨_, _, hfree⟩ := ha
    refine (I.hok b ob e).stay (fun c w' hc q => (hs.2 c ?_).trans q) (fun _ q => q) fun _ _ q => q
    rintro rfl
    rcases hc with rfl | hc
    · rw [hfree] at e; cases e
    · rw [hfree] at hc; cases hc
  rcases hx with hk | hk
  · refine wpAny_storeName_local hk hn (fun h' hn' hs => ?_) hcls
    obtain ⟨oL, _, _, hoL, _⟩ := id hn
    refine h _ ⟨I.ok, I.os, I.bare, ⟨fun b o e n hb hx => ?_, fun b o e n hb hx => ?_, I.base.free, fun b o e hx => ?_, I.base.tups, I.base.frzs, I.base.tbls⟩, ⟨_, hn', fun j y v' e1 e2 e3 => ?_⟩, fun y c e => ?_, I.free, I.freeC, fun p hp => ?_, tracked ⟨oL, hoL, I.free⟩ hs, by simpa using I.len⟩ ⟨_, hs, .inl rfl⟩
    · exact (hs.2 b (Nat.ne_of_lt (Nat.lt_of_lt_of_le (Heap.lt_size e) I.ok.above))).trans (I.base.keep b o e n hb hx)
    · obtain ⟨sl, e1⟩ := I.base.slot b o e n hb hx
      exact ⟨sl, (hs.2 b (Nat.ne_of_lt (Nat.lt_of_lt_of_le (Heap.lt_size e) I.ok.above))).trans e1⟩
    · obtain ⟨o', e1⟩ := I.base.there b o e hx
      exact ⟨o', (hs.2 b (Nat.ne_of_lt (Nat.lt_of_lt_of_le (Heap.lt_size e) I.ok.above))).trans e1⟩
    · by_cases hj : j = i
      · subst hj
        rw [hi] at e1; cases e1
        rw [List.getElem?_set_self hiσ] at e2
        cases e2
        exact ⟨u, r, .inl ⟨hk, by simp⟩⟩
      · rw [List.getElem?_set_ne (Ne.symm hj)] at e2
        obtain ⟨u', r', q⟩ := hl j y v' e1 e2 e3
        refine ⟨u', r', ?_⟩
        rcases q with ⟨k, e⟩ | ⟨k, c, e, z⟩
        · refine .inl ⟨k, ?_⟩
          have : y ≠ x := fun e => hj (nodup_ix hN e1 (e ▸ hi))
          simp [this, e]
        · exact .inr ⟨k, c, e, z.sameBut hs (cne y c e)⟩
    · obtain ⟨w', z⟩ := I.cell y c e
      exact ⟨w', z.sameBut hs (cne y c e)⟩
    · obtain ⟨e, n, ne, nf, d⟩ := I.pin p hp
      exact ⟨(hs.2 p.1 ne).trans e, n, ne, nf, d⟩
  · have hfn : X.fn x = true := by
      rcases hf with z | z
      · exact z
      · rw [z] at hk; cases hk
    obtain ⟨c, hc⟩ := I.ok.has x (.inl hk)
    obtain ⟨w', z⟩ := I.cell x c hc
    refine wpAny_storeName_cell I.ok.kind hk hc z (fun h' hc' hs => ?_)
    obtain ⟨oc, hoc, hocd⟩ := id z
    refine h { s with heap := h' } ⟨I.ok, I.os, I.bare, ⟨fun b o e n hb hx => ?_, fun b o e n hb hx => ?_, I.base.free, fun b o e hx => ?_, I.base.tups, I.base.frzs, I.base.tbls⟩, ⟨m, hn.sameBut hs (Ne.symm (cne x c hc)), fun j y v' e1 e2 e3 => ?_⟩, fun y c' e => ?_, I.free, I.freeC, fun p hp => ?_, tracked ⟨oc, hoc, I.freeC x c hc⟩ hs, by simpa using I.len⟩ ⟨c, hs, .inr hc⟩
    · exact (hs.2 b (Nat.ne_of_lt (Nat.lt_of_lt_of_le (Heap.lt_size e) (I.ok.cab x c hfn hc)))).trans (I.base.keep b o e n hb hx)
    · obtain ⟨sl, e1⟩ := I.base.slot b o e n hb hx
      exact ⟨sl, (hs.2 b (Nat.ne_of_lt (Nat.lt_of_lt_of_le (Heap.lt_size e) (I.ok.cab x c hfn hc)))).trans e1⟩
    · obtain ⟨o', e1⟩ := I.base.there b o e hx
      exact ⟨o', (hs.2 b (Nat.ne_of_lt (Nat.lt_of_lt_of_le (Heap.lt_size e) (I.ok.cab x c hfn hc)))).trans e1⟩
    · by_cases hj : j = i
      · subst hj
        rw [hi] at e1; cases e1
        rw [List.getElem?_set_self hiσ] at e2
        cases e2
        exact ⟨u, r, .inr ⟨.inl hk, c, hc, hc'⟩⟩
      · rw [List.getElem?_set_ne (Ne.symm hj)] at e2
        obtain ⟨u', r', q⟩ := hl j y v' e1 e2 e3
        refine ⟨u', r', ?_⟩
        rcases q with q | ⟨k, c', e, z'⟩
        · exact .inl q
        · refine .inr ⟨k, c', e, z'.sameBut hs ?_⟩
          rintro rfl
          exact hj (nodup_ix hN e1 (I.ok.inj _ _ _ e hc ▸ hi))
    · by_cases hcc : c' = c
      · subst hcc; exact ⟨_, hc'⟩
      · obtain ⟨w2, z2⟩ := I.cell y c' e
        exact ⟨w2, z2.sameBut hs hcc⟩
    · obtain ⟨e, n, ne, nf, d⟩ := I.pin p hp
      refine ⟨(hs.2 p.1 ?_).trans e, n, ne, nf, d⟩
      intro q
      rw [q, hoc] at e
      have q' : oc = p.2 := Option.some.inj e
      exact d w' (by rw [← q']; exact hocd)
theorem store_ok {M : Model} {A : Around} {E : Value → Shared → Prop} {i : Nat} {x : Str} {v : V} {u : Value} {Q : Unit → Shared → Prop} (I : Inv X pins σ H s) (hN : X.N.Nodup) (hi : X.N[i]? = some x) (hx : Loc X.env.scope x) (r : RelV v u)
    (h : ∀ s', Inv X pins (σ.set i (some v)) H s' → Q () s') (hf : X.fn x = true ∨ X.env.scope.names.lookup x = some .local := by first | exact .inl rfl | exact .inr rfl | assumption) : wpAny M A (storeName X.env x u) Q E s :=
  store_ok2 I hN hi hx r (fun s' I' _ => h s' I') hf
theorem Inv.call' {s' : Shared} {ch : List Addr} (I : Inv X pins σ H s) (ho : s'.os = s.os) (u : Un (frs X.stack) ch H H' s.heap s'.heap) (hok : HOk X.prog X.w H' s'.heap) (hg : AllBare s'.gens)
    (hch : ∀ b ∈ ch, (b ∈ X.ex ∨ X.s₀.heap.objs.size ≤ b) ∧ b ≠ X.env.locals ∧ (∀ x c, X.env.cells.lookup x = some c → c ≠ b) ∧ ∀ p ∈ X.pn ++ pins, p.1 ≠ b) : Inv X pins σ H' s' := by
  obtain ⟨h', g', d', t', o'⟩ := s'
  have e : o' = s.os := ho
  subst e
  exact I.call (g' := g') (t' := t') (d' := d') u hok hg hch
end
abbrev XK := Value → Option Addr → Hp → Prop
abbrev St := List (Option V)
abbrev VK := V → Hp → Prop
abbrev TE := St → Hp → VK → Prop
abbrev TT := St → Hp → (Bool → Hp → Prop) → Prop
abbrev TA := St → Hp → (List V → Hp → Prop) → Prop
set_option genInjectivity false in
set_option genSizeOf false in
structure Ends where
  nx : St → Hp → Prop
  rt : VK
  bk : St → Hp → Prop := fun _ _ => False
  ct : St → Hp → Prop := fun _ _ => False
abbrev TS := Ends → St → Hp → Prop
def EP (X : Cx) (pins : List (Addr × Obj)) (σ : St) (Q : VK) (u : Value) (s' : Shared) : Prop := ∃ v H', Inv X pins σ H' s' ∧ RelV v u ∧ Q v H'
def TP (X : Cx) (pins : List (Addr × Obj)) (σ : St) (Q : Bool → Hp → Prop) (b : Bool) (s' : Shared) : Prop := ∃ H', Inv X pins σ H' s' ∧ Q b H'
def AP (X : Cx) (pins : List (Addr × Obj)) (σ : St) (Q : List V → Hp → Prop) (us : List Value) (s' : Shared) : Prop := ∃ vs H', Inv X pins σ H' s' ∧ Vals vs us ∧ Q vs H'
def SP (X : Cx) (pins : List (Addr × Obj)) (D : Ends) (f : Flow) (s' : Shared) : Prop :=
  match f with
  | .next => ∃ σ' H', Inv X pins σ' H' s' ∧ D.nx σ' H'
  | .brk => ∃ σ' H', Inv X pins σ' H' s' ∧ D.bk σ' H'
  | .cont => ∃ σ' H', Inv X pins σ' H' s' ∧ D.ct σ' H'
  | .ret u => ∃ v σ' H', Inv X pins σ' H' s' ∧ RelV v u ∧ D.rt v H'
def PE (X : Cx) (e : Expr) (t : TE) : Prop :=
  ∀ (pins : List (Addr × Obj)) (s : Shared) (σ : St) (H : Hp) (Q : VK), Inv X pins σ H s → t σ H Q → wpAny (model X.prog X.w) X.A (eval e X.env) (EP X pins σ Q) X.xe s
def PT (X : Cx) (e : Expr) (t : TT) : Prop :=
  ∀ (pins : List (Addr × Obj)) (s : Shared) (σ : St) (H : Hp) (Q : Bool → Hp → Prop), Inv X pins σ H s → t σ H Q → wpAny (model X.prog X.w) X.A (isTrue e X.env (eval e X.env)) (TP X pins σ Q) X.xe s
def PW (X : Cx) (e : Expr) (t : TT) : Prop :=
  ∀ (whole : Sem Value) (pins : List (Addr × Obj)) (s : Shared) (σ : St) (H : Hp) (Q : Bool → Hp → Prop), Inv X pins σ H s → t σ H Q → wpAny (model X.prog X.w) X.A (isTrue e X.env whole) (TP X pins σ Q) X.xe s
theorem PW.pt {X : Cx} {e : Expr} {t : TT} (h : PW X e t) : PT X e t := h _
def PA (X : Cx) (es : List Expr) (t : TA) : Prop :=
  ∀ (pos : Pos) (pins : List (Addr × Obj)) (s : Shared) (σ : St) (H : Hp) (Q : List V → Hp → Prop), Inv X pins σ H s → t σ H Q → wpAny (model X.prog X.w) X.A (spliced (backTo pos (starEach es X.env))) (AP X pins σ Q) X.xe s
def PS (X : Cx) (st : Stmt) (t : TS) : Prop :=
  ∀ (pins : List (Addr × Obj)) (s : Shared) (σ : St) (H : Hp) (D : Ends), Inv X pins σ H s → t D σ H → wpAny (model X.prog X.w) X.A (exec st X.env) (SP X pins D) X.xe s
def PSs (X : Cx) (st : List Stmt) (t : TS) : Prop :=
  ∀ (pins : List (Addr × Obj)) (s : Shared) (σ : St) (H : Hp) (D : Ends), Inv X pins σ H s → t D σ H → wpAny (model X.prog X.w) X.A (execs st X.env) (SP X pins D) X.xe s
theorem thn {α : Type} {t : Sem α} {Q Q' : α → Shared → Prop} {M : Model} {A : Around} {E : Value → Shared → Prop} {s : Shared} (h : wpAny M A t Q E s) (hQ : ∀ a s, Q a s → Q' a s) : wpAny M A t Q' E s := wpAny_mono h hQ fun _ _ x => x
end L2
namespace L2
open PySem PySem.Spec PyProof.Rows
section
variable {X : Cx}
def tVar (i : Nat) : TE := fun σ H Q => match σ[i]? with
  | some (some v) => Q v H
  | _ => False
theorem tVar_inv {i : Nat} {σ : St} {H : Hp} {Q : VK} (h : tVar i σ H Q) : ∃ v, σ[i]? = some (some v) ∧ Q v H := by
  unfold tVar at h
  split at h
  · exact ⟨_, by assumption, h⟩
  · exact h.elim
theorem tVar_of {i : Nat} {σ : St} {H : Hp} {Q : VK} {v : V} (e : σ[i]? = some (some v)) (h : Q v H) : tVar i σ H Q := by
  unfold tVar
  rw [e]
  exact h
def tC (v : V) : TE := fun _ H Q => Q v H
theorem pe_var {i : Nat} {x : Str} {pos : Pos} (hN : X.N[i]? = some x) (hv : Vis X.env.scope x) (hd : (x == ("__debug__" : Str)) = false := by decide) (hcd : (x == ("__classdict__" : Str)) = false := by decide) : PE X (.Name x pos) (tVar i) := by
  intro pins s σ H Q I h
  obtain ⟨v, e, h⟩ := tVar_inv h
  obtain ⟨m, hn, hl⟩ := I.loc
  obtain ⟨u, r, l⟩ := hl i x v hN e hv
  have fin : EP X pins σ Q u s := ⟨v, H, I, r, h⟩
  rcases l with ⟨hk, hm⟩ | ⟨hk, c, hc, hcell⟩
  · exact wpAny_Name (wpAny_loadName_local I.ok.kind hk hn hm fin) hd
  · rcases hk with hk | hk
    · exact wpAny_Name (wpAny_loadName_cell I.ok.kind hk hc hcell fin) hd
    · exact wpAny_Name (wpAny_loadName_free I.ok.kind hk hc hcell fin hcd) hd
theorem pe_int {i j pos} : PE X (.Constant (.int i) j pos) (tC (.int i)) := fun _ _ _ H _ I h => wpAny_Constant_int ⟨.int i, H, I.tok _, ⟨_, rfl⟩, h⟩
theorem pe_bl {b j pos} : PE X (.Constant (.bool b) j pos) (tC (.bl b)) := fun _ _ _ H _ I h => Constant_bool ⟨.bl b, H, I, rfl, h⟩
theorem pe_non {j pos} : PE X (.Constant .none j pos) (tC .non) := fun _ _ _ H _ I h => Constant_none ⟨.non, H, I, rfl, h⟩
theorem pe_str {x j pos} : PE X (.Constant (.str x) j pos) (tC (.str x)) := fun _ _ _ H _ I h => Calls.Constant_str ⟨.str x, H, I.tok _, ⟨_, rfl⟩, h⟩
def Gl (X : Cx) (x : Str) : Prop := X.env.kindOf x = some .globalImplicit
theorem ld_glob {E : Value → Shared → Prop} {pins : List (Addr × Obj)} {s : Shared} {σ : St} {H : Hp} {x : Str} {u : Value} {pos : Pos} {Q : Value → Shared → Prop} (I : Inv X pins σ H s) (hg : Gl X x) (hm : X.mg x = some u) (h : Q u s)
    (hd : (x == ("__debug__" : Str)) = false := by decide) : wpAny (model X.prog X.w) X.A (eval (.Name x pos) X.env) Q E s :=
  Calls.Name_function_global I.ok.kind hg (Calls.loadGlobal_global (by rw [I.ok.glob]; exact I.mod.glob.keeps I.bk) hm h) hd
theorem ld_blt {E : Value → Shared → Prop} {pins : List (Addr × Obj)} {s : Shared} {σ : St} {H : Hp} {x : Str} {u : Value} {pos : Pos} {Q : Value → Shared → Prop} (I : Inv X pins σ H s) (hg : Gl X x) (hm : X.mg x = none) (hv : bootBuiltins x = some u) (h : Q u s)
    (hn : x ≠ "__name__" := by decide) (hd : (x == ("__debug__" : Str)) = false := by decide) : wpAny (model X.prog X.w) X.A (eval (.Name x pos) X.env) Q E s := by
  obtain ⟨mb, h1, h2⟩ := I.mod.blt
  exact Calls.Name_function_global I.ok.kind hg (Calls.loadGlobal_builtin (by rw [I.ok.glob]; exact I.mod.glob.keeps I.bk) hm (by rw [I.ok.blt]; exact h1.keeps I.bk) ((h2 x hn).trans hv) h) hd
theorem pe_glob {x : Str} {v : V} {u : Value} {pos : Pos} (hg : Gl X x) (hm : X.mg x = some u) (r : RelV v u) (hd : (x == ("__debug__" : Str)) = false := by decide) : PE X (.Name x pos) (tC v) :=
  fun _ _ _ H _ I h => ld_glob I hg hm ⟨v, H, I, r, h⟩ hd
theorem pe_bltn {x : Str} {v : V} {u : Value} {pos : Pos} (hg : Gl X x) (hm : X.mg x = none) (hv : bootBuiltins x = some u) (r : RelV v u) (hn : x ≠ "__name__" := by decide) (hd : (x == ("__debug__" : Str)) = false := by decide) : PE X (.Name x pos) (tC v) :=
  fun _ _ _ H _ I h => ld_blt I hg hm hv ⟨v, H, I, r, h⟩ hn hd
variable {a b : Expr} {ta tb : TE} {pos : Pos}
def tB (t : TE) : TT := fun σ H Q => t σ H fun x H1 => ∃ c, x = .bl c ∧ Q c H1
theorem pt_val {e : Expr} {t : TE} (h : PE X e t) (he : ∀ whole, isTrue e X.env whole = (do let v ← whole; standAt e.pos; holding [v] (truthy v)) := by intro _; rfl) : PT X e (tB t) := by
  intro pins s σ H Q I hw
  refine isTrue_plain (thn (h pins s σ H _ I hw) fun v s1 ⟨x, H1, I1, r1, q1⟩ => ?_) (he _)
  obtain ⟨d, rfl, q⟩ := q1
  cases r1
  exact wpAny_truthy_bool ⟨H1, I1, q⟩
variable {tA tB' : TT} {rest : List Expr}
def tAnd (t u : TT) : TT := fun σ H Q => t σ H fun c H1 => if c = true then u σ H1 Q else Q false H1
def tOr (t u : TT) : TT := fun σ H Q => t σ H fun c H1 => if c = true then Q true H1 else u σ H1 Q
def tNot (t : TT) : TT := fun σ H Q => t σ H fun c H1 => Q (!c) H1
theorem pw_and1 (ha : PT X a tA) : PW X (.BoolOp .And [a] pos) tA := by
  intro wh pins s σ H Q I h
  refine isTrue_and (thn (ha pins s σ H Q I h) fun c s1 e => ?_)
  cases c with
  | true => exact isTrue_and_nil e
  | false => exact e
theorem pw_or1 (ha : PT X a tA) : PW X (.BoolOp .Or [a] pos) tA := by
  intro wh pins s σ H Q I h
  refine isTrue_or (thn (ha pins s σ H Q I h) fun c s1 e => ?_)
  cases c with
  | false => exact isTrue_or_nil e
  | true => exact e
theorem pw_and (ha : PT X a tA) (hb : PW X (.BoolOp .And (b :: rest) pos) tB') : PW X (.BoolOp .And (a :: b :: rest) pos) (tAnd tA tB') := by
  intro wh pins s σ H Q I h
  refine isTrue_and (thn (ha pins s σ H _ I h) fun c s1 ⟨H1, I1, q1⟩ => ?_)
  cases c with
  | true => exact hb wh pins s1 σ H1 Q I1 q1
  | false => exact ⟨H1, I1, q1⟩
theorem pw_or (ha : PT X a tA) (hb : PW X (.BoolOp .Or (b :: rest) pos) tB') : PW X (.BoolOp .Or (a :: b :: rest) pos) (tOr tA tB') := by
  intro wh pins s σ H Q I h
  refine isTrue_or (thn (ha pins s σ H _ I h) fun c s1 ⟨H1, I1, q1⟩ => ?_)
  cases c with
  | true => exact ⟨H1, I1, q1⟩
  | false => exact hb wh pins s1 σ H1 Q I1 q1
theorem pt_not (ha : PT X a tA) : PT X (.UnaryOp .Not a pos) (tNot tA) := by
  intro pins s σ H Q I h
  exact isTrue_not (ha pins s σ H (fun c H1 => Q (!c) H1) I h)
def tAndV (ta tb : TE) : TE := fun σ H Q => ta σ H fun x H1 => ∃ c, x = .bl c ∧ if c = true then tb σ H1 Q else Q (.bl false) H1
def tOrV (ta tb : TE) : TE := fun σ H Q => ta σ H fun x H1 => ∃ c, x = .bl c ∧ if c = true then Q (.bl true) H1 else tb σ H1 Q
def tNotV (ta : TE) : TE := fun σ H Q => ta σ H fun x H1 => ∃ c, x = .bl c ∧ Q (.bl (!c)) H1
theorem pe_one {op} {t : TE} (h : PE X a t) : PE X (.BoolOp op [a] pos) t := fun pins s σ H Q I hw => BoolOp_one (h pins s σ H Q I hw)
theorem pe_and (ha : PE X a ta) (hb : PE X (.BoolOp .And (b :: rest) pos) tb) : PE X (.BoolOp .And (a :: b :: rest) pos) (tAndV ta tb) := by
  intro pins s σ H Q I h
  refine BoolOp_and (thn (ha pins s σ H _ I h) fun v s1 ⟨x, H1, I1, r1, q1⟩ => ?_)
  obtain ⟨c, rfl, q1⟩ := q1
  cases r1
  refine wpAny_truthy_bool ?_
  cases c with
  | true => exact hb pins s1 σ H1 Q I1 q1
  | false => exact ⟨.bl false, H1, I1, rfl, q1⟩
theorem pe_or (ha : PE X a ta) (hb : PE X (.BoolOp .Or (b :: rest) pos) tb) : PE X (.BoolOp .Or (a :: b :: rest) pos) (tOrV ta tb) := by
  intro pins s σ H Q I h
  refine BoolOp_or (thn (ha pins s σ H _ I h) fun v s1 ⟨x, H1, I1, r1, q1⟩ => ?_)
  obtain ⟨c, rfl, q1⟩ := q1
  cases r1
  refine wpAny_truthy_bool ?_
  cases c with
  | false => exact hb pins s1 σ H1 Q I1 q1
  | true => exact ⟨.bl true, H1, I1, rfl, q1⟩
theorem pe_not (ha : PE X a ta) : PE X (.UnaryOp .Not a pos) (tNotV ta) := by
  intro pins s σ H Q I h
  refine UnaryOp_ (thn (ha pins s σ H _ I h) fun v s1 ⟨x, H1, I1, r1, q1⟩ => ?_)
  obtain ⟨c, rfl, q1⟩ := q1
  cases r1
  exact not_of (wpAny_truthy_bool ⟨.bl (!c), H1, I1, rfl, q1⟩)
def tIf (t : TT) (ta tb : TE) : TE := fun σ H Q => t σ H fun c H1 => if c = true then ta σ H1 Q else tb σ H1 Q
theorem pe_ifExp {c : Expr} (hc : PT X c tA) (ha : PE X a ta) (hb : PE X b tb) : PE X (.IfExp c a b pos) (tIf tA ta tb) := by
  intro pins s σ H Q I h
  refine wpAny_IfExp (thn (hc pins s σ H _ I h) fun d s1 ⟨H1, I1, q1⟩ => ?_)
  cases d with
  | true => exact ha pins s1 σ H1 Q I1 q1
  | false => exact hb pins s1 σ H1 Q I1 q1
end
end L2
namespace L2
open PySem PySem.Spec PyProof.Rows
def SqL (K : PySem.W.Frag) (H : Hp) (a : Addr) (xs : List V) : Prop :=
  Rd H a (.lst xs) ∨
    ∃ (o : Obj) (its : Array Value) (n : Nat), K.lookup a = some o ∧ o.cls = .type "list" ∧ o.dict = none ∧ o.data = .seq its n ∧ its.size ≤ sizeLine ∧ Vals xs its.toList
def SqT (K : PySem.W.Frag) (H : Hp) (a : Addr) (xs : List V) : Prop :=
  Rd H a (.tup xs) ∨
    ∃ (o : Obj) (its : Array Value) (n : Nat), K.lookup a = some o ∧ o.cls = .type "tuple" ∧ o.data = .seq its n ∧ its.size ≤ sizeLine ∧ Vals xs its.toList
def absV : Value → Option V
  | .none => some .non
  | .bool b => some (.bl b)
  | .int i _ => some (.int i)
  | .str x _ => some (.str x)
  | .bytes b _ => some (.byt b)
  | .float b _ => some (.flt b)
  | .ref a => some (.ref a)
  | .type n => some (.ty n)
  | _ => none
theorem RelV.abs {x : V} {u : Value} (r : RelV x u) : absV u = some x := by
  cases x with
  | non => cases r; rfl
  | bl _ => cases r; rfl
  | int _ => obtain ⟨t, rfl⟩ := r; rfl
  | str _ => obtain ⟨t, rfl⟩ := r; rfl
  | byt _ => obtain ⟨t, rfl⟩ := r; rfl
  | flt _ => obtain ⟨t, rfl⟩ := r; rfl
  | ref _ => cases r; rfl
  | ty _ => cases r; rfl
theorem RelV.inj {x y : V} {u : Value} (r : RelV x u) (q : RelV y u) : x = y := Option.some.inj (r.abs.symm.trans q.abs)
theorem Vals.inj : ∀ {xs ys : List V} {us : List Value}, Vals xs us → Vals ys us → xs = ys
  | _, _, _, .nil, .nil => rfl
  | _, _, _, .cons r t, .cons r' t' => by rw [r.inj r', Vals.inj t t']
section
variable {X : Cx} {pins : List (Addr × Obj)} {σ : St} {H : Hp} {s : Shared} {a : Addr} {xs ys : List V}
theorem SqL.of {K : PySem.W.Frag} (h : H a = some (.lst xs)) : SqL K H a xs := .inl (.inl h)
theorem SqT.of {K : PySem.W.Frag} (h : H a = some (.tup xs)) : SqT K H a xs := .inl (.inl h)
theorem Inv.list (I : Inv X pins σ H s) (h : SqL X.K H a xs) : ∃ its : List Value, Vals xs its ∧ PlainL s.heap a its.toArray ∧ xs.length ≤ sizeLine := by
  rcases h with h | ⟨o, its, n, hk, hc, hd, hs, hz, r⟩
  · obtain ⟨z, its, n, r, e⟩ := h.ok I.hok
    exact ⟨its, r, ⟨_, n, e, rfl, rfl, rfl⟩, z⟩
  · refine ⟨its.toList, r, ⟨o, n, I.kIn a o hk, hc, hd, by simpa using hs⟩, ?_⟩
    have e := r.length
    simp only [Array.length_toList] at e
    omega
theorem Inv.tuple (I : Inv X pins σ H s) (h : SqT X.K H a xs) : ∃ its : List Value, Vals xs its ∧ IsTup s.heap a its.toArray ∧ xs.length ≤ sizeLine := by
  rcases h with h | ⟨o, its, n, hk, hc, hs, hz, r⟩
  · obtain ⟨z, its, r, p⟩ := h.ok I.hok
    exact ⟨its, r, p, z⟩
  · refine ⟨its.toList, r, ⟨o, I.kIn a o hk, hc, n, by simpa using hs⟩, ?_⟩
    have e := r.length
    simp only [Array.length_toList] at e
    omega
theorem Inv.list_inj (I : Inv X pins σ H s) (h : SqL X.K H a xs) (h' : SqL X.K H a ys) : xs = ys := by
  obtain ⟨its, r, ⟨o, n, e, _, _, d⟩, _⟩ := I.list h
  obtain ⟨its', r', ⟨o', n', e', _, _, d'⟩, _⟩ := I.list h'
  rw [e] at e'; cases e'
  rw [d] at d'
  injection d' with d1 _
  have : its = its' := by simpa using congrArg Array.toList d1
  subst this
  exact r.inj r'
theorem Inv.tuple_inj (I : Inv X pins σ H s) (h : SqT X.K H a xs) (h' : SqT X.K H a ys) : xs = ys := by
  obtain ⟨its, r, ⟨o, e, _, n, d⟩, _⟩ := I.tuple h
  obtain ⟨its', r', ⟨o', e', _, n', d'⟩, _⟩ := I.tuple h'
  rw [e] at e'; cases e'
  rw [d] at d'
  injection d' with d1 _
  have : its = its' := by simpa using congrArg Array.toList d1
  subst this
  exact r.inj r'
end
abbrev Cx.wish (X : Cx) (E : Value → Shared → Prop) : Cx := { X with xe := E }
abbrev Cx.nox (X : Cx) : Cx := X.wish fun _ _ => False
theorem Cx.Ok.wish {X : Cx} (ok : X.Ok) (E : Value → Shared → Prop) : (X.wish E).Ok :=
  ⟨ok.mod, ok.kind, ok.glob, ok.blt, ok.above, ok.inj, ok.has, ok.cab, ok.hd, ok.frames, ok.stk, ok.exf, ok.bs, ok.bsz, ok.noex, ok.exfs, ok.funs, ok.frf⟩
theorem Cx.Ok.unwish {X : Cx} {E : Value → Shared → Prop} (ok : (X.wish E).Ok) : X.Ok :=
  ⟨ok.mod, ok.kind, ok.glob, ok.blt, ok.above, ok.inj, ok.has, ok.cab, ok.hd, ok.frames, ok.stk, ok.exf, ok.bs, ok.bsz, ok.noex, ok.exfs, ok.funs, ok.frf⟩
section
variable {X : Cx} {pins : List (Addr × Obj)} {σ : St} {H : Hp} {s : Shared} {E : Value → Shared → Prop}
theorem Inv.wish (I : Inv X pins σ H s) (E : Value → Shared → Prop) : Inv (X.wish E) pins σ H s := ⟨I.ok.wish E, I.os, I.bare, I.base, I.loc, I.cell, I.free, I.freeC, I.pin, I.hok, I.len⟩
theorem Inv.unwish (I : Inv (X.wish E) pins σ H s) : Inv X pins σ H s := ⟨I.ok.unwish, I.os, I.bare, I.base, I.loc, I.cell, I.free, I.freeC, I.pin, I.hok, I.len⟩
theorem SP.unwish {D : Ends} {f : Flow} {s' : Shared} (h : SP (X.wish E) pins D f s') : SP X pins D f s' := by
  cases f with
  | next => obtain ⟨σ', H', I, q⟩ := h; exact ⟨σ', H', I.unwish, q⟩
  | brk => obtain ⟨σ', H', I, q⟩ := h; exact ⟨σ', H', I.unwish, q⟩
  | cont => obtain ⟨σ', H', I, q⟩ := h; exact ⟨σ', H', I.unwish, q⟩
  | ret u => obtain ⟨v, σ', H', I, r, q⟩ := h; exact ⟨v, σ', H', I.unwish, r, q⟩
theorem PE.nox {e : Expr} {t : TE} (h : PE X.nox e t) : PE X e t := fun pins s σ H Q I hw =>
  wpAny_mono (h pins s σ H Q (I.wish _) hw) (fun _ _ ⟨v, H', I', r, q⟩ => ⟨v, H', I'.unwish, r, q⟩) fun _ _ z => False.elim z
theorem PT.nox {e : Expr} {t : TT} (h : PT X.nox e t) : PT X e t := fun pins s σ H Q I hw =>
  wpAny_mono (h pins s σ H Q (I.wish _) hw) (fun _ _ ⟨H', I', q⟩ => ⟨H', I'.unwish, q⟩) fun _ _ z => False.elim z
theorem PSs.nox {st : List Stmt} {t : TS} (h : PSs X.nox st t) : PSs X st t := fun pins s σ H D I hw =>
  wpAny_mono (h pins s σ H D (I.wish _) hw) (fun _ _ q => q.unwish) fun _ _ z => False.elim z
end
section
variable {X : Cx} {st : Stmt} {rest : List Stmt} {t u : TS} {e : Expr} {te : TE} {pos : Pos}
def tNext : TS := fun D σ H => D.nx σ H
def tSeq (t u : TS) : TS := fun D σ H => t { D with nx := u D } σ H
theorem pss_nil : PSs X [] tNext := fun _ _ σ H _ I h => wpAny_execs_nil ⟨σ, H, I, h⟩
theorem pss_cons (h1 : PS X st t) (h2 : PSs X rest u) : PSs X (st :: rest) (tSeq t u) := by
  intro pins s σ H D I h
  refine wpAny_execs_cons (thn (h1 pins s σ H { D with nx := u D } I h) fun f s1 q => ?_)
  cases f with
  | next =>
    obtain ⟨σ', H', I', q⟩ := q
    exact h2 pins s1 σ' H' D I' q
  | ret v => exact q
  | brk => exact q
  | cont => exact q
theorem pss_one (h1 : PS X st t) : PSs X [st] t := by
  intro pins s σ H D I h
  refine wpAny_execs_cons (thn (h1 pins s σ H D I h) fun f s1 q => ?_)
  cases f with
  | next => exact wpAny_execs_nil q
  | ret v => exact q
  | brk => exact q
  | cont => exact q
theorem Inv.quiet {pins : List (Addr × Obj)} {σ : St} {H : Hp} {s : Shared} (I : Inv X pins σ H s) : interactive X.env = false := by simp [interactive, I.ok.kind]
def tDrop (te : TE) : TS := fun D σ H => te σ H fun _ H1 => D.nx σ H1
theorem ps_expr (he : PE X e te) (hs : swapsWith e none pos.line X.env = pure false := by rfl) : PS X (.Expr e pos) (tDrop te) := by
  intro pins s σ H D I h
  exact wpAny_Expr_any (thn (he pins s σ H _ I h) fun v s1 ⟨x, H1, I1, r1, q1⟩ => ⟨σ, H1, I1, q1⟩) I.quiet hs
def tRet (te : TE) : TS := fun D σ H => te σ H D.rt
theorem ps_ret (he : PE X e te) : PS X (.Return (some e) pos) (tRet te) := by
  intro pins s σ H D I h
  exact wpAny_Return_some (thn (he pins s σ H _ I h) fun v s1 ⟨x, H1, I1, r1, q1⟩ => ⟨x, σ, H1, I1, r1, q1⟩)
def tRetN : TS := fun D _ H => D.rt .non H
def tIfS (c : TT) (t u : TS) : TS := fun D σ H => c σ H fun b H1 => if b = true then t D σ H1 else u D σ H1
theorem ps_if {c : Expr} {a b : List Stmt} {tc : TT} (hc : PT X c tc) (ha : PSs X a t) (hb : PSs X b u) : PS X (.If c a b pos) (tIfS tc t u) := by
  intro pins s σ H D I h
  refine wpAny_If (thn (hc pins s σ H _ I h) fun d s1 ⟨H1, I1, q1⟩ => ?_)
  cases d with
  | true => exact ha pins s1 σ H1 D I1 q1
  | false => exact hb pins s1 σ H1 D I1 q1
end
abbrev TG := V → St → Hp → (St → Hp → Prop) → Prop
abbrev TGs := List V → St → Hp → (St → Hp → Prop) → Prop
def PG (X : Cx) (target : Expr) (t : TG) : Prop :=
  ∀ (pins : List (Addr × Obj)) (s : Shared) (σ : St) (H : Hp) (v : V) (u : Value) (Q : St → Hp → Prop), Inv X pins σ H s → RelV v u → t v σ H Q →
    wpAny (model X.prog X.w) X.A (assign target X.env u) (fun _ s' => ∃ σ' H', Inv X pins σ' H' s' ∧ Q σ' H') X.xe s
def PGs (X : Cx) (ts : List Expr) (t : TGs) : Prop :=
  ∀ (pins : List (Addr × Obj)) (s : Shared) (σ : St) (H : Hp) (vs : List V) (us : List Value) (Q : St → Hp → Prop), Inv X pins σ H s → Vals vs us → t vs σ H Q →
    wpAny (model X.prog X.w) X.A (assignInOrder ((assignEach ts X.env).map (·.2)) us) (fun _ s' => ∃ σ' H', Inv X pins σ' H' s' ∧ Q σ' H') X.xe s
abbrev TSet := V → V → V → Hp → (Hp → Prop) → Prop
def PSet (X : Cx) (t : TSet) : Prop :=
  ∀ (pins : List (Addr × Obj)) (s : Shared) (σ : St) (H : Hp) (o i v : V) (ov iv u : Value) (Q : Hp → Prop), Inv X pins σ H s → RelV o ov → RelV i iv → RelV v u → t o i v H Q →
    wpAny (model X.prog X.w) X.A (setItem ov iv u) (fun _ s' => ∃ H', Inv X pins σ H' s' ∧ Q H') X.xe s
abbrev TIp := V → V → Hp → VK → Prop
section
variable {X : Cx} {pos : Pos}
def gName (i : Nat) : TG := fun v σ H Q => Q (σ.set i (some v)) H
theorem pg_name {i : Nat} {x : Str} (hN : X.N.Nodup) (hi : X.N[i]? = some x) (hx : Loc X.env.scope x) (hf : X.fn x = true ∨ X.env.scope.names.lookup x = some .local := by first | exact .inl rfl | exact .inr rfl | assumption) : PG X (.Name x pos) (gName i) := by
  intro pins s σ H v u Q I r h
  exact wpAny_assign_Name (store_ok I hN hi hx r (fun s' I' => ⟨_, H, I', h⟩) hf)
def gNil : TGs := fun vs σ H Q => vs = [] ∧ Q σ H
def gCons (t : TG) (u : TGs) : TGs := fun vs σ H Q => ∃ v r, vs = v :: r ∧ t v σ H fun σ' H' => u r σ' H' Q
theorem pgs_nil : PGs X [] gNil := by
  intro pins s σ H vs us Q I r h
  obtain ⟨e, h⟩ := h
  subst e
  cases r
  exact assignInOrder_nil ⟨σ, H, I, h⟩
theorem pgs_cons {e : Expr} {es : List Expr} {t : TG} {u : TGs} (h1 : PG X e t) (h2 : PGs X es u)
    (hs : (assignEach (e :: es) X.env).map (·.2) = assign e X.env :: (assignEach es X.env).map (·.2) := by rfl) : PGs X (e :: es) (gCons t u) := by
  intro pins s σ H vs us Q I r h
  obtain ⟨v, vr, e1, h⟩ := h
  subst e1
  cases r with
  | cons r rr =>
    rw [hs]
    refine assignInOrder_cons (thn (h1 pins s σ H _ _ _ I r h) fun _ s1 ⟨σ1, H1, I1, q1⟩ => ?_)
    exact h2 pins s1 σ1 H1 _ _ Q I1 rr q1
def gTup (K : PySem.W.Frag) (n : Nat) (t : TGs) : TG := fun v σ H Q => ∃ a xs, v = .ref a ∧ SqT K H a xs ∧ xs.length = n ∧ t xs σ H Q
theorem pg_tup {es : List Expr} {k : Nat} {t : TGs} {n : Nat} (hc : X.calm = true) (h : PGs X es t)
    (hn : (assignEach es X.env).length = n := by rfl) (hst : (assignEach es X.env).findIdx? (·.1) = none := by rfl) : PG X (.Tuple es k pos) (gTup X.K n t) := by
  intro pins s σ H v u Q I r hw
  obtain ⟨a, xs, e1, hq, hl, hw⟩ := hw
  subst e1
  cases r
  obtain ⟨its, rv, ht, hz⟩ := I.tuple hq
  refine assign_Tuple_tuple (I.ok.hd hc) ht (by simp [hn, ← hl, rv.length]) hst fun h' hx => ?_
  have I1 : Inv X pins σ H { s with heap := h' } := I.kept (t' := s.toks) fun b o e => hx b o (Nat.ne_of_lt (Heap.lt_size e)) e
  exact h pins _ σ H xs _ Q I1 (by simpa using rv) hw
def gSub (to ti : TE) (t : TSet) : TG := fun v σ H Q => to σ H fun o H1 => ti σ H1 fun i H2 => t o i v H2 fun H3 => Q σ H3
theorem pg_sub {o i : Expr} {to ti : TE} {t : TSet} (ho : PE X o to) (hi : PE X i ti) (hs : PSet X t)
    (ha : ∀ v, assign (.Subscript o i pos) X.env v = (do
      let ov ← holding [v] (eval o X.env)
      let iv ← holding [v, ov] (eval i X.env)
      standAt pos
      holding [v, ov, iv] (setItem ov iv v)
      release [v, ov, iv] []) := by intro _; rfl) : PG X (.Subscript o i pos) (gSub to ti t) := by
  intro pins s σ H v u Q I r h
  rw [ha]
  refine wpAny_bind (wpAny_holding (thn (ho pins s σ H _ I h) fun ov s1 ⟨x, H1, I1, r1, q1⟩ => ?_))
  refine wpAny_bind (wpAny_holding (thn (hi pins s1 σ H1 _ I1 q1) fun iv s2 ⟨y, H2, I2, r2, q2⟩ => ?_))
  refine wpAny_bind (wpAny_standAt (wpAny_bind (wpAny_holding (thn (hs pins s2 σ H2 x y v ov iv u _ I2 r1 r2 r q2) fun _ s3 ⟨H3, I3, q3⟩ => ?_))))
  exact wpAny_release ⟨σ, H3, I3, q3⟩
def tAsg (te : TE) (g : TG) : TS := fun D σ H => te σ H fun x H1 => g x σ H1 D.nx
theorem ps_asg {tg e : Expr} {te : TE} {g : TG} (he : PE X e te) (hg : PG X tg g) (hs : swapsWithSole [tg] e pos.line X.env = pure false := by rfl) (hw : swappedStores [tg] e X.env = pure none := by rfl)
    (h1 : (assignEach [tg] X.env).map (·.2) = [assign tg X.env] := by rfl) : PS X (.Assign [tg] e pos) (tAsg te g) := by
  intro pins s σ H D I h
  refine wpAny_Assign_stores (thn (he pins s σ H _ I h) fun v s1 ⟨x, H1, I1, r1, q1⟩ => ?_) hs hw
  rw [h1]
  exact thn (hg pins s1 σ H1 x v _ I1 r1 q1) fun _ s2 q => q
theorem ps_set {i : Nat} {x : Str} {e : Expr} {te : TE} {pos' : Pos} (hN : X.N.Nodup) (hi : X.N[i]? = some x) (hx : Loc X.env.scope x) (he : PE X e te) (hs : swapsWith e (some (.Name x pos')) pos.line X.env = pure false := by rfl) (hf : X.fn x = true ∨ X.env.scope.names.lookup x = some .local := by first | exact .inl rfl | exact .inr rfl | assumption) :
    PS X (.Assign [.Name x pos'] e pos) (tAsg te (gName i)) := by
  intro pins s σ H D I h
  refine wpAny_Assign_Name (thn (he pins s σ H _ I h) fun v s1 ⟨y, H1, I1, r1, q1⟩ => ?_) hs
  exact store_ok I1 hN hi hx r1 (fun s2 I2 => ⟨_, H1, I2, q1⟩) hf
def tAug (i : Nat) (te : TE) (ti : TIp) : TS := fun D σ H => ∃ x, σ[i]? = some (some x) ∧ te σ H fun y H1 => ti x y H1 fun z H2 => D.nx (σ.set i (some z)) H2
end
section
variable {X : Cx} {pos : Pos}
end
set_option genInjectivity false in
set_option genSizeOf false in
structure It where
  go : Nat → Hp → Prop
  yld : Nat → Hp → V → Hp → Prop
  stop : Nat → Hp → Prop
def FpOk (X : Cx) (pins : List (Addr × Obj)) (H : Hp) (b : Addr) : Prop :=
  H b = none ∧ b ≠ X.env.locals ∧ b ∉ X.fs ∧ (b ∈ X.ex ∨ X.s₀.heap.objs.size ≤ b) ∧ (∀ x c, X.env.cells.lookup x = some c → c ≠ b) ∧ ∀ p ∈ X.pn ++ pins, p.1 ≠ b
theorem Inv.fpOk {X : Cx} {pins : List (Addr × Obj)} {σ : St} {H H' : Hp} {s : Shared} {b : Addr} (I : Inv X pins σ H s) (hb : s.heap.objs.size ≤ b) (hn : H' b = none) : FpOk X pins H' b := by
  refine ⟨hn, Nat.ne_of_gt (Nat.lt_of_lt_of_le I.lt hb), I.nofs hb, .inr (Nat.le_trans I.sz hb), fun x c e z => ?_, fun p hp z => ?_⟩
  · obtain ⟨v, q⟩ := I.cell x c e
    exact absurd (Nat.lt_of_lt_of_le q.lt (by rw [z]; exact hb)) (Nat.lt_irrefl _)
  · exact absurd (Nat.lt_of_lt_of_le (Heap.lt_size (I.pin p hp).1) (by rw [z]; exact hb)) (Nat.lt_irrefl _)
set_option genInjectivity false in
set_option genSizeOf false in
structure Turn (P : Program) (w : World) (K : PySem.W.Frag) (tg : Expr) (J : It) (fp : List Addr) (it : Addr) (tn : Nat → Heap → Prop) : Prop where
  mem : it ∈ fp
  obj : ∀ i h, tn i h → ∀ b ∈ fp, ∃ o, h.get? b = some o ∧ ∀ v, o.data ≠ .cell v
  keep : ∀ i h h', tn i h → (∀ b ∈ fp, ∀ o, h.get? b = some o → h'.get? b = some o) → tn i h'
  item : ∀ (X : Cx), X.prog = P → X.w = w → X.K = K → X.calm = true → ∀ (i : Nat) (pins : List (Addr × Obj)) (s : Shared) (σ : St) (H : Hp) (E : Value → Shared → Prop), Inv X pins σ H s → (∀ b ∈ fp, FpOk X pins H b) → tn i s.heap → J.go i H →
    wpAny (model P w) X.A (pyNext (.ref it)) (fun r s1 => ∃ u, r = some u ∧
      wpAny (model P w) X.A (letOwnedTupleGo tg (.ref it) u) (fun _ s2 => ∃ x H', Inv X pins σ H' s2 ∧ RelV x u ∧ J.yld i H x H' ∧ tn (i + 1) s2.heap ∧ ∀ b ∈ fp, H' b = none) E s1) E s
  done : ∀ (X : Cx), X.prog = P → X.w = w → X.K = K → X.calm = true → ∀ (i : Nat) (pins : List (Addr × Obj)) (s : Shared) (σ : St) (H : Hp) (E : Value → Shared → Prop), Inv X pins σ H s → (∀ b ∈ fp, FpOk X pins H b) → tn i s.heap → J.stop i H →
    wpAny (model P w) X.A (pyNext (.ref it)) (fun r s1 => r = none ∧ Inv X pins σ H s1) E s
  self : ∀ (A : Around) (i : Nat) (s : Shared) (Q : Value → Shared → Prop) (E : Value → Shared → Prop), tn i s.heap → Q (.ref it) s → wpAny (model P w) A (pyIter (.ref it)) Q E s
abbrev TI := St → Hp → (It → Hp → Prop) → Prop
def PIE (X : Cx) (pins : List (Addr × Obj)) (σ : St) (tg : Expr) (R : It → Hp → Prop) (itv : Value) (s2 : Shared) : Prop :=
  ∃ (it : Addr) (fp : List Addr) (tn : Nat → Heap → Prop) (J : It) (H' : Hp), itv = .ref it ∧ Inv X pins σ H' s2 ∧ Turn X.prog X.w X.K tg J fp it tn ∧ tn 0 s2.heap ∧ (∀ b ∈ fp, FpOk X pins H' b) ∧ R J H'
def PI (X : Cx) (tg iter : Expr) (wi : TI) : Prop :=
  ∀ (pins : List (Addr × Obj)) (s : Shared) (σ : St) (H : Hp) (R : It → Hp → Prop), Inv X pins σ H s → wi σ H R →
    wpAny (model X.prog X.w) X.A (eval iter X.env) (fun v s1 => wpAny (model X.prog X.w) X.A (pyIter v) (PIE X pins σ tg R) X.xe s1) X.xe s
theorem go_of {M : Model} {A : Around} {E : Value → Shared → Prop} {s : Shared} {tg : Expr} {it : Addr} {u : Value} {o : Obj} {n : String} {vs : Array Value} {Q : Unit → Shared → Prop} (ho : s.heap.get? it = some o) (hc : o.cls = .type n) (hd : o.data = .fields vs)
    (hn : ["enumerate", "zip", "dict_itemiterator", "dict_reverseitemiterator", "odict_iterator", "itertools.zip_longest", "itertools.pairwise"].contains n = false) (hQ : Q () s) : wpAny M A (letOwnedTupleGo tg (.ref it) u) Q E s := by
  unfold letOwnedTupleGo
  cases tg <;> first
    | exact wpAny_pure hQ
    | (cases u <;> first
        | exact wpAny_pure hQ
        | (refine wpAny_bind (wpAny_load ho ?_)
           rw [hc, hd]
           show wpAny M A (if (["enumerate", "zip", "dict_itemiterator", "dict_reverseitemiterator", "odict_iterator", "itertools.zip_longest", "itertools.pairwise"].contains n && vs[0]? == some (rawInt _)) = true then _ else _) Q E s
           rw [if_neg (by intro h; rw [hn, Bool.false_and] at h; cases h)]
           exact wpAny_pure hQ))
def Itl (K : PySem.W.Frag) (a : Addr) : It :=
  ⟨fun i H => ∃ xs x, SqL K H a xs ∧ xs[i]? = some x, fun i H x H' => H' = H ∧ ∀ xs, SqL K H a xs → xs[i]? = some x, fun i H => ∃ xs, SqL K H a xs ∧ xs.length ≤ i⟩
def Itt (K : PySem.W.Frag) (a : Addr) : It :=
  ⟨fun i H => ∃ xs x, SqT K H a xs ∧ xs[i]? = some x, fun i H x H' => H' = H ∧ ∀ xs, SqT K H a xs → xs[i]? = some x, fun i H => ∃ xs, SqT K H a xs ∧ xs.length ≤ i⟩
def Itr (lo : Int) (n : Nat) : It := ⟨fun i _ => i < n, fun i H x H' => H' = H ∧ x = .int (lo + i), fun i _ => n ≤ i⟩
theorem turn_list {P : Program} {w : World} {K : PySem.W.Frag} {tg : Expr} (a it : Addr) : Turn P w K tg (Itl K a) [it] it (fun i h => h.IsListIter it a i) where
  mem := by simp
  obj := fun i h st b hb => by
    have e : b = it := by simpa using hb
    subst e
    obtain ⟨o, e, c, d⟩ := st
    exact ⟨o, e, fun v z => by rw [d] at z; cases z⟩
  keep := fun i h h' st k => st.at fun o e => k it (by simp) o e
  item := by
    intro X hP hw hK hc i pins s σ H E I hf st hg
    subst hP hw hK
    obtain ⟨xs, x, hq, hx⟩ := hg
    obtain ⟨its, rv, p, hz⟩ := I.list hq
    obtain ⟨u, hu, ru⟩ := rv.get hx
    obtain ⟨f0, f1, f2, f3, f4, f5⟩ := hf it (by simp)
    refine wpAny_pyNext_list_item st p.isList (x := u) (by simpa using hu) fun h' st' sb => ?_
    have I1 : Inv X pins σ H { s with heap := h' } := I.turned (t' := s.toks) (fun b o hb e => (sb.2 b hb).trans e) f0 f1 f3 f4 f5
    obtain ⟨o, e, c, d⟩ := id st'
    exact ⟨u, rfl, go_of (s := { s with heap := h' }) e c d (by decide) ⟨x, H, I1, ru, ⟨rfl, fun ys hy => by rw [I.list_inj hy hq]; exact hx⟩, st', fun b hb => (hf b hb).1⟩⟩
  done := by
    intro X hP hw hK hc i pins s σ H E I hf st hg
    subst hP hw hK
    obtain ⟨xs, hq, hx⟩ := hg
    obtain ⟨its, rv, p, hz⟩ := I.list hq
    obtain ⟨f0, f1, f2, f3, f4, f5⟩ := hf it (by simp)
    have hl := rv.length
    exact wpAny_pyNext_list_end (I.ok.hd hc) st p.isList (by simp; omega) fun h' eb => ⟨rfl, I.turned (t' := s.toks) (fun b o hb e => eb b o hb e) f0 f1 f3 f4 f5⟩
  self := fun _ _ _ _ _ st h => wpAny_pyIter_listiter st h
theorem turn_tuple {P : Program} {w : World} {K : PySem.W.Frag} {tg : Expr} (a it : Addr) : Turn P w K tg (Itt K a) [it] it (fun i h => h.IsTupleIter it a i) where
  mem := by simp
  obj := fun i h st b hb => by
    have e : b = it := by simpa using hb
    subst e
    obtain ⟨o, e, c, d⟩ := st
    exact ⟨o, e, fun v z => by rw [d] at z; cases z⟩
  keep := fun i h h' st k => st.at fun o e => k it (by simp) o e
  item := by
    intro X hP hw hK hc i pins s σ H E I hf st hg
    subst hP hw hK
    obtain ⟨xs, x, hq, hx⟩ := hg
    obtain ⟨its, rv, p, hz⟩ := I.tuple hq
    obtain ⟨u, hu, ru⟩ := rv.get hx
    obtain ⟨f0, f1, f2, f3, f4, f5⟩ := hf it (by simp)
    refine wpAny_pyNext_tuple_item st (show s.heap.IsTuple a its.toArray from p) (x := u) (by simpa using hu) fun h' st' sb => ?_
    have I1 : Inv X pins σ H { s with heap := h' } := I.turned (t' := s.toks) (fun b o hb e => (sb.2 b hb).trans e) f0 f1 f3 f4 f5
    obtain ⟨o, e, c, d⟩ := id st'
    exact ⟨u, rfl, go_of (s := { s with heap := h' }) e c d (by decide) ⟨x, H, I1, ru, ⟨rfl, fun ys hy => by rw [I.tuple_inj hy hq]; exact hx⟩, st', fun b hb => (hf b hb).1⟩⟩
  done := by
    intro X hP hw hK hc i pins s σ H E I hf st hg
    subst hP hw hK
    obtain ⟨xs, hq, hx⟩ := hg
    obtain ⟨its, rv, p, hz⟩ := I.tuple hq
    obtain ⟨f0, f1, f2, f3, f4, f5⟩ := hf it (by simp)
    have hl := rv.length
    exact wpAny_pyNext_tuple_end (I.ok.hd hc) st (show s.heap.IsTuple a its.toArray from p) (by simp; omega) fun h' eb => ⟨rfl, I.turned (t' := s.toks) (fun b o hb e => eb b o hb e) f0 f1 f3 f4 f5⟩
  self := fun _ _ _ _ _ st h => wpAny_pyIter_tupleiter st h
theorem turn_range {P : Program} {w : World} {K : PySem.W.Frag} {tg : Expr} (it : Addr) (lo : Int) (n : Nat) : Turn P w K tg (Itr lo n) [it] it (fun i h => IsRangeIter h it (lo + (i : Nat) * 1) ((n : Int) - (i : Nat)) 1) where
  mem := by simp
  obj := fun i h st b hb => by
    have e : b = it := by simpa using hb
    subst e
    exact ⟨_, st, fun v z => by
      have z' : Data.fields _ = Data.cell v := z
      cases z'⟩
  keep := fun i h h' st k => k it (by simp) _ st
  item := by
    intro X hP hw hK hc i pins s σ H E I hf st hg
    subst hP hw hK
    obtain ⟨f0, f1, f2, f3, f4, f5⟩ := hf it (by simp)
    have W := Walks.range (prog := X.prog) (w := X.w) (I.ok.hd hc) it lo 1 n
    refine W.item i s _ _ hg st fun v h' tk hv st' kk => ?_
    obtain ⟨t, rfl⟩ := hv
    have I1 : Inv X pins σ H { s with heap := h', toks := tk } := I.turned (fun b o hb e => kk b o (by simpa using hb) e) f0 f1 f3 f4 f5
    refine ⟨_, rfl, go_of (s := { s with heap := h', toks := tk }) (n := "range_iterator") st' rfl rfl (by decide) ⟨.int (lo + i), H, I1, ⟨t, ?_⟩, ⟨rfl, rfl⟩, st', fun b hb => (hf b hb).1⟩⟩
    rw [Int.mul_one]
  done := by
    intro X hP hw hK hc i pins s σ H E I hf st hg
    subst hP hw hK
    obtain ⟨f0, f1, f2, f3, f4, f5⟩ := hf it (by simp)
    exact wpAny_pyNext_range_end (I.ok.hd hc) st (by have : n ≤ i := hg; omega) fun h' eb => ⟨rfl, I.turned (t' := s.toks) (fun b o hb e => eb b o hb e) f0 f1 f3 f4 f5⟩
  self := fun _ _ _ _ _ st h => wpAny_pyIter_rangeiter st h
end L2
namespace L2
open PySem PySem.Spec PyProof.Rows
section
variable {X : Cx} {tg : Expr}
def iList (K : PySem.W.Frag) (tl : TE) : TI := fun σ H R => tl σ H fun x H1 => ∃ a, x = .ref a ∧ (∃ xs, SqL K H1 a xs) ∧ R (Itl K a) H1
def iTup (K : PySem.W.Frag) (tl : TE) : TI := fun σ H R => tl σ H fun x H1 => ∃ a, x = .ref a ∧ (∃ xs, SqT K H1 a xs) ∧ R (Itt K a) H1
theorem pi_list {l : Expr} {tl : TE} (hl : PE X l tl) : PI X tg l (iList X.K tl) := by
  intro pins s σ H R I h
  refine thn (hl pins s σ H _ I h) fun v s1 ⟨x, H1, I1, r1, q1⟩ => ?_
  obtain ⟨a, e, ⟨xs, hq⟩, q⟩ := q1
  subst e
  cases r1
  obtain ⟨its, rv, p, hz⟩ := I1.list hq
  refine wpAny_pyIter_list p.isList ?_
  refine ⟨s1.heap.objs.size, [s1.heap.objs.size], _, _, H1, rfl, I1.kept (t' := s1.toks) fun b o e => Heap.get?_push_of_some _ e, turn_list a _, ⟨_, Heap.get?_push_size _ rfl, rfl, rfl⟩, fun b hb => ?_, q⟩
  have e : b = s1.heap.objs.size := by simpa using hb
  subst e
  exact I1.fpOk (Nat.le_refl _) (I1.hok.fresh (Nat.le_refl _))
theorem pi_tup {l : Expr} {tl : TE} (hl : PE X l tl) : PI X tg l (iTup X.K tl) := by
  intro pins s σ H R I h
  refine thn (hl pins s σ H _ I h) fun v s1 ⟨x, H1, I1, r1, q1⟩ => ?_
  obtain ⟨a, e, ⟨xs, hq⟩, q⟩ := q1
  subst e
  cases r1
  obtain ⟨its, rv, p, hz⟩ := I1.tuple hq
  refine wpAny_pyIter_tuple (show s1.heap.IsTuple a its.toArray from p) ?_
  refine ⟨s1.heap.objs.size, [s1.heap.objs.size], _, _, H1, rfl, I1.kept (t' := s1.toks) fun b o e => Heap.get?_push_of_some _ e, turn_tuple a _, ⟨_, Heap.get?_push_size _ rfl, rfl, rfl⟩, fun b hb => ?_, q⟩
  have e : b = s1.heap.objs.size := by simpa using hb
  subst e
  exact I1.fpOk (Nat.le_refl _) (I1.hok.fresh (Nat.le_refl _))
theorem range_it {pins : List (Addr × Obj)} {σ : St} {H : Hp} {s : Shared} {R : It → Hp → Prop} {E : Value → Shared → Prop} {lo hi : Int} {t u v : Tok} {tk : Nat} (I : Inv X pins σ H s) (h1 : -(2 ^ 62) ≤ lo) (h2 : lo < 2 ^ 62) (h3 : -(2 ^ 62) ≤ hi) (h4 : hi < 2 ^ 62)
    (q : R (Itr lo (hi - lo).toNat) H) : wpAny (model X.prog X.w) X.A (pyIter (.ref s.heap.objs.size)) (PIE X pins σ tg R) E { s with heap := s.heap.push { cls := .type "range", data := .fields #[.int lo t, .int hi u, .int 1 v] }, toks := tk } := by
  refine wpAny_pyIter_range (IsRange.new ..) (small_one h1 h2 h3 h4) ?_
  have I1 : Inv X pins σ H { s with heap := s.heap.push { cls := .type "range", data := .fields #[.int lo t, .int hi u, .int 1 v] }, toks := tk } := I.kept fun b o e => Heap.get?_push_of_some _ e
  refine ⟨(s.heap.push { cls := .type "range", data := .fields #[.int lo t, .int hi u, .int 1 v] }).objs.size, [(s.heap.push { cls := .type "range", data := .fields #[.int lo t, .int hi u, .int 1 v] }).objs.size], _, _, H, rfl,
    I1.kept (t' := tk) fun b o e => Heap.get?_push_of_some _ e, turn_range _ lo (hi - lo).toNat, ?_, fun b hb => ?_, q⟩
  · have e1 : lo + ((0 : Nat) : Int) * 1 = lo := by simp
    have e2 : (((hi - lo).toNat : Nat) : Int) - ((0 : Nat) : Int) = Builtin.Range.rangeSize lo hi 1 := by rw [rangeSize_one]; split <;> omega
    show IsRangeIter _ _ (lo + ((0 : Nat) : Int) * 1) ((((hi - lo).toNat : Nat) : Int) - ((0 : Nat) : Int)) 1
    rw [e1, e2]
    exact Heap.get?_push_size _ rfl
  · have e : b = (s.heap.push { cls := .type "range", data := .fields #[.int lo t, .int hi u, .int 1 v] }).objs.size := by simpa using hb
    subst e
    exact I1.fpOk (Nat.le_refl _) (I1.hok.fresh (Nat.le_refl _))
def iRng1 (ta : TA) : TI := fun σ H R => ta σ H fun vs H1 => ∃ j : Int, vs = [.int j] ∧ -(2 ^ 62) ≤ j ∧ j < 2 ^ 62 ∧ R (Itr 0 j.toNat) H1
def iRng2 (ta : TA) : TI := fun σ H R => ta σ H fun vs H1 => ∃ i j : Int, vs = [.int i, .int j] ∧ (-(2 ^ 62) ≤ i ∧ i < 2 ^ 62 ∧ -(2 ^ 62) ≤ j ∧ j < 2 ^ 62) ∧ R (Itr i (j - i).toNat) H1
theorem pi_range1 {a : Expr} {ta : TA} {p pos : Pos} (hg : Gl X "range") (hm : X.mg "range" = none) (ha : PA X [a] ta) (hs : starEach [a] X.env = [(false, eval a X.env)] := by rfl) : PI X tg (.Call (.Name "range" p) [a] [] pos) (iRng1 ta) := by
  intro pins s σ H R I h
  refine Call_ (ld_blt I hg hm boot_range (PyProof.Rows.callWith_type1 (thn (ha pos pins s σ H _ I h) fun us s1 ⟨vs, H1, I1, r1, q1⟩ => ?_) hs rfl))
  obtain ⟨j, e, q1, q2, q⟩ := q1
  subst e
  cases r1 with
  | cons r rr =>
    cases rr
    obtain ⟨t, rfl⟩ := r
    exact call_range_1 (range_it I1 (by omega) (by omega) q1 q2 (by simpa using q))
def tFor (wi : TI) (g : TG) (tb : TS) : TS := fun D σ H => wi σ H fun J H1 => ∃ W : Nat → Nat → St → Hp → Prop, (∃ m, W 0 m σ H1) ∧ ∀ i m σ H, W i m σ H →
  (J.stop i H ∧ D.nx σ H) ∨ (J.go i H ∧ ∃ N : St → Hp → Prop, (∀ σ' H', N σ' H' → ∃ m', m' < m ∧ W (i + 1) m' σ' H') ∧ ∀ x H', J.yld i H x H' → g x σ H' fun σ2 H2 => tb { D with nx := N, ct := N, bk := D.nx } σ2 H2)
def pinsAt (fp : List Addr) (h : Heap) : List (Addr × Obj) := fp.filterMap fun b => (h.get? b).map fun o => (b, o)
theorem mem_pinsAt {fp : List Addr} {h : Heap} {b : Addr} {o : Obj} (hb : b ∈ fp) (e : h.get? b = some o) : (b, o) ∈ pinsAt fp h := List.mem_filterMap.mpr ⟨b, hb, by rw [e]; rfl⟩
theorem of_pinsAt {fp : List Addr} {h : Heap} {p : Addr × Obj} (hp : p ∈ pinsAt fp h) : p.1 ∈ fp ∧ h.get? p.1 = some p.2 := by
  obtain ⟨b, hb, e⟩ := List.mem_filterMap.mp hp
  cases q : h.get? b with
  | none => rw [q] at e; cases e
  | some o =>
    rw [q] at e
    have e' : (b, o) = p := Option.some.inj e
    subst e'
    exact ⟨hb, q⟩
theorem Inv.pinned {pins : List (Addr × Obj)} {σ : St} {H : Hp} {s : Shared} {fp : List Addr} (I : Inv X pins σ H s) (hf : ∀ b ∈ fp, FpOk X pins H b) (ho : ∀ b ∈ fp, ∃ o, s.heap.get? b = some o ∧ ∀ v, o.data ≠ .cell v) : Inv X (pins ++ pinsAt fp s.heap) σ H s :=
  I.pins_of fun p hp => (List.mem_append.mp hp).elim (fun z => I.pin p (List.mem_append_right _ z)) fun z => by
    obtain ⟨hb, e⟩ := of_pinsAt z
    obtain ⟨f0, f1, f2, _⟩ := hf p.1 hb
    obtain ⟨o, e', d⟩ := ho p.1 hb
    rw [e] at e'; cases e'
    exact ⟨e, f0, f1, f2, d⟩
theorem Inv.unpinned {pins pl : List (Addr × Obj)} {σ : St} {H : Hp} {s : Shared} (I : Inv X (pins ++ pl) σ H s) : Inv X pins σ H s := I.pins_of fun p hp => I.pin p (List.mem_append_right _ (List.mem_append_left _ hp))
theorem ps_for {iter : Expr} {body : List Stmt} {wi : TI} {g : TG} {tb : TS} {pos : Pos} (hp : PassesOwn (model X.prog X.w) X.A X.env X.xe) (hc : X.calm = true) (hi : PI X tg iter wi) (hg : PG X tg g) (hb : PSs X body tb)
    (hs : ∀ x, foldedSetIterable iter X.env x = pure x := by intro _; rfl) : PS X (.For tg iter body [] pos) (tFor wi g tb) := by
  intro pins s σ H D I h
  refine wpAny_For (thn (hi pins s σ H _ I h) fun v s1 h1 => thn h1 fun itv s2 h2 => ?_) hs
  obtain ⟨it, fp, tn, J, H2, e, I2, T, st2, f2, W, ⟨m0, w0⟩, turn⟩ := h2
  subst e
  -- what stays true of the iterator's objects through the loop
  have stat : ∀ {H' : Hp}, (∀ b ∈ fp, H' b = none) → ∀ b ∈ fp, FpOk X pins H' b := fun hn b hb => ⟨hn b hb, (f2 b hb).2⟩
  refine codeAny_forLoop_any (fun n s' => ∃ i σ' H', Inv X pins σ' H' s' ∧ tn i s'.heap ∧ (∀ b ∈ fp, H' b = none) ∧ W i n σ' H') ?_ m0 ⟨0, σ, H2, I2, st2, fun b hb => (f2 b hb).1, w0⟩
  rintro n s3 ⟨i, σ3, H3, I3, st3, fr3, w3⟩
  rcases turn i n σ3 H3 w3 with ⟨stop, qn⟩ | ⟨go, N, hN, step⟩
  · refine wpAny_passesOwn hp (thn (T.done X rfl rfl rfl hc i pins s3 σ3 H3 X.xe I3 (stat fr3) st3 stop) fun r s4 ⟨hr, I4⟩ => ?_)
    subst hr
    exact wpAny_execs_nil ⟨σ3, H3, I4, qn⟩
  · refine wpAny_passesOwn hp (thn (T.item X rfl rfl rfl hc i pins s3 σ3 H3 X.xe I3 (stat fr3) st3 go) fun r s4 ⟨u, hr, h4⟩ => ?_)
    subst hr
    refine wpAny_passesOwn hp (thn h4 fun _ s5 ⟨x, H5, I5, r5, y5, st5, fr5⟩ => ?_)
    have I5' := I5.pinned (stat fr5) (T.obj _ _ st5)
    refine wpAny_passesOwn hp (thn (hg _ s5 σ3 H5 x u _ I5' r5 (step x H5 y5)) fun _ s6 ⟨σ6, H6, I6, q6⟩ => ?_)
    refine wpAny_passesOwn hp (thn (hb _ s6 σ6 H6 _ I6 q6) fun f s7 q7 => ?_)
    have again : ∀ {σ7 : St} {H7 : Hp}, Inv X (pins ++ pinsAt fp s5.heap) σ7 H7 s7 → N σ7 H7 → ∃ m, m < n ∧ ∃ i σ' H', Inv X pins σ' H' s7 ∧ tn i s7.heap ∧ (∀ b ∈ fp, H' b = none) ∧ W i m σ' H' := fun {σ7 H7} I7 n7 => by
      obtain ⟨m', hm, w7⟩ := hN σ7 H7 n7
      refine ⟨m', hm, i + 1, σ7, H7, I7.unpinned, T.keep _ _ _ st5 fun b hb o e => (I7.pin (b, o) (List.mem_append_right _ (List.mem_append_right _ (mem_pinsAt hb e)))).1, fun b hb => ?_, w7⟩
      obtain ⟨o, e, d⟩ := T.obj _ _ st5 b hb
      exact (I7.pin (b, o) (List.mem_append_right _ (List.mem_append_right _ (mem_pinsAt hb e)))).2.1
    cases f with
    | next => obtain ⟨σ7, H7, I7, n7⟩ := q7; exact again I7 n7
    | cont => obtain ⟨σ7, H7, I7, n7⟩ := q7; exact again I7 n7
    | brk => obtain ⟨σ7, H7, I7, q7⟩ := q7; exact ⟨σ7, H7, I7.unpinned, q7⟩
    | ret v => obtain ⟨x7, σ7, H7, I7, r7, q7⟩ := q7; exact ⟨x7, σ7, H7, I7.unpinned, r7, q7⟩
end
theorem for_list {K : PySem.W.Frag} {a : Addr} {xs : List V} {g : TG} {tb : TS} {D : Ends} {σ : St} {H : Hp} (Pv : Nat → St → Hp → Prop) (h0 : Pv 0 σ H) (hl : ∀ i σ H, i ≤ xs.length → Pv i σ H → SqL K H a xs)
    (hs : ∀ i x σ H, xs[i]? = some x → Pv i σ H → g x σ H fun σ2 H2 => tb { D with nx := Pv (i + 1), ct := Pv (i + 1), bk := D.nx } σ2 H2) (hd : ∀ σ H, Pv xs.length σ H → D.nx σ H) :
    ∃ W : Nat → Nat → St → Hp → Prop, (∃ m, W 0 m σ H) ∧ ∀ i m σ H, W i m σ H →
      ((Itl K a).stop i H ∧ D.nx σ H) ∨ ((Itl K a).go i H ∧ ∃ N : St → Hp → Prop, (∀ σ' H', N σ' H' → ∃ m', m' < m ∧ W (i + 1) m' σ' H') ∧ ∀ x H', (Itl K a).yld i H x H' → g x σ H' fun σ2 H2 => tb { D with nx := N, ct := N, bk := D.nx } σ2 H2) := by
  refine ⟨fun i m σ H => m = xs.length - i ∧ i ≤ xs.length ∧ Pv i σ H, ⟨xs.length, by simp, Nat.zero_le _, h0⟩, ?_⟩
  rintro i m σ H ⟨rfl, hi, p⟩
  have q := hl i σ H hi p
  by_cases hlt : i < xs.length
  · refine .inr ⟨⟨xs, xs[i], q, by simp [hlt]⟩, Pv (i + 1), fun σ' H' p' => ⟨xs.length - (i + 1), by omega, rfl, hlt, p'⟩, fun x H' y => ?_⟩
    obtain ⟨e, y⟩ := y
    subst e
    exact hs i x σ _ (y xs q) p
  · have e : i = xs.length := by omega
    subst e
    exact .inl ⟨⟨xs, q, Nat.le_refl _⟩, hd σ H p⟩
theorem for_range {lo : Int} {n : Nat} {g : TG} {tb : TS} {D : Ends} {σ : St} {H : Hp} (Pv : Nat → St → Hp → Prop) (h0 : Pv 0 σ H)
    (hs : ∀ i σ H, i < n → Pv i σ H → g (.int (lo + i)) σ H fun σ2 H2 => tb { D with nx := Pv (i + 1), ct := Pv (i + 1), bk := D.nx } σ2 H2) (hd : ∀ σ H, Pv n σ H → D.nx σ H) :
    ∃ W : Nat → Nat → St → Hp → Prop, (∃ m, W 0 m σ H) ∧ ∀ i m σ H, W i m σ H →
      ((Itr lo n).stop i H ∧ D.nx σ H) ∨ ((Itr lo n).go i H ∧ ∃ N : St → Hp → Prop, (∀ σ' H', N σ' H' → ∃ m', m' < m ∧ W (i + 1) m' σ' H') ∧ ∀ x H', (Itr lo n).yld i H x H' → g x σ H' fun σ2 H2 => tb { D with nx := N, ct := N, bk := D.nx } σ2 H2) := by
  refine ⟨fun i m σ H => m = n - i ∧ i ≤ n ∧ Pv i σ H, ⟨n, by simp, Nat.zero_le _, h0⟩, ?_⟩
  rintro i m σ H ⟨rfl, hi, p⟩
  by_cases hlt : i < n
  · refine .inr ⟨hlt, Pv (i + 1), fun σ' H' p' => ⟨n - (i + 1), by omega, rfl, hlt, p'⟩, fun x H' y => ?_⟩
    obtain ⟨e, y⟩ := y
    subst e y
    exact hs i σ _ hlt p
  · have e : i = n := by omega
    subst e
    exact .inl ⟨Nat.le_refl _, hd σ H p⟩
end L2
namespace L2
open PySem PySem.Spec PyProof.Rows
abbrev R2 := V → V → Hp → VK → Prop
def OpR (X : Cx) (f : Value → Value → Sem Value) (r : R2) : Prop :=
  ∀ (pins : List (Addr × Obj)) (s : Shared) (σ : St) (H : Hp) (x y : V) (v u : Value) (Q : VK), Inv X pins σ H s → RelV x v → RelV y u → r x y H Q →
    wpAny (model X.prog X.w) X.A (f v u) (EP X pins σ Q) X.xe s
def UnR (X : Cx) (f : Value → Sem Value) (r : V → Hp → VK → Prop) : Prop :=
  ∀ (pins : List (Addr × Obj)) (s : Shared) (σ : St) (H : Hp) (x : V) (v : Value) (Q : VK), Inv X pins σ H s → RelV x v → r x H Q →
    wpAny (model X.prog X.w) X.A (f v) (EP X pins σ Q) X.xe s
def CallR (X : Cx) (f : Value) (r : List V → Hp → VK → Prop) : Prop :=
  ∀ (pins : List (Addr × Obj)) (s : Shared) (σ : St) (H : Hp) (xs : List V) (us : List Value) (Q : VK), Inv X pins σ H s → Vals xs us → r xs H Q →
    wpAny (model X.prog X.w) X.A (call f us) (EP X pins σ Q) X.xe s
def tOp (r : R2) (ta tb : TE) : TE := fun σ H Q => ta σ H fun x H1 => tb σ H1 fun y H2 => r x y H2 Q
def tUn (r : V → Hp → VK → Prop) (ta : TE) : TE := fun σ H Q => ta σ H fun x H1 => r x H1 Q
def rI (C : Int → Int → Prop) (g : Int → Int → V) : R2 := fun x y H Q => match x, y with
  | .int i, .int j => C i j ∧ Q (g i j) H
  | _, _ => False
theorem rI_inv {C : Int → Int → Prop} {g : Int → Int → V} {x y : V} {H : Hp} {Q : VK} (h : rI C g x y H Q) : ∃ i j, x = .int i ∧ y = .int j ∧ C i j ∧ Q (g i j) H := by
  unfold rI at h
  split at h
  · exact ⟨_, _, rfl, rfl, h⟩
  · exact h.elim
def rI0 (g : Int → Int → V) : R2 := fun x y H Q => match x, y with
  | .int i, .int j => Q (g i j) H
  | _, _ => False
theorem rI0_inv {g : Int → Int → V} {x y : V} {H : Hp} {Q : VK} (h : rI0 g x y H Q) : ∃ i j, x = .int i ∧ y = .int j ∧ Q (g i j) H := by
  unfold rI0 at h
  split at h
  · exact ⟨_, _, rfl, rfl, h⟩
  · exact h.elim
def rU (g : Int → V) : V → Hp → VK → Prop := fun x H Q => ∃ i, x = .int i ∧ Q (g i) H
section
variable {X : Cx} {a b c : Expr} {ta tb tc : TE} {pos : Pos}
theorem binT (ha : PE X a ta) (hb : PE X b tb) {pins : List (Addr × Obj)} {s : Shared} {σ : St} {H : Hp} {R : V → V → Hp → Prop} (I : Inv X pins σ H s)
    (h : ta σ H fun x H1 => tb σ H1 fun y H2 => R x y H2) {Q : Value → Shared → Prop} {f : Value → Value → Sem Value}
    (hf : ∀ v u s2 x y H2, Inv X pins σ H2 s2 → RelV x v → RelV y u → R x y H2 → wpAny (model X.prog X.w) X.A (f v u) Q X.xe s2) :
    wpAny (model X.prog X.w) X.A (eval a X.env) (fun v s₁ => wpAny (model X.prog X.w) X.A (eval b X.env) (fun u s₂ => wpAny (model X.prog X.w) X.A (f v u) Q X.xe s₂) X.xe s₁) X.xe s := by
  refine thn (ha pins s σ H _ I h) fun v s1 ⟨x, H1, I1, r1, q1⟩ => ?_
  refine thn (hb pins s1 σ H1 _ I1 q1) fun u s2 ⟨y, H2, I2, r2, q2⟩ => ?_
  exact hf v u s2 x y H2 I2 r1 r2 q2
theorem pe_op {op : Operator} {r : R2} (ho : OpR X (binaryOp op) r) (ha : PE X a ta) (hb : PE X b tb) : PE X (.BinOp a op b pos) (tOp r ta tb) := by
  intro pins s σ H Q I h
  exact wpAny_BinOp (binT ha hb I h fun v u s2 x y H2 I2 rx ry q => ho pins s2 σ H2 x y v u Q I2 rx ry q)
theorem pe_un {op : UnaryOp} {r : V → Hp → VK → Prop} (ho : UnR X (unaryOp op) r) (ha : PE X a ta) : PE X (.UnaryOp op a pos) (tUn r ta) := by
  intro pins s σ H Q I h
  exact UnaryOp_ (thn (ha pins s σ H _ I h) fun v s1 ⟨x, H1, I1, r1, q1⟩ => ho pins s1 σ H1 x v Q I1 r1 q1)
theorem opI {f : Value → Value → Sem Value} {C : Int → Int → Prop} {g : Int → Int → Int}
    (rule : ∀ (i j : Int) (t u : Tok) (s : Shared) (Q : Value → Shared → Prop) (E : Value → Shared → Prop), C i j → Q (.int (g i j) s.toks) { s with toks := s.toks + 1 } → wpAny (model X.prog X.w) X.A (f (.int i t) (.int j u)) Q E s) :
    OpR X f (rI C fun i j => .int (g i j)) := by
  intro pins s σ H x y v u Q I rx ry h
  obtain ⟨i, j, rfl, rfl, hc, q⟩ := rI_inv h
  obtain ⟨t, rfl⟩ := rx
  obtain ⟨t', rfl⟩ := ry
  exact rule i j t t' s _ _ hc ⟨.int (g i j), H, I.tok _, ⟨_, rfl⟩, q⟩
theorem opI0 {f : Value → Value → Sem Value} {g : Int → Int → Int}
    (rule : ∀ (i j : Int) (t u : Tok) (s : Shared) (Q : Value → Shared → Prop) (E : Value → Shared → Prop), Q (.int (g i j) s.toks) { s with toks := s.toks + 1 } → wpAny (model X.prog X.w) X.A (f (.int i t) (.int j u)) Q E s) :
    OpR X f (rI0 fun i j => .int (g i j)) := by
  intro pins s σ H x y v u Q I rx ry h
  obtain ⟨i, j, rfl, rfl, q⟩ := rI0_inv h
  obtain ⟨t, rfl⟩ := rx
  obtain ⟨t', rfl⟩ := ry
  exact rule i j t t' s _ _ ⟨.int (g i j), H, I.tok _, ⟨_, rfl⟩, q⟩
theorem opB0 {f : Value → Value → Sem Value} {g : Int → Int → Bool}
    (rule : ∀ (i j : Int) (t u : Tok) (s : Shared) (Q : Value → Shared → Prop) (E : Value → Shared → Prop), Q (.bool (g i j)) s → wpAny (model X.prog X.w) X.A (f (.int i t) (.int j u)) Q E s) :
    OpR X f (rI0 fun i j => .bl (g i j)) := by
  intro pins s σ H x y v u Q I rx ry h
  obtain ⟨i, j, rfl, rfl, q⟩ := rI0_inv h
  obtain ⟨t, rfl⟩ := rx
  obtain ⟨t', rfl⟩ := ry
  exact rule i j t t' s _ _ ⟨.bl (g i j), H, I, rfl, q⟩
def CDiv (i j : Int) : Prop := 0 < j ∧ j < 1073741824
def CPow (i j : Int) : Prop := 0 ≤ j ∧ j ≤ 1000000 ∧ i.natAbs < 2 ^ 64
def CMul (i j : Int) : Prop := (-(2 ^ 64) < i ∧ i < 2 ^ 64) ∨ (-(2 ^ 64) < j ∧ j < 2 ^ 64)
theorem CMul.ok {i j : Int} (h : CMul i j) : IntMulOk i j := by
  rcases h with ⟨h1, h2⟩ | ⟨h1, h2⟩
  · exact .of_left (intBits_le_64 h1 h2)
  · exact .of_right (intBits_le_64 h1 h2)
theorem op_add : OpR X (binaryOp .Add) (rI0 fun i j => .int (i + j)) := opI0 fun _ _ _ _ _ _ _ q => add_int q
theorem op_sub : OpR X (binaryOp .Sub) (rI0 fun i j => .int (i - j)) := opI0 fun _ _ _ _ _ _ _ q => sub_int q
theorem op_mul : OpR X (binaryOp .Mult) (rI CMul fun i j => .int (i * j)) := opI fun _ _ _ _ _ _ _ hc q => mul_int q hc.ok
theorem op_fdiv : OpR X (binaryOp .FloorDiv) (rI CDiv fun i j => .int (i / j)) := opI fun i j _ _ _ _ _ hc q => by
  have h1 : (0 : Int) < j := hc.1
  have h2 : j < 1073741824 := hc.2
  exact floordiv_int (by omega) (by rw [Int.fdiv_eq_ediv_of_nonneg i (by omega)]; exact q) (.inl (PyProof.noPylong_small (by omega)))
theorem op_mod : OpR X (binaryOp .Mod) (rI (fun _ j => 0 < j) fun i j => .int (i % j)) := opI fun i j _ _ _ _ _ hc q => by
  have h1 : (0 : Int) < j := hc
  exact mod_int' (by omega) (by rw [Int.fmod_eq_emod_of_nonneg i (by omega)]; exact q)
theorem op_pow : OpR X (binaryOp .Pow) (rI CPow fun i j => .int (i ^ j.toNat)) := opI fun _ _ _ _ _ _ _ hc q => pow_int_small hc.1 hc.2.1 hc.2.2 q
theorem unI {f : Value → Sem Value} {g : Int → Int}
    (rule : ∀ (i : Int) (t : Tok) (s : Shared) (Q : Value → Shared → Prop) (E : Value → Shared → Prop), Q (.int (g i) s.toks) { s with toks := s.toks + 1 } → wpAny (model X.prog X.w) X.A (f (.int i t)) Q E s) :
    UnR X f (rU fun i => .int (g i)) := by
  intro pins s σ H x v Q I rx h
  obtain ⟨i, rfl, q⟩ := h
  obtain ⟨t, rfl⟩ := rx
  exact rule i t s _ _ ⟨.int (g i), H, I.tok _, ⟨_, rfl⟩, q⟩
theorem un_neg : UnR X (unaryOp .USub) (rU fun i => .int (-i)) := unI fun _ _ _ _ _ q => neg_int q
end
def scal : V → V → Bool
  | .non, .non => true | .non, .int _ => true | .int _, .non => true | .non, .bl _ => true | .bl _, .non => true | .non, .str _ => true | .str _, .non => true
  | .int _, .int _ => true | .bl _, .bl _ => true | .str _, .str _ => true | .byt _, .byt _ => true
  | .int _, .str _ => true | .str _, .int _ => true | .bl _, .str _ => true | .str _, .bl _ => true
  | _, _ => false
def rEq : R2 := fun x y H Q => match x, y with
  | .int i, .int j => Q (.bl (decide (i = j))) H
  | .str i, .str j => Q (.bl (decide (i = j))) H
  | .bl i, .bl j => Q (.bl ((i == j))) H
  | x, y => scal x y = true ∧ Q (.bl (decide (x = y))) H
theorem rEq_inv {x y : V} {H : Hp} {Q : VK} (h : rEq x y H Q) : scal x y = true ∧ Q (.bl (decide (x = y))) H := by
  unfold rEq at h
  split at h
  · refine ⟨rfl, ?_⟩
    rename_i i j
    rw [show decide (V.int i = V.int j) = decide (i = j) from by simp]
    exact h
  · refine ⟨rfl, ?_⟩
    rename_i i j
    rw [show decide (V.str i = V.str j) = decide (i = j) from by simp]
    exact h
  · refine ⟨rfl, ?_⟩
    rename_i i j
    rw [show decide (V.bl i = V.bl j) = (i == j) from by cases i <;> cases j <;> rfl]
    exact h
  · exact h
def rNe : R2 := fun x y H Q => match x, y with
  | .int i, .int j => Q (.bl (!decide (i = j))) H
  | .str i, .str j => Q (.bl (!decide (i = j))) H
  | .bl i, .bl j => Q (.bl (!(i == j))) H
  | x, y => scal x y = true ∧ Q (.bl (!decide (x = y))) H
theorem rNe_inv {x y : V} {H : Hp} {Q : VK} (h : rNe x y H Q) : scal x y = true ∧ Q (.bl (!decide (x = y))) H := by
  unfold rNe at h
  split at h
  · refine ⟨rfl, ?_⟩
    rename_i i j
    rw [show decide (V.int i = V.int j) = decide (i = j) from by simp]
    exact h
  · refine ⟨rfl, ?_⟩
    rename_i i j
    rw [show decide (V.str i = V.str j) = decide (i = j) from by simp]
    exact h
  · refine ⟨rfl, ?_⟩
    rename_i i j
    rw [show decide (V.bl i = V.bl j) = (i == j) from by cases i <;> cases j <;> rfl]
    exact h
  · exact h
theorem dec_int {i j : Int} : decide (V.int i = V.int j) = (i == j) := by
  rw [Bool.eq_iff_iff]
  simp
theorem dec_bl {i j : Bool} : decide (V.bl i = V.bl j) = (i == j) := by
  rw [Bool.eq_iff_iff]
  simp
theorem dec_str {i j : Str} : decide (V.str i = V.str j) = (i == j) := by
  rw [Bool.eq_iff_iff]
  simp
theorem dec_byt {i j : Array UInt8} : decide (V.byt i = V.byt j) = (i.toList == j.toList) := by
  rw [Bool.eq_iff_iff]
  cases i
  cases j
  simp
section
variable {X : Cx} {a b c : Expr} {ta tb tc : TE} {pos : Pos}
theorem fin_bl {pins : List (Addr × Obj)} {σ : St} {H : Hp} {s : Shared} {Q : VK} {k k' : Bool} (I : Inv X pins σ H s) (q : Q (.bl k) H) (e : k = k') : EP X pins σ Q (.bool k') s := by
  subst e
  exact ⟨.bl k, H, I, rfl, q⟩
theorem op_eq : OpR X (compareOp .Eq) rEq := by
  intro pins s σ H x y v u Q I rx ry h
  obtain ⟨hs, q⟩ := rEq_inv h
  cases x with
  | non =>
    cases rx
    cases y with
    | non => cases ry; exact PySem.EqNone.eq_none_none (fin_bl I q (by simp))
    | bl j => cases ry; exact PySem.EqNone.eq_none_bool (fin_bl I q (by simp))
    | int j => obtain ⟨t', rfl⟩ := ry; exact PySem.EqNone.eq_none_int (fin_bl I q (by simp))
    | str j => obtain ⟨t', rfl⟩ := ry; exact PySem.EqNone.eq_none_str (fin_bl I q (by simp))
    | _ => exact absurd (show false = true from hs) Bool.false_ne_true
  | bl i =>
    cases rx
    cases y with
    | non => cases ry; exact PySem.EqNone.eq_bool_none (fin_bl I q (by simp))
    | bl j => cases ry; exact eq_bool (fin_bl I q dec_bl)
    | str j => obtain ⟨t', rfl⟩ := ry; exact PySem.EqMixed.eq_bool_str (fin_bl I q (by simp))
    | _ => exact absurd (show false = true from hs) Bool.false_ne_true
  | int i =>
    obtain ⟨t, rfl⟩ := rx
    cases y with
    | non => cases ry; exact PySem.EqNone.eq_int_none (fin_bl I q (by simp))
    | int j => obtain ⟨t', rfl⟩ := ry; exact eq_int (fin_bl I q dec_int)
    | str j => obtain ⟨t', rfl⟩ := ry; exact PySem.EqMixed.eq_int_str (fin_bl I q (by simp))
    | _ => exact absurd (show false = true from hs) Bool.false_ne_true
  | str i =>
    obtain ⟨t, rfl⟩ := rx
    cases y with
    | non => cases ry; exact PySem.EqNone.eq_str_none (fin_bl I q (by simp))
    | bl j => cases ry; exact PySem.EqMixed.eq_str_bool (fin_bl I q (by simp))
    | int j => obtain ⟨t', rfl⟩ := ry; exact PySem.EqMixed.eq_str_int (fin_bl I q (by simp))
    | str j => obtain ⟨t', rfl⟩ := ry; exact eq_str (fin_bl I q dec_str)
    | _ => exact absurd (show false = true from hs) Bool.false_ne_true
  | byt i =>
    obtain ⟨t, rfl⟩ := rx
    cases y with
    | byt j => obtain ⟨t', rfl⟩ := ry; exact PySem.W.eq_bytes (fin_bl I q dec_byt)
    | _ => exact absurd (show false = true from hs) Bool.false_ne_true
  | _ => cases y <;> exact absurd (show false = true from hs) Bool.false_ne_true
theorem op_ne : OpR X (compareOp .NotEq) rNe := by
  intro pins s σ H x y v u Q I rx ry h
  obtain ⟨hs, q⟩ := rNe_inv h
  cases x with
  | non =>
    cases rx
    cases y with
    | non => cases ry; exact PySem.EqNone.ne_none_none (fin_bl I q (by simp))
    | bl j => cases ry; exact PySem.EqNone.ne_none_bool (fin_bl I q (by simp))
    | int j => obtain ⟨t', rfl⟩ := ry; exact PySem.EqNone.ne_none_int (fin_bl I q (by simp))
    | str j => obtain ⟨t', rfl⟩ := ry; exact PySem.EqNone.ne_none_str (fin_bl I q (by simp))
    | _ => exact absurd (show false = true from hs) Bool.false_ne_true
  | bl i =>
    cases rx
    cases y with
    | non => cases ry; exact PySem.EqNone.ne_bool_none (fin_bl I q (by simp))
    | bl j => cases ry; exact ne_bool (fin_bl I q (congrArg not dec_bl))
    | str j => obtain ⟨t', rfl⟩ := ry; exact PySem.EqMixed.ne_bool_str (fin_bl I q (by simp))
    | _ => exact absurd (show false = true from hs) Bool.false_ne_true
  | int i =>
    obtain ⟨t, rfl⟩ := rx
    cases y with
    | non => cases ry; exact PySem.EqNone.ne_int_none (fin_bl I q (by simp))
    | int j => obtain ⟨t', rfl⟩ := ry; exact ne_int (fin_bl I q (congrArg not dec_int))
    | str j => obtain ⟨t', rfl⟩ := ry; exact PySem.EqMixed.ne_int_str (fin_bl I q (by simp))
    | _ => exact absurd (show false = true from hs) Bool.false_ne_true
  | str i =>
    obtain ⟨t, rfl⟩ := rx
    cases y with
    | non => cases ry; exact PySem.EqNone.ne_str_none (fin_bl I q (by simp))
    | bl j => cases ry; exact PySem.EqMixed.ne_str_bool (fin_bl I q (by simp))
    | int j => obtain ⟨t', rfl⟩ := ry; exact PySem.EqMixed.ne_str_int (fin_bl I q (by simp))
    | str j => obtain ⟨t', rfl⟩ := ry; exact ne_str (fin_bl I q (congrArg not dec_str))
    | _ => exact absurd (show false = true from hs) Bool.false_ne_true
  | byt i =>
    obtain ⟨t, rfl⟩ := rx
    cases y with
    | byt j => obtain ⟨t', rfl⟩ := ry; exact PySem.W.ne_bytes (fin_bl I q (congrArg not dec_byt))
    | _ => exact absurd (show false = true from hs) Bool.false_ne_true
  | _ => cases y <;> exact absurd (show false = true from hs) Bool.false_ne_true
theorem op_lt : OpR X (compareOp .Lt) (rI0 fun i j => .bl (decide (i < j))) := opB0 fun _ _ _ _ _ _ _ q => lt_int q
theorem op_le : OpR X (compareOp .LtE) (rI0 fun i j => .bl (decide (i ≤ j))) := opB0 fun _ _ _ _ _ _ _ q => le_int q
theorem op_gt : OpR X (compareOp .Gt) (rI0 fun i j => .bl (decide (j < i))) := opB0 fun _ _ _ _ _ _ _ q => gt_int q
theorem op_isN : OpR X (compareOp .Is) (fun x y H Q => y = .non ∧ Q (.bl (decide (x = .non))) H) := by
  intro pins s σ H x y v u Q I rx ry h
  obtain ⟨rfl, q⟩ := h
  cases ry
  refine is_none_gen (fin_bl I q ?_)
  cases x <;> first
    | (cases rx; rfl)
    | (obtain ⟨t, rfl⟩ := rx; rfl)
theorem op_notN : OpR X (compareOp .IsNot) (fun x y H Q => y = .non ∧ Q (.bl (!decide (x = .non))) H) := by
  intro pins s σ H x y v u Q I rx ry h
  obtain ⟨rfl, q⟩ := h
  cases ry
  refine isnot_none_gen (fin_bl I q ?_)
  cases x <;> first
    | (cases rx; rfl)
    | (obtain ⟨t, rfl⟩ := rx; rfl)
theorem nomark (b : Expr) {op : CmpOp} (h : op ≠ .In := by decide) (h2 : op ≠ .NotIn := by decide) : behindInMarks op b = false := by
  have e1 : (op == CmpOp.In) = false := by cases op <;> first | rfl | exact absurd rfl h
  have e2 : (op == CmpOp.NotIn) = false := by cases op <;> first | rfl | exact absurd rfl h2
  cases b <;> simp [behindInMarks, e1, e2]
theorem pe_cmpR {op : CmpOp} {r : R2} (ho : OpR X (compareOp op) r) (ha : PE X a ta) (hb : PE X b tb) (hm : behindInMarks op b = false) : PE X (.Compare a [op] [b] pos) (tOp r ta tb) := by
  intro pins s σ H Q I h
  exact wpAny_Compare1 (binT ha hb I h fun v u s2 x y H2 I2 rx ry q => ho pins s2 σ H2 x y v u Q I2 rx ry q) hm
def tTest (t : TE) : TT := fun σ H Q => t σ H fun x H' => ∃ k, x = .bl k ∧ Q k H'
theorem pt_cmpR {op : CmpOp} {r : R2} (ho : OpR X (compareOp op) r) (ha : PE X a ta) (hb : PE X b tb) (hm : behindInMarks op b = false) : PT X (.Compare a [op] [b] pos) (tTest (tOp r ta tb)) := by
  intro pins s σ H Q I h
  refine wpAny_isTrue_Compare1 (thn (ha pins s σ H _ I h) fun v s1 ⟨x, H1, I1, r1, q1⟩ => thn (hb pins s1 σ H1 _ I1 q1) fun u s2 ⟨y, H2, I2, r2, q2⟩ =>
    thn (ho pins s2 σ H2 x y v u _ I2 r1 r2 q2) fun c s3 ⟨z, H3, I3, r3, k, e, q3⟩ => ?_) hm
  subst e
  cases r3
  exact wpAny_truthy_bool ⟨H3, I3, q3⟩
def tChain (r r' : R2) (ta tb tc : TE) : TE := fun σ H Q => ta σ H fun x H1 => tb σ H1 fun y H2 => r x y H2 fun z H3 => ∃ k, z = .bl k ∧
  (if k = true then tc σ H3 fun w' H4 => r' y w' H4 Q else Q (.bl false) H3)
theorem pe_chain {op op' : CmpOp} {r r' : R2} (ho : OpR X (compareOp op) r) (ho' : OpR X (compareOp op') r') (ha : PE X a ta) (hb : PE X b tb) (hc : PE X c tc)
    (hm : lastMarks [op, op'] [b, c] = false := by with_unfolding_all rfl) : PE X (.Compare a [op, op'] [b, c] pos) (tChain r r' ta tb tc) := by
  intro pins s σ H Q I h
  refine Compare_chain (thn (ha pins s σ H _ I h) fun v s1 ⟨x, H1, I1, r1, q1⟩ => chain_link (thn (hb pins s1 σ H1 _ I1 q1) fun u s2 ⟨y, H2, I2, r2, q2⟩ =>
    thn (ho pins s2 σ H2 x y v u _ I2 r1 r2 q2) fun d s3 ⟨z, H3, I3, r3, k, e, q3⟩ => ?_)) hm
  subst e
  cases r3
  refine wpAny_truthy_bool ?_
  cases k with
  | false => exact ite_ff ⟨.bl false, H3, I3, rfl, q3⟩
  | true => exact ite_tt (chain_last (thn (hc pins s3 σ H3 _ I3 q3) fun w' s4 ⟨z', H4, I4, r4, q4⟩ => ho' pins s4 σ H4 y z' u w' Q I4 r2 r4 q4))
theorem pt_chain {op op' : CmpOp} {r r' : R2} (ho : OpR X (compareOp op) r) (ho' : OpR X (compareOp op') r') (ha : PE X a ta) (hb : PE X b tb) (hc : PE X c tc)
    (hm : lastMarks [op, op'] [b, c] = false := by with_unfolding_all rfl) : PT X (.Compare a [op, op'] [b, c] pos) (tTest (tChain r r' ta tb tc)) := by
  intro pins s σ H Q I h
  refine isTrue_chain (thn (ha pins s σ H _ I h) fun v s1 ⟨x, H1, I1, r1, q1⟩ => test_link (thn (hb pins s1 σ H1 _ I1 q1) fun u s2 ⟨y, H2, I2, r2, q2⟩ =>
    thn (ho pins s2 σ H2 x y v u _ I2 r1 r2 q2) fun d s3 ⟨z, H3, I3, r3, k, e, q3⟩ => ?_)) hm
  subst e
  cases r3
  refine wpAny_truthy_bool ?_
  cases k with
  | false =>
    obtain ⟨k', e', q'⟩ := q3
    cases e'
    exact ite_ff ⟨H3, I3, q'⟩
  | true =>
    refine ite_tt (test_last (thn (hc pins s3 σ H3 _ I3 q3) fun w' s4 ⟨z', H4, I4, r4, q4⟩ => thn (ho' pins s4 σ H4 y z' u w' _ I4 r2 r4 q4) fun d' s5 ⟨z2, H5, I5, r5, k2, e2, q5⟩ => ?_))
    subst e2
    cases r5
    exact wpAny_truthy_bool ⟨H5, I5, q5⟩
theorem line63 : (sizeLine : Nat) < 2 ^ 63 := by rw [sizeLine_eq]; decide
theorem op_add_str : OpR X (binaryOp .Add) (fun x y H Q => ∃ i j, x = .str i ∧ y = .str j ∧ i.length + j.length ≤ sizeLine ∧ Q (.str (i ++ j)) H) := by
  intro pins s σ H x y v u Q I rx ry h
  obtain ⟨i, j, rfl, rfl, hz, q⟩ := h
  obtain ⟨t, rfl⟩ := rx
  obtain ⟨t', rfl⟩ := ry
  exact add_str (fun t' tk => ⟨.str (i ++ j), H, I.tok _, ⟨_, rfl⟩, q⟩) hz
theorem vals1 {x : V} {us : List Value} (r : Vals [x] us) : ∃ u, us = [u] ∧ RelV x u := by
  cases r with
  | cons r1 r2 => cases r2; exact ⟨_, rfl, r1⟩
theorem vals2 {x y : V} {us : List Value} (r : Vals [x, y] us) : ∃ u w', us = [u, w'] ∧ RelV x u ∧ RelV y w' := by
  cases r with
  | cons r1 r2 =>
    cases r2 with
    | cons r3 r4 => cases r4; exact ⟨_, _, rfl, r1, r3⟩
theorem call_min2 (hc : X.calm = true) : CallR X (.builtin "min") (fun xs H Q => ∃ i j, xs = [.int i, .int j] ∧ Q (.int (if j < i then j else i)) H) := by
  intro pins s σ H xs us Q I r h
  obtain ⟨i, j, rfl, q⟩ := h
  obtain ⟨u, w', rfl, ⟨t, rfl⟩, ⟨t', rfl⟩⟩ := vals2 r
  refine min_two_ints (I.ok.hd hc) fun h' tk k => ⟨_, H, I.kept k, ?_, q⟩
  by_cases hj : j < i
  · rw [if_pos hj, if_pos hj]; exact ⟨_, rfl⟩
  · rw [if_neg hj, if_neg hj]; exact ⟨_, rfl⟩
end
end L2
namespace L2
open PySem PySem.Spec PyProof.Rows
section
variable {prog : Program} {w : World} {A : Around} {E : Value → Shared → Prop} {s : Shared} {K : PySem.W.Frag} {x dx C f : Addr} {mA : Str → Option Value} {name : Str} {v : Value}
end
section
variable {P : Program} {w : World} {H H' : Hp} {h h' : Heap} {a C dx : Addr} {fs fs' : List (Str × V)}
end
set_option genInjectivity false in
set_option genSizeOf false in
structure Cls (K : PySem.W.Frag) (C : Addr) : Prop where
  pg : PySem.W.plainGet K C Str.empty = true
  hd : PySem.W.hasDictIn K C = true
  po : PySem.W.plainOver K C = true
  sa : PySem.W.findIn K (.ref C) "__setattr__" = some (some (.builtin "object.__setattr__"))
theorem Cls.get {K : PySem.W.Frag} {C : Addr} (c : Cls K C) (f : Str) : PySem.W.plainGet K C f = true := c.pg
section
variable {X : Cx} {pins : List (Addr × Obj)} {σ : St} {H : Hp} {s : Shared} {a C dx : Addr} {fs : List (Str × V)} {f : Str} {v : V} {A : Around} {E : Value → Shared → Prop}
end
section
variable {X : Cx} {o e value : Expr} {f : Str} {pos pos' tpos : Pos} {ta tv : TE}
end
section
variable {X : Cx} {pins : List (Addr × Obj)} {σ : St} {H : Hp} {s : Shared} {A : Around} {E : Value → Shared → Prop} {Q : Value → Shared → Prop} {c : Value} {b : Bool}
end
end L2
namespace L2
open PySem PySem.Spec PyProof.Rows
set_option genInjectivity false in
set_option genSizeOf false in
structure Room (k : Nat) (A : Around) : Prop where
  hd : A.handled = none
  dp : A.depth + 3 * k + 5 < recursionLimit
  un : A.units + 16 * k + 200 < cLine
  gd : A.guards = some []
theorem Room.mono {j k : Nat} {A : Around} (r : Room k A) (h : j ≤ k) : Room j A := ⟨r.hd, by have := r.dp; omega, by have := r.un; omega, r.gd⟩
theorem Room.deeper {k : Nat} {A : Around} (r : Room (k + 1) A) (env : Env) : Room k (A.deeper env) :=
  ⟨r.hd, by have := r.dp; show A.depth + 1 + 3 * k + 5 < _; omega, by have := r.un; show A.units + 3 + 16 * k + 200 < _; omega, r.gd⟩
theorem Room.depth {k : Nat} {A : Around} (r : Room k A) : A.depth < recursionLimit := by have := r.dp; omega
def tNil : TA := fun _ H Q => Q [] H
def tCons (ta : TE) (tr : TA) : TA := fun σ H Q => ta σ H fun x H1 => tr σ H1 fun xs H2 => Q (x :: xs) H2
section
variable {X : Cx} {e : Expr} {es : List Expr} {te : TE} {t : TA} {pos : Pos}
theorem pa_nil : PA X [] tNil := fun _ _ _ _ H Q I h => Calls.spliced_nil ⟨[], H, I, .nil, h⟩
theorem pa_cons (ha : PE X e te) (hr : PA X es t) (hs : starEach (e :: es) X.env = (false, eval e X.env) :: starEach es X.env := by rfl) : PA X (e :: es) (tCons te t) := by
  intro pos pins s σ H Q I h
  rw [hs]
  show wpAny _ _ (spliced ((false, eval e X.env) :: backTo pos (starEach es X.env))) _ _ s
  refine Calls.spliced_cons (thn (ha pins s σ H _ I h) fun u s1 ⟨x, H1, I1, r1, q1⟩ => ?_)
  exact thn (hr pos pins s1 σ H1 _ I1 q1) fun us s2 ⟨xs, H2, I2, r2, q2⟩ => ⟨x :: xs, H2, I2, .cons r1 r2, q2⟩
def tTup (t : TA) : TE := fun σ H Q => t σ H fun xs H1 => xs.length ≤ sizeLine ∧ ∀ p, H1 p = none → Q (.ref p) (upd H1 p (.tup xs))
def tLst (t : TA) : TE := fun σ H Q => t σ H fun xs H1 => xs.length ≤ sizeLine ∧ ∀ p, H1 p = none → Q (.ref p) (upd H1 p (.lst xs))
theorem pe_tup {x1} (h : PA X es t) : PE X (.Tuple es x1 pos) (tTup t) := by
  intro pins s σ H Q I hq
  refine wpAny_Tuple_spliced (thn (h pos pins s σ H _ I hq) fun us s1 ⟨xs, H1, I1, r, z, q⟩ => ⟨by rw [← r.length]; exact z, ?_⟩)
  have hf : H1 s1.heap.objs.size = none := I1.hok.fresh (Nat.le_refl _)
  refine ⟨.ref s1.heap.objs.size, upd H1 s1.heap.objs.size (.tup xs), I1.laid (t' := s1.toks) (fun b u e => Heap.get?_push_of_some _ e) (Nat.le_refl _) ?_, rfl, q _ hf⟩
  exact ⟨z, us, r, ⟨_, Heap.get?_push_size _ rfl, rfl, _, rfl⟩⟩
theorem pe_lst (h : PA X es t) : PE X (.List es pos) (tLst t) := by
  intro pins s σ H Q I hq
  refine wpAny_List_spliced (thn (h pos pins s σ H _ I hq) fun us s1 ⟨xs, H1, I1, r, z, q⟩ => ⟨by rw [← r.length]; exact z, ?_⟩)
  have hf : H1 s1.heap.objs.size = none := I1.hok.fresh (Nat.le_refl _)
  refine ⟨.ref s1.heap.objs.size, upd H1 s1.heap.objs.size (.lst xs), I1.laid (t' := s1.toks) (fun b u e => Heap.get?_push_of_some _ e) (Nat.le_refl _) ?_, rfl, q _ hf⟩
  exact ⟨z, us, 0, r, Heap.get?_push_size _ rfl⟩
end
abbrev Sp := List V → Hp → VK → XK → Prop
abbrev CXT := List Env → Hp → Shared → XK → Value → Shared → Prop
set_option genInjectivity false in
set_option genSizeOf false in
structure Env0 (P : Program) (w : World) (K : PySem.W.Frag) (mg : Str → Option Value) (base : Heap) (A : Around) (outer : List Env) (s : Shared) (H : Hp) : Prop where
  frames : A.frames = some outer
  mod : Mod K mg base
  bs : ∀ b o, base.get? b = some o → s.heap.get? b = some o ∧ H b = none
  bsz : base.objs.size ≤ s.heap.objs.size
  funs : s.heap.FunFrames base outer
  frf : ∀ b ∈ frs outer, H b = none
  hok : HOk P w H s.heap
  bare : AllBare s.gens
def CE (outer : List Env) (P : Program) (w : World) (H : Hp) (s : Shared) (Q : VK) (u : Value) (s' : Shared) : Prop :=
  ∃ v H', s'.os = s.os ∧ AllBare s'.gens ∧ Un (frs outer) [] H H' s.heap s'.heap ∧ HOk P w H' s'.heap ∧ RelV v u ∧ Q v H'
def CR (CX : CXT) (outer : List Env) (P : Program) (w : World) (H : Hp) (s : Shared) (Q : VK) (E : XK) (r : Result) (s' : Shared) : Prop :=
  match r with
  | .ok (.ret u) => CE outer P w H s Q u s'
  | .ok _ => False
  | .error e => CX outer H s E e s'
set_option genInjectivity false in
set_option genSizeOf false in
structure FnOk (P : Program) (w : World) (K : PySem.W.Frag) (mg : Str → Option Value) (base : Heap) (CX : CXT) (k : Nat) (f : Addr) (fd : FuncData) (ps : List Str) (sp : Sp) : Prop where
  len : ∀ vs H Q E, sp vs H Q E → vs.length = ps.length
  run : ∀ (A : Around) (outer : List Env) (s : Shared) (H : Hp) (args : Args) (us : List Value) (vs : List V) (Q : VK) (E : XK), Room k A → Env0 P w K mg base A outer s H → BindsTo s fd args (ps.zip us) → Vals vs us → sp vs H Q E →
    codeAny (model P w) A (.call (.ref f) args) (CR CX outer P w H s Q E) s
theorem FnOk.mono {P : Program} {w : World} {K : PySem.W.Frag} {mg : Str → Option Value} {base : Heap} {CX : CXT} {j k : Nat} {f : Addr} {fd : FuncData} {ps : List Str} {sp : Sp} (F : FnOk P w K mg base CX j f fd ps sp) (h : j ≤ k) :
    FnOk P w K mg base CX k f fd ps sp := ⟨F.len, fun A outer s H args us vs Q E hr => F.run A outer s H args us vs Q E (hr.mono h)⟩
theorem FnOk.imp {P : Program} {w : World} {K : PySem.W.Frag} {mg : Str → Option Value} {base : Heap} {CX : CXT} {k : Nat} {f : Addr} {fd : FuncData} {ps : List Str} {sp sp' : Sp} (F : FnOk P w K mg base CX k f fd ps sp)
    (h : ∀ vs H Q E, sp' vs H Q E → sp vs H Q E) : FnOk P w K mg base CX k f fd ps sp' :=
  ⟨fun vs H Q E q => F.len vs H Q E (h _ _ _ _ q), fun A outer s H args us vs Q E hr he hb hv hs => F.run A outer s H args us vs Q E hr he hb hv (h _ _ _ _ hs)⟩
section
variable {X : Cx} {pins : List (Addr × Obj)} {σ : St} {H : Hp} {s s' : Shared}
theorem Inv.env0 (I : Inv X pins σ H s) : Env0 X.prog X.w X.K X.mg X.base X.A X.stack s H :=
  ⟨I.ok.frames, I.ok.mod, I.bs, Nat.le_trans I.ok.bsz I.sz, I.stack, I.stkFree, I.hok, I.bare⟩
theorem Inv.after {Q : VK} {u : Value} (I : Inv X pins σ H s) (h : CE X.stack X.prog X.w H s Q u s') : EP X pins σ Q u s' := by
  obtain ⟨v, H', os, bare, un, hok, r, q⟩ := h
  obtain ⟨hh, g, d, t, os'⟩ := s'
  obtain rfl : os' = s.os := os
  exact ⟨v, H', I.call (h' := hh) (g' := g) (d' := d) (t' := t) (ch := []) un hok bare (fun b z => absurd z (by simp)), r, q⟩
end
def tCall (sp : Sp) (dvs : List V) (E : XK) (t : TA) : TE := fun σ H Q => t σ H fun vs H1 => sp (vs ++ dvs) H1 Q E
def Binds (K : PySem.W.Frag) (fd : FuncData) (ps : List Str) (ds : List Value) : Prop :=
  ∀ (s : Shared) (us : List Value), K.In s.heap → (us ++ ds).length = ps.length → BindsTo s fd ⟨us, []⟩ (ps.zip (us ++ ds))
theorem Binds.all {K : PySem.W.Frag} {fd : FuncData} {ps : List Str} (h : ∀ us : List Value, us.length = ps.length → bindArgs fd ⟨us, []⟩ = pure (ps.zip us)) : Binds K fd ps [] := fun s us _ hl => by
  rw [List.append_nil] at hl ⊢
  exact .of_eq (h us hl)
def Passes (CX : CXT) (X : Cx) (E : XK) : Prop := ∀ (pins : List (Addr × Obj)) (σ : St) (H : Hp) (s : Shared) (e : Value) (s' : Shared), Inv X pins σ H s → CX X.stack H s E e s' → X.xe e s'
section
variable {X : Cx} {CX : CXT} {k : Nat} {f C : Addr} {fd : FuncData} {ps : List Str} {sp : Sp} {dvs : List V} {ds : List Value} {E : XK} {x m : Str} {p pos apos : Pos} {e o : Expr} {es : List Expr} {ta : TE} {t : TA}
theorem run_fn {pins : List (Addr × Obj)} {σ : St} {H : Hp} {s : Shared} {Q : VK} {us : List Value} {vs : List V} (F : FnOk X.prog X.w X.K X.mg X.base CX k f fd ps sp) (hr : Room k X.A) (hb : Binds X.K fd ps ds) (hd : Vals dvs ds) (hx : Passes CX X E)
    (I : Inv X pins σ H s) (r : Vals vs us) (h : sp (vs ++ dvs) H Q E) : wpAny (model X.prog X.w) X.A (call (.ref f) us) (EP X pins σ Q) X.xe s := by
  have r2 : Vals (vs ++ dvs) (us ++ ds) := r.append hd
  have hl : (us ++ ds).length = ps.length := by rw [← r2.length]; exact F.len _ _ _ _ h
  refine wpAny_call (codeAny_mono (F.run X.A X.stack s H ⟨us, []⟩ (us ++ ds) (vs ++ dvs) Q E hr I.env0 (hb s us I.kIn hl) r2 h) fun r s' hq => ?_)
  cases r with
  | error e => exact hx pins σ H s e s' I hq
  | ok fl =>
    cases fl with
    | ret u => exact I.after hq
    | next => exact False.elim hq
    | brk => exact False.elim hq
    | cont => exact False.elim hq
theorem pe_call (F : FnOk X.prog X.w X.K X.mg X.base CX k f fd ps sp) (hr : Room k X.A) (hg : Gl X x) (hm : X.mg x = some (.ref f)) (hk : PySem.W.keepIn X.K (.ref f) = true) (hb : Binds X.K fd ps ds) (hd : Vals dvs ds) (hx : Passes CX X E)
    (ha : PA X (e :: es) t) (hdb : (x == ("__debug__" : Str)) = false := by decide) (he : starEach (e :: es) X.env = (false, eval e X.env) :: starEach es X.env := by rfl) (hpl : (backTo pos (starEach es X.env)).any (·.1) = false := by rfl) :
    PE X (.Call (.Name x p) (e :: es) [] pos) (tCall sp dvs E t) := by
  intro pins s σ H Q I h
  refine wpAny_Call_Name_kw (ld_glob I hg hm ?_ hdb)
  refine PySem.W.callWith_K (h₀ := X.base) I.ok.mod.kin hk (thn (ha pos pins s σ H _ I h) fun us s1 ⟨vs, H1, I1, r, q⟩ => ⟨I1.kIn, ?_⟩) he hpl
  exact run_fn F hr hb hd hx I1 r q
end
section
variable {X : Cx} {CX : CXT} {k : Nat} {f C : Addr} {fd : FuncData} {ps ks : List Str} {sp : Sp} {E : XK} {x m : Str} {p pos apos kpos : Pos} {e o : Expr} {es : List Expr} {kws : List Keyword} {te ta : TE} {t tk : TA} {nm : Option Str}
variable {g : List Value → List Value → List Value} {gV : List V → List V → List V}
end
set_option genInjectivity false in
set_option genSizeOf false in
structure FnScope (N P : List Str) (sc : Scope) : Prop where
  kind : sc.kind = .function
  co : sc.isCoroutine = false
  gen : sc.isGenerator = false
  nd : N.Nodup
  pre : N.take P.length = P
  par : ∀ x ∈ P, sc.names.lookup x = some .local ∨ sc.names.lookup x = some .cell
  nofree : ∀ y ∈ sc.names, y.2 ≠ .free
theorem bindL_out {kindOf : Str → Option NameKind} {x : Str} : ∀ {binds : List (Str × Value)} {m : Str → Option Value}, (∀ v, (x, v) ∉ binds) → bindL kindOf binds m x = m x
  | [], _, _ => rfl
  | (n, v) :: r, m, h => by
    unfold bindL
    rw [bindL_out fun w hw => h w (List.mem_cons_of_mem _ hw)]
    split
    · have : x ≠ n := by rintro rfl; exact h v List.mem_cons_self
      simp [this]
    · rfl
theorem bindC_out {kindOf : Str → Option NameKind} {x : Str} : ∀ {binds : List (Str × Value)} {m : Str → Option Value}, (∀ v, (x, v) ∉ binds) → bindC kindOf binds m x = m x
  | [], _, _ => rfl
  | (n, v) :: r, m, h => by
    unfold bindC
    rw [bindC_out fun w hw => h w (List.mem_cons_of_mem _ hw)]
    split
    · rfl
    · have : x ≠ n := by rintro rfl; exact h v List.mem_cons_self
      simp [this]
theorem bindL_get {kindOf : Str → Option NameKind} {x : Str} {v : Value} : ∀ {P : List Str} {vs : List Value} {i : Nat} {m : Str → Option Value}, P.Nodup → P[i]? = some x → vs[i]? = some v → kindOf x = some .local →
    bindL kindOf (P.zip vs) m x = some v
  | [], _, _, _, _, h, _, _ => by simp at h
  | _ :: _, [], _, _, _, _, h, _ => by simp at h
  | p :: P, w :: vs, 0, m, nd, h1, h2, hk => by
    simp at h1 h2; subst h1; subst h2
    show bindL kindOf ((p, w) :: P.zip vs) m p = _
    unfold bindL
    rw [bindL_out fun v hv => (List.nodup_cons.mp nd).1 (List.of_mem_zip hv).1, if_pos hk]
    simp
  | p :: P, w :: vs, i + 1, m, nd, h1, h2, hk => by
    show bindL kindOf ((p, w) :: P.zip vs) m x = _
    unfold bindL
    exact bindL_get (i := i) (List.nodup_cons.mp nd).2 (by simpa using h1) (by simpa using h2) hk
theorem bindC_get {kindOf : Str → Option NameKind} {x : Str} {v : Value} : ∀ {P : List Str} {vs : List Value} {i : Nat} {m : Str → Option Value}, P.Nodup → P[i]? = some x → vs[i]? = some v → kindOf x ≠ some .local →
    bindC kindOf (P.zip vs) m x = some v
  | [], _, _, _, _, h, _, _ => by simp at h
  | _ :: _, [], _, _, _, _, h, _ => by simp at h
  | p :: P, w :: vs, 0, m, nd, h1, h2, hk => by
    simp at h1 h2; subst h1; subst h2
    show bindC kindOf ((p, w) :: P.zip vs) m p = _
    unfold bindC
    rw [bindC_out fun v hv => (List.nodup_cons.mp nd).1 (List.of_mem_zip hv).1, if_neg hk]
    simp
  | p :: P, w :: vs, i + 1, m, nd, h1, h2, hk => by
    show bindC kindOf ((p, w) :: P.zip vs) m x = _
    unfold bindC
    exact bindC_get (i := i) (List.nodup_cons.mp nd).2 (by simpa using h1) (by simpa using h2) hk
def start (N : List Str) (vs : List V) : St := vs.map some ++ List.replicate (N.length - vs.length) none
def cxOf (CX : CXT) (P : Program) (w : World) (K : PySem.W.Frag) (mg : Str → Option Value) (base : Heap) (N : List Str) (qual : Str) (scope : Scope) (f : Addr) (cd : Value) (A : Around) (outer : List Env) (s : Shared) (H : Hp) (E : XK) : Cx where
  prog := P
  w := w
  K := K
  mg := mg
  base := base
  A := A.deeper (envOfC qual scope s.heap.objs.size f cd)
  N := N
  s₀ := s
  H₀ := H
  env := envOfC qual scope s.heap.objs.size f cd
  outer := outer
  stack := envOfC qual scope s.heap.objs.size f cd :: outer
  ex := []
  calm := true
  fn := fun _ => true
  pn := []
  xe := fun e s' => wpAny (model P w) (A.deeper (envOfC qual scope s.heap.objs.size f cd)) (leaving (envOfC qual scope s.heap.objs.size f cd) e) (fun _ s'' => CX outer H s E e s'') (fun e' s'' => CX outer H s E e' s'') s'
theorem cell_has {sc : Scope} {n : Nat} {x : Str} (h : sc.names.lookup x = some .cell) : ∃ c, (cellsFrom n sc.names []).lookup x = some c := by
  have q := PySem.W.cellsFrom_some sc.names n [] (.inl h)
  exact Option.isSome_iff_exists.mp q
theorem inv_start {CX : CXT} {P : Program} {w : World} {K : PySem.W.Frag} {mg : Str → Option Value} {base : Heap} {N ps : List Str} {qual : Str} {scope : Scope} {f : Addr} {cd : Value} {A : Around} {outer : List Env} {s s1 : Shared} {H : Hp} {E : XK} {us : List Value} {vs : List V}
    (S : FnScope N ps scope) (hd : A.handled = none) (e0 : Env0 P w K mg base A outer s H) (hl : vs.length = ps.length) (r : Vals vs us)
    (x : InCallC s s.heap.objs.size (bindL (envOfC qual scope s.heap.objs.size f cd).kindOf (ps.zip us) fun _ => none) (cellsFrom (s.heap.objs.size + 1) scope.names []) (bindC (envOfC qual scope s.heap.objs.size f cd).kindOf (ps.zip us) fun _ => none) s1) :
    Inv (cxOf CX P w K mg base N qual scope f cd A outer s H E) [] (start N vs) H s1 := by
  have hpl : ps.length ≤ N.length := by have := congrArg List.length S.pre; rw [List.length_take] at this; omega
  obtain ⟨h1, tk, rfl, hk⟩ := x.done
  have noA : ∀ b : Addr, b ∉ (cxOf CX P w K mg base N qual scope f cd A outer s H E).ex := fun b z => absurd (show b ∈ ([] : List Addr) from z) (by simp)
  refine ⟨⟨e0.mod, S.kind, rfl, rfl, Nat.le_refl _, fun y z c h1 h2 => ?_, fun y hy => ?_, fun y c _ h => ?_, fun _ => hd, Around.frames_deeper e0.frames, .inr ⟨rfl, rfl⟩, fun b z => absurd z (noA b), e0.bs, e0.bsz, fun b _ _ => noA b, fun b z => absurd z (noA b), e0.funs, e0.frf⟩,
    rfl, e0.bare, Un.kept hk, ⟨_, x.toInCall.ns, fun i y v h1 h2 h3 => ?_⟩, fun y c h => ⟨_, x.cell y c h⟩, e0.hok.fresh (Nat.le_refl _), fun y c h => ?_, fun p hp => absurd (show p ∈ ([] : List (Addr × Obj)) from hp) (by simp), e0.hok.kept hk, ?_⟩
  · exact name_of_addr x.apart (PySem.mem_of_lookup h1) (PySem.mem_of_lookup h2)
  · have hy : scope.names.lookup y = some .cell ∨ scope.names.lookup y = some .free := hy
    rcases hy with hy | hy
    · exact cell_has hy
    · exact absurd rfl (S.nofree _ (PySem.mem_of_lookup hy))
  · exact Nat.le_of_lt (x.above y c (PySem.mem_of_lookup h))
  · have hi : i < vs.length := by
      unfold start at h2
      by_cases hi : i < vs.length
      · exact hi
      · rw [List.getElem?_append_right (by simpa using hi)] at h2
        rw [List.getElem?_replicate] at h2
        split at h2 <;> cases h2
    have ha : vs[i]? = some v := by
      unfold start at h2
      rw [List.getElem?_append_left (by simpa using hi), List.getElem?_map] at h2
      cases e : vs[i]? with
      | none => rw [e] at h2; cases h2
      | some a => rw [e] at h2; cases h2; rfl
    obtain ⟨u, hu, rv⟩ := r.get ha
    have hp : ps[i]? = some y := by
      rw [← S.pre, List.getElem?_take_of_lt (by omega)]; exact h1
    have ndP : ps.Nodup := by rw [← S.pre]; exact S.nd.sublist (List.take_sublist _ _)
    refine ⟨u, rv, ?_⟩
    rcases S.par y (List.mem_of_getElem? hp) with k | k
    · exact .inl ⟨k, bindL_get ndP hp hu k⟩
    · obtain ⟨c, e⟩ := cell_has (n := s.heap.objs.size + 1) k
      refine .inr ⟨.inl k, c, e, ?_⟩
      have q := x.cell y c e
      rw [bindC_get ndP hp hu (by show scope.names.lookup y ≠ _; rw [k]; decide)] at q
      exact q
  · exact e0.hok.fresh (Nat.le_of_lt (x.above y c (PySem.mem_of_lookup h)))
  · unfold start
    show _ = N.length
    rw [List.length_append, List.length_map, List.length_replicate]
    omega
theorem fn_of {CX : CXT} {P : Program} {w : World} {K : PySem.W.Frag} {mg : Str → Option Value} {base : Heap} {k : Nat} {f : Addr} {name qual : Str} {params : Arguments} {body : List Stmt} {scope : Scope} {dV kV doc pm cdv ct oc : Value} {an od : Option Addr}
    {osl : Array (Option Value)} {N ps : List Str} {sp : Sp} (lk : K.lookup f = some ⟨oc, od, .func (PySem.W.fnOf name qual params body scope dV kV doc pm an cdv ct), osl⟩) (hcd : PySem.W.codeIn K cdv qual = true) (S : FnScope N ps scope)
    (len : ∀ vs H Q E, sp vs H Q E → vs.length = ps.length)
    (hbody : ∀ (A : Around) (outer : List Env) (s : Shared) (H : Hp) (vs : List V) (Q : VK) (E : XK), Room k (A.deeper (envOfC qual scope s.heap.objs.size f cdv)) → sp vs H Q E →
      ∃ t, PSs (cxOf CX P w K mg base N qual scope f cdv A outer s H E) body t ∧ t { nx := fun _ H' => Q .non H', rt := Q } (start N vs) H) :
    FnOk P w K mg base CX (k + 1) f (PySem.W.fnOf name qual params body scope dV kV doc pm an cdv ct) ps sp := by
  refine ⟨len, fun A outer s H args us vs Q E hr e0 hb r hsp => ?_⟩
  have hl := len _ _ _ _ hsp
  have KX : K.In s.heap := e0.mod.kin.keeps fun b o e => (e0.bs b o e).1
  have lim : s.heap.NoLimit := e0.mod.nolimit.keeps fun b o e => (e0.bs b o e).1
  have hkind : ∀ y ∈ ps.zip us, scope.names.lookup y.1 = some .local ∨ (scope.names.lookup y.1 = some .cell ∧ ((cellsFrom (s.heap.objs.size + 1) scope.names []).lookup y.1).isSome = true) := fun ⟨n, v⟩ hy => by
    rcases S.par n (List.of_mem_zip hy).1 with q | q
    · exact .inl q
    · exact .inr ⟨q, PySem.W.cellsFrom_some _ _ _ (.inl q)⟩
  refine codeAny_call_function hr.depth (KX _ _ lk) rfl S.co S.gen rfl (PySem.W.codeRec_of KX hcd) (hb _ _ _ _ ?_)
  refine wpAny_newFunctionEnv_cells S.kind hkind fun env he s1 x => ?_
  subst he
  refine ⟨lim.keeps x.toInCall.keep, codeAny_func ?_⟩
  obtain ⟨t, ht, hq⟩ := hbody A outer s H vs Q E (hr.deeper _) hsp
  have I : Inv (cxOf CX P w K mg base N qual scope f cdv A outer s H E) [] (start N vs) H s1 := inv_start S hr.hd e0 hl r x
  refine wpAny_mono (ht [] s1 (start N vs) H _ I hq) (fun fl s' hs => ?_) fun e s' hs => hs
  have fin : ∀ {σ' : St} {H' : Hp} {v : V} {u : Value}, Inv (cxOf CX P w K mg base N qual scope f cdv A outer s H E) [] σ' H' s' → RelV v u → Q v H' → CE outer P w H s Q u s' :=
    fun {σ' H' v u} J rv q => ⟨v, H', J.os, J.bare, J.base, J.hok, rv, q⟩
  cases fl with
  | ret u =>
    obtain ⟨v, σ', H', J, rv, q⟩ := hs
    exact fin J rv q
  | next =>
    obtain ⟨σ', H', J, q⟩ := hs
    exact fin (v := V.non) (u := Value.none) J rfl q
  | brk =>
    obtain ⟨_, _, _, q⟩ := hs
    exact False.elim q
  | cont =>
    obtain ⟨_, _, _, q⟩ := hs
    exact False.elim q
end L2
namespace L2
open PySem PySem.Spec PyProof.Rows
section
variable {X : Cx} {x : Str} {p pos : Pos} {e : Expr} {es : List Expr} {t : TA} {id T : String} {r : List V → Hp → VK → Prop}
def tCB (r : List V → Hp → VK → Prop) (t : TA) : TE := fun σ H Q => t σ H fun vs H1 => r vs H1 Q
theorem pe_callB (hc : CallR X (.builtin id) r) (hg : Gl X x) (hm : X.mg x = none) (hv : bootBuiltins x = some (.builtin id)) (ha : PA X (e :: es) t) (hn : x ≠ "__name__" := by decide) (hdb : (x == ("__debug__" : Str)) = false := by decide)
    (he : starEach (e :: es) X.env = (false, eval e X.env) :: starEach es X.env := by rfl) (hpl : (backTo pos (starEach es X.env)).any (·.1) = false := by rfl) : PE X (.Call (.Name x p) (e :: es) [] pos) (tCB r t) := by
  intro pins s σ H Q I h
  refine wpAny_Call_Name_kw (ld_blt I hg hm hv ?_ hn hdb)
  exact PyProof.Rows.callWith_builtin1 (thn (ha pos pins s σ H _ I h) fun us s1 ⟨vs, H1, I1, r1, q1⟩ => hc pins s1 σ H1 vs us Q I1 r1 q1) he hpl
theorem pe_callTy (hc : CallR X (.type T) r) (hg : Gl X x) (hm : X.mg x = none) (hv : bootBuiltins x = some (.type T)) (ha : PA X (e :: es) t) (hn : x ≠ "__name__" := by decide) (hdb : (x == ("__debug__" : Str)) = false := by decide)
    (he : starEach (e :: es) X.env = (false, eval e X.env) :: starEach es X.env := by rfl) (hpl : (backTo pos (starEach es X.env)).any (·.1) = false := by rfl) : PE X (.Call (.Name x p) (e :: es) [] pos) (tCB r t) := by
  intro pins s σ H Q I h
  refine wpAny_Call_Name_kw (ld_blt I hg hm hv ?_ hn hdb)
  exact PyProof.Rows.callWith_type1 (thn (ha pos pins s σ H _ I h) fun us s1 ⟨vs, H1, I1, r1, q1⟩ => hc pins s1 σ H1 vs us Q I1 r1 q1) he hpl
end
end L2
namespace HT
open PySem PyProof.Rows
section
open PySem.SeqAt
open PySem.AutoSeq1 (wpAny_loadPart')
open PySem.MeetsSeq PySem.MeetsSeq2 PySem.MeetsSeq3
end
section
variable {prog : Program} {w : World} {A : Around} {E : Value → Shared → Prop} {s : Shared}
theorem cat_tup {t b : Addr} {vs ws : List Value} {Q : Value → Shared → Prop} (ht : IsTup s.heap t vs.toArray) (hb : IsTup s.heap b ws.toArray) (hv : vs ≠ [])
    (h1 : ws = [] → Q (.ref t) s) (h2 : ws ≠ [] → Q (.ref s.heap.objs.size) { s with heap := s.heap.push { cls := .type "tuple", data := .seq (vs ++ ws).toArray } })
    (hsz : vs.length + ws.length ≤ sizeLine) : wpAny (model prog w) A (binaryOp .Add (.ref t) (.ref b)) Q E s := by
  obtain ⟨⟨cls, dd, data, sl⟩, ho, hc, n, hd⟩ := id ht
  obtain ⟨⟨cls2, dd2, data2, sl2⟩, ho2, hc2, n2, hd2⟩ := id hb
  simp only at hc hd hc2 hd2
  subst hc hd hc2 hd2
  have e : vs.toArray ++ ws.toArray = (vs ++ ws).toArray := by simp
  by_cases hw : ws = []
  · exact concat_meets ⟨_, ho, rfl⟩ ⟨_, ho2, rfl⟩ noFill_tuple_add seq_tuple_add PySem.F.slot_tuple_add PySem.F.entry_tuple_add (PySem.F.args_tuple_add_2 _ _)
      (tuple_addW1 t b vs.toArray ws.toArray n n2 dd dd2 sl sl2 (by simpa using hv) (by simp [hw])) ⟨ho, ho2, h1 hw⟩
  · refine concat_meets ⟨_, ho, rfl⟩ ⟨_, ho2, rfl⟩ noFill_tuple_add seq_tuple_add PySem.F.slot_tuple_add PySem.F.entry_tuple_add (PySem.F.args_tuple_add_2 _ _)
      (tuple_addW2 t b vs.toArray ws.toArray n n2 dd dd2 sl sl2 (by simpa using hv) (by simpa using hw) (by rw [List.size_toArray, List.size_toArray]; exact hsz)) ⟨ho, ho2, ?_⟩
    rw [e]
    exact h2 hw
def sIx (n d : Nat) : Option Int → Nat
  | none => d
  | some v => if v < 0 then (v + (n : Int)).toNat else min v.toNat n
theorem sIx_le (n d : Nat) (hd : d ≤ n) (o : Option Int) : sIx n d o ≤ n := by
  cases o with
  | none => exact hd
  | some v =>
    show (if v < 0 then (v + (n : Int)).toNat else min v.toNat n) ≤ n
    by_cases hv : v < 0
    · rw [if_pos hv]; omega
    · rw [if_neg hv]; exact Nat.min_le_right _ _
theorem clip_eq (v : Int) (n d : Nat) : (if v < 0 then max (v + (n : Int)) 0 else min v (n : Int)) = ((sIx n d (some v) : Nat) : Int) := by
  show (if v < 0 then max (v + (n : Int)) 0 else min v (n : Int)) = (((if v < 0 then (v + (n : Int)).toNat else min v.toNat n) : Nat) : Int)
  by_cases hv : v < 0
  · simp only [if_pos hv]; omega
  · simp only [if_neg hv]; omega
theorem adjust_gen (lo hi : Option Int) (n : Nat) : Builtin.Slice.sliceAdjust lo hi 1 (n : Int) = (((sIx n 0 lo : Nat) : Int), ((sIx n n hi : Nat) : Int)) := by
  have h1 : ¬ ((1 : Int) < 0) := by omega
  unfold Builtin.Slice.sliceAdjust
  simp only [h1, if_false]
  refine Prod.ext ?_ ?_
  · cases lo with
    | none => rfl
    | some v => exact clip_eq v n 0
  · cases hi with
    | none => rfl
    | some v => exact clip_eq v n n
theorem places_gen (i j : Nat) : Builtin.Slice.slicePlaces (i : Int) (j : Int) 1 = j - i := by
  unfold Builtin.Slice.slicePlaces
  have h1 : (1 : Int) > 0 := by omega
  simp only [h1, if_true, Int.ediv_one]
  split <;> omega
theorem slicePart_ {v : Value} {o : Option Int} {Q : Option Int → Shared → Prop} (p : IsPart v o) (h : Q o s) : wpAny (model prog w) A (Builtin.Slice.slicePartIndex v) Q E s := by
  cases p with
  | none => exact slicePart_none h
  | int i t => exact slicePart_int h
theorem sliceApplied_gen {sl : Addr} {vl vu : Value} {lo hi : Option Int} {n : Nat} {Q : Int × Int × Nat → Shared → Prop} (hs : s.heap.IsSliceOf sl vl vu .none) (pl : IsPart vl lo) (pu : IsPart vu hi)
    (h : Q (((sIx n 0 lo : Nat) : Int), 1, sIx n n hi - sIx n 0 lo) s) : wpAny (model prog w) A (Builtin.Slice.sliceApplied (.ref sl) (pure (n : Int))) Q E s := by
  obtain ⟨os, hos, hcs, hds⟩ := id hs
  unfold Builtin.Slice.sliceApplied Builtin.Slice.sliceFields
  refine wpAny_bind (wpAny_bind (wpAny_field hos hds (x := vl) rfl (wpAny_bind (wpAny_field hos hds (x := vu) rfl (wpAny_bind (wpAny_field hos hds (x := .none) rfl (wpAny_pure ?_)))))))
  refine wpAny_bind (slicePart_none ?_)
  show wpAny _ _ (if ((1 : Int) == 0) = true then _ else _) _ _ s
  rw [if_neg (by decide)]
  refine wpAny_bind (slicePart_ pl (wpAny_bind (slicePart_ pu (wpAny_bind (wpAny_pure ?_)))))
  show wpAny _ _ (match Builtin.Slice.sliceAdjust lo hi 1 (n : Int) with | (lo, hi) => pure (lo, (1 : Int), Builtin.Slice.slicePlaces lo hi 1)) _ _ s
  rw [adjust_gen lo hi n]
  show wpAny _ _ (pure (((sIx n 0 lo : Nat) : Int), (1 : Int), Builtin.Slice.slicePlaces ((sIx n 0 lo : Nat) : Int) ((sIx n n hi : Nat) : Int) 1)) _ _ s
  rw [places_gen]
  exact wpAny_pure h
theorem pick_gen (xs : Array Value) (i k : Nat) : ((List.range k).filterMap fun (m : Nat) => xs[((i : Int) + (m : Int) * 1).toNat]?).toArray = ((xs.toList.drop i).take k).toArray := by
  have e : (fun (m : Nat) => xs[((i : Int) + (m : Int) * 1).toNat]?) = fun m => xs[i + m]? := by
    funext m
    have : ((i : Int) + (m : Int) * 1).toNat = i + m := by omega
    rw [this]
  rw [e]
  have := pick_run xs i k
  rw [List.filterMap_map] at this
  have e2 : ((fun x => xs[x]?) ∘ fun x => i + x) = fun m => xs[i + m]? := rfl
  rw [e2] at this
  rw [this]
theorem getItem_tuple_cut {t sl : Addr} {items : Array Value} {vl vu : Value} {lo hi : Option Int} {Q : Value → Shared → Prop} (ht : IsTup s.heap t items) (hs : s.heap.IsSliceOf sl vl vu .none) (pl : IsPart vl lo) (pu : IsPart vu hi)
    (hw : ¬ (sIx items.size 0 lo = 0 ∧ sIx items.size items.size hi = items.size))
    (h : Q (.ref s.heap.objs.size) { s with heap := s.heap.push { cls := .type "tuple", data := .seq ((items.toList.drop (sIx items.size 0 lo)).take (sIx items.size items.size hi - sIx items.size 0 lo)).toArray } })
    (hsz : items.size ≤ sizeLine) : wpAny (model prog w) A (getItem (.ref t) (.ref sl)) Q E s := by
  have htake : sizeOk (.seq ((items.toList.drop (sIx items.size 0 lo)).take (sIx items.size items.size hi - sIx items.size 0 lo)).toArray) := by
    show ((items.toList.drop (sIx items.size 0 lo)).take (sIx items.size items.size hi - sIx items.size 0 lo)).toArray.size ≤ sizeLine
    rw [List.size_toArray, List.length_take, List.length_drop, Array.length_toList]
    omega
  have hj : sIx items.size items.size hi ≤ items.size := sIx_le _ _ (Nat.le_refl _) hi
  obtain ⟨os, hos, hcs, hds⟩ := id hs
  have hTs : s.TypeIs (.ref sl) "slice" := ⟨os, hos, hcs⟩
  unfold getItem
  try with_reducible refine wpAny_holding ?_
  first | refine wpAny_bind (wpAny_pure ?_) | skip
  refine wpAny_bind (wpAny_sequenceKey ht.typeIs (by decide) ?_)
  refine wpAny_bind (wpAny_callSpecial?_slot (name := Str.ofString "__getitem__") ht.typeIs PyProof.Rows.slot_tuple_getitem
    (wpAny_call_entry PyProof.Rows.slot_tuple_getitem ht.typeIs entry_tuple_getitem ?_ (args_tuple_getitem _ _)))
  show wpAny _ _ (Builtin.Tuple.tupleItemsOf (.ref t) >>= _) _ _ s
  refine wpAny_bind (tupleItemsOf_ ht ?_)
  refine wpAny_bind (wpAny_typeOf hTs ?_)
  rw [if_pos (by decide)]
  refine wpAny_bind (sliceApplied_gen hs pl pu ?_)
  have hno : ¬ ((((sIx items.size 0 lo : Nat) : Int) == 0 && (1 : Int) == 1 && (sIx items.size items.size hi - sIx items.size 0 lo) == items.size) = true) := by
    intro q
    rw [Bool.and_eq_true, Bool.and_eq_true] at q
    have q1 : ((sIx items.size 0 lo : Nat) : Int) = 0 := eq_of_beq q.1.1
    have q2 : sIx items.size items.size hi - sIx items.size 0 lo = items.size := eq_of_beq q.2
    exact hw ⟨by omega, by omega⟩
  show wpAny _ _ (if (((sIx items.size 0 lo : Nat) : Int) == 0 && (1 : Int) == 1 && (sIx items.size items.size hi - sIx items.size 0 lo) == items.size) = true then _ else _) _ _ s
  rw [if_neg hno, pick_gen]
  first
    | exact wpAny_bind (m := Builtin.Tuple.tupleExact _) (wpAny_newObj_type (wpAny_pure ⟨_, rfl, wpAny_pure h⟩) htake)
    | exact wpAny_bind (m := Builtin.Tuple.tupleExact _) (wpAny_newObj_type (wpAny_bind (wpAny_pure (wpAny_pure ⟨_, rfl, wpAny_pure h⟩))) htake)
    | exact wpAny_bind (wpAny_bind (m := Builtin.Tuple.tupleExact _) (wpAny_newObj_type (wpAny_pure (wpAny_pure ⟨_, rfl, wpAny_pure h⟩)) htake))
    | exact wpAny_bind (wpAny_bind (m := Builtin.Tuple.tupleExact _) (wpAny_newObj_type (wpAny_pure ⟨_, rfl, wpAny_pure h⟩) htake))
end
end HT
namespace L2
open PySem PySem.Spec PyProof.Rows
abbrev TO := St → Hp → (Option Int → Hp → Prop) → Prop
def PO (X : Cx) (e : Option Expr) (t : TO) : Prop :=
  ∀ (pins : List (Addr × Obj)) (s : Shared) (σ : St) (H : Hp) (Q : Option Int → Hp → Prop), Inv X pins σ H s → t σ H Q →
    wpAny (model X.prog X.w) X.A (evalPart e X.env) (fun u s' => ∃ o H', Inv X pins σ H' s' ∧ IsPart u o ∧ Q o H') X.xe s
def tNoPart : TO := fun _ H Q => Q none H
def tPart (t : TE) : TO := fun σ H Q => t σ H fun x H1 => ∃ i, x = .int i ∧ Q (some i) H1
theorem intsAre_of {ns : List Int} : ∀ {us : List Value}, Vals (ns.map V.int) us → IntsAre us ns := by
  induction ns with
  | nil => intro us r; rw [List.map_nil] at r; cases r; exact .nil
  | cons n ns ih =>
    intro us r
    rw [List.map_cons] at r
    cases r with
    | cons r1 r2 =>
      obtain ⟨t, e⟩ := r1
      subst e
      exact .cons n t (ih r2)
section
variable {X : Cx} {e : Expr} {te : TE} {lo hi : Option Expr} {tl th : TO} {pos p2 : Pos}
theorem po_none : PO X none tNoPart := by
  intro pins s σ H Q I h
  rw [evalPart_none]
  exact wpAny_pure ⟨none, H, I, .none, h⟩
theorem po_some (h : PE X e te) : PO X (some e) (tPart te) := by
  intro pins s σ H Q I hw
  rw [evalPart_some]
  refine thn (h pins s σ H _ I hw) fun u s1 ⟨x, H1, I1, r1, q1⟩ => ?_
  obtain ⟨i, rfl, q⟩ := q1
  obtain ⟨t, rfl⟩ := r1
  exact ⟨some i, H1, I1, .int i t, q⟩
def SlR (X : Cx) (r : V → Option Int → Option Int → Hp → VK → Prop) : Prop :=
  ∀ (pins : List (Addr × Obj)) (s : Shared) (σ : St) (H : Hp) (x : V) (v vl vu : Value) (lo hi : Option Int) (sl : Addr) (Q : VK), Inv X pins σ H s → RelV x v → s.heap.IsSliceOf sl vl vu .none → IsPart vl lo → IsPart vu hi → r x lo hi H Q →
    ∃ T id, typeLookup (.type T) "__getitem__" = pure (some (.builtin id)) ∧ s.TypeIs v T ∧ wpAny (model X.prog X.w) X.A (getItem v (.ref sl)) (EP X pins σ Q) X.xe s
def tSl (r : V → Option Int → Option Int → Hp → VK → Prop) (te : TE) (tl th : TO) : TE := fun σ H Q => te σ H fun x H1 => tl σ H1 fun l H2 => th σ H2 fun u H3 => r x l u H3 Q
theorem pe_slice {r : V → Option Int → Option Int → Hp → VK → Prop} (hr : SlR X r) (he : PE X e te) (hl : PO X lo tl) (hu : PO X hi th) : PE X (.Subscript e (.Slice lo hi none p2) pos) (tSl r te tl th) := by
  intro pins s σ H Q I h
  refine Subscript_ (thn (he pins s σ H _ I h) fun v s1 ⟨x, H1, I1, r1, q1⟩ => ?_)
  refine wpAny_Slice (thn (hl pins s1 σ H1 _ I1 q1) fun vl s2 ⟨l, H2, I2, pl, q2⟩ => thn (hu pins s2 σ H2 _ I2 q2) fun vu s3 ⟨u, H3, I3, pu, q3⟩ => ?_)
  rw [evalPart_none]
  refine wpAny_pure ?_
  have I4 : Inv X pins σ H3 { s3 with heap := s3.heap.push { cls := .type "slice", data := .fields #[vl, vu, .none] } } := I3.kept (t' := s3.toks) fun b ob q => Heap.get?_push_of_some _ q
  obtain ⟨T, id, hT, ht, hg⟩ := hr pins { s3 with heap := s3.heap.push { cls := .type "slice", data := .fields #[vl, vu, .none] } } σ H3 x v vl vu l u s3.heap.objs.size Q I4 r1 (Heap.IsSliceOf.new ..) pl pu q3
  show wpAny (model X.prog X.w) X.A (subscriptTail e (.Slice lo hi none p2) v (.ref s3.heap.objs.size)) (EP X pins σ Q) X.xe { s3 with heap := s3.heap.push { cls := .type "slice", data := .fields #[vl, vu, .none] } }
  exact tail_any (ops := [.ref s3.heap.objs.size, v]) ht hT hg (by with_unfolding_all rfl)
def cutV (xs : List V) (lo hi : Option Int) : List V := (xs.drop (HT.sIx xs.length 0 lo)).take (HT.sIx xs.length xs.length hi - HT.sIx xs.length 0 lo)
theorem cutV_length (xs : List V) (lo hi : Option Int) : (cutV xs lo hi).length ≤ xs.length := by
  unfold cutV
  rw [List.length_take, List.length_drop]
  omega
def rSlT (K : PySem.W.Frag) : V → Option Int → Option Int → Hp → VK → Prop := fun x lo hi H Q => ∃ a xs, x = .ref a ∧ SqT K H a xs ∧
  ¬ (HT.sIx xs.length 0 lo = 0 ∧ HT.sIx xs.length xs.length hi = xs.length) ∧ ∀ p, H p = none → Q (.ref p) (upd H p (.tup (cutV xs lo hi)))
theorem sl_tup : SlR X (rSlT X.K) := by
  intro pins s σ H x v vl vu lo hi sl Q I rx hs pl pu h
  obtain ⟨a, xs, rfl, hx, hw, q⟩ := h
  cases rx
  obtain ⟨its, r, ht, hz⟩ := I.tuple hx
  have hlen : its.toArray.size = xs.length := by rw [List.size_toArray]; exact r.length.symm
  refine ⟨"tuple", _, PyProof.Rows.slot_tuple_getitem.lookup, ht.typeIs, ?_⟩
  refine HT.getItem_tuple_cut ht hs pl pu (by rw [hlen]; exact hw) ?_ (by rw [hlen]; exact hz)
  rw [hlen]
  refine ⟨.ref s.heap.objs.size, _, I.laid (t' := s.toks) (o := .tup (cutV xs lo hi)) (fun b ob q => Heap.get?_push_of_some _ q) (Nat.le_refl _) ?_, rfl, q _ (I.hok.fresh (Nat.le_refl _))⟩
  exact ⟨Nat.le_trans (cutV_length xs lo hi) hz, _, (r.drop (HT.sIx xs.length 0 lo)).take (HT.sIx xs.length xs.length hi - HT.sIx xs.length 0 lo), IsTup.new _ _⟩
def rCatT (K : PySem.W.Frag) : R2 := fun x y H Q => ∃ a b xs ys, x = .ref a ∧ y = .ref b ∧ SqT K H a xs ∧ SqT K H b ys ∧ xs ≠ [] ∧ xs.length + ys.length ≤ sizeLine ∧
  (ys = [] → Q (.ref a) H) ∧ (ys ≠ [] → ∀ p, H p = none → Q (.ref p) (upd H p (.tup (xs ++ ys))))
theorem Vals.nil_iff {xs : List V} {us : List Value} (r : Vals xs us) : us = [] ↔ xs = [] := by
  cases r with
  | nil => simp
  | cons _ _ => simp
theorem op_catT : OpR X (binaryOp .Add) (rCatT X.K) := by
  intro pins s σ H x y v u Q I rx ry h
  obtain ⟨a, b, xs, ys, rfl, rfl, ha, hb, hx, hz, q1, q2⟩ := h
  cases rx
  cases ry
  obtain ⟨its, r1, p1, _⟩ := I.tuple ha
  obtain ⟨its2, r2, p2, _⟩ := I.tuple hb
  refine HT.cat_tup p1 p2 (fun z => hx (r1.nil_iff.mp z)) (fun z => ⟨.ref a, H, I, rfl, q1 (r2.nil_iff.mp z)⟩) (fun z => ?_) (by rw [← r1.length, ← r2.length]; exact hz)
  refine ⟨.ref s.heap.objs.size, _, I.laid (t' := s.toks) (o := .tup (xs ++ ys)) (fun b ob q => Heap.get?_push_of_some _ q) (Nat.le_refl _) ?_, rfl, q2 (fun w => z (r2.nil_iff.mpr w)) _ (I.hok.fresh (Nat.le_refl _))⟩
  exact ⟨by rw [List.length_append]; exact hz, _, r1.append r2, IsTup.new _ _⟩
end
end L2
namespace L2
open PySem PySem.Spec PyProof.Rows
def ixN (n : Nat) (i : Int) : Option Nat := if 0 ≤ i then (if i < n then some i.toNat else none) else if -(n : Int) ≤ i then some (i + n).toNat else none
def atI {α : Type} (xs : List α) (i : Int) : Option α := (ixN xs.length i).bind fun j => xs[j]?
theorem ixN_seq {n : Nat} {i : Int} {j : Nat} (h : ixN n i = some j) : seqIndex? i n = some j ∧ j < n ∧ -(n : Int) ≤ i ∧ i < n := by
  unfold ixN at h
  by_cases h0 : 0 ≤ i
  · rw [if_pos h0] at h
    by_cases h1 : i < n
    · rw [if_pos h1] at h
      have e : i.toNat = j := Option.some.inj h
      exact ⟨by rw [seqIndex_of h0 h1, e], by omega, by omega, h1⟩
    · rw [if_neg h1] at h; cases h
  · rw [if_neg h0] at h
    by_cases h1 : -(n : Int) ≤ i
    · rw [if_pos h1] at h
      have e : (i + n).toNat = j := Option.some.inj h
      exact ⟨by rw [seqIndex_neg (by omega) h1, e], by omega, h1, by omega⟩
    · rw [if_neg h1] at h; cases h
theorem atI_get {α : Type} {xs : List α} {i : Int} {v : α} (h : atI xs i = some v) : ∃ j, seqIndex? i xs.length = some j ∧ xs[j]? = some v ∧ j < xs.length ∧ -(xs.length : Int) ≤ i ∧ i < xs.length := by
  unfold atI at h
  cases e : ixN xs.length i with
  | none => rw [e] at h; cases h
  | some j =>
    rw [e] at h
    obtain ⟨h1, h2, h3, h4⟩ := ixN_seq e
    exact ⟨j, h1, h, h2, h3, h4⟩
theorem atI_nat {α : Type} {xs : List α} {j : Nat} {v : α} (h : xs[j]? = some v) : atI xs (j : Int) = some v := by
  have hj : j < xs.length := (List.getElem?_eq_some_iff.mp h).1
  have e : ixN xs.length (j : Int) = some j := by
    unfold ixN
    rw [if_pos (by omega), if_pos (by omega)]; simp
  unfold atI; rw [e]; exact h
def PlainIx (b : Expr) : Prop := ∀ o i, subscripted b false o i = operate [o, i] (getItem o i)
def IxR (X : Cx) (r : R2) : Prop :=
  ∀ (value slice : Expr) (pins : List (Addr × Obj)) (s : Shared) (σ : St) (H : Hp) (x y : V) (v u : Value) (Q : VK), Inv X pins σ H s → RelV x v → RelV y u → r x y H Q →
    subscripted slice false v u = operate [v, u] (getItem v u) → wpAny (model X.prog X.w) X.A (subscriptTail value slice v u) (EP X pins σ Q) X.xe s
def MtR (X : Cx) (id : String) (r : V → List V → Hp → VK → Prop) : Prop :=
  ∀ (pins : List (Addr × Obj)) (s : Shared) (σ : St) (H : Hp) (x : V) (xs : List V) (v : Value) (us : List Value) (Q : VK), Inv X pins σ H s → RelV x v → Vals xs us → r x xs H Q →
    wpAny (model X.prog X.w) X.A (call (.builtin id) (v :: us)) (EP X pins σ Q) X.xe s
section
variable {X : Cx} {a b : Expr} {ta tb : TE} {pos : Pos}
theorem IxR.or {r r' : R2} (h : IxR X r) (h' : IxR X r') : IxR X (fun x y H Q => r x y H Q ∨ r' x y H Q) := by
  intro value slice pins s σ H x y v u Q I rx ry q hs
  rcases q with q | q
  · exact h value slice pins s σ H x y v u Q I rx ry q hs
  · exact h' value slice pins s σ H x y v u Q I rx ry q hs
theorem pe_ix {r : R2} (hr : IxR X r) (ha : PE X a ta) (hb : PE X b tb) (hs : PlainIx b) : PE X (.Subscript a b pos) (tOp r ta tb) := by
  intro pins s σ H Q I h
  exact Subscript_ (binT ha hb I h fun v u s2 x y H2 I2 rx ry q => hr a b pins s2 σ H2 x y v u Q I2 rx ry q (hs _ _))
def rIxL (K : PySem.W.Frag) : R2 := fun x y H Q => match x, y with
  | .ref p, .int i => ∃ xs, SqL K H p xs ∧ ∃ v, atI xs i = some v ∧ Q v H
  | _, _ => False
theorem rIxL_inv {K : PySem.W.Frag} {x y : V} {H : Hp} {Q : VK} (h : rIxL K x y H Q) : ∃ p xs i v, x = .ref p ∧ y = .int i ∧ SqL K H p xs ∧ atI xs i = some v ∧ Q v H := by
  unfold rIxL at h
  split at h
  · obtain ⟨xs, h1, v, h2, h3⟩ := h
    exact ⟨_, xs, _, v, rfl, rfl, h1, h2, h3⟩
  · exact h.elim
def rIxT (K : PySem.W.Frag) : R2 := fun x y H Q => match x, y with
  | .ref p, .int i => ∃ xs, SqT K H p xs ∧ ∃ v, atI xs i = some v ∧ Q v H
  | _, _ => False
theorem rIxT_inv {K : PySem.W.Frag} {x y : V} {H : Hp} {Q : VK} (h : rIxT K x y H Q) : ∃ p xs i v, x = .ref p ∧ y = .int i ∧ SqT K H p xs ∧ atI xs i = some v ∧ Q v H := by
  unfold rIxT at h
  split at h
  · obtain ⟨xs, h1, v, h2, h3⟩ := h
    exact ⟨_, xs, _, v, rfl, rfl, h1, h2, h3⟩
  · exact h.elim
def rIxS : R2 := fun x y H Q => ∃ z i c, x = .str z ∧ y = .int i ∧ z.length ≤ sizeLine ∧ atI z.cps.toList i = some c ∧ Q (.str ⟨#[c]⟩) H
theorem ix_list : IxR X (rIxL X.K) := by
  intro value slice pins s σ H x y v u Q I rx ry h hs
  obtain ⟨p, xs, i, z, rfl, rfl, hq, he, q⟩ := rIxL_inv h
  cases rx
  obtain ⟨t, rfl⟩ := ry
  obtain ⟨its, r, pl, hz⟩ := I.list hq
  obtain ⟨j, h1, h2, h3, h4, h5⟩ := atI_get he
  obtain ⟨w, ew, rw'⟩ := r.get h2
  have hl := r.length
  have hn := line63
  have fin : EP X pins σ Q w s := ⟨z, H, I, rw', q⟩
  by_cases h0 : 0 ≤ i
  · have hj : i.toNat = j := by
      rw [seqIndex_of h0 h5] at h1
      exact Option.some.inj h1
    exact item_listR pl.isList h0 (by omega) (by rw [hj]; simpa using ew) fin hs
  · have hj : (i + (its.toArray.size : Int)).toNat = j := by
      rw [seqIndex_neg (by omega) h4] at h1
      rw [List.size_toArray, ← hl]
      exact Option.some.inj h1
    exact subscriptTail_builtinR (x := w) pl.isList.typeIs slot_list_getitem.lookup
      (wpAny_getItem_list_neg (Q := fun r s' => r = w ∧ EP X pins σ Q r s') pl.isList (by omega) (by rw [List.size_toArray] <;> omega) (by omega) (by rw [hj]; simpa using ew) ⟨rfl, fin⟩) hs
theorem ix_tup : IxR X (rIxT X.K) := by
  intro value slice pins s σ H x y v u Q I rx ry h hs
  obtain ⟨p, xs, i, z, rfl, rfl, hq, he, q⟩ := rIxT_inv h
  cases rx
  obtain ⟨t, rfl⟩ := ry
  obtain ⟨its, r, pl, hz⟩ := I.tuple hq
  obtain ⟨j, h1, h2, h3, h4, h5⟩ := atI_get he
  obtain ⟨w, ew, rw'⟩ := r.get h2
  have hl := r.length
  have hn := line63
  have fin : EP X pins σ Q w s := ⟨z, H, I, rw', q⟩
  exact subscriptTail_builtinR (x := w) pl.typeIs slot_tuple_getitem.lookup
    (getItem_tuple (j := j) (Q := fun r s' => r = w ∧ EP X pins σ Q r s') pl (by omega) (by omega) (by rw [List.size_toArray, ← hl]; exact h1) (by simpa using ew) ⟨rfl, fin⟩) hs
theorem ix_str : IxR X rIxS := by
  intro value slice pins s σ H x y v u Q I rx ry h hs
  obtain ⟨z, i, c, rfl, rfl, hz, he, q⟩ := h
  obtain ⟨t, rfl⟩ := rx
  obtain ⟨t', rfl⟩ := ry
  obtain ⟨j, h1, h2, h3, h4, h5⟩ := atI_get he
  have hl : z.cps.toList.length = z.length := by simp [Str.length]
  rw [hl] at h1 h4 h5
  have hn := line63
  exact tail_any (typeIs_str s z t) slot_str_getitem.lookup (getItem_str (c := c) (by
    have e1 : decide (i < -(2 ^ 63 : Int)) = false := decide_eq_false (by omega)
    have e2 : decide (i ≥ 2 ^ 63) = false := decide_eq_false (by omega)
    rw [e1, e2, Bool.or_false]) (by rw [h1]; simpa using h2) ⟨.str ⟨#[c]⟩, H, I.tok _, ⟨_, rfl⟩, q⟩) hs
def rIx (K : PySem.W.Frag) : R2 := fun x y H Q => rIxL K x y H Q ∨ rIxT K x y H Q ∨ rIxS x y H Q
theorem ix_seq : IxR X (rIx X.K) := ix_list.or (ix_tup.or ix_str)
theorem mapSeq_set (its : List Value) (n j : Nat) (u : Value) : Obj.mapSeq (·.setIfInBounds j u) { cls := .type "list", data := .seq its.toArray n } = { cls := .type "list", data := .seq (its.set j u).toArray n } := by
  simp [Obj.mapSeq]
theorem Inv.lst {pins : List (Addr × Obj)} {σ : St} {H : Hp} {s : Shared} {p : Addr} {xs : List V} (I : Inv X pins σ H s) (h : H p = some (.lst xs)) :
    ∃ (its : List Value) (n : Nat), Vals xs its ∧ s.heap.get? p = some { cls := .type "list", data := .seq its.toArray n } ∧ xs.length ≤ sizeLine := by
  obtain ⟨z, its, n, r, e⟩ := I.hok p _ h
  exact ⟨its, n, r, e, z⟩
theorem Inv.lstUpd {pins : List (Addr × Obj)} {σ : St} {H : Hp} {s : Shared} {p : Addr} {xs ys : List V} {its its' : List Value} {n n' : Nat} {f : Obj → Obj} (I : Inv X pins σ H s) (h : H p = some (.lst xs))
    (ho : s.heap.get? p = some { cls := .type "list", data := .seq its.toArray n }) (hf : f { cls := .type "list", data := .seq its.toArray n } = { cls := .type "list", data := .seq its'.toArray n' }) (r : Vals ys its') (hz : ys.length ≤ sizeLine) (t : Nat) :
    Inv X pins σ (upd H p (.lst ys)) { s with heap := s.heap.update p f, toks := t } := by
  have e : (s.heap.update p f).get? p = some { cls := .type "list", data := .seq its'.toArray n' } := by
    rw [Heap.get?_update_self f ho (by rw [hf] <;> rfl), hf]
  refine I.write (x := p) (e := p) (by rw [h]; trivial) (.inl rfl) (fun b u hb q => (Heap.get?_update_other _ _ (Ne.symm hb)).trans q) ⟨_, e⟩ ?_
  exact ⟨hz, its', n', r, e⟩
def rSetL : V → V → V → Hp → (Hp → Prop) → Prop := fun o i v H Q => ∃ p xs k j, o = .ref p ∧ i = .int k ∧ H p = some (.lst xs) ∧ ixN xs.length k = some j ∧ Q (upd H p (.lst (xs.set j v)))
theorem set_list : PSet X rSetL := by
  intro pins s σ H o i v ov iv u Q I ro ri rv h
  obtain ⟨p, xs, k, j, rfl, rfl, hp, hj, q⟩ := h
  cases ro
  obtain ⟨t, rfl⟩ := ri
  obtain ⟨its, n, r, ho, hz⟩ := I.lst hp
  obtain ⟨h1, h2, h3, h4⟩ := ixN_seq hj
  have hl := r.length
  have hn := line63
  have I' : Inv X pins σ (upd H p (.lst (xs.set j v))) { s with heap := s.heap.update p (Obj.mapSeq (·.setIfInBounds j u)) } :=
    I.lstUpd hp ho (mapSeq_set its n j u) (r.set rv j) (by rw [List.length_set]; exact hz) s.toks
  by_cases h0 : 0 ≤ k
  · have hk : k.toNat = j := by
      rw [seqIndex_of h0 h4] at h1
      exact Option.some.inj h1
    exact PySem.W.ki_setAt ho h0 (by omega) (by rw [List.size_toArray, ← hl]; exact h4) (by rw [hk]; exact ⟨_, I', q⟩)
  · have hk : (k + (its.toArray.size : Int)).toNat = j := by
      rw [seqIndex_neg (by omega) h3] at h1
      rw [List.size_toArray, ← hl]
      exact Option.some.inj h1
    exact PySem.W.ki_setBack ho (by omega) (by rw [List.size_toArray, ← hl]; exact h3) (by omega) (by rw [hk]; exact ⟨_, I', q⟩)
theorem slice_bounds (lo hi : Option Int) (n : Nat) : (sliceBounds lo hi none n).1 = ((HT.sIx n 0 lo : Nat) : Int) ∧ (sliceBounds lo hi none n).2.1 = ((HT.sIx n n hi : Nat) : Int) ∧ (sliceBounds lo hi none n).2.2 = 1 := by
  refine ⟨?_, ?_, rfl⟩
  · cases lo with
    | none => simp [sliceBounds, HT.sIx]
    | some i =>
      simp only [sliceBounds, HT.sIx, Option.getD_none, show (1 : Int) > 0 by decide, if_true]
      by_cases h : i < 0
      · simp only [h, if_true] <;> omega
      · simp only [h, if_false] <;> omega
  · cases hi with
    | none => simp [sliceBounds, HT.sIx]
    | some i =>
      simp only [sliceBounds, HT.sIx, Option.getD_none, show (1 : Int) > 0 by decide, if_true]
      by_cases h : i < 0
      · simp only [h, if_true] <;> omega
      · simp only [h, if_false] <;> omega
theorem slicePick_cut (its : List Value) (lo hi : Option Int) : slicePick its.toArray lo hi none = ((its.drop (HT.sIx its.length 0 lo)).take (HT.sIx its.length its.length hi - HT.sIx its.length 0 lo)).toArray := by
  obtain ⟨h1, h2, h3⟩ := slice_bounds lo hi its.toArray.size
  unfold slicePick
  rw [h1, h2, h3]
  simp only [sliceRange_one, pick_run, List.size_toArray] <;> rfl
def rSlL (K : PySem.W.Frag) : V → Option Int → Option Int → Hp → VK → Prop := fun x lo hi H Q => ∃ a xs, x = .ref a ∧ SqL K H a xs ∧ ∀ p, H p = none → Q (.ref p) (upd H p (.lst (cutV xs lo hi)))
theorem sl_list : SlR X (rSlL X.K) := by
  intro pins s σ H x v vl vu lo hi sl Q I rx hs pl pu h
  obtain ⟨a, xs, rfl, hx, q⟩ := h
  cases rx
  obtain ⟨its, r, ht, hz⟩ := I.list hx
  have hlen := r.length
  refine ⟨"list", _, slot_list_getitem.lookup, ht.isList.typeIs, ?_⟩
  refine wpAny_getItem_list_slice ht.isList hs pl pu .none (by simp) ?_ (by rw [List.size_toArray] <;> omega)
  rw [slicePick_cut, ← hlen]
  refine ⟨.ref s.heap.objs.size, _, I.laid (t' := s.toks) (o := .lst (cutV xs lo hi)) (fun b ob q => Heap.get?_push_of_some _ q) (Nat.le_refl _) ?_, rfl, q _ (I.hok.fresh (Nat.le_refl _))⟩
  exact ⟨Nat.le_trans (cutV_length xs lo hi) hz, _, 0, (r.drop (HT.sIx xs.length 0 lo)).take (HT.sIx xs.length xs.length hi - HT.sIx xs.length 0 lo), Heap.get?_push_size _ rfl⟩
theorem call_len_seq : CallR X (.builtin "len") (fun xs H Q => ∃ p ys, xs = [.ref p] ∧ (SqL X.K H p ys ∨ SqT X.K H p ys) ∧ Q (.int ys.length) H) := by
  intro pins s σ H xs us Q I r h
  obtain ⟨p, ys, rfl, hq, q⟩ := h
  obtain ⟨u, rfl, rx⟩ := vals1 r
  cases rx
  have hn := line63
  rcases hq with hq | hq
  · obtain ⟨its, r', pl, hz⟩ := I.list hq
    have hlen := r'.length
    exact Calls.call_len_list pl.isList (by simp only [List.size_toArray] <;> omega) ⟨.int ys.length, H, I.tok _, ⟨s.toks + 1, by rw [List.size_toArray, hlen]⟩, q⟩
  · obtain ⟨its, r', pl, hz⟩ := I.tuple hq
    have hlen := r'.length
    exact len_tuple pl (by simp only [List.size_toArray] <;> omega) ⟨.int ys.length, H, I.tok _, ⟨s.toks + 1, by rw [List.size_toArray, hlen]⟩, q⟩
theorem call_len_str : CallR X (.builtin "len") (fun xs H Q => ∃ z, xs = [.str z] ∧ z.length ≤ sizeLine ∧ Q (.int z.length) H) := by
  intro pins s σ H xs us Q I r h
  obtain ⟨z, rfl, hz, q⟩ := h
  obtain ⟨u, rfl, t, rfl⟩ := vals1 r
  have hn := line63
  exact len_str (by omega) ⟨.int z.length, H, I.tok _, ⟨_, rfl⟩, q⟩
theorem call_list_of : CallR X (.type "list") (fun xs H Q => ∃ p ys, xs = [.ref p] ∧ (SqL X.K H p ys ∨ SqT X.K H p ys) ∧ ∀ l, H l = none → Q (.ref l) (upd H l (.lst ys))) := by
  intro pins s σ H xs us Q I r h
  obtain ⟨p, ys, rfl, hq, q⟩ := h
  obtain ⟨u, rfl, rx⟩ := vals1 r
  cases rx
  have fin : ∀ (its : List Value), Vals ys its → ys.length ≤ sizeLine → ∀ (h' : Heap) (c' : Nat), (∀ b o', s.heap.get? b = some o' → h'.get? b = some o') →
      h'.get? s.heap.objs.size = some { cls := .type "list", dict := none, data := .seq its.toArray c', slots := #[] } → EP X pins σ Q (.ref s.heap.objs.size) { s with heap := h' } := fun its r' hz h' c' kp e =>
    ⟨.ref s.heap.objs.size, _, I.laid (t' := s.toks) kp (Nat.le_refl _) (show ObjOk X.prog X.w _ h' _ (.lst ys) from ⟨hz, its, c', r', e⟩), rfl, q _ (I.hok.fresh (Nat.le_refl _))⟩
  rcases hq with hq | hq
  · obtain ⟨its, r', pl, hz⟩ := I.list hq
    have hlen := r'.length
    obtain ⟨o, ho, hc, n, hd⟩ := pl.isList
    exact call_list_seq p (.inl rfl) ho hc hd (fun h' c' kp e => fin its r' hz h' c' kp e) (by simp only [List.size_toArray] <;> omega)
  · obtain ⟨its, r', pl, hz⟩ := I.tuple hq
    have hlen := r'.length
    obtain ⟨o, ho, hc, n, hd⟩ := pl
    exact call_list_seq p (.inr rfl) ho hc hd (fun h' c' kp e => fin its r' hz h' c' kp e) (by simp only [List.size_toArray] <;> omega)
theorem call_tuple_of : CallR X (.type "tuple") (fun xs H Q => ∃ p ys, xs = [.ref p] ∧ ((SqL X.K H p ys ∧ ∀ l, H l = none → Q (.ref l) (upd H l (.tup ys))) ∨ (SqT X.K H p ys ∧ Q (.ref p) H))) := by
  intro pins s σ H xs us Q I r h
  obtain ⟨p, ys, rfl, h⟩ := h
  obtain ⟨u, rfl, rx⟩ := vals1 r
  cases rx
  rcases h with ⟨hq, q⟩ | ⟨hq, q⟩
  · obtain ⟨its, r', pl, hz⟩ := I.list hq
    have hlen := r'.length
    refine call_tuple_list pl.isList (fun h' kp => ?_) (by simp only [List.size_toArray] <;> omega)
    have I1 : Inv X pins σ H { s with heap := h' } := I.kept (t' := s.toks) kp
    have I2 : Inv X pins σ (upd H h'.objs.size (.tup ys)) { s with heap := h'.push { cls := .type "tuple", data := .seq its.toArray } } :=
      I1.laid (t' := s.toks) (fun b o e => Heap.get?_push_of_some _ e) (Nat.le_refl _) (show ObjOk X.prog X.w _ _ _ (.tup ys) from ⟨hz, its, r', IsTup.new _ _⟩)
    exact ⟨.ref h'.objs.size, _, I2, rfl, q _ (I1.hok.fresh (Nat.le_refl _))⟩
  · obtain ⟨its, r', pl, hz⟩ := I.tuple hq
    exact call_tuple_same pl ⟨.ref p, H, I, rfl, q⟩
def tyV (K : PySem.W.Frag) (T : String) (x : V) (H : Hp) : Prop := match x with
  | .str _ => T = "str"
  | .int _ => T = "int"
  | .ref p => (T = "list" ∧ ∃ xs, SqL K H p xs) ∨ (T = "tuple" ∧ ∃ o, K.lookup p = some o ∧ o.cls = .type "tuple" ∧ o.dict = none) ∨
      (T = "dict" ∧ ((∃ kvs, H p = some (.dK kvs)) ∨ ∃ kvs, H p = some (.dT kvs))) ∨ (T = "set" ∧ ∃ S n, H p = some (.set S n))
  | _ => False
theorem tyV_is {pins : List (Addr × Obj)} {σ : St} {H : Hp} {s : Shared} {T : String} {x : V} {v : Value} (I : Inv X pins σ H s) (r : RelV x v) (ty : tyV X.K T x H) :
    s.TypeIs v T ∧ ∀ a, v = .ref a → ∃ ob, s.heap.get? a = some ob ∧ ob.dict = none := by
  cases x with
  | str z =>
    obtain ⟨t, rfl⟩ := r
    cases (show T = "str" from ty)
    exact ⟨typeIs_str s z t, fun _ e => nomatch e⟩
  | int i =>
    obtain ⟨t, rfl⟩ := r
    cases (show T = "int" from ty)
    exact ⟨typeIs_int s i t, fun _ e => nomatch e⟩
  | ref p =>
    cases r
    rcases ty with ⟨rfl, xs, hq⟩ | ⟨rfl, o, hk, hc, hd⟩ | ⟨rfl, hk⟩ | ⟨rfl, S, n, hk⟩
    · obtain ⟨its, _, pl, _⟩ := I.list hq
      refine ⟨pl.isList.typeIs, fun a e => ?_⟩
      cases e
      obtain ⟨o, n, e, c, hd, _⟩ := pl
      exact ⟨o, e, hd⟩
    · refine ⟨⟨o, I.kIn p o hk, hc⟩, fun a e => ?_⟩
      cases e
      exact ⟨o, I.kIn _ o hk, hd⟩
    · have z : ∃ o, s.heap.get? p = some o ∧ o.ExactDict := by
        rcases hk with ⟨kvs, hk⟩ | ⟨kvs, hk⟩
        · obtain ⟨_, _, _, _, o, _, _, e, ex, _⟩ := I.hok p _ hk
          exact ⟨o, e, ex⟩
        · obtain ⟨_, _, _, _, o, _, _, e, ex, _⟩ := I.hok p _ hk
          exact ⟨o, e, ex⟩
      obtain ⟨o, e, ex⟩ := z
      refine ⟨⟨o, e, ex.1⟩, fun a e2 => ?_⟩
      cases e2
      exact ⟨o, e, ex.2.1⟩
    · obtain ⟨o, _, _, _, e, ex, _⟩ := I.hok p _ hk
      refine ⟨⟨o, e, ex.1⟩, fun a e2 => ?_⟩
      cases e2
      exact ⟨o, e, ex.2.1⟩
  | _ => exact False.elim ty
def tBM0 (K : PySem.W.Frag) (T : String) (r : V → List V → Hp → VK → Prop) (to : TE) : TE := fun σ H Q => to σ H fun x H1 => tyV K T x H1 ∧ r x [] H1 Q
def tBM (K : PySem.W.Frag) (T : String) (r : V → List V → Hp → VK → Prop) (to : TE) (t : TA) : TE := fun σ H Q => to σ H fun x H1 => tyV K T x H1 ∧ t σ H1 fun xs H2 => r x xs H2 Q
variable {o e : Expr} {es : List Expr} {to : TE} {t : TA} {name : Str} {apos cpos : Pos} {T id : String} {r : V → List V → Hp → VK → Prop}
theorem pe_bm (pa : PlainAttrs T) (slot : Slot T name id) (hty : typeOf (.builtin id) = pure (.type "method_descriptor")) (hm : MtR X id r) (ho : PE X o to) (ha : PA X (e :: es) t)
    (hbase : attributeBase o name X.env (eval o X.env) = eval o X.env := by rfl)
    (hfew : ((backTo cpos (starEach (e :: es) X.env)).all (fun x => !x.1) && (backToKw cpos (keywordEach [] X.env)).all (fun x => x.1.isSome)
      && decide ((e :: es).length + ([] : List Keyword).length + (if ([] : List Keyword).isEmpty then 0 else 1) < 30)) = true := by rfl)
    (hline : (apos.endLine == cpos.line) = true := by rfl) (hs : starEach (e :: es) X.env = (false, eval e X.env) :: starEach es X.env := by rfl) (hplain : (backTo cpos (starEach es X.env)).any (·.1) = false := by rfl) :
    PE X (.Call (.Attribute o name apos) (e :: es) [] cpos) (tBM X.K T r to t) := by
  intro pins s σ H Q I h
  refine wpAny_Call_method_late hbase hfew hline rfl (thn (ho pins s σ H _ I h) fun v s1 ⟨x, H1, I1, r1, ty, q1⟩ => ?_)
  obtain ⟨h1, h2⟩ := tyV_is I1 r1 ty
  refine ⟨T, id, pa, slot, hty, h1, h2, ?_⟩
  have hA := ha cpos pins s1 σ H1 _ I1 q1
  rw [hs] at hA ⊢
  refine Calls.callWith_builtin (by show (false || (backTo cpos (starEach es X.env)).any (·.1)) = false; rw [hplain] <;> rfl) (Calls.evalArgs_plain ?_)
  exact thn hA fun us s2 ⟨vs, H2, I2, r2, q2⟩ => hm pins s2 σ H2 x vs v us Q I2 r1 r2 q2
end
end L2
namespace L2
open PySem PySem.Spec PyProof.Rows
def MtM (X : Cx) (id : String) (r : V → List V → Hp → VK → Prop) : Prop :=
  ∀ (pins : List (Addr × Obj)) (s : Shared) (σ : St) (H : Hp) (x : V) (xs : List V) (v : Value) (us : List Value) (Q : VK), Inv X pins σ H s → RelV x v → Vals xs us → r x xs H Q →
    wpAny (model X.prog X.w) X.A (call (.builtin id) (v :: us)) (EP X pins σ Q) X.xe s
theorem Vals.one : ∀ {x : V} {us : List Value}, Vals [x] us → ∃ u, us = [u] ∧ RelV x u
  | _, _, .cons r .nil => ⟨_, rfl, r⟩
theorem Vals.rep {xs : List V} {us : List Value} (h : Vals xs us) : ∀ k : Nat, Vals (List.replicate k xs).flatten (List.replicate k us).flatten
  | 0 => .nil
  | k + 1 => by
    rw [List.replicate_succ, List.replicate_succ, List.flatten_cons, List.flatten_cons]
    exact Vals.append h (Vals.rep h k)
theorem foldl_rep (its : List Value) : ∀ (k : Nat) (acc : List Value),
    List.foldl (fun x1 x2 => x1 ++ x2) acc.toArray (List.replicate k its.toArray) = (acc ++ (List.replicate k its).flatten).toArray
  | 0, acc => by simp
  | k + 1, acc => by
    have e : acc.toArray ++ its.toArray = (acc ++ its).toArray := by simp
    have e2 : (acc ++ its) ++ (List.replicate k its).flatten = acc ++ (List.replicate (k + 1) its).flatten := by
      rw [List.replicate_succ, List.flatten_cons, List.append_assoc]
    rw [← e2, ← foldl_rep its k (acc ++ its), ← e, List.replicate_succ, List.foldl_cons]
section
variable {X : Cx} {pins : List (Addr × Obj)} {σ : St} {H : Hp} {s : Shared} {l b : Addr} {xs ys zs : List V}
theorem Inv.lset {its its' : List Value} {n : Nat} {f : Array Value → Array Value} {t' : Nat} (I : Inv X pins σ H s) (hH : H l = some (.lst xs))
    (e : s.heap.get? l = some { cls := .type "list", data := .seq its.toArray n }) (hf : f its.toArray = its'.toArray) (hv : Vals ys its') (hz : ys.length ≤ sizeLine) :
    Inv X pins σ (upd H l (.lst ys)) { s with heap := s.heap.update l (Obj.mapSeq f), toks := t' } := by
  have q := PySem.IsL.update e f
  rw [hf] at q
  refine I.write (x := l) (e := l) (by rw [hH]; exact trivial) (.inl rfl) (fun b' u hb hu => (Heap.get?_update_other s.heap (Obj.mapSeq f) (Ne.symm hb)).trans hu) ⟨_, q⟩ ?_
  exact ⟨hz, its', _, hv, q⟩
theorem Inv.lnew {its : List Value} {t' : Nat} (I : Inv X pins σ H s) (hv : Vals ys its) (hz : ys.length ≤ sizeLine) :
    Inv X pins σ (upd H s.heap.objs.size (.lst ys)) { s with heap := s.heap.push { cls := .type "list", data := .seq its.toArray }, toks := t' } :=
  I.laid (fun _ _ q => Heap.get?_push_of_some _ q) (Nat.le_refl _) ⟨hz, its, 0, hv, Heap.get?_push_size _ rfl⟩
theorem Inv.fresh (I : Inv X pins σ H s) : H s.heap.objs.size = none := I.hok.fresh (Nat.le_refl _)
theorem Inv.lstM (I : Inv X pins σ H s) (hH : H l = some (.lst xs)) : xs.length ≤ sizeLine ∧ ∃ (its : List Value) (n : Nat), Vals xs its ∧ xs.length = its.length ∧ s.heap.get? l = some { cls := .type "list", data := .seq its.toArray n } := by
  obtain ⟨z, its, n, r, e⟩ := I.hok l _ hH
  exact ⟨z, its, n, r, r.length, e⟩
theorem notLongL {n : Nat} (h : n ≤ sizeLine) : Builtin.List.listTooLong n = false := by
  unfold Builtin.List.listTooLong
  exact decide_eq_false (by omega)
end
section
variable {X : Cx}
def rAppend : V → List V → Hp → VK → Prop := fun x vs H Q => ∃ l xs y, x = .ref l ∧ vs = [y] ∧ H l = some (.lst xs) ∧ xs.length < sizeLine ∧ Q .non (upd H l (.lst (xs ++ [y])))
theorem mt_append : MtM X "list.append" rAppend := by
  intro pins s σ H x vs v us Q I rx rv h
  obtain ⟨l, xs, y, rfl, rfl, hH, hz, q⟩ := h
  cases rx
  obtain ⟨u, rfl, ru⟩ := rv.one
  obtain ⟨z, its, n, r, hl, e⟩ := I.lstM hH
  refine call_meets F.slot_list_append ⟨_, e, rfl⟩ F.entry_list_append (F.args_list_append_2 _ _) (PySem.list_append l its.toArray n u (by rw [List.size_toArray]; omega)) ⟨e, ?_⟩
  refine ⟨.non, _, I.lset (its' := its ++ [u]) hH e (by simp) (r.append (.cons ru .nil)) ?_, rfl, q⟩
  rw [List.length_append, List.length_singleton]
  omega
def rCat : R2 := fun x y H Q => ∃ l b xs zs, x = .ref l ∧ y = .ref b ∧ H l = some (.lst xs) ∧ H b = some (.lst zs) ∧ xs.length + zs.length ≤ sizeLine ∧ ∀ p, H p = none → Q (.ref p) (upd H p (.lst (xs ++ zs)))
theorem op_cat : OpR X (binaryOp .Add) rCat := by
  intro pins s σ H x y v u Q I rx ry h
  obtain ⟨l, b, xs, zs, rfl, rfl, hH, hB, hz, q⟩ := h
  cases rx
  cases ry
  obtain ⟨z, its, n, r, hl, e⟩ := I.lstM hH
  obtain ⟨z2, its2, n2, r2, hl2, e2⟩ := I.lstM hB
  refine PySem.P.add_list e e2 ?_ (by rw [List.size_toArray, List.size_toArray]; omega)
  have ea : its.toArray ++ its2.toArray = (its ++ its2).toArray := by simp
  rw [ea]
  exact ⟨.ref _, _, I.lnew (t' := s.toks) (r.append r2) (by rw [List.length_append]; omega), rfl, q _ I.fresh⟩
def rRep : R2 := fun x y H Q => ∃ l k xs, x = .ref l ∧ y = .int k ∧ H l = some (.lst xs) ∧ -(2 ^ 63) ≤ k ∧ k < 2 ^ 63 ∧ xs.length * k.toNat ≤ sizeLine ∧
  ∀ p, H p = none → Q (.ref p) (upd H p (.lst (List.replicate k.toNat xs).flatten))
theorem len_rep {α : Type} (xs : List α) (k : Nat) : (List.replicate k xs).flatten.length = k * xs.length := by
  induction k with
  | zero => simp
  | succ k ih => rw [List.replicate_succ, List.flatten_cons, List.length_append, ih, Nat.succ_mul, Nat.add_comm]
theorem op_rep : OpR X (binaryOp .Mult) rRep := by
  intro pins s σ H x y v u Q I rx ry h
  obtain ⟨l, k, xs, rfl, rfl, hH, h1, h2, hz, q⟩ := h
  cases rx
  obtain ⟨t, rfl⟩ := ry
  obtain ⟨z, its, n, r, hl, e⟩ := I.lstM hH
  have hlen : its.toArray.size * k.toNat ≤ sizeLine := by rw [List.size_toArray, ← hl]; exact hz
  have hcap : ¬ its.toArray.size * k.toNat > (2 ^ 63 - 1) / 8 := by
    have : (sizeLine : Nat) ≤ (2 ^ 63 - 1) / 8 := by decide
    omega
  have hfit : ¬ (!Builtin.List.listFitsIndex k) = true := by
    rw [fitsIndex_both h1 h2]
    exact Bool.false_ne_true
  have hlong : ¬ Builtin.List.listTooLong (its.toArray.size * k.toNat) = true := by
    rw [notLongL hlen]
    exact Bool.false_ne_true
  have hnew : List.foldl (fun x1 x2 => x1 ++ x2) #[] (List.replicate (if its.toArray.isEmpty = true then 0 else k.toNat) its.toArray) = (List.replicate k.toNat its).flatten.toArray := by
    have f0 : ∀ m : Nat, List.foldl (fun x1 x2 => x1 ++ x2) #[] (List.replicate m its.toArray) = (List.replicate m its).flatten.toArray := fun m => by
      have := foldl_rep its m []
      rw [List.nil_append] at this
      exact this
    rw [f0]
    cases its with
    | nil => simp
    | cons a r' => rw [if_neg (by simp)]
  refine wpAny_binaryOp_repeat_ref (T := "list") (U := "int") (by decide) ⟨_, e, rfl⟩ (fun s' => typeIs_int s' k t) noFill_list_mul F.fills_int_mul F.slot_int_rmul repeat_list F.slot_int_index.lookup
    (call_meets F.slot_int_rmul (typeIs_int s k t) F.entry_int_rmul (F.args_int_rmul_2 _ _) (int___rmul___int_list k t l its.toArray n)
      ⟨e, rfl, ⟨_, e, rfl⟩, call_meets F.slot_list_mul ⟨_, e, rfl⟩ F.entry_list_mul (F.args_list_mul_2 _ _) (AutoListH.list___mul___list_int_3 l its.toArray n k t hfit hcap hlong) ⟨e, ?_⟩⟩)
  rw [hnew]
  exact ⟨.ref _, _, I.lnew (t' := s.toks) (r.rep k.toNat) (by rw [len_rep, Nat.mul_comm]; exact hz), rfl, q _ I.fresh⟩
end
section
variable {prog : Program} {w : World} {A : Around} {E : Value → Shared → Prop} {s : Shared}
end
section
variable {X : Cx}
end
end L2
namespace Att
open PySem PySem.W PySem.Calls PyProof.Rows
theorem ints_of_wellAll {P : Params} {h : Heap} : ∀ (ns : List Int) (vs : List Value), WellAll P h vs (ns.map WData.int) → IntsAre vs ns := by
  intro ns
  induction ns with
  | nil =>
    intro vs w
    rw [List.map_nil] at w
    cases w
    exact .nil
  | cons n ns ih =>
    intro vs w
    rw [List.map_cons] at w
    cases w with
    | cons a b =>
      cases a
      exact .cons _ _ (ih _ b)
theorem script_of {l : OpenLaw} {n : Nat} (hn : l.most = some n) {P : Params} {h : Heap} {args : List WData} {vals : List Value}
    (hpre : l.row.toRowW.claim.pre args = true) (hwl : WellAll P h vals args) :
    ∃ a vs ns, vals = [Value.ref a] ∧ args = [WData.list (ns.map WData.int)] ∧ h.get? a = some { cls := .type "list", data := .seq vs.toArray } ∧ IntsAre vs ns ∧ ns.length ≤ n := by
  have hsh : WShape.hasAll [] args [.list .int] = true := (pre_splitW hpre).1
  have hc : l.pre.holds [] { args := args } = true := (pre_splitW hpre).2
  obtain ⟨d, r, rfl, h1, h2⟩ := hasAllW_cons hsh
  obtain rfl := hasAllW_nil h2
  obtain ⟨xs, rfl, h3⟩ := hasW_list h1
  obtain ⟨ns, rfl⟩ := items_int h3
  have hlen : ns.length ≤ n := by
    unfold OpenLaw.pre at hc
    have h4 : (WTm.not (.lt (.lit (.int (n : Int))) (.len (.arg 0)))).holds [] { args := [.list (ns.map .int)] } = true := by
      have h4 := (holds_andW hc).1
      rw [hn] at h4
      exact h4
    have h5 := condW_of h4 (w_not (w_lt w_lit (w_len_list (w_arg rfl))))
    rw [List.length_map] at h5
    refine Nat.le_of_not_lt fun q => ?_
    have q' : (n : Int) < ((ns.length : Nat) : Int) := by omega
    first
      | (rw [decide_eq_true q'] at h5; exact absurd h5 (by decide))
      | (simp at h5; omega)
  cases hwl with
  | cons w1 w2 =>
    cases w2
    cases w1 with
    | list ho hall => exact ⟨_, _, ns, rfl, rfl, ho, ints_of_wellAll ns _ hall, hlen⟩
theorem post_true (l : OpenLaw) (args : List WData) : l.row.toRowW.claim.post args (.bool true) args = true :=
  postW_of (r := l.row.toRowW) (X := (true == true))
    (show WShape.has [] (.bool true) .bool = true by first | rfl | decide | simp [WShape.has, WShape.arms, WShape.armsAll])
    (show (WTm.eq .res (.lit (.bool true))).value [] { args := args, res := some (.bool true), after := args } = some (.bool (true == true)) from w_eq_bool (w_res rfl) w_lit) rfl
theorem attach_call {l : OpenLaw} {n : Nat} {q : Program} {loose : List Str} {XP : (Str → Option Value) → Heap → Prop} {YP : World → Heap → Prop} {d : DefRec}
    (hn : l.most = some n) (hdf : d.params.defaults = [])
    (call : ∀ (w : World) (s₀ s₁ : Shared) (mg mb : Str → Option Value) (fa : Addr) (o : Obj) (pm cd doc : Value) (a : Addr) (vs : List Value) (ns : List Int),
      Ground q loose [] XP w s₀ mg mb s₁.heap → YP w s₁.heap →
      s₁.heap.get? fa = some o → o.data = .func (docDef d.name d.params d.body d.scope pm cd doc) → s₁.heap.CodeRec cd d.name → mg d.name = some (.ref fa) →
      s₁.heap.get? a = some { cls := .type "list", data := .seq vs.toArray } → IntsAre vs ns → ns.length ≤ n → s₁.gens = #[] →
      codeAny (model l.prog w) callerA (.call (.ref fa) ⟨[.ref a], []⟩) (fun r s' => r = .ok (.ret (.bool true)) ∧ OldK s₁.heap s'.heap ∧ s'.os = s₁.os ∧ AllBare s'.gens) s₁) :
    WalkO q loose XP YP l.row.toRowW d [] (fun f vs => PySem.call f vs) := by
  intro w s₀ s₁ mg mb G Y fa o pm cd doc dV kV ho hd hcd hD hmg hg args vals as hpre hlay hrd hwl hlo
  obtain rfl : dV = .none := Dflts.none hD hdf
  obtain rfl : kV = .none := Dflts.noKw hD
  obtain ⟨a, vs, ns, rfl, rfl, hobj, hints, hlen⟩ := script_of hn hpre hwl
  refine enter_call (codeAny_mono (call w s₀ s₁ mg mb fa o pm cd doc a vs ns G Y ho (fd_plain hd) hcd hmg hobj hints hlen hg) fun r s' hq => ?_)
  obtain ⟨rfl, h2, h3, h4⟩ := hq
  exact ⟨.inl ⟨.bool true, .bool true, [], rfl, fun _ => rfl, .bool true, post_true l _, fun _ => ⟨List.Pairwise.nil, fun _ hm => (nomatch hm)⟩⟩, h2, h3, h4⟩
section
variable {prog : Program} {w : World} {A : Around} {E : Value → Shared → Prop} {s : Shared} {K : Frag}
end
end Att
namespace L2
open PySem PySem.Spec PyProof.Rows
theorem vals_ints : ∀ {vs : List Value} {ns : List Int}, IntsAre vs ns → Vals (ns.map V.int) vs
  | _, _, .nil => .nil
  | _, _, .cons n t h => .cons ⟨t, rfl⟩ (vals_ints h)
def Only (H : Hp) : Prop := ∀ b, H b = none ∨ ∃ o xs, H b = some (.frz o (.lst xs))
theorem law_call {P : Program} {w : World} {K : PySem.W.Frag} {mg mb : Str → Option Value} {CX : CXT} {k : Nat} {fa a : Addr} {fd : FuncData} {x : Str} {sp : Sp} {s₁ : Shared} {vs : List Value} {ns : List Int}
    (KX : K.In s₁.heap) (hns : s₁.heap.Ns mainGlobals mg) (hb : s₁.heap.Ns builtinsNs mb) (hbb : ∀ x : Str, x ≠ "__name__" → mb x = bootBuiltins x) (hlim : s₁.heap.NoLimit) (hg : s₁.gens = #[])
    (ha : s₁.heap.get? a = some { cls := .type "list", data := .seq vs.toArray }) (hi : IntsAre vs ns) (hl : ns.length ≤ sizeLine) (hr : Room k callerA)
    (F : ∀ base : Heap, K.In base → base.Ns mainGlobals mg → FnOk P w K mg base CX k fa fd [x] sp) (hbind : ∀ (s : Shared) (u : Value), BindsTo s fd ⟨[u], []⟩ [(x, u)])
    (hsp : ∀ H : Hp, Only H → SqL K H a (ns.map V.int) → sp [.ref a] H (fun v _ => v = .bl true) fun _ _ _ => False)
    (hCX : ∀ H e s', CX [] H s₁ (fun _ _ _ => False) e s' → False) :
    codeAny (model P w) callerA (.call (.ref fa) ⟨[.ref a], []⟩) (fun r s' => r = .ok (.ret (.bool true)) ∧ OldK s₁.heap s'.heap ∧ s'.os = s₁.os ∧ AllBare s'.gens) s₁ := by
  have rv := vals_ints hi
  have lenV := hi.length
  -- from an abstract heap in which nothing but the script may be tracked
  have core : ∀ H : Hp, Only H → SqL K H a (ns.map V.int) → HOk P w H s₁.heap → (∀ b, H b ≠ none → b = a) → (H a ≠ none → K.lookup a = none) →
      codeAny (model P w) callerA (.call (.ref fa) ⟨[.ref a], []⟩) (fun r s' => r = .ok (.ret (.bool true)) ∧ OldK s₁.heap s'.heap ∧ s'.os = s₁.os ∧ AllBare s'.gens) s₁ := by
    intro H hO hS hok hA hK
    have base_of : ∀ {b : Addr} {o : Obj}, s₁.heap.get? b = some o → H b = none → (hidT s₁.heap H).get? b = some o := fun e n => hidT_get e n
    have noA : ∀ {b : Addr} {o : Obj} {es : Array DictEntry} {ep : Nat}, s₁.heap.get? b = some o → o.data = .dict es ep → H b = none := fun {b o es ep} e d => by
      cases q : H b with
      | none => rfl
      | some u =>
        have e' : b = a := hA b (by rw [q]; simp)
        subst e'
        rw [ha] at e; cases e
        have d' : Data.seq vs.toArray _ = Data.dict es ep := d
        cases d'
    have nsK : ∀ {b : Addr} {m : Str → Option Value}, s₁.heap.Ns b m → (hidT s₁.heap H).Ns b m := fun {b m} ⟨o, es, ep, e, d, r⟩ => ⟨o, es, ep, base_of e (noA e d), d, r⟩
    have hKb : K.In (hidT s₁.heap H) := fun b o e => base_of (KX b o e) (by
      cases q : H b with
      | none => rfl
      | some u =>
        have e' : b = a := hA b (by rw [q]; simp)
        subst e'
        rw [hK (by rw [q]; simp)] at e; cases e)
    have hM : Mod K mg (hidT s₁.heap H) := ⟨hKb, nsK hns, ⟨mb, nsK hb, hbb⟩, let ⟨mc, h1, h2⟩ := hlim; ⟨mc, nsK h1, h2⟩⟩
    have e0 : Env0 P w K mg (hidT s₁.heap H) callerA [] s₁ H := ⟨rfl, hM, fun b o e => of_hidT e, Nat.le_of_eq (hidT_size _ _), trivial, fun b hb => absurd (show b ∈ ([] : List Addr) from hb) (by simp), hok, .of_eq hg⟩
    refine codeAny_mono ((F _ hKb (nsK hns)).run callerA [] s₁ H ⟨[.ref a], []⟩ [.ref a] [.ref a] _ _ hr e0 (hbind s₁ (.ref a)) (.cons rfl .nil) (hsp H hO hS)) fun r s' h => ?_
    cases r with
    | error e => exact (hCX H e s' h).elim
    | ok fl =>
      cases fl with
      | next => exact False.elim h
      | brk => exact False.elim h
      | cont => exact False.elim h
      | ret u =>
        obtain ⟨v, H', os, bare, un, hok', r', q⟩ := h
        have q' : v = .bl true := q
        subst q'
        obtain rfl : u = Value.bool true := r'
        refine ⟨rfl, OldK.of_keep fun b o e => ?_, os, bare⟩
        cases q : H b with
        | none => exact un.keep b o e q (by intro z; exact absurd (show b ∈ ([] : List Addr) from z) (by simp)) (by simp)
        | some u =>
          rcases hO b with z | ⟨ob, xs, z⟩
          · rw [q] at z; cases z
          · have z2 := un.frzs b ob _ z
            obtain ⟨e1, _⟩ := hok b _ z
            obtain ⟨e2, _⟩ := hok' b _ z2
            rw [e] at e1; cases e1
            exact e2
  cases hk : K.lookup a with
  | some o =>
    -- the script is one of the module's own objects
    have e := KX a o hk
    rw [ha] at e
    cases e
    refine core (fun _ => none) (fun _ => .inl rfl) (.inr ⟨_, vs.toArray, _, hk, rfl, rfl, rfl, by rw [List.size_toArray, lenV]; exact hl, by simpa using rv⟩) (fun b u z => by have z' : (none : Option HO) = some u := z; cases z') (fun b z => absurd rfl z) fun z => absurd rfl z
  | none =>
    refine core (fun b => if b = a then some (.frz { cls := .type "list", data := .seq vs.toArray } (.lst (ns.map V.int))) else none) (fun b => ?_) (.inl (.inr ⟨{ cls := .type "list", data := .seq vs.toArray }, if_pos rfl⟩)) (fun b u z => ?_) (fun b z => ?_) fun _ => hk
    · by_cases hb : b = a
      · exact .inr ⟨_, _, if_pos hb⟩
      · exact .inl (if_neg hb)
    · by_cases hb : b = a
      · have z' := (if_pos hb).symm.trans z
        cases z'
        subst hb
        exact ⟨ha, by rw [List.length_map]; exact hl, vs, _, rv, ha⟩
      · have z' := (if_neg hb).symm.trans z
        cases z'
    · by_cases hb : b = a
      · exact hb
      · exact absurd (if_neg hb) z
end L2
namespace L2
open PySem PySem.Spec PyProof.Rows
theorem walk_of {l : PySem.W.OpenLaw} {n k : Nat} {q : Program} {loose : List Str} {XP : (Str → Option Value) → Heap → Prop} {YP : World → Heap → Prop} {d : DefRec} {K : Params → PySem.W.Frag} {CX : World → CXT} {sp : World → Sp} {x : Str}
    (hn : l.most = some n) (hn2 : n ≤ sizeLine) (hdf : d.params.defaults = []) (hr : Room k callerA)
    (hY : ∀ (w : World) (h : Heap), YP w h → (K w.params).In h)
    (F : ∀ (w : World) (mg : Str → Option Value) (fa : Addr) (h : Heap), (K w.params).In h → h.Ns mainGlobals mg → mg d.name = some (.ref fa) →
      ∃ fd : FuncData, (∀ (s : Shared) (u : Value), BindsTo s fd ⟨[u], []⟩ [(x, u)]) ∧
        ∀ base : Heap, (K w.params).In base → base.Ns mainGlobals mg → FnOk l.prog w (K w.params) mg base (CX w) k fa fd [x] (sp w))
    (hsp : ∀ (w : World) (H : Hp) (a : Addr) (ns : List Int), ns.length ≤ n → Only H → SqL (K w.params) H a (ns.map V.int) → sp w [.ref a] H (fun v _ => v = .bl true) fun _ _ _ => False)
    (hCX : ∀ (w : World) (H : Hp) (s : Shared) (e : Value) (s' : Shared), CX w [] H s (fun _ _ _ => False) e s' → False) :
    PySem.W.WalkO q loose XP YP l.row.toRowW d [] (fun f vs => PySem.call f vs) := by
  refine Att.attach_call hn hdf fun w s₀ s₁ mg mb fa o pm cd doc a vs ns G Y ho hd hcd hmg hobj hints hlen hg => ?_
  have KX := hY w _ Y
  obtain ⟨fd, hb, hF⟩ := F w mg fa _ KX G.T.g hmg
  exact law_call KX G.T.g G.T.b G.T.builtins G.T.nolimit hg hobj hints (Nat.le_trans hlen hn2) hr hF hb (fun H hO hS => hsp w H a ns hlen hO hS) fun H e s' => hCX w H s₁ e s'
end L2
namespace L2
open PySem PySem.Spec PyProof.Rows
def defArgs (s : Stmt) : Arguments := match s with
  | .FunctionDef _ a _ _ _ _ _ _ _ _ => a
  | _ => { posonlyargs := [], args := [], vararg := none, kwonlyargs := [], kw_defaults := [], kwarg := none, defaults := [] }
def defBody (s : Stmt) : List Stmt := match s with
  | .FunctionDef _ _ b _ _ _ _ _ _ _ => b
  | _ => []
def defScope (s : Stmt) : Scope := match s with
  | .FunctionDef _ _ _ _ _ _ sc _ _ _ => sc
  | _ => { kind := .function, names := [], isGenerator := false, isCoroutine := false }
abbrev CX0 : CXT := fun _ _ _ _ _ _ => False
abbrev E0 : XK := fun _ _ _ => False
theorem pass0 {X : Cx} : Passes CX0 X E0 := fun _ _ _ _ _ _ _ h => h.elim
set_option genInjectivity false in
set_option genSizeOf false in
structure Fun (K : PySem.W.Frag) (x qual : Str) (st : Stmt) (f : Addr) (fd : FuncData) : Prop where
  ex : ∃ (oc : Value) (od : Option Addr) (kV doc pm : Value) (an : Option Addr) (cdv ct : Value) (osl : Array (Option Value)),
    fd = PySem.W.fnOf x qual (defArgs st) (defBody st) (defScope st) .none kV doc pm an cdv ct ∧ K.lookup f = some ⟨oc, od, .func fd, osl⟩ ∧ PySem.W.codeIn K cdv qual = true
  kp : PySem.W.keepIn K (.ref f) = true
section
variable {P : Program} {w : World} {K : PySem.W.Frag} {mg : Str → Option Value} {base : Heap}
theorem Fun.ok {x qual : Str} {st : Stmt} {f : Addr} {fd : FuncData} {N ps : List Str} {k : Nat} {sp : Sp} (F : Fun K x qual st f fd) (S : FnScope N ps (defScope st)) (len : ∀ vs H Q E, sp vs H Q E → vs.length = ps.length)
    (hbody : ∀ (cdv : Value) (A : Around) (outer : List Env) (s : Shared) (H : Hp) (vs : List V) (Q : VK) (E : XK), Room k (A.deeper (envOfC qual (defScope st) s.heap.objs.size f cdv)) → sp vs H Q E →
      ∃ t, PSs (cxOf CX0 P w K mg base N qual (defScope st) f cdv A outer s H E).nox (defBody st) t ∧ t { nx := fun _ H' => Q .non H', rt := Q } (start N vs) H) : FnOk P w K mg base CX0 (k + 1) f fd ps sp := by
  obtain ⟨oc, od, kV, doc, pm, an, cdv, ct, osl, rfl, lk, hcd⟩ := F.ex
  refine fn_of lk hcd S len fun A outer s H vs Q E hr hsp => ?_
  obtain ⟨t, h, q⟩ := hbody cdv A outer s H vs Q E hr hsp
  exact ⟨t, h.nox, q⟩
theorem Fun.binds {x qual : Str} {st : Stmt} {f : Addr} {fd : FuncData} {ps : List Str} (F : Fun K x qual st f fd)
    (h : ∀ (kV doc pm : Value) (an : Option Addr) (cdv ct : Value) (us : List Value), us.length = ps.length → bindArgs (PySem.W.fnOf x qual (defArgs st) (defBody st) (defScope st) .none kV doc pm an cdv ct) ⟨us, []⟩ = pure (ps.zip us)) : Binds K fd ps [] := by
  obtain ⟨oc, od, kV, doc, pm, an, cdv, ct, osl, rfl, lk, hcd⟩ := F.ex
  exact .all (h kV doc pm an cdv ct)
theorem fun_mk {x qual : Str} {st : Stmt} {f : Addr} {oc : Value} {od an : Option Addr} {osl : Array (Option Value)} {kV doc pm cdv ct : Value} (l : K.lookup f = some ⟨oc, od, .func (PySem.W.fnOf x qual (defArgs st) (defBody st) (defScope st) .none kV doc pm an cdv ct), osl⟩)
    (c : PySem.W.codeIn K cdv qual = true) (k : PySem.W.keepIn K (.ref f) = true) : Fun K x qual st f (PySem.W.fnOf x qual (defArgs st) (defBody st) (defScope st) .none kV doc pm an cdv ct) := ⟨⟨oc, od, kV, doc, pm, an, cdv, ct, osl, rfl, l, c⟩, k⟩
end
theorem small1000 {n : Nat} (h : n ≤ 1000) : n < sizeLine := Nat.lt_of_le_of_lt h (by decide)
section
variable {X : Cx}
theorem pv (i : Nat) {x : Str} {pos : Pos} (hN : X.N[i]? = some x := by rfl) (hv : Vis X.env.scope x := by first | exact Or.inl rfl | exact Or.inr (Or.inl rfl) | exact Or.inr (Or.inr rfl)) (hd : (x == ("__debug__" : Str)) = false := by decide)
    (hcd : (x == ("__classdict__" : Str)) = false := by decide) : PE X (.Name x pos) (tVar i) := pe_var hN hv hd hcd
end
theorem iteF {A B : Prop} (h : B) : if false = true then A else B := by
  rw [if_neg Bool.false_ne_true]
  exact h
theorem ite2 {c A B : Prop} [Decidable c] (h1 : c → A) (h2 : ¬ c → B) : if c then A else B := by
  by_cases h : c
  · rw [if_pos h]
    exact h1 h
  · rw [if_neg h]
    exact h2 h
def Same (H H' : Hp) : Prop := ∀ b o, H b = some o → H' b = some o
theorem Same.refl (H : Hp) : Same H H := fun _ _ h => h
theorem Same.trans {H H1 H2 : Hp} (a : Same H H1) (b : Same H1 H2) : Same H H2 := fun c o h => b c o (a c o h)
theorem Same.free {H H' : Hp} (e : Same H H') {l : Addr} (h : H' l = Option.none) : H l = Option.none := by
  cases q : H l with
  | none => rfl
  | some o =>
    rw [e l o q] at h
    cases h
end L2
namespace L2
open PySem PySem.Spec PyProof.Rows
set_option genInjectivity false in
set_option genSizeOf false in
structure Dn (P : Program) (w : World) (K : PySem.W.Frag) (mg : Str → Option Value) (base : Heap) (k : Nat) (x : Str) (ps : List Str) (sp : Sp) : Prop where
  ex : ∃ (f : Addr) (fd : FuncData), FnOk P w K mg base CX0 k f fd ps sp ∧ Binds K fd ps [] ∧ PySem.W.keepIn K (.ref f) = true ∧ mg x = some (.ref f)
theorem Dn.mono {P : Program} {w : World} {K : PySem.W.Frag} {mg : Str → Option Value} {base : Heap} {j k : Nat} {x : Str} {ps : List Str} {sp : Sp} (D : Dn P w K mg base j x ps sp) (h : j ≤ k) : Dn P w K mg base k x ps sp := by
  obtain ⟨f, fd, a, b, c, d⟩ := D.ex
  exact ⟨f, fd, a.mono h, b, c, d⟩
theorem Dn.imp {P : Program} {w : World} {K : PySem.W.Frag} {mg : Str → Option Value} {base : Heap} {k : Nat} {x : Str} {ps : List Str} {sp sp' : Sp} (D : Dn P w K mg base k x ps sp) (h : ∀ vs H Q E, sp' vs H Q E → sp vs H Q E) : Dn P w K mg base k x ps sp' := by
  obtain ⟨f, fd, a, b, c, d⟩ := D.ex
  exact ⟨f, fd, a.imp h, b, c, d⟩
def unst (e : Expr) : Bool := match e with
  | .Starred _ _ => false
  | _ => true
theorem star_un {e : Expr} {es : List Expr} {env : Env} (h : unst e = true) : starEach (e :: es) env = (false, eval e env) :: starEach es env := by
  cases e <;> first | rfl | cases h
theorem star_any {env : Env} {pos : Pos} : ∀ {es : List Expr}, es.all unst = true → (backTo pos (starEach es env)).any (·.1) = false
  | [], _ => rfl
  | e :: es, h => by
    rw [List.all_cons, Bool.and_eq_true] at h
    rw [star_un h.1]
    show (false || (backTo pos (starEach es env)).any (·.1)) = false
    rw [star_any h.2]
    rfl
theorem all_tl {e : Expr} {es : List Expr} (h : (e :: es).all unst = true) : es.all unst = true := by
  rw [List.all_cons, Bool.and_eq_true] at h; exact h.2
theorem all_hd {e : Expr} {es : List Expr} (h : (e :: es).all unst = true) : unst e = true := by
  rw [List.all_cons, Bool.and_eq_true] at h; exact h.1
theorem pa_u {X : Cx} {e : Expr} {es : List Expr} {te : TE} {t : TA} (ha : PE X e te) (hr : PA X es t) (h : unst e = true := by rfl) : PA X (e :: es) (tCons te t) := pa_cons ha hr (star_un h)
theorem pe_callBu {X : Cx} {x : Str} {p pos : Pos} {e : Expr} {es : List Expr} {t : TA} {id : String} {r : List V → Hp → VK → Prop} (hc : CallR X (.builtin id) r) (hg : Gl X x) (hm : X.mg x = none) (hv : bootBuiltins x = some (.builtin id)) (ha : PA X (e :: es) t)
    (h : (e :: es).all unst = true := by rfl) (hn : x ≠ "__name__" := by decide) (hdb : (x == ("__debug__" : Str)) = false := by decide) : PE X (.Call (.Name x p) (e :: es) [] pos) (tCB r t) :=
  pe_callB hc hg hm hv ha hn hdb (star_un (all_hd h)) (star_any (all_tl h))
theorem pe_callTu {X : Cx} {x : Str} {p pos : Pos} {e : Expr} {es : List Expr} {t : TA} {T : String} {r : List V → Hp → VK → Prop} (hc : CallR X (.type T) r) (hg : Gl X x) (hm : X.mg x = none) (hv : bootBuiltins x = some (.type T)) (ha : PA X (e :: es) t)
    (h : (e :: es).all unst = true := by rfl) (hn : x ≠ "__name__" := by decide) (hdb : (x == ("__debug__" : Str)) = false := by decide) : PE X (.Call (.Name x p) (e :: es) [] pos) (tCB r t) :=
  pe_callTy hc hg hm hv ha hn hdb (star_un (all_hd h)) (star_any (all_tl h))
theorem pe_callD {X : Cx} {k : Nat} {x : Str} {ps : List Str} {sp : Sp} {e : Expr} {es : List Expr} {t : TA} {p pos : Pos} (D : Dn X.prog X.w X.K X.mg X.base k x ps sp) (hr : Room k X.A) (hg : Gl X x)
    (ha : PA X (e :: es) t) (h : (e :: es).all unst = true := by rfl) (hdb : (x == ("__debug__" : Str)) = false := by decide) :
    PE X (.Call (.Name x p) (e :: es) [] pos) (tCall sp [] E0 t) := by
  obtain ⟨f, fd, a, b, c, d⟩ := D.ex
  exact pe_call a hr hg d c b .nil pass0 ha hdb (star_un (all_hd h)) (star_any (all_tl h))
set_option genInjectivity false in
set_option genSizeOf false in
structure Df (K : PySem.W.Frag) (mg : Str → Option Value) (x : Str) (st : Stmt) (ps : List Str) : Prop where
  ex : ∃ (f : Addr) (fd : FuncData), Fun K x x st f fd ∧ Binds K fd ps [] ∧ mg x = some (.ref f)
theorem Df.ok {P : Program} {w : World} {K : PySem.W.Frag} {mg : Str → Option Value} {base : Heap} {x : Str} {st : Stmt} {N ps : List Str} {k : Nat} {sp : Sp} (F : Df K mg x st ps) (S : FnScope N ps (defScope st))
    (len : ∀ vs H Q E, sp vs H Q E → vs.length = ps.length)
    (hbody : ∀ (f : Addr) (cdv : Value) (A : Around) (outer : List Env) (s : Shared) (H : Hp) (vs : List V) (Q : VK) (E : XK), Room k (A.deeper (envOfC x (defScope st) s.heap.objs.size f cdv)) → sp vs H Q E →
      ∃ (t : TS) (σ : St), PSs (cxOf CX0 P w K mg base N x (defScope st) f cdv A outer s H E).nox (defBody st) t ∧ start N vs = σ ∧ t { nx := fun _ H' => Q .non H', rt := Q } σ H) : Dn P w K mg base (k + 1) x ps sp := by
  obtain ⟨f, fd, F1, b, m⟩ := F.ex
  refine ⟨f, fd, F1.ok S len fun cdv A outer s H vs Q E hr h => ?_, b, F1.kp, m⟩
  obtain ⟨t, σ, h1, rfl, h2⟩ := hbody f cdv A outer s H vs Q E hr h
  exact ⟨t, h1, h2⟩
set_option genInjectivity false in
set_option genSizeOf false in
structure Gc (mg : Str → Option Value) (x : Str) (v : V) : Prop where
  ex : ∃ u, mg x = some u ∧ RelV v u
theorem pe_gc {X : Cx} {x : Str} {v : V} {pos : Pos} (h : Gc X.mg x v) (hg : Gl X x) (hd : (x == ("__debug__" : Str)) = false := by decide) : PE X (.Name x pos) (tC v) := by
  obtain ⟨u, a, b⟩ := h.ex
  exact pe_glob hg a b hd
mutual
def Dt (K : PySem.W.Frag) (t : Addr) (H : Hp) : PyData → V → Prop
  | .none, v => v = .non
  | .bool b, v => v = .bl b
  | .int i, v => v = .int i
  | .str x, v => v = .str x ∧ PyData.strOk x = true
  | .tuple ds, v => ∃ a xs, v = .ref a ∧ SqT K H a xs ∧ DtL K t H ds xs
  | .list ds, v => ∃ a xs, v = .ref a ∧ a ≠ t ∧ SqL K H a xs ∧ DtL K t H ds xs
  | .dict _, _ => False
def DtL (K : PySem.W.Frag) (t : Addr) (H : Hp) : List PyData → List V → Prop
  | [], vs => vs = []
  | d :: ds, vs => ∃ v r, vs = v :: r ∧ Dt K t H d v ∧ DtL K t H ds r
end
mutual
theorem Dt.lay {K : PySem.W.Frag} {t : Addr} {H : Hp} : ∀ (d : PyData) (v : V), Dt K t H d v → d.canLay0 = true
  | .none, _, _ => by simp [PyData.canLay0]
  | .bool _, _, _ => by simp [PyData.canLay0]
  | .int _, _, _ => by simp [PyData.canLay0]
  | .str x, _, h => by
    simp only [Dt] at h
    simpa [PyData.canLay0] using h.2
  | .tuple ds, v, h => by
    simp only [Dt] at h
    obtain ⟨a, xs, _, _, q⟩ := h
    simpa [PyData.canLay0] using DtL.lay ds xs q
  | .list ds, v, h => by
    simp only [Dt] at h
    obtain ⟨a, xs, _, _, _, q⟩ := h
    simpa [PyData.canLay0] using DtL.lay ds xs q
  | .dict _, _, h => by simp [Dt] at h
theorem DtL.lay {K : PySem.W.Frag} {t : Addr} {H : Hp} : ∀ (ds : List PyData) (vs : List V), DtL K t H ds vs → PyData.canLayAll0 ds = true
  | [], _, _ => by simp [PyData.canLayAll0]
  | d :: ds, vs, h => by
    simp only [DtL] at h
    obtain ⟨v, r, _, h1, h2⟩ := h
    simp [PyData.canLayAll0, Dt.lay d v h1, DtL.lay ds r h2]
end
mutual
theorem Dt.reads {X : Cx} {pins : List (Addr × Obj)} {σ : St} {H : Hp} {s : Shared} {t : Addr} (I : Inv X pins σ H s) : ∀ (d : PyData) (v : V) (u : Value), Dt X.K t H d v → RelV v u → ∃ as, Reads s.heap u d as
  | .none, v, u, h, r => by simp only [Dt] at h; subst h; cases r; exact ⟨_, .none⟩
  | .bool b, v, u, h, r => by simp only [Dt] at h; subst h; cases r; exact ⟨_, .bool b⟩
  | .int i, v, u, h, r => by simp only [Dt] at h; subst h; obtain ⟨tk, rfl⟩ := r; exact ⟨_, .int i tk⟩
  | .str x, v, u, h, r => by simp only [Dt] at h; obtain ⟨h, _⟩ := h; subst h; obtain ⟨tk, rfl⟩ := r; exact ⟨_, .str x tk⟩
  | .tuple ds, v, u, h, r => by
    simp only [Dt] at h
    obtain ⟨a, xs, rfl, hs, q⟩ := h
    cases r
    obtain ⟨its, rv, ⟨o, ho, hc, n, hd⟩, _⟩ := I.tuple hs
    obtain ⟨as, ra⟩ := DtL.reads I ds xs its q rv
    exact ⟨as, .tuple ho hc hd (by simpa using ra)⟩
  | .list ds, v, u, h, r => by
    simp only [Dt] at h
    obtain ⟨a, xs, rfl, _, hs, q⟩ := h
    cases r
    obtain ⟨its, rv, ⟨o, n, ho, hc, _, hd⟩, _⟩ := I.list hs
    obtain ⟨as, ra⟩ := DtL.reads I ds xs its q rv
    exact ⟨_, .list ho hc hd (by simpa using ra)⟩
  | .dict _, _, _, h, _ => by simp [Dt] at h
theorem DtL.reads {X : Cx} {pins : List (Addr × Obj)} {σ : St} {H : Hp} {s : Shared} {t : Addr} (I : Inv X pins σ H s) : ∀ (ds : List PyData) (vs : List V) (us : List Value), DtL X.K t H ds vs → Vals vs us → ∃ as, ReadsAll s.heap us ds as
  | [], vs, us, h, r => by simp only [DtL] at h; subst h; cases r; exact ⟨_, .nil⟩
  | d :: ds, vs, us, h, r => by
    simp only [DtL] at h
    obtain ⟨v, vr, rfl, h1, h2⟩ := h
    cases r with
    | cons r1 r2 =>
      obtain ⟨as, a1⟩ := Dt.reads I d v _ h1 r1
      obtain ⟨bs, a2⟩ := DtL.reads I ds vr _ h2 r2
      exact ⟨_, .cons a1 a2⟩
end
def rEqD (K : PySem.W.Frag) (n : Bool) : R2 := fun x y H Q => ∃ t d e, Dt K t H d x ∧ Dt K t H e y ∧ min d.depth e.depth ≤ 100 ∧ Q (.bl (if n then !PyData.eqv d e else PyData.eqv d e)) H
theorem op_eqD {X : Cx} {k : Nat} (hr : Room k X.A) : OpR X (compareOp .Eq) (rEqD X.K false) := by
  intro pins s σ H x y v u Q I rx ry h
  obtain ⟨t, d, e, hd, he, hm, q⟩ := h
  obtain ⟨as, r1⟩ := Dt.reads I d x v hd rx
  obtain ⟨bs, r2⟩ := Dt.reads I e y u he ry
  exact PySem.SeqAt.compareEq_reads r1 r2 (Dt.lay d x hd) (Dt.lay e y he) (by have := hr.un; omega) ⟨.bl _, H, I, rfl, q⟩
theorem op_neD {X : Cx} {k : Nat} (hr : Room k X.A) : OpR X (compareOp .NotEq) (rEqD X.K true) := by
  intro pins s σ H x y v u Q I rx ry h
  obtain ⟨t, d, e, hd, he, hm, q⟩ := h
  obtain ⟨as, r1⟩ := Dt.reads I d x v hd rx
  obtain ⟨bs, r2⟩ := Dt.reads I e y u he ry
  exact PySem.SeqAt.compareNe_reads r1 r2 (Dt.lay d x hd) (Dt.lay e y he) (by have := hr.un; omega) ⟨.bl _, H, I, rfl, q⟩
def tyD : PyData → String
  | .none => "NoneType"
  | .bool _ => "bool"
  | .int _ => "int"
  | .str _ => "str"
  | .tuple _ => "tuple"
  | .list _ => "list"
  | .dict _ => "dict"
def isiD (d : PyData) (T : String) : Bool := match d with
  | .none => false
  | .bool _ => T == "bool" || T == "int"
  | .int _ => T == "int"
  | .str _ => T == "str"
  | .tuple _ => T == "tuple"
  | .list _ => T == "list"
  | .dict _ => T == "dict"
def isiTs : List String := ["int", "bool", "str", "tuple", "list"]
theorem kit_isi {K : PySem.W.Frag} (d : PyData) {T : String} (h : T ∈ isiTs) : PySem.W.kitOne K (.type (tyD d)) (.type T) = some (isiD d T) := by
  simp only [isiTs, List.mem_cons, List.not_mem_nil, or_false] at h
  rcases h with rfl | rfl | rfl | rfl | rfl <;> cases d <;> with_unfolding_all rfl
theorem isi_dt {X : Cx} {pins : List (Addr × Obj)} {σ : St} {H : Hp} {s : Shared} {A : Around} {E : Value → Shared → Prop} {Q : Value → Shared → Prop} {t : Addr} {d : PyData} {x : V} {u : Value} {T : String}
    (I : Inv X pins σ H s) (rx : RelV x u) (hd : Dt X.K t H d x) (hT : T ∈ isiTs) (h : ∀ tk, Q (.bool (isiD d T)) { s with toks := tk }) : wpAny (model X.prog X.w) A (call (.builtin "isinstance") [u, .type T]) Q E s := by
  have e := kit_isi (K := X.K) d hT
  cases d with
  | none => simp only [Dt] at hd; subst hd; cases rx; exact PySem.W.kia_one PySem.W.kitx_none I.kIn True.intro e (fun z => nomatch z) h
  | bool b => simp only [Dt] at hd; subst hd; cases rx; exact PySem.W.kia_one PySem.W.kitx_bool I.kIn True.intro e (fun z => nomatch z) h
  | int i => simp only [Dt] at hd; subst hd; obtain ⟨tk, rfl⟩ := rx; exact PySem.W.kia_one PySem.W.kitx_int I.kIn True.intro e (fun z => nomatch z) h
  | str y => simp only [Dt] at hd; obtain ⟨hd, _⟩ := hd; subst hd; obtain ⟨tk, rfl⟩ := rx; exact PySem.W.kia_one PySem.W.kitx_str I.kIn True.intro e (fun z => nomatch z) h
  | tuple ds =>
    simp only [Dt] at hd
    obtain ⟨a, xs, rfl, hs, _⟩ := hd
    cases rx
    obtain ⟨its, _, ⟨o, ho, hc, _⟩, _⟩ := I.tuple hs
    exact PySem.W.kia_one PySem.W.kitx_tuple I.kIn ⟨o, ho, hc⟩ e (fun z => nomatch z) h
  | list ds =>
    simp only [Dt] at hd
    obtain ⟨a, xs, rfl, _, hs, _⟩ := hd
    cases rx
    obtain ⟨its, _, ⟨o, n, ho, hc, _⟩, _⟩ := I.list hs
    exact PySem.W.kia_one PySem.W.kitx_list I.kIn ⟨o, ho, hc⟩ e (fun z => nomatch z) h
  | dict _ => simp [Dt] at hd
def rIsi (K : PySem.W.Frag) : List V → Hp → VK → Prop := fun xs H Q => ∃ x T t d, xs = [x, .ty T] ∧ T ∈ isiTs ∧ Dt K t H d x ∧ Q (.bl (isiD d T)) H
theorem call_isi {X : Cx} : CallR X (.builtin "isinstance") (rIsi X.K) := by
  intro pins s σ H xs us Q I r h
  obtain ⟨x, T, t, d, rfl, hT, hd, q⟩ := h
  cases r with
  | cons r1 r2 =>
    cases r2 with
    | cons r3 r4 =>
      cases r4
      cases r3
      exact isi_dt I r1 hd hT fun tk => ⟨.bl _, H, I.tok _, rfl, q⟩
theorem bt_isinstance : bootBuiltins "isinstance" = some (.builtin "isinstance") := by decide +kernel
theorem bt_min : bootBuiltins "min" = some (.builtin "min") := by decide +kernel
theorem bt_list : bootBuiltins "list" = some (.type "list") := by decide +kernel
theorem bt_int : bootBuiltins "int" = some (.type "int") := by decide +kernel
theorem bt_bool : bootBuiltins "bool" = some (.type "bool") := by decide +kernel
theorem bt_str : bootBuiltins "str" = some (.type "str") := by decide +kernel
theorem bt_tuple : bootBuiltins "tuple" = some (.type "tuple") := by decide +kernel
def Ext (t : Addr) (H H' : Hp) : Prop := ∀ b o, (b = t → ∀ xs, o ≠ .lst xs) → H b = some o → H' b = some o
theorem Ext.refl {t : Addr} (H : Hp) : Ext t H H := fun _ _ _ h => h
theorem Ext.trans {t : Addr} {H H1 H2 : Hp} (a : Ext t H H1) (b : Ext t H1 H2) : Ext t H H2 := fun c o n h => b c o n (a c o n h)
theorem Ext.new {t p : Addr} {H : Hp} (h : H p = none) (o : HO) : Ext t H (upd H p o) := fun b u _ q => by rw [upd_ne (ne_of_none q h)]; exact q
theorem Ext.at {t : Addr} {H : Hp} {xs : List V} (h : H t = some (.lst xs)) (o : HO) : Ext t H (upd H t o) := fun b u n q => by
  by_cases e : b = t
  · subst e; rw [h] at q; cases q; exact absurd rfl (n rfl xs)
  · rw [upd_ne e]; exact q
theorem Same.ext {t : Addr} {H H' : Hp} (h : Same H H') : Ext t H H' := fun b o _ q => h b o q
theorem Ext.sqT {K : PySem.W.Frag} {t a : Addr} {H H' : Hp} {xs : List V} (e : Ext t H H') (h : SqT K H a xs) : SqT K H' a xs := by
  rcases h with (h | ⟨o, h⟩) | h
  · exact .inl (.inl (e _ _ (fun _ _ z => nomatch z) h))
  · exact .inl (.inr ⟨o, e _ _ (fun _ _ z => nomatch z) h⟩)
  · exact .inr h
theorem Ext.sqL {K : PySem.W.Frag} {t a : Addr} {H H' : Hp} {xs : List V} (e : Ext t H H') (hn : a ≠ t) (h : SqL K H a xs) : SqL K H' a xs := by
  rcases h with (h | ⟨o, h⟩) | h
  · exact .inl (.inl (e _ _ (fun z => absurd z hn) h))
  · exact .inl (.inr ⟨o, e _ _ (fun z => absurd z hn) h⟩)
  · exact .inr h
mutual
theorem Dt.ext {K : PySem.W.Frag} {t : Addr} {H H' : Hp} (e : Ext t H H') : ∀ (d : PyData) (v : V), Dt K t H d v → Dt K t H' d v
  | .none, _, h => by simp only [Dt] at h ⊢; exact h
  | .bool _, _, h => by simp only [Dt] at h ⊢; exact h
  | .int _, _, h => by simp only [Dt] at h ⊢; exact h
  | .str _, _, h => by simp only [Dt] at h ⊢; exact h
  | .tuple ds, v, h => by
    simp only [Dt] at h ⊢
    obtain ⟨a, xs, h1, h2, h3⟩ := h
    exact ⟨a, xs, h1, e.sqT h2, DtL.ext e ds xs h3⟩
  | .list ds, v, h => by
    simp only [Dt] at h ⊢
    obtain ⟨a, xs, h1, h2, h3, h4⟩ := h
    exact ⟨a, xs, h1, h2, e.sqL h2 h3, DtL.ext e ds xs h4⟩
  | .dict _, _, h => by simp [Dt] at h
theorem DtL.ext {K : PySem.W.Frag} {t : Addr} {H H' : Hp} (e : Ext t H H') : ∀ (ds : List PyData) (vs : List V), DtL K t H ds vs → DtL K t H' ds vs
  | [], _, h => by simp only [DtL] at h ⊢; exact h
  | d :: ds, vs, h => by
    simp only [DtL] at h ⊢
    obtain ⟨v, r, h1, h2, h3⟩ := h
    exact ⟨v, r, h1, Dt.ext e d v h2, DtL.ext e ds r h3⟩
end
theorem Dt.on {K : PySem.W.Frag} {t : Addr} {H H' : Hp} {d : PyData} {v : V} (h : Dt K t H d v) (e : Ext t H H') : Dt K t H' d v := Dt.ext e d v h
theorem DtL.on {K : PySem.W.Frag} {t : Addr} {H H' : Hp} {d : List PyData} {v : List V} (h : DtL K t H d v) (e : Ext t H H') : DtL K t H' d v := DtL.ext e d v h
section
variable {K : PySem.W.Frag} {t p : Addr} {H : Hp}
theorem Dt.non : Dt K t H .none .non := by simp [Dt]
theorem Dt.bl (b : Bool) : Dt K t H (.bool b) (.bl b) := by simp [Dt]
theorem Dt.int (i : Int) : Dt K t H (.int i) (.int i) := by simp [Dt]
theorem Dt.str {x : Str} (h : PyData.strOk x = true) : Dt K t H (.str x) (.str x) := by simp [Dt, h]
theorem DtL.nil : DtL K t H [] [] := by simp [DtL]
theorem DtL.cons {d : PyData} {v : V} {ds : List PyData} {vs : List V} (h : Dt K t H d v) (q : DtL K t H ds vs) : DtL K t H (d :: ds) (v :: vs) := by
  simp only [DtL]
  exact ⟨v, vs, rfl, h, q⟩
theorem Dt.tup {a : Addr} {xs : List V} {ds : List PyData} (h : SqT K H a xs) (q : DtL K t H ds xs) : Dt K t H (.tuple ds) (.ref a) := by
  simp only [Dt]
  exact ⟨a, xs, rfl, h, q⟩
theorem Dt.lst {a : Addr} {xs : List V} {ds : List PyData} (hn : a ≠ t) (h : SqL K H a xs) (q : DtL K t H ds xs) : Dt K t H (.list ds) (.ref a) := by
  simp only [Dt]
  exact ⟨a, xs, rfl, hn, h, q⟩
theorem Dt.newT {xs : List V} {ds : List PyData} (hp : H p = none) (q : DtL K t H ds xs) : Dt K t (upd H p (.tup xs)) (.tuple ds) (.ref p) :=
  .tup (.of upd_same) (q.on (.new hp _))
theorem Dt.newL {xs : List V} {ds : List PyData} (hp : H p = none) (hn : p ≠ t) (q : DtL K t H ds xs) : Dt K t (upd H p (.lst xs)) (.list ds) (.ref p) :=
  .lst hn (.of upd_same) (q.on (.new hp _))
theorem Dt.tup_inv {ds : List PyData} {v : V} (h : Dt K t H (.tuple ds) v) : ∃ a xs, v = .ref a ∧ SqT K H a xs ∧ DtL K t H ds xs := by simpa only [Dt] using h
end
def ScL (K : PySem.W.Frag) (t : Addr) (H : Hp) (a : Addr) (xs : List V) : Prop := (a ≠ t ∧ SqL K H a xs) ∨ ∀ H', SqL K H' a xs
theorem ScL.sq {K : PySem.W.Frag} {t : Addr} {H : Hp} {a : Addr} {xs : List V} (h : ScL K t H a xs) : SqL K H a xs := h.elim (fun z => z.2) fun z => z H
theorem ScL.on {K : PySem.W.Frag} {t : Addr} {H H' : Hp} {a : Addr} {xs : List V} (h : ScL K t H a xs) (e : Ext t H H') : ScL K t H' a xs := h.elim (fun z => .inl ⟨z.1, e.sqL z.1 z.2⟩) .inr
theorem ScL.of {K : PySem.W.Frag} {t : Addr} {H : Hp} {a : Addr} {xs : List V} (h : SqL K H a xs) (hp : H t = none) (o : HO) : ScL K t (upd H t o) a xs := by
  rcases h with (h | ⟨u, h⟩) | h
  · exact .inl ⟨ne_of_none h hp, .inl (.inl (by rw [upd_ne (ne_of_none h hp)]; exact h))⟩
  · exact .inl ⟨ne_of_none h hp, .inl (.inr ⟨u, by rw [upd_ne (ne_of_none h hp)]; exact h⟩)⟩
  · exact .inr fun _ => .inr h
def Tape (K : PySem.W.Frag) (ns : List Int) (t : Addr) (H : Hp) : Prop :=
  ∃ (sc : Addr) (sp cr wy : Int), H t = some (.lst [.ref sc, .int sp, .int cr, .int wy]) ∧ ScL K t H sc (ns.map V.int)
set_option genInjectivity false in
set_option genSizeOf false in
structure Cur (K : PySem.W.Frag) (ns : List Int) (t : Addr) (H₀ H : Hp) : Prop where
  tape : Tape K ns t H
  ext : Ext t H₀ H
section
variable {K : PySem.W.Frag} {ns : List Int} {t p : Addr} {H₀ H H' : Hp}
theorem Tape.cur (h : Tape K ns t H) : Cur K ns t H H := ⟨h, .refl H⟩
theorem Tape.ne (h : Tape K ns t H) (hp : H p = none) : p ≠ t := by
  obtain ⟨_, _, _, _, e, _⟩ := h
  exact (ne_of_none e hp).symm
theorem Tape.new (h : Tape K ns t H) (hp : H p = none) (o : HO) : Tape K ns t (upd H p o) := by
  have n := h.ne hp
  obtain ⟨sc, sp, cr, wy, e, l⟩ := h
  exact ⟨sc, sp, cr, wy, by rw [upd_ne n.symm]; exact e, l.on (.new hp o)⟩
theorem Tape.same (h : Tape K ns t H) (e : Same H H') : Tape K ns t H' := by
  obtain ⟨sc, sp, cr, wy, e1, l⟩ := h
  exact ⟨sc, sp, cr, wy, e _ _ e1, l.on e.ext⟩
theorem Cur.same (c : Cur K ns t H₀ H) (e : Same H H') : Cur K ns t H₀ H' := ⟨c.tape.same e, c.ext.trans e.ext⟩
theorem Cur.new (c : Cur K ns t H₀ H) (hp : H p = none) (o : HO) : Cur K ns t H₀ (upd H p o) := ⟨c.tape.new hp o, c.ext.trans (.new hp o)⟩
theorem Cur.then (c : Cur K ns t H₀ H) (d : Cur K ns t H H') : Cur K ns t H₀ H' := ⟨d.tape, c.ext.trans d.ext⟩
theorem Cur.ne (c : Cur K ns t H₀ H) (hp : H p = none) : p ≠ t := c.tape.ne hp
end
end L2
namespace L2
open PySem PySem.Spec PyProof.Rows
theorem Df.void {P : Program} {w : World} {K : PySem.W.Frag} {mg : Str → Option Value} {base : Heap} {x : Str} {st : Stmt} {ps : List Str} {k : Nat} {sp : Sp} (F : Df K mg x st ps) (no : ∀ vs H Q E, ¬ sp vs H Q E) : Dn P w K mg base k x ps sp := by
  obtain ⟨f, fd, F1, b, m⟩ := F.ex
  exact ⟨f, fd, ⟨fun vs H Q E h => absurd h (no vs H Q E), fun A outer s H args us vs Q E _ _ _ _ h => absurd h (no vs H Q E)⟩, b, F1.kp, m⟩
end L2
namespace L2
open PySem PySem.Spec PyProof.Rows
theorem r_K {CX : CXT} {P : Program} {w : World} {K : PySem.W.Frag} {mg : Str → Option Value} {base : Heap} {N : List Str} {qual : Str} {scope : Scope} {f : Addr} {cd : Value} {A : Around} {outer : List Env} {s : Shared} {H : Hp} {E : XK} :
    (cxOf CX P w K mg base N qual scope f cd A outer s H E).K = K := rfl
def rLenS (K : PySem.W.Frag) : List V → Hp → VK → Prop := fun xs H Q => ∃ p ys, xs = [.ref p] ∧ (SqL K H p ys ∨ SqT K H p ys) ∧ Q (.int ys.length) H
theorem call_lenS {X : Cx} : CallR X (.builtin "len") (rLenS X.K) := call_len_seq
def rMin2 : List V → Hp → VK → Prop := fun xs H Q => ∃ i j, xs = [.int i, .int j] ∧ Q (.int (if j < i then j else i)) H
theorem call_minS {X : Cx} (hc : X.calm = true) : CallR X (.builtin "min") rMin2 := call_min2 hc
def rIsNn (n : Bool) : R2 := fun x y H Q => y = .non ∧ Q (.bl (if n then !decide (x = .non) else decide (x = .non))) H
theorem op_isNS {X : Cx} : OpR X (compareOp .Is) (rIsNn false) := op_isN
theorem op_notNS {X : Cx} : OpR X (compareOp .IsNot) (rIsNn true) := op_notN
def rListOf (K : PySem.W.Frag) : List V → Hp → VK → Prop := fun xs H Q => ∃ p ys, xs = [.ref p] ∧ (SqL K H p ys ∨ SqT K H p ys) ∧ ∀ l, H l = none → Q (.ref l) (upd H l (.lst ys))
theorem call_listS {X : Cx} : CallR X (.type "list") (rListOf X.K) := call_list_of
end L2
namespace L2
open PySem PySem.Spec PyProof.Rows
def tCut (t u : TS) : TS := fun D σ H => ∃ M : St → Hp → Prop, t { D with nx := M } σ H ∧ ∀ σ' H', M σ' H' → u D σ' H'
theorem pss_cut {X : Cx} {st : Stmt} {rest : List Stmt} {t u : TS} (h1 : PS X st t) (h2 : PSs X rest u) : PSs X (st :: rest) (tCut t u) := by
  intro pins s σ H D I h
  obtain ⟨M, a, b⟩ := h
  refine wpAny_execs_cons (thn (h1 pins s σ H _ I a) fun f s1 q => ?_)
  cases f with
  | next => obtain ⟨σ1, H1, I1, q1⟩ := q; exact h2 pins s1 σ1 H1 D I1 (b _ _ q1)
  | brk => exact q
  | cont => exact q
  | ret v => exact q
theorem r_cut {D : Ends} {σ : St} {H : Hp} {t u : TS} (M : St → Hp → Prop) (a : ∀ M' : St → Hp → Prop, (∀ σ H, M σ H → M' σ H) → t { D with nx := M' } σ H) (b : ∀ σ' H', M σ' H' → u D σ' H') : tCut t u D σ H := ⟨M, a M fun _ _ h => h, b⟩
end L2
namespace L2
open PySem PySem.Spec PyProof.Rows
theorem Fun.okS {P : Program} {w : World} {K : PySem.W.Frag} {mg : Str → Option Value} {base : Heap} {x qual : Str} {st : Stmt} {f : Addr} {fd : FuncData} {N ps : List Str} {k : Nat} {sp : Sp} (F : Fun K x qual st f fd) (S : FnScope N ps (defScope st)) (len : ∀ vs H Q E, sp vs H Q E → vs.length = ps.length)
    (hbody : ∀ (cdv : Value) (A : Around) (outer : List Env) (s : Shared) (H : Hp) (vs : List V) (Q : VK) (E : XK), Room k (A.deeper (envOfC qual (defScope st) s.heap.objs.size f cdv)) → sp vs H Q E →
      ∃ (t : TS) (σ : St), PSs (cxOf CX0 P w K mg base N qual (defScope st) f cdv A outer s H E).nox (defBody st) t ∧ start N vs = σ ∧ t { nx := fun _ H' => Q .non H', rt := Q } σ H) : FnOk P w K mg base CX0 (k + 1) f fd ps sp :=
  F.ok S len fun cdv A outer s H vs Q E hr h => by
    obtain ⟨t, σ, h1, rfl, h2⟩ := hbody cdv A outer s H vs Q E hr h
    exact ⟨t, h1, h2⟩
end L2
namespace L2
open PySem PySem.Spec PyProof.Rows
section
variable {D : Ends} {σ : St} {H : Hp} {K : PySem.W.Frag} {ta tb tc te : TE} {t u : TS} {tt uu : TT} {tr : TA} {g : TG} {Q : VK} {B : Bool → Hp → Prop} {L : List V → Hp → Prop} {x y v : V} {r r' : R2} {G : St → Hp → Prop} {S : Hp → Prop}
theorem r_seq : tSeq t u D σ H = t { D with nx := u D } σ H := rfl
theorem r_next : tNext D σ H = D.nx σ H := rfl
theorem r_asg : tAsg te g D σ H = te σ H fun x H1 => g x σ H1 D.nx := rfl
theorem r_ret : tRet te D σ H = te σ H D.rt := rfl
theorem r_retN : tRetN D σ H = D.rt .non H := rfl
theorem r_drop : tDrop te D σ H = te σ H fun _ H1 => D.nx σ H1 := rfl
theorem r_ifS : tIfS tt t u D σ H = tt σ H fun b H1 => if b = true then t D σ H1 else u D σ H1 := rfl
theorem r_name {i : Nat} : gName i v σ H G = G (σ.set i (some v)) H := rfl
theorem r_sub {ts : TSet} : gSub ta tb ts v σ H G = ta σ H fun o H1 => tb σ H1 fun i H2 => ts o i v H2 fun H3 => G σ H3 := rfl
theorem r_var {v : V} : tVar 0 (some v :: σ) H Q = Q v H := rfl
theorem r_varS {i : Nat} {x : Option V} : tVar (i + 1) (x :: σ) H Q = tVar i σ H Q := rfl
theorem r_c : tC v σ H Q = Q v H := rfl
theorem r_op : tOp r ta tb σ H Q = ta σ H fun x H1 => tb σ H1 fun y H2 => r x y H2 Q := rfl
theorem r_un {p : V → Hp → VK → Prop} : tUn p ta σ H Q = ta σ H fun x H1 => p x H1 Q := rfl
theorem r_test : tTest te σ H B = te σ H fun x H' => ∃ k, x = .bl k ∧ B k H' := rfl
theorem r_tB : tB te σ H B = te σ H fun x H' => ∃ k, x = .bl k ∧ B k H' := rfl
theorem r_and : tAnd tt uu σ H B = tt σ H fun c H1 => if c = true then uu σ H1 B else B false H1 := rfl
theorem r_or : tOr tt uu σ H B = tt σ H fun c H1 => if c = true then B true H1 else uu σ H1 B := rfl
theorem r_not : tNot tt σ H B = tt σ H fun c H1 => B (!c) H1 := rfl
theorem r_andV : tAndV ta tb σ H Q = ta σ H fun x H1 => ∃ c, x = .bl c ∧ if c = true then tb σ H1 Q else Q (.bl false) H1 := rfl
theorem r_orV : tOrV ta tb σ H Q = ta σ H fun x H1 => ∃ c, x = .bl c ∧ if c = true then Q (.bl true) H1 else tb σ H1 Q := rfl
theorem r_notV : tNotV ta σ H Q = ta σ H fun x H1 => ∃ c, x = .bl c ∧ Q (.bl (!c)) H1 := rfl
theorem r_ifE : tIf tt ta tb σ H Q = tt σ H fun c H1 => if c = true then ta σ H1 Q else tb σ H1 Q := rfl
theorem r_chain : tChain r r' ta tb tc σ H Q = ta σ H fun x H1 => tb σ H1 fun y H2 => r x y H2 fun z H3 => ∃ k, z = .bl k ∧ (if k = true then tc σ H3 fun w' H4 => r' y w' H4 Q else Q (.bl false) H3) := rfl
theorem r_nil : tNil σ H L = L [] H := rfl
theorem r_cons : tCons ta tr σ H L = ta σ H fun x H1 => tr σ H1 fun xs H2 => L (x :: xs) H2 := rfl
theorem r_tup : tTup tr σ H Q = tr σ H fun xs H1 => xs.length ≤ sizeLine ∧ ∀ p, H1 p = none → Q (.ref p) (upd H1 p (.tup xs)) := rfl
theorem r_lst : tLst tr σ H Q = tr σ H fun xs H1 => xs.length ≤ sizeLine ∧ ∀ p, H1 p = none → Q (.ref p) (upd H1 p (.lst xs)) := rfl
theorem r_call {sp : Sp} {dvs : List V} {E : XK} : tCall sp dvs E tr σ H Q = tr σ H fun vs H1 => sp (vs ++ dvs) H1 Q E := rfl
theorem r_cb {p : List V → Hp → VK → Prop} : tCB p tr σ H Q = tr σ H fun vs H1 => p vs H1 Q := rfl
theorem r_I {C : Int → Int → Prop} {f : Int → Int → V} {i j : Int} : rI C f (.int i) (.int j) H Q = (C i j ∧ Q (f i j) H) := rfl
theorem r_I0 {f : Int → Int → V} {i j : Int} : rI0 f (.int i) (.int j) H Q = Q (f i j) H := rfl
theorem r_eqI {i j : Int} : rEq (.int i) (.int j) H Q = Q (.bl (decide (i = j))) H := rfl
theorem r_neI {i j : Int} : rNe (.int i) (.int j) H Q = Q (.bl (!decide (i = j))) H := rfl
theorem r_eqB {i j : Bool} : rEq (.bl i) (.bl j) H Q = Q (.bl (i == j)) H := rfl
theorem r_eqS {i j : Str} : rEq (.str i) (.str j) H Q = Q (.bl (decide (i = j))) H := rfl
theorem r_neS {i j : Str} : rNe (.str i) (.str j) H Q = Q (.bl (!decide (i = j))) H := rfl
theorem r_ixL {p : Addr} {i : Int} : rIxL K (.ref p) (.int i) H Q = ∃ xs, SqL K H p xs ∧ ∃ v, atI xs i = some v ∧ Q v H := rfl
theorem r_ixT {p : Addr} {i : Int} : rIxT K (.ref p) (.int i) H Q = ∃ xs, SqT K H p xs ∧ ∃ v, atI xs i = some v ∧ Q v H := rfl
theorem r_setL {p : Addr} {i : Int} : rSetL (.ref p) (.int i) v H S = ∃ xs, H p = some (.lst xs) ∧ ∃ j, ixN xs.length i = some j ∧ S (upd H p (.lst (xs.set j v))) := by
  unfold rSetL
  exact propext ⟨fun ⟨a, xs, b, j, h1, h2, h3, h4, h⟩ => by cases h1; cases h2; exact ⟨xs, h3, j, h4, h⟩, fun ⟨xs, h3, j, h4, h⟩ => ⟨p, xs, i, j, rfl, rfl, h3, h4, h⟩⟩
theorem r_sl {rs : V → Option Int → Option Int → Hp → VK → Prop} {tl th : TO} : tSl rs te tl th σ H Q = te σ H fun x H1 => tl σ H1 fun l H2 => th σ H2 fun u H3 => rs x l u H3 Q := rfl
theorem r_noP {O : Option Int → Hp → Prop} : tNoPart σ H O = O none H := rfl
theorem r_part {O : Option Int → Hp → Prop} : tPart te σ H O = te σ H fun x H1 => ∃ i, x = .int i ∧ O (some i) H1 := rfl
theorem r_bm {T : String} {rr : V → List V → Hp → VK → Prop} : tBM K T rr te tr σ H Q = te σ H fun x H1 => tyV K T x H1 ∧ tr σ H1 fun xs H2 => rr x xs H2 Q := rfl
def ForR (g : TG) (t : TS) (D : Ends) (σ : St) (J : It) (H1 : Hp) : Prop := ∃ W : Nat → Nat → St → Hp → Prop, (∃ m, W 0 m σ H1) ∧ ∀ i m σ H, W i m σ H →
  (J.stop i H ∧ D.nx σ H) ∨ (J.go i H ∧ ∃ N : St → Hp → Prop, (∀ σ' H', N σ' H' → ∃ m', m' < m ∧ W (i + 1) m' σ' H') ∧ ∀ x H', J.yld i H x H' → g x σ H' fun σ2 H2 => t { D with nx := N, ct := N, bk := D.nx } σ2 H2)
theorem r_for {wi : TI} : tFor wi g t D σ H = wi σ H fun J H1 => ForR g t D σ J H1 := rfl
theorem r_rng1 {R : It → Hp → Prop} : iRng1 tr σ H R = tr σ H fun vs H1 => ∃ j : Int, vs = [.int j] ∧ -(2 ^ 62) ≤ j ∧ j < 2 ^ 62 ∧ R (Itr 0 j.toNat) H1 := rfl
theorem r_iL {R : It → Hp → Prop} : iList K te σ H R = te σ H fun x H1 => ∃ a, x = .ref a ∧ (∃ xs, SqL K H1 a xs) ∧ R (Itl K a) H1 := rfl
theorem r_iT {R : It → Hp → Prop} : iTup K te σ H R = te σ H fun x H1 => ∃ a, x = .ref a ∧ (∃ xs, SqT K H1 a xs) ∧ R (Itt K a) H1 := rfl
theorem rng_of {j : Int} (Pv : Nat → St → Hp → Prop) (h0 : Pv 0 σ H)
    (hs : ∀ (Pv' : Nat → St → Hp → Prop), (∀ i σ H, Pv i σ H → Pv' i σ H) → ∀ i σ H, i < j.toNat → Pv i σ H → g (.int (0 + i)) σ H fun σ2 H2 => t { D with nx := Pv' (i + 1), ct := Pv' (i + 1), bk := D.nx } σ2 H2) (hd : ∀ σ H, Pv j.toNat σ H → D.nx σ H) :
    ForR g t D σ (Itr 0 j.toNat) H := for_range Pv h0 (fun i σ H a b => hs Pv (fun _ _ _ z => z) i σ H a b) hd
theorem lst_of {a : Addr} {xs : List V} (Pv : Nat → St → Hp → Prop) (h0 : Pv 0 σ H) (hl : ∀ i σ H, i ≤ xs.length → Pv i σ H → SqL K H a xs)
    (hs : ∀ (Pv' : Nat → St → Hp → Prop), (∀ i σ H, Pv i σ H → Pv' i σ H) → ∀ i x σ H, xs[i]? = some x → Pv i σ H → g x σ H fun σ2 H2 => t { D with nx := Pv' (i + 1), ct := Pv' (i + 1), bk := D.nx } σ2 H2) (hd : ∀ σ H, Pv xs.length σ H → D.nx σ H) :
    ForR g t D σ (Itl K a) H := for_list Pv h0 hl (fun i x σ H a b => hs Pv (fun _ _ _ z => z) i x σ H a b) hd
end
end L2
namespace L2
open PySem PySem.Spec PyProof.Rows
section
variable {K : PySem.W.Frag} {H : Hp} {t : Addr} {Q : VK} {E : XK} {x y : V} {d e : PyData}
theorem isi_of {T : String} (hd : Dt K t H d x) (h : Q (.bl (isiD d T)) H) (hT : T ∈ isiTs := by decide) : rIsi K [x, .ty T] H Q := ⟨x, T, t, d, rfl, hT, hd, h⟩
theorem eqF_of (h1 : Dt K t H d x) (h2 : Dt K t H e y) (hm : min d.depth e.depth ≤ 100) (h : Q (.bl (PyData.eqv d e)) H) : rEqD K false x y H Q := ⟨t, d, e, h1, h2, hm, h⟩
theorem neD_of (h1 : Dt K t H d x) (h2 : Dt K t H e y) (hm : min d.depth e.depth ≤ 100) (h : Q (.bl (!PyData.eqv d e)) H) : rEqD K true x y H Q := ⟨t, d, e, h1, h2, hm, h⟩
theorem dstr (x : Str) (h : PyData.strOk x = true := by decide +kernel) : Dt K t H (.str x) (.str x) := .str h
theorem depR {d e : PyData} {n : Nat} (h : e.depth = n) (hn : n ≤ 100 := by decide) : min d.depth e.depth ≤ 100 := Nat.le_trans (Nat.min_le_right _ _) (by rw [h]; exact hn)
theorem len_of {p : Addr} {ys : List V} (h : SqL K H p ys) (q : Q (.int ys.length) H) : rLenS K [.ref p] H Q := ⟨p, ys, rfl, .inl h, q⟩
theorem lenT_of {p : Addr} {ys : List V} (h : SqT K H p ys) (q : Q (.int ys.length) H) : rLenS K [.ref p] H Q := ⟨p, ys, rfl, .inr h, q⟩
theorem cat_of {a b : Addr} {xs ys : List V} (h1 : H a = some (.lst xs)) (h2 : H b = some (.lst ys)) (hz : xs.length + ys.length ≤ sizeLine) (q : ∀ p, H p = none → Q (.ref p) (upd H p (.lst (xs ++ ys)))) : rCat (.ref a) (.ref b) H Q :=
  ⟨a, b, xs, ys, rfl, rfl, h1, h2, hz, q⟩
theorem r_min2 {i j : Int} : rMin2 [.int i, .int j] H Q = Q (.int (if j < i then j else i)) H := by
  unfold rMin2
  exact propext ⟨fun ⟨a, b, h1, h⟩ => by cases h1; exact h, fun h => ⟨i, j, rfl, h⟩⟩
theorem r_isNf : rIsNn false x .non H Q = Q (.bl (decide (x = .non))) H := propext ⟨fun h => h.2, fun h => ⟨rfl, h⟩⟩
theorem r_isNt : rIsNn true x .non H Q = Q (.bl (!decide (x = .non))) H := propext ⟨fun h => h.2, fun h => ⟨rfl, h⟩⟩
theorem DtL.get : ∀ {ds : List PyData} {xs : List V} {i : Nat} {d : PyData}, DtL K t H ds xs → ds[i]? = some d → ∃ v, xs[i]? = some v ∧ Dt K t H d v
  | [], _, _, _, _, h => by simp at h
  | a :: r, xs, 0, d, q, h => by
    simp only [DtL] at q
    obtain ⟨v, s, rfl, h1, h2⟩ := q
    simp at h
    subst h
    exact ⟨v, rfl, h1⟩
  | a :: r, xs, i + 1, d, q, h => by
    simp only [DtL] at q
    obtain ⟨v, s, rfl, h1, h2⟩ := q
    obtain ⟨u, e1, e2⟩ := DtL.get (i := i) h2 (by simpa using h)
    exact ⟨u, by simpa using e1, e2⟩
theorem DtL.len {ds : List PyData} {xs : List V} (q : DtL K t H ds xs) : ds.length = xs.length := by
  induction ds generalizing xs with
  | nil => simp only [DtL] at q; subst q; rfl
  | cons a r ih =>
    simp only [DtL] at q
    obtain ⟨v, s, rfl, h1, h2⟩ := q
    simp [ih h2]
theorem menu {ds : List PyData} {xs : List V} {i : Int} (q : DtL K t H ds xs) (h0 : 0 ≤ i) (h1 : i < ds.length) : ∃ v d, atI xs i = some v ∧ ds[i.toNat]? = some d ∧ Dt K t H d v := by
  have hi : i.toNat < ds.length := by omega
  have e : ds[i.toNat]? = some ds[i.toNat] := List.getElem?_eq_getElem hi
  obtain ⟨v, hv, hd⟩ := DtL.get q e
  have z := atI_nat hv
  rw [show ((i.toNat : Nat) : Int) = i by omega] at z
  exact ⟨v, _, z, e, hd⟩
end
end L2
namespace L2
open PySem PySem.Spec PyProof.Rows
@[irreducible] def QA (X : Cx) (es : List Expr) (t : TA) : Prop := PA X es t
@[irreducible] def QS (X : Cx) (ss : List Stmt) (t : TS) : Prop := PSs X ss t
theorem QA.pa {X : Cx} {es : List Expr} {t : TA} (h : QA X es t) : PA X es t := by unfold QA at h; exact h
end L2
namespace L2
open PySem PySem.Spec PyProof.Rows
theorem comp_loop {prog : Program} {w : World} {A : Around} {R : Result → Shared → Prop} {s : Shared} {elt target iter : Expr} {ifs : List Expr} {scope : Scope} {pos : Pos} {it acc : Value} {env : Env} (I : Nat → Shared → Prop)
    (turn : ∀ n s, I n s → wpAny (model prog w) A (pyNext it) (fun r s₁ => match r with
      | none => R (.ok .next) s₁
      | some v => wpAny (model prog w) A (letOwnedTupleGo target it v) (fun _ s₁' => wpAny (model prog w) A (assign target env v) (fun _ s₂ =>
          wpAny (model prog w) A (forIn ifs true fun c r => if r = true then do let ok ← isTrue c env (eval c env); pure (ForInStep.yield ok) else pure (ForInStep.yield r)) (fun ok s₃ =>
            if ok = true then wpAny (model prog w) A (eval elt env) (fun x s₄ =>
              wpAny (model prog w) A (call (.builtin "list.append") [acc, x]) (fun _ s₅ => ∃ m, m < n ∧ I m s₅) (fun _ _ => False) s₄) (fun _ _ => False) s₃
            else ∃ m, m < n ∧ I m s₃) (fun _ _ => False) s₂) (fun _ _ => False) s₁') (fun _ _ => False) s₁) (fun _ _ => False) s)
    (n : Nat) (h : I n s) :
    codeAny (model prog w) A (.compLoop (.ListComp elt [⟨target, iter, ifs, 0⟩] scope pos) 0 it acc env) R s := by
  refine codeAny_loop rfl I (fun n s hI => ?_) n h
  show wpAny _ A ((compTurn (.ListComp elt [⟨target, iter, ifs, 0⟩] scope pos) 0 it acc env).onRaise (fun x => do noteFrame x env; theTreesLotGoes x)) _ _ s
  refine wpAny_noted ?_
  rw [compTurn_list]
  have nf : ∀ {α : Type} {t : Sem α} {Q : α → Shared → Prop} {E : Value → Shared → Prop} {s : Shared}, wpAny (model prog w) A t Q (fun _ _ => False) s → wpAny (model prog w) A t Q E s := fun h => wpAny_mono h (fun _ _ q => q) fun _ _ f => f.elim
  refine wpAny_bind (wpAny_standAt (wpAny_bind (wpAny_mono (turn n s hI) (fun r s₁ h₁ => ?_) fun _ _ h' => h'.elim)))
  cases r with
  | none => exact wpAny_pure h₁
  | some v =>
    refine wpAny_bind (wpAny_mono h₁ (fun _ s₁' h₁' => ?_) fun _ _ h' => h'.elim)
    refine wpAny_bind (wpAny_mono h₁' (fun _ s₂ h₂ => wpAny_bind (wpAny_mono h₂ (fun ok s₃ h₃ => ?_) fun _ _ h' => h'.elim)) fun _ _ h' => h'.elim)
    cases ok with
    | false => exact wpAny_pure ⟨rfl, h₃⟩
    | true =>
      exact wpAny_bind (wpAny_bind (wpAny_mono h₃ (fun x s₄ h₄ => wpAny_bind (wpAny_mono h₄ (fun _ s₅ h₅ => wpAny_pure (wpAny_pure ⟨rfl, h₅⟩)) fun _ _ h' => h'.elim)) fun _ _ h' => h'.elim))
def compCx (X : Cx) (N : List Str) (x : Str) (scope : Scope) (cl : List (Str × Addr)) (C : Addr) (s : Shared) (H : Hp) (fp : List Addr) : Cx :=
  { X with N := N, s₀ := s, H₀ := H, env := compEnvC scope cl C X.env, outer := X.stack, ex := fp, fn := fun y => decide (y = x), pn := [], xe := fun _ _ => False }
set_option genInjectivity false in
set_option genSizeOf false in
structure CompScope (X : Cx) (N : List Str) (x : Str) (scope : Scope) (cl : List (Str × Addr)) : Prop where
  clos : closureFor scope X.env = pure cl
  nocell : ∀ y ∈ scope.names, y.2 ≠ .cell
  kind : scope.kind = .function
  names : ∀ y ∈ scope.names, y.2 = .local → scope.names.lookup y.1 = some .local
  loc : scope.names.lookup x = some .local
  nd : N.Nodup
  hd : N[0]? = some x
  len : N.length = X.N.length + 1
  tl : ∀ j y, N[j + 1]? = some y → Vis (relabel scope X.env) y → X.N[j]? = some y ∧ X.env.kindOf y = some .cell ∧ Vis X.env.scope y ∧ ((relabel scope X.env).names.lookup y = some .cell ∨ (relabel scope X.env).names.lookup y = some .free) ∧ cl.lookup y = X.env.cells.lookup y
  sub : ∀ y c, cl.lookup y = some c → X.env.cells.lookup y = some c
  has : ∀ y, ((relabel scope X.env).names.lookup y = some .cell ∨ (relabel scope X.env).names.lookup y = some .free) → ∃ c, cl.lookup y = some c
  nox : cl.lookup x = none
def PTs (X : Cx) (ifs : List Expr) (t : TT) : Prop :=
  ∀ (pins : List (Addr × Obj)) (s : Shared) (σ : St) (H : Hp) (Q : Bool → Hp → Prop), Inv X pins σ H s → t σ H Q →
    wpAny (model X.prog X.w) X.A (forIn ifs true fun c r => if r = true then do let ok ← isTrue c X.env (eval c X.env); pure (ForInStep.yield ok) else pure (ForInStep.yield r)) (TP X pins σ Q) X.xe s
def tTrue : TT := fun _ H Q => Q true H
theorem pts_nil {X : Cx} : PTs X [] tTrue := fun _ _ _ H _ I h => wpAny_tests_nil ⟨H, I, h⟩
def tComp (wi : TI) (tt : TT) (te : TE) : TE := fun σ H Q => wi σ H fun J H1 => ∀ D, H1 D = none → ∃ W : Nat → Nat → Hp → Prop, (∃ m, W 0 m (upd H1 D (.lst []))) ∧ ∀ i m H, W i m H →
  (J.stop i H ∧ Q (.ref D) H) ∨ (J.go i H ∧ ∀ x H', J.yld i H x H' → tt (some x :: σ) H' fun b H2 =>
    if b = true then te (some x :: σ) H2 fun y H3 => ∃ ys, H3 D = some (.lst ys) ∧ ys.length < sizeLine ∧ ∃ m', m' < m ∧ W (i + 1) m' (upd H3 D (.lst (ys ++ [y])))
    else ∃ m', m' < m ∧ W (i + 1) m' H2)
section
variable {X : Cx} {pins : List (Addr × Obj)} {σ : St} {H : Hp} {s : Shared} {N : List Str} {x : Str} {scope : Scope} {cl : List (Str × Addr)} {fp : List Addr} {it : Addr} {tn : Nat → Heap → Prop} {J : It} {px : Pos}
theorem compOk (S : CompScope X N x scope cl) (I : Inv X pins σ H s) (hf : ∀ b ∈ fp, FpOk X pins H b) (hb : ∀ b ∈ fp, b < s.heap.objs.size) : (compCx X N x scope cl s.heap.objs.size s H fp).Ok where
  mod := I.ok.mod
  kind := S.kind
  glob := I.ok.glob
  blt := I.ok.blt
  above := Nat.le_refl _
  inj := fun y z c h1 h2 => I.ok.inj y z c (S.sub y c h1) (S.sub z c h2)
  has := fun y hy => S.has y hy
  cab := fun y c h1 h2 => by
    have e : y = x := of_decide_eq_true h1
    subst e
    have q : cl.lookup y = some c := h2
    rw [S.nox] at q; cases q
  hd := I.ok.hd
  frames := I.ok.frames
  stk := .inl rfl
  exf := fun b hb' => ⟨Nat.ne_of_lt (hb b hb'), fun y c h => (hf b hb').2.2.2.2.1 y c (S.sub y c h)⟩
  bs := I.bs
  bsz := Nat.le_trans I.ok.bsz I.sz
  noex := fun b o e hb' => by
    rcases (hf b hb').2.2.2.1 with z | z
    · exact I.ok.noex b o e z
    · exact absurd (Nat.lt_of_lt_of_le (Heap.lt_size e) (Nat.le_trans I.ok.bsz z)) (Nat.lt_irrefl _)
  exfs := fun b hb' hs => by
    rcases List.mem_cons.mp (I.stkSub b hs) with z | z
    · exact (hf b hb').2.1 z
    · exact (hf b hb').2.2.1 z
  funs := I.stack
  frf := I.stkFree
theorem compInv (S : CompScope X N x scope cl) (I : Inv X pins σ H s) (hf : ∀ b ∈ fp, FpOk X pins H b) (hb : ∀ b ∈ fp, b < s.heap.objs.size) {h' : Heap} {m : Str → Option Value} {tk : Nat} (hn : h'.Ns s.heap.objs.size m)
    (k : ∀ b u, s.heap.get? b = some u → h'.get? b = some u) : Inv (compCx X N x scope cl s.heap.objs.size s H fp) [] (none :: σ) H { s with heap := h', toks := tk } where
  ok := compOk S I hf hb
  os := rfl
  bare := I.bare
  base := Un.kept k
  loc := ⟨m, hn, fun i y v e1 e2 e3 => by
    cases i with
    | zero => simp at e2
    | succ j =>
      obtain ⟨a1, a2, a3, a4, a5⟩ := S.tl j y e1 e3
      obtain ⟨m0, hn0, hl0⟩ := I.loc
      obtain ⟨u, r, l⟩ := hl0 j y v a1 (by simpa using e2) a3
      rcases l with ⟨hk, _⟩ | ⟨_, c, hc, ⟨o, ho, hd⟩⟩
      · rw [a2] at hk; cases hk
      · exact ⟨u, r, .inr ⟨a4, c, a5.trans hc, o, k _ _ ho, hd⟩⟩⟩
  cell := fun y c e => by
    obtain ⟨v, o, ho, hd⟩ := I.cell y c (S.sub y c e)
    exact ⟨v, o, k _ _ ho, hd⟩
  free := I.hok.fresh (Nat.le_refl _)
  freeC := fun y c e => I.freeC y c (S.sub y c e)
  pin := fun p hp => absurd (show p ∈ ([] : List (Addr × Obj)) from hp) (by simp)
  hok := I.hok.kept k
  len := by
    show (none :: σ).length = N.length
    rw [S.len, ← I.len, List.length_cons]
theorem comp_block {elt iter : Expr} {ifs : List Expr} {pos : Pos} {te : TE} {tt : TT} {Q : V → Hp → Prop} {RR : Value → Addr → Result → Shared → Prop} {E : Value → Shared → Prop} (hc : X.calm = true) (S : CompScope X N x scope cl) (T : Turn X.prog X.w X.K (.Name x px) J fp it tn)
    (hts : ∀ C s H fp, PTs (compCx X N x scope cl C s H fp) ifs tt) (helt : ∀ C s H fp, PE (compCx X N x scope cl C s H fp) elt te)
    (I : Inv X pins σ H s) (t0 : tn 0 s.heap) (hf : ∀ b ∈ fp, FpOk X pins H b)
    (hq : ∀ D, H D = none → ∃ W : Nat → Nat → Hp → Prop, (∃ m, W 0 m (upd H D (.lst []))) ∧ ∀ i m H, W i m H →
      (J.stop i H ∧ Q (.ref D) H) ∨ (J.go i H ∧ ∀ x H', J.yld i H x H' → tt (some x :: σ) H' fun b H2 =>
        if b = true then te (some x :: σ) H2 fun y H3 => ∃ ys, H3 D = some (.lst ys) ∧ ys.length < sizeLine ∧ ∃ m', m' < m ∧ W (i + 1) m' (upd H3 D (.lst (ys ++ [y])))
        else ∃ m', m' < m ∧ W (i + 1) m' H2))
    (hRR : ∀ D C H' s', Inv X pins σ H' s' → Q (.ref D) H' → (∃ m, s'.heap.Ns C m) → H' C = none → C ≠ X.env.locals → X.s₀.heap.objs.size ≤ C → (∀ y c, X.env.cells.lookup y = some c → c ≠ C) → (∀ p ∈ X.pn ++ pins, p.1 ≠ C) → RR (.ref D) C (.ok .next) s') :
    wpAny (model X.prog X.w) X.A (newList []) (fun acc s₃ => wpAny (model X.prog X.w) X.A (newFunctionEnv scope X.env.globals cl [] X.env.qual none .none (some X.env)) (fun cenv s₄ =>
      codeAny (model X.prog X.w) X.A (.compStart (.ListComp elt [⟨.Name x px, iter, ifs, 0⟩] scope pos) 0 (.ref it) acc { cenv with scope := relabel scope X.env }) (RR acc cenv.locals) s₄) E s₃) E s := by
  have hD : H s.heap.objs.size = none := I.hok.fresh (Nat.le_refl _)
  obtain ⟨W, ⟨m0, w0⟩, turn⟩ := hq _ hD
  refine wpAny_newObj_type (wpAny_newFunctionEnv S.nocell (by intro y hy; simp at hy) (fun h₁ hns₁ hsb₁ => ?_) S.kind)
  dsimp only at hns₁ hsb₁ ⊢
  have I3 : Inv X pins σ (upd H s.heap.objs.size (.lst [])) { s with heap := s.heap.push { cls := .type "list", data := .seq ([] : List Value).toArray }, toks := s.toks } := I.lnew .nil (Nat.zero_le _)
  have fpLt : ∀ b ∈ fp, b < s.heap.objs.size := fun b hb => by
    obtain ⟨o, ho, _⟩ := T.obj _ _ t0 b hb
    exact Heap.lt_size ho
  have hf3 : ∀ b ∈ fp, FpOk X pins (upd H s.heap.objs.size (.lst [])) b := fun b hb => by
    refine ⟨?_, (hf b hb).2⟩
    rw [upd_ne (Nat.ne_of_lt (fpLt b hb))]
    exact (hf b hb).1
  generalize hH2 : s.heap.push { cls := .type "list", dict := none, data := .seq ([] : List Value).toArray } = G at hns₁ hsb₁ I3 ⊢
  have hG : G.objs.size = s.heap.objs.size + 1 := by rw [← hH2, Heap.size_push]
  have kG : ∀ b o, G.get? b = some o → h₁.get? b = some o := fun b o e => hsb₁.extBut b o (Nat.ne_of_lt (Heap.lt_size e)) (Heap.get?_push_of_some _ e)
  have ks : ∀ b o, s.heap.get? b = some o → h₁.get? b = some o := fun b o e => kG b o (hH2 ▸ Heap.get?_push_of_some _ e)
  have fpLt3 : ∀ b ∈ fp, b < G.objs.size := fun b hb => by rw [hG]; exact Nat.lt_succ_of_lt (fpLt b hb)
  have t1 : tn 0 h₁ := T.keep _ _ _ t0 fun b _ o e => ks b o e
  have I4 := compInv (tk := s.toks + ([] : List (Str × Value)).length) S I3 hf3 fpLt3 hns₁ kG
  generalize hX' : compCx X N x scope cl G.objs.size { s with heap := G, toks := s.toks } (upd H s.heap.objs.size (.lst [])) fp = X' at I4
  have e1 : X'.prog = X.prog := by rw [← hX']; rfl
  have e2 : X'.w = X.w := by rw [← hX']; rfl
  have e3 : X'.A = X.A := by rw [← hX']; rfl
  have e4 : X'.env = compEnvC scope cl G.objs.size X.env := by rw [← hX']; rfl
  have e5 : X'.calm = true := by rw [← hX']; exact hc
  have e6 : X'.xe = fun _ _ => False := by rw [← hX']; rfl
  have e7 : X'.K = X.K := by rw [← hX']; rfl
  have helt' : PE X' elt te := hX' ▸ helt _ _ _ _
  have hts' : PTs X' ifs tt := hX' ▸ hts _ _ _ _
  have hfp : ∀ {H' : Hp}, (∀ b ∈ fp, H' b = none) → ∀ b ∈ fp, FpOk X' [] H' b := fun {H'} hn b hb => by
    obtain ⟨f0, f1, f2, f3, f4, f5⟩ := hf3 b hb
    refine ⟨hn b hb, ?_, ?_, ?_, ?_, ?_⟩
    · rw [e4]; exact Nat.ne_of_lt (fpLt3 b hb)
    · subst hX'
      intro z
      rcases List.mem_cons.mp (I3.stkSub b z) with q | q
      · exact f1 q
      · exact f2 q
    · subst hX'; exact .inl hb
    · rw [e4]; exact fun y c q => f4 y c (S.sub y c q)
    · subst hX'
      intro p hp
      exact absurd (show p ∈ ([] : List (Addr × Obj)) from hp) (by simp)
  have nd' : X'.N.Nodup := by subst hX'; exact S.nd
  have hi' : X'.N[0]? = some x := by subst hX'; exact S.hd
  have hx' : X'.env.scope.names.lookup x = some .local := by rw [e4]; exact lookup_relabel_local S.loc
  have loop : ∀ s₅ : Shared, s₅ = { s with heap := h₁, toks := s.toks + ([] : List (Str × Value)).length } →
      codeAny (model X.prog X.w) X.A (.compLoop (.ListComp elt [⟨.Name x px, iter, ifs, 0⟩] scope pos) 0 (.ref it) (.ref s.heap.objs.size) (compEnvC scope cl G.objs.size X.env)) (RR (.ref s.heap.objs.size) G.objs.size) s₅ := by
    rintro s₅ rfl
    refine comp_loop (fun n s' => ∃ i v0 H', Inv X' [] (v0 :: σ) H' s' ∧ tn i s'.heap ∧ (∀ b ∈ fp, H' b = none) ∧ W i n H') ?_ m0 ⟨0, none, _, I4, t1, fun b hb => (hf3 b hb).1, w0⟩
    rintro n s6 ⟨i, v0, H6, I6, st6, fr6, w6⟩
    rcases turn i n H6 w6 with ⟨stop, qn⟩ | ⟨go, step⟩
    · have dn := T.done X' e1 e2 e7 e5 i [] s6 (v0 :: σ) H6 (fun _ _ => False) I6 (hfp fr6) st6 stop
      rw [e3] at dn
      refine thn dn fun r s7 ⟨hr, I7⟩ => ?_
      subst hr
      have u7 := I7.base
      have J7 : Inv X pins σ H6 s7 := by
        refine I3.call' (ch := fp) ?_ (by subst hX'; exact u7) (by subst hX'; exact I7.hok) I7.bare fun b hb => ?_
        · have := I7.os; subst hX'; exact this
        · obtain ⟨_, f1, _, f3, f4, f5⟩ := hf3 b hb
          exact ⟨f3, f1, f4, f5⟩
      refine hRR _ _ H6 s7 J7 qn ?_ ?_ ?_ ?_ ?_ ?_
      · obtain ⟨m, hm, _⟩ := I7.loc
        rw [e4] at hm
        exact ⟨m, hm⟩
      · have := I7.free
        rw [e4] at this
        exact this
      · exact Nat.ne_of_gt I3.lt
      · exact I3.sz
      · intro y c q
        obtain ⟨v, hv⟩ := I3.cell y c q
        exact Nat.ne_of_lt hv.lt
      · intro p hp
        exact Nat.ne_of_lt (Heap.lt_size (I3.pin p hp).1)
    · have itm := T.item X' e1 e2 e7 e5 i [] s6 (v0 :: σ) H6 (fun _ _ => False) I6 (hfp fr6) st6 go
      rw [e3] at itm
      refine thn itm fun r s7 ⟨u, hr, h7⟩ => ?_
      subst hr
      refine thn h7 fun _ s8 ⟨xv, H8, I8, r8, y8, st8, fr8⟩ => ?_
      have I8' := I8.pinned (hfp fr8) (T.obj _ _ st8)
      have sto : wpAny (model X.prog X.w) X.A (assign (.Name x px) X'.env u) (fun _ s9 => Inv X' ([] ++ pinsAt fp s8.heap) ((v0 :: σ).set 0 (some xv)) H8 s9) (fun _ _ => False) s8 :=
        wpAny_assign_Name (store_ok I8' nd' hi' (.inl hx') r8 (fun s9 I9 => I9) (.inr hx'))
      rw [e4] at sto
      refine thn sto fun _ s9 I9 => ?_
      have I9' : Inv X' ([] ++ pinsAt fp s8.heap) (some xv :: σ) H8 s9 := I9
      have tst := hts' _ s9 (some xv :: σ) H8 _ I9' (step xv H8 y8)
      rw [e1, e2, e3, e4, e6] at tst
      refine thn tst fun ok s10 ⟨H10, I10, q10⟩ => ?_
      have again : ∀ {s11 : Shared} {H11 : Hp}, Inv X' ([] ++ pinsAt fp s8.heap) (some xv :: σ) H11 s11 → (∃ m', m' < n ∧ W (i + 1) m' H11) → ∃ m, m < n ∧ ∃ i v0 H', Inv X' [] (v0 :: σ) H' s11 ∧ tn i s11.heap ∧ (∀ b ∈ fp, H' b = none) ∧ W i m H' := fun {s11 H11} J ⟨m', hm, w11⟩ => by
        have pp : ∀ b ∈ fp, ∀ o, s8.heap.get? b = some o → s11.heap.get? b = some o ∧ H11 b = none := fun b hb o e => by
          have := J.pin (b, o) (List.mem_append_right _ (List.mem_append_right _ (mem_pinsAt hb e)))
          exact ⟨this.1, this.2.1⟩
        refine ⟨m', hm, i + 1, some xv, H11, J.unpinned, T.keep _ _ _ st8 fun b hb o e => (pp b hb o e).1, fun b hb => ?_, w11⟩
        obtain ⟨o, e, d⟩ := T.obj _ _ st8 b hb
        exact (pp b hb o e).2
      cases ok with
      | false =>
        rw [if_neg Bool.false_ne_true] at q10 ⊢
        exact again I10 q10
      | true =>
        rw [if_pos rfl] at q10 ⊢
        have ev := helt' _ s10 (some xv :: σ) H10 _ I10 q10
        rw [e1, e2, e3, e4, e6] at ev
        refine thn ev fun y s11 ⟨yv, H11, I11, r11, ys, hys, hz, q11⟩ => ?_
        have ap := mt_append (X := X') _ s11 (some xv :: σ) H11 (.ref s.heap.objs.size) [yv] (.ref s.heap.objs.size) [y] (fun _ H' => ∃ m', m' < n ∧ W (i + 1) m' H') I11 rfl (.cons r11 .nil) ⟨_, ys, yv, rfl, rfl, hys, hz, q11⟩
        rw [e1, e2, e3, e6] at ap
        exact thn ap fun _ s12 ⟨_, H12, I12, _, q12⟩ => again I12 q12
  exact codeAny_compStart_list (loop _ rfl) (T.self _ 0 _ _ _ t1 (loop _ rfl))
theorem sameBut_keeps {C : Addr} {h h' : Heap} (hs : Heap.SameBut C h h') : ∀ b o, b ≠ C → h.get? b = some o → h'.get? b = some o := fun b o n e => hs.extBut b o n e
theorem pe_comp {elt iter : Expr} {ifs : List Expr} {pos : Pos} {wi : TI} {te : TE} {tt : TT} (hc : X.calm = true) (S : CompScope X N x scope cl) (hi : PI X (.Name x px) iter wi)
    (hts : ∀ C s H fp, PTs (compCx X N x scope cl C s H fp) ifs tt) (helt : ∀ C s H fp, PE (compCx X N x scope cl C s H fp) elt te) (hs : ∀ v, foldedSetIterable iter X.env v = pure v := by intro _; rfl) :
    PE X (.ListComp elt [⟨.Name x px, iter, ifs, 0⟩] scope pos) (tComp wi tt te) := by
  intro pins s σ H Q I h
  rw [eval_ListComp]
  refine wpAny_comprehension_free (use := none) rfl hs S.clos S.kind S.names (thn (hi pins s σ H _ I h) fun v s1 h1 => thn h1 fun itv s2 h2 => ?_)
  obtain ⟨it, fp, tn, J, H2, rfl, I2, T, st2, f2, hq⟩ := h2
  refine comp_block (RR := fun acc C => compPost (model X.prog X.w) X.A X.xe none (EP X pins σ Q) acc C) hc S T hts helt I2 st2 f2 hq fun D C H' s' I' q ⟨m, hm⟩ h1 h2 h3 h4 h5 => ?_
  exact ⟨m, hm, fun h' sb => ⟨.ref D, H', I'.turned (it := C) (t' := s'.toks) (sameBut_keeps sb) h1 h2.symm.symm (.inr h3) h4 h5, rfl, q⟩⟩
theorem ps_setComp {elt iter : Expr} {ifs : List Expr} {pos spos py : Pos} {wi : TI} {te : TE} {tt : TT} {i : Nat} {y : Str} (hc : X.calm = true) (hN : X.N.Nodup) (hi' : X.N[i]? = some y) (hy : Loc X.env.scope y) (S : CompScope X N x scope cl) (hi : PI X (.Name x px) iter wi)
    (hts : ∀ C s H fp, PTs (compCx X N x scope cl C s H fp) ifs tt) (helt : ∀ C s H fp, PE (compCx X N x scope cl C s H fp) elt te)
    (hsw : swapsWith (.ListComp elt [⟨.Name x px, iter, ifs, 0⟩] scope pos) (some (.Name y py)) spos.line X.env = pure true := by rfl) (hs : ∀ v, foldedSetIterable iter X.env v = pure v := by intro _; rfl)
    (hfn : X.fn y = true ∨ X.env.scope.names.lookup y = some .local := by first | exact .inl rfl | exact .inr rfl | assumption) :
    PS X (.Assign [.Name y py] (.ListComp elt [⟨.Name x px, iter, ifs, 0⟩] scope pos) spos) (tAsg (tComp wi tt te) (gName i)) := by
  intro pins s σ H D' I h
  rw [exec_Assign_Name_used _ _ _ _ hsw]
  refine wpAny_bind (wpAny_standAt (wpAny_bind ?_))
  show wpAny _ X.A (do let _ ← comprehension (.ListComp elt [⟨.Name x px, iter, ifs, 0⟩] scope pos) scope X.env _ (newList []) false (eval iter X.env) (some (assign (.Name y py) X.env))) _ _ s
  refine wpAny_bind (wpAny_mono (wpAny_comprehension_free (use := some (assign (.Name y py) X.env)) (Q := fun _ s' => SP X pins D' .next s') rfl hs S.clos S.kind S.names (thn (hi pins s σ H _ I h) fun v s1 h1 => thn h1 fun itv s2 h2 => ?_))
    (fun _ s' hq => wpAny_pure (wpAny_pure hq)) fun _ _ e => e)
  obtain ⟨it, fp, tn, J, H2, rfl, I2, T, st2, f2, hq⟩ := h2
  refine comp_block (Q := fun x H1 => gName i x σ H1 D'.nx) (RR := fun acc C => compPost (model X.prog X.w) X.A X.xe (some (assign (.Name y py) X.env)) (fun _ s' => SP X pins D' .next s') acc C) hc S T hts helt I2 st2 f2 hq fun D C H' s' I' q ⟨m, hm⟩ h1 h2 h3 h4 h5 => ?_
  refine wpAny_assign_Name (store_ok2 I' hN hi' hy (v := .ref D) rfl (fun s'' I'' ⟨a, sa, ha⟩ => ?_) hfn)
  have nC : C ≠ a := by
    rcases ha with z | z
    · rw [z]; exact h2
    · exact (h4 _ _ z).symm
  refine ⟨m, hm.sameBut sa nC, fun h' sb => ⟨_, H', I''.turned (it := C) (t' := s''.toks) (sameBut_keeps sb) h1 h2 (.inr h3) h4 h5, q⟩⟩
end
end L2
namespace M
open PySem
set_option genInjectivity false in
set_option genSizeOf false in
inductive Rl where
  | pt
  | un (to lead : Int) (cap : Option Int) (inner : Rl)
  | ul (to lead cap : Int) (inner last : Rl)
def capD : Option Int → PyData
  | none => .none
  | some c => .int c
abbrev pointD : PyData := .tuple [.str "point"]
abbrev unitD (to lead cap inner last : PyData) : PyData := .tuple [.str "unit", to, lead, cap, inner, last]
def enc : Rl → PyData
  | .pt => pointD
  | .un to lead cap i => unitD (.int to) (.int lead) (capD cap) (enc i) .none
  | .ul to lead cap i l => unitD (.int to) (.int lead) (.int cap) (enc i) (enc l)
def Bd (least i : Int) : Prop := least ≤ i ∧ i ≤ 99
def capOk (to : Int) : Option Int → Prop
  | none => True
  | some c => Bd to c
def ok : Rl → Prop
  | .pt => True
  | .un to lead cap i => Bd 1 to ∧ Bd 1 lead ∧ capOk to cap ∧ ok i
  | .ul to lead cap i l => Bd 1 to ∧ Bd 1 lead ∧ Bd to cap ∧ ok i ∧ ok l
def size : Rl → Nat
  | .pt => 0
  | .un _ _ _ i => 1 + size i
  | .ul _ _ _ i l => 1 + size i + size l
def depth : Rl → Nat
  | .pt => 0
  | .un _ _ _ i => depth i + 1
  | .ul _ _ _ i l => max (depth i) (depth l) + 1
def bnd (d : PyData) (least : Int) : Bool := match d with
  | .int i => decide (least ≤ i) && decide (i ≤ 99)
  | _ => false
def isN : PyData → Bool
  | .none => true
  | _ => false
def intOf : PyData → Int
  | .int i => i
  | _ => 0
def form (d : PyData) : Bool := match d with
  | .tuple [wd, to, lead, cap, _, last] =>
    PyData.eqv wd (.str "unit") && (bnd to 1 && (bnd lead 1 && (if isN cap then isN last else bnd cap (intOf to))))
  | _ => false
def unitsOf : Nat → PyData → Option Nat
  | room, d => if PyData.eqv d pointD then some 0 else match room with
    | 0 => none
    | r + 1 => if form d then (match d with
        | .tuple [_, _, _, _, i, l] => match unitsOf r i, (if isN l then some 0 else unitsOf r l) with
          | some a, some b => some (1 + a + b)
          | _, _ => none
        | _ => none) else none
def isRule (d : PyData) : Bool := match unitsOf 4 d with
  | some n => decide (n ≤ 10)
  | none => false
theorem eqv_pt : PyData.eqv pointD pointD = true := by rfl
theorem eqv_unit (a b c d e : PyData) : PyData.eqv (unitD a b c d e) pointD = false := by rfl
theorem isN_enc (r : Rl) : isN (enc r) = false := by cases r <;> rfl
theorem eqv_unitw : PyData.eqv (.str "unit") (.str "unit") = true := by rfl
theorem units_enc : ∀ (r : Rl) (room : Nat), ok r → unitsOf room (enc r) = if depth r ≤ room then some (size r) else none
  | .pt, room, _ => by
    unfold unitsOf
    simp [enc, depth, size, eqv_pt]
  | .un to lead cap i, 0, _ => by
    unfold unitsOf
    simp [enc, depth, eqv_unit]
  | .ul to lead cap i l, 0, _ => by
    unfold unitsOf
    simp [enc, depth, eqv_unit]
  | .un to lead cap i, room + 1, h => by
    obtain ⟨⟨h1, h2⟩, ⟨h3, h4⟩, h5, h6⟩ := h
    have ih := units_enc i room h6
    have f : form (enc (.un to lead cap i)) = true := by
      cases cap with
      | none => simp [form, enc, eqv_unitw, bnd, isN, capD, h1, h2, h3, h4]
      | some c => simp [form, enc, eqv_unitw, bnd, isN, capD, intOf, h1, h2, h3, h4, h5.1, h5.2]
    unfold unitsOf
    rw [f]
    simp only [enc, eqv_unit, Bool.false_eq_true, if_false, if_true, ih, isN, depth, size, Nat.add_le_add_iff_right]
    by_cases c : depth i ≤ room
    · simp [c]
    · simp [c]
  | .ul to lead cap i l, room + 1, h => by
    obtain ⟨⟨h1, h2⟩, ⟨h3, h4⟩, h5, h6, h7⟩ := h
    have ih := units_enc i room h6
    have jh := units_enc l room h7
    have f : form (enc (.ul to lead cap i l)) = true := by
      simp [form, enc, eqv_unitw, bnd, isN, capD, intOf, h1, h2, h3, h4, h5.1, h5.2]
    unfold unitsOf
    rw [f]
    simp only [enc, eqv_unit, Bool.false_eq_true, if_false, if_true, ih, jh, isN_enc, depth, size, Nat.add_le_add_iff_right, Nat.max_le]
    by_cases c : depth i ≤ room
    · by_cases c2 : depth l ≤ room
      · simp [c, c2]
      · simp [c, c2]
    · simp [c]
def U : Nat → Nat → Nat
  | 0, _ => 0
  | d + 1, th => 1 + U d th + (if d ≤ th then U d th else 2 ^ th - 1)
theorem U_full : ∀ {d th : Nat}, d ≤ th → U d th = 2 ^ d - 1
  | 0, _, _ => rfl
  | d + 1, th, h => by
    have e := U_full (d := d) (th := th) (by omega)
    unfold U
    rw [if_pos (by omega), e]
    have : 2 ^ (d + 1) = 2 * 2 ^ d := by rw [Nat.pow_succ, Nat.mul_comm]
    have p : 0 < 2 ^ d := Nat.pos_of_ne_zero (by simp)
    omega
theorem U_min (d th : Nat) : U (min d th) th = (if d ≤ th then U d th else 2 ^ th - 1) := by
  by_cases h : d ≤ th
  · rw [if_pos h, Nat.min_eq_left h]
  · rw [if_neg h, Nat.min_eq_right (by omega), U_full (Nat.le_refl _)]
theorem U_succ (d th : Nat) : U (d + 1) th = 1 + U d th + U (min d th) th := by rw [U_min]; rfl
end M
namespace M
open PySem
def inn : Rl → Option Rl
  | .pt => none
  | .un _ _ _ i => some i
  | .ul _ _ _ i _ => some i
def lst : Rl → Option Rl
  | .ul _ _ _ _ l => some l
  | _ => none
end M
namespace M
open PySem
end M
namespace M
open PySem
end M
namespace M
open PySem
end M
namespace M
open PySem
end M
namespace M
open PySem
end M
namespace M
set_option genInjectivity false in
set_option genSizeOf false in
inductive Sd where
  | nil
  | cn (z o : Int) (w : Sd)
deriving DecidableEq
def toR : Rl → Int
  | .pt => 1
  | .un t _ _ _ => t
  | .ul t _ _ _ _ => t
def leadR : Rl → Int
  | .pt => 1
  | .un _ t _ _ => t
  | .ul _ t _ _ _ => t
def capR : Rl → Option Int
  | .pt => none
  | .un _ _ c _ => c
  | .ul _ _ c _ _ => some c
def innR : Rl → Rl
  | .pt => .pt
  | .un _ _ _ i => i
  | .ul _ _ _ i _ => i
def lastR : Rl → Option Rl
  | .pt => none
  | .un _ _ _ _ => none
  | .ul _ _ _ _ l => some l
def atCap (c : Option Int) (z o : Int) : Bool := decide (c = some (z + 1)) && decide (c = some (o + 1))
def now (r : Rl) (z o : Int) : Rl := match lastR r with
  | none => innR r
  | some l => if atCap (capR r) z o then l else innR r
def won (r : Rl) (z o : Int) : Bool := decide (capR r = some (max z o)) || (decide (toR r ≤ max z o) && (decide (leadR r ≤ z - o) || decide (leadR r ≤ o - z)))
def begn : Rl → Sd
  | .pt => .nil
  | .un _ _ _ i => .cn 0 0 (begn i)
  | .ul _ _ c i l => .cn 0 0 (if atCap (some c) 0 0 then begn l else begn i)
def bumpZ (z : Int) (b : Bool) : Int := if b then z else z + 1
def bumpO (o : Int) (b : Bool) : Int := if b then o + 1 else o
def stepU (r : Rl) (z o : Int) (res : Sd × Bool) (b : Bool) : Sd × Bool :=
  if res.2 then (if won r (bumpZ z b) (bumpO o b) then (.cn (bumpZ z b) (bumpO o b) .nil, true) else (.cn (bumpZ z b) (bumpO o b) (begn (now r (bumpZ z b) (bumpO o b))), false)) else (.cn z o res.1, false)
def ral : Rl → Sd → Bool → Sd × Bool
  | .pt, _, _ => (.nil, true)
  | .un to lead cap i, .cn z o w, b => stepU (.un to lead cap i) z o (ral i w b) b
  | .ul to lead c i l, .cn z o w, b => stepU (.ul to lead c i l) z o (if atCap (some c) z o then ral l w b else ral i w b) b
  | _, .nil, _ => (.nil, false)
def stk : Rl → Sd → Bool → Nat
  | _, .nil, _ => 0
  | r, .cn z o w, b => stk (now r z o) w b + (if (ral r (.cn z o w) b).2 then 1 else 0)
theorem now_un {a b c i z o} : now (.un a b c i) z o = i := rfl
theorem now_ul {a b c i l z o} : now (.ul a b c i l) z o = if atCap (some c) z o then l else i := rfl
theorem begn_unit {r : Rl} (h : r ≠ .pt) : begn r = .cn 0 0 (begn (now r 0 0)) := by
  cases r with
  | pt => exact absurd rfl h
  | un a b c i => rfl
  | ul a b c i l => simp only [begn, now_ul]; split <;> rfl
theorem depth_now {r : Rl} (h : r ≠ .pt) (z o : Int) : depth (now r z o) < depth r := by
  cases r with
  | pt => exact absurd rfl h
  | un a b c i => simp only [now_un, depth]; omega
  | ul a b c i l =>
    simp only [now_ul, depth]
    split <;> omega
theorem ok_now {r : Rl} (h : ok r) (z o : Int) : ok (now r z o) := by
  cases r with
  | pt => exact h
  | un a b c i => exact h.2.2.2
  | ul a b c i l =>
    rw [now_ul]
    split
    · exact h.2.2.2.2
    · exact h.2.2.2.1
theorem ok_unit {r : Rl} (h : ok r) (hn : r ≠ .pt) : Bd 1 (toR r) ∧ Bd 1 (leadR r) ∧ capOk (toR r) (capR r) ∧ ok (innR r) ∧ (∀ l, lastR r = some l → ok l) ∧ (capR r = none → lastR r = none) := by
  cases r with
  | pt => exact absurd rfl hn
  | un a b c i => exact ⟨h.1, h.2.1, h.2.2.1, h.2.2.2, fun l e => (by cases e), fun _ => rfl⟩
  | ul a b c i l => exact ⟨h.1, h.2.1, h.2.2.1, h.2.2.2.1, fun l e => (by cases e; exact h.2.2.2.2), fun e => (by cases e)⟩
def NotWon (r : Rl) (z o : Int) : Prop := (∀ c, capR r = some c → z < c ∧ o < c) ∧ ¬ (toR r ≤ z ∧ leadR r ≤ z - o) ∧ ¬ (toR r ≤ o ∧ leadR r ≤ o - z)
def Live : Rl → Sd → Prop
  | r, .nil => r = .pt
  | r, .cn z o w => r ≠ .pt ∧ 0 ≤ z ∧ 0 ≤ o ∧ NotWon r z o ∧ Live (now r z o) w
theorem nw0 {r : Rl} (h : ok r) (hn : r ≠ .pt) : NotWon r 0 0 := by
  obtain ⟨⟨h1, _⟩, ⟨h2, _⟩, h3, _⟩ := ok_unit h hn
  refine ⟨fun c e => ?_, by omega, by omega⟩
  rw [e] at h3
  have := h3.1
  omega
theorem live_begn : ∀ (n : Nat) {r : Rl}, depth r ≤ n → ok r → Live r (begn r)
  | n, r, hd, h => by
    by_cases hn : r = .pt
    · subst hn; exact rfl
    · rw [begn_unit hn]
      have hdn := depth_now hn 0 0
      cases n with
      | zero => omega
      | succ n => exact ⟨hn, Int.le_refl _, Int.le_refl _, nw0 h hn, live_begn n (by omega) (ok_now h 0 0)⟩
theorem live0 {r : Rl} (h : ok r) : Live r (begn r) := live_begn _ (Nat.le_refl _) h
set_option genInjectivity false in
set_option genSizeOf false in
structure Out where
  sd : Sd
  side : Option Bool
  at_ : Nat
  ends : List Nat
def walk (r : Rl) : Nat → Sd → List Bool → Out
  | p, s, [] => ⟨s, none, p, []⟩
  | p, s, b :: row =>
    if (ral r s b).2 then ⟨(ral r s b).1, some b, p + 1, List.replicate (stk r s b) (p + 1)⟩
    else ⟨(walk r (p + 1) (ral r s b).1 row).sd, (walk r (p + 1) (ral r s b).1 row).side, (walk r (p + 1) (ral r s b).1 row).at_, List.replicate (stk r s b) (p + 1) ++ (walk r (p + 1) (ral r s b).1 row).ends⟩
theorem walk_nil (r : Rl) (p : Nat) (s : Sd) : walk r p s [] = ⟨s, none, p, []⟩ := rfl
theorem walk_won {r : Rl} {p : Nat} {s : Sd} {b : Bool} {row : List Bool} (h : (ral r s b).2 = true) : walk r p s (b :: row) = ⟨(ral r s b).1, some b, p + 1, List.replicate (stk r s b) (p + 1)⟩ := by
  rw [walk, if_pos h]
theorem walk_on {r : Rl} {p : Nat} {s : Sd} {b : Bool} {row : List Bool} (h : (ral r s b).2 = false) : walk r p s (b :: row) = ⟨(walk r (p + 1) (ral r s b).1 row).sd, (walk r (p + 1) (ral r s b).1 row).side, (walk r (p + 1) (ral r s b).1 row).at_, List.replicate (stk r s b) (p + 1) ++ (walk r (p + 1) (ral r s b).1 row).ends⟩ := by
  rw [walk, if_neg (by rw [h]; simp)]
end M
namespace M
theorem cap_last {r : Rl} (h : capR r = none) : lastR r = none := by
  cases r with
  | pt => rfl
  | un a b c i => rfl
  | ul a b c i l => cases h
def Shp : Rl → Sd → Prop
  | _, .nil => True
  | r, .cn z o w => r ≠ .pt ∧ 0 ≤ z ∧ 0 ≤ o ∧ Shp (now r z o) w
theorem Live.shp : ∀ {s : Sd} {r : Rl}, Live r s → Shp r s
  | .nil, r, _ => trivial
  | .cn z o w, r, ⟨h1, h2, h3, _, h4⟩ => ⟨h1, h2, h3, Live.shp h4⟩
end M
namespace M
open PySem
def sgn (c : Nat) : Str := ⟨#[c]⟩
def asc (w : Str) : Prop := ∀ c ∈ w.cps.toList, c < 128
theorem asc_ok {w : Str} (h : asc w) : PyData.strOk w = true := by
  unfold PyData.strOk
  rw [Array.all_eq_true']
  intro c hc
  have := h c (by simpa using hc)
  simp; omega
theorem len_toList (w : Str) : w.length = w.cps.toList.length := by simp [Str.length]
theorem app_list (a b : Str) : (a ++ b).cps.toList = a.cps.toList ++ b.cps.toList := by
  show (a.cps ++ b.cps).toList = _
  simp
theorem asc_app {a b : Str} (ha : asc a) (hb : asc b) : asc (a ++ b) := fun c hc => by
  rw [app_list] at hc
  exact (List.mem_append.mp hc).elim (ha c) (hb c)
theorem slice_mem {x : Str} {l u : Option Int} {c : Nat} (h : c ∈ (Txt.slice x l u).cps.toList) : c ∈ x.cps.toList := by
  unfold Txt.slice at h
  split at h
  · exact h
  · simp only [List.mem_filterMap] at h
    obtain ⟨i, _, e⟩ := h
    have := Array.mem_of_getElem? e
    simpa using this
theorem asc_slice {x : Str} {l u : Option Int} (h : asc x) : asc (Txt.slice x l u) := fun c hc => h c (slice_mem hc)
theorem slice_take {x : Str} {k : Nat} (h : k ≤ x.length) : (Txt.slice x none (some (k : Int))).cps.toList = x.cps.toList.take k := by
  have : Txt.slice x none (some (k : Int)) = StrLaws.sliceText x (some ((0 : Nat) : Int)) (some (k : Int)) := by
    unfold Txt.slice StrLaws.sliceText
    rw [StrLaws.sliceIdx_none_lo]
    rfl
  rw [this, StrLaws.sliceText_nat x (Nat.zero_le _) h]
  simp
theorem join_sgn : ∀ cs : List Nat, (Str.join Str.empty (cs.map sgn)).cps.toList = cs
  | [] => rfl
  | [c] => rfl
  | c :: d :: cs => by
    show (sgn c ++ Str.empty ++ Str.join Str.empty ((d :: cs).map sgn)).cps.toList = _
    rw [app_list, app_list, join_sgn (d :: cs)]
    rfl
def letters : Str := "abcdefghijklmnopqrstuvwxyz"
def signsS : Str := letters ++ ("0123456789" : Str)
theorem letters_len : letters.cps.toList.length = 26 := by decide +kernel
theorem letters_asc : asc letters := by unfold asc; decide +kernel
theorem signs_list : signsS.cps.toList = letters.cps.toList ++ ("0123456789" : Str).cps.toList := app_list _ _
theorem signs_len : signsS.cps.toList.length = 36 := by rw [signs_list]; decide +kernel
theorem signs_asc : asc signsS := asc_app letters_asc (by unfold asc; decide +kernel)
theorem signs_nd : signsS.cps.toList.Nodup := by rw [signs_list]; decide +kernel
theorem asc_sgn {c : Nat} (h : c < 128) : asc (sgn c) := fun d hd => by
  have : d = c := by simpa [sgn] using hd
  rw [this]; exact h
def nameA (w : Str) (k : Nat) : Str := Txt.slice w none (some ((k : Int) + 1))
theorem nameA_list {w : Str} {k : Nat} (h : k < w.length) : (nameA w k).cps.toList = w.cps.toList.take (k + 1) := by
  unfold nameA
  rw [show ((k : Int) + 1) = ((k + 1 : Nat) : Int) by omega]
  exact slice_take (by omega)
theorem nodup_map {α : Type} {f : Nat → α} {n : Nat} (inj : ∀ a b, a < n → b < n → f a = f b → a = b) : ((List.range n).map f).Nodup := by
  unfold List.Nodup
  rw [List.pairwise_map]
  exact List.Pairwise.imp_of_mem (fun ha hb hne e => hne (inj _ _ (List.mem_range.mp ha) (List.mem_range.mp hb) e)) List.nodup_range
theorem nodupA {w : Str} {n : Nat} (h : n ≤ w.length) : ((List.range n).map (nameA w)).Nodup := by
  refine nodup_map fun a b ha hb e => ?_
  have e1 := nameA_list (w := w) (k := a) (by omega)
  have e2 := nameA_list (w := w) (k := b) (by omega)
  rw [e, e2] at e1
  have := congrArg List.length e1
  rw [List.length_take, List.length_take] at this
  rw [len_toList] at h
  omega
theorem rot_nodup {α : Type} {xs : List α} (t m : Nat) (h : xs.Nodup) : ((xs.drop t ++ xs.take t).take m).Nodup := by
  refine List.Sublist.nodup (List.take_sublist _ _) ?_
  have p : List.Perm (xs.drop t ++ xs.take t) xs := by
    have := List.perm_append_comm (l₁ := xs.drop t) (l₂ := xs.take t)
    rwa [List.take_append_drop] at this
  exact p.nodup_iff.mpr h
def nameB (w : Str) (at' : Nat) (size : Int) (c : Nat) : Str := Txt.slice w none (some (at' : Int)) ++ sgn c ++ Txt.slice w (some ((at' : Int) + 1)) (some size)
theorem nameB_inj {w : Str} {at' : Nat} {size : Int} {c d : Nat} (h : at' ≤ w.length) (e : nameB w at' size c = nameB w at' size d) : c = d := by
  have e1 := congrArg (fun x : Str => x.cps.toList) e
  simp only [nameB, app_list, List.append_assoc, slice_take h] at e1
  have e2 := List.append_cancel_left e1
  simpa [sgn] using e2
def signAt (start : Nat) (k : Nat) : Nat := signsS.cps.toList.getD ((start + 5 * k) % 36) 0
theorem signAt_some (start k : Nat) : signsS.cps.toList[(start + 5 * k) % 36]? = some (signAt start k) := by
  unfold signAt
  rw [List.getD_eq_getElem?_getD, List.getElem?_eq_getElem (by rw [signs_len]; omega)]
  rfl
theorem signAt_inj {start a b : Nat} (ha : a < 36) (hb : b < 36) (e : signAt start a = signAt start b) : a = b := by
  have h1 := signAt_some start a
  have h2 := signAt_some start b
  rw [e] at h1
  have := (List.getElem?_inj (by rw [signs_len]; omega) signs_nd).mp (h1.trans h2.symm)
  omega
theorem signAt_asc (start k : Nat) : signAt start k < 128 := signs_asc _ (List.mem_of_getElem? (signAt_some start k))
theorem nodupB {w : Str} {at' : Nat} {size : Int} {start n : Nat} (h : at' ≤ w.length) (hn : n ≤ 36) : ((List.range n).map fun k => nameB w at' size (signAt start k)).Nodup :=
  nodup_map fun a b ha hb e => signAt_inj (by omega) (by omega) (nameB_inj h e)
theorem ascA {w : Str} {k : Nat} (h : asc w) : asc (nameA w k) := asc_slice h
theorem ascB {w : Str} {at' : Nat} {size : Int} {c : Nat} (h : asc w) (hc : c < 128) : asc (nameB w at' size c) := asc_app (asc_app (asc_slice h) (asc_sgn hc)) (asc_slice h)
theorem app_len (a b : Str) : (a ++ b).length = a.length + b.length := by rw [len_toList, app_list, List.length_append, len_toList, len_toList]
theorem lenA {w : Str} {k : Nat} : (nameA w k).length ≤ w.length := Txt.slice_le _ _ _
theorem lenB {w : Str} {at' : Nat} {size : Int} {c : Nat} : (nameB w at' size c).length ≤ 2 * w.length + 1 := by
  unfold nameB
  rw [app_len, app_len]
  have h1 := Txt.slice_le w none (some (at' : Int))
  have h2 := Txt.slice_le w (some ((at' : Int) + 1)) (some size)
  have h3 : (sgn c).length = 1 := rfl
  omega
end M
namespace M
open PySem
set_option genInjectivity false in
set_option genSizeOf false in
structure Th where
  nm : Str
  wo : Int
  en : Bool
set_option genInjectivity false in
set_option genSizeOf false in
structure Sn where
  cs : List Int
  sd : Nat
  tn : Int
  hd : Int
def encT (t : Th) : PyData := .tuple [.str t.nm, .int t.wo, .bool t.en]
def encI (cs : List Int) : PyData := .tuple (cs.map PyData.int)
def encSn (s : Sn) : PyData := .tuple [encI s.cs, .int s.sd, .int s.tn, .int s.hd]
def begD (n : Nat) (b : Int) : Sn := ⟨List.replicate n b, 0, 0, b⟩
end M
namespace M
open PySem
abbrev Rw := List Str × Int
end M
namespace M
open PySem
mutual
def wtD : PyData → Nat
  | .none => 4
  | .bool _ => 5
  | .int _ => 81
  | .str x => 10 * x.length + 2
  | .list xs => wtL xs + 3
  | .tuple xs => wtL xs + 3
  | .dict _ => 0
def wtL : List PyData → Nat
  | [] => 0
  | x :: xs => wtD x + 2 + wtL xs
end
mutual
def okD : PyData → Bool
  | .none => true
  | .bool _ => true
  | .int i => decide (i.natAbs < 10 ^ 80)
  | .str x => x.cps.toList.all fun c => decide (c < 16 ^ 8)
  | .list xs => okL xs
  | .tuple xs => okL xs
  | .dict _ => false
def okL : List PyData → Bool
  | [] => true
  | x :: xs => okD x && okL xs
end
theorem listText_len (ts : List Str) : (listText ts).length ≤ piled ts + 2 := by
  cases ts with
  | nil => decide
  | cons t r =>
    have h := textFrom_length_pos r 1 (("[" : Str) ++ (if (0 : Nat) > 0 then ", " else "" : String) ++ t) (Nat.succ_pos 0)
    have e : ((("[" : Str) ++ (if (0 : Nat) > 0 then ", " else "" : String) ++ t)).length = 1 + t.length := by
      rw [strLen_append, strLen_append]; rfl
    have hX : (listText (t :: r)).length = (textFrom 0 "[" (t :: r)).length + 1 := by
      show (textFrom 0 "[" (t :: r) ++ "]").length = _
      rw [strLen_append]; rfl
    have hY : (textFrom 0 "[" (t :: r)).length = (textFrom 1 (("[" : Str) ++ (if (0 : Nat) > 0 then ", " else "" : String) ++ t) r).length := rfl
    rw [hX, hY, h, e, piled_cons]; omega
theorem tupleText_len (ts : List Str) : (tupleText ts).length ≤ piled ts + 3 := by
  unfold tupleText
  rw [strLen_append, strLen_append]
  have e1 : ((("(" : String) : Str)).length = 1 := rfl
  have e3 : (((if ts.length == 1 then ",)" else ")" : String) : Str)).length ≤ 2 := by split <;> decide
  rw [e1]
  by_cases h : ts = []
  · subst h
    have : (Str.join ", " []).length = 0 := rfl
    omega
  · have := join_length_add ts h
    omega
theorem log2_small {i : Int} (h : i.natAbs < 10 ^ 80) : i.natAbs.log2 < 1920 := by
  by_cases z : i.natAbs = 0
  · rw [z]; decide
  · exact (Nat.log2_lt z).mpr (Nat.lt_of_lt_of_le h (by decide +kernel))
mutual
theorem shown_le : ∀ d : PyData, okD d = true → PyData.showable d = true ∧ (PyData.shown d).length ≤ wtD d
  | .none, _ => ⟨rfl, by simp only [PyData.shown, wtD]; decide⟩
  | .bool b, _ => ⟨rfl, by cases b <;> simp only [PyData.shown, wtD] <;> decide⟩
  | .int i, h => by
    simp only [okD, decide_eq_true_eq] at h
    refine ⟨by simp only [PyData.showable]; exact decide_eq_true (log2_small h), ?_⟩
    simp only [PyData.shown, wtD]
    have := int_text_length_le10 (k := 80) (by decide) h
    show (Str.ofString (toString i)).length ≤ 81
    rw [ofString_length]
    exact this
  | .str x, h => by
    simp only [okD, List.all_eq_true, decide_eq_true_eq] at h
    exact ⟨rfl, by simp only [PyData.shown, wtD]; exact StrLaws.reprText_len x h⟩
  | .list xs, h => by
    simp only [okD] at h
    obtain ⟨h1, h2⟩ := shownL_le xs h
    refine ⟨by simp only [PyData.showable]; exact h1, ?_⟩
    simp only [PyData.shown, wtD]
    have := listText_len (PyData.shownAll xs)
    omega
  | .tuple xs, h => by
    simp only [okD] at h
    obtain ⟨h1, h2⟩ := shownL_le xs h
    refine ⟨by simp only [PyData.showable]; exact h1, ?_⟩
    simp only [PyData.shown, wtD]
    have := tupleText_len (PyData.shownAll xs)
    omega
  | .dict _, h => by simp [okD] at h
theorem shownL_le : ∀ ds : List PyData, okL ds = true → PyData.showableAll ds = true ∧ piled (PyData.shownAll ds) ≤ wtL ds
  | [], _ => ⟨rfl, by simp only [PyData.shownAll, wtL]; decide⟩
  | d :: ds, h => by
    simp only [okL, Bool.and_eq_true] at h
    obtain ⟨a1, a2⟩ := shown_le d h.1
    obtain ⟨b1, b2⟩ := shownL_le ds h.2
    refine ⟨by simp only [PyData.showableAll, a1, b1]; rfl, ?_⟩
    simp only [PyData.shownAll, wtL, piled_cons]
    omega
end
end M
namespace M
open PySem
def low (c : Nat) : Bool := decide (97 ≤ c) && decide (c ≤ 122)
def dig (c : Nat) : Bool := decide (48 ≤ c) && decide (c ≤ 57)
def ld (c : Nat) : Bool := low c || dig c
def fst (cs : List Nat) : Bool := match cs with
  | c :: _ => low c
  | [] => false
def nmS (cs : List Nat) : Bool := decide (1 ≤ cs.length) && decide (cs.length ≤ 8) && (fst cs && cs.all ld)
def nmL (w : Str) : Prop := w.length ≤ 100 ∧ nmS w.cps.toList = true
theorem all128 {f g : Nat → Bool} (h : (List.range 128).all (fun c => f c == g c) = true) : ∀ c, c < 128 → f c = g c := fun c hc => by
  have := List.all_eq_true.mp h c (List.mem_range.mpr hc)
  simpa using this
theorem find_low : ∀ c, c < 128 → decide (0 ≤ Txt.find letters (sgn c)) = low c := all128 (by decide +kernel)
theorem find_ld : ∀ c, c < 128 → decide (0 ≤ Txt.find signsS (sgn c)) = ld c := all128 (by decide +kernel)
def leS (a b : Str) : Bool := !decide (b.cps.toList < a.cps.toList)
theorem le_low : ∀ c, c < 128 → (leS "a" (sgn c) && leS (sgn c) "z") = low c := all128 (by decide +kernel)
theorem le_dig : ∀ c, c < 128 → (leS "0" (sgn c) && leS (sgn c) "9") = dig c := all128 (by decide +kernel)
theorem low_asc {c : Nat} (h : low c = true) : c < 128 := by
  simp only [low, Bool.and_eq_true, decide_eq_true_eq] at h
  omega
theorem low_ld {c : Nat} (h : low c = true) : ld c = true := by simp [ld, h]
theorem letters_low : ∀ c ∈ letters.cps.toList, low c = true := by decide +kernel
theorem signs_ld : ∀ c ∈ signsS.cps.toList, ld c = true := by decide +kernel
theorem slice_mid {x : Str} {a b : Nat} (h : a ≤ b) (h2 : b ≤ x.length) : (Txt.slice x (some (a : Int)) (some (b : Int))).cps.toList = (x.cps.toList.drop a).take (b - a) := by
  have : Txt.slice x (some (a : Int)) (some (b : Int)) = StrLaws.sliceText x (some (a : Int)) (some (b : Int)) := rfl
  rw [this, StrLaws.sliceText_nat x h h2]
theorem nmA {w : Str} {k : Nat} (h8 : w.length = 8) (hk : k < 8) (hl : ∀ c ∈ w.cps.toList, low c = true) : nmL (nameA w k) := by
  have e := nameA_list (w := w) (k := k) (by omega)
  refine ⟨Nat.le_trans lenA (by omega), ?_⟩
  rw [e]
  rw [len_toList] at h8
  match hw : w.cps.toList, h8 with
  | c :: cs, h8 =>
    have h1 : ((c :: cs).take (k + 1)).length = k + 1 := by rw [List.length_take]; omega
    have hc : low c = true := hl c (by rw [hw]; exact List.mem_cons_self ..)
    have ha : ((c :: cs).take (k + 1)).all ld = true := by
      rw [List.all_eq_true]
      exact fun d hd => low_ld (hl d (by rw [hw]; exact List.mem_of_mem_take hd))
    unfold nmS
    rw [h1, ha, List.take_succ_cons]
    simp only [fst, hc, Bool.and_true, Bool.and_eq_true, decide_eq_true_eq]
    omega
theorem nmB {w : Str} {a sz c : Nat} (h8 : w.length = 8) (ha : 1 ≤ a) (hs : a < sz) (h2 : sz ≤ 8) (hl : ∀ d ∈ w.cps.toList, low d = true) (hc : ld c = true) : nmL (nameB w a (sz : Int) c) := by
  refine ⟨Nat.le_trans lenB (by omega), ?_⟩
  unfold nameB
  rw [app_list, app_list, slice_take (by omega), show ((a : Int) + 1) = ((a + 1 : Nat) : Int) by omega, slice_mid (by omega) (by omega)]
  rw [len_toList] at h8
  match hw : w.cps.toList, h8 with
  | d :: ds, h8 =>
    obtain ⟨a, rfl⟩ : ∃ b, a = b + 1 := ⟨a - 1, by omega⟩
    have hd : low d = true := hl d (by rw [hw]; exact List.mem_cons_self ..)
    have hl2 : ∀ x ∈ d :: ds, ld x = true := fun x hx => low_ld (hl x (by rw [hw]; exact hx))
    have e : (sgn c).cps.toList = [c] := rfl
    rw [e]
    have hall : ((d :: ds).take (a + 1) ++ [c] ++ ((d :: ds).drop (a + 1 + 1)).take (sz - (a + 1 + 1))).all ld = true := by
      rw [List.all_eq_true]
      intro x hx
      rcases List.mem_append.mp hx with hx | hx
      · rcases List.mem_append.mp hx with hx | hx
        · exact hl2 x (List.mem_of_mem_take hx)
        · rw [List.mem_singleton.mp hx]; exact hc
      · exact hl2 x (List.mem_of_mem_drop (List.mem_of_mem_take hx))
    have hlen : ((d :: ds).take (a + 1) ++ [c] ++ ((d :: ds).drop (a + 1 + 1)).take (sz - (a + 1 + 1))).length = sz := by
      rw [List.length_append, List.length_append, List.length_take, List.length_take, List.length_drop, List.length_singleton]
      omega
    unfold nmS
    rw [hlen, hall, List.take_succ_cons]
    simp only [List.cons_append, fst, hd, Bool.and_true, Bool.and_eq_true, decide_eq_true_eq]
    omega
mutual
def smD : PyData → Bool
  | .none => true
  | .bool _ => true
  | .int i => decide (i.natAbs < 10 ^ 80)
  | .str x => (x.cps.toList.all fun c => decide (c < 128)) && decide (x.length ≤ 1000)
  | .list xs => decide (xs.length ≤ 1000) && smL xs
  | .tuple xs => decide (xs.length ≤ 1000) && smL xs
  | .dict _ => false
def smL : List PyData → Bool
  | [] => true
  | x :: xs => smD x && smL xs
end
mutual
theorem sm_ok : ∀ d : PyData, smD d = true → okD d = true
  | .none, _ => rfl
  | .bool _, _ => rfl
  | .int i, h => by simpa only [smD, okD] using h
  | .str x, h => by
    simp only [smD, Bool.and_eq_true, List.all_eq_true, decide_eq_true_eq] at h
    simp only [okD, List.all_eq_true, decide_eq_true_eq]
    exact fun c hc => Nat.lt_of_lt_of_le (h.1 c hc) (by decide)
  | .list xs, h => by
    simp only [smD, Bool.and_eq_true] at h
    simp only [okD]
    exact smL_ok xs h.2
  | .tuple xs, h => by
    simp only [smD, Bool.and_eq_true] at h
    simp only [okD]
    exact smL_ok xs h.2
  | .dict _, h => by simp [smD] at h
theorem smL_ok : ∀ ds : List PyData, smL ds = true → okL ds = true
  | [], _ => rfl
  | d :: ds, h => by
    simp only [smL, Bool.and_eq_true] at h
    simp only [okL, Bool.and_eq_true]
    exact ⟨sm_ok d h.1, smL_ok ds h.2⟩
end
theorem smL_mem : ∀ {ds : List PyData}, smL ds = true → ∀ d ∈ ds, smD d = true
  | d :: ds, h, e, he => by
    simp only [smL, Bool.and_eq_true] at h
    rcases List.mem_cons.mp he with rfl | he
    · exact h.1
    · exact smL_mem h.2 e he
def whl (d : PyData) (lo hi : Int) : Bool := match d with
  | .int i => decide (lo ≤ i) && decide (i ≤ hi)
  | _ => false
def whlAt (ds : List PyData) (ms : List Int) (i : Nat) : Bool := match ds[i]?, ms[i]? with
  | some d, some m => whl d 1 m
  | _, _ => false
theorem whlAt_of {ds : List PyData} {ms : List Int} {i : Nat} {d : PyData} {m : Int} (h1 : ds[i]? = some d) (h2 : ms[i]? = some m) : whlAt ds ms i = whl d 1 m := by unfold whlAt; rw [h1, h2]
def nmD (d : PyData) : Bool := match d with
  | .str x => nmS x.cps.toList
  | _ => false
def isTr (d : PyData) : Bool := match d with
  | .bool _ => true
  | _ => false
def thD (d : PyData) : Bool := match d with
  | .tuple [n, w, e] => nmD n && (whl w 0 1000000 && isTr e)
  | _ => false
def nmOf (d : PyData) : Str := match d with
  | .tuple (.str x :: _) => x
  | _ => Str.empty
end M
namespace M
open PySem
set_option genInjectivity false in
set_option genSizeOf false in
structure Lr where
  d : Int
  b : Int
  u : Int
  n : Int
  a : Int
  x : Int
  t : Int
deriving DecidableEq
def encR (r : Lr) : PyData := .tuple [.int r.d, .int r.b, .int r.u, .int r.n, .int r.a, .int r.x, .int r.t]
def encLs (rows : List Lr) (side : Nat) : PyData := .tuple [.tuple (rows.map encR), .int side]
theorem dep_encR (r : Lr) : (encR r).depth = 1 := by simp [encR, PyData.depth, PyData.depthAll]
theorem dep_encLs (rows : List Lr) (side : Nat) : (encLs rows side).depth ≤ 3 := by
  have h : PyData.depthAll (rows.map encR) ≤ 1 := by
    induction rows with
    | nil => simp [PyData.depthAll]
    | cons r rows ih => simp only [List.map_cons, PyData.depthAll, dep_encR]; omega
  simp only [encLs, PyData.depth, PyData.depthAll]
  omega
end M
namespace L2
open PySem PySem.W
theorem walkX {q : Program} {loose : List Str} {XP : (Str → Option Value) → Heap → Prop} {ks : List Addr} {K : Params → Frag} {n t : Nat} {r : RowW} {d : DefRec} {kwd : List (Str × Expr)} {run : Value → List Value → Sem Value}
    (e : ∀ P, ks = (K P).map (·.1)) (wo : WalkO q loose XP (fun w h => (K w.params).In h) r d kwd run) : WalkX q loose XP (X.obsZ ks) (X.valZ K n t) r d kwd run :=
  fun w s₀ s₁ mg mb G y a o pm cd doc dV kV ho hd hcd hD hmg hg args vals as L hpre hlay hrd hwl hlo => wo w s₀ s₁ mg mb G (InK.keeps w s₀.heap s₁.heap (X.z_facts e y).2.1 L.keeps) a o pm cd doc dV kV ho hd hcd hD hmg hg args vals as hpre hlay hrd hwl hlo
end L2
namespace L2
end L2
namespace L2
open PySem PySem.Spec PyProof.Rows M
def Tk (K : PySem.W.Frag) (H H' : Hp) : Prop := ∀ a xs, SqT K H a xs → SqT K H' a xs
theorem Tk.refl {K : PySem.W.Frag} (H : Hp) : Tk K H H := fun _ _ h => h
theorem Tk.trans {K : PySem.W.Frag} {H H1 H2 : Hp} (a : Tk K H H1) (b : Tk K H1 H2) : Tk K H H2 := fun c xs h => b c xs (a c xs h)
theorem Ext.tk {K : PySem.W.Frag} {t : Addr} {H H' : Hp} (e : Ext t H H') : Tk K H H' := fun _ _ h => e.sqT h
theorem Same.tk {K : PySem.W.Frag} {H H' : Hp} (e : Same H H') : Tk K H H' := (Same.ext (t := 0) e).tk
theorem Tk.upd {K : PySem.W.Frag} {H : Hp} {a : Addr} {o : HO} (h : ∀ xs, ¬ Rd H a (.tup xs)) : Tk K H (upd H a o) := fun b xs q => by
  by_cases e : b = a
  · subst e
    rcases q with q | q
    · exact absurd q (h xs)
    · exact .inr q
  · rcases q with (q | ⟨u, q⟩) | q
    · exact .inl (.inl (by rw [upd_ne e]; exact q))
    · exact .inl (.inr ⟨u, by rw [upd_ne e]; exact q⟩)
    · exact .inr q
theorem Tk.updL {K : PySem.W.Frag} {H : Hp} {a : Addr} {ys : List V} {o : HO} (h : H a = some (.lst ys)) : Tk K H (L2.upd H a o) := Tk.upd fun xs q => by
  rcases q with q | ⟨u, q⟩
  · rw [h] at q; cases q
  · rw [h] at q; cases q
mutual
def noL : PyData → Bool
  | .list _ => false
  | .dict _ => false
  | .tuple ds => noLs ds
  | _ => true
def noLs : List PyData → Bool
  | [] => true
  | d :: ds => noL d && noLs ds
end
mutual
theorem Dt.tk {K : PySem.W.Frag} {t t' : Addr} {H H' : Hp} (e : Tk K H H') : ∀ (d : PyData) (v : V), noL d = true → Dt K t H d v → Dt K t' H' d v
  | .none, _, _, h => by simp only [Dt] at h ⊢; exact h
  | .bool _, _, _, h => by simp only [Dt] at h ⊢; exact h
  | .int _, _, _, h => by simp only [Dt] at h ⊢; exact h
  | .str _, _, _, h => by simp only [Dt] at h ⊢; exact h
  | .tuple ds, v, n, h => by
    simp only [noL] at n
    simp only [Dt] at h ⊢
    obtain ⟨a, xs, h1, h2, h3⟩ := h
    exact ⟨a, xs, h1, e _ _ h2, DtL.tk e ds xs n h3⟩
  | .list ds, v, n, h => by simp [noL] at n
  | .dict _, _, n, h => by simp [noL] at n
theorem DtL.tk {K : PySem.W.Frag} {t t' : Addr} {H H' : Hp} (e : Tk K H H') : ∀ (ds : List PyData) (vs : List V), noLs ds = true → DtL K t H ds vs → DtL K t' H' ds vs
  | [], _, _, h => by simp only [DtL] at h ⊢; exact h
  | d :: ds, vs, n, h => by
    simp only [noLs, Bool.and_eq_true] at n
    simp only [DtL] at h ⊢
    obtain ⟨v, r, h1, h2, h3⟩ := h
    exact ⟨v, r, h1, Dt.tk e d v n.1 h2, DtL.tk e ds r n.2 h3⟩
end
theorem noL_cap (c : Option Int) : noL (capD c) = true := by cases c <;> rfl
theorem noL_enc : ∀ r : Rl, noL (enc r) = true
  | .pt => rfl
  | .un to lead cap i => by simp only [enc, noL, noLs, noL_enc i, noL_cap]; rfl
  | .ul to lead cap i l => by simp only [enc, noL, noLs, noL_enc i, noL_enc l]; rfl
theorem noLs_enc : ∀ rs : List Rl, noLs (rs.map enc) = true
  | [] => rfl
  | r :: rs => by simp only [List.map_cons, noLs, noL_enc r, noLs_enc rs]; rfl
def RlV (K : PySem.W.Frag) (H : Hp) (r : Rl) (v : V) : Prop := Dt K 0 H (enc r) v
def RlL (K : PySem.W.Frag) (H : Hp) (rs : List Rl) (vs : List V) : Prop := DtL K 0 H (rs.map enc) vs
section
variable {K : PySem.W.Frag} {H H' : Hp} {r : Rl} {rs qs : List Rl} {v : V} {vs us : List V} {t : Addr}
theorem RlV.of (h : Dt K t H (enc r) v) : RlV K H r v := Dt.tk (.refl H) _ _ (noL_enc r) h
theorem RlV.dt (h : RlV K H r v) : Dt K t H (enc r) v := Dt.tk (.refl H) _ _ (noL_enc r) h
theorem RlV.tk (h : RlV K H r v) (e : Tk K H H') : RlV K H' r v := Dt.tk e _ _ (noL_enc r) h
theorem RlV.same (h : RlV K H r v) (e : Same H H') : RlV K H' r v := h.tk e.tk
theorem RlL.len (h : RlL K H rs vs) : rs.length = vs.length := by
  have := DtL.len h
  rwa [List.length_map] at this
theorem RlL.get {i : Nat} (h : RlL K H rs vs) (e : vs[i]? = some v) : ∃ r, rs[i]? = some r ∧ RlV K H r v := by
  have hi : i < rs.length := by rw [h.len]; exact (List.getElem?_eq_some_iff.mp e).1
  have e1 : rs[i]? = some rs[i] := List.getElem?_eq_getElem hi
  obtain ⟨u, e2, d⟩ := DtL.get (i := i) h (by rw [List.getElem?_map, e1]; rfl)
  rw [e] at e2
  cases e2
  exact ⟨_, e1, d⟩
end
def plainComp (N : List Str) (x : Str) (scope : Scope) : Bool :=
  decide (scope.kind = .function) && scope.names.all (fun p => decide (p.2 = .local) || decide (p.2 = .globalImplicit))
    && scope.names.all (fun p => !decide (p.2 = .local) || decide (scope.names.lookup p.1 = some .local))
    && decide (scope.names.lookup x = some .local) && decide ((x :: N).Nodup)
    && N.all (fun y => decide (scope.names.lookup y = none) || decide (scope.names.lookup y = some .globalImplicit))
theorem relabel_plain {scope : Scope} {env : Env} (h : ∀ p ∈ scope.names, p.2 ≠ .free) : (relabel scope env).names = scope.names := by
  unfold relabel
  show scope.names.map _ = _
  have : ∀ l : List (Str × NameKind), (∀ p ∈ l, p.2 ≠ .free) → l.map (fun (n, k) => if (k == .free && env.scope.kind == .function && env.kindOf n == some .cell) then (n, NameKind.cell) else (n, k)) = l := by
    intro l
    induction l with
    | nil => intro _; rfl
    | cons p l ih =>
      intro hl
      obtain ⟨n, k⟩ := p
      have hk : k ≠ .free := hl _ (List.mem_cons_self ..)
      rw [List.map_cons, ih fun p hp => hl p (List.mem_cons_of_mem _ hp)]
      have : (k == NameKind.free) = false := by simpa using hk
      simp [this]
  exact this _ h
theorem compPlain {X : Cx} {N : List Str} {x : Str} {scope : Scope} (hN : X.N = N) (h : plainComp N x scope = true) (hc : closureFor scope X.env = pure []) : CompScope X (x :: N) x scope [] := by
  simp only [plainComp, Bool.and_eq_true, decide_eq_true_eq, List.all_eq_true, Bool.or_eq_true, Bool.not_eq_true', decide_eq_false_iff_not] at h
  obtain ⟨⟨⟨⟨⟨h1, h2⟩, h3⟩, h4⟩, h5⟩, h6⟩ := h
  have nf : ∀ p ∈ scope.names, p.2 ≠ .free := fun p hp z => by rcases h2 p hp with e | e <;> rw [z] at e <;> cases e
  have rl := relabel_plain (env := X.env) nf
  have lk : ∀ (l : List (Str × NameKind)), (∀ p ∈ l, p.2 = .local ∨ p.2 = .globalImplicit) → ∀ y k, l.lookup y = some k → k = .local ∨ k = .globalImplicit := by
    intro l
    induction l with
    | nil => intro _ y k e; cases e
    | cons p l ih =>
      intro hl y k e
      obtain ⟨n, kk⟩ := p
      rw [List.lookup_cons] at e
      split at e
      · cases e; exact hl _ (List.mem_cons_self ..)
      · exact ih (fun p hp => hl p (List.mem_cons_of_mem _ hp)) y k e
  refine ⟨hc, fun y hy z => ?_, h1, fun y hy e => ?_, h4, h5, rfl, by rw [hN]; rfl, fun j y e v => ?_, fun y c e => (by cases e), fun y e => ?_, rfl⟩
  · rcases h2 y hy with e | e <;> rw [z] at e <;> cases e
  · rcases h3 y hy with q | q
    · exact absurd e q
    · exact q
  · exfalso
    have hy : y ∈ N := List.mem_of_getElem? (by simpa using e)
    have q := h6 y hy
    unfold Vis at v
    rw [rl] at v
    rcases q with q | q <;> rw [q] at v <;> rcases v with v | v | v <;> cases v
  · exfalso
    rw [rl] at e
    rcases e with e | e <;> rcases lk _ h2 y _ e with z | z <;> cases z
def capComp (N fr : List Str) (x : Str) (scope osc : Scope) : Bool :=
  decide (scope.kind = .function) && decide (osc.kind = .function)
    && scope.names.all (fun p => decide (p.2 = .local) || decide (p.2 = .globalImplicit) || (decide (p.2 = .free) && decide (p.1 ∈ fr) && decide (osc.names.lookup p.1 = some .cell)))
    && scope.names.all (fun p => !decide (p.2 = .local) || decide (scope.names.lookup p.1 = some .local))
    && decide (scope.names.lookup x = some .local) && decide ((x :: N).Nodup) && decide (x ∉ fr)
    && N.all (fun y => !decide (scope.names.lookup y = some .local))
theorem relabel_lookup {scope : Scope} {env : Env} (y : Str) : (relabel scope env).names.lookup y = (scope.names.lookup y).map fun k => if (k == NameKind.free && env.scope.kind == .function && env.kindOf y == some .cell) = true then NameKind.cell else k := by
  unfold relabel
  show List.lookup y (scope.names.map _) = _
  induction scope.names with
  | nil => rfl
  | cons p l ih =>
    obtain ⟨n, k⟩ := p
    by_cases e : y = n
    · subst e
      have h1 : (y == y) = true := beq_self_eq_true y
      rw [List.map_cons, List.lookup_cons, List.lookup_cons, h1]
      by_cases c : (k == NameKind.free && env.scope.kind == .function && env.kindOf y == some .cell) = true
      · rw [if_pos c]; simp only [h1, Option.map_some]; rw [if_pos c]
      · rw [if_neg c]; simp only [h1, Option.map_some]; rw [if_neg c]
    · have h1 : (y == n) = false := beq_eq_false_iff_ne.mpr e
      rw [List.map_cons, List.lookup_cons, List.lookup_cons, h1]
      by_cases c : (k == NameKind.free && env.scope.kind == .function && env.kindOf n == some .cell) = true
      · rw [if_pos c]; simp only [h1]; exact ih
      · rw [if_neg c]; simp only [h1]; exact ih
theorem lookup_mem {α : Type} : ∀ {l : List (Str × α)} {y : Str} {c : α}, l.lookup y = some c → (y, c) ∈ l
  | [], _, _, h => by cases h
  | (n, k) :: l, y, c, h => by
    rw [List.lookup_cons] at h
    split at h
    · rename_i e
      cases h
      have : y = n := by simpa using e
      subst this
      exact List.mem_cons_self ..
    · exact List.mem_cons_of_mem _ (lookup_mem h)
theorem mem_lookup {α : Type} : ∀ {l : List (Str × α)} {y : Str}, y ∈ l.map (·.1) → ∃ c, l.lookup y = some c
  | [], _, h => by simp at h
  | (n, k) :: l, y, h => by
    rw [List.lookup_cons]
    split
    · exact ⟨k, rfl⟩
    · rename_i e
      have : y ≠ n := by simpa using e
      simp only [List.map_cons, List.mem_cons] at h
      rcases h with h | h
      · exact absurd h this
      · exact mem_lookup h
theorem compCap {X : Cx} {N fr : List Str} {x : Str} {scope osc : Scope} {cl : List (Str × Addr)} (hN : X.N = N) (ho : X.env.scope = osc) (h : capComp N fr x scope osc = true) (hc : closureFor scope X.env = pure cl)
    (hf : cl.map (·.1) = fr) (hcl : ∀ p ∈ cl, X.env.cells.lookup p.1 = some p.2) : CompScope X (x :: N) x scope cl := by
  simp only [capComp, Bool.and_eq_true, decide_eq_true_eq, List.all_eq_true, Bool.or_eq_true, Bool.not_eq_true', decide_eq_false_iff_not] at h
  obtain ⟨⟨⟨⟨⟨⟨⟨h1, h0⟩, h2⟩, h3⟩, h4⟩, h5⟩, h7⟩, h6⟩ := h
  subst ho
  have rl := relabel_lookup (scope := scope) (env := X.env)
  have fr_of : ∀ y, scope.names.lookup y = some .free → y ∈ fr ∧ X.env.kindOf y = some .cell := fun y e => by
    rcases h2 _ (lookup_mem e) with (z | z) | z
    · cases z
    · cases z
    · exact ⟨z.1.2, z.2⟩
  have vis : ∀ y k, (relabel scope X.env).names.lookup y = some k → (k = .local ∧ scope.names.lookup y = some .local) ∨ (k = .globalImplicit) ∨ (k = .cell ∧ scope.names.lookup y = some .free) := fun y k e => by
    rw [rl y] at e
    cases e0 : scope.names.lookup y with
    | none => rw [e0] at e; cases e
    | some k0 =>
      rw [e0] at e
      simp only [Option.map_some, Option.some.injEq] at e
      rcases h2 _ (lookup_mem e0) with (z | z) | z
      · have z' : k0 = .local := z
        subst z'
        left
        exact ⟨by rw [← e]; rfl, rfl⟩
      · have z' : k0 = .globalImplicit := z
        subst z'
        right; left
        rw [← e]; rfl
      · have z' : k0 = .free := z.1.1
        subst z'
        right; right
        refine ⟨?_, rfl⟩
        rw [← e, if_pos]
        have hk : X.env.kindOf y = some .cell := z.2
        rw [hk, h0]
        rfl
  refine ⟨hc, fun y hy z => ?_, h1, fun y hy e => ?_, h4, h5, rfl, by rw [hN]; rfl, fun j y e v => ?_, fun y c e => hcl _ (lookup_mem e), fun y e => ?_, ?_⟩
  · rcases h2 y hy with (e | e) | e
    · rw [z] at e; cases e
    · rw [z] at e; cases e
    · rw [z] at e; cases e.1.1
  · rcases h3 y hy with q | q
    · exact absurd e q
    · exact q
  · have e' : N[j]? = some y := by simpa using e
    have hy : y ∈ N := List.mem_of_getElem? e'
    have key : scope.names.lookup y = some .free ∧ (relabel scope X.env).names.lookup y = some .cell := by
      rcases v with v | v | v <;> rcases vis y _ v with z | z | z
      · exact absurd z.2 (h6 y hy)
      · cases z
      · cases z.1
      · cases z.1
      · cases z
      · exact ⟨z.2, v⟩
      · cases z.1
      · cases z
      · cases z.1
    obtain ⟨k1, k2⟩ := key
    obtain ⟨f1, f2⟩ := fr_of y k1
    obtain ⟨c, hcc⟩ := mem_lookup (l := cl) (y := y) (by rw [hf]; exact f1)
    exact ⟨by rw [hN]; exact e', f2, .inr (.inl f2), .inl k2, hcc.trans (hcl _ (lookup_mem hcc)).symm⟩
  · have : scope.names.lookup y = some .free := by
      rcases e with e | e <;> rcases vis y _ e with z | z | z
      · cases z.1
      · cases z
      · exact z.2
      · cases z.1
      · cases z
      · cases z.1
    exact mem_lookup (by rw [hf]; exact (fr_of y this).1)
  · cases e : cl.lookup x with
    | none => rfl
    | some c => exact absurd (by rw [← hf]; exact List.mem_map_of_mem (lookup_mem e)) h7
end L2
namespace L2
open PySem PySem.Spec PyProof.Rows M
section
variable (K : PySem.W.Frag) (ns : List Int)
def spTape : Sp := fun vs H Q _ => ∃ a, vs = [.ref a] ∧ SqL K H a (ns.map V.int) ∧ ∀ t H', Tape K ns t H' → Q (.ref t) H'
def spDraw : Sp := fun vs H Q _ => ∃ t m, vs = [.ref t, .int m] ∧ 0 < m ∧ m < 1073741824 ∧ Tape K ns t H ∧ ∀ (r : Int) (H' : Hp), 0 ≤ r → r < m → Cur K ns t H H' → Q (.int r) H'
def spRule (n : Nat) : Sp := fun vs H Q _ => ∃ t dp th, vs = [.ref t, .int dp, .int th] ∧ 0 ≤ dp ∧ dp < n ∧ 0 ≤ th ∧ Tape K ns t H ∧ ∀ rl r H', ok rl → depth rl ≤ dp.toNat → size rl ≤ U dp.toNat th.toNat → Cur K ns t H H' → Dt K t H' (enc rl) r → Q r H'
def spUnit (n : Nat) : Sp := fun vs H Q _ => ∃ t dp th, vs = [.ref t, .int dp, .int th] ∧ 0 < dp ∧ dp < n ∧ 0 ≤ th ∧ Tape K ns t H ∧ ∀ rl r H', ok rl → depth rl ≤ dp.toNat → size rl ≤ U dp.toNat th.toNat → Cur K ns t H H' → Dt K t H' (enc rl) r → Q r H'
def spAny : Sp := fun vs H Q _ => ∃ t, vs = [.ref t] ∧ Tape K ns t H ∧ ∀ rl r H', ok rl → depth rl ≤ 4 → size rl ≤ 7 → Cur K ns t H H' → Dt K t H' (enc rl) r → Q r H'
def spLaw : Sp := fun vs H Q _ => ∃ (a : Addr) (ns : List Int), vs = [.ref a] ∧ SqL K H a (ns.map V.int) ∧ ns.length ≤ 63 ∧ ∀ H', Q (.bl true) H'
end
section
variable {K : PySem.W.Frag} {ns : List Int} {t : Addr} {H : Hp} {Q : VK} {E : XK}
theorem draw_of {m : Int} (T : Tape K ns t H) (h : ∀ (r : Int) (H' : Hp), 0 ≤ r → r < m → Cur K ns t H H' → Q (.int r) H') (h0 : 0 < m := by decide) (h1 : m < 1073741824 := by decide) : spDraw K ns [.ref t, .int m] H Q E := ⟨t, m, rfl, h0, h1, T, h⟩
end
theorem at0 {ns : List Int} (h : 0 < (ns.map V.int).length) : ∃ n : Int, atI (ns.map V.int) 0 = some (.int n) := by
  cases ns with
  | nil => simp at h
  | cons n r => exact ⟨n, atI_nat (j := 0) rfl⟩
theorem atMod {ns : List Int} (i : Int) (h : 0 < (ns.map V.int).length) : ∃ n : Int, atI (ns.map V.int) (i % ((ns.map V.int).length : Nat)) = some (.int n) := by
  have h1 := Int.emod_nonneg i (show (((ns.map V.int).length : Nat) : Int) ≠ 0 by omega)
  have h2 := Int.emod_lt_of_pos i (show (0 : Int) < ((ns.map V.int).length : Nat) by omega)
  generalize i % (((ns.map V.int).length : Nat) : Int) = j at h1 h2
  rw [List.length_map] at h2
  have hj : j.toNat < ns.length := by omega
  have e : (ns.map V.int)[j.toNat]? = some (.int ns[j.toNat]) := by rw [List.getElem?_map, List.getElem?_eq_getElem hj]; rfl
  have z := atI_nat e
  rw [show ((j.toNat : Nat) : Int) = j by omega] at z
  exact ⟨_, z⟩
theorem small6 {xs : List V} (h : xs.length ≤ 1000) : xs.length ≤ sizeLine := Nat.le_of_lt (small1000 h)
theorem smallA {xs ys : List V} (h : xs.length + ys.length ≤ 1000) : xs.length + ys.length ≤ sizeLine := Nat.le_of_lt (small1000 h)
theorem cmul_l {i j : Int} (h1 : -1000000 ≤ i) (h2 : i ≤ 10000000) : CMul i j := .inl ⟨by omega, by omega⟩
theorem list6 {α : Type} {l : List α} (h : l.length = 6) : ∃ a b c d e f, l = [a, b, c, d, e, f] := match l, h with
  | [a, b, c, d, e, f], _ => ⟨a, b, c, d, e, f, rfl⟩
theorem dtl_hd {K : PySem.W.Frag} {t : Addr} {H : Hp} {d : PyData} {ds : List PyData} {v : V} {vs : List V} (h : DtL K t H (d :: ds) (v :: vs)) : Dt K t H d v ∧ DtL K t H ds vs := by
  simp only [DtL] at h
  obtain ⟨_, _, e, h1, h2⟩ := h
  cases e
  exact ⟨h1, h2⟩
theorem six_of {K : PySem.W.Frag} {t : Addr} {H : Hp} {ds : List PyData} {xs : List V} (q : DtL K t H ds xs) (h : xs.length = 6) : ∃ d0 d1 d2 d3 d4 d5 v0 v1 v2 v3 v4 v5, ds = [d0, d1, d2, d3, d4, d5] ∧ xs = [v0, v1, v2, v3, v4, v5] ∧ Dt K t H d0 v0 ∧ Dt K t H d1 v1 ∧ Dt K t H d2 v2 ∧ Dt K t H d3 v3 ∧ Dt K t H d4 v4 ∧ Dt K t H d5 v5 := by
  obtain ⟨v0, v1, v2, v3, v4, v5, rfl⟩ := list6 h
  obtain ⟨d0, d1, d2, d3, d4, d5, rfl⟩ := list6 (q.len.trans h)
  have a0 := dtl_hd q
  have a1 := dtl_hd a0.2
  have a2 := dtl_hd a1.2
  have a3 := dtl_hd a2.2
  have a4 := dtl_hd a3.2
  have a5 := dtl_hd a4.2
  exact ⟨_, _, _, _, _, _, _, _, _, _, _, _, rfl, rfl, a0.1, a1.1, a2.1, a3.1, a4.1, a5.1⟩
theorem dt_non {K : PySem.W.Frag} {t : Addr} {H : Hp} {d : PyData} {v : V} (h : Dt K t H d v) : decide (v = .non) = isN d := by
  cases d with
  | none => simp only [Dt] at h; subst h; rfl
  | bool b => simp only [Dt] at h; subst h; rfl
  | int b => simp only [Dt] at h; subst h; rfl
  | str b => simp only [Dt] at h; obtain ⟨h, _⟩ := h; subst h; rfl
  | tuple b => simp only [Dt] at h; obtain ⟨_, _, h, _⟩ := h; subst h; rfl
  | list b => simp only [Dt] at h; obtain ⟨_, _, h, _⟩ := h; subst h; rfl
  | dict b => simp [Dt] at h
theorem dep_pt : pointD.depth = 1 := by decide +kernel
theorem pt_dt {K : PySem.W.Frag} {t p : Addr} {H : Hp} (h : SqT K H p [.str "point"]) : Dt K t H pointD (.ref p) := .tup h (.cons (dstr "point") .nil)
theorem eqv_enc_pt (rl : Rl) : PyData.eqv (enc rl) pointD = true ↔ rl = .pt := by
  cases rl with
  | pt => exact ⟨fun _ => rfl, fun _ => rfl⟩
  | un _ _ _ _ => exact ⟨fun h => (by rw [enc, eqv_unit] at h; cases h), fun h => (by cases h)⟩
  | ul _ _ _ _ _ => exact ⟨fun h => (by rw [enc, eqv_unit] at h; cases h), fun h => (by cases h)⟩
theorem same_new {H : Hp} {p : Addr} (h : H p = none) (o : HO) : Same H (upd H p o) := fun b u q => by rw [upd_ne (ne_of_none q h)]; exact q
theorem Same.dt {K : PySem.W.Frag} {t : Addr} {H H' : Hp} {d : PyData} {v : V} (h : Dt K t H d v) (e : Same H H') : Dt K t H' d v := h.on e.ext
theorem Same.sqT {K : PySem.W.Frag} {H H' : Hp} {a : Addr} {xs : List V} (h : SqT K H a xs) (e : Same H H') : SqT K H' a xs := (Same.ext (t := 0) e).sqT h
theorem atMem {xs : List V} {i : Int} (h0 : 0 ≤ i) (h1 : i < xs.length) : ∃ v, atI xs i = some v ∧ v ∈ xs := by
  have hi : i.toNat < xs.length := by omega
  have z := atI_nat (List.getElem?_eq_getElem hi)
  rw [show ((i.toNat : Nat) : Int) = i by omega] at z
  exact ⟨_, z, List.getElem_mem hi⟩
def optI : Option Int → V
  | none => .non
  | some c => .int c
theorem dt_cap {K : PySem.W.Frag} {t : Addr} {H : Hp} (cap : Option Int) : Dt K t H (capD cap) (optI cap) := by
  cases cap with
  | none => exact .non
  | some c => exact .int c
section
variable {X : Cx} {K : PySem.W.Frag} {k : Nat}
theorem ixK_tup (h : X.K = K) : IxR X (rIxT K) := h ▸ ix_tup
theorem ixK_list (h : X.K = K) : IxR X (rIxL K) := h ▸ ix_list
theorem ixK_seq (h : X.K = K) : IxR X (rIx K) := h ▸ ix_seq
end
end L2
namespace L2
open PySem PySem.Spec PyProof.Rows
def rLeS : R2 := fun x y H Q => ∃ a b, x = .str a ∧ y = .str b ∧ Q (.bl (!decide (b.cps.toList < a.cps.toList))) H
theorem op_leS {X : Cx} : OpR X (compareOp .LtE) rLeS := by
  intro pins s σ H x y v u Q I rx ry h
  obtain ⟨a, b, rfl, rfl, q⟩ := h
  obtain ⟨t, rfl⟩ := rx
  obtain ⟨t', rfl⟩ := ry
  exact PySem.P.le_str ⟨.bl _, H, I, rfl, q⟩
def strVs (us : List Value) : List (Str × Tok) := us.map fun u => match u with | .str x t => (x, t) | _ => (Str.empty, 0)
theorem vals_strs : ∀ {xs : List Str} {us : List Value}, Vals (xs.map V.str) us → strValues (strVs us) = us ∧ (strVs us).map (·.1) = xs
  | [], us, r => by cases r; exact ⟨rfl, rfl⟩
  | x :: xs, us, r => by
    cases r with
    | cons r1 r2 =>
      obtain ⟨t, rfl⟩ := r1
      obtain ⟨e1, e2⟩ := vals_strs r2
      refine ⟨?_, ?_⟩
      · show Value.str x t :: strValues (strVs _) = _
        rw [e1]
      · show x :: (strVs _).map (·.1) = _
        rw [e2]
def rJoin (K : PySem.W.Frag) : V → List V → Hp → VK → Prop := fun x vs H Q => ∃ sep l ws, x = .str sep ∧ vs = [.ref l] ∧ SqL K H l (ws.map V.str) ∧ JoinOk sep ws = true ∧ Q (.str (Txt.join sep ws)) H
theorem mt_join {X : Cx} : MtR X "str.join" (rJoin X.K) := by
  intro pins s σ H x vs v us Q I rx rv h
  obtain ⟨sep, l, ws, rfl, rfl, hl, hok, q⟩ := h
  obtain ⟨t, rfl⟩ := rx
  obtain ⟨u, rfl, ru⟩ := rv.one
  cases ru
  obtain ⟨its, r, pl, hz⟩ := I.list hl
  obtain ⟨e1, e2⟩ := vals_strs r
  have hI : s.heap.IsList l (strValues (strVs its)).toArray := by rw [e1]; exact pl.isList
  exact SC.join hI e2 hok fun t' k => ⟨.str _, H, I.tok _, ⟨_, rfl⟩, q⟩
def rAllB (K : PySem.W.Frag) : List V → Hp → VK → Prop := fun xs H Q => ∃ (l : Addr) (bs : List Bool), xs = [.ref l] ∧ SqL K H l (bs.map V.bl) ∧ Q (.bl (bs.all id)) H
theorem vals_bools : ∀ {bs : List Bool} {us : List Value}, Vals (bs.map V.bl) us → us = bs.map Value.bool
  | [], us, r => by cases r; rfl
  | b :: bs, us, r => by
    cases r with
    | cons r1 r2 =>
      cases r1
      rw [vals_bools r2]
      rfl
theorem call_allB {X : Cx} (hc : X.calm = true) : CallR X (.builtin "all") (rAllB X.K) := by
  intro pins s σ H xs us Q I r h
  obtain ⟨l, bs, rfl, hl, q⟩ := h
  obtain ⟨u, rfl, ru⟩ := vals1 r
  cases ru
  obtain ⟨its, rv, pl, hz⟩ := I.list hl
  have e := vals_bools rv
  subst e
  have hI := pl.isList
  have hlt : l < s.heap.objs.size := by obtain ⟨_, e, _⟩ := hI; exact Heap.lt_size e
  refine call_all_walk (wpAny_pyIter_list hI ?_)
  refine ⟨s.heap.objs.size, [s.heap.objs.size, l], [s.heap.objs.size], (bs.map Value.bool).toArray.size, _, _, fun i => (bs[i]?).getD true, rfl, Walks.list (A := X.A.in1) (I.ok.hd hc) _ l (Nat.ne_of_lt hlt) (bs.map Value.bool).toArray,
    ⟨⟨_, Heap.get?_push_size _ rfl, rfl, rfl⟩, hI.push _⟩, fun i v s' Q' E' hP hQ => ?_, fun h' tk hk => ?_⟩
  · have hP' : (bs.map Value.bool)[i]? = some v := by simpa using hP
    rw [List.getElem?_map] at hP'
    cases e : bs[i]? with
    | none => rw [e] at hP'; cases hP'
    | some b =>
      rw [e] at hP'
      cases hP'
      simp only [e, Option.getD_some] at hQ
      exact wpAny_truthy_bool hQ
  · have e : ((List.range (bs.map Value.bool).toArray.size).all fun i => (bs[i]?).getD true) = bs.all id := by
      rw [List.size_toArray, List.length_map]
      exact PyProof.Rows.LSm.range_all bs
    rw [e]
    refine ⟨.bl _, H, I.kept (t' := tk) (fun b o q => hk b o (fun hm => ?_) (Heap.get?_push_of_some _ q)), rfl, q⟩
    rw [List.mem_singleton.mp hm] at q
    exact Nat.lt_irrefl _ (Heap.lt_size q)
def Its (x : Str) : It := ⟨fun i _ => i < x.cps.size, fun i H v H' => H' = H ∧ ∃ c, x.cps[i]? = some c ∧ v = .str ⟨#[c]⟩, fun i _ => x.cps.size ≤ i⟩
theorem turn_ascii {P : Program} {w : World} {K : PySem.W.Frag} {tg : Expr} (x : Str) (t : Tok) (it : Addr) : Turn P w K tg (Its x) [it] it (fun i h => h.IsStrIter it "str_ascii_iterator" x t i) where
  mem := by simp
  obj := fun i h st b hb => by
    have e : b = it := by simpa using hb
    subst e
    obtain ⟨o, e, c, d⟩ := st
    exact ⟨o, e, fun v z => by rw [d] at z; cases z⟩
  keep := fun i h h' st k => by
    obtain ⟨o, e, c, d⟩ := st
    exact ⟨o, k it (by simp) o e, c, d⟩
  item := by
    intro X hP hw hK hc i pins s σ H E I hf st hg
    subst hP hw hK
    have hg' : i < x.cps.size := hg
    obtain ⟨f0, f1, f2, f3, f4, f5⟩ := hf it (by simp)
    refine wpAny_pyNext_ascii_item st (c := x.cps[i]) (by simp [hg']) fun h' st' sb => ?_
    have I1 : Inv X pins σ H { s with heap := h', toks := s.toks + 1 } := I.turned (t' := s.toks + 1) (fun b o hb e => sb.extBut b o hb e) f0 f1 f3 f4 f5
    obtain ⟨o, e, c, d⟩ := id st'
    exact ⟨_, rfl, go_of (s := { s with heap := h', toks := s.toks + 1 }) e c d (by decide) ⟨.str ⟨#[x.cps[i]]⟩, H, I1, ⟨_, rfl⟩, ⟨rfl, _, by simp [hg'], rfl⟩, st', fun b hb => (hf b hb).1⟩⟩
  done := by
    intro X hP hw hK hc i pins s σ H E I hf st hg
    subst hP hw hK
    have hg' : x.cps.size ≤ i := hg
    obtain ⟨f0, f1, f2, f3, f4, f5⟩ := hf it (by simp)
    exact wpAny_pyNext_ascii_end (I.ok.hd hc) st (by simp [hg']) fun h' eb => ⟨rfl, I.turned (t' := s.toks) (fun b o hb e => eb b o hb e) f0 f1 f3 f4 f5⟩
  self := fun _ _ _ _ _ st h => wpAny_pyIter_striter_ascii st h
def iStr (tl : TE) : TI := fun σ H R => tl σ H fun v H1 => ∃ x, v = .str x ∧ x.cps.all (· < 128) = true ∧ R (Its x) H1
theorem pi_str {X : Cx} {tg l : Expr} {tl : TE} (hl : PE X l tl) : PI X tg l (iStr tl) := by
  intro pins s σ H R I h
  refine thn (hl pins s σ H _ I h) fun v s1 ⟨z, H1, I1, r1, q1⟩ => ?_
  obtain ⟨x, e, ha, q⟩ := q1
  subst e
  obtain ⟨t, rfl⟩ := r1
  refine wpAny_pyIter_ascii ha ?_
  refine ⟨s1.heap.objs.size, [s1.heap.objs.size], _, _, H1, rfl, I1.kept (t' := s1.toks) fun b o e => Heap.get?_push_of_some _ e, turn_ascii x t _, ⟨_, Heap.get?_push_size _ rfl, rfl, rfl⟩, fun b hb => ?_, q⟩
  have e : b = s1.heap.objs.size := by simpa using hb
  subst e
  exact I1.fpOk (Nat.le_refl _) (I1.hok.fresh (Nat.le_refl _))
theorem bt_all : bootBuiltins "all" = some (.builtin "all") := by decide +kernel
theorem comp_str {σ : St} {H : Hp} {Q : VK} {te ta : TE} {x : Str} (f : Nat → V) (hta : ∀ R : VK, R (.str x) H → ta σ H R) (ha : x.cps.all (· < 128) = true) (hz : x.cps.size ≤ 1000)
    (elt : ∀ c H', c ∈ x.cps.toList → Same H H' → ∀ Q' : VK, (∀ H'', Same H' H'' → Q' (f c) H'') → te (some (.str ⟨#[c]⟩) :: σ) H' Q')
    (q : ∀ D H', Same H H' → H D = none → H' D = some (.lst (x.cps.toList.map f)) → Q (.ref D) H') : tComp (iStr ta) tTrue te σ H Q := by
  unfold tComp iStr
  refine hta _ ⟨x, rfl, ha, fun D hD => ⟨fun i m H' => m = x.cps.size - i ∧ i ≤ x.cps.size ∧ Same H H' ∧ H' D = some (.lst ((x.cps.toList.take i).map f)),
    ⟨_, rfl, Nat.zero_le _, fun b o h => by rw [upd_ne (ne_of_none h hD)]; exact h, upd_same⟩, ?_⟩⟩
  rintro i m H' ⟨rfl, hi, S, hD'⟩
  by_cases c : i = x.cps.size
  · refine .inl ⟨Nat.le_of_eq c.symm, q D H' S hD ?_⟩
    rw [List.take_of_length_le (by rw [Array.length_toList]; omega)] at hD'
    exact hD'
  · have hlt : i < x.cps.size := by omega
    refine .inr ⟨hlt, ?_⟩
    rintro x' H'' ⟨rfl, c', hc, rfl⟩
    have hc2 : x.cps.toList[i]? = some c' := by rw [Array.getElem?_toList]; exact hc
    unfold tTrue
    dsimp only
    rw [if_pos rfl]
    refine elt c' H'' (List.mem_of_getElem? hc2) S _ fun H3 S3 => ?_
    have h3 := S3 _ _ hD'
    refine ⟨_, h3, small1000 (by rw [List.length_map, List.length_take]; omega), _, by omega, rfl, by omega, fun b o h => ?_, ?_⟩
    · rw [upd_ne (ne_of_none h hD)]
      exact S3 _ _ (S _ _ h)
    · rw [upd_same, List.take_succ, hc2]
      simp
end L2
namespace M
open PySem
def encS : Sd → PyData
  | .nil => .tuple []
  | .cn z o w => .tuple [.int z, .int o, encS w]
def lastE : Option Rl → PyData
  | none => .none
  | some l => enc l
mutual
def fl (bb : Bool) : PyData → Bool
  | .int _ => true
  | .bool _ => bb
  | .tuple ds => decide (ds.length ≤ 100) && fls bb ds
  | _ => false
def fls (bb : Bool) : List PyData → Bool
  | [] => true
  | d :: ds => fl bb d && fls bb ds
end
def lenS : Sd → Nat
  | .nil => 0
  | .cn _ _ w => lenS w + 1
theorem dep_encS : ∀ s : Sd, (encS s).depth = lenS s + 1
  | .nil => by simp [encS, PyData.depth, PyData.depthAll, lenS]
  | .cn z o w => by simp [encS, PyData.depth, PyData.depthAll, lenS, dep_encS w]
theorem len_shp : ∀ {s : Sd} {r : Rl}, Shp r s → lenS s ≤ depth r
  | .nil, r, _ => Nat.zero_le _
  | .cn z o w, r, ⟨hn, _, _, h⟩ => by
    have := len_shp h
    have := depth_now hn z o
    simp only [lenS]
    omega
theorem dep_int (i : Int) : (PyData.int i).depth = 0 := by simp [PyData.depth]
theorem now_none {r : Rl} (h : lastR r = none) (z o : Int) : now r z o = innR r := by unfold now; rw [h]
theorem now_some {r l : Rl} (h : lastR r = some l) (z o : Int) : now r z o = if atCap (capR r) z o then l else innR r := by unfold now; rw [h]
theorem cap_of_last {r l : Rl} (h : lastR r = some l) : ∃ c, capR r = some c := by
  cases e : capR r with
  | none => rw [cap_last e] at h; cases h
  | some c => exact ⟨c, rfl⟩
end M
namespace L2
open PySem PySem.Spec PyProof.Rows M
theorem noL_encS : ∀ s : Sd, noL (encS s) = true
  | .nil => rfl
  | .cn z o w => by simp only [encS, noL, noLs, noL_encS w]; rfl
def LastE (K : PySem.W.Frag) (H : Hp) : Option Rl → V → Prop
  | none, v => v = .non
  | some l, v => RlV K H l v
theorem LastE.is {K : PySem.W.Frag} {H : Hp} {l : Option Rl} {v : V} (h : LastE K H l v) : decide (v = .non) = l.isNone := by
  cases l with
  | none => rw [show v = .non from h]; rfl
  | some l =>
    have := dt_non (show Dt K 0 H (enc l) v from h)
    rw [isN_enc] at this
    exact this
theorem LastE.yes {K : PySem.W.Frag} {H : Hp} {v : V} {r : Rl} (h : LastE K H (some r) v) : v ≠ .non := by
  have := h.is
  simpa using this
def StV (K : PySem.W.Frag) (H : Hp) (s : Sd) (v : V) : Prop := Dt K 0 H (encS s) v
section
variable {K : PySem.W.Frag} {H H' : Hp} {s w : Sd} {z o : Int} {v : V} {t a p : Addr} {rl : Rl}
theorem StV.of (h : Dt K t H (encS s) v) : StV K H s v := Dt.tk (.refl H) _ _ (noL_encS s) h
theorem StV.tk (h : StV K H s v) (e : Tk K H H') : StV K H' s v := Dt.tk e _ _ (noL_encS s) h
theorem StV.same (h : StV K H s v) (e : Same H H') : StV K H' s v := h.tk e.tk
theorem st_nil (h : SqT K H a []) : StV K H .nil (.ref a) := .of (t := 0) (.tup h .nil)
theorem st_cn (h : SqT K H a [.int z, .int o, v]) (q : StV K H w v) : StV K H (.cn z o w) (.ref a) := .of (t := 0) (.tup h (.cons (.int _) (.cons (.int _) (.cons q .nil))))
theorem rl_acc (h : RlV K H rl v) (hn : rl ≠ .pt) : ∃ (a : Addr) (v4 v5 : V), v = .ref a ∧ SqT K H a [.str "unit", .int (toR rl), .int (leadR rl), optI (capR rl), v4, v5] ∧ RlV K H (innR rl) v4 ∧ LastE K H (lastR rl) v5 := by
  have key : ∀ (to lead : Int) (cap : Option Int) (i : Rl) (l : Option Rl), enc rl = unitD (.int to) (.int lead) (capD cap) (enc i) (lastE l) → ∃ (a : Addr) (v4 v5 : V), v = .ref a ∧ SqT K H a [.str "unit", .int to, .int lead, optI cap, v4, v5] ∧ RlV K H i v4 ∧ LastE K H l v5 := by
    intro to lead cap i l e
    unfold RlV at h
    rw [e] at h
    obtain ⟨a, xs, rfl, hs, hx⟩ := h.tup_inv
    have hl : xs.length = 6 := hx.len.symm
    obtain ⟨_, _, _, _, _, _, v0, v1, v2, v3, v4, v5, e', rfl, h0, h1, h2, h3, h4, h5⟩ := six_of hx hl
    cases e'
    simp only [Dt] at h0 h1 h2
    obtain ⟨rfl, _⟩ := h0
    subst h1 h2
    have e3 : v3 = optI cap := by
      cases cap with
      | none => simp only [capD, Dt] at h3; exact h3
      | some c => simp only [capD, Dt] at h3; exact h3
    subst e3
    refine ⟨a, v4, v5, rfl, hs, h4, ?_⟩
    cases l with
    | none => simp only [lastE, Dt] at h5; exact h5
    | some l => exact h5
  cases rl with
  | pt => exact absurd rfl hn
  | un to lead cap i => exact key to lead cap i none rfl
  | ul to lead cap i l => exact key to lead (some cap) i (some l) rfl
end
section
variable {D : Ends} {σ : St} {H : Hp} {K : PySem.W.Frag} {ta te : TE} {g : TG} {gs : TGs} {Q : VK} {v : V} {vs : List V} {G : St → Hp → Prop} {n i : Nat} {ti : TIp}
theorem r_neB {i j : Bool} : rNe (.bl i) (.bl j) H Q = Q (.bl (!(i == j))) H := rfl
theorem r_gtup : gTup K n gs v σ H G = ∃ a xs, v = .ref a ∧ SqT K H a xs ∧ xs.length = n ∧ gs xs σ H G := rfl
theorem r_augN : tAug i te ti D σ H = ∃ x, σ[i]? = some (some x) ∧ te σ H fun y H1 => ti x y H1 fun z H2 => D.nx (σ.set i (some z)) H2 := rfl
end
theorem comp_rg {σ : St} {H : Hp} {Q : VK} {te : TE} {ta : TA} {m : Nat} (f : Nat → V) (hta : ∀ R : List V → Hp → Prop, R [.int m] H → ta σ H R) (hz : m ≤ 1000)
    (elt : ∀ i H', i < m → Same H H' → ∀ Q' : VK, (∀ H'', Same H' H'' → Q' (f i) H'') → te (some (.int (0 + i)) :: σ) H' Q')
    (q : ∀ D H', Same H H' → H D = none → H' D = some (.lst ((List.range m).map f)) → Q (.ref D) H') : tComp (iRng1 ta) tTrue te σ H Q := by
  unfold tComp iRng1
  refine hta _ ⟨m, rfl, by omega, by omega, fun D hD => ⟨fun i n H' => n = m - i ∧ i ≤ m ∧ Same H H' ∧ H' D = some (.lst ((List.range i).map f)),
    ⟨_, rfl, Nat.zero_le _, fun b o h => by rw [upd_ne (ne_of_none h hD)]; exact h, upd_same⟩, ?_⟩⟩
  have em : ((m : Int)).toNat = m := by omega
  rw [em]
  rintro i n H' ⟨rfl, hi, S, hD'⟩
  by_cases c : i = m
  · subst c
    exact .inl ⟨Nat.le_refl _, q D H' S hD hD'⟩
  · have hlt : i < m := by omega
    refine .inr ⟨hlt, ?_⟩
    rintro x' H'' ⟨rfl, rfl⟩
    unfold tTrue
    dsimp only
    rw [if_pos rfl]
    refine elt i H'' hlt S _ fun H3 S3 => ?_
    have h3 := S3 _ _ hD'
    refine ⟨_, h3, small1000 (by rw [List.length_map, List.length_range]; omega), _, by omega, rfl, by omega, fun b o h => ?_, ?_⟩
    · rw [upd_ne (ne_of_none h hD)]
      exact S3 _ _ (S _ _ h)
    · rw [upd_same, List.range_succ, List.map_append]
      rfl
def TapeS (K : PySem.W.Frag) (ns : List Int) (t sc : Addr) (H : Hp) : Prop := ∃ (sp cr wy : Int), H t = some (.lst [.ref sc, .int sp, .int cr, .int wy]) ∧ ScL K t H sc (ns.map V.int)
set_option genInjectivity false in
set_option genSizeOf false in
structure CurS (K : PySem.W.Frag) (ns : List Int) (t sc : Addr) (H₀ H : Hp) : Prop where
  tape : TapeS K ns t sc H
  ext : Ext t H₀ H
section
variable {K : PySem.W.Frag} {ns : List Int} {t sc p : Addr} {H₀ H H' : Hp}
theorem Tape.s (h : Tape K ns t H) : ∃ sc, TapeS K ns t sc H := h
theorem TapeS.tape (h : TapeS K ns t sc H) : Tape K ns t H := ⟨sc, h⟩
theorem CurS.cur (c : CurS K ns t sc H₀ H) : Cur K ns t H₀ H := ⟨c.tape.tape, c.ext⟩
theorem TapeS.keep {o : HO} (h0 : TapeS K ns t sc H₀) (hp : H₀ p = none) (h : TapeS K ns t sc H) : TapeS K ns t sc (upd H p o) := by
  obtain ⟨_, _, _, e0, l0⟩ := h0
  have nt : p ≠ t := (ne_of_none e0 hp).symm
  obtain ⟨sp, cr, wy, e, l⟩ := h
  refine ⟨sp, cr, wy, by rw [upd_ne nt.symm]; exact e, ?_⟩
  have mv : sc ≠ p → ScL K t (upd H p o) sc (ns.map V.int) := fun ne => by
    rcases l with ⟨l1, l2⟩ | l
    · refine .inl ⟨l1, ?_⟩
      rcases l2 with (q | ⟨u, q⟩) | q
      · exact .inl (.inl (by rw [upd_ne ne]; exact q))
      · exact .inl (.inr ⟨u, by rw [upd_ne ne]; exact q⟩)
      · exact .inr q
    · exact .inr l
  rcases l0 with ⟨_, (q | ⟨u, q⟩) | q⟩ | l0
  · exact mv (ne_of_none q hp)
  · exact mv (ne_of_none q hp)
  · exact .inr fun _ => .inr q
  · exact .inr l0
theorem CurS.keep {o : HO} (h0 : TapeS K ns t sc H₀) (hp : H₀ p = none) (c : CurS K ns t sc H₀ H) : CurS K ns t sc H₀ (upd H p o) :=
  ⟨TapeS.keep h0 hp c.tape, fun b u n q => by rw [upd_ne (ne_of_none q hp)]; exact c.ext b u n q⟩
theorem CurS.then (c : CurS K ns t sc H₀ H) (d : CurS K ns t sc H H') : CurS K ns t sc H₀ H' := ⟨d.tape, c.ext.trans d.ext⟩
theorem TapeS.cur (h : TapeS K ns t sc H) : CurS K ns t sc H H := ⟨h, .refl H⟩
end
section
variable (K : PySem.W.Frag) (ns : List Int)
def spDrawS : Sp := fun vs H Q _ => ∃ t sc m, vs = [.ref t, .int m] ∧ 0 < m ∧ m < 1073741824 ∧ TapeS K ns t sc H ∧ ∀ (r : Int) (H' : Hp), 0 ≤ r → r < m → CurS K ns t sc H H' → Q (.int r) H'
def spNow : Sp := fun vs H Q _ => ∃ rl v z o, vs = [v, .int z, .int o] ∧ RlV K H rl v ∧ rl ≠ .pt ∧ ∀ v', RlV K H (now rl z o) v' → Q v' H
def spBegun (n : Nat) : Sp := fun vs H Q _ => ∃ rl v, vs = [v] ∧ RlV K H rl v ∧ depth rl < n ∧ ∀ r H', Same H H' → StV K H' (begn rl) r → Q r H'
def spBegunIn (n : Nat) : Sp := fun vs H Q _ => ∃ rl v z o, vs = [v, .int z, .int o] ∧ RlV K H rl v ∧ rl ≠ .pt ∧ depth rl < n ∧ ∀ r H', Same H H' → StV K H' (.cn z o (begn (now rl z o))) r → Q r H'
end
theorem drawS_of {K : PySem.W.Frag} {ns : List Int} {t sc : Addr} {H : Hp} {Q : VK} {E : XK} {m : Int} (T : TapeS K ns t sc H) (h : ∀ (r : Int) (H' : Hp), 0 ≤ r → r < m → CurS K ns t sc H H' → Q (.int r) H') (h0 : 0 < m := by decide) (h1 : m < 1073741824 := by decide) : spDrawS K ns [.ref t, .int m] H Q E := ⟨t, sc, m, rfl, h0, h1, T, h⟩
theorem comp_draw {K : PySem.W.Frag} {ns : List Int} {t sc : Addr} {σ : St} {H : Hp} {Q : VK} {te : TE} {ta : TA} {m : Nat} (Pr : V → Prop) (hta : ∀ R : List V → Hp → Prop, R [.int m] H → ta σ H R) (hz : m ≤ 1000) (T : TapeS K ns t sc H)
    (elt : ∀ i H', i < m → CurS K ns t sc H H' → ∀ Q' : VK, (∀ y H'', Pr y → CurS K ns t sc H' H'' → Q' y H'') → te (some (.int (0 + i)) :: σ) H' Q')
    (q : ∀ D ys H', CurS K ns t sc H H' → H D = none → H' D = some (.lst ys) → ys.length = m → (∀ y ∈ ys, Pr y) → Q (.ref D) H') : tComp (iRng1 ta) tTrue te σ H Q := by
  unfold tComp iRng1
  refine hta _ ⟨m, rfl, by omega, by omega, fun D hD => ⟨fun i n H' => n = m - i ∧ i ≤ m ∧ CurS K ns t sc H H' ∧ ∃ ys, H' D = some (.lst ys) ∧ ys.length = i ∧ ∀ y ∈ ys, Pr y,
    ⟨_, rfl, Nat.zero_le _, T.cur.keep T hD, [], upd_same, rfl, fun y hy => by simp at hy⟩, ?_⟩⟩
  have em : ((m : Int)).toNat = m := by omega
  rw [em]
  have nDt : D ≠ t := T.tape.ne hD
  rintro i n H' ⟨rfl, hi, C, ys, hD', hl, hP⟩
  by_cases c : i = m
  · exact .inl ⟨Nat.le_of_eq c.symm, q D ys H' C hD hD' (by omega) hP⟩
  · have hlt : i < m := by omega
    refine .inr ⟨hlt, ?_⟩
    rintro x' H'' ⟨rfl, rfl⟩
    unfold tTrue
    dsimp only
    rw [if_pos rfl]
    refine elt i H'' hlt C _ fun y H3 hy C3 => ?_
    have h3 := C3.ext _ _ (fun z => absurd z nDt) hD'
    refine ⟨_, h3, small1000 (by omega), _, by omega, rfl, by omega, (C.then C3).keep T hD, ys ++ [y], upd_same, by simp [hl], fun u hu => ?_⟩
    rcases List.mem_append.mp hu with h | h
    · exact hP u h
    · simp only [List.mem_singleton] at h; subst h; exact hy
theorem cutV_take {xs : List V} {k : Nat} : cutV xs none (some (k : Int)) = xs.take k := by
  unfold cutV
  have h1 : HT.sIx xs.length 0 none = 0 := rfl
  have h2 : HT.sIx xs.length xs.length (some (k : Int)) = min k xs.length := by
    show (if ((k : Nat) : Int) < 0 then (((k : Nat) : Int) + (xs.length : Int)).toNat else min ((k : Nat) : Int).toNat xs.length) = _
    rw [if_neg (by omega)]
    simp
  rw [h1, h2, List.drop_zero, Nat.sub_zero]
  rcases Nat.le_total k xs.length with h | h
  · rw [Nat.min_eq_left h]
  · rw [Nat.min_eq_right h, List.take_of_length_le h, List.take_of_length_le (Nat.le_refl _)]
def StL (K : PySem.W.Frag) (H : Hp) (ss : List Sd) (vs : List V) : Prop := DtL K 0 H (ss.map encS) vs
section
variable {K : PySem.W.Frag} {H H' : Hp} {ss qs : List Sd} {s : Sd} {v : V} {vs us : List V} {t : Addr}
theorem noLs_encS : ∀ rs : List Sd, noLs (rs.map encS) = true
  | [] => rfl
  | r :: rs => by simp only [List.map_cons, noLs, noL_encS r, noLs_encS rs]; rfl
theorem StL.len (h : StL K H ss vs) : ss.length = vs.length := by
  have := DtL.len h
  rwa [List.length_map] at this
end
end L2
namespace L2
open PySem PySem.Spec PySem.Calls PyProof.Rows
def CX1 (P : Program) (w : World) : CXT := fun outer H s E e s' => ∃ (ea t C : Addr) (B : Heap) (H' : Hp), e = .ref ea ∧ s'.os = s.os ∧ AllBare s'.gens ∧ Heap.FlyingW B outer ea (.ref C) (.ref t) s'.heap ∧
  (∀ h : Heap, B.StaysIn h → s'.heap.UpToSlots h → Un (frs outer) [] H H' s.heap h ∧ HOk P w H' h ∧ h.FunFrames B outer) ∧ (∀ b o, H' b = some o → ∃ u, B.get? b = some u) ∧ (∀ b o, s.heap.get? b = some o → b ∈ frs outer ∨ ∃ u, B.get? b = some u) ∧ E (.ref C) none H'
section
variable {P : Program} {w : World} {K : PySem.W.Frag} {mg : Str → Option Value} {base : Heap} {N : List Str} {qual : Str} {scope : Scope} {f : Addr} {cd : Value} {A : Around} {outer : List Env} {s0 : Shared} {H0 : Hp} {E : XK}
end
end L2
namespace L2
open PySem PySem.Spec PySem.Calls PyProof.Rows
def tRaise (t : TA) (R : Hp → Prop) : TS := fun _ σ H => t σ H fun vs H1 => vs.length ≤ sizeLine ∧ R H1
section
variable {X : Cx} {k : Nat} {x : Str} {ps : List Str} {sp : Sp} {e : Expr} {es : List Expr} {t : TA} {p pos : Pos}
def Xt (X : Cx) (pn : List (Addr × Obj)) (Ef : St → XK) : Cx := ({ X with pn := pn } : Cx).wish fun ev s' => ∃ pins σ H s, Inv { X with pn := pn } pins σ H s ∧ CX1 X.prog X.w X.stack H s (Ef σ) ev s'
def tCallX (sp : Sp) (Ef : St → XK) (t : TA) : TE := fun σ H Q => t σ H fun vs H1 => sp vs H1 Q (Ef σ)
end
end L2
namespace L2
open PySem PySem.Spec PySem.Calls PyProof.Rows
def excO (a C : Addr) : HO := .ext fun h => ∃ oe vs, h.get? a = some oe ∧ oe.cls = .ref C ∧ oe.data = .fields vs
theorem inv_track {X : Cx} {pins : List (Addr × Obj)} {σ : St} {H : Hp} {s : Shared} {a : Addr} {o : HO} (I : Inv X pins σ H s) (hn : H a = none) (h0 : X.s₀.heap.get? a = none) (hL : a ≠ X.env.locals)
    (hc : ∀ x c, X.env.cells.lookup x = some c → c ≠ a) (hp : ∀ p ∈ X.pn ++ pins, p.1 ≠ a) (new : ObjOk X.prog X.w (upd H a o) s.heap a o) : Inv X pins σ (upd H a o) s := by
  have ne : ∀ b u, H b = some u → b ≠ a := fun b u e => ne_of_none e hn
  have ne0 : ∀ b u, X.s₀.heap.get? b = some u → b ≠ a := fun b u e z => by rw [z, h0] at e; cases e
  have u := I.base
  refine ⟨I.ok, I.os, I.bare, ⟨u.keep, u.slot, fun b ob e n hx => by rw [upd_ne (ne0 b ob e)]; exact u.free b ob e n hx, u.there, fun b xs e => ?_, fun b ob v e => ?_, fun b ps e => ?_⟩, I.loc, I.cell, by rw [upd_ne hL.symm]; exact I.free,
    fun x c e => by rw [upd_ne (hc x c e)]; exact I.freeC x c e, fun p hp' => ?_, fun b v e => ?_, I.len⟩
  · have := u.tups b xs e
    rw [upd_ne (ne b _ this)]; exact this
  · have := u.frzs b ob v e
    rw [upd_ne (ne b _ this)]; exact this
  · obtain ⟨m, this⟩ := u.tbls b ps e
    exact ⟨m, by rw [upd_ne (ne b _ this)]; exact this⟩
  · obtain ⟨q1, q2, q3⟩ := I.pin p hp'
    exact ⟨q1, by rw [upd_ne (hp p hp')]; exact q2, q3⟩
  · by_cases z : b = a
    · subst z
      rw [upd_same] at e
      cases e
      exact new
    · rw [upd_ne z] at e
      exact (I.hok b v e).stay (fun _ _ _ q => q) (fun c q => by rw [upd_ne (ne c _ q)]; exact q) fun c xs q => by rw [upd_ne (ne c _ q)]; exact q
end L2
namespace L2
open PySem PySem.Spec PySem.Calls PyProof.Rows
def Xh (X : Cx) (pn : List (Addr × Obj)) (ea : Addr) : Cx := { X with A := X.A.mark (some (.ref ea)), calm := false, pn := pn, xe := fun _ _ => False }
def tTry (Sub : Addr → Prop) (i : Nat) (tb : (St → XK) → TS) (ts : TS) : TS := fun D σ H =>
  tb (fun σ' cls _ H' => ∃ C, cls = .ref C ∧ Sub C ∧ ∀ ea, H' ea = none → ts { D with nx := fun σ2 H2 => D.nx (σ2.set i none) H2, bk := fun σ2 H2 => D.bk (σ2.set i none) H2, ct := fun σ2 H2 => D.ct (σ2.set i none) H2 } (σ'.set i (some (.ref ea))) (upd H' ea (excO ea C))) D σ H
end L2
namespace L2
open PySem PySem.Spec PySem.Calls PyProof.Rows PySem.W
section
variable {prog : Program} {w : World} {A : Around} {E : Value → Shared → Prop} {h : Heap} {g : Array GenState} {d : Drawn} {t : Nat} {os : OsState} {a C : Addr} {o : Obj} {K : Frag}
end
end L2
namespace L2
open PySem PySem.Spec PySem.Calls PyProof.Rows
section
variable {X : Cx}
end
set_option genInjectivity false in
set_option genSizeOf false in
structure RoomH (k : Nat) (A : Around) : Prop where
  dp : A.depth + 3 * k + 5 < recursionLimit
  un : A.units + 16 * k + 200 < cLine
  gd : A.guards = some []
theorem Room.h {k : Nat} {A : Around} (r : Room k A) : RoomH k A := ⟨r.dp, r.un, r.gd⟩
theorem RoomH.r {k : Nat} {A : Around} (r : RoomH k A) : Room k { A with handled := none } := ⟨rfl, r.dp, r.un, r.gd⟩
def cxH (P : Program) (w : World) (K : PySem.W.Frag) (mg : Str → Option Value) (base : Heap) (N : List Str) (qual : Str) (scope : Scope) (f : Addr) (cd : Value) (A : Around) (outer : List Env) (s : Shared) (H : Hp) : Cx :=
  { cxOf CX0 P w K mg base N qual scope f cd A outer s H E0 with calm := false, xe := fun _ _ => False }
section
variable {D : Ends} {σ : St} {H : Hp} {K : PySem.W.Frag} {Q : VK} {t : TA}
theorem r_raise {R : Hp → Prop} : tRaise t R D σ H = t σ H fun vs H1 => vs.length ≤ sizeLine ∧ R H1 := rfl
theorem r_callX {sp : Sp} {Ef : St → XK} : tCallX sp Ef t σ H Q = t σ H fun vs H1 => sp vs H1 Q (Ef σ) := rfl
end
end L2
namespace L2
open PySem PySem.Spec PySem.Calls PyProof.Rows
section
variable {X : Cx}
def rCatA (K : PySem.W.Frag) : R2 := fun x y H Q => ∃ a b xs ys, x = .ref a ∧ y = .ref b ∧ SqT K H a xs ∧ SqT K H b ys ∧ xs.length + ys.length ≤ sizeLine ∧ ∀ p H', Same H H' → SqT K H' p (xs ++ ys) → Q (.ref p) H'
theorem op_catA : OpR X (binaryOp .Add) (rCatA X.K) := by
  intro pins s σ H x y v u Q I rx ry h
  obtain ⟨a, b, xs, ys, rfl, rfl, ha, hb, hz, q⟩ := h
  by_cases hx : xs = []
  · subst hx
    cases rx
    cases ry
    obtain ⟨its, r1, p1, _⟩ := I.tuple ha
    obtain ⟨its2, r2, p2, _⟩ := I.tuple hb
    cases r1
    obtain ⟨⟨cls, dd, data, sl⟩, ho, hc, n, hd⟩ := id p1
    obtain ⟨⟨cls2, dd2, data2, sl2⟩, ho2, hc2, n2, hd2⟩ := id p2
    simp only at hc hd hc2 hd2
    subst hc hd hc2 hd2
    exact concat_meets ⟨_, ho, rfl⟩ ⟨_, ho2, rfl⟩ noFill_tuple_add seq_tuple_add PySem.F.slot_tuple_add PySem.F.entry_tuple_add (PySem.F.args_tuple_add_2 _ _)
      (tuple_addW0 a b _ _ n n2 dd dd2 sl sl2 (by simp)) ⟨ho, ho2, ⟨.ref b, H, I, rfl, q b H (.refl H) (by simpa using hb)⟩⟩
  · exact op_catT pins s σ H _ _ v u Q I rx ry ⟨a, b, xs, ys, rfl, rfl, ha, hb, hx, hz, fun z => q a H (.refl H) (by rw [z, List.append_nil]; exact ha), fun z p hp => q p _ (fun b o e => by rw [upd_ne (ne_of_none e hp)]; exact e) (.of upd_same)⟩
end
theorem noFill_tuple_mul : fillsNumberSlot (.type "tuple") "mul" = pure false :=
  PySem.fillsNumberSlot_seq (id := "tuple.__mul__") (r := some (.builtin "tuple.__rmul__")) PySem.F.slot_tuple_mul.lookup (by decide +kernel) PySem.F.slot_tuple_rmul.lookup (by decide +kernel)
theorem repeat_tuple : seqRepeat? (.type "tuple") = pure (some (.builtin "tuple.__mul__")) := by
  unfold seqRepeat?
  rw [PySem.seqSlot_of (T := "tuple") (name := "__mul__") (id := "tuple.__mul__") PySem.F.slot_tuple_mul.lookup (by decide +kernel)]
  rw [PySem.seqSlot_of (T := "tuple") (name := "__rmul__") (id := "tuple.__rmul__") PySem.F.slot_tuple_rmul.lookup (by decide +kernel)]
  rfl
theorem rmul_tuple (a : Int) (t : Tok) (l : Addr) (items : Array Value) (n : Nat) (dd : Option Addr) (sl : Array (Option Value)) :
    Meets (Builtin.«int.__rmul__» ⟨[.int a t, .ref l], []⟩) (fun _ R s => s.heap.get? l = some { cls := .type "tuple", dict := dd, data := .seq items n, slots := sl } ∧ R (.ok (.ret Value.notImplemented)) s) :=
  .of_wp fun prog w A R s h => by
    obtain ⟨hp, g, d, tk, os⟩ := s
    obtain ⟨hl, h⟩ := h
    wp_walk
    exact ⟨_, rfl, h⟩
theorem mul_tuple1 (t : Tok) (l : Addr) (items : Array Value) (n : Nat) (dd : Option Addr) (sl : Array (Option Value)) :
    Meets (Builtin.«tuple.__mul__» ⟨[.ref l, .int 1 t], []⟩) (fun _ R s => s.heap.get? l = some { cls := .type "tuple", dict := dd, data := .seq items n, slots := sl } ∧ R (.ok (.ret (.ref l))) s) :=
  .of_wp fun prog w A R s h => by
    obtain ⟨hp, g, d, tk, os⟩ := s
    obtain ⟨hl, h⟩ := h
    have f1 := AutoSeq1.idx_int
    have f2 := AutoSeq1.sub_tuple_tuple
    wp_walk using wpAny_loadPart' hl
    exact ⟨_, rfl, h⟩
theorem mul_tuple2 (t : Tok) (l : Addr) (v : Value) (n : Nat) (dd : Option Addr) (sl : Array (Option Value)) :
    Meets (Builtin.«tuple.__mul__» ⟨[.ref l, .int 2 t], []⟩) (fun _ R s => s.heap.get? l = some { cls := .type "tuple", dict := dd, data := .seq #[v] n, slots := sl } ∧ R (.ok (.ret (.ref s.heap.objs.size))) { s with heap := s.heap.push { cls := .type "tuple", data := .seq #[v, v] } }) :=
  .of_wp fun prog w A R s h => by
    obtain ⟨hp, g, d, tk, os⟩ := s
    obtain ⟨hl, h⟩ := h
    have f1 := AutoSeq1.idx_int
    have f2 := AutoSeq1.sub_tuple_tuple
    wp_walk using wpAny_loadPart' hl
    exact ⟨_, rfl, h⟩
theorem mul_tuple3 (t : Tok) (l : Addr) (v : Value) (n : Nat) (dd : Option Addr) (sl : Array (Option Value)) :
    Meets (Builtin.«tuple.__mul__» ⟨[.ref l, .int 3 t], []⟩) (fun _ R s => s.heap.get? l = some { cls := .type "tuple", dict := dd, data := .seq #[v] n, slots := sl } ∧ R (.ok (.ret (.ref s.heap.objs.size))) { s with heap := s.heap.push { cls := .type "tuple", data := .seq #[v, v, v] } }) :=
  .of_wp fun prog w A R s h => by
    obtain ⟨hp, g, d, tk, os⟩ := s
    obtain ⟨hl, h⟩ := h
    have f1 := AutoSeq1.idx_int
    have f2 := AutoSeq1.sub_tuple_tuple
    wp_walk using wpAny_loadPart' hl
    exact ⟨_, rfl, h⟩
def rRepT (K : PySem.W.Frag) : R2 := fun x y H Q => ∃ a, ∃ v : V, ∃ k : Nat, x = .ref a ∧ y = .int k ∧ 1 ≤ k ∧ k ≤ 3 ∧ SqT K H a [v] ∧ ∀ p H', Same H H' → SqT K H' p (List.replicate k v) → Q (.ref p) H'
theorem op_repT {X : Cx} : OpR X (binaryOp .Mult) (rRepT X.K) := by
  intro pins s σ H x y v u Q I rx ry h
  obtain ⟨a, vv, k, rfl, rfl, h1, h3, ha, q⟩ := h
  cases rx
  obtain ⟨t, rfl⟩ := ry
  obtain ⟨its, r, p1, _⟩ := I.tuple ha
  cases r with
  | cons r0 rr =>
  cases rr
  rename_i w0
  obtain ⟨⟨cls, dd, data, sl⟩, ho, hc, n, hd⟩ := id p1
  simp only at hc hd
  subst hc hd
  refine wpAny_binaryOp_repeat_ref (T := "tuple") (U := "int") (by decide) ⟨_, ho, rfl⟩ (fun s' => typeIs_int s' k t) noFill_tuple_mul PySem.F.fills_int_mul PySem.F.slot_int_rmul repeat_tuple PySem.F.slot_int_index.lookup
    (call_meets PySem.F.slot_int_rmul (typeIs_int s k t) PySem.F.entry_int_rmul (PySem.F.args_int_rmul_2 _ _) (rmul_tuple k t a _ n dd sl) ⟨ho, rfl, ⟨_, ho, rfl⟩, ?_⟩)
  have cs : k = 1 ∨ k = 2 ∨ k = 3 := by omega
  rcases cs with rfl | rfl | rfl
  · exact call_meets PySem.F.slot_tuple_mul ⟨_, ho, rfl⟩ PySem.F.entry_tuple_mul (PySem.F.args_tuple_mul_2 _ _) (mul_tuple1 t a _ n dd sl) ⟨ho, ⟨.ref a, H, I, rfl, q a H (.refl H) ha⟩⟩
  · refine call_meets PySem.F.slot_tuple_mul ⟨_, ho, rfl⟩ PySem.F.entry_tuple_mul (PySem.F.args_tuple_mul_2 _ _) (mul_tuple2 t a w0 n dd sl) ⟨ho, ?_⟩
    have hf : H s.heap.objs.size = none := I.hok.fresh (Nat.le_refl _)
    refine ⟨.ref s.heap.objs.size, upd H s.heap.objs.size (.tup [vv, vv]), I.laid (t' := s.toks) (fun b u e => Heap.get?_push_of_some _ e) (Nat.le_refl _) ⟨(by show 2 ≤ sizeLine; decide), [w0, w0], .cons r0 (.cons r0 .nil), IsTup.new _ _⟩, rfl, q _ _ (fun b o e => by rw [upd_ne (ne_of_none e hf)]; exact e) (.of upd_same)⟩
  · refine call_meets PySem.F.slot_tuple_mul ⟨_, ho, rfl⟩ PySem.F.entry_tuple_mul (PySem.F.args_tuple_mul_2 _ _) (mul_tuple3 t a w0 n dd sl) ⟨ho, ?_⟩
    have hf : H s.heap.objs.size = none := I.hok.fresh (Nat.le_refl _)
    refine ⟨.ref s.heap.objs.size, upd H s.heap.objs.size (.tup [vv, vv, vv]), I.laid (t' := s.toks) (fun b u e => Heap.get?_push_of_some _ e) (Nat.le_refl _) ⟨(by show 3 ≤ sizeLine; decide), [w0, w0, w0], .cons r0 (.cons r0 (.cons r0 .nil)), IsTup.new _ _⟩, rfl, q _ _ (fun b o e => by rw [upd_ne (ne_of_none e hf)]; exact e) (.of upd_same)⟩
end L2
namespace L2
open PySem PySem.Spec PyProof.Rows
section
variable {P : Program} {w : World} {K : PySem.W.Frag} {mg : Str → Option Value} {base : Heap} {N : List Str} {qual : Str} {scope : Scope} {f : Addr} {cd : Value} {A : Around} {outer : List Env} {s : Shared} {H : Hp} {X : Cx}
theorem r_KH : (cxH P w K mg base N qual scope f cd A outer s H).K = K := rfl
theorem r_Kt {pn : List (Addr × Obj)} {Ef : St → XK} : (Xt X pn Ef).K = X.K := rfl
theorem r_Kh {pn : List (Addr × Obj)} {ea : Addr} : (Xh X pn ea).K = X.K := rfl
theorem r_Kn {g : Value → Shared → Prop} : (X.wish g).K = X.K := rfl
theorem r_try {D : Ends} {σ : St} {Sub : Addr → Prop} {i : Nat} {tb : (St → XK) → TS} {ts : TS} : tTry Sub i tb ts D σ H =
  tb (fun σ' cls _ H' => ∃ C, cls = .ref C ∧ Sub C ∧ ∀ ea, H' ea = none → ts { D with nx := fun σ2 H2 => D.nx (σ2.set i none) H2, bk := fun σ2 H2 => D.bk (σ2.set i none) H2, ct := fun σ2 H2 => D.ct (σ2.set i none) H2 } (σ'.set i (some (.ref ea))) (upd H' ea (excO ea C))) D σ H := rfl
end
end L2
namespace L2
open PySem PySem.Spec PySem.Calls PyProof.Rows
section
variable {X : Cx}
def rSlS : V → Option Int → Option Int → Hp → VK → Prop := fun x lo hi H Q => ∃ z, x = .str z ∧ z.length ≤ sizeLine ∧ Q (.str (Txt.slice z lo hi)) H
theorem sl_str : SlR X rSlS := by
  intro pins s σ H x v vl vu lo hi sl Q I rx hs pl pu h
  obtain ⟨z, rfl, hz, q⟩ := h
  obtain ⟨t, rfl⟩ := rx
  refine ⟨"str", _, F.slot_str_getitem.lookup, typeIs_str _ _ _, ?_⟩
  have fin : ∀ (l u : Option Int) (t' : Tok) (k : Nat), Txt.slice z l u = Txt.slice z lo hi → EP X pins σ Q (.str (Txt.slice z l u) t') { s with toks := k } := fun l u t' k e => ⟨.str _, H, I.tok _, ⟨_, by rw [e]⟩, q⟩
  cases pl with
  | none =>
    cases pu with
    | none => exact wpAny_getItem_str_slice (l := none) (u := none) (st := none) hs rfl (post_val_or_str ⟨Nat.le_trans (Txt.slice_le z _ _) hz, fun t' k => fin _ _ t' k rfl⟩)
    | int j tj => exact wpAny_getItem_str_slice (l := none) (u := some (j, tj)) (st := none) hs rfl (post_val_or_str ⟨Nat.le_trans (Txt.slice_le z _ _) hz, fun t' k => fin _ _ t' k rfl⟩)
  | int i ti =>
    cases pu with
    | none => exact wpAny_getItem_str_slice (l := some (i, ti)) (u := none) (st := none) hs rfl (post_val_or_str ⟨Nat.le_trans (Txt.slice_le z _ _) hz, fun t' k => fin _ _ t' k rfl⟩)
    | int j tj => exact wpAny_getItem_str_slice (l := some (i, ti)) (u := some (j, tj)) (st := none) hs rfl (post_val_or_str ⟨Nat.le_trans (Txt.slice_le z _ _) hz, fun t' k => fin _ _ t' k rfl⟩)
def eqTx (d : PyData) (u : Value) : Bool := match u with
  | .str z _ => PyData.eqv (.str z) d
  | _ => false
end
section
variable {H : Hp} {Q : VK}
theorem r_ixS {z : Str} {i : Int} : rIxS (.str z) (.int i) H Q = ∃ c, z.length ≤ sizeLine ∧ atI z.cps.toList i = some c ∧ Q (.str ⟨#[c]⟩) H := by
  unfold rIxS
  exact propext ⟨fun ⟨a, b, c, h1, h2, h⟩ => by cases h1; cases h2; exact ⟨c, h⟩, fun ⟨c, h⟩ => ⟨z, i, c, rfl, rfl, h⟩⟩
theorem r_slS {z : Str} {lo hi : Option Int} : rSlS (.str z) lo hi H Q = (z.length ≤ sizeLine ∧ Q (.str (Txt.slice z lo hi)) H) := by
  unfold rSlS
  exact propext ⟨fun ⟨a, h1, h⟩ => by cases h1; exact h, fun h => ⟨z, rfl, h⟩⟩
def rAddS : R2 := fun x y H Q => ∃ i j, x = .str i ∧ y = .str j ∧ i.length + j.length ≤ sizeLine ∧ Q (.str (i ++ j)) H
theorem op_addS {X : Cx} : OpR X (binaryOp .Add) rAddS := op_add_str
theorem r_addS {i j : Str} : rAddS (.str i) (.str j) H Q = (i.length + j.length ≤ sizeLine ∧ Q (.str (i ++ j)) H) := by
  unfold rAddS
  exact propext ⟨fun ⟨a, b, h1, h2, h⟩ => by cases h1; cases h2; exact h, fun h => ⟨i, j, rfl, rfl, h⟩⟩
end
section
variable {K : PySem.W.Frag} {σ : St} {H : Hp} {Q : VK} {te : TE} {ta : TA}
theorem r_bm0 {T : String} {rr : V → List V → Hp → VK → Prop} : tBM0 K T rr te σ H Q = te σ H fun x H1 => tyV K T x H1 ∧ rr x [] H1 Q := rfl
theorem r_rng2 {R : It → Hp → Prop} : iRng2 ta σ H R = ta σ H fun vs H1 => ∃ i j : Int, vs = [.int i, .int j] ∧ (-(2 ^ 62) ≤ i ∧ i < 2 ^ 62 ∧ -(2 ^ 62) ≤ j ∧ j < 2 ^ 62) ∧ R (Itr i (j - i).toNat) H1 := rfl
end
section
variable {X : Cx}
end
end L2
namespace L2
open PySem PySem.Spec PyProof.Rows
def All2 {α β : Type} (P : α → β → Prop) : List α → List β → Prop
  | [], [] => True
  | a :: as, b :: bs => P a b ∧ All2 P as bs
  | _, _ => False
theorem All2.imp {α β : Type} {P R : α → β → Prop} (h : ∀ a b, P a b → R a b) : ∀ {as : List α} {bs : List β}, All2 P as bs → All2 R as bs
  | [], [], _ => trivial
  | a :: as, b :: bs, ⟨h1, h2⟩ => ⟨h a b h1, All2.imp h h2⟩
  | [], _ :: _, z => z.elim
  | _ :: _, [], z => z.elim
theorem All2.snoc {α β : Type} {P : α → β → Prop} {a : α} {b : β} (hp : P a b) : ∀ {as : List α} {bs : List β}, All2 P as bs → All2 P (as ++ [a]) (bs ++ [b])
  | [], [], _ => ⟨hp, trivial⟩
  | _ :: as, _ :: bs, ⟨h1, h2⟩ => ⟨h1, All2.snoc hp h2⟩
  | [], _ :: _, z => z.elim
  | _ :: _, [], z => z.elim
theorem All2.len {α β : Type} {P : α → β → Prop} : ∀ {as : List α} {bs : List β}, All2 P as bs → as.length = bs.length
  | [], [], _ => rfl
  | _ :: as, _ :: bs, ⟨_, h2⟩ => by rw [List.length_cons, List.length_cons, All2.len h2]
  | [], _ :: _, z => z.elim
  | _ :: _, [], z => z.elim
theorem All2.eq {α β : Type} {f : α → β} : ∀ {as : List α} {bs : List β}, All2 (fun a b => b = f a) as bs → bs = as.map f
  | [], [], _ => rfl
  | a :: as, b :: bs, ⟨h1, h2⟩ => by rw [h1, All2.eq h2]; rfl
  | [], _ :: _, z => z.elim
  | _ :: _, [], z => z.elim
theorem small16 {n : Nat} (h : n ≤ 1000000) : n < sizeLine := by rw [sizeLine_eq]; omega
theorem comp_gen {K : PySem.W.Frag} {σ : St} {H : Hp} {Q : VK} {te : TE} {tt : TT} {wi : TI} {J : It} {n : Nat} (val : Nat → V) (f : Nat → Bool) (Pr : Nat → V → Hp → Prop)
    (hwi : ∀ R : It → Hp → Prop, R J H → wi σ H R) (hst : ∀ H', Same H H' → J.stop n H')
    (hgo : ∀ i H', i < n → Same H H' → J.go i H' ∧ ∀ x H'', J.yld i H' x H'' → x = val i ∧ H'' = H') (hz : n ≤ 1000000)
    (mono : ∀ i y H1 H2, Tk K H1 H2 → Pr i y H1 → Pr i y H2)
    (test : ∀ i H', i < n → Same H H' → ∀ Q' : Bool → Hp → Prop, (∀ H'', Same H' H'' → Q' (f i) H'') → tt (some (val i) :: σ) H' Q')
    (elt : ∀ i H', i < n → f i = true → Same H H' → ∀ Q' : VK, (∀ y H'', Same H' H'' → Pr i y H'' → Q' y H'') → te (some (val i) :: σ) H' Q')
    (q : ∀ D ys H', Same H H' → H D = none → H' D = some (.lst ys) → All2 (fun i y => Pr i y H') ((List.range n).filter f) ys → Q (.ref D) H') : tComp wi tt te σ H Q := by
  unfold tComp
  refine hwi _ fun D hD => ⟨fun i m H' => m = n - i ∧ i ≤ n ∧ Same H H' ∧ ∃ ys, H' D = some (.lst ys) ∧ All2 (fun i y => Pr i y H') ((List.range i).filter f) ys, ⟨_, rfl, Nat.zero_le _, fun b o h => by rw [upd_ne (ne_of_none h hD)]; exact h, [], upd_same, trivial⟩, ?_⟩
  rintro i m H1 ⟨rfl, hi, S, ys, hys, ha⟩
  by_cases c : i = n
  · subst c
    exact .inl ⟨hst _ S, q D ys H1 S hD hys ha⟩
  · obtain ⟨g1, g2⟩ := hgo i H1 (by omega) S
    refine .inr ⟨g1, fun x H2 hx => ?_⟩
    obtain ⟨rfl, eH⟩ := g2 x H2 hx
    rw [eH]
    refine test i H1 (by omega) S _ fun H3 S3 => ?_
    have hr : (List.range (i + 1)).filter f = (List.range i).filter f ++ (if f i = true then [i] else []) := by
      rw [List.range_succ, List.filter_append]
      congr 1
      simp only [List.filter_cons, List.filter_nil]
    cases hf : f i with
    | false =>
      rw [if_neg (by simp)]
      rw [hf, if_neg (by simp), List.append_nil] at hr
      exact ⟨_, by omega, rfl, by omega, S.trans S3, ys, S3 _ _ hys, by rw [hr]; exact ha.imp fun i y h => mono i y _ _ S3.tk h⟩
    | true =>
      rw [if_pos rfl]
      rw [hf, if_pos rfl] at hr
      refine elt i H3 (by omega) hf (S.trans S3) _ fun y H4 S4 hy => ?_
      have h4 := S4 _ _ (S3 _ _ hys)
      have hlen : ys.length ≤ i := by
        have := ha.len
        rw [← this]
        exact Nat.le_trans (List.length_filter_le _ _) (by rw [List.length_range]; exact Nat.le_refl _)
      have tku : Tk K H4 (upd H4 D (.lst (ys ++ [y]))) := Tk.updL h4
      refine ⟨ys, h4, small16 (by omega), _, by omega, rfl, by omega, fun b o h => ?_, _, upd_same, ?_⟩
      · rw [upd_ne (ne_of_none h hD)]
        exact S4 _ _ (S3 _ _ (S _ _ h))
      · rw [hr]
        exact All2.snoc (P := fun i z => Pr i z (upd H4 D (.lst (ys ++ [y])))) (mono _ _ _ _ tku hy) (ha.imp fun i y h => mono i y _ _ ((S3.tk.trans S4.tk).trans tku) h)
section
variable {K : PySem.W.Frag} {σ : St} {H : Hp} {Q : VK} {te : TE} {tt : TT}
theorem comp_tG {ta : TE} {a : Addr} {xs : List V} (f : Nat → Bool) (Pr : Nat → V → Hp → Prop) (hta : ∀ R : VK, R (.ref a) H → ta σ H R) (hs : SqT K H a xs) (hz : xs.length ≤ 1000000)
    (mono : ∀ i y H1 H2, Tk K H1 H2 → Pr i y H1 → Pr i y H2)
    (test : ∀ i x H', xs[i]? = some x → Same H H' → ∀ Q' : Bool → Hp → Prop, (∀ H'', Same H' H'' → Q' (f i) H'') → tt (some x :: σ) H' Q')
    (elt : ∀ i x H', xs[i]? = some x → f i = true → Same H H' → ∀ Q' : VK, (∀ y H'', Same H' H'' → Pr i y H'' → Q' y H'') → te (some x :: σ) H' Q')
    (q : ∀ D ys H', Same H H' → H D = none → H' D = some (.lst ys) → All2 (fun i y => Pr i y H') ((List.range xs.length).filter f) ys → Q (.ref D) H') : tComp (iTup K ta) tt te σ H Q := by
  have get : ∀ i, i < xs.length → xs[i]? = some (xs.getD i .non) := fun i hi => by rw [List.getD_eq_getElem?_getD, List.getElem?_eq_getElem hi]; rfl
  refine comp_gen (K := K) (J := Itt K a) (n := xs.length) (fun i => xs.getD i .non) f Pr (fun R h => hta _ ⟨a, rfl, ⟨xs, hs⟩, h⟩) (fun H' S => ⟨xs, Same.sqT hs S, Nat.le_refl _⟩) (fun i H' hi S => ?_) hz mono (fun i H' hi S Q' hq => test i _ H' (get i hi) S Q' hq) (fun i H' hi hf S Q' hq => elt i _ H' (get i hi) hf S Q' hq) q
  refine ⟨⟨xs, _, Same.sqT hs S, get i hi⟩, fun x H'' ⟨h1, h2⟩ => ?_⟩
  have e := h2 xs (Same.sqT hs S)
  rw [get i hi] at e
  exact ⟨(Option.some.inj e).symm, h1⟩
theorem comp_rG {ta : TA} {m : Nat} (f : Nat → Bool) (Pr : Nat → V → Hp → Prop) (hta : ∀ R : List V → Hp → Prop, R [.int m] H → ta σ H R) (hz : m ≤ 1000000)
    (mono : ∀ i y H1 H2, Tk K H1 H2 → Pr i y H1 → Pr i y H2)
    (test : ∀ i H', i < m → Same H H' → ∀ Q' : Bool → Hp → Prop, (∀ H'', Same H' H'' → Q' (f i) H'') → tt (some (.int ((i : Nat) : Int)) :: σ) H' Q')
    (elt : ∀ i H', i < m → f i = true → Same H H' → ∀ Q' : VK, (∀ y H'', Same H' H'' → Pr i y H'' → Q' y H'') → te (some (.int ((i : Nat) : Int)) :: σ) H' Q')
    (q : ∀ D ys H', Same H H' → H D = none → H' D = some (.lst ys) → All2 (fun i y => Pr i y H') ((List.range m).filter f) ys → Q (.ref D) H') : tComp (iRng1 ta) tt te σ H Q := by
  refine comp_gen (K := K) (J := Itr 0 m) (n := m) (fun i => .int ((i : Nat) : Int)) f Pr (fun R h => hta _ ⟨m, rfl, by omega, by omega, by rw [Int.toNat_natCast]; exact h⟩) (fun H' S => ?_) (fun i H' hi S => ?_) hz mono test elt q
  · exact Nat.le_refl _
  · refine ⟨hi, fun x H'' h => ?_⟩
    obtain ⟨h1, h2⟩ := h
    exact ⟨by rw [h2]; congr 1; omega, h1⟩
end
theorem cutV_dropL {vs : List V} {i : Nat} (h : i ≤ vs.length) : cutV vs (some (i : Int)) none = vs.drop i := by
  unfold cutV
  have h1 : HT.sIx vs.length 0 (some (i : Int)) = i := by
    show (if ((i : Nat) : Int) < 0 then (((i : Nat) : Int) + (vs.length : Int)).toNat else min ((i : Nat) : Int).toNat vs.length) = _
    rw [if_neg (by omega)]
    omega
  have h2 : HT.sIx vs.length vs.length none = vs.length := rfl
  rw [h1, h2, List.take_of_length_le (by rw [List.length_drop]; omega)]
section
variable {K : PySem.W.Frag} {ns : List Int} {t sc p : Addr} {H₀ H H' : Hp}
theorem TapeS.same (h : TapeS K ns t sc H) (e : Same H H') : TapeS K ns t sc H' := by
  obtain ⟨sp, cr, wy, e1, l⟩ := h
  exact ⟨sp, cr, wy, e _ _ e1, l.on e.ext⟩
theorem CurS.same (c : CurS K ns t sc H₀ H) (e : Same H H') : CurS K ns t sc H₀ H' := ⟨c.tape.same e, c.ext.trans e.ext⟩
theorem CurS.new {o : HO} (c : CurS K ns t sc H₀ H) (hp : H p = none) : CurS K ns t sc H₀ (upd H p o) := c.same (same_new hp o)
theorem CurS.free (c : CurS K ns t sc H₀ H) (hp : H p = none) : H₀ p = none ∨ p = t := by
  by_cases z : p = t
  · exact .inr z
  · left
    cases q : H₀ p with
    | none => rfl
    | some o =>
      have := c.ext _ _ (fun z' => absurd z' z) q
      rw [hp] at this; cases this
theorem TapeS.ne (h : TapeS K ns t sc H) (hp : H p = none) : p ≠ t := fun z => by
  obtain ⟨_, _, _, e, _⟩ := h
  rw [z, e] at hp; cases hp
theorem CurS.free' (c : CurS K ns t sc H₀ H) (hp : H p = none) : H₀ p = none := (c.free hp).elim id fun z => absurd z (c.tape.ne hp)
end
end L2
namespace L2
open PySem PySem.Spec PyProof.Rows
def GetsD (K : PySem.W.Frag) (t : Addr) (H0 : Hp) (σ : St) (ta : TE) (d : PyData) : Prop := ∀ (H : Hp) (Q : VK), Same H0 H → (∀ v H', Same H H' → Dt K t H' d v → Q v H') → ta σ H Q
def GetsL (K : PySem.W.Frag) (t : Addr) (H0 : Hp) (σ : St) (tr : TA) (ds : List PyData) : Prop := ∀ (H : Hp) (L : List V → Hp → Prop), Same H0 H → (∀ vs H', Same H H' → DtL K t H' ds vs → L vs H') → tr σ H L
section
variable {K : PySem.W.Frag} {t : Addr} {H0 : Hp} {σ : St} {d : PyData} {ds : List PyData} {ta : TE} {tr : TA}
theorem gd_non : GetsD K t H0 σ (tC .non) .none := fun H Q _ q => q _ _ (.refl _) .non
theorem gd_bl {b : Bool} : GetsD K t H0 σ (tC (.bl b)) (.bool b) := fun H Q _ q => q _ _ (.refl _) (.bl b)
theorem gd_int {i : Int} : GetsD K t H0 σ (tC (.int i)) (.int i) := fun H Q _ q => q _ _ (.refl _) (.int i)
theorem gd_str {x : Str} (h : PyData.strOk x = true := by decide +kernel) : GetsD K t H0 σ (tC (.str x)) (.str x) := fun H Q _ q => q _ _ (.refl _) (.str h)
theorem gd_var {i : Nat} {v : V} (hi : σ[i]? = some (some v)) (hd : Dt K t H0 d v) : GetsD K t H0 σ (tVar i) d := fun H Q S q => by
  exact tVar_of hi (q _ _ (.refl _) (Same.dt hd S))
theorem gd_neg {i : Int} : GetsD K t H0 σ (tUn (rU fun i => V.int (-i)) (tC (.int i))) (.int (-i)) := fun H Q _ q => by
  rw [r_un, r_c]
  exact ⟨i, rfl, q _ _ (.refl _) (.int _)⟩
theorem gd_pow {i j : Int} (h : CPow i j) : GetsD K t H0 σ (tOp (rI CPow fun i j => V.int (i ^ j.toNat)) (tC (.int i)) (tC (.int j))) (.int (i ^ j.toNat)) := fun H Q _ q => ⟨h, q _ _ (.refl _) (.int _)⟩
theorem gd_nil : GetsL K t H0 σ tNil [] := fun H L _ q => q _ _ (.refl _) .nil
theorem gd_cons (h1 : GetsD K t H0 σ ta d) (h2 : GetsL K t H0 σ tr ds) : GetsL K t H0 σ (tCons ta tr) (d :: ds) := fun H L S q => by
  rw [r_cons]
  refine h1 H _ S fun v H1 S1 hv => h2 H1 _ (S.trans S1) fun vs H2 S2 hvs => q _ _ (S1.trans S2) (.cons (Same.dt hv S2) hvs)
theorem gd_tup (h : GetsL K t H0 σ tr ds) (hz : ds.length ≤ 1000 := by simp) : GetsD K t H0 σ (tTup tr) (.tuple ds) := fun H Q S q => by
  rw [r_tup]
  refine h H _ S fun vs H1 S1 hvs => ⟨small6 (by rw [← hvs.len]; exact hz), fun p hp => ?_⟩
  exact q _ _ (S1.trans (same_new hp _)) (Dt.newT hp hvs)
theorem gd_lst (ht : H0 t ≠ none) (h : GetsL K t H0 σ tr ds) (hz : ds.length ≤ 1000 := by simp) : GetsD K t H0 σ (tLst tr) (.list ds) := fun H Q S q => by
  rw [r_lst]
  refine h H _ S fun vs H1 S1 hvs => ⟨small6 (by rw [← hvs.len]; exact hz), fun p hp => ?_⟩
  refine q _ _ (S1.trans (same_new hp _)) (Dt.newL hp (fun z => ?_) hvs)
  subst z
  exact ht ((S.trans S1).free hp)
theorem gl_lst {Q : VK} {H : Hp} (h : GetsL K t H σ tr ds) (hz : ds.length ≤ 1000) (q : ∀ p vs H', Same H H' → H' p = none → DtL K t H' ds vs → Q (.ref p) (upd H' p (.lst vs))) : tLst tr σ H Q := by
  rw [r_lst]
  exact h H _ (.refl _) fun vs H1 S1 hvs => ⟨small6 (by rw [← hvs.len]; exact hz), fun p hp => q p vs H1 S1 hp hvs⟩
end
end L2
namespace L2
open PySem PySem.Spec PyProof.Rows M
theorem noL_encI (cs : List Int) : noL (encI cs) = true := by
  unfold encI
  simp only [noL]
  induction cs with
  | nil => rfl
  | cons c cs ih => simp only [List.map_cons, noLs, noL, ih]; rfl
theorem noL_encT (t : Th) : noL (encT t) = true := rfl
theorem noLs_encT : ∀ ts : List Th, noLs (ts.map encT) = true
  | [] => rfl
  | t :: ts => by simp only [List.map_cons, noLs, noL_encT t, noLs_encT ts]; rfl
def ThV (K : PySem.W.Frag) (H : Hp) (t : Th) (v : V) : Prop := Dt K 0 H (encT t) v
def ThL (K : PySem.W.Frag) (H : Hp) (ts : List Th) (vs : List V) : Prop := DtL K 0 H (ts.map encT) vs
def SnV (K : PySem.W.Frag) (H : Hp) (s : Sn) (v : V) : Prop := Dt K 0 H (encSn s) v
def DwV (K : PySem.W.Frag) (H : Hp) (n : Nat) (b t : Int) (ts : List Th) (a : Addr) : Prop := ∃ ta vs, SqT K H a [.int n, .int b, .int t, .ref ta] ∧ SqT K H ta vs ∧ ThL K H ts vs
section
variable {K : PySem.W.Frag} {H H' : Hp} {t : Th} {ts : List Th} {s : Sn} {v : V} {vs : List V} {n : Nat} {b tr : Int} {a : Addr}
theorem ThL.tk (h : ThL K H ts vs) (e : Tk K H H') : ThL K H' ts vs := DtL.tk e _ _ (noLs_encT ts) h
theorem ThL.same (h : ThL K H ts vs) (e : Same H H') : ThL K H' ts vs := h.tk e.tk
theorem DwV.tk (h : DwV K H n b tr ts a) (e : Tk K H H') : DwV K H' n b tr ts a := by
  obtain ⟨ta, vs, h1, h2, h3⟩ := h
  exact ⟨ta, vs, e _ _ h1, e _ _ h2, h3.tk e⟩
theorem DwV.same (h : DwV K H n b tr ts a) (e : Same H H') : DwV K H' n b tr ts a := h.tk e.tk
theorem th_mk (h : SqT K H a [.str t.nm, .int t.wo, .bl t.en]) (hok : PyData.strOk t.nm = true) : ThV K H t (.ref a) := .tup h (.cons (.str hok) (.cons (.int _) (.cons (.bl _) .nil)))
theorem ThL.len (h : ThL K H ts vs) : ts.length = vs.length := by
  have := DtL.len h
  rwa [List.length_map] at this
theorem ThL.nil : ThL K H [] [] := by simp [ThL, DtL]
theorem ThL.snoc (h : ThL K H ts vs) (q : ThV K H t v) : ThL K H (ts ++ [t]) (vs ++ [v]) := by
  induction ts generalizing vs with
  | nil =>
    simp only [ThL, List.map_nil, DtL] at h
    subst h
    exact .cons q .nil
  | cons u ts ih =>
    simp only [ThL, List.map_cons, DtL] at h
    obtain ⟨w, ws, rfl, h1, h2⟩ := h
    exact .cons h1 (ih h2)
theorem ints_dtl (q : Addr) : ∀ cs : List Int, DtL K q H (cs.map PyData.int) (cs.map V.int)
  | [] => .nil
  | c :: cs => .cons (.int c) (ints_dtl q cs)
theorem sn_mk {ca : Addr} {cs : List Int} {sd : Nat} {tn hd : Int} (h : SqT K H a [.ref ca, .int sd, .int tn, .int hd]) (h2 : SqT K H ca (cs.map V.int)) : SnV K H ⟨cs, sd, tn, hd⟩ (.ref a) := .tup h (.cons (.tup h2 (ints_dtl 0 cs)) (.cons (.int _) (.cons (.int _) (.cons (.int _) .nil))))
end
end L2
namespace L2
open PySem PySem.Spec PyProof.Rows M
def encNm (ns : List Str) : PyData := .tuple (ns.map PyData.str)
def encRw (r : Rw) : PyData := .tuple [encNm r.1, .int r.2]
theorem noLs_strs : ∀ ns : List Str, noLs (ns.map PyData.str) = true
  | [] => rfl
  | n :: ns => by simp only [List.map_cons, noLs, noL, noLs_strs ns]; rfl
theorem noL_encNm (ns : List Str) : noL (encNm ns) = true := by simp only [encNm, noL, noLs_strs]
theorem noL_encRw (r : Rw) : noL (encRw r) = true := by simp only [encRw, noL, noLs, noL_encNm]; rfl
theorem noLs_encNm : ∀ ns : List (List Str), noLs (ns.map encNm) = true
  | [] => rfl
  | n :: ns => by simp only [List.map_cons, noLs, noL_encNm, noLs_encNm ns]; rfl
theorem noLs_encRw : ∀ ns : List Rw, noLs (ns.map encRw) = true
  | [] => rfl
  | n :: ns => by simp only [List.map_cons, noLs, noL_encRw, noLs_encRw ns]; rfl
def NmsL (K : PySem.W.Frag) (H : Hp) (n : List (List Str)) (vs : List V) : Prop := DtL K 0 H (n.map encNm) vs
def RowL (K : PySem.W.Frag) (H : Hp) (r : List Rw) (vs : List V) : Prop := DtL K 0 H (r.map encRw) vs
section
variable {K : PySem.W.Frag} {H H' : Hp} {ns : List Str} {nss : List (List Str)} {r : Rw} {rs : List Rw} {v : V} {vs : List V} {a : Addr}
theorem NmsL.len (h : NmsL K H nss vs) : nss.length = vs.length := by have := DtL.len h; rwa [List.length_map] at this
theorem RowL.len (h : RowL K H rs vs) : rs.length = vs.length := by have := DtL.len h; rwa [List.length_map] at this
end
def encRt (r : List Th) : PyData := .tuple (r.map encT)
theorem noL_encRt (r : List Th) : noL (encRt r) = true := by simp only [encRt, noL, noLs_encT]
theorem noLs_encRt : ∀ rs : List (List Th), noLs (rs.map encRt) = true
  | [] => rfl
  | r :: rs => by simp only [List.map_cons, noLs, noL_encRt, noLs_encRt rs]; rfl
def RtL (K : PySem.W.Frag) (H : Hp) (rs : List (List Th)) (vs : List V) : Prop := DtL K 0 H (rs.map encRt) vs
section
variable {K : PySem.W.Frag} {H H' : Hp} {r : List Th} {rs ss : List (List Th)} {v : V} {vs us : List V} {a : Addr}
theorem RtL.len (h : RtL K H rs vs) : rs.length = vs.length := by have := DtL.len h; rwa [List.length_map] at this
end
end L2
namespace L2
open PySem PySem.Spec PyProof.Rows
def compCx2 (X : Cx) (N : List Str) (x z : Str) (scope : Scope) (cl : List (Str × Addr)) (C : Addr) (s : Shared) (H : Hp) (fp : List Addr) : Cx :=
  { X with N := N, s₀ := s, H₀ := H, env := compEnvC scope cl C X.env, outer := X.stack, ex := fp, fn := fun y => decide (y = x ∨ y = z), pn := [], xe := fun _ _ => False }
set_option genInjectivity false in
set_option genSizeOf false in
structure CompScope2 (X : Cx) (N : List Str) (x z : Str) (scope : Scope) (cl : List (Str × Addr)) : Prop where
  clos : closureFor scope X.env = pure cl
  nocell : ∀ y ∈ scope.names, y.2 ≠ .cell
  kind : scope.kind = .function
  names : ∀ y ∈ scope.names, y.2 = .local → scope.names.lookup y.1 = some .local
  loc : scope.names.lookup x = some .local
  loc2 : scope.names.lookup z = some .local
  nd : N.Nodup
  hd : N[0]? = some x
  hd2 : N[1]? = some z
  len : N.length = X.N.length + 2
  tl : ∀ j y, N[j + 2]? = some y → Vis (relabel scope X.env) y → X.N[j]? = some y ∧ X.env.kindOf y = some .cell ∧ Vis X.env.scope y ∧ ((relabel scope X.env).names.lookup y = some .cell ∨ (relabel scope X.env).names.lookup y = some .free) ∧ cl.lookup y = X.env.cells.lookup y
  sub : ∀ y c, cl.lookup y = some c → X.env.cells.lookup y = some c
  has : ∀ y, ((relabel scope X.env).names.lookup y = some .cell ∨ (relabel scope X.env).names.lookup y = some .free) → ∃ c, cl.lookup y = some c
  nox : cl.lookup x = none
  nox2 : cl.lookup z = none
def tComp2 (K : PySem.W.Frag) (wi : TI) (tt : TT) (te : TE) : TE := fun σ H Q => wi σ H fun J H1 => ∀ D, H1 D = none → ∃ W : Nat → Nat → Hp → Prop, (∃ m, W 0 m (upd H1 D (.lst []))) ∧ ∀ i m H, W i m H →
  (J.stop i H ∧ Q (.ref D) H) ∨ (J.go i H ∧ ∀ x H', J.yld i H x H' → ∃ a u v, x = .ref a ∧ SqT K H' a [u, v] ∧ tt (some u :: some v :: σ) H' fun b H2 =>
    if b = true then te (some u :: some v :: σ) H2 fun y H3 => ∃ ys, H3 D = some (.lst ys) ∧ ys.length < sizeLine ∧ ∃ m', m' < m ∧ W (i + 1) m' (upd H3 D (.lst (ys ++ [y])))
    else ∃ m', m' < m ∧ W (i + 1) m' H2)
section
variable {X : Cx} {pins : List (Addr × Obj)} {σ : St} {H : Hp} {s : Shared} {N : List Str} {x z : Str} {scope : Scope} {cl : List (Str × Addr)} {fp : List Addr} {it : Addr} {tn : Nat → Heap → Prop} {J : It} {px pz pt : Pos} {kt : Nat}
theorem compOk2 (S : CompScope2 X N x z scope cl) (I : Inv X pins σ H s) (hf : ∀ b ∈ fp, FpOk X pins H b) (hb : ∀ b ∈ fp, b < s.heap.objs.size) : (compCx2 X N x z scope cl s.heap.objs.size s H fp).Ok where
  mod := I.ok.mod
  kind := S.kind
  glob := I.ok.glob
  blt := I.ok.blt
  above := Nat.le_refl _
  inj := fun y z c h1 h2 => I.ok.inj y z c (S.sub y c h1) (S.sub z c h2)
  has := fun y hy => S.has y hy
  cab := fun y c h1 h2 => by
    have q : cl.lookup y = some c := h2
    rcases (of_decide_eq_true h1 : y = x ∨ y = z) with e | e
    · subst e; rw [S.nox] at q; cases q
    · subst e; rw [S.nox2] at q; cases q
  hd := I.ok.hd
  frames := I.ok.frames
  stk := .inl rfl
  exf := fun b hb' => ⟨Nat.ne_of_lt (hb b hb'), fun y c h => (hf b hb').2.2.2.2.1 y c (S.sub y c h)⟩
  bs := I.bs
  bsz := Nat.le_trans I.ok.bsz I.sz
  noex := fun b o e hb' => by
    rcases (hf b hb').2.2.2.1 with z | z
    · exact I.ok.noex b o e z
    · exact absurd (Nat.lt_of_lt_of_le (Heap.lt_size e) (Nat.le_trans I.ok.bsz z)) (Nat.lt_irrefl _)
  exfs := fun b hb' hs => by
    rcases List.mem_cons.mp (I.stkSub b hs) with z | z
    · exact (hf b hb').2.1 z
    · exact (hf b hb').2.2.1 z
  funs := I.stack
  frf := I.stkFree
theorem compInv2 (S : CompScope2 X N x z scope cl) (I : Inv X pins σ H s) (hf : ∀ b ∈ fp, FpOk X pins H b) (hb : ∀ b ∈ fp, b < s.heap.objs.size) {h' : Heap} {m : Str → Option Value} {tk : Nat} (hn : h'.Ns s.heap.objs.size m)
    (k : ∀ b u, s.heap.get? b = some u → h'.get? b = some u) : Inv (compCx2 X N x z scope cl s.heap.objs.size s H fp) [] (none :: none :: σ) H { s with heap := h', toks := tk } where
  ok := compOk2 S I hf hb
  os := rfl
  bare := I.bare
  base := Un.kept k
  loc := ⟨m, hn, fun i y v e1 e2 e3 => by
    match i, e1, e2 with
    | 0, _, e2 => simp at e2
    | 1, _, e2 => simp at e2
    | j + 2, e1, e2 =>
      obtain ⟨a1, a2, a3, a4, a5⟩ := S.tl j y e1 e3
      obtain ⟨m0, hn0, hl0⟩ := I.loc
      obtain ⟨u, r, l⟩ := hl0 j y v a1 (by simpa using e2) a3
      rcases l with ⟨hk, _⟩ | ⟨_, c, hc, ⟨o, ho, hd⟩⟩
      · rw [a2] at hk; cases hk
      · exact ⟨u, r, .inr ⟨a4, c, a5.trans hc, o, k _ _ ho, hd⟩⟩⟩
  cell := fun y c e => by
    obtain ⟨v, o, ho, hd⟩ := I.cell y c (S.sub y c e)
    exact ⟨v, o, k _ _ ho, hd⟩
  free := I.hok.fresh (Nat.le_refl _)
  freeC := fun y c e => I.freeC y c (S.sub y c e)
  pin := fun p hp => absurd (show p ∈ ([] : List (Addr × Obj)) from hp) (by simp)
  hok := I.hok.kept k
  len := by
    show (none :: none :: σ).length = N.length
    rw [S.len, ← I.len, List.length_cons, List.length_cons]
theorem comp_block2 {elt iter : Expr} {ifs : List Expr} {pos : Pos} {te : TE} {tt : TT} {Q : V → Hp → Prop} {RR : Value → Addr → Result → Shared → Prop} {E : Value → Shared → Prop} (hc : X.calm = true) (S : CompScope2 X N x z scope cl) (T : Turn X.prog X.w X.K (.Tuple [.Name x px, .Name z pz] kt pt) J fp it tn)
    (hts : ∀ C s H fp, PTs (compCx2 X N x z scope cl C s H fp) ifs tt) (helt : ∀ C s H fp, PE (compCx2 X N x z scope cl C s H fp) elt te)
    (I : Inv X pins σ H s) (t0 : tn 0 s.heap) (hf : ∀ b ∈ fp, FpOk X pins H b)
    (hq : ∀ D, H D = none → ∃ W : Nat → Nat → Hp → Prop, (∃ m, W 0 m (upd H D (.lst []))) ∧ ∀ i m H, W i m H →
      (J.stop i H ∧ Q (.ref D) H) ∨ (J.go i H ∧ ∀ x H', J.yld i H x H' → ∃ a u v, x = .ref a ∧ SqT X.K H' a [u, v] ∧ tt (some u :: some v :: σ) H' fun b H2 =>
        if b = true then te (some u :: some v :: σ) H2 fun y H3 => ∃ ys, H3 D = some (.lst ys) ∧ ys.length < sizeLine ∧ ∃ m', m' < m ∧ W (i + 1) m' (upd H3 D (.lst (ys ++ [y])))
        else ∃ m', m' < m ∧ W (i + 1) m' H2))
    (hRR : ∀ D C H' s', Inv X pins σ H' s' → Q (.ref D) H' → (∃ m, s'.heap.Ns C m) → H' C = none → C ≠ X.env.locals → X.s₀.heap.objs.size ≤ C → (∀ y c, X.env.cells.lookup y = some c → c ≠ C) → (∀ p ∈ X.pn ++ pins, p.1 ≠ C) → RR (.ref D) C (.ok .next) s') :
    wpAny (model X.prog X.w) X.A (newList []) (fun acc s₃ => wpAny (model X.prog X.w) X.A (newFunctionEnv scope X.env.globals cl [] X.env.qual none .none (some X.env)) (fun cenv s₄ =>
      codeAny (model X.prog X.w) X.A (.compStart (.ListComp elt [⟨.Tuple [.Name x px, .Name z pz] kt pt, iter, ifs, 0⟩] scope pos) 0 (.ref it) acc { cenv with scope := relabel scope X.env }) (RR acc cenv.locals) s₄) E s₃) E s := by
  have hD : H s.heap.objs.size = none := I.hok.fresh (Nat.le_refl _)
  obtain ⟨W, ⟨m0, w0⟩, turn⟩ := hq _ hD
  refine wpAny_newObj_type (wpAny_newFunctionEnv S.nocell (by intro y hy; simp at hy) (fun h₁ hns₁ hsb₁ => ?_) S.kind)
  dsimp only at hns₁ hsb₁ ⊢
  have I3 : Inv X pins σ (upd H s.heap.objs.size (.lst [])) { s with heap := s.heap.push { cls := .type "list", data := .seq ([] : List Value).toArray }, toks := s.toks } := I.lnew .nil (Nat.zero_le _)
  have fpLt : ∀ b ∈ fp, b < s.heap.objs.size := fun b hb => by
    obtain ⟨o, ho, _⟩ := T.obj _ _ t0 b hb
    exact Heap.lt_size ho
  have hf3 : ∀ b ∈ fp, FpOk X pins (upd H s.heap.objs.size (.lst [])) b := fun b hb => by
    refine ⟨?_, (hf b hb).2⟩
    rw [upd_ne (Nat.ne_of_lt (fpLt b hb))]
    exact (hf b hb).1
  generalize hH2 : s.heap.push { cls := .type "list", dict := none, data := .seq ([] : List Value).toArray } = G at hns₁ hsb₁ I3 ⊢
  have hG : G.objs.size = s.heap.objs.size + 1 := by rw [← hH2, Heap.size_push]
  have kG : ∀ b o, G.get? b = some o → h₁.get? b = some o := fun b o e => hsb₁.extBut b o (Nat.ne_of_lt (Heap.lt_size e)) (Heap.get?_push_of_some _ e)
  have ks : ∀ b o, s.heap.get? b = some o → h₁.get? b = some o := fun b o e => kG b o (hH2 ▸ Heap.get?_push_of_some _ e)
  have fpLt3 : ∀ b ∈ fp, b < G.objs.size := fun b hb => by rw [hG]; exact Nat.lt_succ_of_lt (fpLt b hb)
  have t1 : tn 0 h₁ := T.keep _ _ _ t0 fun b _ o e => ks b o e
  have I4 := compInv2 (tk := s.toks + ([] : List (Str × Value)).length) S I3 hf3 fpLt3 hns₁ kG
  generalize hX' : compCx2 X N x z scope cl G.objs.size { s with heap := G, toks := s.toks } (upd H s.heap.objs.size (.lst [])) fp = X' at I4
  have e1 : X'.prog = X.prog := by rw [← hX']; rfl
  have e2 : X'.w = X.w := by rw [← hX']; rfl
  have e3 : X'.A = X.A := by rw [← hX']; rfl
  have e4 : X'.env = compEnvC scope cl G.objs.size X.env := by rw [← hX']; rfl
  have e5 : X'.calm = true := by rw [← hX']; exact hc
  have e6 : X'.xe = fun _ _ => False := by rw [← hX']; rfl
  have e7 : X'.K = X.K := by rw [← hX']; rfl
  have helt' : PE X' elt te := hX' ▸ helt _ _ _ _
  have hts' : PTs X' ifs tt := hX' ▸ hts _ _ _ _
  have hfp : ∀ {H' : Hp}, (∀ b ∈ fp, H' b = none) → ∀ b ∈ fp, FpOk X' [] H' b := fun {H'} hn b hb => by
    obtain ⟨f0, f1, f2, f3, f4, f5⟩ := hf3 b hb
    refine ⟨hn b hb, ?_, ?_, ?_, ?_, ?_⟩
    · rw [e4]; exact Nat.ne_of_lt (fpLt3 b hb)
    · subst hX'
      intro z
      rcases List.mem_cons.mp (I3.stkSub b z) with q | q
      · exact f1 q
      · exact f2 q
    · subst hX'; exact .inl hb
    · rw [e4]; exact fun y c q => f4 y c (S.sub y c q)
    · subst hX'
      intro p hp
      exact absurd (show p ∈ ([] : List (Addr × Obj)) from hp) (by simp)
  have nd' : X'.N.Nodup := by subst hX'; exact S.nd
  have hi' : X'.N[0]? = some x := by subst hX'; exact S.hd
  have hi2' : X'.N[1]? = some z := by subst hX'; exact S.hd2
  have hx' : X'.env.scope.names.lookup x = some .local := by rw [e4]; exact lookup_relabel_local S.loc
  have hz' : X'.env.scope.names.lookup z = some .local := by rw [e4]; exact lookup_relabel_local S.loc2
  have pg : PG X' (.Tuple [.Name x px, .Name z pz] kt pt) (gTup X'.K 2 (gCons (gName 0) (gCons (gName 1) gNil))) :=
    pg_tup e5 (pgs_cons (pg_name nd' hi' (.inl hx') (.inr hx')) (pgs_cons (pg_name nd' hi2' (.inl hz') (.inr hz')) pgs_nil))
  have loop : ∀ s₅ : Shared, s₅ = { s with heap := h₁, toks := s.toks + ([] : List (Str × Value)).length } →
      codeAny (model X.prog X.w) X.A (.compLoop (.ListComp elt [⟨.Tuple [.Name x px, .Name z pz] kt pt, iter, ifs, 0⟩] scope pos) 0 (.ref it) (.ref s.heap.objs.size) (compEnvC scope cl G.objs.size X.env)) (RR (.ref s.heap.objs.size) G.objs.size) s₅ := by
    rintro s₅ rfl
    refine comp_loop (fun n s' => ∃ i v0 v1 H', Inv X' [] (v0 :: v1 :: σ) H' s' ∧ tn i s'.heap ∧ (∀ b ∈ fp, H' b = none) ∧ W i n H') ?_ m0 ⟨0, none, none, _, I4, t1, fun b hb => (hf3 b hb).1, w0⟩
    rintro n s6 ⟨i, v0, v1, H6, I6, st6, fr6, w6⟩
    rcases turn i n H6 w6 with ⟨stop, qn⟩ | ⟨go, step⟩
    · have dn := T.done X' e1 e2 e7 e5 i [] s6 (v0 :: v1 :: σ) H6 (fun _ _ => False) I6 (hfp fr6) st6 stop
      rw [e3] at dn
      refine thn dn fun r s7 ⟨hr, I7⟩ => ?_
      subst hr
      have u7 := I7.base
      have J7 : Inv X pins σ H6 s7 := by
        refine I3.call' (ch := fp) ?_ (by subst hX'; exact u7) (by subst hX'; exact I7.hok) I7.bare fun b hb => ?_
        · have := I7.os; subst hX'; exact this
        · obtain ⟨_, f1, _, f3, f4, f5⟩ := hf3 b hb
          exact ⟨f3, f1, f4, f5⟩
      refine hRR _ _ H6 s7 J7 qn ?_ ?_ ?_ ?_ ?_ ?_
      · obtain ⟨m, hm, _⟩ := I7.loc
        rw [e4] at hm
        exact ⟨m, hm⟩
      · have := I7.free
        rw [e4] at this
        exact this
      · exact Nat.ne_of_gt I3.lt
      · exact I3.sz
      · intro y c q
        obtain ⟨v, hv⟩ := I3.cell y c q
        exact Nat.ne_of_lt hv.lt
      · intro p hp
        exact Nat.ne_of_lt (Heap.lt_size (I3.pin p hp).1)
    · have itm := T.item X' e1 e2 e7 e5 i [] s6 (v0 :: v1 :: σ) H6 (fun _ _ => False) I6 (hfp fr6) st6 go
      rw [e3] at itm
      refine thn itm fun r s7 ⟨u, hr, h7⟩ => ?_
      subst hr
      refine thn h7 fun _ s8 ⟨xv, H8, I8, r8, y8, st8, fr8⟩ => ?_
      have I8' := I8.pinned (hfp fr8) (T.obj _ _ st8)
      obtain ⟨ta, tu, tv, ext, hsq, hstep⟩ := step xv H8 y8
      have sto := pg _ s8 (v0 :: v1 :: σ) H8 xv u (fun σ' H' => σ' = some tu :: some tv :: σ ∧ H' = H8) I8' r8 ⟨ta, [tu, tv], ext, by rw [e7]; exact hsq, rfl, tu, [tv], rfl, tv, [], rfl, rfl, rfl, rfl⟩
      rw [e1, e2, e3, e4, e6] at sto
      refine thn sto fun _ s9 ⟨σ9, H9, I9, eσ, eH⟩ => ?_
      subst eσ
      subst eH
      have tst := hts' _ s9 (some tu :: some tv :: σ) H9 _ I9 hstep
      rw [e1, e2, e3, e4, e6] at tst
      refine thn tst fun ok s10 ⟨H10, I10, q10⟩ => ?_
      have again : ∀ {s11 : Shared} {H11 : Hp}, Inv X' ([] ++ pinsAt fp s8.heap) (some tu :: some tv :: σ) H11 s11 → (∃ m', m' < n ∧ W (i + 1) m' H11) → ∃ m, m < n ∧ ∃ i v0 v1 H', Inv X' [] (v0 :: v1 :: σ) H' s11 ∧ tn i s11.heap ∧ (∀ b ∈ fp, H' b = none) ∧ W i m H' := fun {s11 H11} J ⟨m', hm, w11⟩ => by
        have pp : ∀ b ∈ fp, ∀ o, s8.heap.get? b = some o → s11.heap.get? b = some o ∧ H11 b = none := fun b hb o e => by
          have := J.pin (b, o) (List.mem_append_right _ (List.mem_append_right _ (mem_pinsAt hb e)))
          exact ⟨this.1, this.2.1⟩
        refine ⟨m', hm, i + 1, some tu, some tv, H11, J.unpinned, T.keep _ _ _ st8 fun b hb o e => (pp b hb o e).1, fun b hb => ?_, w11⟩
        obtain ⟨o, e, d⟩ := T.obj _ _ st8 b hb
        exact (pp b hb o e).2
      cases ok with
      | false =>
        rw [if_neg Bool.false_ne_true] at q10 ⊢
        exact again I10 q10
      | true =>
        rw [if_pos rfl] at q10 ⊢
        have ev := helt' _ s10 (some tu :: some tv :: σ) H10 _ I10 q10
        rw [e1, e2, e3, e4, e6] at ev
        refine thn ev fun y s11 ⟨yv, H11, I11, r11, ys, hys, hz, q11⟩ => ?_
        have ap := mt_append (X := X') _ s11 (some tu :: some tv :: σ) H11 (.ref s.heap.objs.size) [yv] (.ref s.heap.objs.size) [y] (fun _ H' => ∃ m', m' < n ∧ W (i + 1) m' H') I11 rfl (.cons r11 .nil) ⟨_, ys, yv, rfl, rfl, hys, hz, q11⟩
        rw [e1, e2, e3, e6] at ap
        exact thn ap fun _ s12 ⟨_, H12, I12, _, q12⟩ => again I12 q12
  exact codeAny_compStart_list (loop _ rfl) (T.self _ 0 _ _ _ t1 (loop _ rfl))
theorem pe_comp2 {elt iter : Expr} {ifs : List Expr} {pos : Pos} {wi : TI} {te : TE} {tt : TT} (hc : X.calm = true) (S : CompScope2 X N x z scope cl) (hi : PI X (.Tuple [.Name x px, .Name z pz] kt pt) iter wi)
    (hts : ∀ C s H fp, PTs (compCx2 X N x z scope cl C s H fp) ifs tt) (helt : ∀ C s H fp, PE (compCx2 X N x z scope cl C s H fp) elt te) (hs : ∀ v, foldedSetIterable iter X.env v = pure v := by intro _; rfl) :
    PE X (.ListComp elt [⟨.Tuple [.Name x px, .Name z pz] kt pt, iter, ifs, 0⟩] scope pos) (tComp2 X.K wi tt te) := by
  intro pins s σ H Q I h
  rw [eval_ListComp]
  refine wpAny_comprehension_free (use := none) rfl hs S.clos S.kind S.names (thn (hi pins s σ H _ I h) fun v s1 h1 => thn h1 fun itv s2 h2 => ?_)
  obtain ⟨it, fp, tn, J, H2, rfl, I2, T, st2, f2, hq⟩ := h2
  refine comp_block2 (RR := fun acc C => compPost (model X.prog X.w) X.A X.xe none (EP X pins σ Q) acc C) hc S T hts helt I2 st2 f2 hq fun D C H' s' I' q ⟨m, hm⟩ h1 h2 h3 h4 h5 => ?_
  exact ⟨m, hm, fun h' sb => ⟨.ref D, H', I'.turned (it := C) (t' := s'.toks) (sameBut_keeps sb) h1 h2.symm.symm (.inr h3) h4 h5, rfl, q⟩⟩
end
def capComp2 (N N' fr : List Str) (x z : Str) (scope osc : Scope) : Bool :=
  decide (scope.kind = .function) && decide (osc.kind = .function)
    && scope.names.all (fun p => decide (p.2 = .local) || decide (p.2 = .globalImplicit) || (decide (p.2 = .free) && decide (p.1 ∈ fr) && decide (osc.names.lookup p.1 = some .cell)))
    && scope.names.all (fun p => !decide (p.2 = .local) || decide (scope.names.lookup p.1 = some .local))
    && decide (scope.names.lookup x = some .local) && decide ((x :: z :: N').Nodup) && decide (x ∉ fr)
    && N'.all (fun y => !decide (scope.names.lookup y = some .local)) && decide (N'.length = N.length)
    && (N'.zip N).all (fun p => decide (p.1 = p.2) || decide (scope.names.lookup p.1 = none)) && decide (scope.names.lookup z = some .local) && decide (z ∉ fr)
theorem compCap2 {X : Cx} {N N' fr : List Str} {x z : Str} {scope osc : Scope} {cl : List (Str × Addr)} (hN : X.N = N) (ho : X.env.scope = osc) (h : capComp2 N N' fr x z scope osc = true) (hc : closureFor scope X.env = pure cl)
    (hf : cl.map (·.1) = fr) (hcl : ∀ p ∈ cl, X.env.cells.lookup p.1 = some p.2) : CompScope2 X (x :: z :: N') x z scope cl := by
  simp only [capComp2, Bool.and_eq_true, decide_eq_true_eq, List.all_eq_true, Bool.or_eq_true, Bool.not_eq_true', decide_eq_false_iff_not] at h
  obtain ⟨⟨⟨⟨⟨⟨⟨⟨⟨⟨⟨h1, h0⟩, h2⟩, h3⟩, h4⟩, h5⟩, h7⟩, h6⟩, h8⟩, h9⟩, h10⟩, h11⟩ := h
  subst ho
  have rl := relabel_lookup (scope := scope) (env := X.env)
  have fr_of : ∀ y, scope.names.lookup y = some .free → y ∈ fr ∧ X.env.kindOf y = some .cell := fun y e => by
    rcases h2 _ (lookup_mem e) with (z | z) | z
    · cases z
    · cases z
    · exact ⟨z.1.2, z.2⟩
  have vis : ∀ y k, (relabel scope X.env).names.lookup y = some k → (k = .local ∧ scope.names.lookup y = some .local) ∨ (k = .globalImplicit) ∨ (k = .cell ∧ scope.names.lookup y = some .free) := fun y k e => by
    rw [rl y] at e
    cases e0 : scope.names.lookup y with
    | none => rw [e0] at e; cases e
    | some k0 =>
      rw [e0] at e
      simp only [Option.map_some, Option.some.injEq] at e
      rcases h2 _ (lookup_mem e0) with (z | z) | z
      · have z' : k0 = .local := z
        subst z'
        left
        exact ⟨by rw [← e]; rfl, rfl⟩
      · have z' : k0 = .globalImplicit := z
        subst z'
        right; left
        rw [← e]; rfl
      · have z' : k0 = .free := z.1.1
        subst z'
        right; right
        refine ⟨?_, rfl⟩
        rw [← e, if_pos]
        have hk : X.env.kindOf y = some .cell := z.2
        rw [hk, h0]
        rfl
  refine ⟨hc, fun y hy z => ?_, h1, fun y hy e => ?_, h4, h10, h5, rfl, rfl, by rw [hN, List.length_cons, List.length_cons, h8], fun j y e v => ?_, fun y c e => hcl _ (lookup_mem e), fun y e => ?_, ?_, ?_⟩
  · rcases h2 y hy with (e | e) | e
    · rw [z] at e; cases e
    · rw [z] at e; cases e
    · rw [z] at e; cases e.1.1
  · rcases h3 y hy with q | q
    · exact absurd e q
    · exact q
  · have e' : N'[j]? = some y := by simpa using e
    have hy : y ∈ N' := List.mem_of_getElem? e'
    have key : scope.names.lookup y = some .free ∧ (relabel scope X.env).names.lookup y = some .cell := by
      rcases v with v | v | v <;> rcases vis y _ v with z | z | z
      · exact absurd z.2 (h6 y hy)
      · cases z
      · cases z.1
      · cases z.1
      · cases z
      · exact ⟨z.2, v⟩
      · cases z.1
      · cases z
      · cases z.1
    obtain ⟨k1, k2⟩ := key
    obtain ⟨f1, f2⟩ := fr_of y k1
    obtain ⟨c, hcc⟩ := mem_lookup (l := cl) (y := y) (by rw [hf]; exact f1)
    have hj : j < N.length := by rw [← h8]; exact (List.getElem?_eq_some_iff.mp e').1
    have hz : (N'.zip N)[j]? = some (y, N[j]) := by rw [List.getElem?_zip_eq_some]; exact ⟨e', List.getElem?_eq_getElem hj⟩
    have eN : N[j]? = some y := by
      rcases h9 _ (List.mem_of_getElem? hz) with q | q
      · rw [List.getElem?_eq_getElem hj]
        exact congrArg some (show y = N[j] from q).symm
      · have q' : scope.names.lookup y = none := q
        rw [k1] at q'
        cases q'
    exact ⟨by rw [hN]; exact eN, f2, .inr (.inl f2), .inl k2, hcc.trans (hcl _ (lookup_mem hcc)).symm⟩
  · have : scope.names.lookup y = some .free := by
      rcases e with e | e <;> rcases vis y _ e with z | z | z
      · cases z.1
      · cases z
      · exact z.2
      · cases z.1
      · cases z
      · cases z.1
    exact mem_lookup (by rw [hf]; exact (fr_of y this).1)
  · cases e : cl.lookup x with
    | none => rfl
    | some c => exact absurd (by rw [← hf]; exact List.mem_map_of_mem (lookup_mem e)) h7
  · cases e : cl.lookup z with
    | none => rfl
    | some c => exact absurd (by rw [← hf]; exact List.mem_map_of_mem (lookup_mem e)) h11
end L2
namespace L2
open PySem PySem.Spec PyProof.Rows
set_option genInjectivity false in
set_option genSizeOf false in
structure NxOk (prog : Program) (w : World) (it : Addr) (fp : List Addr) (get : Nat → Option Value) (st : Nat → Heap → Prop) : Prop where
  item : ∀ (A : Around) (E : Value → Shared → Prop) (s : Shared) (k : Nat) (x : Value) (Q : Value → Shared → Prop), st k s.heap → get k = some x →
    (∀ h', st (k + 1) h' → Heap.SameBut it s.heap h' → Q x { s with heap := h' }) → wpAny (model prog w) A (Builtin.SmallTypes.nextOf (.ref it)) Q E s
  stop : ∀ (A : Around) (E : Value → Shared → Prop) (s : Shared) (k : Nat) (Q : Value → Shared → Prop), A.handled = none → st k s.heap → get k = none →
    (∀ h' e, Heap.ExtBut it s.heap h' → (∃ o, h'.get? e = some o ∧ o.cls = .type "StopIteration") → E (.ref e) { s with heap := h' }) → wpAny (model prog w) A (Builtin.SmallTypes.nextOf (.ref it)) Q E s
  keep : ∀ k h h', st k h → (∀ b ∈ it :: fp, ∀ o, h.get? b = some o → h'.get? b = some o) → st k h'
  got : ∀ k h, st k h → ∃ o, h.get? it = some o ∧ ∀ v, o.data ≠ .cell v
theorem keep_but {prog : Program} {w : World} {it c : Addr} {fp : List Addr} {get : Nat → Option Value} {st : Nat → Heap → Prop} (N : NxOk prog w it fp get st) {k : Nat} {h h' : Heap} (x : st k h) (hs : Heap.ExtBut c h h') (hc : c ∉ it :: fp) : st k h' :=
  N.keep k h h' x fun b hb o e => hs b o (fun z => hc (z ▸ hb)) e
section
variable {prog : Program} {w : World} {A : Around} {E : Value → Shared → Prop} {s : Shared} {z TI TO i1 i2 : Addr} {f1 f2 : List Addr} {g1 g2 : Nat → Option Value} {s1 s2 : Nat → Heap → Prop} {k : Nat} {x y a b : Value}
set_option genInjectivity false in
set_option genSizeOf false in
structure ZApart (z TI TO i1 i2 : Addr) (f1 f2 : List Addr) : Prop where
  TIz : TI ≠ z
  TOz : TO ≠ z
  TITO : TI ≠ TO
  TIi1 : TI ≠ i1
  TIi2 : TI ≠ i2
  z1 : z ∉ i1 :: f1
  z2 : z ∉ i2 :: f2
  o1 : TO ∉ i1 :: f1
  o2 : TO ∉ i2 :: f2
  i12 : i1 ∉ i2 :: f2
  i21 : i2 ∉ i1 :: f1
theorem ZApart.ne1 (D : ZApart z TI TO i1 i2 f1 f2) : i1 ≠ z := fun e => D.z1 (by rw [e]; simp)
theorem ZApart.ne2 (D : ZApart z TI TO i1 i2 f1 f2) : i2 ≠ z := fun e => D.z2 (by rw [e]; simp)
theorem ZApart.no1 (D : ZApart z TI TO i1 i2 f1 f2) : TO ≠ i1 := fun e => D.o1 (by rw [e]; simp)
theorem ZApart.no2 (D : ZApart z TI TO i1 i2 f1 f2) : TO ≠ i2 := fun e => D.o2 (by rw [e]; simp)
theorem zipG_item {Q : Value → Shared → Prop} (D : ZApart z TI TO i1 i2 f1 f2) (N1 : NxOk prog w i1 f1 g1 s1) (N2 : NxOk prog w i2 f2 g2 s2)
    (hz : IsZip s.heap z TI TO .none) (hTI : IsPair s.heap TI (.ref i1) (.ref i2)) (hTO : IsPair s.heap TO a b) (h1 : s1 k s.heap) (h2 : s2 k s.heap) (hx : g1 k = some x) (hy : g2 k = some y)
    (hQ : ∀ h', IsZip h' z TI TO (rawInt s.heap.objs.size) → IsPair h' TO x y → s1 (k + 1) h' → s2 (k + 1) h' → IsPair h' s.heap.objs.size x y → h'.objs.size = s.heap.objs.size + 1 →
      (∀ c o, c ≠ z → c ≠ TO → c ≠ i1 → c ≠ i2 → s.heap.get? c = some o → h'.get? c = some o) → Q (.ref s.heap.objs.size) { s with heap := h' }) :
    wpAny (model prog w) A (Builtin.«zip.__next__» ⟨[.ref z], []⟩) (fun fin s' => ∃ v, fin = .done (.ret v) ∧ Q v s') E s := by
  show wpAny _ _ (field (.ref z) 2 >>= _) _ _ _
  refine wpAny_bind (wpAny_field hz rfl (x := .bool false) rfl ?_)
  show wpAny _ _ (field (.ref z) 3 >>= _) _ _ _
  refine wpAny_bind (wpAny_field hz rfl (x := .ref TI) rfl ?_)
  refine wpAny_bind (wpAny_seqItems hTI rfl ?_)
  show wpAny _ _ (Builtin.SmallTypes.ownedTupleIsFree (.ref z) >>= _) _ _ _
  refine wpAny_bind ?_
  unfold Builtin.SmallTypes.ownedTupleIsFree
  refine wpAny_bind (wpAny_field hz rfl (x := .none) rfl (wpAny_pure ?_))
  simp only [if_true]
  refine wpAny_bind (wpAny_rule ?_)
  refine wpAny_bind (wpAny_field hz rfl (x := .ref TO) rfl ?_)
  refine wpAny_bind (wpAny_setField_rec hz (by simp) fun ha hza sa => ?_)
  replace hza : IsZip ha z TI TO .ellipsis := hza
  refine wpAny_bind ?_
  simp only [List.zipIdx_cons, List.zipIdx_nil, List.forIn_cons, List.forIn_nil]
  refine wpAny_bind (wpAny_bind (wpAny_onRaise ?_))
  show wpAny _ _ (Builtin.SmallTypes.nextOf (.ref i1) >>= _) _ _ _
  refine wpAny_bind (N1.item _ _ _ k x _ (keep_but N1 h1 sa.extBut D.z1) hx fun hb h1b sb => wpAny_pure ?_)
  have hTOb : IsPair hb TO a b := sb.extBut _ _ D.no1 (sa.extBut _ _ D.TOz hTO)
  refine wpAny_bind (wpAny_seqItems hTOb rfl ?_)
  refine wpAny_bind (wpAny_updateSeq_pair hTOb fun hc hTOc sc => ?_)
  replace hTOc : IsPair hc TO x b := hTOc
  refine wpAny_bind (wpAny_letGo (wpAny_pure ?_))
  refine wpAny_bind (wpAny_bind (wpAny_onRaise ?_))
  show wpAny _ _ (Builtin.SmallTypes.nextOf (.ref i2) >>= _) _ _ _
  refine wpAny_bind (N2.item _ _ _ k y _ (keep_but N2 (keep_but N2 (keep_but N2 h2 sa.extBut D.z2) sb.extBut D.i12) sc.extBut D.o2) hy fun hd h2d sd => wpAny_pure ?_)
  have hTOd : IsPair hd TO x b := sd.extBut _ _ D.no2 hTOc
  refine wpAny_bind (wpAny_seqItems hTOd rfl ?_)
  refine wpAny_bind (wpAny_updateSeq_pair hTOd fun he hTOe se => ?_)
  replace hTOe : IsPair he TO x y := hTOe
  refine wpAny_bind (wpAny_letGo (wpAny_pure (wpAny_pure ?_)))
  refine wpAny_bind (wpAny_seqItems hTOe rfl ?_)
  refine wpAny_bind (wpAny_newTuple ?_)
  have hsz : he.objs.size = s.heap.objs.size := by rw [se.1, sd.1, sc.1, sb.1, sa.1]
  have hze : IsZip he z TI TO .ellipsis := se.extBut _ _ D.TOz.symm (sd.extBut _ _ D.ne2.symm (sc.extBut _ _ D.TOz.symm (sb.extBut _ _ D.ne1.symm hza)))
  have hke : ∀ c o, c ≠ z → c ≠ TO → c ≠ i1 → c ≠ i2 → s.heap.get? c = some o → he.get? c = some o := fun c o c1 c2 c3 c4 e =>
    se.extBut _ _ c2 (sd.extBut _ _ c4 (sc.extBut _ _ c2 (sb.extBut _ _ c3 (sa.extBut _ _ c1 e))))
  have h1e : s1 (k + 1) he := keep_but N1 (keep_but N1 (keep_but N1 h1b sc.extBut D.o1) sd.extBut D.i21) se.extBut D.o1
  have h2e : s2 (k + 1) he := keep_but N2 h2d se.extBut D.o2
  have hzlt : z < he.objs.size := Heap.lt_size hze
  show wpAny _ _ (Builtin.SmallTypes.ownedTupleHandOut (.ref z) (.ref he.objs.size) >>= _) _ _ _
  refine wpAny_bind ?_
  unfold Builtin.SmallTypes.ownedTupleHandOut
  have hzf : IsZip (he.push { cls := .type "tuple", data := .seq #[x, y] }) z TI TO .ellipsis := Heap.get?_push_of_some _ hze
  refine wpAny_bind (wpAny_setField_rec hzf (by simp) fun hg hzg sg => ?_)
  replace hzg : IsZip hg z TI TO (rawInt he.objs.size) := hzg
  refine wpAny_setField_rec hzg (by simp) fun hn hzn sn => ?_
  replace hzn : IsZip hn z TI TO (rawInt he.objs.size) := hzn
  have up : ∀ c o, c ≠ z → he.get? c = some o → hn.get? c = some o := fun c o c1 e => sn.extBut _ _ c1 (sg.extBut _ _ c1 (Heap.get?_push_of_some _ e))
  have hTn : IsPair hn he.objs.size x y := sn.extBut _ _ (Nat.ne_of_gt hzlt) (sg.extBut _ _ (Nat.ne_of_gt hzlt) (Heap.get?_push_size _ rfl))
  have hnz : hn.objs.size = he.objs.size + 1 := by rw [sn.1, sg.1, Heap.size_push]
  rw [hsz] at hzn hTn hnz
  refine wpAny_pure ⟨_, rfl, ?_⟩
  show Q (.ref he.objs.size) _
  rw [hsz]
  exact hQ hn hzn (up _ _ D.TOz hTOe) (N1.keep _ _ _ h1e fun b hb o e => up b o (fun z' => D.z1 (z' ▸ hb)) e) (N2.keep _ _ _ h2e fun b hb o e => up b o (fun z' => D.z2 (z' ▸ hb)) e) hTn hnz fun c o c1 c2 c3 c4 e => up c o c1 (hke c o c1 c2 c3 c4 e)
theorem zipG_end {Q : Fin → Shared → Prop} (hh : A.handled = none) (D : ZApart z TI TO i1 i2 f1 f2) (N1 : NxOk prog w i1 f1 g1 s1) (N2 : NxOk prog w i2 f2 g2 s2)
    (hz : IsZip s.heap z TI TO .none) (hTI : IsPair s.heap TI (.ref i1) (.ref i2)) (hTO : IsPair s.heap TO a b) (h1 : s1 k s.heap) (h2 : s2 k s.heap) (hend : g1 k = none ∨ g2 k = none)
    (hE : ∀ h' e, (∀ c o, c ≠ z → c ≠ TO → c ≠ i1 → c ≠ i2 → s.heap.get? c = some o → h'.get? c = some o) → (∃ o, h'.get? e = some o ∧ o.cls = .type "StopIteration") → E (.ref e) { s with heap := h' }) :
    wpAny (model prog w) A (Builtin.«zip.__next__» ⟨[.ref z], []⟩) Q E s := by
  show wpAny _ _ (field (.ref z) 2 >>= _) _ _ _
  refine wpAny_bind (wpAny_field hz rfl (x := .bool false) rfl ?_)
  show wpAny _ _ (field (.ref z) 3 >>= _) _ _ _
  refine wpAny_bind (wpAny_field hz rfl (x := .ref TI) rfl ?_)
  refine wpAny_bind (wpAny_seqItems hTI rfl ?_)
  show wpAny _ _ (Builtin.SmallTypes.ownedTupleIsFree (.ref z) >>= _) _ _ _
  refine wpAny_bind ?_
  unfold Builtin.SmallTypes.ownedTupleIsFree
  refine wpAny_bind (wpAny_field hz rfl (x := .none) rfl (wpAny_pure ?_))
  simp only [if_true]
  refine wpAny_bind (wpAny_rule ?_)
  refine wpAny_bind (wpAny_field hz rfl (x := .ref TO) rfl ?_)
  refine wpAny_bind (wpAny_setField_rec hz (by simp) fun ha hza sa => ?_)
  replace hza : IsZip ha z TI TO .ellipsis := hza
  refine wpAny_bind ?_
  simp only [List.zipIdx_cons, List.zipIdx_nil, List.forIn_cons, List.forIn_nil]
  refine wpAny_bind (wpAny_bind (wpAny_onRaise ?_))
  show wpAny _ _ (Builtin.SmallTypes.nextOf (.ref i1) >>= _) _ _ _
  cases hx : g1 k with
  | none =>
    refine wpAny_bind (N1.stop _ _ _ k _ hh (keep_but N1 h1 sa.extBut D.z1) hx fun hb e sb he => ?_)
    obtain ⟨oe, hoe, hce⟩ := he
    have hzb : IsZip hb z TI TO .ellipsis := sb _ _ D.ne1.symm hza
    have hez : e ≠ z := fun x => by subst x; rw [hzb] at hoe; cases hoe; simp at hce
    refine wpAny_setField_rec hzb (by simp) fun hc _ sc => hE hc e (fun c o c1 _ c3 _ x => sc.extBut _ _ c1 (sb _ _ c3 (sa.extBut _ _ c1 x))) ⟨oe, sc.extBut _ _ hez hoe, hce⟩
  | some x =>
    have hy : g2 k = none := by
      rcases hend with h | h
      · rw [hx] at h; cases h
      · exact h
    refine wpAny_bind (N1.item _ _ _ k x _ (keep_but N1 h1 sa.extBut D.z1) hx fun hb h1b sb => wpAny_pure ?_)
    have hTOb : IsPair hb TO a b := sb.extBut _ _ D.no1 (sa.extBut _ _ D.TOz hTO)
    refine wpAny_bind (wpAny_seqItems hTOb rfl ?_)
    refine wpAny_bind (wpAny_updateSeq_pair hTOb fun hc hTOc sc => ?_)
    refine wpAny_bind (wpAny_letGo (wpAny_pure ?_))
    refine wpAny_bind (wpAny_bind (wpAny_onRaise ?_))
    show wpAny _ _ (Builtin.SmallTypes.nextOf (.ref i2) >>= _) _ _ _
    refine wpAny_bind (N2.stop _ _ _ k _ hh (keep_but N2 (keep_but N2 (keep_but N2 h2 sa.extBut D.z2) sb.extBut D.i12) sc.extBut D.o2) hy fun hd e sd he => ?_)
    obtain ⟨oe, hoe, hce⟩ := he
    have hzd : IsZip hd z TI TO .ellipsis := sd _ _ D.ne2.symm (sc.extBut _ _ D.TOz.symm (sb.extBut _ _ D.ne1.symm hza))
    have hez : e ≠ z := fun x => by subst x; rw [hzd] at hoe; cases hoe; simp at hce
    refine wpAny_setField_rec hzd (by simp) fun hn _ sn => hE hn e (fun c o c1 c2 c3 c4 x => sn.extBut _ _ c1 (sd _ _ c4 (sc.extBut _ _ c2 (sb.extBut _ _ c3 (sa.extBut _ _ c1 x))))) ⟨oe, sn.extBut _ _ hez hoe, hce⟩
theorem zipG_next {Q : Option Value → Shared → Prop} (D : ZApart z TI TO i1 i2 f1 f2) (N1 : NxOk prog w i1 f1 g1 s1) (N2 : NxOk prog w i2 f2 g2 s2)
    (hz : IsZip s.heap z TI TO .none) (hTI : IsPair s.heap TI (.ref i1) (.ref i2)) (hTO : IsPair s.heap TO a b) (h1 : s1 k s.heap) (h2 : s2 k s.heap) (hx : g1 k = some x) (hy : g2 k = some y)
    (hQ : ∀ h', IsZip h' z TI TO (rawInt s.heap.objs.size) → IsPair h' TO x y → s1 (k + 1) h' → s2 (k + 1) h' → IsPair h' s.heap.objs.size x y → h'.objs.size = s.heap.objs.size + 1 →
      (∀ c o, c ≠ z → c ≠ TO → c ≠ i1 → c ≠ i2 → s.heap.get? c = some o → h'.get? c = some o) → Q (some (.ref s.heap.objs.size)) { s with heap := h' }) :
    wpAny (model prog w) A (pyNext (.ref z)) Q E s := by
  have hT : s.TypeIs (.ref z) "zip" := ⟨_, hz, rfl⟩
  unfold pyNext
  exact wpAny_bind (wpAny_attempt (wpAny_callSpecial?_slot (name := Str.ofString "__next__") hT F.slot_zip_next
    (wpAny_call_entry F.slot_zip_next hT F.entry_zip_next
      (zipG_item D N1 N2 hz hTI hTO h1 h2 hx hy fun h' a1 a2 a3 a4 a5 a6 a7 => wpAny_pure (hQ h' a1 a2 a3 a4 a5 a6 a7)) (F.args_zip_next_1 _))))
theorem zipG_done {Q : Option Value → Shared → Prop} (hh : A.handled = none) (D : ZApart z TI TO i1 i2 f1 f2) (N1 : NxOk prog w i1 f1 g1 s1) (N2 : NxOk prog w i2 f2 g2 s2)
    (hz : IsZip s.heap z TI TO .none) (hTI : IsPair s.heap TI (.ref i1) (.ref i2)) (hTO : IsPair s.heap TO a b) (h1 : s1 k s.heap) (h2 : s2 k s.heap) (hend : g1 k = none ∨ g2 k = none)
    (hQ : ∀ h', (∀ c o, c ≠ z → c ≠ TO → c ≠ i1 → c ≠ i2 → s.heap.get? c = some o → h'.get? c = some o) → Q none { s with heap := h' }) : wpAny (model prog w) A (pyNext (.ref z)) Q E s := by
  have hT : s.TypeIs (.ref z) "zip" := ⟨_, hz, rfl⟩
  unfold pyNext
  refine wpAny_bind (wpAny_attempt (wpAny_callSpecial?_slot (name := Str.ofString "__next__") hT F.slot_zip_next
    (wpAny_call_entry F.slot_zip_next hT F.entry_zip_next (zipG_end hh D N1 N2 hz hTI hTO h1 h2 hend fun h' e hk he => ?_) (F.args_zip_next_1 _))))
  obtain ⟨o, ho, hc⟩ := he
  refine wpAny_bind (wpAny_isInstance (T := "StopIteration") (b := true) ⟨o, ho, hc⟩ isSubtype_stop ?_)
  exact wpAny_pure (hQ _ hk)
end
theorem nx_tuple {prog : Program} {w : World} {it l : Addr} {items : Array Value} (hne : l ≠ it) : NxOk prog w it [l] (fun k => items[k]?) (fun k h => h.IsTupleIter it l k ∧ h.IsTuple l items) where
  item := by
    rintro A E s k x Q ⟨hit, hl⟩ hx hQ
    replace hx : items[k]? = some x := hx
    obtain ⟨o, ho, hc, hd⟩ := id hit
    obtain ⟨ol, hol, hcl, nl, hdl⟩ := id hl
    unfold Builtin.SmallTypes.nextOf
    refine wpAny_bind (wpAny_callSpecial?_slot (name := Str.ofString "__next__") hit.typeIs F.slot_tuple_iterator_next
      (wpAny_call_entry F.slot_tuple_iterator_next hit.typeIs F.entry_tuple_iterator_next ?_ (F.args_tuple_iterator_next_1 _)))
    show wpAny _ _ (field (.ref it) 0 >>= _) _ _ s
    refine wpAny_bind (wpAny_field ho hd (x := .ref l) rfl ?_)
    show wpAny _ _ (if (Value.ref l == Value.none) = true then _ else _) _ _ s
    rw [if_neg (show ¬ ((Value.ref l == Value.none) = true) from Bool.false_ne_true)]
    show wpAny _ _ (field (.ref it) 1 >>= _) _ _ s
    refine wpAny_bind (wpAny_field ho hd (x := .int k 0) rfl ?_)
    show wpAny _ _ (seqItems? (.ref l) >>= _) _ _ s
    refine wpAny_bind (wpAny_seqItems hol hdl ?_)
    simp only [Int.toNat_natCast, hx]
    refine wpAny_bind (wpAny_setField ho hd (by simp) (wpAny_pure ⟨x, rfl, wpAny_pure (hQ _ ⟨?_, ?_⟩ (Heap.SameBut.update ..))⟩))
    · exact ⟨_, Heap.get?_update_self _ ho (Obj.isFreed_of_fields (Obj.data_mapFields hd _)), (Obj.cls_mapFields ..).trans hc, by
        rw [Obj.data_mapFields hd]; simp [rawInt]⟩
    · exact ⟨ol, (Heap.SameBut.update ..).extBut _ _ hne hol, hcl, nl, hdl⟩
  stop := by
    rintro A E s k Q hh ⟨hit, hl⟩ hx hE
    replace hx : items[k]? = none := hx
    obtain ⟨o, ho, hc, hd⟩ := id hit
    obtain ⟨ol, hol, hcl, nl, hdl⟩ := id hl
    unfold Builtin.SmallTypes.nextOf
    refine wpAny_bind (wpAny_callSpecial?_slot (name := Str.ofString "__next__") hit.typeIs F.slot_tuple_iterator_next
      (wpAny_call_entry F.slot_tuple_iterator_next hit.typeIs F.entry_tuple_iterator_next ?_ (F.args_tuple_iterator_next_1 _)))
    show wpAny _ _ (field (.ref it) 0 >>= _) _ _ s
    refine wpAny_bind (wpAny_field ho hd (x := .ref l) rfl ?_)
    show wpAny _ _ (if (Value.ref l == Value.none) = true then _ else _) _ _ s
    rw [if_neg (show ¬ ((Value.ref l == Value.none) = true) from Bool.false_ne_true)]
    show wpAny _ _ (field (.ref it) 1 >>= _) _ _ s
    refine wpAny_bind (wpAny_field ho hd (x := .int k 0) rfl ?_)
    show wpAny _ _ (seqItems? (.ref l) >>= _) _ _ s
    refine wpAny_bind (wpAny_seqItems hol hdl ?_)
    simp only [Int.toNat_natCast, hx]
    refine wpAny_bind (wpAny_rule (wpAny_bind (wpAny_setField ho hd (by simp) ?_)))
    show wpAny _ _ (newExc (.type "StopIteration") [] >>= _) _ _ _
    refine wpAny_bind ?_
    simp only [newExc, newTuple]
    refine wpAny_bind (wpAny_newObj_type ?_ (by size_fits))
    refine wpAny_bind (m := firstArgMember _ _) (wpAny_of_eq (a := Value.none) (by first | rfl | (simp only [firstArgMember]; rfl)) ?_)
    refine wpAny_newObj_type ?_ (by size_fits)
    simp only [raiseNew]
    refine wpAny_bind (wpAny_handled ?_)
    first | rw [show A.in1.handled = none from hh] | rw [hh]
    refine wpAny_bind (wpAny_pure (wpAny_throw ?_))
    exact hE _ _ (((Heap.SameBut.update ..).extBut.push _).push _) ⟨_, Heap.get?_push_size _ rfl, rfl⟩
  keep := fun k h h' ⟨⟨o, e, c, d⟩, ⟨u, e2, c2, d2⟩⟩ hk => ⟨⟨o, hk it (by simp) o e, c, d⟩, ⟨u, hk l (by simp) u e2, c2, d2⟩⟩
  got := fun k h ⟨⟨o, e, c, d⟩, _⟩ => ⟨o, e, fun v z => by rw [d] at z; cases z⟩
abbrev tz1 (h : Heap) (l1 : Addr) : Heap := h.push { cls := .type "tuple_iterator", data := .fields #[.ref l1, .int 0 0] }
abbrev tz2 (h : Heap) (l1 l2 : Addr) : Heap := (tz1 h l1).push { cls := .type "tuple_iterator", data := .fields #[.ref l2, .int 0 0] }
abbrev tz3 (h : Heap) (l1 l2 : Addr) : Heap := (tz2 h l1 l2).push { cls := .type "tuple", data := .seq #[.ref h.objs.size, .ref (tz1 h l1).objs.size] }
abbrev tz4 (h : Heap) (l1 l2 : Addr) : Heap := (tz3 h l1 l2).push { cls := .type "tuple", data := .seq #[.none, .none] }
abbrev tz5 (h : Heap) (l1 l2 : Addr) : Heap := (tz4 h l1 l2).push { cls := .type "zip", data := .fields #[.none, .bool false, .bool false, .ref (tz2 h l1 l2).objs.size, .ref (tz3 h l1 l2).objs.size] }
theorem meets_zipT (l1 l2 : Addr) (xs ys : Array Value) :
    Meets (Builtin.«zip.__new__» ⟨[.type "zip", .ref l1, .ref l2], []⟩) (fun _ R s => s.heap.IsTuple l1 xs ∧ s.heap.IsTuple l2 ys ∧ ∀ h',
      (∀ c o, s.heap.get? c = some o → h'.get? c = some o) → IsZip h' (s.heap.objs.size + 4) (s.heap.objs.size + 2) (s.heap.objs.size + 3) .none → IsPair h' (s.heap.objs.size + 2) (.ref s.heap.objs.size) (.ref (s.heap.objs.size + 1)) →
      IsPair h' (s.heap.objs.size + 3) .none .none → h'.IsTupleIter s.heap.objs.size l1 0 → h'.IsTupleIter (s.heap.objs.size + 1) l2 0 → R (.ok (.ret (.ref (s.heap.objs.size + 4)))) { s with heap := h' }) :=
  .of_wp fun prog w A R s h => by
    obtain ⟨hp, g, d, tk, os⟩ := s
    obtain ⟨hl1, hl2, h⟩ := h
    have hsub := sub_zip
    have hL1 : Heap.IsTuple (Shared.heap ⟨hp, g, d, tk, os⟩) l1 xs := hl1
    have hL2 : Heap.IsTuple (Shared.heap ⟨hp.push { cls := .type "tuple_iterator", data := .fields #[.ref l1, .int 0 0] }, g, d, tk, os⟩) l2 ys := by
      obtain ⟨o, e, c, n, dd⟩ := hl2
      exact ⟨o, Heap.get?_push_of_some _ e, c, n, dd⟩
    wp_walk using wpAny_pyIter_tuple hL1, wpAny_pyIter_tuple hL2
    refine ⟨_, rfl, ?_⟩
    show R (.ok (.ret (.ref (tz4 hp l1 l2).objs.size))) ⟨tz5 hp l1 l2, g, d, tk, os⟩
    have z1 : (tz1 hp l1).objs.size = hp.objs.size + 1 := Heap.size_push ..
    have z2 : (tz2 hp l1 l2).objs.size = hp.objs.size + 2 := by rw [Heap.size_push, z1]
    have z3 : (tz3 hp l1 l2).objs.size = hp.objs.size + 3 := by rw [Heap.size_push, z2]
    have z4 : (tz4 hp l1 l2).objs.size = hp.objs.size + 4 := by rw [Heap.size_push, z3]
    have g5 : (tz5 hp l1 l2).get? (tz4 hp l1 l2).objs.size = some _ := Heap.get?_push_size _ rfl
    have g4 : (tz5 hp l1 l2).get? (tz3 hp l1 l2).objs.size = some _ := Heap.get?_push_of_some _ (Heap.get?_push_size _ rfl)
    have g3 : (tz5 hp l1 l2).get? (tz2 hp l1 l2).objs.size = some _ := Heap.get?_push_of_some _ (Heap.get?_push_of_some _ (Heap.get?_push_size _ rfl))
    have g2 : (tz5 hp l1 l2).get? (tz1 hp l1).objs.size = some _ := Heap.get?_push_of_some _ (Heap.get?_push_of_some _ (Heap.get?_push_of_some _ (Heap.get?_push_size _ rfl)))
    have g1 : (tz5 hp l1 l2).get? hp.objs.size = some _ := Heap.get?_push_of_some _ (Heap.get?_push_of_some _ (Heap.get?_push_of_some _ (Heap.get?_push_of_some _ (Heap.get?_push_size _ rfl))))
    rw [z2, z3, z4] at g5
    rw [z1, z2] at g3
    rw [z3] at g4
    rw [z1] at g2
    rw [z4]
    exact h (tz5 hp l1 l2) (fun c o x => Heap.get?_push_of_some _ (Heap.get?_push_of_some _ (Heap.get?_push_of_some _ (Heap.get?_push_of_some _ (Heap.get?_push_of_some _ x))))) g5 g3 g4 ⟨_, g1, rfl, rfl⟩ ⟨_, g2, rfl, rfl⟩
theorem call_zipT {prog : Program} {w : World} {A : Around} {E : Value → Shared → Prop} {s : Shared} {l1 l2 : Addr} {xs ys : Array Value} {Q : Value → Shared → Prop} (hl1 : s.heap.IsTuple l1 xs) (hl2 : s.heap.IsTuple l2 ys)
    (h : ∀ h', (∀ c o, s.heap.get? c = some o → h'.get? c = some o) → IsZip h' (s.heap.objs.size + 4) (s.heap.objs.size + 2) (s.heap.objs.size + 3) .none → IsPair h' (s.heap.objs.size + 2) (.ref s.heap.objs.size) (.ref (s.heap.objs.size + 1)) →
      IsPair h' (s.heap.objs.size + 3) .none .none → h'.IsTupleIter s.heap.objs.size l1 0 → h'.IsTupleIter (s.heap.objs.size + 1) l2 0 → Q (.ref (s.heap.objs.size + 4)) { s with heap := h' }) :
    wpAny (model prog w) A (call (.type "zip") [.ref l1, .ref l2]) Q E s :=
  callType_new F.called_zip (by decide) (F.typeCall_zip_2 _ _) (F.newCall_zip_2 _ _) (fun obj => F.args_object_init_3 obj _ _) F.entry_zip_new
    (meets_zipT l1 l2 xs ys) ⟨hl1, hl2, fun h' k a1 a2 a3 a4 a5 => ⟨⟨_, a1, rfl⟩, h h' k a1 a2 a3 a4 a5⟩⟩
end L2
namespace L2
open PySem PySem.Spec PyProof.Rows
section
variable {X : Cx} {pins : List (Addr × Obj)} {σ : St} {H : Hp} {s : Shared}
theorem inv_turnedL {h' : Heap} {t' : Nat} {ch : List Addr} (I : Inv X pins σ H s) (k : ∀ b o, b ∉ ch → s.heap.get? b = some o → h'.get? b = some o) (hf : ∀ b ∈ ch, FpOk X pins H b) : Inv X pins σ H { s with heap := h', toks := t' } := by
  refine I.step (g' := s.gens) (d' := s.drawn) (ch := ch) (fun b hb => ?_) (fun b o _ _ hc e _ => k b o hc e) (fun b o _ _ hc e _ => ⟨o.slots, k b o hc e⟩) (fun _ _ _ _ n => n)
    (fun b o hc e => ⟨o, k b o hc e⟩) (fun _ _ e => e) (fun _ _ _ e => e) (fun b ps e => ⟨#[], by rw [e]; simp⟩) (fun m hm => ?_) (fun b u e => ?_) I.bare
  · obtain ⟨_, f1, _, f3, f4, f5⟩ := hf b hb
    exact ⟨f3, f1, f4, f5⟩
  · obtain ⟨o, es, ep, ho, r⟩ := hm
    exact ⟨o, es, ep, k _ o (fun z => (hf _ z).2.1 rfl) ho, r⟩
  · refine (I.hok b u e).stay (fun c v hc q => k c v (fun z => ?_) q) (fun _ q => q) fun _ _ q => q
    have hn := (hf c z).1
    rcases hc with y | y
    · rw [y, e] at hn; cases hn
    · rw [y] at hn; cases hn
theorem inv_trackN {a : Addr} {o : HO} {s' : Shared} (I0 : Inv X pins σ H s) (I : Inv X pins σ H s') (ha : s.heap.objs.size ≤ a) (new : ObjOk X.prog X.w (upd H a o) s'.heap a o) : Inv X pins σ (upd H a o) s' := by
  refine inv_track I (I0.hok.fresh ha) ?_ (Nat.ne_of_gt (Nat.lt_of_lt_of_le I0.lt ha)) (fun x c e => ?_) (fun p hp => ?_) new
  · cases e : X.s₀.heap.get? a with
    | none => rfl
    | some o => exact absurd (Nat.lt_of_lt_of_le (Heap.lt_size e) (Nat.le_trans I0.sz ha)) (Nat.lt_irrefl _)
  · obtain ⟨v, q⟩ := I0.cell x c e
    exact Nat.ne_of_lt (Nat.lt_of_lt_of_le q.lt ha)
  · exact Nat.ne_of_lt (Nat.lt_of_lt_of_le (Heap.lt_size (I0.pin p hp).1) ha)
end
def Itz (K : PySem.W.Frag) (a b : Addr) : It where
  go i H := ∃ xs ys x y, SqT K H a xs ∧ SqT K H b ys ∧ xs[i]? = some x ∧ ys[i]? = some y
  yld i H v H' := ∃ p x y, v = .ref p ∧ H p = none ∧ H' = upd H p (.tup [x, y]) ∧ (∀ xs, SqT K H a xs → xs[i]? = some x) ∧ (∀ ys, SqT K H b ys → ys[i]? = some y)
  stop i H := ∃ xs ys, SqT K H a xs ∧ SqT K H b ys ∧ (xs.length ≤ i ∨ ys.length ≤ i)
theorem turn_zip {P : Program} {w : World} {K : PySem.W.Frag} {es : List Expr} {kt : Nat} {pt : Pos} {a b z TI TO i1 i2 : Addr} (D : ZApart z TI TO i1 i2 [a] [b]) :
    Turn P w K (.Tuple es kt pt) (Itz K a b) [z, TI, TO, i1, i2] z (fun i h => IsZip h z TI TO .none ∧ IsPair h TI (.ref i1) (.ref i2) ∧ (∃ u v, IsPair h TO u v) ∧ h.IsTupleIter i1 a i ∧ h.IsTupleIter i2 b i) where
  mem := by simp
  obj := fun i h ⟨hz, hTI, ⟨u, v, hTO⟩, ⟨o1, e1, c1, d1⟩, ⟨o2, e2, c2, d2⟩⟩ bb hb => by
    simp only [List.mem_cons, List.not_mem_nil, or_false] at hb
    rcases hb with rfl | rfl | rfl | rfl | rfl
    · exact ⟨_, hz, fun v z => by cases z⟩
    · exact ⟨_, hTI, fun v z => by cases z⟩
    · exact ⟨_, hTO, fun v z => by cases z⟩
    · exact ⟨o1, e1, fun v z => by rw [d1] at z; cases z⟩
    · exact ⟨o2, e2, fun v z => by rw [d2] at z; cases z⟩
  keep := fun i h h' ⟨hz, hTI, ⟨u, v, hTO⟩, ⟨o1, e1, c1, d1⟩, ⟨o2, e2, c2, d2⟩⟩ k =>
    ⟨k z (by simp) _ hz, k TI (by simp) _ hTI, ⟨u, v, k TO (by simp) _ hTO⟩, ⟨o1, k i1 (by simp) _ e1, c1, d1⟩, ⟨o2, k i2 (by simp) _ e2, c2, d2⟩⟩
  item := by
    intro X hP hw hK hc i pins s σ H E I hf st hg
    subst hP hw hK
    obtain ⟨hz, hTI, ⟨u0, v0, hTO⟩, h1, h2⟩ := st
    obtain ⟨xs, ys, x, y, hqa, hqb, hx, hy⟩ := hg
    obtain ⟨ita, rva, pa, hza⟩ := I.tuple hqa
    obtain ⟨itb, rvb, pb, hzb⟩ := I.tuple hqb
    obtain ⟨ux, hux, rx⟩ := rva.get hx
    obtain ⟨uy, huy, ry⟩ := rvb.get hy
    have na : a ≠ i1 := fun e => by
      obtain ⟨o, ho, c1, d1⟩ := h1
      obtain ⟨o', ho', c1', _⟩ := (show s.heap.IsTuple a ita.toArray from pa)
      rw [e, ho] at ho'
      cases ho'
      rw [c1] at c1'
      simp at c1'
    have nb : b ≠ i2 := fun e => by
      obtain ⟨o, ho, c1, d1⟩ := h2
      obtain ⟨o', ho', c1', _⟩ := (show s.heap.IsTuple b itb.toArray from pb)
      rw [e, ho] at ho'
      cases ho'
      rw [c1] at c1'
      simp at c1'
    refine zipG_next D (nx_tuple (l := a) (items := ita.toArray) na) (nx_tuple (l := b) (items := itb.toArray) nb) hz hTI hTO ⟨h1, pa⟩ ⟨h2, pb⟩ (x := ux) (y := uy) (by simpa using hux) (by simpa using huy) fun h' hz' hTO' h1' h2' hT' hsz hk => ?_
    refine ⟨_, rfl, wpAny_letOwnedTupleGo_zip hz' fun h'' hz'' sb => ?_⟩
    have lt : ∀ bb ∈ [z, TI, TO, i1, i2], bb < s.heap.objs.size := fun bb hb => by
      obtain ⟨o1, e1, c1, d1⟩ := h1
      obtain ⟨o2, e2, c2, d2⟩ := h2
      simp only [List.mem_cons, List.not_mem_nil, or_false] at hb
      rcases hb with rfl | rfl | rfl | rfl | rfl
      · exact Heap.lt_size hz
      · exact Heap.lt_size hTI
      · exact Heap.lt_size hTO
      · exact Heap.lt_size e1
      · exact Heap.lt_size e2
    have I1 : Inv X pins σ H { s with heap := h'' } := inv_turnedL (t' := s.toks) (ch := [z, TI, TO, i1, i2]) I (fun c o hc e => by
      simp only [List.mem_cons, List.not_mem_nil, or_false, not_or] at hc
      exact sb.extBut _ _ hc.1 (hk c o hc.1 hc.2.2.1 hc.2.2.2.1 hc.2.2.2.2 e)) hf
    have hpz : s.heap.objs.size ≠ z := Nat.ne_of_gt (lt z (by simp))
    have hpn : H s.heap.objs.size = none := I.hok.fresh (Nat.le_refl _)
    have up : ∀ c o, c ≠ z → h'.get? c = some o → h''.get? c = some o := fun c o n e => sb.extBut _ _ n e
    refine ⟨.ref s.heap.objs.size, upd H s.heap.objs.size (.tup [x, y]), inv_trackN I I1 (Nat.le_refl _) ⟨small6 (by simp), [ux, uy], .cons rx (.cons ry .nil), ?_⟩, rfl, ⟨_, x, y, rfl, hpn, rfl, fun xs' hq' => by rw [I.tuple_inj hq' hqa]; exact hx, fun ys' hq' => by rw [I.tuple_inj hq' hqb]; exact hy⟩, ⟨hz'', up _ _ D.TIz (hk TI _ D.TIz D.TITO D.TIi1 D.TIi2 hTI), ⟨ux, uy, up _ _ D.TOz hTO'⟩, ?_, ?_⟩, fun bb hb => ?_⟩
    · exact ⟨_, up _ _ hpz hT', rfl, _, rfl⟩
    · obtain ⟨o, e, c, d⟩ := h1'.1
      exact ⟨o, up _ _ D.ne1 e, c, d⟩
    · obtain ⟨o, e, c, d⟩ := h2'.1
      exact ⟨o, up _ _ D.ne2 e, c, d⟩
    · rw [upd_ne (Nat.ne_of_lt (lt bb hb))]
      exact (hf bb hb).1
  done := by
    intro X hP hw hK hc i pins s σ H E I hf st hg
    subst hP hw hK
    obtain ⟨hz, hTI, ⟨u0, v0, hTO⟩, h1, h2⟩ := st
    obtain ⟨xs, ys, hqa, hqb, hend⟩ := hg
    obtain ⟨ita, rva, pa, hza⟩ := I.tuple hqa
    obtain ⟨itb, rvb, pb, hzb⟩ := I.tuple hqb
    have la := rva.length
    have lb := rvb.length
    have na : a ≠ i1 := fun e => by
      obtain ⟨o, ho, c1, d1⟩ := h1
      obtain ⟨o', ho', c1', _⟩ := (show s.heap.IsTuple a ita.toArray from pa)
      rw [e, ho] at ho'
      cases ho'
      rw [c1] at c1'
      simp at c1'
    have nb : b ≠ i2 := fun e => by
      obtain ⟨o, ho, c1, d1⟩ := h2
      obtain ⟨o', ho', c1', _⟩ := (show s.heap.IsTuple b itb.toArray from pb)
      rw [e, ho] at ho'
      cases ho'
      rw [c1] at c1'
      simp at c1'
    refine zipG_done (I.ok.hd hc) D (nx_tuple (l := a) (items := ita.toArray) na) (nx_tuple (l := b) (items := itb.toArray) nb) hz hTI hTO ⟨h1, pa⟩ ⟨h2, pb⟩ (hend.imp (fun q => by simp; omega) fun q => by simp; omega) fun h' hk => ⟨rfl, ?_⟩
    exact inv_turnedL (t' := s.toks) (ch := [z, TI, TO, i1, i2]) I (fun c o hc e => by
      simp only [List.mem_cons, List.not_mem_nil, or_false, not_or] at hc
      exact hk c o hc.1 hc.2.2.1 hc.2.2.2.1 hc.2.2.2.2 e) hf
  self := fun _ _ _ _ _ st h => wpAny_pyIter_zip st.1 h
theorem addr_ne {n i j : Nat} (h : i ≠ j) : n + i ≠ n + j := by omega
theorem addr_no {n i j a : Nat} (h : i ≠ j) (ha : a < n) : n + i ∉ [n + j, a] := by
  simp only [List.mem_cons, List.not_mem_nil, or_false]
  omega
theorem bt_zip : bootBuiltins "zip" = some (.type "zip") := by decide +kernel
def iZip (K : PySem.W.Frag) (ta : TA) : TI := fun σ H R => ta σ H fun vs H1 => ∃ a b, vs = [.ref a, .ref b] ∧ (∃ xs, SqT K H1 a xs) ∧ (∃ ys, SqT K H1 b ys) ∧ R (Itz K a b) H1
theorem pi_zip {X : Cx} {es : List Expr} {kt : Nat} {pt : Pos} {a b : Expr} {ta : TA} {p pos : Pos} (hg : Gl X "zip") (hm : X.mg "zip" = none) (ha : PA X [a, b] ta) (hs : starEach [a, b] X.env = [(false, eval a X.env), (false, eval b X.env)] := by rfl) (hs2 : starEach [b] X.env = [(false, eval b X.env)] := by rfl) :
    PI X (.Tuple es kt pt) (.Call (.Name "zip" p) [a, b] [] pos) (iZip X.K ta) := by
  intro pins s σ H R I h
  refine Call_ (ld_blt I hg hm bt_zip (PyProof.Rows.callWith_type1 (thn (ha pos pins s σ H _ I h) fun us s1 ⟨vs, H1, I1, r1, q1⟩ => ?_) (by rw [hs, hs2]) (by rw [hs2]; rfl)))
  obtain ⟨a, b, e, ⟨xs, hqa⟩, ⟨ys, hqb⟩, q⟩ := q1
  subst e
  cases r1 with
  | cons r rr =>
    cases rr with
    | cons r' rr =>
      cases rr
      cases r
      cases r'
      obtain ⟨ita, rva, pa, hza⟩ := I1.tuple hqa
      obtain ⟨itb, rvb, pb, hzb⟩ := I1.tuple hqb
      have la : a < s1.heap.objs.size := by obtain ⟨o, ho, _⟩ := (show s1.heap.IsTuple a ita.toArray from pa); exact Heap.lt_size ho
      have lb : b < s1.heap.objs.size := by obtain ⟨o, ho, _⟩ := (show s1.heap.IsTuple b itb.toArray from pb); exact Heap.lt_size ho
      refine call_zipT (show s1.heap.IsTuple a ita.toArray from pa) (show s1.heap.IsTuple b itb.toArray from pb) fun h' k a1 a2 a3 a4 a5 => ?_
      refine wpAny_pyIter_zip a1 ?_
      refine ⟨s1.heap.objs.size + 4, [s1.heap.objs.size + 4, s1.heap.objs.size + 2, s1.heap.objs.size + 3, s1.heap.objs.size, s1.heap.objs.size + 1], _, _, H1, rfl, I1.kept (t' := s1.toks) k, turn_zip (a := a) (b := b) ⟨addr_ne (by decide), addr_ne (by decide), addr_ne (by decide), addr_ne (j := 0) (by decide), addr_ne (by decide), ?_, ?_, ?_, ?_, ?_, ?_⟩, ⟨a1, a2, ⟨_, _, a3⟩, a4, a5⟩, fun bb hb => ?_, q⟩
      · exact addr_no (j := 0) (by decide) la
      · exact addr_no (by decide) lb
      · exact addr_no (j := 0) (by decide) la
      · exact addr_no (by decide) lb
      · exact addr_no (i := 0) (by decide) lb
      · exact addr_no (j := 0) (by decide) la
      simp only [List.mem_cons, List.not_mem_nil, or_false] at hb
      have hbb : s1.heap.objs.size ≤ bb := by rcases hb with rfl | rfl | rfl | rfl | rfl <;> first | exact Nat.le_refl _ | exact Nat.le_add_right _ _
      exact I1.fpOk hbb (I1.hok.fresh hbb)
theorem comp_zip {K : PySem.W.Frag} {σ : St} {H : Hp} {Q : VK} {te : TE} {tt : TT} {ta : TA} {a b : Addr} {xs ys : List V} (f : Nat → Bool) (Pr : Nat → V → Hp → Prop)
    (hta : ∀ R : List V → Hp → Prop, R [.ref a, .ref b] H → ta σ H R) (hsa : SqT K H a xs) (hsb : SqT K H b ys) (hl : xs.length = ys.length) (hz : xs.length ≤ 1000000)
    (mono : ∀ i y H1 H2, Tk K H1 H2 → Pr i y H1 → Pr i y H2)
    (test : ∀ i x y H', xs[i]? = some x → ys[i]? = some y → Same H H' → ∀ Q' : Bool → Hp → Prop, (∀ H'', Same H' H'' → Q' (f i) H'') → tt (some x :: some y :: σ) H' Q')
    (elt : ∀ i x y H', xs[i]? = some x → ys[i]? = some y → f i = true → Same H H' → ∀ Q' : VK, (∀ y H'', Same H' H'' → Pr i y H'' → Q' y H'') → te (some x :: some y :: σ) H' Q')
    (q : ∀ D zs H', Same H H' → H D = none → H' D = some (.lst zs) → All2 (fun i y => Pr i y H') ((List.range xs.length).filter f) zs → Q (.ref D) H') : tComp2 K (iZip K ta) tt te σ H Q := by
  unfold tComp2 iZip
  refine hta _ ⟨a, b, rfl, ⟨xs, hsa⟩, ⟨ys, hsb⟩, fun D hD => ⟨fun i m H' => m = xs.length - i ∧ i ≤ xs.length ∧ Same H H' ∧ ∃ zs, H' D = some (.lst zs) ∧ All2 (fun i y => Pr i y H') ((List.range i).filter f) zs, ⟨_, rfl, Nat.zero_le _, fun b o h => by rw [upd_ne (ne_of_none h hD)]; exact h, [], upd_same, trivial⟩, ?_⟩⟩
  rintro i m H1 ⟨rfl, hi, S, zs, hzs, ha⟩
  by_cases c : i = xs.length
  · subst c
    exact .inl ⟨⟨xs, ys, Same.sqT hsa S, Same.sqT hsb S, .inl (Nat.le_refl _)⟩, q D zs H1 S hD hzs ha⟩
  · have hx : xs[i]? = some xs[i] := List.getElem?_eq_getElem (by omega)
    have hy : ys[i]? = some ys[i] := List.getElem?_eq_getElem (by omega)
    refine .inr ⟨⟨xs, ys, _, _, Same.sqT hsa S, Same.sqT hsb S, hx, hy⟩, ?_⟩
    rintro v H2 ⟨p, x, y, rfl, hp, rfl, ex, ey⟩
    have ex' := ex xs (Same.sqT hsa S)
    have ey' := ey ys (Same.sqT hsb S)
    have S2 := same_new hp (.tup [x, y])
    refine ⟨p, x, y, rfl, .of upd_same, ?_⟩
    generalize upd H1 p (.tup [x, y]) = H2 at S2
    have ha2 := ha.imp fun i y h => mono i y _ _ S2.tk h
    have hzs2 := S2 _ _ hzs
    replace S := S.trans S2
    clear S2 ha hzs
    refine test i x y H2 ex' ey' S _ fun H3 S3 => ?_
    have hr : (List.range (i + 1)).filter f = (List.range i).filter f ++ (if f i = true then [i] else []) := by
      rw [List.range_succ, List.filter_append]
      congr 1
      simp only [List.filter_cons, List.filter_nil]
    cases hf : f i with
    | false =>
      rw [if_neg (by simp)]
      rw [hf, if_neg (by simp), List.append_nil] at hr
      exact ⟨_, by omega, rfl, by omega, S.trans S3, zs, S3 _ _ hzs2, by rw [hr]; exact ha2.imp fun i y h => mono i y _ _ S3.tk h⟩
    | true =>
      rw [if_pos rfl]
      rw [hf, if_pos rfl] at hr
      refine elt i x y H3 ex' ey' hf (S.trans S3) _ fun u H4 S4 hu => ?_
      have h4 := S4 _ _ (S3 _ _ hzs2)
      have hlen : zs.length ≤ i := by
        have := ha2.len
        rw [← this]
        exact Nat.le_trans (List.length_filter_le _ _) (by rw [List.length_range]; exact Nat.le_refl _)
      have tku : Tk K H4 (upd H4 D (.lst (zs ++ [u]))) := Tk.updL h4
      refine ⟨zs, h4, small16 (by omega), _, by omega, rfl, by omega, fun b o h => ?_, _, upd_same, ?_⟩
      · rw [upd_ne (ne_of_none h hD)]
        exact S4 _ _ (S3 _ _ (S _ _ h))
      · rw [hr]
        exact All2.snoc (P := fun i z => Pr i z (upd H4 D (.lst (zs ++ [u])))) (mono _ _ _ _ tku hu) (ha2.imp fun i y h => mono i y _ _ ((S3.tk.trans S4.tk).trans tku) h)
end L2
namespace L2
open PySem PySem.Spec PyProof.Rows
def rMinL (K : PySem.W.Frag) : List V → Hp → VK → Prop := fun xs H Q => ∃ (l : Addr) (ns : List Int), xs = [.ref l] ∧ SqL K H l (ns.map V.int) ∧ 0 < ns.length ∧ ∀ M, M ∈ ns → (∀ a ∈ ns, M ≤ a) → Q (.int M) H
theorem call_minL {X : Cx} (hc : X.calm = true) : CallR X (.builtin "min") (rMinL X.K) := by
  intro pins s σ H xs us Q I r h
  obtain ⟨l, ns, rfl, hq, hne, q⟩ := h
  obtain ⟨u, rfl, ru⟩ := vals1 r
  cases ru
  obtain ⟨its, rv, p, hz⟩ := I.list hq
  have hi := intsAre_of rv
  obtain ⟨ys, e⟩ := hi.allInts.items
  have hns : ns = ys.toList.map (·.1) := by rw [← hi.numsOf, ← nums_intItems, ← e]
  have hsz : 0 < ys.size := by
    have h3 := hne
    rw [hns, List.length_map, Array.length_toList] at h3
    exact h3
  have hl := p.isList
  rw [e] at hl
  refine min_intList (I.ok.hd hc) hl hsz fun v h' tk hv hk => ?_
  obtain ⟨t, rfl⟩ := intItems_at hv
  obtain ⟨h1, h2⟩ := argBest_lt (numAt ys) (ys.size - 1)
  refine ⟨.int _, H, I.kept (t' := tk) hk, ⟨_, rfl⟩, q _ ?_ fun a ha => ?_⟩
  · rw [hns, numAt_eq]; exact getD_mem (by rw [List.length_map, Array.length_toList]; omega)
  · rw [hns] at ha
    obtain ⟨j, hj, rfl⟩ := mem_getD ha
    rw [List.length_map, Array.length_toList] at hj
    rw [← numAt_eq]; exact h2 j (by omega)
end L2
namespace L2
open PySem PySem.Spec PyProof.Rows
def rRepr (K : PySem.W.Frag) : List V → Hp → VK → Prop := fun xs H Q => ∃ x t d, xs = [x] ∧ Dt K t H d x ∧ PyData.showable d = true ∧ (PyData.shown d).length ≤ sizeLine ∧ PyData.depth d ≤ 100 ∧ Q (.str (PyData.shown d)) H
theorem bt_repr : bootBuiltins "repr" = some (.builtin "repr") := by decide +kernel
theorem call_reprD {X : Cx} {k : Nat} (hr : Room k X.A) : CallR X (.builtin "repr") (rRepr X.K) := by
  intro pins s σ H xs us Q I r h
  obtain ⟨x, t, d, rfl, hd, hs, hl, hdp, q⟩ := h
  obtain ⟨u, rfl, ru⟩ := vals1 r
  obtain ⟨as, rd⟩ := Dt.reads I d x u hd ru
  have hnd := PyData.hasDict_of_canLay d (Dt.lay d x hd)
  have un := hr.un
  have fin : ∀ h' tok tk, (∀ b o, s.heap.get? b = some o → h'.get? b = some o) → EP X pins σ Q (.str (PyData.shown d) tok) { s with heap := h', toks := tk } := fun h' tok tk hk => ⟨.str (PyData.shown d), H, I.kept (t' := tk) hk, ⟨tok, rfl⟩, q⟩
  cases d with
  | none =>
    simp only [Dt] at hd
    subst hd
    cases ru
    exact P.repr_of_none (fin s.heap _ _ fun _ _ e => e)
  | bool b =>
    simp only [Dt] at hd
    subst hd
    cases ru
    exact P.repr_of_bool (fin s.heap _ _ fun _ _ e => e)
  | int i =>
    simp only [Dt] at hd
    subst hd
    obtain ⟨tk, rfl⟩ := ru
    exact P.repr_of_int (by simpa [PyData.showable] using hs) (fin s.heap _ _ fun _ _ e => e)
  | str z =>
    simp only [Dt] at hd
    obtain ⟨rfl, _⟩ := hd
    obtain ⟨tk, rfl⟩ := ru
    exact P.repr_of_str (fin s.heap _ _ fun _ _ e => e) hl
  | tuple ds =>
    have hd' := hd
    simp only [Dt] at hd'
    obtain ⟨a, xs, rfl, _⟩ := hd'
    cases ru
    exact repr_of_reads' rd hs (PyData.noDict_hsm hnd) hr.gd (by omega) (fun _ _ e => e) (fun h' u tk hk => fin h' u tk hk) hl
  | list ds =>
    have hd' := hd
    simp only [Dt] at hd'
    obtain ⟨a, xs, rfl, _⟩ := hd'
    cases ru
    exact repr_of_reads' rd hs (PyData.noDict_hsm hnd) hr.gd (by omega) (fun _ _ e => e) (fun h' u tk hk => fin h' u tk hk) hl
  | dict kvs => simp [Dt] at hd
def rNotB : R2 := fun x y H Q => ∃ a b : Bool, x = .bl a ∧ y = .bl b ∧ Q (.bl (!decide (a = b))) H
theorem op_notB {X : Cx} : OpR X (compareOp .IsNot) rNotB := by
  intro pins s σ H x y v u Q I rx ry h
  obtain ⟨a, b, rfl, rfl, q⟩ := h
  cases rx
  cases ry
  refine wpAny_isNot_plain (by cases a <;> cases b <;> rfl) (fin_bl I q ?_)
  cases a <;> cases b <;> rfl
end L2
namespace L2
open PySem PySem.Spec PyProof.Rows
def ndAt (ws : List Str) : Nat → Nat
  | 0 => 0
  | i + 1 => match ws[i]? with
    | some x => if decide (x ∈ ws.take i) = true then ndAt ws i else ndAt ws i + 1
    | none => ndAt ws i
def nDist (ws : List Str) : Nat := ndAt ws ws.length
theorem ndAt_le (ws : List Str) : ∀ i, ndAt ws i ≤ i
  | 0 => Nat.le_refl _
  | i + 1 => by
    have ih := ndAt_le ws i
    unfold ndAt
    split
    · split <;> omega
    · omega
theorem ndAt_nd {ws : List Str} (h : ws.Nodup) : ∀ i, i ≤ ws.length → ndAt ws i = i
  | 0, _ => rfl
  | i + 1, hi => by
    have ih := ndAt_nd h i (by omega)
    have e : ws[i]? = some ws[i] := List.getElem?_eq_getElem (by omega)
    have hn : ¬ ws[i] ∈ ws.take i := fun z => by
      obtain ⟨j, hj, e2⟩ := List.mem_take_iff_getElem.mp z
      have := (List.getElem_inj h).mp e2
      omega
    unfold ndAt
    rw [e]
    simp only [decide_eq_true_eq]
    rw [if_neg hn, ih]
theorem nDist_nd {ws : List Str} (h : ws.Nodup) : nDist ws = ws.length := ndAt_nd h _ (Nat.le_refl _)
def setO (D : Addr) (n : Nat) : HO := .ext fun h => ∃ o es ep t, h.get? D = some o ∧ o.ExactSet ∧ o.data = .set es ep t ∧ t.fits es.size = true ∧ es.size = n
section
variable {prog : Program} {w : World} {A : Around} {I : Addr} {fp wr : List Addr} {G : Array GenState → Array GenState → Prop} {n : Nat} {P : Nat → Value → Prop} {St : Nat → Shared → Prop} {R : Result → Shared → Prop}
theorem setOf_kept {D : Addr} {h1 h2 : Heap} {S : Str → Bool} {m : Nat} (x : h1.SetOf (strKind prog w) D S m) (k : ∀ o, h1.get? D = some o → h2.get? D = some o) : h2.SetOf (strKind prog w) D S m := by
  obtain ⟨o, es, ep, t, e, r⟩ := x
  exact ⟨o, es, ep, t, k o e, r⟩
theorem set_walk (W : WalksS prog w A.in1 I fp wr G n P St) (D : Addr) (hD : D ∉ fp) (ws : List Str) (hv : ∀ i v, P i v → ∃ x t, ws[i]? = some x ∧ v = .str x t) (hb : n + 1 < scanBound) :
    ∀ (m i : Nat) (s : Shared), n - i = m → i ≤ n → St i s → s.heap.SetOf (strKind prog w) D (fun x => decide (x ∈ ws.take i)) (ndAt ws i) →
      (∀ s2, Moved (D :: wr) G s s2 → s2.heap.SetOf (strKind prog w) D (fun x => decide (x ∈ ws.take n)) (ndAt ws n) → R (.ok (.ret .none)) s2) →
      codeAny (model prog w) A (.builtin "set.update.loop" ⟨[.ref D, .ref I], []⟩) R s := by
  have nw : D ∉ wr := fun z => hD (W.sub _ z)
  have more : ∀ b ∈ wr, b ∈ D :: wr := fun b z => List.mem_cons_of_mem _ z
  intro m
  induction m with
  | zero =>
    intro i s e1 e2 st x r
    obtain rfl : i = n := by omega
    refine codeAny_builtin PyProof.Rows.F.entry_set_update_loop (?_ : wpAny _ _ _ _ _ _)
    rw [Around.under_plainId (PyProof.Rows.F.plain_set_update_loop) _]
    show wpAny _ A.in1 ((pyNext (.ref I)) >>= _) _ _ s
    refine wpAny_bind (W.done s _ _ st (fun s2 mv => ?_))
    show wpAny _ A.in1 (ret (Value.none)) _ _ s2
    exact wpAny_pure (r s2 (mv.mono more) (setOf_kept x fun o e => mv.heap D o nw e))
  | succ m ih =>
    intro i s e1 e2 st x r
    have lt : i < n := by omega
    refine codeAny_builtin PyProof.Rows.F.entry_set_update_loop (?_ : wpAny _ _ _ _ _ _)
    rw [Around.under_plainId (PyProof.Rows.F.plain_set_update_loop) _]
    show wpAny _ A.in1 ((pyNext (.ref I)) >>= _) _ _ s
    refine wpAny_bind (W.item i s _ _ lt st (fun v s2 hp st2 mv => ?_))
    obtain ⟨z, t, ez, rfl⟩ := hv i v hp
    have x2 := setOf_kept (h2 := s2.heap) x fun o e => mv.heap D o nw e
    show wpAny _ A.in1 (holding [Value.str z t] (setAdd D (.str z t)) >>= _) _ _ s2
    refine wpAny_bind (wpAny_holding (?_))
    unfold setAdd
    refine wpAny_holding (?_)
    refine wpAny_bind ((strKind prog w).pyHash (k := z) (strKind_is _ _ _ _) (?_))
    have room : ndAt ws i + 1 < scanBound := by have := ndAt_le ws i; omega
    refine wpAny_setAddHashed_of (knd := strKind prog w) (s := { s2 with toks := s2.toks + 1 }) (strKind_is _ _ _ _) rfl x2 room (fun h2 sb x3 => ?_)
    have x4 : h2.SetOf (strKind prog w) D (fun y => decide (y ∈ ws.take (i + 1))) (ndAt ws (i + 1)) := by
      refine PyProof.Rows.SetOf_congr x3 (fun y => ?_) ?_
      · rw [List.take_add_one, ez]
        simp only [Option.toList_some, List.mem_append, List.mem_singleton]
        by_cases c1 : y ∈ ws.take i <;> by_cases c2 : y = z <;> simp [c1, c2]
      · conv => rhs; unfold ndAt
        rw [ez]
    refine wpAny_pure ⟨plainId_quiet (PyProof.Rows.F.plain_set_update_loop) _, ih (i + 1) _ (by omega) lt (W.frame _ s2 _ _ st2 (Nat.le_succ _) (fun b hb o e => ?_)) x4 (fun s3 mv3 x5 => ?_)⟩
    · rw [sb.2 b (fun z : b = D => hD (z ▸ hb))]
      exact e
    · refine r s3 (Moved.trans W.gtrans ((mv.mono more).then_heap (Nat.le_succ _) (fun b o hb e => ?_)) mv3) x5
      rw [sb.2 b (fun z : b = D => hb (by rw [z]; exact List.mem_cons_self))]
      exact e
end
section
variable {prog : Program} {w : World} {A : Around} {E : Value → Shared → Prop} {s : Shared}
set_option maxRecDepth 100000 in
set_option maxHeartbeats 6400000 in
theorem call_set_texts {l : Addr} {its : Array Value} {ws : List Str} {Q : Value → Shared → Prop} (hh : A.handled = none) (hl : s.heap.IsList l its) (hv : ∀ (i : Nat) (v : Value), its[i]? = some v → ∃ x t, ws[i]? = some x ∧ v = .str x t) (hb : its.size + 1 < scanBound)
    (q : ∀ (h2 : Heap) (tk : Nat), h2.SetOf (strKind prog w) s.heap.objs.size (fun x => decide (x ∈ ws.take its.size)) (ndAt ws its.size) → (∀ b o, b < s.heap.objs.size → s.heap.get? b = some o → h2.get? b = some o) → Q (.ref s.heap.objs.size) { s with heap := h2, toks := tk }) :
    wpAny (model prog w) A (call (.type "set") [.ref l]) Q E s := by
  obtain ⟨c0, tl0, mro0⟩ := F.called_set.mro
  have made0 := F.called_set.made
  have sub0 := F.called_set.sub
  refine wpAny_call (codeAny_of_tree (?_))
  show wpAny _ _ (callAny (.type ("set")) _) _ _ _
  refine wpAny_pure ⟨Code.quiet_builtin _ (by decide +kernel), codeAny_builtin (F.entry_type_call) ?_⟩
  rw [Around.under_plain (weight_type_call_type "set" [(.ref l)] []) rfl]
  have n1 := F.called_set.notType
  have n2 := F.called_set.canCreate
  have n3 := F.typeCall_set_1 (.ref l)
  repeat (any_goals (first | (assumption) | wp_step))
  refine codeAny_mono (code_set_new_1 (.ref l) (E := E) (Q₁ := fun y s1 => ∃ b : Bool, y = .ref s.heap.objs.size ∧ s1 = { s with heap := s.heap.push { cls := .type "set", dict := none, data := .set #[] 0 (.fresh 0 0 b) } }) fun b => ⟨b, rfl, rfl⟩) (fun r s1 hr => ?_)
  cases r with
  | error e => exact (hr)
  | ok fl =>
    cases fl with
    | ret y =>
      obtain ⟨b, rfl, rfl⟩ := hr
      have g0 : (s.heap.push { cls := .type "set", dict := none, data := .set #[] 0 (.fresh 0 0 b) }).get? s.heap.objs.size = some { cls := .type "set", dict := none, data := .set #[] 0 (.fresh 0 0 b) } := Heap.get?_push_size _ rfl
      have ty0 : Shared.TypeIs { s with heap := s.heap.push { cls := .type "set", dict := none, data := .set #[] 0 (.fresh 0 0 b) } } (.ref s.heap.objs.size) "set" := ⟨_, g0, rfl⟩
      have i1 := F.called_set.init.lookup
      have i2 := F.called_set.init.bind (.ref s.heap.objs.size)
      repeat (any_goals (first | (assumption) | wp_step))
      refine codeAny_mono (codeAny_call_builtin (R := wants (fun y s2 => y = .none ∧ ∃ h2 tk, s2 = { s with heap := h2, toks := tk } ∧ h2.SetOf (strKind prog w) s.heap.objs.size (fun x => decide (x ∈ ws.take its.size)) (ndAt ws its.size) ∧ (∀ b o, b < s.heap.objs.size → s.heap.get? b = some o → h2.get? b = some o)) E) F.called_set.init.plain F.entry_set_init (check_set_init_1 ty0 ?_)) (fun r2 s2 hr2 => ?_)
      · obtain ⟨ol, gl, cl, nl, dl⟩ := hl
        obtain ⟨c1, d1, a1, s1⟩ := ol
        simp only at cl dl
        subst cl
        subst dl
        have gl2 : (s.heap.push { cls := .type "set", dict := none, data := .set #[] 0 (.fresh 0 0 b) }).get? l = some { cls := .type "list", dict := d1, data := .seq its nl, slots := s1 } := Heap.get?_push_of_some _ gl
        have k1 := F.sub_list_set
        have k2 := F.sub_list_frozenset
        have k3 : (Value.type ("list") == Value.type ("dict")) = false := by decide
        have il : (s.heap.push { cls := .type "set", dict := none, data := .set #[] 0 (.fresh 0 0 b) }).IsList l its := ⟨_, gl2, rfl, nl, rfl⟩
        unfold Builtin.«set.__init__» noKeywords
        unfold Builtin.Frozenset.updateFrom
        generalize ePI : pyIter = PI
        wp_walk
        subst ePI
        refine wpAny_pyIter_list il (?_)
        refine wpAny_bind (wpAny_runValue (?_))
        have lt : l < s.heap.objs.size := Heap.lt_size gl
        have hh3 : A.in1.in1.in1.handled = none := by simp [hh]
        have ne1 : l ≠ (s.heap.push { cls := .type "set", dict := none, data := .set #[] 0 (.fresh 0 0 b) }).objs.size := by
          rw [Heap.size_push]
          exact Nat.ne_of_lt (Nat.lt_succ_of_lt lt)
        have nm : s.heap.objs.size ∉ [(s.heap.push { cls := .type "set", dict := none, data := .set #[] 0 (.fresh 0 0 b) }).objs.size, l] := by
          rw [Heap.size_push]
          simp only [List.mem_cons, List.not_mem_nil, or_false, not_or]
          exact ⟨Nat.ne_of_lt (Nat.lt_succ_self _), Nat.ne_of_gt lt⟩
        refine set_walk ((Walks.list hh3 _ l ne1 its).toS) s.heap.objs.size nm ws hv hb (its.size - 0) 0 _ (by omega) (Nat.zero_le _) ⟨⟨_, Heap.get?_push_size _ rfl, rfl, rfl⟩, (il.push _)⟩ ?z0 ?z1
        case z0 =>
          refine PyProof.Rows.SetOf_congr ((PyProof.Rows.setObjOf_fresh (knd := strKind prog w) b).setOf (Heap.get?_push_of_some _ g0) (by unfold scanBound; omega)) (fun x => ?_) rfl
          simp
        case z1 =>
          intro s3 mv x3
          obtain ⟨h3, g3, d3, k3, o3⟩ := s3
          have e1 : g3 = s.gens := mv.gens
          have e2 : d3 = s.drawn := mv.drawn
          have e3 : o3 = s.os := mv.os
          subst e1
          subst e2
          subst e3
          show wpAny _ _ _ _ _ _
          refine wpAny_pure (?_)
          show wpAny _ _ (ret (Value.none)) _ _ _
          refine wpAny_pure ⟨rfl, h3, k3, rfl, x3, fun c o hc e => ?_⟩
          refine mv.heap c o (fun z => ?_) (Heap.get?_push_of_some _ (Heap.get?_push_of_some _ e))
          simp only [List.mem_cons, List.not_mem_nil, or_false] at z
          rcases z with z | z
          · exact Nat.ne_of_lt hc z
          · rw [Heap.size_push] at z
            exact Nat.ne_of_lt (Nat.lt_succ_of_lt hc) z
      · cases r2 with
        | error e => exact (hr2)
        | ok fl2 =>
          cases fl2 with
          | ret y =>
            obtain ⟨rfl, h2, tk, rfl, x2, kp⟩ := hr2
            repeat (any_goals (first | (assumption) | wp_step))
            exact q _ _ x2 kp
          | _ => exact (hr2.elim)
    | _ => exact (hr.elim)
end
theorem bt_set : bootBuiltins "set" = some (.type "set") := by decide +kernel
section
variable {X : Cx}
def rSetS (K : PySem.W.Frag) : List V → Hp → VK → Prop := fun xs H Q => ∃ (l : Addr) (ws : List Str), xs = [.ref l] ∧ SqL K H l (ws.map V.str) ∧ ws.length ≤ 1000 ∧ ∀ D, H D = none → Q (.ref D) (upd H D (setO D (nDist ws)))
theorem call_setS (hc : X.calm = true) : CallR X (.type "set") (rSetS X.K) := by
  intro pins s σ H xs us Q I r h
  obtain ⟨l, ws, rfl, hl, hz, q⟩ := h
  obtain ⟨u, rfl, ru⟩ := vals1 r
  cases ru
  obtain ⟨its, rv, pl, _⟩ := I.list hl
  obtain ⟨e1, e2⟩ := vals_strs rv
  have hlen : its.length = ws.length := by rw [← e1, ← e2]; simp [strValues]
  refine call_set_texts (ws := ws) (I.ok.hd hc) pl.isList (fun i v hv => ?_) (by rw [List.size_toArray, hlen]; unfold scanBound; omega) fun h2 tk x kp => ?_
  · have hv' : its[i]? = some v := by simpa using hv
    rw [← e1] at hv'
    unfold strValues at hv'
    rw [List.getElem?_map] at hv'
    cases e3 : (strVs its)[i]? with
    | none => rw [e3] at hv'; cases hv'
    | some p =>
      rw [e3] at hv'
      cases hv'
      exact ⟨p.1, p.2, by rw [← e2, List.getElem?_map, e3]; rfl, rfl⟩
  · have esz : its.toArray.size = ws.length := by rw [List.size_toArray, hlen]
    rw [esz] at x
    obtain ⟨o, es, ep, t, g1, g2, g3, _, _, _, g4, g5⟩ := x
    refine ⟨.ref s.heap.objs.size, _, I.laid (t' := tk) (fun b o e => kp b o (Heap.lt_size e) e) (Nat.le_refl _) (show ObjOk X.prog X.w _ h2 _ (setO s.heap.objs.size (nDist ws)) from ⟨⟨o, es, ep, t, g1, g2, g3, g4, g5⟩, ⟨o, g1⟩, fun h3 h4 x3 k => ?_⟩), rfl, q _ (I.hok.fresh (Nat.le_refl _))⟩
    obtain ⟨o, es, ep, t, g1, r⟩ := x3
    exact ⟨o, es, ep, t, k _ g1, r⟩
def rLenSet : List V → Hp → VK → Prop := fun xs H Q => ∃ D n, xs = [.ref D] ∧ H D = some (setO D n) ∧ n ≤ 1000000 ∧ Q (.int n) H
theorem call_lenSet : CallR X (.builtin "len") rLenSet := by
  intro pins s σ H xs us Q I r h
  obtain ⟨D, n, rfl, hD, hz, q⟩ := h
  obtain ⟨u, rfl, ru⟩ := vals1 r
  cases ru
  obtain ⟨⟨o, es, ep, t, g1, g2, g3, g4, g5⟩, _⟩ := I.hok D _ hD
  refine call_len_set g1 g2 g3 g4 (by omega) ⟨.int es.size, H, I.tok _, ⟨_, rfl⟩, ?_⟩
  rw [g5]
  exact q
def rFind : V → List V → Hp → VK → Prop := fun x vs H Q => ∃ a b, x = .str a ∧ vs = [.str b] ∧ Q (.int (Txt.find a b)) H
theorem mt_find : MtR X "str.find" rFind := by
  intro pins s σ H x vs v us Q I rx rv h
  obtain ⟨a, b, rfl, rfl, q⟩ := h
  obtain ⟨t, rfl⟩ := rx
  obtain ⟨u, rfl, ru⟩ := rv.one
  obtain ⟨t', rfl⟩ := ru
  exact PySem.W.KXw.find rfl fun t' k => ⟨.int _, H, I.tok _, ⟨_, rfl⟩, q⟩
def isB (d : PyData) (b : Bool) : Bool := match d with
  | .bool a => a == b
  | _ => false
def rIsB (K : PySem.W.Frag) : R2 := fun x y H Q => ∃ t d b, y = .bl b ∧ Dt K t H d x ∧ Q (.bl (isB d b)) H
theorem op_isB : OpR X (compareOp .Is) (rIsB X.K) := by
  intro pins s σ H x y v u Q I rx ry h
  obtain ⟨t, d, b, rfl, hd, q⟩ := h
  cases ry
  cases d with
  | none =>
    simp only [Dt] at hd
    subst hd
    cases rx
    exact wpAny_is_plain (by cases b <;> rfl) (fin_bl I q (by cases b <;> rfl))
  | bool a =>
    simp only [Dt] at hd
    subst hd
    cases rx
    exact wpAny_is_plain (by cases a <;> cases b <;> rfl) (fin_bl I q (by cases a <;> cases b <;> rfl))
  | int i =>
    simp only [Dt] at hd
    subst hd
    obtain ⟨tk, rfl⟩ := rx
    exact wpAny_is_plain (by cases b <;> rfl) (fin_bl I q (by cases b <;> rfl))
  | str z =>
    simp only [Dt] at hd
    obtain ⟨rfl, _⟩ := hd
    obtain ⟨tk, rfl⟩ := rx
    exact wpAny_is_plain (by cases b <;> rfl) (fin_bl I q (by cases b <;> rfl))
  | tuple ds =>
    simp only [Dt] at hd
    obtain ⟨a, xs, rfl, _⟩ := hd
    cases rx
    exact wpAny_is_plain (by cases b <;> rfl) (fin_bl I q (by cases b <;> rfl))
  | list ds =>
    simp only [Dt] at hd
    obtain ⟨a, xs, rfl, _⟩ := hd
    cases rx
    exact wpAny_is_plain (by cases b <;> rfl) (fin_bl I q (by cases b <;> rfl))
  | dict kvs => simp [Dt] at hd
end
theorem r_isB {K : PySem.W.Frag} {t : Addr} {x : V} {b : Bool} {d : PyData} {H : Hp} {Q : VK} (hd : Dt K t H d x) (q : Q (.bl (isB d b)) H) : rIsB K x (.bl b) H Q := ⟨t, d, b, rfl, hd, q⟩
end L2
namespace L2
open PySem PySem.Spec PyProof.Rows
section
variable {H : Hp} {Q : VK}
theorem r_leS {a b : Str} : rLeS (.str a) (.str b) H Q = Q (.bl (M.leS a b)) H := by
  unfold rLeS
  exact propext ⟨fun ⟨a, b, h1, h2, h⟩ => by cases h1; cases h2; exact h, fun h => ⟨a, b, rfl, rfl, h⟩⟩
theorem r_findS {a b : Str} : rFind (.str a) [.str b] H Q = Q (.int (Txt.find a b)) H := by
  unfold rFind
  exact propext ⟨fun ⟨a, b, h1, h2, h⟩ => by cases h1; cases h2; exact h, fun h => ⟨a, b, rfl, rfl, h⟩⟩
end
theorem comp_strB {σ : St} {H : Hp} {Q : VK} {te ta : TE} {x : Str} (f : Nat → Bool) (hta : ∀ R : VK, R (.str x) H → ta σ H R) (ha : x.cps.all (· < 128) = true) (hz : x.cps.size ≤ 1000)
    (elt : ∀ c H', c ∈ x.cps.toList → Same H H' → ∀ Q' : VK, (∀ H'', Same H' H'' → Q' (.bl (f c)) H'') → te (some (.str (M.sgn c)) :: σ) H' Q')
    (q : ∀ D H', Same H H' → H' D = some (.lst ((x.cps.toList.map f).map V.bl)) → Q (.ref D) H') : tComp (iStr ta) tTrue te σ H Q :=
  comp_str (fun c => .bl (f c)) hta ha hz elt fun D H' S _ h => q D H' S (by rw [h, List.map_map]; rfl)
theorem pe_bmK {X : Cx} {K : PySem.W.Frag} {o e : Expr} {es : List Expr} {to : TE} {t : TA} {name : Str} {apos cpos : Pos} {T : String} {id : String} {r : V → List V → Hp → VK → Prop} (hK : X.K = K) (pa : PlainAttrs T) (slot : Slot T name id) (hty : typeOf (.builtin id) = pure (.type "method_descriptor")) (hm : MtR X id r) (ho : PE X o to) (ha : PA X (e :: es) t)
    (hbase : attributeBase o name X.env (eval o X.env) = eval o X.env := by rfl)
    (hfew : ((backTo cpos (starEach (e :: es) X.env)).all (fun x => !x.1) && (backToKw cpos (keywordEach [] X.env)).all (fun x => x.1.isSome)
      && decide ((e :: es).length + ([] : List Keyword).length + (if ([] : List Keyword).isEmpty then 0 else 1) < 30)) = true := by rfl)
    (hline : (apos.endLine == cpos.line) = true := by rfl) (hs : starEach (e :: es) X.env = (false, eval e X.env) :: starEach es X.env := by rfl) (hplain : (backTo cpos (starEach es X.env)).any (·.1) = false := by rfl) :
    PE X (.Call (.Attribute o name apos) (e :: es) [] cpos) (tBM K T r to t) := hK ▸ pe_bm pa slot hty hm ho ha hbase hfew hline hs hplain
end L2
namespace HT
open PySem PySem.Spec PyProof.Rows
section
variable {prog : Program} {w : World} {A : Around} {E : Value → Shared → Prop} {s : Shared}
theorem whole_tup {t sl : Addr} {its : Array Value} {vl vu : Value} {lo hi : Option Int} {Q : Value → Shared → Prop} (ht : IsTup s.heap t its) (hs : s.heap.IsSliceOf sl vl vu .none) (pl : IsPart vl lo) (pu : IsPart vu hi)
    (e0 : sIx its.size 0 lo = 0) (e1 : sIx its.size its.size hi = its.size) (h : Q (.ref t) s) : wpAny (model prog w) A (getItem (.ref t) (.ref sl)) Q E s := by
  obtain ⟨os, g1, g2, g3⟩ := id hs
  have ty : s.TypeIs (.ref sl) "slice" := ⟨os, g1, g2⟩
  unfold getItem
  try with_reducible refine wpAny_holding (?_)
  first | refine wpAny_bind (wpAny_pure (?_)) | skip
  refine wpAny_bind (wpAny_sequenceKey ht.typeIs (by decide) (?_))
  refine wpAny_bind (wpAny_callSpecial?_slot (name := Str.ofString "__getitem__") ht.typeIs PyProof.Rows.slot_tuple_getitem (wpAny_call_entry PyProof.Rows.slot_tuple_getitem ht.typeIs entry_tuple_getitem (?_) (args_tuple_getitem _ _)))
  show wpAny _ _ ((Builtin.Tuple.tupleItemsOf (.ref t)) >>= _) _ _ s
  refine wpAny_bind (tupleItemsOf_ ht (?_))
  refine wpAny_bind (wpAny_typeOf ty (?_))
  rw [if_pos (by decide)]
  refine wpAny_bind (sliceApplied_gen hs pl pu (?_))
  rw [e0, e1]
  have yes : (((0 : Nat) : Int) == 0 && (1 : Int) == 1 && (its.size - 0) == its.size) = true := by simp
  show wpAny _ _ (if (((0 : Nat) : Int) == 0 && (1 : Int) == 1 && (its.size - 0) == its.size) = true then _ else _) _ _ s
  rw [if_pos yes]
  obtain ⟨o, ho, hc, _⟩ := id ht
  have tt : s.TypeIs (.ref t) "tuple" := ⟨o, ho, hc⟩
  unfold Builtin.Tuple.tupleIsExact
  first
    | exact wpAny_bind (wpAny_bind (wpAny_typeOf tt (wpAny_pure (by rw [if_pos (by decide)]; exact wpAny_bind (wpAny_rule (wpAny_pure ⟨_, rfl, wpAny_pure h⟩))))))
    | exact wpAny_bind (wpAny_bind (wpAny_typeOf tt (wpAny_pure (wpAny_bind (wpAny_rule (wpAny_pure ⟨_, rfl, wpAny_pure h⟩))))))
    | skip
end
end HT
namespace L2
open PySem PySem.Spec PyProof.Rows
def rSlA (K : PySem.W.Frag) : V → Option Int → Option Int → Hp → VK → Prop := fun x lo hi H Q => ∃ a xs, x = .ref a ∧ SqT K H a xs ∧ ∀ p H', Same H H' → SqT K H' p (cutV xs lo hi) → Q (.ref p) H'
theorem sl_tupA {X : Cx} : SlR X (rSlA X.K) := by
  intro pins s σ H x v vl vu lo hi sl Q I rx hs pl pu h
  obtain ⟨a, xs, rfl, hx, q⟩ := h
  by_cases c : HT.sIx xs.length 0 lo = 0 ∧ HT.sIx xs.length xs.length hi = xs.length
  · cases rx
    obtain ⟨its, r, ht, hz⟩ := I.tuple hx
    have hlen : its.toArray.size = xs.length := by rw [List.size_toArray]; exact r.length.symm
    refine ⟨"tuple", _, PyProof.Rows.slot_tuple_getitem.lookup, ht.typeIs, HT.whole_tup ht hs pl pu (by rw [hlen]; exact c.1) (by rw [hlen]; exact c.2) ⟨.ref a, H, I, rfl, q a H (.refl H) ?_⟩⟩
    have e : cutV xs lo hi = xs := by
      unfold cutV
      rw [c.1, c.2]
      simp
    rw [e]
    exact hx
  · exact sl_tup pins s σ H _ v vl vu lo hi sl Q I rx hs pl pu ⟨a, xs, rfl, hx, c, fun p hp => q p _ (same_new hp _) (.of upd_same)⟩
theorem slA_tup {X : Cx} : SlR X (rSlA X.K) := sl_tupA
def cutD (ds : List PyData) (lo hi : Option Int) : List PyData := (ds.drop (HT.sIx ds.length 0 lo)).take (HT.sIx ds.length ds.length hi - HT.sIx ds.length 0 lo)
theorem cutD_mem {ds : List PyData} {lo hi : Option Int} {d : PyData} (h : d ∈ cutD ds lo hi) : d ∈ ds := List.mem_of_mem_drop (List.mem_of_mem_take h)
theorem cutD_len (ds : List PyData) (lo hi : Option Int) : (cutD ds lo hi).length ≤ ds.length := by
  unfold cutD
  rw [List.length_take, List.length_drop]
  omega
section
variable {K : PySem.W.Frag} {t : Addr} {H0 H : Hp} {σ : St} {d : PyData} {ds es : List PyData} {ta tb : TE} {tr : TA} {Q : VK}
theorem dtl_drop : ∀ {n : Nat} {ds : List PyData} {vs : List V}, DtL K t H ds vs → DtL K t H (ds.drop n) (vs.drop n)
  | 0, _, _, h => h
  | n + 1, [], vs, h => by
    simp only [DtL] at h
    subst h
    exact .nil
  | n + 1, d :: ds, vs, h => by
    simp only [DtL] at h
    obtain ⟨v, r, rfl, _, h2⟩ := h
    exact dtl_drop (n := n) h2
theorem dtl_take : ∀ {n : Nat} {ds : List PyData} {vs : List V}, DtL K t H ds vs → DtL K t H (ds.take n) (vs.take n)
  | 0, _, _, _ => by simpa using DtL.nil
  | n + 1, [], vs, h => by
    simp only [DtL] at h
    subst h
    exact .nil
  | n + 1, d :: ds, vs, h => by
    simp only [DtL] at h
    obtain ⟨v, r, rfl, h1, h2⟩ := h
    exact .cons h1 (dtl_take (n := n) h2)
theorem dtl_cut {vs : List V} {lo hi : Option Int} (h : DtL K t H ds vs) : DtL K t H (cutD ds lo hi) (cutV vs lo hi) := by
  unfold cutD cutV
  rw [h.len]
  exact dtl_take (dtl_drop h)
theorem slA_of {v : V} {lo hi : Option Int} (hd : Dt K t H (.tuple ds) v) (q : ∀ p H', Same H H' → Dt K t H' (.tuple (cutD ds lo hi)) (.ref p) → Q (.ref p) H') : rSlA K v lo hi H Q := by
  obtain ⟨a, xs, rfl, hs, hx⟩ := Dt.tup_inv hd
  exact ⟨a, xs, rfl, hs, fun p H' S h => q p H' S (.tup h (dtl_cut (hx.on S.ext)))⟩
theorem dtl_appe : ∀ {ds : List PyData} {vs : List V} {es : List PyData} {us : List V}, DtL K t H ds vs → DtL K t H es us → DtL K t H (ds ++ es) (vs ++ us)
  | [], vs, _, _, h, q => by
    simp only [DtL] at h
    subst h
    exact q
  | d :: ds, vs, _, _, h, q => by
    simp only [DtL] at h
    obtain ⟨v, r, rfl, h1, h2⟩ := h
    exact .cons h1 (dtl_appe h2 q)
theorem catA_of {v u : V} (hd : Dt K t H (.tuple ds) v) (he : Dt K t H (.tuple es) u) (hz : ds.length + es.length ≤ 1000) (q : ∀ p H', Same H H' → Dt K t H' (.tuple (ds ++ es)) (.ref p) → Q (.ref p) H') : rCatA K v u H Q := by
  obtain ⟨a, xs, rfl, hs, hx⟩ := Dt.tup_inv hd
  obtain ⟨b, ys, rfl, hs2, hy⟩ := Dt.tup_inv he
  refine ⟨a, b, xs, ys, rfl, rfl, hs, hs2, ?_, fun p H' S h => q p H' S (.tup h (dtl_appe (hx.on S.ext) (hy.on S.ext)))⟩
  have h1 := hx.len
  have h2 := hy.len
  have := sizeLine_eq
  omega
def GetsP (σ : St) (tl : TO) (lo : Option Int) : Prop := ∀ (H : Hp) (R : Option Int → Hp → Prop), R lo H → tl σ H R
theorem gp_no : GetsP σ tNoPart none := fun H R h => h
theorem gp_c {i : Int} : GetsP σ (tPart (tC (.int i))) (some i) := fun H R h => ⟨i, rfl, h⟩
theorem gd_slA {tl th : TO} {lo hi : Option Int} (h : GetsD K t H0 σ ta (.tuple ds)) (hl : GetsP σ tl lo) (hh : GetsP σ th hi) : GetsD K t H0 σ (tSl (rSlA K) ta tl th) (.tuple (cutD ds lo hi)) := fun H Q S q => by
  rw [r_sl]
  exact h H _ S fun v H1 S1 hv => hl H1 _ (hh H1 _ (slA_of hv fun p H2 S2 hp => q _ _ (S1.trans S2) hp))
theorem gd_catA (h : GetsD K t H0 σ ta (.tuple ds)) (h2 : GetsD K t H0 σ tb (.tuple es)) (hz : ds.length + es.length ≤ 1000) : GetsD K t H0 σ (tOp (rCatA K) ta tb) (.tuple (ds ++ es)) := fun H Q S q => by
  rw [r_op]
  exact h H _ S fun v H1 S1 hv => h2 H1 _ (S.trans S1) fun u H2 S2 hu => catA_of (Same.dt hv S2) hu hz fun p H3 S3 hp => q _ _ ((S1.trans S2).trans S3) hp
theorem gd_listOf (ht : H0 t ≠ none) (h : GetsD K t H0 σ ta (.tuple ds)) : GetsD K t H0 σ (tCB (rListOf K) (tCons ta tNil)) (.list ds) := fun H Q S q => by
  rw [r_cb, r_cons]
  refine h H _ S fun v H1 S1 hv => ?_
  obtain ⟨a, xs, rfl, hs, hx⟩ := Dt.tup_inv hv
  refine ⟨a, xs, rfl, .inr hs, fun p hp => q _ _ (S1.trans (same_new hp _)) (Dt.newL hp (fun z => ?_) hx)⟩
  subst z
  exact ht ((S.trans S1).free hp)
theorem gd_ixT {i : Nat} (h : GetsD K t H0 σ ta (.tuple ds)) (hi : ds[i]? = some d) : GetsD K t H0 σ (tOp (rIxT K) ta (tC (.int (i : Int)))) d := fun H Q S q => by
  rw [r_op]
  refine h H _ S fun v H1 S1 hv => ?_
  obtain ⟨a, xs, rfl, hs, hx⟩ := Dt.tup_inv hv
  obtain ⟨u, hu, hd⟩ := hx.get hi
  rw [r_c]
  exact ⟨_, hs, _, atI_nat hu, q _ _ S1 hd⟩
end
section
open M
def Gd (W D : Nat) (d : PyData) : Prop := smD d = true ∧ wtD d ≤ W ∧ d.depth ≤ D
theorem Gd.mono {W D W' D' : Nat} {d : PyData} (h : Gd W D d) (h1 : W ≤ W' := by omega) (h2 : D ≤ D' := by omega) : Gd W' D' d := ⟨h.1, Nat.le_trans h.2.1 h1, Nat.le_trans h.2.2 h2⟩
theorem gdl {W D n : Nat} : ∀ {ds : List PyData}, (∀ d ∈ ds, Gd W D d) → ds.length ≤ n → smL ds = true ∧ wtL ds ≤ n * (W + 2) ∧ PyData.depthAll ds ≤ D
  | [], _, _ => ⟨rfl, by simp only [wtL]; omega, by simp [PyData.depthAll]⟩
  | d :: ds, h, hn => by
    obtain ⟨m, rfl⟩ : ∃ m, n = m + 1 := ⟨n - 1, by simp at hn; omega⟩
    obtain ⟨i1, i2, i3⟩ := gdl (n := m) (fun e he => h e (List.mem_cons_of_mem _ he)) (by simp at hn; omega)
    obtain ⟨g1, g2, g3⟩ := h d (List.mem_cons_self ..)
    refine ⟨by simp only [smL, g1, i1]; rfl, ?_, ?_⟩
    · simp only [wtL]
      rw [Nat.add_mul]
      omega
    · simp only [PyData.depthAll]
      omega
theorem Gd.tup {W D n : Nat} {ds : List PyData} (h : ∀ d ∈ ds, Gd W D d) (hn : ds.length ≤ n) (hz : n ≤ 1000 := by omega) : Gd (n * (W + 2) + 3) (D + 1) (.tuple ds) := by
  obtain ⟨i1, i2, i3⟩ := gdl h hn
  refine ⟨?_, ?_, ?_⟩
  · simp only [smD, i1, Bool.and_true, decide_eq_true_eq]; omega
  · simp only [wtD]; omega
  · simp only [PyData.depth]; omega
theorem Gd.lst {W D n : Nat} {ds : List PyData} (h : ∀ d ∈ ds, Gd W D d) (hn : ds.length ≤ n) (hz : n ≤ 1000 := by omega) : Gd (n * (W + 2) + 3) (D + 1) (.list ds) := by
  obtain ⟨i1, i2, i3⟩ := gdl h hn
  refine ⟨?_, ?_, ?_⟩
  · simp only [smD, i1, Bool.and_true, decide_eq_true_eq]; omega
  · simp only [wtD]; omega
  · simp only [PyData.depth]; omega
theorem Gd.str {x : Str} {n : Nat} (h : asc x) (hn : x.length ≤ n) (hz : n ≤ 1000 := by omega) : Gd (10 * n + 2) 0 (.str x) := by
  refine ⟨?_, ?_, ?_⟩
  · simp only [smD, Bool.and_eq_true, List.all_eq_true, decide_eq_true_eq]
    exact ⟨h, by omega⟩
  · simp only [wtD]; omega
  · simp [PyData.depth]
theorem Gd.int {i : Int} (h : i.natAbs < 10 ^ 80) : Gd 81 0 (.int i) := ⟨by simp only [smD, decide_eq_true_eq]; exact h, by simp only [wtD]; omega, by simp [PyData.depth]⟩
theorem Gd.bl {b : Bool} : Gd 5 0 (.bool b) := ⟨rfl, by simp [wtD], by simp [PyData.depth]⟩
theorem Gd.non : Gd 4 0 .none := ⟨rfl, by simp [wtD], by simp [PyData.depth]⟩
end
end L2
namespace L2
open PySem PySem.Spec PyProof.Rows M
theorem noL_encR (r : Lr) : noL (encR r) = true := rfl
theorem noLs_encR : ∀ rows : List Lr, noLs (rows.map encR) = true
  | [] => rfl
  | r :: rs => by simp only [List.map_cons, noLs, noL_encR r, noLs_encR rs]; rfl
def RwV (K : PySem.W.Frag) (H : Hp) (r : Lr) (v : V) : Prop := Dt K 0 H (encR r) v
def LsV (K : PySem.W.Frag) (H : Hp) (rows : List Lr) (side : Nat) (v : V) : Prop := Dt K 0 H (encLs rows side) v
def RwL (K : PySem.W.Frag) (H : Hp) (rows : List Lr) (vs : List V) : Prop := DtL K 0 H (rows.map encR) vs
section
variable {K : PySem.W.Frag} {H H' : Hp} {r : Lr} {rows : List Lr} {side : Nat} {v : V} {vs : List V}
theorem RwV.tk (h : RwV K H r v) (e : Tk K H H') : RwV K H' r v := Dt.tk e _ _ (noL_encR r) h
theorem RwV.same (h : RwV K H r v) (e : Same H H') : RwV K H' r v := h.tk e.tk
theorem rw_mk {a : Addr} (h : SqT K H a [.int r.d, .int r.b, .int r.u, .int r.n, .int r.a, .int r.x, .int r.t]) : RwV K H r (.ref a) :=
  .tup h (.cons (.int _) (.cons (.int _) (.cons (.int _) (.cons (.int _) (.cons (.int _) (.cons (.int _) (.cons (.int _) .nil)))))))
theorem ls_mk {a ra : Addr} (h : SqT K H a [.ref ra, .int side]) (h2 : SqT K H ra vs) (h3 : RwL K H rows vs) : LsV K H rows side (.ref a) := .tup h (.cons (.tup h2 h3) (.cons (.int _) .nil))
theorem RwL.len (h : RwL K H rows vs) : rows.length = vs.length := by
  have := DtL.len h
  rwa [List.length_map] at this
theorem RwL.set {i : Nat} (h : RwL K H rows vs) (hv : RwV K H r v) : RwL K H (rows.set i r) (vs.set i v) := by
  induction rows generalizing vs i with
  | nil =>
    simp only [RwL, List.map_nil, DtL] at h
    subst h
    simp [RwL, DtL]
  | cons q rows ih =>
    simp only [RwL, List.map_cons, DtL] at h
    obtain ⟨w, ws, rfl, h1, h2⟩ := h
    cases i with
    | zero => exact .cons hv h2
    | succ i => exact .cons h1 (ih (i := i) h2)
theorem RwL.rep {n : Nat} (hv : RwV K H r v) : RwL K H (List.replicate n r) (List.replicate n v) := by
  induction n with
  | zero => simp [RwL, DtL]
  | succ n ih => exact .cons hv ih
end
end L2
namespace L2
open PySem PySem.Spec PySem.Calls PyProof.Rows
section
variable {X : Cx}
def rNotInS (K : PySem.W.Frag) : R2 := fun x y H Q => ∃ t d p, ∃ ws : List Str, y = .ref p ∧ SqL K H p (ws.map V.str) ∧ (∀ z ∈ ws, PyData.strOk z = true) ∧ Dt K t H d x ∧ Q (.bl (!(ws.any fun z => PyData.eqv (.str z) d))) H
theorem op_notInS {k : Nat} (hr : Room k X.A) : OpR X (compareOp .NotIn) (rNotInS X.K) := by
  intro pins s σ H x y v u Q I rx ry h
  obtain ⟨t, d, p, ws, rfl, hq, hok, hd, q⟩ := h
  cases ry
  obtain ⟨its, r, pl, hz⟩ := I.list hq
  obtain ⟨as, r1⟩ := Dt.reads I d x v hd rx
  have key : ∀ (ws : List Str) (its : List Value), (∀ z ∈ ws, PyData.strOk z = true) → Vals (ws.map V.str) its → (∀ w ∈ its, SeqAt.EqAt X.A.in1 s w v (eqTx d w)) ∧ its.any (eqTx d) = ws.any fun z => PyData.eqv (.str z) d := by
    intro ws
    induction ws with
    | nil => intro its _ r; cases r; exact ⟨(fun w hw => nomatch hw), rfl⟩
    | cons z ws ih =>
      intro its hok r
      cases r with
      | cons ra rb =>
        obtain ⟨tz, rfl⟩ := ra
        obtain ⟨h1, h2⟩ := ih _ (fun z hz => hok z (List.mem_cons_of_mem _ hz)) rb
        refine ⟨fun w hw => ?_, ?_⟩
        · rcases List.mem_cons.mp hw with rfl | hw
          · have hzk := hok z (List.mem_cons_self ..)
            obtain ⟨bs, r2⟩ := Dt.reads (t := t) I (.str z) (.str z) (.str z tz) (.str hzk) ⟨_, rfl⟩
            exact SeqAt.eqAt_reads (.str z) d X.A.in1 s _ _ bs as r2 r1 (Dt.lay (K := X.K) (t := t) (H := H) (.str z) (.str z) (.str hzk)) (Dt.lay d x hd) (by have := hr.un; show X.A.units + 1 + min (PyData.depth (.str z)) d.depth < cLine; simp only [PyData.depth]; omega)
          · exact h1 w hw
        · rw [List.any_cons, List.any_cons, h2]
          rfl
  obtain ⟨k1, k2⟩ := key ws its hok r
  refine SeqAt.notIn_listAt (eqTx d) pl.isList (fun w hw => k1 w (by simpa using hw)) ⟨.bl _, H, I, rfl, ?_⟩
  rw [show its.toArray.any (eqTx d) = its.any (eqTx d) by simp, k2]
  exact q
end
end L2
namespace My
open PySem L2 M
theorem Same.sqL {K : PySem.W.Frag} {H H' : Hp} {a : Addr} {xs : List V} (h : SqL K H a xs) (e : Same H H') : SqL K H' a xs := (Same.ext (t := a + 1) e).sqL (Nat.ne_of_lt (Nat.lt_succ_self a)) h
set_option genInjectivity false in
set_option genSizeOf false in
structure DwOk (n : Nat) (b tr : Int) (ths : List Th) : Prop where
  n1 : 1 ≤ n
  n3 : n ≤ 3
  b1 : 1 ≤ b
  b2 : b ≤ 1000000
  t1 : 1 ≤ tr
  t3 : tr ≤ 3
  l1 : 1 ≤ ths.length
  l2 : ths.length ≤ 30
  ok : ∀ x ∈ ths, asc x.nm ∧ nmL x.nm ∧ 0 ≤ x.wo ∧ x.wo ≤ 1000000
def dwD (n : Nat) (b tr : Int) (ths : List Th) : List PyData := [.int n, .int b, .int tr, .tuple (ths.map encT)]
def lnD (s : Nat) (p f : Int) : List PyData := [.int s, .int p, .int f]
set_option genInjectivity false in
set_option genSizeOf false in
inductive Gm where
  | ral (rl : Rl)
  | dn (n : Nat) (b tr : Int) (ths : List Th)
  | ln (s : Nat) (p f : Int)
namespace Gm
def word : Gm → Str
  | .ral _ => "rally"
  | .dn .. => "down"
  | .ln .. => "lane"
def rule : Gm → PyData
  | .ral rl => enc rl
  | .dn n b tr ths => .tuple (dwD n b tr ths)
  | .ln s p f => .tuple (lnD s p f)
def sides : Gm → Nat
  | .ral _ => 2
  | .dn n .. => n
  | .ln s .. => s
theorem dn_ral {n b tr ths} : (Gm.dn n b tr ths).word ≠ Str.ofString "rally" := (show Str.ofString "down" ≠ Str.ofString "rally" by decide +kernel)
theorem ln_ral {s p f} : (Gm.ln s p f).word ≠ Str.ofString "rally" := (show Str.ofString "lane" ≠ Str.ofString "rally" by decide +kernel)
theorem ln_dn {s p f} : (Gm.ln s p f).word ≠ Str.ofString "down" := (show Str.ofString "lane" ≠ Str.ofString "down" by decide +kernel)
end Gm
def encG (g : Gm) : PyData := .tuple [.str g.word, g.rule]
def RuV (K : PySem.W.Frag) (H : Hp) (g : Gm) (v : V) : Prop := match g with
  | .ral rl => RlV K H rl v
  | .dn n b tr ths => ∃ da, v = .ref da ∧ DwV K H n b tr ths da
  | .ln s p f => ∃ la, v = .ref la ∧ SqT K H la [.int s, .int p, .int f]
def GmV (K : PySem.W.Frag) (H : Hp) (g : Gm) (v : V) : Prop := ∃ a rv, v = .ref a ∧ SqT K H a [.str g.word, rv] ∧ RuV K H g rv
def GmOk : Gm → Prop
  | .ral rl => ok rl ∧ depth rl ≤ 4 ∧ size rl ≤ 7
  | .dn n b tr ths => DwOk n b tr ths ∧ (ths.map (·.nm)).Nodup
  | .ln s p f => (1 ≤ s ∧ s ≤ 3) ∧ (1 ≤ p ∧ p ≤ 20) ∧ (1 ≤ f ∧ f ≤ 12)
section
variable {K : PySem.W.Frag} {H H' : Hp} {g : Gm} {v : V} {t : Addr}
theorem RuV.tk (h : RuV K H g v) (e : Tk K H H') : RuV K H' g v := by
  cases g with
  | ral rl => exact RlV.tk h e
  | dn n b tr ths => obtain ⟨da, rfl, h⟩ := h; exact ⟨da, rfl, h.tk e⟩
  | ln s p f => obtain ⟨la, rfl, h⟩ := h; exact ⟨la, rfl, e _ _ h⟩
theorem GmV.tk (h : GmV K H g v) (e : Tk K H H') : GmV K H' g v := by
  obtain ⟨a, rv, rfl, h1, h2⟩ := h
  exact ⟨a, rv, rfl, e _ _ h1, h2.tk e⟩
theorem GmV.same (h : GmV K H g v) (e : Same H H') : GmV K H' g v := h.tk e.tk
theorem dw_dt {n : Nat} {b tr : Int} {ths : List Th} {da : Addr} (h : DwV K H n b tr ths da) : Dt K t H (.tuple (dwD n b tr ths)) (.ref da) := by
  obtain ⟨ta, vs, h1, h2, h3⟩ := h
  exact .tup h1 (.cons (.int _) (.cons (.int _) (.cons (.int _) (.cons (.tup h2 (DtL.tk (.refl H) _ _ (noLs_encT ths) h3)) .nil))))
theorem RuV.dt (h : RuV K H g v) : Dt K t H g.rule v := by
  cases g with
  | ral rl => exact RlV.dt h
  | dn n b tr ths => obtain ⟨da, rfl, h⟩ := h; exact dw_dt h
  | ln s p f => obtain ⟨la, rfl, h⟩ := h; exact .tup h (.cons (.int _) (.cons (.int _) (.cons (.int _) .nil)))
theorem word_ok : ∀ g : Gm, PyData.strOk g.word = true
  | .ral _ => (show PyData.strOk "rally" = true by decide +kernel)
  | .dn .. => (show PyData.strOk "down" = true by decide +kernel)
  | .ln .. => (show PyData.strOk "lane" = true by decide +kernel)
theorem GmV.dt (h : GmV K H g v) : Dt K t H (encG g) v := by
  obtain ⟨a, rv, rfl, h1, h2⟩ := h
  exact .tup h1 (.cons (.str (word_ok g)) (.cons h2.dt .nil))
end
theorem th_gd {x : Th} (h : asc x.nm ∧ nmL x.nm ∧ 0 ≤ x.wo ∧ x.wo ≤ 1000000) : Gd 1211 2 (encT x) := by
  refine (Gd.tup (W := 300) (D := 1) (n := 4) (fun d hd => ?_) (by simp)).mono
  simp only [List.mem_cons, List.not_mem_nil, or_false] at hd
  rcases hd with rfl | rfl | rfl
  · exact (Gd.str (n := 9) h.1 (by have := h.2.1.2; unfold nmS at this; simp only [Bool.and_eq_true, decide_eq_true_eq] at this; rw [len_toList]; omega)).mono
  · exact (Gd.int (Nat.lt_of_le_of_lt (show x.wo.natAbs ≤ 1000000 by omega) (by decide +kernel))).mono
  · exact Gd.bl.mono
theorem ths_gd {ths : List Th} (h : ∀ x ∈ ths, asc x.nm ∧ nmL x.nm ∧ 0 ≤ x.wo ∧ x.wo ≤ 1000000) : ∀ d ∈ ths.map encT, Gd 1211 2 d := fun d hd => by
  obtain ⟨x, hx, rfl⟩ := List.mem_map.mp hd
  exact th_gd (h x hx)
theorem int_gd {i : Int} (h : 0 ≤ i) (h2 : i ≤ 10000000) : Gd 121303 3 (.int i) := (Gd.int (Nat.lt_of_le_of_lt (show i.natAbs ≤ 10000000 by omega) (by decide +kernel))).mono
theorem dw_gd {n : Nat} {b tr : Int} {ths : List Th} (h : DwOk n b tr ths) : ∀ d ∈ dwD n b tr ths, Gd 121303 3 d := fun d hd => by
  have := h.n3; have := h.b1; have := h.b2; have := h.t1; have := h.t3; have := h.l2
  simp only [dwD, List.mem_cons, List.not_mem_nil, or_false] at hd
  rcases hd with rfl | rfl | rfl | rfl
  · exact int_gd (by omega) (by omega)
  · exact int_gd (by omega) (by omega)
  · exact int_gd (by omega) (by omega)
  · exact (Gd.tup (n := 100) (ths_gd h.ok) (by rw [List.length_map]; omega)).mono
def encL : Rl → List PyData
  | .pt => [.str "point"]
  | .un to lead cap i => [.str "unit", .int to, .int lead, capD cap, enc i, .none]
  | .ul to lead cap i l => [.str "unit", .int to, .int lead, .int cap, enc i, enc l]
theorem enc_encL : ∀ r : Rl, enc r = .tuple (encL r)
  | .pt => rfl
  | .un .. => rfl
  | .ul .. => rfl
def Gm.items : Gm → List PyData
  | .ral rl => encL rl
  | .dn n b tr ths => dwD n b tr ths
  | .ln s p f => lnD s p f
theorem rule_items : ∀ g : Gm, g.rule = .tuple g.items
  | .ral rl => enc_encL rl
  | .dn .. => rfl
  | .ln .. => rfl
theorem gd_bd {i l : Int} (h : Bd l i) (hl : 0 ≤ l) : Gd 81 0 (.int i) := Gd.int (Nat.lt_of_le_of_lt (show i.natAbs ≤ 1000000 by have := h.1; have := h.2; omega) (by decide +kernel))
theorem gd_unitw : Gd 62 0 (.str "unit") := (Gd.str (n := 6) (x := "unit") (by unfold asc; decide +kernel) (by decide +kernel)).mono
theorem gd_pointw : Gd 62 0 (.str "point") := (Gd.str (n := 6) (x := "point") (by unfold asc; decide +kernel) (by decide +kernel)).mono
theorem gd_capD {to : Int} {c : Option Int} (h : capOk to c) (ht : 0 ≤ to) : Gd 81 0 (capD c) := by
  cases c with
  | none => exact Gd.non.mono
  | some c => exact gd_bd h ht
theorem Gd.cons6 {W1 W2 D a b c d e f} (ha : Gd 81 0 a) (hb : Gd 81 0 b) (hc : Gd 81 0 c) (hd : Gd 81 0 d) (he : Gd W1 D e) (hf : Gd W2 D f) : Gd (W1 + W2 + 400) (D + 1) (.tuple [a, b, c, d, e, f]) := by
  obtain ⟨a1, a2, a3⟩ := ha; obtain ⟨b1, b2, b3⟩ := hb; obtain ⟨c1, c2, c3⟩ := hc; obtain ⟨d1, d2, d3⟩ := hd; obtain ⟨e1, e2, e3⟩ := he; obtain ⟨f1, f2, f3⟩ := hf
  refine ⟨?_, ?_, ?_⟩
  · simp only [smD, smL, a1, b1, c1, d1, e1, f1]; rfl
  · simp only [wtD, wtL]; omega
  · simp only [PyData.depth, PyData.depthAll]; omega
theorem enc_gd : ∀ r : Rl, ok r → Gd (1000 * size r + 100) (depth r + 1) (enc r)
  | .pt, _ => (Gd.tup (W := 62) (D := 0) (n := 1) (fun d hd => by rw [List.mem_singleton.mp hd]; exact gd_pointw) (by simp)).mono
  | .un to lead cap i, ⟨h1, h2, h3, h4⟩ => by
    have := h1.1
    have ih := enc_gd i h4
    simp only [size, depth]
    exact (Gd.cons6 gd_unitw.mono (gd_bd h1 (by omega)) (gd_bd h2 (by omega)) (gd_capD h3 (by omega)) ih (Gd.non.mono (Nat.le_refl _) (Nat.zero_le _))).mono
  | .ul to lead cap i l, ⟨h1, h2, h3, h4, h5⟩ => by
    have := h1.1
    have ih := enc_gd i h4
    have ih2 := enc_gd l h5
    simp only [size, depth]
    exact (Gd.cons6 gd_unitw.mono (gd_bd h1 (by omega)) (gd_bd h2 (by omega)) (gd_bd h3 (by omega)) (ih.mono (Nat.le_refl _) (D' := max (depth i) (depth l) + 1)) (ih2.mono (Nat.le_refl _) (D' := max (depth i) (depth l) + 1))).mono
theorem items_gd {g : Gm} (h : GmOk g) : (∀ d ∈ g.items, Gd 121303 5 d) ∧ 1 ≤ g.items.length ∧ g.items.length ≤ 6 := by
  cases g with
  | ral rl =>
    obtain ⟨h1, h2, h3⟩ := h
    cases rl with
    | pt => exact ⟨fun d hd => by rw [List.mem_singleton.mp hd]; exact gd_pointw.mono, Nat.le_refl _, by decide⟩
    | un to lead cap i =>
      obtain ⟨k1, k2, k3, k4⟩ := h1
      have := k1.1
      simp only [depth] at h2; simp only [size] at h3
      refine ⟨fun d hd => ?_, by simp [Gm.items, encL], by simp [Gm.items, encL]⟩
      simp only [Gm.items, encL, List.mem_cons, List.not_mem_nil, or_false] at hd
      rcases hd with rfl | rfl | rfl | rfl | rfl | rfl
      · exact gd_unitw.mono
      · exact (gd_bd k1 (by omega)).mono
      · exact (gd_bd k2 (by omega)).mono
      · exact (gd_capD k3 (by omega)).mono
      · exact (enc_gd i k4).mono
      · exact Gd.non.mono
    | ul to lead cap i l =>
      obtain ⟨k1, k2, k3, k4, k5⟩ := h1
      have := k1.1
      simp only [depth] at h2; simp only [size] at h3
      refine ⟨fun d hd => ?_, by simp [Gm.items, encL], by simp [Gm.items, encL]⟩
      simp only [Gm.items, encL, List.mem_cons, List.not_mem_nil, or_false] at hd
      rcases hd with rfl | rfl | rfl | rfl | rfl | rfl
      · exact gd_unitw.mono
      · exact (gd_bd k1 (by omega)).mono
      · exact (gd_bd k2 (by omega)).mono
      · exact (gd_bd k3 (by omega)).mono
      · exact (enc_gd i k4).mono
      · exact (enc_gd l k5).mono
  | dn n b tr ths => exact ⟨fun d hd => (dw_gd h.1 d hd).mono, by simp [Gm.items, dwD], by simp [Gm.items, dwD]⟩
  | ln s p f =>
    obtain ⟨⟨h1, h2⟩, ⟨h3, h4⟩, h5, h6⟩ := h
    refine ⟨fun d hd => ?_, by simp [Gm.items, lnD], by simp [Gm.items, lnD]⟩
    simp only [Gm.items, lnD, List.mem_cons, List.not_mem_nil, or_false] at hd
    rcases hd with rfl | rfl | rfl <;> exact (int_gd (by omega) (by omega)).mono
theorem rule_gd {g : Gm} (h : GmOk g) : Gd 727833 6 g.rule := by
  obtain ⟨h1, _, h2⟩ := items_gd h
  rw [rule_items]
  exact (Gd.tup (n := 6) h1 h2).mono
theorem gd_word : ∀ g : Gm, Gd 62 0 (.str g.word)
  | .ral _ => (Gd.str (n := 6) (x := "rally") (by unfold asc; decide +kernel) (by decide +kernel)).mono
  | .dn .. => (Gd.str (n := 6) (x := "down") (by unfold asc; decide +kernel) (by decide +kernel)).mono
  | .ln .. => (Gd.str (n := 6) (x := "lane") (by unfold asc; decide +kernel) (by decide +kernel)).mono
theorem encG_gd {g : Gm} (h : GmOk g) : Gd 1455673 7 (encG g) := by
  refine (Gd.tup (W := 727833) (D := 6) (n := 2) (fun d hd => ?_) (by simp)).mono
  simp only [List.mem_cons, List.not_mem_nil, or_false] at hd
  rcases hd with rfl | rfl
  · exact (gd_word g).mono
  · exact rule_gd h
section
variable {K : PySem.W.Frag} {t : Addr} {H0 : Hp} {σ : St} {ta : TE} {d d0 : PyData} {ds : List PyData}
theorem gd_ix0 (h : GetsD K t H0 σ ta (.tuple (d :: ds))) : GetsD K t H0 σ (tOp (rIxT K) ta (tC (.int 0))) d := gd_ixT (i := 0) h rfl
theorem gd_ix1 (h : GetsD K t H0 σ ta (.tuple (d0 :: d :: ds))) : GetsD K t H0 σ (tOp (rIxT K) ta (tC (.int 1))) d := gd_ixT (i := 1) h rfl
end
set_option genInjectivity false in
set_option genSizeOf false in
structure GdL (W D n : Nat) (ds : List PyData) : Prop where
  sm : smL ds = true
  wt : wtL ds ≤ W
  dp : PyData.depthAll ds ≤ D
  ln : ds.length ≤ n
theorem GdL.of {W D n : Nat} {ds : List PyData} (h : ∀ d ∈ ds, Gd W D d) (hn : ds.length ≤ n) : GdL (n * (W + 2)) D n ds := by
  obtain ⟨h1, h2, h3⟩ := gdl h hn
  exact ⟨h1, h2, h3, hn⟩
theorem GdL.one {W D : Nat} {d : PyData} (h : Gd W D d) : GdL (W + 2) D 1 [d] := by
  obtain ⟨h1, h2, h3⟩ := h
  refine ⟨by simp only [smL, h1]; rfl, by simp only [wtL]; omega, by simp only [PyData.depthAll]; omega, by simp⟩
theorem GdL.app {W D n W' D' n' : Nat} : ∀ {ds es : List PyData}, GdL W D n ds → GdL W' D' n' es → GdL (W + W') (max D D') (n + n') (ds ++ es) := by
  intro ds es h q
  have key : ∀ ds : List PyData, smL (ds ++ es) = (smL ds && smL es) ∧ wtL (ds ++ es) = wtL ds + wtL es ∧ PyData.depthAll (ds ++ es) = max (PyData.depthAll ds) (PyData.depthAll es) := by
    intro ds
    induction ds with
    | nil => refine ⟨?_, ?_, ?_⟩ <;> simp [smL, wtL, PyData.depthAll]
    | cons d ds ih =>
      obtain ⟨i1, i2, i3⟩ := ih
      refine ⟨?_, ?_, ?_⟩
      · simp only [List.cons_append, smL, i1, Bool.and_assoc]
      · simp only [List.cons_append, wtL, i2]; omega
      · simp only [List.cons_append, PyData.depthAll, i3]; omega
  obtain ⟨k1, k2, k3⟩ := key ds
  have := h.wt; have := q.wt; have := h.dp; have := q.dp; have := h.ln; have := q.ln
  exact ⟨by rw [k1, h.sm, q.sm]; rfl, by omega, by omega, by rw [List.length_append]; omega⟩
theorem GdL.tup {W D n : Nat} {ds : List PyData} (h : GdL W D n ds) (hn : n ≤ 1000 := by omega) : Gd (W + 3) (D + 1) (.tuple ds) := by
  have := h.wt; have := h.dp; have := h.ln
  refine ⟨?_, ?_, ?_⟩
  · simp only [smD, h.sm, Bool.and_true, decide_eq_true_eq]; omega
  · simp only [wtD]; omega
  · simp only [PyData.depth]; omega
end My
local macro_rules | `(tactic| walk_at "rd") => `(tactic| try simp only [L2.r_next, L2.r_asg, L2.r_ret, L2.r_retN, L2.r_drop, L2.r_ifS, L2.r_name, L2.r_sub, L2.r_var, L2.r_varS, L2.r_c, L2.r_op, L2.r_un, L2.r_test, L2.r_tB, L2.r_and, L2.r_or, L2.r_not, L2.r_andV, L2.r_orV, L2.r_notV, L2.r_ifE, L2.r_chain, L2.r_nil, L2.r_cons, L2.r_tup, L2.r_lst, L2.r_call, L2.r_cb, L2.r_I, L2.r_I0, L2.r_eqI, L2.r_neI, L2.r_eqB, L2.r_ixL, L2.r_ixT, L2.r_setL, L2.r_sl, L2.r_noP, L2.r_bm, L2.r_part, L2.r_for, L2.r_rng1, L2.r_iL, L2.r_iT, L2.rU, L2.r_K, L2.r_min2, L2.r_neB, L2.r_eqS, L2.r_neS, L2.r_raise, L2.r_callX, L2.r_try, L2.r_ixS, L2.r_slS, L2.r_addS, L2.r_bm0, L2.r_rng2, L2.r_KH, L2.r_Kt, L2.r_Kh, L2.r_Kn, L2.r_gtup, L2.r_augN, L2.r_isNf, L2.r_isNt, L2.r_leS, L2.r_findS,
  List.getElem?_cons_zero, List.getElem?_cons_succ, List.set_cons_zero, List.set_cons_succ, Option.some.injEq, exists_eq_left', L2.V.int.injEq, L2.V.str.injEq, L2.V.bl.injEq, L2.V.ref.injEq, true_and, decide_eq_true_eq, List.cons_append, List.nil_append, List.append_nil, Bool.not_eq_true', decide_eq_false_iff_not, if_true, if_false, Bool.false_eq_true, Bool.true_eq_false, Bool.not_true, Bool.not_false, not_true_eq_false, not_false_eq_true])
local macro_rules | `(tactic| walk_at "st") => `(tactic| (walk_at "rd"; rw [L2.r_seq]; walk_at "rd"))
local macro_rules | `(tactic| walk_at "cl") => `(tactic| try simp only [L2.r_K, L2.r_KH, L2.r_Kt, L2.r_Kh, L2.r_Kn])
local macro_rules | `(tactic| walk_at "T") => `(tactic| rw [if_pos (by first | rfl | trivial)])
local macro_rules | `(tactic| walk_at "F") => `(tactic| rw [if_neg (by intro h; cases h)])
local macro_rules | `(tactic| walk_at "gd") => `(tactic| repeat' first | exact L2.gd_nil | exact My.gd_ix0 (L2.gd_var rfl (by assumption)) | exact My.gd_ix1 (L2.gd_var rfl (by assumption)) | exact L2.gd_non | exact L2.gd_bl | exact L2.gd_int | exact L2.gd_str | exact L2.gd_neg | exact L2.gd_pow ⟨by decide, by decide, by decide⟩ | exact L2.gd_var rfl (by assumption) | refine L2.gd_cons ?_ ?_ | refine L2.gd_tup ?_ | refine L2.gd_lst (by assumption) ?_ | refine L2.gd_slA ?_ (by first | exact L2.gp_no | exact L2.gp_c | exact L2.gp_v rfl | exact L2.gp_v1 rfl) (by first | exact L2.gp_no | exact L2.gp_c | exact L2.gp_v rfl | exact L2.gp_v1 rfl) | refine L2.gd_listOf (by assumption) ?_ | refine L2.gd_catA ?_ ?_ (by first | assumption | (simp; done) | exact Nat.le_of_ble_eq_true rfl))
namespace My
open PySem L2 M
def top (i : Nat) : Stmt := PySem.Challenge.pw_tally_k41_what_is_a_game.main.body.getD i (.Pass ⟨0, 0, 0, 0⟩)
abbrev s_is_whole : Stmt := top 1
theorem sc_is_whole : FnScope ["thing", "least", "most"] ["thing", "least", "most"] (defScope s_is_whole) := ⟨rfl, rfl, rfl, by decide +kernel, rfl, by decide +kernel, by decide +kernel⟩
abbrev s_are_wholes : Stmt := top 2
theorem sc_are_wholes : FnScope ["things", "mosts"] ["things", "mosts"] (defScope s_are_wholes) := ⟨rfl, rfl, rfl, by decide +kernel, rfl, by decide +kernel, by decide +kernel⟩
abbrev s_is_down : Stmt := top 8
theorem sc_is_down : FnScope ["thing"] ["thing"] (defScope s_is_down) := ⟨rfl, rfl, rfl, by decide +kernel, rfl, by decide +kernel, by decide +kernel⟩
abbrev s_down_begun : Stmt := top 9
theorem sc_down_begun : FnScope ["down", "begin"] ["down"] (defScope s_down_begun) := ⟨rfl, rfl, rfl, by decide +kernel, rfl, by decide +kernel, by decide +kernel⟩
abbrev s_are_throws : Stmt := top 10
theorem sc_are_throws : FnScope ["thing"] ["thing"] (defScope s_are_throws) := ⟨rfl, rfl, rfl, by decide +kernel, rfl, by decide +kernel, by decide +kernel⟩
abbrev s_is_throw : Stmt := top 11
theorem sc_is_throw : FnScope ["thing"] ["thing"] (defScope s_is_throw) := ⟨rfl, rfl, rfl, by decide +kernel, rfl, by decide +kernel, by decide +kernel⟩
abbrev s_is_name : Stmt := top 12
theorem sc_is_name : FnScope ["thing"] ["thing"] (defScope s_is_name) := ⟨rfl, rfl, rfl, by decide +kernel, rfl, by decide +kernel, by decide +kernel⟩
abbrev s_is_lane : Stmt := top 15
theorem sc_is_lane : FnScope ["thing"] ["thing"] (defScope s_is_lane) := ⟨rfl, rfl, rfl, by decide +kernel, rfl, by decide +kernel, by decide +kernel⟩
abbrev s_lane_begun : Stmt := top 16
theorem sc_lane_begun : FnScope ["lane", "row"] ["lane"] (defScope s_lane_begun) := ⟨rfl, rfl, rfl, by decide +kernel, rfl, by decide +kernel, by decide +kernel⟩
abbrev s_is_rule : Stmt := top 22
theorem sc_is_rule : FnScope ["thing", "units"] ["thing"] (defScope s_is_rule) := ⟨rfl, rfl, rfl, by decide +kernel, rfl, by decide +kernel, by decide +kernel⟩
abbrev s_units_of : Stmt := top 23
theorem sc_units_of : FnScope ["thing", "room", "inner", "last"] ["thing", "room"] (defScope s_units_of) := ⟨rfl, rfl, rfl, by decide +kernel, rfl, by decide +kernel, by decide +kernel⟩
abbrev s_has_unit_form : Stmt := top 24
theorem sc_has_unit_form : FnScope ["thing", "to", "cap"] ["thing"] (defScope s_has_unit_form) := ⟨rfl, rfl, rfl, by decide +kernel, rfl, by decide +kernel, by decide +kernel⟩
abbrev s_begun : Stmt := top 26
theorem sc_begun : FnScope ["rule"] ["rule"] (defScope s_begun) := ⟨rfl, rfl, rfl, by decide +kernel, rfl, by decide +kernel, by decide +kernel⟩
abbrev s_played_now : Stmt := top 27
theorem sc_played_now : FnScope ["rule", "zero", "one", "last"] ["rule", "zero", "one"] (defScope s_played_now) := ⟨rfl, rfl, rfl, by decide +kernel, rfl, by decide +kernel, by decide +kernel⟩
abbrev s_begun_within : Stmt := top 28
theorem sc_begun_within : FnScope ["rule", "zero", "one"] ["rule", "zero", "one"] (defScope s_begun_within) := ⟨rfl, rfl, rfl, by decide +kernel, rfl, by decide +kernel, by decide +kernel⟩
abbrev s_is_game : Stmt := top 30
theorem sc_is_game : FnScope ["thing"] ["thing"] (defScope s_is_game) := ⟨rfl, rfl, rfl, by decide +kernel, rfl, by decide +kernel, by decide +kernel⟩
abbrev s_sides_of : Stmt := top 31
theorem sc_sides_of : FnScope ["game"] ["game"] (defScope s_sides_of) := ⟨rfl, rfl, rfl, by decide +kernel, rfl, by decide +kernel, by decide +kernel⟩
abbrev s_first : Stmt := top 32
theorem sc_first : FnScope ["game"] ["game"] (defScope s_first) := ⟨rfl, rfl, rfl, by decide +kernel, rfl, by decide +kernel, by decide +kernel⟩
abbrev s_law_tape : Stmt := top 34
theorem sc_law_tape : FnScope ["_law_script", "_law_way"] ["_law_script"] (defScope s_law_tape) := ⟨rfl, rfl, rfl, by decide +kernel, rfl, by decide +kernel, by decide +kernel⟩
abbrev s_law_draw : Stmt := top 35
theorem sc_law_draw : FnScope ["_law_tape_here", "_law_many", "_law_script", "_law_spot", "_law_cell", "_law_left", "_law_mixed"] ["_law_tape_here", "_law_many"] (defScope s_law_draw) := ⟨rfl, rfl, rfl, by decide +kernel, rfl, by decide +kernel, by decide +kernel⟩
abbrev s_law_great : Stmt := top 36
theorem sc_law_great : FnScope ["_law_tape_here"] ["_law_tape_here"] (defScope s_law_great) := ⟨rfl, rfl, rfl, by decide +kernel, rfl, by decide +kernel, by decide +kernel⟩
abbrev s_law_alike : Stmt := top 37
theorem sc_law_alike : FnScope ["_law_due", "_law_found"] ["_law_due", "_law_found"] (defScope s_law_alike) := ⟨rfl, rfl, rfl, by decide +kernel, rfl, by decide +kernel, by decide +kernel⟩
abbrev s_law_unit : Stmt := top 38
theorem sc_law_unit : FnScope ["_law_tape_here", "_law_deep", "_law_thin", "_law_to", "_law_lead", "_law_cap", "_law_last", "_law_inner_here"] ["_law_tape_here", "_law_deep", "_law_thin"] (defScope s_law_unit) := ⟨rfl, rfl, rfl, by decide +kernel, rfl, by decide +kernel, by decide +kernel⟩
abbrev s_law_rule : Stmt := top 39
theorem sc_law_rule : FnScope ["_law_tape_here", "_law_deep", "_law_thin"] ["_law_tape_here", "_law_deep", "_law_thin"] (defScope s_law_rule) := ⟨rfl, rfl, rfl, by decide +kernel, rfl, by decide +kernel, by decide +kernel⟩
abbrev s_law_any_rule : Stmt := top 40
theorem sc_law_any_rule : FnScope ["_law_tape_here", "_law_way"] ["_law_tape_here"] (defScope s_law_any_rule) := ⟨rfl, rfl, rfl, by decide +kernel, rfl, by decide +kernel, by decide +kernel⟩
abbrev s_law_names : Stmt := top 41
theorem sc_law_names : FnScope ["_law_tape_here", "_law_many", "_law_letters", "_law_word", "_law_way", "_law_turn", "_law_names_here", "_law_size", "_law_at", "_law_signs", "_law_start"] ["_law_tape_here", "_law_many"] (defScope s_law_names) := ⟨rfl, rfl, rfl, by decide +kernel, rfl, by decide +kernel, by decide +kernel⟩
abbrev s_law_throws : Stmt := top 42
theorem sc_law_throws : FnScope ["_law_tape_here", "_law_names_here", "_law_count", "_law_throws_here", "_law_name", "_law_worths"] ["_law_tape_here", "_law_names_here", "_law_count"] (defScope s_law_throws) := ⟨rfl, rfl, rfl, by decide +kernel, rfl, by decide +kernel, by decide +kernel⟩
abbrev s_law_down : Stmt := top 43
theorem sc_law_down : FnScope ["_law_tape_here", "_law_many", "_law_begins", "_law_begin", "_law_throws_here"] ["_law_tape_here"] (defScope s_law_down) := ⟨rfl, rfl, rfl, by decide +kernel, rfl, by decide +kernel, by decide +kernel⟩
abbrev s_law_lane : Stmt := top 44
theorem sc_law_lane : FnScope ["_law_tape_here", "_law_pins", "_law_frames"] ["_law_tape_here"] (defScope s_law_lane) := ⟨rfl, rfl, rfl, by decide +kernel, rfl, by decide +kernel, by decide +kernel⟩
abbrev s_law_game : Stmt := top 45
theorem sc_law_game : FnScope ["_law_tape_here", "_law_kind"] ["_law_tape_here"] (defScope s_law_game) := ⟨rfl, rfl, rfl, by decide +kernel, rfl, by decide +kernel, by decide +kernel⟩
abbrev s_law_inner : Stmt := top 46
theorem sc_law_inner : FnScope ["_law_rule_here", "_law_zero", "_law_one"] ["_law_rule_here", "_law_zero", "_law_one"] (defScope s_law_inner) := ⟨rfl, rfl, rfl, by decide +kernel, rfl, by decide +kernel, by decide +kernel⟩
abbrev s_law_begun : Stmt := top 47
theorem sc_law_begun : FnScope ["_law_rule_here"] ["_law_rule_here"] (defScope s_law_begun) := ⟨rfl, rfl, rfl, by decide +kernel, rfl, by decide +kernel, by decide +kernel⟩
abbrev s_law_thing : Stmt := top 48
theorem sc_law_thing : FnScope ["_law_tape_here", "_law_kept", "_law_some"] ["_law_tape_here", "_law_kept"] (defScope s_law_thing) := ⟨rfl, rfl, rfl, by decide +kernel, rfl, by decide +kernel, by decide +kernel⟩
abbrev s_law_number : Stmt := top 49
theorem sc_law_number : FnScope ["_law_thing_here", "_law_low", "_law_high"] ["_law_thing_here", "_law_low", "_law_high"] (defScope s_law_number) := ⟨rfl, rfl, rfl, by decide +kernel, rfl, by decide +kernel, by decide +kernel⟩
abbrev s_law_units : Stmt := top 50
theorem sc_law_units : FnScope ["_law_thing_here", "_law_around", "_law_many"] ["_law_thing_here", "_law_around"] (defScope s_law_units) := ⟨rfl, rfl, rfl, by decide +kernel, rfl, by decide +kernel, by decide +kernel⟩
abbrev s_law_is_throw : Stmt := top 51
theorem sc_law_is_throw : FnScope ["_law_thing_here", "_law_letters"] ["_law_thing_here"] (defScope s_law_is_throw) := ⟨rfl, rfl, rfl, by decide +kernel, rfl, by decide +kernel, by decide +kernel⟩
abbrev s_law_numbers : Stmt := top 52
theorem sc_law_numbers : FnScope ["_law_thing_here", "_law_mosts"] ["_law_thing_here", "_law_mosts"] (defScope s_law_numbers) := ⟨rfl, rfl, rfl, by decide +kernel, rfl, by decide +kernel, by decide +kernel⟩
abbrev s_law_judged : Stmt := top 53
theorem sc_law_judged : FnScope ["_law_thing_here", "_law_rule_here"] ["_law_thing_here"] (defScope s_law_judged) := ⟨rfl, rfl, rfl, by decide +kernel, rfl, by decide +kernel, by decide +kernel⟩
abbrev s_law_bent : Stmt := top 54
theorem sc_law_bent : FnScope ["_law_tape_here", "_law_rule_here", "_law_at", "_law_some"] ["_law_tape_here", "_law_rule_here"] (defScope s_law_bent) := ⟨rfl, rfl, rfl, by decide +kernel, rfl, by decide +kernel, by decide +kernel⟩
abbrev s_law_spoilt : Stmt := top 55
theorem sc_law_spoilt : FnScope ["_law_tape_here", "_law_game_here", "_law_other", "_law_word", "_law_some", "_law_bent_here"] ["_law_tape_here", "_law_game_here"] (defScope s_law_spoilt) := ⟨rfl, rfl, rfl, by decide +kernel, rfl, by decide +kernel, by decide +kernel⟩
abbrev s_law_told : Stmt := top 56
theorem sc_law_told : FnScope ["_law_thing_here", "_law_due", "_law_kept", "_law_found"] ["_law_thing_here"] (defScope s_law_told) := ⟨rfl, rfl, rfl, by decide +kernel, rfl, by decide +kernel, by decide +kernel⟩
abbrev s_law_first : Stmt := top 57
theorem sc_law_first : FnScope ["_law_game_here"] ["_law_game_here"] (defScope s_law_first) := ⟨rfl, rfl, rfl, by decide +kernel, rfl, by decide +kernel, by decide +kernel⟩
abbrev s_law : Stmt := top 58
theorem sc_law : FnScope ["_law_script", "_law_tape_here", "_law_game_here", "_law_k", "_law_sides"] ["_law_script"] (defScope s_law) := ⟨rfl, rfl, rfl, by decide +kernel, rfl, by decide +kernel, by decide +kernel⟩
section
variable {P : Program} {w : World} {K : PySem.W.Frag} {mg : Str → Option Value} {base : Heap} {ns : List Int} {k : Nat}
theorem ok_law_tape (F : Df K mg "_law_tape" s_law_tape ["_law_script"]) (m_len : mg "len" = none) : Dn P w K mg base (k + 1) "_law_tape" ["_law_script"] (spTape K ns) := by
  refine F.ok sc_law_tape (fun vs H Q E h => ?_) (fun f cdv A outer s H vs Q E hr h => ?_)
  · obtain ⟨a, rfl, _⟩ := h; rfl
  obtain ⟨a, rfl, hs, q⟩ := h
  refine ⟨_, [some _, none], 
      (@pss_cons _ _ _ _ _ (@ps_set _ _ 1 _ _ _ _ sc_law_tape.nd rfl (Or.inl rfl) (@pe_int _ _ _ _) (by rfl) (by first | exact .inl rfl | exact .inr rfl | assumption)) 
      (@pss_cut _ _ _ _ _ (@ps_if _ _ _ _ _ _ _ _ (@pt_cmpR _ _ _ _ _ _ _ _ op_gt (@pe_callBu _ _ _ _ _ _ _ _ _ call_lenS rfl m_len PySem.boot_len (@pa_u _ _ _ _ _ (@pv _ 0 _ _ (by rfl) (by first | exact Or.inl rfl | exact Or.inr (Or.inl rfl) | exact Or.inr (Or.inr rfl)) (by decide) (by decide)) (@pa_nil _) (by rfl)) (by rfl) (by decide) (by decide)) (@pe_int _ _ _ _) (nomark _)) (@pss_one _ _ _ (@ps_set _ _ 1 _ _ _ _ sc_law_tape.nd rfl (Or.inl rfl) (@pe_op _ _ _ _ _ _ _ _ op_mod (@pe_ix _ _ _ _ _ _ _ ix_list (@pv _ 0 _ _ (by rfl) (by first | exact Or.inl rfl | exact Or.inr (Or.inl rfl) | exact Or.inr (Or.inr rfl)) (by decide) (by decide)) (@pe_int _ _ _ _) (fun _ _ => rfl)) (@pe_int _ _ _ _)) (by rfl) (by first | exact .inl rfl | exact .inr rfl | assumption))) (@pss_nil _)) (@pss_one _ _ _ (@ps_ret _ _ _ _ (@pe_lst _ _ _ _ (@pa_u _ _ _ _ _ (@pv _ 0 _ _ (by rfl) (by first | exact Or.inl rfl | exact Or.inr (Or.inl rfl) | exact Or.inr (Or.inr rfl)) (by decide) (by decide)) (@pa_u _ _ _ _ _ (@pe_int _ _ _ _) (@pa_u _ _ _ _ _ (@pe_int _ _ _ _) (@pa_u _ _ _ _ _ (@pv _ 1 _ _ (by rfl) (by first | exact Or.inl rfl | exact Or.inr (Or.inl rfl) | exact Or.inr (Or.inr rfl)) (by decide) (by decide)) (@pa_nil _) (by rfl)) (by rfl)) (by rfl)) (by rfl))))))), rfl, ?_⟩
  walk_at "cl"
  walk_at "st"
  refine r_cut (fun σ' H' => ∃ c : Int, σ' = [some (.ref a), some (.int c)] ∧ H' = H) (fun M hM => ?_) ?_
  · walk_at "rd"
    refine len_of hs ?_
    walk_at "rd"
    refine ite2 (fun c => ?_) (fun c => hM _ _ ⟨_, rfl, rfl⟩)
    obtain ⟨n, hn⟩ := at0 (ns := ns) (by omega)
    refine ⟨_, hs, _, hn, ?_⟩
    walk_at "rd"
    exact ⟨by decide, hM _ _ ⟨_, rfl, rfl⟩⟩
  · rintro _ _ ⟨c, rfl, rfl⟩
    walk_at "rd"
    exact ⟨small6 (by simp), fun p hp => q p _ ⟨a, 0, 0, c, upd_same, .of hs hp _⟩⟩
theorem ok_law_drawS (F : Df K mg "_law_draw" s_law_draw ["_law_tape_here", "_law_many"]) (m_len : mg "len" = none) : Dn P w K mg base (k + 1) "_law_draw" ["_law_tape_here", "_law_many"] (spDrawS K ns) := by
  refine F.ok sc_law_draw (fun vs H Q E h => ?_) (fun f cdv A outer s H vs Q E hr h => ?_)
  · obtain ⟨t, sc, m, rfl, _⟩ := h; rfl
  obtain ⟨t, sc, m, rfl, m0, m1, ⟨sp, cr, wy, ht, hc⟩, q⟩ := h
  refine ⟨_, [some _, some _, none, none, none, none, none], 
      (@pss_cons _ _ _ _ _ (@ps_set _ _ 2 _ _ _ _ sc_law_draw.nd rfl (Or.inl rfl) (@pe_ix _ _ _ _ _ _ _ ix_list (@pv _ 0 _ _ (by rfl) (by first | exact Or.inl rfl | exact Or.inr (Or.inl rfl) | exact Or.inr (Or.inr rfl)) (by decide) (by decide)) (@pe_int _ _ _ _) (fun _ _ => rfl)) (by rfl) (by first | exact .inl rfl | exact .inr rfl | assumption)) 
      (@pss_cons _ _ _ _ _ (@ps_set _ _ 3 _ _ _ _ sc_law_draw.nd rfl (Or.inl rfl) (@pe_ix _ _ _ _ _ _ _ ix_list (@pv _ 0 _ _ (by rfl) (by first | exact Or.inl rfl | exact Or.inr (Or.inl rfl) | exact Or.inr (Or.inr rfl)) (by decide) (by decide)) (@pe_int _ _ _ _) (fun _ _ => rfl)) (by rfl) (by first | exact .inl rfl | exact .inr rfl | assumption)) 
      (@pss_cons _ _ _ _ _ (@ps_asg _ _ _ _ _ _ (@pe_op _ _ _ _ _ _ _ _ op_add (@pv _ 3 _ _ (by rfl) (by first | exact Or.inl rfl | exact Or.inr (Or.inl rfl) | exact Or.inr (Or.inr rfl)) (by decide) (by decide)) (@pe_int _ _ _ _)) (@pg_sub _ _ _ _ _ _ _ (@pv _ 0 _ _ (by rfl) (by first | exact Or.inl rfl | exact Or.inr (Or.inl rfl) | exact Or.inr (Or.inr rfl)) (by decide) (by decide)) (@pe_int _ _ _ _) set_list (by intro _; rfl)) (by rfl) (by rfl) (by rfl)) 
      (@pss_cons _ _ _ _ _ (@ps_set _ _ 4 _ _ _ _ sc_law_draw.nd rfl (Or.inl rfl) (@pe_int _ _ _ _) (by rfl) (by first | exact .inl rfl | exact .inr rfl | assumption)) 
      (@pss_cut _ _ _ _ _ (@ps_if _ _ _ _ _ _ _ _ (@pt_cmpR _ _ _ _ _ _ _ _ op_gt (@pe_callBu _ _ _ _ _ _ _ _ _ call_lenS rfl m_len PySem.boot_len (@pa_u _ _ _ _ _ (@pv _ 2 _ _ (by rfl) (by first | exact Or.inl rfl | exact Or.inr (Or.inl rfl) | exact Or.inr (Or.inr rfl)) (by decide) (by decide)) (@pa_nil _) (by rfl)) (by rfl) (by decide) (by decide)) (@pe_int _ _ _ _) (nomark _)) (@pss_one _ _ _ (@ps_set _ _ 4 _ _ _ _ sc_law_draw.nd rfl (Or.inl rfl) (@pe_ix _ _ _ _ _ _ _ ix_list (@pv _ 2 _ _ (by rfl) (by first | exact Or.inl rfl | exact Or.inr (Or.inl rfl) | exact Or.inr (Or.inr rfl)) (by decide) (by decide)) (@pe_op _ _ _ _ _ _ _ _ op_mod (@pe_ifExp _ _ _ _ _ _ _ _ (@pt_cmpR _ _ _ _ _ _ _ _ op_eq (@pe_ix _ _ _ _ _ _ _ ix_list (@pv _ 0 _ _ (by rfl) (by first | exact Or.inl rfl | exact Or.inr (Or.inl rfl) | exact Or.inr (Or.inr rfl)) (by decide) (by decide)) (@pe_int _ _ _ _) (fun _ _ => rfl)) (@pe_int _ _ _ _) (nomark _)) (@pe_op _ _ _ _ _ _ _ _ op_fdiv (@pv _ 3 _ _ (by rfl) (by first | exact Or.inl rfl | exact Or.inr (Or.inl rfl) | exact Or.inr (Or.inr rfl)) (by decide) (by decide)) (@pe_int _ _ _ _)) (@pv _ 3 _ _ (by rfl) (by first | exact Or.inl rfl | exact Or.inr (Or.inl rfl) | exact Or.inr (Or.inr rfl)) (by decide) (by decide))) (@pe_callBu _ _ _ _ _ _ _ _ _ call_lenS rfl m_len PySem.boot_len (@pa_u _ _ _ _ _ (@pv _ 2 _ _ (by rfl) (by first | exact Or.inl rfl | exact Or.inr (Or.inl rfl) | exact Or.inr (Or.inr rfl)) (by decide) (by decide)) (@pa_nil _) (by rfl)) (by rfl) (by decide) (by decide))) (fun _ _ => rfl)) (by rfl) (by first | exact .inl rfl | exact .inr rfl | assumption))) (@pss_nil _)) 
      (@pss_cons _ _ _ _ _ (@ps_if _ _ _ _ _ _ _ _ (@pt_cmpR _ _ _ _ _ _ _ _ op_eq (@pe_ix _ _ _ _ _ _ _ ix_list (@pv _ 0 _ _ (by rfl) (by first | exact Or.inl rfl | exact Or.inr (Or.inl rfl) | exact Or.inr (Or.inr rfl)) (by decide) (by decide)) (@pe_int _ _ _ _) (fun _ _ => rfl)) (@pe_int _ _ _ _) (nomark _)) 
      (@pss_cut _ _ _ _ _ (@ps_if _ _ _ _ _ _ _ _ (@pt_cmpR _ _ _ _ _ _ _ _ op_eq (@pe_op _ _ _ _ _ _ _ _ op_mod (@pv _ 3 _ _ (by rfl) (by first | exact Or.inl rfl | exact Or.inr (Or.inl rfl) | exact Or.inr (Or.inr rfl)) (by decide) (by decide)) (@pe_int _ _ _ _)) (@pe_int _ _ _ _) (nomark _)) (@pss_one _ _ _ (@ps_asg _ _ _ _ _ _ (@pe_op _ _ _ _ _ _ _ _ op_fdiv (@pv _ 4 _ _ (by rfl) (by first | exact Or.inl rfl | exact Or.inr (Or.inl rfl) | exact Or.inr (Or.inr rfl)) (by decide) (by decide)) (@pe_int _ _ _ _)) (@pg_sub _ _ _ _ _ _ _ (@pv _ 0 _ _ (by rfl) (by first | exact Or.inl rfl | exact Or.inr (Or.inl rfl) | exact Or.inr (Or.inr rfl)) (by decide) (by decide)) (@pe_int _ _ _ _) set_list (by intro _; rfl)) (by rfl) (by rfl) (by rfl))) (@pss_nil _)) 
      (@pss_cons _ _ _ _ _ (@ps_set _ _ 5 _ _ _ _ sc_law_draw.nd rfl (Or.inl rfl) (@pe_ix _ _ _ _ _ _ _ ix_list (@pv _ 0 _ _ (by rfl) (by first | exact Or.inl rfl | exact Or.inr (Or.inl rfl) | exact Or.inr (Or.inr rfl)) (by decide) (by decide)) (@pe_int _ _ _ _) (fun _ _ => rfl)) (by rfl) (by first | exact .inl rfl | exact .inr rfl | assumption)) 
      (@pss_cons _ _ _ _ _ (@ps_asg _ _ _ _ _ _ (@pe_op _ _ _ _ _ _ _ _ op_fdiv (@pv _ 5 _ _ (by rfl) (by first | exact Or.inl rfl | exact Or.inr (Or.inl rfl) | exact Or.inr (Or.inr rfl)) (by decide) (by decide)) (@pv _ 1 _ _ (by rfl) (by first | exact Or.inl rfl | exact Or.inr (Or.inl rfl) | exact Or.inr (Or.inr rfl)) (by decide) (by decide))) (@pg_sub _ _ _ _ _ _ _ (@pv _ 0 _ _ (by rfl) (by first | exact Or.inl rfl | exact Or.inr (Or.inl rfl) | exact Or.inr (Or.inr rfl)) (by decide) (by decide)) (@pe_int _ _ _ _) set_list (by intro _; rfl)) (by rfl) (by rfl) (by rfl)) (@pss_one _ _ _ (@ps_ret _ _ _ _ (@pe_op _ _ _ _ _ _ _ _ op_mod (@pv _ 5 _ _ (by rfl) (by first | exact Or.inl rfl | exact Or.inr (Or.inl rfl) | exact Or.inr (Or.inr rfl)) (by decide) (by decide)) (@pv _ 1 _ _ (by rfl) (by first | exact Or.inl rfl | exact Or.inr (Or.inl rfl) | exact Or.inr (Or.inr rfl)) (by decide) (by decide)))))))) (@pss_nil _)) 
      (@pss_cons _ _ _ _ _ (@ps_set _ _ 6 _ _ _ _ sc_law_draw.nd rfl (Or.inl rfl) (@pe_op _ _ _ _ _ _ _ _ op_mod (@pe_op _ _ _ _ _ _ _ _ op_mul (@pe_op _ _ _ _ _ _ _ _ op_add (@pe_op _ _ _ _ _ _ _ _ op_mod (@pv _ 4 _ _ (by rfl) (by first | exact Or.inl rfl | exact Or.inr (Or.inl rfl) | exact Or.inr (Or.inr rfl)) (by decide) (by decide)) (@pe_int _ _ _ _)) (@pe_int _ _ _ _)) (@pe_op _ _ _ _ _ _ _ _ op_add (@pe_op _ _ _ _ _ _ _ _ op_add (@pe_op _ _ _ _ _ _ _ _ op_mul (@pe_op _ _ _ _ _ _ _ _ op_mod (@pv _ 3 _ _ (by rfl) (by first | exact Or.inl rfl | exact Or.inr (Or.inl rfl) | exact Or.inr (Or.inr rfl)) (by decide) (by decide)) (@pe_int _ _ _ _)) (@pe_int _ _ _ _)) (@pe_int _ _ _ _)) (@pv _ 3 _ _ (by rfl) (by first | exact Or.inl rfl | exact Or.inr (Or.inl rfl) | exact Or.inr (Or.inr rfl)) (by decide) (by decide)))) (@pe_int _ _ _ _)) (by rfl) (by first | exact .inl rfl | exact .inr rfl | assumption)) 
      (@pss_cons _ _ _ _ _ (@ps_set _ _ 6 _ _ _ _ sc_law_draw.nd rfl (Or.inl rfl) (@pe_op _ _ _ _ _ _ _ _ op_mod (@pe_op _ _ _ _ _ _ _ _ op_add (@pe_op _ _ _ _ _ _ _ _ op_add (@pe_op _ _ _ _ _ _ _ _ op_mul (@pv _ 6 _ _ (by rfl) (by first | exact Or.inl rfl | exact Or.inr (Or.inl rfl) | exact Or.inr (Or.inr rfl)) (by decide) (by decide)) (@pv _ 6 _ _ (by rfl) (by first | exact Or.inl rfl | exact Or.inr (Or.inl rfl) | exact Or.inr (Or.inr rfl)) (by decide) (by decide))) (@pe_op _ _ _ _ _ _ _ _ op_mul (@pe_int _ _ _ _) (@pv _ 6 _ _ (by rfl) (by first | exact Or.inl rfl | exact Or.inr (Or.inl rfl) | exact Or.inr (Or.inr rfl)) (by decide) (by decide)))) (@pv _ 3 _ _ (by rfl) (by first | exact Or.inl rfl | exact Or.inr (Or.inl rfl) | exact Or.inr (Or.inr rfl)) (by decide) (by decide))) (@pe_int _ _ _ _)) (by rfl) (by first | exact .inl rfl | exact .inr rfl | assumption)) (@pss_one _ _ _ (@ps_ret _ _ _ _ (@pe_op _ _ _ _ _ _ _ _ op_mod (@pe_op _ _ _ _ _ _ _ _ op_mod (@pe_op _ _ _ _ _ _ _ _ op_mul (@pv _ 6 _ _ (by rfl) (by first | exact Or.inl rfl | exact Or.inr (Or.inl rfl) | exact Or.inr (Or.inr rfl)) (by decide) (by decide)) (@pe_int _ _ _ _)) (@pe_int _ _ _ _)) (@pv _ 1 _ _ (by rfl) (by first | exact Or.inl rfl | exact Or.inr (Or.inl rfl) | exact Or.inr (Or.inr rfl)) (by decide) (by decide))))))))))))), rfl, ?_⟩
  walk_at "cl"
  walk_at "st"
  refine ⟨_, .of ht, _, rfl, ?_⟩
  walk_at "st"
  refine ⟨_, .of ht, _, rfl, ?_⟩
  walk_at "st"
  refine ⟨_, ht, _, rfl, ?_⟩
  have e1 : Ext t H (upd H t (HO.lst ([V.ref sc, V.int sp, V.int cr, V.int wy].set (Int.toNat 1) (V.int (sp + 1))))) := .at ht _
  have ht1 : (upd H t (HO.lst ([V.ref sc, V.int sp, V.int cr, V.int wy].set (Int.toNat 1) (V.int (sp + 1))))) t = some (HO.lst [V.ref sc, V.int (sp + 1), V.int cr, V.int wy]) := upd_same
  have hs1 := (hc.on e1).sq
  generalize upd H t (HO.lst ([V.ref sc, V.int sp, V.int cr, V.int wy].set (Int.toNat 1) (V.int (sp + 1)))) = H1 at e1 ht1 hs1 ⊢
  walk_at "st"
  refine r_cut (fun σ' H' => ∃ c : Int, σ' = [some (V.ref t), some (V.int m), some (V.ref sc), some (V.int sp), some (V.int c), none, none] ∧ H' = H1) (fun M hM => ?_) ?_
  · walk_at "rd"
    refine len_of hs1 ?_
    walk_at "rd"
    refine ite2 (fun c => ?_) (fun c => hM _ _ ⟨_, rfl, rfl⟩)
    refine ⟨_, .of ht1, _, rfl, ?_⟩
    walk_at "rd"
    refine ite2 (fun c1 => ⟨⟨by decide, by decide⟩, len_of hs1 ?_⟩) (fun c1 => len_of hs1 ?_)
    · walk_at "rd"
      obtain ⟨n, hn⟩ := atMod (ns := ns) (sp / 60) (by omega)
      exact ⟨by omega, _, hs1, _, hn, hM _ _ ⟨_, rfl, rfl⟩⟩
    · walk_at "rd"
      obtain ⟨n, hn⟩ := atMod (ns := ns) sp (by omega)
      exact ⟨by omega, _, hs1, _, hn, hM _ _ ⟨_, rfl, rfl⟩⟩
  · rintro _ _ ⟨c, rfl, rfl⟩
    walk_at "st"
    refine ⟨_, .of ht1, _, rfl, ?_⟩
    walk_at "rd"
    refine ite2 (fun c1 => ?_) (fun c1 => ?_)
    · refine r_cut (fun σ' H' => ∃ z : Int, σ' = [some (V.ref t), some (V.int m), some (V.ref sc), some (V.int sp), some (V.int c), none, none] ∧ H' t = some (HO.lst [V.ref sc, V.int (sp + 1), V.int z, V.int wy]) ∧ Ext t H H') (fun M hM => ?_) ?_
      · walk_at "rd"
        refine ⟨by decide, ite2 (fun c2 => ?_) (fun c2 => hM _ _ ⟨cr, rfl, ht1, e1⟩)⟩
        exact ⟨⟨by decide, by decide⟩, _, ht1, _, rfl, hM _ _ ⟨_, rfl, upd_same, e1.trans (.at ht1 _)⟩⟩
      · rintro _ H2 ⟨z, rfl, ht2, e2⟩
        walk_at "st"
        refine ⟨_, .of ht2, _, rfl, ?_⟩
        walk_at "st"
        refine ⟨⟨m0, m1⟩, _, ht2, _, rfl, m0, ?_⟩
        exact q _ _ (Int.emod_nonneg _ (by omega)) (Int.emod_lt_of_pos _ m0) ⟨⟨_, _, _, upd_same, hc.on (e2.trans (.at ht2 _))⟩, e2.trans (.at ht2 _)⟩
    · walk_at "st"
      have b1 := Int.emod_nonneg sp (show (997 : Int) ≠ 0 by decide)
      have b2 := Int.emod_lt_of_pos sp (show (0 : Int) < 997 by decide)
      have b3 := Int.emod_nonneg c (show (1000003 : Int) ≠ 0 by decide)
      have b4 := Int.emod_lt_of_pos c (show (0 : Int) < 1000003 by decide)
      refine ⟨by decide, by decide, cmul_l (by omega) (by omega), cmul_l (by omega) (by omega), by decide, ?_⟩
      generalize hx : (c % 1000003 + 1) * (sp % 997 * 7919 + 104729 + sp) % 1000033 = x
      have b5 : 0 ≤ x := by rw [← hx]; exact Int.emod_nonneg _ (by decide)
      have b6 : x < 1000033 := by rw [← hx]; exact Int.emod_lt_of_pos _ (by decide)
      walk_at "st"
      refine ⟨cmul_l (by omega) (by omega), cmul_l (by omega) (by omega), by decide, ?_⟩
      generalize hy : (x * x + 3 * x + sp) % 999983 = y
      have b7 : 0 ≤ y := by rw [← hy]; exact Int.emod_nonneg _ (by decide)
      have b8 : y < 999983 := by rw [← hy]; exact Int.emod_lt_of_pos _ (by decide)
      refine ⟨cmul_l (by omega) (by omega), by decide, m0, ?_⟩
      exact q _ _ (Int.emod_nonneg _ (by omega)) (Int.emod_lt_of_pos _ m0) ⟨⟨_, _, _, ht1, hc.on e1⟩, e1⟩
theorem ok_law_draw (F : Df K mg "_law_draw" s_law_draw ["_law_tape_here", "_law_many"]) (m_len : mg "len" = none) : Dn P w K mg base (k + 1) "_law_draw" ["_law_tape_here", "_law_many"] (spDraw K ns) :=
  (ok_law_drawS F m_len).imp fun vs H Q E ⟨t, m, e, m0, m1, ⟨sc, T⟩, q⟩ => ⟨t, sc, m, e, m0, m1, T, fun r H' a b c => q r H' a b c.cur⟩
end
end My
namespace My
open PySem L2 M
section
variable {P : Program} {w : World} {K : PySem.W.Frag} {mg : Str → Option Value} {base : Heap} {ns : List Int} {k : Nat}
theorem ok_law_unit {n : Nat} (F : Df K mg "_law_unit" s_law_unit ["_law_tape_here", "_law_deep", "_law_thin"]) (m_min : mg "min" = none) (d_law_draw : Dn P w K mg base k "_law_draw" ["_law_tape_here", "_law_many"] (spDraw K ns))
    (d_law_rule : Dn P w K mg base k "_law_rule" ["_law_tape_here", "_law_deep", "_law_thin"] (spRule K ns n)) : Dn P w K mg base (k + 1) "_law_unit" ["_law_tape_here", "_law_deep", "_law_thin"] (spUnit K ns (n + 1)) := by
  refine F.ok sc_law_unit (fun vs H Q E h => ?_) (fun f cdv A outer s H vs Q E hr h => ?_)
  · obtain ⟨t, dp, th, rfl, _⟩ := h; rfl
  obtain ⟨t, dp, th, rfl, dp0, dpn, th0, T, q⟩ := h
  refine ⟨_, [some _, some _, some _, none, none, none, none, none], 
      (@pss_cons _ _ _ _ _ (@ps_set _ _ 3 _ _ _ _ sc_law_unit.nd rfl (Or.inl rfl) (@pe_op _ _ _ _ _ _ _ _ op_add (@pe_int _ _ _ _) (@pe_callD _ _ _ _ _ _ _ _ _ _ d_law_draw hr rfl (@pa_u _ _ _ _ _ (@pv _ 0 _ _ (by rfl) (by first | exact Or.inl rfl | exact Or.inr (Or.inl rfl) | exact Or.inr (Or.inr rfl)) (by decide) (by decide)) (@pa_u _ _ _ _ _ (@pe_ix _ _ _ _ _ _ _ ix_list (@pe_lst _ _ _ _ (@pa_u _ _ _ _ _ (@pe_int _ _ _ _) (@pa_u _ _ _ _ _ (@pe_int _ _ _ _) (@pa_u _ _ _ _ _ (@pe_int _ _ _ _) (@pa_nil _) (by rfl)) (by rfl)) (by rfl))) (@pe_op _ _ _ _ _ _ _ _ op_fdiv (@pe_callD _ _ _ _ _ _ _ _ _ _ d_law_draw hr rfl (@pa_u _ _ _ _ _ (@pv _ 0 _ _ (by rfl) (by first | exact Or.inl rfl | exact Or.inr (Or.inl rfl) | exact Or.inr (Or.inr rfl)) (by decide) (by decide)) (@pa_u _ _ _ _ _ (@pe_int _ _ _ _) (@pa_nil _) (by rfl)) (by rfl)) (by rfl) (by decide)) (@pe_int _ _ _ _)) (fun _ _ => rfl)) (@pa_nil _) (by rfl)) (by rfl)) (by rfl) (by decide))) (by rfl) (by first | exact .inl rfl | exact .inr rfl | assumption)) 
      (@pss_cons _ _ _ _ _ (@ps_set _ _ 4 _ _ _ _ sc_law_unit.nd rfl (Or.inl rfl) (@pe_op _ _ _ _ _ _ _ _ op_add (@pe_int _ _ _ _) (@pe_callD _ _ _ _ _ _ _ _ _ _ d_law_draw hr rfl (@pa_u _ _ _ _ _ (@pv _ 0 _ _ (by rfl) (by first | exact Or.inl rfl | exact Or.inr (Or.inl rfl) | exact Or.inr (Or.inr rfl)) (by decide) (by decide)) (@pa_u _ _ _ _ _ (@pe_ix _ _ _ _ _ _ _ ix_list (@pe_lst _ _ _ _ (@pa_u _ _ _ _ _ (@pe_int _ _ _ _) (@pa_u _ _ _ _ _ (@pe_int _ _ _ _) (@pa_u _ _ _ _ _ (@pe_int _ _ _ _) (@pa_nil _) (by rfl)) (by rfl)) (by rfl))) (@pe_op _ _ _ _ _ _ _ _ op_fdiv (@pe_callD _ _ _ _ _ _ _ _ _ _ d_law_draw hr rfl (@pa_u _ _ _ _ _ (@pv _ 0 _ _ (by rfl) (by first | exact Or.inl rfl | exact Or.inr (Or.inl rfl) | exact Or.inr (Or.inr rfl)) (by decide) (by decide)) (@pa_u _ _ _ _ _ (@pe_int _ _ _ _) (@pa_nil _) (by rfl)) (by rfl)) (by rfl) (by decide)) (@pe_int _ _ _ _)) (fun _ _ => rfl)) (@pa_nil _) (by rfl)) (by rfl)) (by rfl) (by decide))) (by rfl) (by first | exact .inl rfl | exact .inr rfl | assumption)) 
      (@pss_cons _ _ _ _ _ (@ps_set _ _ 5 _ _ _ _ sc_law_unit.nd rfl (Or.inl rfl) (@pe_non _ _ _) (by rfl) (by first | exact .inl rfl | exact .inr rfl | assumption)) 
      (@pss_cons _ _ _ _ _ (@ps_set _ _ 6 _ _ _ _ sc_law_unit.nd rfl (Or.inl rfl) (@pe_non _ _ _) (by rfl) (by first | exact .inl rfl | exact .inr rfl | assumption)) 
      (@pss_cut _ _ _ _ _ (@ps_if _ _ _ _ _ _ _ _ (@pt_cmpR _ _ _ _ _ _ _ _ op_eq (@pe_callD _ _ _ _ _ _ _ _ _ _ d_law_draw hr rfl (@pa_u _ _ _ _ _ (@pv _ 0 _ _ (by rfl) (by first | exact Or.inl rfl | exact Or.inr (Or.inl rfl) | exact Or.inr (Or.inr rfl)) (by decide) (by decide)) (@pa_u _ _ _ _ _ (@pe_int _ _ _ _) (@pa_nil _) (by rfl)) (by rfl)) (by rfl) (by decide)) (@pe_int _ _ _ _) (nomark _)) (@pss_one _ _ _ (@ps_set _ _ 5 _ _ _ _ sc_law_unit.nd rfl (Or.inl rfl) (@pe_callBu _ _ _ _ _ _ _ _ _ (call_minS rfl) rfl m_min bt_min (@pa_u _ _ _ _ _ (@pe_int _ _ _ _) (@pa_u _ _ _ _ _ (@pe_op _ _ _ _ _ _ _ _ op_add (@pv _ 3 _ _ (by rfl) (by first | exact Or.inl rfl | exact Or.inr (Or.inl rfl) | exact Or.inr (Or.inr rfl)) (by decide) (by decide)) (@pe_callD _ _ _ _ _ _ _ _ _ _ d_law_draw hr rfl (@pa_u _ _ _ _ _ (@pv _ 0 _ _ (by rfl) (by first | exact Or.inl rfl | exact Or.inr (Or.inl rfl) | exact Or.inr (Or.inr rfl)) (by decide) (by decide)) (@pa_u _ _ _ _ _ (@pe_int _ _ _ _) (@pa_nil _) (by rfl)) (by rfl)) (by rfl) (by decide))) (@pa_nil _) (by rfl)) (by rfl)) (by rfl) (by decide) (by decide)) (by rfl) (by first | exact .inl rfl | exact .inr rfl | assumption))) (@pss_nil _)) 
      (@pss_cons _ _ _ _ _ (@ps_set _ _ 7 _ _ _ _ sc_law_unit.nd rfl (Or.inl rfl) (@pe_callD _ _ _ _ _ _ _ _ _ _ d_law_rule hr rfl (@pa_u _ _ _ _ _ (@pv _ 0 _ _ (by rfl) (by first | exact Or.inl rfl | exact Or.inr (Or.inl rfl) | exact Or.inr (Or.inr rfl)) (by decide) (by decide)) (@pa_u _ _ _ _ _ (@pe_op _ _ _ _ _ _ _ _ op_sub (@pv _ 1 _ _ (by rfl) (by first | exact Or.inl rfl | exact Or.inr (Or.inl rfl) | exact Or.inr (Or.inr rfl)) (by decide) (by decide)) (@pe_int _ _ _ _)) (@pa_u _ _ _ _ _ (@pv _ 2 _ _ (by rfl) (by first | exact Or.inl rfl | exact Or.inr (Or.inl rfl) | exact Or.inr (Or.inr rfl)) (by decide) (by decide)) (@pa_nil _) (by rfl)) (by rfl)) (by rfl)) (by rfl) (by decide)) (by rfl) (by first | exact .inl rfl | exact .inr rfl | assumption)) 
      (@pss_cut _ _ _ _ _ (@ps_if _ _ _ _ _ _ _ _ (@PW.pt _ _ _ (@pw_and _ _ _ _ _ _ _ (@pt_cmpR _ _ _ _ _ _ _ _ op_notNS (@pv _ 5 _ _ (by rfl) (by first | exact Or.inl rfl | exact Or.inr (Or.inl rfl) | exact Or.inr (Or.inr rfl)) (by decide) (by decide)) (@pe_non _ _ _) (nomark _)) (@pw_and1 _ _ _ _ (@pt_cmpR _ _ _ _ _ _ _ _ op_gt (@pe_callD _ _ _ _ _ _ _ _ _ _ d_law_draw hr rfl (@pa_u _ _ _ _ _ (@pv _ 0 _ _ (by rfl) (by first | exact Or.inl rfl | exact Or.inr (Or.inl rfl) | exact Or.inr (Or.inr rfl)) (by decide) (by decide)) (@pa_u _ _ _ _ _ (@pe_int _ _ _ _) (@pa_nil _) (by rfl)) (by rfl)) (by rfl) (by decide)) (@pe_int _ _ _ _) (nomark _))))) (@pss_one _ _ _ (@ps_set _ _ 6 _ _ _ _ sc_law_unit.nd rfl (Or.inl rfl) (@pe_callD _ _ _ _ _ _ _ _ _ _ d_law_rule hr rfl (@pa_u _ _ _ _ _ (@pv _ 0 _ _ (by rfl) (by first | exact Or.inl rfl | exact Or.inr (Or.inl rfl) | exact Or.inr (Or.inr rfl)) (by decide) (by decide)) (@pa_u _ _ _ _ _ (@pe_callBu _ _ _ _ _ _ _ _ _ (call_minS rfl) rfl m_min bt_min (@pa_u _ _ _ _ _ (@pe_op _ _ _ _ _ _ _ _ op_sub (@pv _ 1 _ _ (by rfl) (by first | exact Or.inl rfl | exact Or.inr (Or.inl rfl) | exact Or.inr (Or.inr rfl)) (by decide) (by decide)) (@pe_int _ _ _ _)) (@pa_u _ _ _ _ _ (@pv _ 2 _ _ (by rfl) (by first | exact Or.inl rfl | exact Or.inr (Or.inl rfl) | exact Or.inr (Or.inr rfl)) (by decide) (by decide)) (@pa_nil _) (by rfl)) (by rfl)) (by rfl) (by decide) (by decide)) (@pa_u _ _ _ _ _ (@pv _ 2 _ _ (by rfl) (by first | exact Or.inl rfl | exact Or.inr (Or.inl rfl) | exact Or.inr (Or.inr rfl)) (by decide) (by decide)) (@pa_nil _) (by rfl)) (by rfl)) (by rfl)) (by rfl) (by decide)) (by rfl) (by first | exact .inl rfl | exact .inr rfl | assumption))) (@pss_nil _)) (@pss_one _ _ _ (@ps_ret _ _ _ _ (@pe_tup _ _ _ _ _ (@pa_u _ _ _ _ _ (@pe_str _ _ _ _) (@pa_u _ _ _ _ _ (@pv _ 3 _ _ (by rfl) (by first | exact Or.inl rfl | exact Or.inr (Or.inl rfl) | exact Or.inr (Or.inr rfl)) (by decide) (by decide)) (@pa_u _ _ _ _ _ (@pv _ 4 _ _ (by rfl) (by first | exact Or.inl rfl | exact Or.inr (Or.inl rfl) | exact Or.inr (Or.inr rfl)) (by decide) (by decide)) (@pa_u _ _ _ _ _ (@pv _ 5 _ _ (by rfl) (by first | exact Or.inl rfl | exact Or.inr (Or.inl rfl) | exact Or.inr (Or.inr rfl)) (by decide) (by decide)) (@pa_u _ _ _ _ _ (@pv _ 7 _ _ (by rfl) (by first | exact Or.inl rfl | exact Or.inr (Or.inl rfl) | exact Or.inr (Or.inr rfl)) (by decide) (by decide)) (@pa_u _ _ _ _ _ (@pv _ 6 _ _ (by rfl) (by first | exact Or.inl rfl | exact Or.inr (Or.inl rfl) | exact Or.inr (Or.inr rfl)) (by decide) (by decide)) (@pa_nil _) (by rfl)) (by rfl)) (by rfl)) (by rfl)) (by rfl)) (by rfl)))))))))))), rfl, ?_⟩
  walk_at "cl"
  walk_at "st"
  refine ⟨small6 (by simp), fun p1 hp1 => draw_of (T.new hp1 _) fun r1 H1 r10 r11 c1 => ?_⟩
  have s1 : SqL K H1 p1 [V.int 3, V.int 5, V.int 99] := c1.ext.sqL (T.ne hp1) (.of upd_same)
  walk_at "rd"
  obtain ⟨v1, hv1, m1⟩ := atMem (xs := [V.int 3, V.int 5, V.int 99]) (i := r1 / 8) (by omega) (by simp; omega)
  obtain ⟨k1, rfl, k10, k11⟩ : ∃ k : Int, v1 = .int k ∧ 0 < k ∧ k ≤ 99 := by
    simp at m1
    rcases m1 with rfl | rfl | rfl <;> exact ⟨_, rfl, by decide, by decide⟩
  refine ⟨⟨by decide, by decide⟩, _, s1, _, hv1, draw_of c1.tape (fun r2 H2 r20 r21 c2 => ?_) k10 (by omega)⟩
  have C2 : Cur K ns t H H2 := ((T.cur.new hp1 _).then c1).then c2
  walk_at "st"
  refine ⟨small6 (by simp), fun p2 hp2 => draw_of (C2.tape.new hp2 _) fun r3 H3 r30 r31 c3 => ?_⟩
  have s3 : SqL K H3 p2 [V.int 2, V.int 3, V.int 99] := c3.ext.sqL (C2.ne hp2) (.of upd_same)
  walk_at "rd"
  obtain ⟨v3, hv3, m3⟩ := atMem (xs := [V.int 2, V.int 3, V.int 99]) (i := r3 / 9) (by omega) (by simp; omega)
  obtain ⟨k3, rfl, k30, k31⟩ : ∃ k : Int, v3 = .int k ∧ 0 < k ∧ k ≤ 99 := by
    simp at m3
    rcases m3 with rfl | rfl | rfl <;> exact ⟨_, rfl, by decide, by decide⟩
  refine ⟨⟨by decide, by decide⟩, _, s3, _, hv3, draw_of c3.tape (fun r4 H4 r40 r41 c4 => ?_) k30 (by omega)⟩
  have C4 : Cur K ns t H H4 := ((C2.new hp2 _).then c3).then c4
  clear c1 s1 m1 c2 c3 s3 m3 c4
  walk_at "st"
  walk_at "st"
  refine r_cut (fun σ' H' => ∃ cap : Option Int, σ' = [some (.ref t), some (.int dp), some (.int th), some (.int (1 + r2)), some (.int (1 + r4)), some (optI cap), some .non, none] ∧ capOk (1 + r2) cap ∧ Cur K ns t H H') (fun M hM => ?_) ?_
  · walk_at "rd"
    refine draw_of C4.tape fun r5 H5 r50 r51 c5 => ?_
    walk_at "rd"
    refine ite2 (fun c => ?_) (fun c => hM _ _ ⟨none, rfl, trivial, C4.then c5⟩)
    refine draw_of c5.tape fun r6 H6 r60 r61 c6 => ?_
    walk_at "rd"
    refine hM _ _ ⟨some _, rfl, ⟨?_, ?_⟩, (C4.then c5).then c6⟩
    · split <;> omega
    · split <;> omega
  · rintro _ H6 ⟨cap, rfl, hcap, C6⟩
    walk_at "st"
    refine ⟨t, dp - 1, th, rfl, by omega, by omega, th0, C6.tape, fun i iv H7 oki dpi szi c7 di => ?_⟩
    walk_at "rd"
    have C7 := C6.then c7
    have hU : U dp.toNat th.toNat = 1 + U (dp - 1).toNat th.toNat + U (min (dp - 1).toNat th.toNat) th.toNat := by
      rw [show dp.toNat = (dp - 1).toNat + 1 by omega, U_succ]
    refine r_cut (fun σ' H' => ∃ (lv : V) (rl : Rl) (d5 : PyData), σ' = [some (.ref t), some (.int dp), some (.int th), some (.int (1 + r2)), some (.int (1 + r4)), some (optI cap), some lv, some iv] ∧
      enc rl = unitD (.int (1 + r2)) (.int (1 + r4)) (capD cap) (enc i) d5 ∧ ok rl ∧ depth rl ≤ dp.toNat ∧ size rl ≤ U dp.toNat th.toNat ∧ Cur K ns t H H' ∧ Dt K t H' (enc i) iv ∧ Dt K t H' d5 lv) (fun M hM => ?_) ?_
    · have plain : ∀ H', Cur K ns t H H' → Dt K t H' (enc i) iv → M [some (.ref t), some (.int dp), some (.int th), some (.int (1 + r2)), some (.int (1 + r4)), some (optI cap), some .non, some iv] H' := fun H' C' d' =>
        hM _ _ ⟨.non, .un (1 + r2) (1 + r4) cap i, .none, rfl, rfl, ⟨⟨by omega, by omega⟩, ⟨by omega, by omega⟩, hcap, oki⟩, by simp only [depth]; omega, by simp only [size]; omega, C', d', .non⟩
      walk_at "rd"
      cases cap with
      | none =>
        rw [if_neg (by simp [optI])]
        exact plain _ C7 di
      | some c =>
        rw [if_pos (by simp [optI])]
        refine draw_of C7.tape fun r8 H8 r80 r81 c8 => ?_
        walk_at "rd"
        refine ite2 (fun z => ?_) (fun z => plain _ (C7.then c8) (di.on c8.ext))
        have hmin : (if th < dp - 1 then th else dp - 1).toNat = min (dp - 1).toNat th.toNat := by split <;> omega
        refine ⟨t, _, th, rfl, by split <;> omega, by split <;> omega, th0, c8.tape, fun l lv H9 okl dpl szl c9 dl => ?_⟩
        rw [hmin] at dpl szl
        walk_at "rd"
        refine hM _ _ ⟨lv, .ul (1 + r2) (1 + r4) c i l, enc l, rfl, rfl, ⟨⟨by omega, by omega⟩, ⟨by omega, by omega⟩, hcap, oki, okl⟩, by simp only [depth]; omega, by simp only [size]; omega, (C7.then c8).then c9, di.on (c8.ext.trans c9.ext), dl⟩
    · rintro _ H9 ⟨lv, rl, d5, rfl, e, okr, dpr, szr, C9, di9, dl9⟩
      walk_at "rd"
      refine ⟨small6 (by simp), fun p hp => q rl _ _ okr dpr szr (C9.new hp _) ?_⟩
      rw [e]
      exact .newT hp (.cons (dstr "unit") (.cons (.int _) (.cons (.int _) (.cons (dt_cap cap) (.cons di9 (.cons dl9 .nil))))))
theorem ok_law_rule {n : Nat} (F : Df K mg "_law_rule" s_law_rule ["_law_tape_here", "_law_deep", "_law_thin"]) (d_law_draw : Dn P w K mg base k "_law_draw" ["_law_tape_here", "_law_many"] (spDraw K ns))
    (d_law_unit : Dn P w K mg base k "_law_unit" ["_law_tape_here", "_law_deep", "_law_thin"] (spUnit K ns n)) : Dn P w K mg base (k + 1) "_law_rule" ["_law_tape_here", "_law_deep", "_law_thin"] (spRule K ns n) := by
  refine F.ok sc_law_rule (fun vs H Q E h => ?_) (fun f cdv A outer s H vs Q E hr h => ?_)
  · obtain ⟨t, dp, th, rfl, _⟩ := h; rfl
  obtain ⟨t, dp, th, rfl, dp0, dpn, th0, T, q⟩ := h
  refine ⟨_, [some _, some _, some _], 
      (@pss_cons _ _ _ _ _ (@ps_if _ _ _ _ _ _ _ _ (@PW.pt _ _ _ (@pw_or _ _ _ _ _ _ _ (@pt_cmpR _ _ _ _ _ _ _ _ op_eq (@pv _ 1 _ _ (by rfl) (by first | exact Or.inl rfl | exact Or.inr (Or.inl rfl) | exact Or.inr (Or.inr rfl)) (by decide) (by decide)) (@pe_int _ _ _ _) (nomark _)) (@pw_or1 _ _ _ _ (@pt_cmpR _ _ _ _ _ _ _ _ op_eq (@pe_callD _ _ _ _ _ _ _ _ _ _ d_law_draw hr rfl (@pa_u _ _ _ _ _ (@pv _ 0 _ _ (by rfl) (by first | exact Or.inl rfl | exact Or.inr (Or.inl rfl) | exact Or.inr (Or.inr rfl)) (by decide) (by decide)) (@pa_u _ _ _ _ _ (@pe_int _ _ _ _) (@pa_nil _) (by rfl)) (by rfl)) (by rfl) (by decide)) (@pe_int _ _ _ _) (nomark _))))) (@pss_one _ _ _ (@ps_ret _ _ _ _ (@pe_tup _ _ _ _ _ (@pa_u _ _ _ _ _ (@pe_str _ _ _ _) (@pa_nil _) (by rfl))))) (@pss_nil _)) (@pss_one _ _ _ (@ps_ret _ _ _ _ (@pe_callD _ _ _ _ _ _ _ _ _ _ d_law_unit hr rfl (@pa_u _ _ _ _ _ (@pv _ 0 _ _ (by rfl) (by first | exact Or.inl rfl | exact Or.inr (Or.inl rfl) | exact Or.inr (Or.inr rfl)) (by decide) (by decide)) (@pa_u _ _ _ _ _ (@pv _ 1 _ _ (by rfl) (by first | exact Or.inl rfl | exact Or.inr (Or.inl rfl) | exact Or.inr (Or.inr rfl)) (by decide) (by decide)) (@pa_u _ _ _ _ _ (@pv _ 2 _ _ (by rfl) (by first | exact Or.inl rfl | exact Or.inr (Or.inl rfl) | exact Or.inr (Or.inr rfl)) (by decide) (by decide)) (@pa_nil _) (by rfl)) (by rfl)) (by rfl)) (by rfl) (by decide))))), rfl, ?_⟩
  walk_at "cl"
  have pt : ∀ H', Cur K ns t H H' → ∀ p, H' p = none → Q (.ref p) (upd H' p (.tup [.str "point"])) := fun H' C' p hp =>
    q .pt _ _ trivial (Nat.zero_le _) (Nat.zero_le _) (C'.new hp _) (.newT hp (.cons (dstr "point") .nil))
  walk_at "st"
  refine ite2 (fun c => ⟨small6 (by simp), pt H T.cur⟩) (fun c => ?_)
  refine draw_of T fun r1 H1 r10 r11 c1 => ?_
  walk_at "rd"
  refine ite2 (fun z => ⟨small6 (by simp), pt H1 c1⟩) (fun z => ?_)
  exact ⟨t, dp, th, rfl, by omega, dpn, th0, c1.tape, fun rl r H2 a b c C d => q rl r H2 a b c (c1.then C) d⟩
theorem all_rule {n : Nat} (Fr : Df K mg "_law_rule" s_law_rule ["_law_tape_here", "_law_deep", "_law_thin"]) (Fu : Df K mg "_law_unit" s_law_unit ["_law_tape_here", "_law_deep", "_law_thin"]) (m_min : mg "min" = none)
    (d_law_draw : Dn P w K mg base k "_law_draw" ["_law_tape_here", "_law_many"] (spDraw K ns)) : Dn P w K mg base (k + 2 * n) "_law_rule" ["_law_tape_here", "_law_deep", "_law_thin"] (spRule K ns n) := by
  induction n with
  | zero => exact Fr.void fun vs H Q E ⟨_, _, _, _, h, h1, _⟩ => by omega
  | succ n ih => exact ok_law_rule Fr (d_law_draw.mono (Nat.le_add_right k _)) (ok_law_unit Fu m_min (d_law_draw.mono (Nat.le_add_right k _)) ih)
theorem ok_law_any_rule (F : Df K mg "_law_any_rule" s_law_any_rule ["_law_tape_here"]) (d_law_draw : Dn P w K mg base k "_law_draw" ["_law_tape_here", "_law_many"] (spDraw K ns))
    (d_law_rule : Dn P w K mg base k "_law_rule" ["_law_tape_here", "_law_deep", "_law_thin"] (spRule K ns 5)) : Dn P w K mg base (k + 1) "_law_any_rule" ["_law_tape_here"] (spAny K ns) := by
  refine F.ok sc_law_any_rule (fun vs H Q E h => ?_) (fun f cdv A outer s H vs Q E hr h => ?_)
  · obtain ⟨t, rfl, _⟩ := h; rfl
  obtain ⟨t, rfl, T, q⟩ := h
  refine ⟨_, [some _, none], 
      (@pss_cons _ _ _ _ _ (@ps_set _ _ 1 _ _ _ _ sc_law_any_rule.nd rfl (Or.inl rfl) (@pe_callD _ _ _ _ _ _ _ _ _ _ d_law_draw hr rfl (@pa_u _ _ _ _ _ (@pv _ 0 _ _ (by rfl) (by first | exact Or.inl rfl | exact Or.inr (Or.inl rfl) | exact Or.inr (Or.inr rfl)) (by decide) (by decide)) (@pa_u _ _ _ _ _ (@pe_int _ _ _ _) (@pa_nil _) (by rfl)) (by rfl)) (by rfl) (by decide)) (by rfl) (by first | exact .inl rfl | exact .inr rfl | assumption)) (@pss_one _ _ _ (@ps_ret _ _ _ _ (@pe_callD _ _ _ _ _ _ _ _ _ _ d_law_rule hr rfl (@pa_u _ _ _ _ _ (@pv _ 0 _ _ (by rfl) (by first | exact Or.inl rfl | exact Or.inr (Or.inl rfl) | exact Or.inr (Or.inr rfl)) (by decide) (by decide)) (@pa_u _ _ _ _ _ (@pe_ix _ _ _ _ _ _ _ ix_list (@pe_lst _ _ _ _ (@pa_u _ _ _ _ _ (@pe_int _ _ _ _) (@pa_u _ _ _ _ _ (@pe_int _ _ _ _) (@pa_u _ _ _ _ _ (@pe_int _ _ _ _) (@pa_u _ _ _ _ _ (@pe_int _ _ _ _) (@pa_u _ _ _ _ _ (@pe_int _ _ _ _) (@pa_u _ _ _ _ _ (@pe_int _ _ _ _) (@pa_nil _) (by rfl)) (by rfl)) (by rfl)) (by rfl)) (by rfl)) (by rfl))) (@pv _ 1 _ _ (by rfl) (by first | exact Or.inl rfl | exact Or.inr (Or.inl rfl) | exact Or.inr (Or.inr rfl)) (by decide) (by decide)) (fun _ _ => rfl)) (@pa_u _ _ _ _ _ (@pe_ix _ _ _ _ _ _ _ ix_list (@pe_lst _ _ _ _ (@pa_u _ _ _ _ _ (@pe_int _ _ _ _) (@pa_u _ _ _ _ _ (@pe_int _ _ _ _) (@pa_u _ _ _ _ _ (@pe_int _ _ _ _) (@pa_u _ _ _ _ _ (@pe_int _ _ _ _) (@pa_u _ _ _ _ _ (@pe_int _ _ _ _) (@pa_u _ _ _ _ _ (@pe_int _ _ _ _) (@pa_nil _) (by rfl)) (by rfl)) (by rfl)) (by rfl)) (by rfl)) (by rfl))) (@pv _ 1 _ _ (by rfl) (by first | exact Or.inl rfl | exact Or.inr (Or.inl rfl) | exact Or.inr (Or.inr rfl)) (by decide) (by decide)) (fun _ _ => rfl)) (@pa_nil _) (by rfl)) (by rfl)) (by rfl)) (by rfl) (by decide))))), rfl, ?_⟩
  walk_at "cl"
  walk_at "st"
  refine draw_of T fun r1 H1 r10 r11 c1 => ?_
  walk_at "rd"
  refine ⟨small6 (by simp), fun p1 hp1 => ⟨_, .of upd_same, ?_⟩⟩
  have cs : r1 = 0 ∨ r1 = 1 ∨ r1 = 2 ∨ r1 = 3 ∨ r1 = 4 ∨ r1 = 5 := by omega
  rcases cs with rfl | rfl | rfl | rfl | rfl | rfl <;>
    exact ⟨_, rfl, small6 (by simp), fun p hp => ⟨_, .of upd_same, _, rfl, t, _, _, rfl, by decide, by decide, by decide, (c1.tape.new hp1 _).new hp _,
      fun rl r H2 a b c C d => q rl r H2 a (Nat.le_trans b (by decide)) (Nat.le_trans c (by decide)) (((c1.new hp1 _).new hp _).then C) d⟩⟩
end
end My
namespace My
open PySem L2 M
section
variable (K : PySem.W.Frag) (ns : List Int)
def spGreat : Sp := fun vs H Q _ => ∃ t sc, vs = [.ref t] ∧ TapeS K ns t sc H ∧ ∀ r H', 0 ≤ r → r ≤ 999999 → CurS K ns t sc H H' → Q (.int r) H'
def spNames : Sp := fun vs H Q _ => ∃ (t sc : Addr) (m : Nat), vs = [.ref t, .int m] ∧ 1 ≤ m ∧ m ≤ 30 ∧ TapeS K ns t sc H ∧ ∀ a (ws : List Str) H', CurS K ns t sc H H' → H a = none → H' a = some (.lst (ws.map V.str)) → ws.length = m → ws.Nodup → (∀ w ∈ ws, asc w ∧ nmL w) → Q (.ref a) H'
def spThrows : Sp := fun vs H Q _ => ∃ (t sc na : Addr) (ws : List Str) (c : Int), vs = [.ref t, .ref na, .int c] ∧ TapeS K ns t sc H ∧ na ≠ t ∧ H na = some (.lst (ws.map V.str)) ∧ 1 ≤ ws.length ∧ ws.length ≤ 30 ∧ (∀ w ∈ ws, asc w) ∧ 1 ≤ c ∧ c ≤ 1000000 ∧
  ∀ a vs (ths : List Th) H', CurS K ns t sc H H' → SqT K H' a vs → ThL K H' ths vs → ths.map (·.nm) = ws → (∀ x ∈ ths, 0 ≤ x.wo ∧ x.wo ≤ 1000000) → Q (.ref a) H'
end
section
variable {P : Program} {w : World} {K : PySem.W.Frag} {mg : Str → Option Value} {base : Heap} {ns : List Int} {k : Nat}
theorem ok_law_great (F : Df K mg "_law_great" s_law_great ["_law_tape_here"]) (d_law_draw : Dn P w K mg base k "_law_draw" ["_law_tape_here", "_law_many"] (spDrawS K ns)) : Dn P w K mg base (k + 1) "_law_great" ["_law_tape_here"] (spGreat K ns) := by
  refine F.ok sc_law_great (fun vs H Q E h => ?_) (fun f cdv A outer s H vs Q E hr h => ?_)
  · obtain ⟨t, sc, rfl, _⟩ := h; rfl
  obtain ⟨t, sc, rfl, T, q⟩ := h
  refine ⟨_, [some _], (@pss_one _ _ _ (@ps_ret _ _ _ _ (@pe_op _ _ _ _ _ _ _ _ op_add (@pe_op _ _ _ _ _ _ _ _ op_mul (@pe_int _ _ _ _) (@pe_callD _ _ _ _ _ _ _ _ _ _ d_law_draw hr rfl (@pa_u _ _ _ _ _ (@pv _ 0 _ _ (by rfl) (by first | exact Or.inl rfl | exact Or.inr (Or.inl rfl) | exact Or.inr (Or.inr rfl)) (by decide) (by decide)) (@pa_u _ _ _ _ _ (@pe_int _ _ _ _) (@pa_nil _) (by rfl)) (by rfl)) (by rfl) (by decide))) (@pe_callD _ _ _ _ _ _ _ _ _ _ d_law_draw hr rfl (@pa_u _ _ _ _ _ (@pv _ 0 _ _ (by rfl) (by first | exact Or.inl rfl | exact Or.inr (Or.inl rfl) | exact Or.inr (Or.inr rfl)) (by decide) (by decide)) (@pa_u _ _ _ _ _ (@pe_int _ _ _ _) (@pa_nil _) (by rfl)) (by rfl)) (by rfl) (by decide))))), rfl, ?_⟩
  walk_at "cl"
  walk_at "rd"
  refine drawS_of T fun r1 H1 r10 r11 c1 => ?_
  walk_at "rd"
  refine ⟨cmul_l (by omega) (by omega), drawS_of c1.tape fun r2 H2 r20 r21 c2 => ?_⟩
  walk_at "rd"
  exact q _ _ (by omega) (by omega) (c1.then c2)
theorem small16' {n : Nat} (h : n ≤ 1000000) : n ≤ sizeLine := Nat.le_of_lt (small16 h)
theorem iteA {a b X Y : Prop} [Decidable a] [Decidable b] (h1 : a ∧ b → X) (h2 : ¬ (a ∧ b) → Y) : if a then (if b then X else Y) else Y :=
  ite2 (fun ca => ite2 (fun cb => h1 ⟨ca, cb⟩) fun cb => h2 fun z => cb z.2) fun ca => h2 fun z => ca z.1
theorem atS {z : Str} {i : Int} (h0 : 0 ≤ i) (h1 : i < z.cps.toList.length) : ∃ c, atI z.cps.toList i = some c ∧ c ∈ z.cps.toList := by
  have hi : i.toNat < z.cps.toList.length := by omega
  have e := atI_nat (List.getElem?_eq_getElem hi)
  rw [show ((i.toNat : Nat) : Int) = i by omega] at e
  exact ⟨_, e, List.getElem_mem _⟩
theorem sgns_of {n : Nat} : ∀ {ys : List V}, (∀ y ∈ ys, ∃ c : Nat, y = .str (sgn c) ∧ low c = true) → ys.length = n → ∃ cs : List Nat, ys = (cs.map sgn).map V.str ∧ cs.length = n ∧ ∀ c ∈ cs, low c = true := by
  intro ys
  induction ys generalizing n with
  | nil => intro _ h; exact ⟨[], rfl, h, fun c hc => nomatch hc⟩
  | cons y ys ih =>
    intro h hn
    obtain ⟨c, rfl, hc⟩ := h y (List.mem_cons_self ..)
    obtain ⟨cs, rfl, h1, h2⟩ := ih (n := ys.length) (fun z hz => h z (List.mem_cons_of_mem _ hz)) rfl
    refine ⟨c :: cs, rfl, by rw [List.length_cons, h1]; exact hn, fun d hd => ?_⟩
    rcases List.mem_cons.mp hd with rfl | hd
    · exact hc
    · exact h2 d hd
theorem word_list (cs : List Nat) : (Txt.join "" (cs.map sgn)).cps.toList = cs := by
  unfold Txt.join
  rw [StrLaws.glued_eq_join]
  exact join_sgn cs
theorem ok_law_names (F : Df K mg "_law_names" s_law_names ["_law_tape_here", "_law_many"]) (m_range : mg "range" = none) (d_law_draw : Dn P w K mg base k "_law_draw" ["_law_tape_here", "_law_many"] (spDrawS K ns)) : Dn P w K mg base (k + 1) "_law_names" ["_law_tape_here", "_law_many"] (spNames K ns) := by
  refine F.ok sc_law_names (fun vs H Q E h => ?_) (fun f cdv A outer s H vs Q E hr h => ?_)
  · obtain ⟨t, sc, m, rfl, _⟩ := h; rfl
  obtain ⟨t, sc, m, rfl, m0, m1, T, q⟩ := h
  refine ⟨_, [some _, some _, none, none, none, none, none, none, none, none, none], 
      (@pss_cons _ _ _ _ _ (@ps_set _ _ 2 _ _ _ _ sc_law_names.nd rfl (Or.inr rfl) (@pe_str _ _ _ _) (by rfl) (by first | exact .inl rfl | exact .inr rfl | assumption)) 
      (@pss_cons _ _ _ _ _ (@ps_set _ _ 3 _ _ _ _ sc_law_names.nd rfl (Or.inr rfl) (@pe_bm _ _ _ _ _ _ _ _ _ _ _ _ PySem.F.plainAttrs_str PySem.F.slot_str_join PySem.F.type_str_join mt_join (@pe_str _ _ _ _) (@pa_u _ _ _ _ _ (@pe_comp _ _ _ _ _ _ _ _ _ _ _ _ _ rfl (compCap (N := ["_law_tape_here", "_law_many", "_law_letters", "_law_word", "_law_way", "_law_turn", "_law_names_here", "_law_size", "_law_at", "_law_signs", "_law_start"]) (fr := ["_law_tape_here", "_law_letters"]) (osc := defScope s_law_names) rfl rfl (by decide +kernel) rfl rfl (by intro p hp; simp only [List.mem_cons, List.not_mem_nil, or_false] at hp; rcases hp with rfl | rfl <;> rfl)) (@pi_range1 _ _ _ _ _ _ rfl m_range (@pa_u _ _ _ _ _ (@pe_int _ _ _ _) (@pa_nil _) (by rfl)) (by rfl)) (fun _ _ _ _ => (@pts_nil _)) (fun _ _ _ _ => (@pe_ix _ _ _ _ _ _ _ ix_str (@pv _ 3 _ _ (by rfl) (by first | exact Or.inl rfl | exact Or.inr (Or.inl rfl) | exact Or.inr (Or.inr rfl)) (by decide) (by decide)) (@pe_callD _ _ _ _ _ _ _ _ _ _ d_law_draw hr rfl (@pa_u _ _ _ _ _ (@pv _ 1 _ _ (by rfl) (by first | exact Or.inl rfl | exact Or.inr (Or.inl rfl) | exact Or.inr (Or.inr rfl)) (by decide) (by decide)) (@pa_u _ _ _ _ _ (@pe_int _ _ _ _) (@pa_nil _) (by rfl)) (by rfl)) (by rfl) (by decide)) (fun _ _ => rfl))) (by intro _; rfl)) (@pa_nil _) (by rfl)) (by rfl) (by rfl) (by rfl) (by rfl) (by rfl)) (by rfl) (by first | exact .inl rfl | exact .inr rfl | assumption)) 
      (@pss_cons _ _ _ _ _ (@ps_set _ _ 4 _ _ _ _ sc_law_names.nd rfl (Or.inl rfl) (@pe_callD _ _ _ _ _ _ _ _ _ _ d_law_draw hr rfl (@pa_u _ _ _ _ _ (@pv _ 0 _ _ (by rfl) (by first | exact Or.inl rfl | exact Or.inr (Or.inl rfl) | exact Or.inr (Or.inr rfl)) (by decide) (by decide)) (@pa_u _ _ _ _ _ (@pe_int _ _ _ _) (@pa_nil _) (by rfl)) (by rfl)) (by rfl) (by decide)) (by rfl) (by first | exact .inl rfl | exact .inr rfl | assumption)) 
      (@pss_cons _ _ _ _ _ (@ps_set _ _ 5 _ _ _ _ sc_law_names.nd rfl (Or.inl rfl) (@pe_callD _ _ _ _ _ _ _ _ _ _ d_law_draw hr rfl (@pa_u _ _ _ _ _ (@pv _ 0 _ _ (by rfl) (by first | exact Or.inl rfl | exact Or.inr (Or.inl rfl) | exact Or.inr (Or.inr rfl)) (by decide) (by decide)) (@pa_u _ _ _ _ _ (@pe_int _ _ _ _) (@pa_nil _) (by rfl)) (by rfl)) (by rfl) (by decide)) (by rfl) (by first | exact .inl rfl | exact .inr rfl | assumption)) 
      (@pss_cons _ _ _ _ _ (@ps_if _ _ _ _ _ _ _ _ (@PW.pt _ _ _ (@pw_and _ _ _ _ _ _ _ (@pt_cmpR _ _ _ _ _ _ _ _ op_le (@pv _ 1 _ _ (by rfl) (by first | exact Or.inl rfl | exact Or.inr (Or.inl rfl) | exact Or.inr (Or.inr rfl)) (by decide) (by decide)) (@pe_int _ _ _ _) (nomark _)) (@pw_and1 _ _ _ _ (@pt_cmpR _ _ _ _ _ _ _ _ op_eq (@pv _ 4 _ _ (by rfl) (by first | exact Or.inl rfl | exact Or.inr (Or.inl rfl) | exact Or.inr (Or.inr rfl)) (by decide) (by decide)) (@pe_int _ _ _ _) (nomark _))))) 
      (@pss_cons _ _ _ _ _ (@ps_setComp _ _ _ _ _ _ _ _ _ _ _ _ _ _ _ 6 _ rfl sc_law_names.nd rfl (Or.inl rfl) (compCap (N := ["_law_tape_here", "_law_many", "_law_letters", "_law_word", "_law_way", "_law_turn", "_law_names_here", "_law_size", "_law_at", "_law_signs", "_law_start"]) (fr := ["_law_word"]) (osc := defScope s_law_names) rfl rfl (by decide +kernel) rfl rfl (by intro p hp; simp only [List.mem_cons, List.not_mem_nil, or_false] at hp; rcases hp with rfl <;> rfl)) (@pi_range1 _ _ _ _ _ _ rfl m_range (@pa_u _ _ _ _ _ (@pe_int _ _ _ _) (@pa_nil _) (by rfl)) (by rfl)) (fun _ _ _ _ => (@pts_nil _)) (fun _ _ _ _ => (@pe_slice _ _ _ _ _ _ _ _ _ _ sl_str (@pv _ 4 _ _ (by rfl) (by first | exact Or.inl rfl | exact Or.inr (Or.inl rfl) | exact Or.inr (Or.inr rfl)) (by decide) (by decide)) (@po_none _) (@po_some _ _ _ (@pe_op _ _ _ _ _ _ _ _ op_add (@pv _ 0 _ _ (by rfl) (by first | exact Or.inl rfl | exact Or.inr (Or.inl rfl) | exact Or.inr (Or.inr rfl)) (by decide) (by decide)) (@pe_int _ _ _ _))))) (by rfl) (by intro _; rfl) (by first | exact .inl rfl | exact .inr rfl | assumption)) (@pss_one _ _ _ (@ps_ret _ _ _ _ (@pe_slice _ _ _ _ _ _ _ _ _ _ sl_list (@pe_op _ _ _ _ _ _ _ _ op_cat (@pe_slice _ _ _ _ _ _ _ _ _ _ sl_list (@pv _ 6 _ _ (by rfl) (by first | exact Or.inl rfl | exact Or.inr (Or.inl rfl) | exact Or.inr (Or.inr rfl)) (by decide) (by decide)) (@po_some _ _ _ (@pv _ 5 _ _ (by rfl) (by first | exact Or.inl rfl | exact Or.inr (Or.inl rfl) | exact Or.inr (Or.inr rfl)) (by decide) (by decide))) (@po_none _)) (@pe_slice _ _ _ _ _ _ _ _ _ _ sl_list (@pv _ 6 _ _ (by rfl) (by first | exact Or.inl rfl | exact Or.inr (Or.inl rfl) | exact Or.inr (Or.inr rfl)) (by decide) (by decide)) (@po_none _) (@po_some _ _ _ (@pv _ 5 _ _ (by rfl) (by first | exact Or.inl rfl | exact Or.inr (Or.inl rfl) | exact Or.inr (Or.inr rfl)) (by decide) (by decide))))) (@po_none _) (@po_some _ _ _ (@pv _ 1 _ _ (by rfl) (by first | exact Or.inl rfl | exact Or.inr (Or.inl rfl) | exact Or.inr (Or.inr rfl)) (by decide) (by decide))))))) (@pss_nil _)) 
      (@pss_cons _ _ _ _ _ (@ps_set _ _ 7 _ _ _ _ sc_law_names.nd rfl (Or.inr rfl) (@pe_op _ _ _ _ _ _ _ _ op_add (@pe_int _ _ _ _) (@pe_callD _ _ _ _ _ _ _ _ _ _ d_law_draw hr rfl (@pa_u _ _ _ _ _ (@pv _ 0 _ _ (by rfl) (by first | exact Or.inl rfl | exact Or.inr (Or.inl rfl) | exact Or.inr (Or.inr rfl)) (by decide) (by decide)) (@pa_u _ _ _ _ _ (@pe_int _ _ _ _) (@pa_nil _) (by rfl)) (by rfl)) (by rfl) (by decide))) (by rfl) (by first | exact .inl rfl | exact .inr rfl | assumption)) 
      (@pss_cons _ _ _ _ _ (@ps_set _ _ 8 _ _ _ _ sc_law_names.nd rfl (Or.inr rfl) (@pe_op _ _ _ _ _ _ _ _ op_add (@pe_int _ _ _ _) (@pe_callD _ _ _ _ _ _ _ _ _ _ d_law_draw hr rfl (@pa_u _ _ _ _ _ (@pv _ 0 _ _ (by rfl) (by first | exact Or.inl rfl | exact Or.inr (Or.inl rfl) | exact Or.inr (Or.inr rfl)) (by decide) (by decide)) (@pa_u _ _ _ _ _ (@pe_op _ _ _ _ _ _ _ _ op_sub (@pv _ 7 _ _ (by rfl) (by first | exact Or.inl rfl | exact Or.inr (Or.inl rfl) | exact Or.inr (Or.inr rfl)) (by decide) (by decide)) (@pe_int _ _ _ _)) (@pa_nil _) (by rfl)) (by rfl)) (by rfl) (by decide))) (by rfl) (by first | exact .inl rfl | exact .inr rfl | assumption)) 
      (@pss_cons _ _ _ _ _ (@ps_set _ _ 9 _ _ _ _ sc_law_names.nd rfl (Or.inr rfl) (@pe_op _ _ _ _ _ _ _ _ op_addS (@pv _ 2 _ _ (by rfl) (by first | exact Or.inl rfl | exact Or.inr (Or.inl rfl) | exact Or.inr (Or.inr rfl)) (by decide) (by decide)) (@pe_str _ _ _ _)) (by rfl) (by first | exact .inl rfl | exact .inr rfl | assumption)) 
      (@pss_cons _ _ _ _ _ (@ps_set _ _ 10 _ _ _ _ sc_law_names.nd rfl (Or.inr rfl) (@pe_callD _ _ _ _ _ _ _ _ _ _ d_law_draw hr rfl (@pa_u _ _ _ _ _ (@pv _ 0 _ _ (by rfl) (by first | exact Or.inl rfl | exact Or.inr (Or.inl rfl) | exact Or.inr (Or.inr rfl)) (by decide) (by decide)) (@pa_u _ _ _ _ _ (@pe_int _ _ _ _) (@pa_nil _) (by rfl)) (by rfl)) (by rfl) (by decide)) (by rfl) (by first | exact .inl rfl | exact .inr rfl | assumption)) (@pss_one _ _ _ (@ps_ret _ _ _ _ (@pe_comp _ _ _ _ _ _ _ _ _ _ _ _ _ rfl (compCap (N := ["_law_tape_here", "_law_many", "_law_letters", "_law_word", "_law_way", "_law_turn", "_law_names_here", "_law_size", "_law_at", "_law_signs", "_law_start"]) (fr := ["_law_word", "_law_start", "_law_size", "_law_signs", "_law_at"]) (osc := defScope s_law_names) rfl rfl (by decide +kernel) rfl rfl (by intro p hp; simp only [List.mem_cons, List.not_mem_nil, or_false] at hp; rcases hp with rfl | rfl | rfl | rfl | rfl <;> rfl)) (@pi_range1 _ _ _ _ _ _ rfl m_range (@pa_u _ _ _ _ _ (@pv _ 1 _ _ (by rfl) (by first | exact Or.inl rfl | exact Or.inr (Or.inl rfl) | exact Or.inr (Or.inr rfl)) (by decide) (by decide)) (@pa_nil _) (by rfl)) (by rfl)) (fun _ _ _ _ => (@pts_nil _)) (fun _ _ _ _ => (@pe_op _ _ _ _ _ _ _ _ op_addS (@pe_op _ _ _ _ _ _ _ _ op_addS (@pe_slice _ _ _ _ _ _ _ _ _ _ sl_str (@pv _ 4 _ _ (by rfl) (by first | exact Or.inl rfl | exact Or.inr (Or.inl rfl) | exact Or.inr (Or.inr rfl)) (by decide) (by decide)) (@po_none _) (@po_some _ _ _ (@pv _ 9 _ _ (by rfl) (by first | exact Or.inl rfl | exact Or.inr (Or.inl rfl) | exact Or.inr (Or.inr rfl)) (by decide) (by decide)))) (@pe_ix _ _ _ _ _ _ _ ix_str (@pv _ 10 _ _ (by rfl) (by first | exact Or.inl rfl | exact Or.inr (Or.inl rfl) | exact Or.inr (Or.inr rfl)) (by decide) (by decide)) (@pe_op _ _ _ _ _ _ _ _ op_mod (@pe_op _ _ _ _ _ _ _ _ op_add (@pv _ 11 _ _ (by rfl) (by first | exact Or.inl rfl | exact Or.inr (Or.inl rfl) | exact Or.inr (Or.inr rfl)) (by decide) (by decide)) (@pe_op _ _ _ _ _ _ _ _ op_mul (@pe_int _ _ _ _) (@pv _ 0 _ _ (by rfl) (by first | exact Or.inl rfl | exact Or.inr (Or.inl rfl) | exact Or.inr (Or.inr rfl)) (by decide) (by decide)))) (@pe_int _ _ _ _)) (fun _ _ => rfl))) (@pe_slice _ _ _ _ _ _ _ _ _ _ sl_str (@pv _ 4 _ _ (by rfl) (by first | exact Or.inl rfl | exact Or.inr (Or.inl rfl) | exact Or.inr (Or.inr rfl)) (by decide) (by decide)) (@po_some _ _ _ (@pe_op _ _ _ _ _ _ _ _ op_add (@pv _ 9 _ _ (by rfl) (by first | exact Or.inl rfl | exact Or.inr (Or.inl rfl) | exact Or.inr (Or.inr rfl)) (by decide) (by decide)) (@pe_int _ _ _ _))) (@po_some _ _ _ (@pv _ 8 _ _ (by rfl) (by first | exact Or.inl rfl | exact Or.inr (Or.inl rfl) | exact Or.inr (Or.inr rfl)) (by decide) (by decide)))))) (by intro _; rfl))))))))))))), rfl, ?_⟩
  walk_at "cl"
  walk_at "st"
  walk_at "st"
  refine ⟨rfl, comp_draw (m := 8) (fun y => ∃ c : Nat, y = .str (sgn c) ∧ low c = true) (fun R h => h) (by decide) T (fun i H' hi C' Q' hq => ?_) (fun D1 ys1 H1 C1 hD1 hD1' hl1 hP1 => ?_)⟩
  · walk_at "rd"
    refine drawS_of C'.tape fun r1 H1 r10 r11 c1 => ?_
    walk_at "rd"
    obtain ⟨c, hc, hm⟩ := atS (z := letters) r10 (by rw [letters_len]; omega)
    exact ⟨c, small16' (by decide +kernel), hc, hq _ _ ⟨c, rfl, letters_low c hm⟩ c1⟩
  obtain ⟨cs, rfl, hc8, hcs⟩ := sgns_of hP1 hl1
  refine ⟨_, D1, _, rfl, rfl, .of hD1', ?_, ?_⟩
  · unfold JoinOk
    rw [StrLaws.joinFits (B := 1)]
    · rfl
    · intro y hy
      obtain ⟨c, _, rfl⟩ := List.mem_map.mp hy
      exact Nat.le_refl _
    · rw [List.length_map, hc8]
      decide +kernel
  have hwl := word_list cs
  generalize Txt.join "" (cs.map sgn) = wd at hwl ⊢
  have hw8 : wd.length = 8 := by rw [len_toList, hwl, hc8]
  have hwlow : ∀ c ∈ wd.cps.toList, low c = true := fun c hc => by rw [hwl] at hc; exact hcs c hc
  have hwa : asc wd := fun c hc => low_asc (hwlow c hc)
  have C1' := C1
  walk_at "st"
  refine drawS_of C1.tape fun r2 H2 r20 r21 c2 => ?_
  walk_at "st"
  refine drawS_of c2.tape fun r3 H3 r30 r31 c3 => ?_
  have C3 := (C1.then c2).then c3
  have hlw : ∀ k, (nameA wd k).length ≤ 100 := fun k => Nat.le_trans lenA (by omega)
  walk_at "st"
  refine iteA (fun c => ?_) (fun c => ?_)
  · walk_at "st"
    refine comp_rg (m := 8) (fun i => .str (nameA wd i)) (fun R h => h) (by decide) (fun i H' hi S' Q' hq => ?_) (fun D4 H4 S4 hD4 hD4' => ?_)
    · walk_at "rd"
      refine ⟨small16' (by omega), ?_⟩
      have := hq _ (.refl _)
      rw [show (0 : Int) + (i : Int) + 1 = (i : Int) + 1 by omega]
      exact this
    have exs : (List.range 8).map (fun i => V.str (nameA wd i)) = ((List.range 8).map (nameA wd)).map V.str := by rw [List.map_map]; rfl
    rw [exs] at hD4'
    have hnd : ((List.range 8).map (nameA wd)).Nodup := nodupA (by omega)
    have hpr : ∀ u ∈ (List.range 8).map (nameA wd), asc u ∧ nmL u := fun u hu => by
      obtain ⟨i, hi, rfl⟩ := List.mem_map.mp hu
      exact ⟨ascA hwa, nmA hw8 (List.mem_range.mp hi) hwlow⟩
    have hl8 : ((List.range 8).map (nameA wd)).length = 8 := by simp
    generalize (List.range 8).map (nameA wd) = ws at hD4' hnd hpr hl8
    have e3 : r3 = ((r3.toNat : Nat) : Int) := by omega
    have C4 := C3.same S4
    refine ⟨D4, _, rfl, .of hD4', fun p5 hp5 => ?_⟩
    have s5 := same_new hp5 (.lst (cutV (ws.map V.str) (some r3) none))
    refine ⟨D4, _, rfl, .of (s5 _ _ hD4'), fun p6 hp6 => ?_⟩
    have s6 := same_new hp6 (.lst (cutV (ws.map V.str) none (some r3)))
    have l5 := s6 _ _ (show (upd H4 p5 (.lst (cutV (ws.map V.str) (some r3) none))) p5 = _ from upd_same)
    have e5 : cutV (ws.map V.str) (some r3) none = (ws.drop r3.toNat).map V.str := by
      rw [e3, cutV_dropL (by rw [List.length_map]; omega), List.map_drop]; rfl
    have e6 : cutV (ws.map V.str) none (some r3) = (ws.take r3.toNat).map V.str := by
      rw [e3, cutV_take, List.map_take]; rfl
    rw [e5, e6] at l5
    rw [e5] at s5 hp6
    rw [e5, e6] at s6 ⊢
    refine cat_of l5 upd_same (smallA ?_) fun p7 hp7 => ?_
    · rw [List.length_map, List.length_map, List.length_drop, List.length_take]; omega
    rw [← List.map_append]
    have s7 := same_new hp7 (.lst ((ws.drop r3.toNat ++ ws.take r3.toNat).map V.str))
    refine ⟨p7, _, rfl, .of upd_same, fun p8 hp8 => ?_⟩
    have s8 := same_new hp8 (.lst (cutV ((ws.drop r3.toNat ++ ws.take r3.toNat).map V.str) none (some (m : Int))))
    rw [cutV_take, ← List.map_take] at s8 ⊢
    have SS := ((s5.trans s6).trans s7).trans s8
    refine q p8 ((ws.drop r3.toNat ++ ws.take r3.toNat).take m) _ (C4.same SS) ?_ upd_same ?_ (rot_nodup _ _ hnd) ?_
    · exact C4.free' (((s5.trans s6).trans s7).free hp8)
    · rw [List.length_take, List.length_append, List.length_drop, List.length_take]
      omega
    · intro u hu
      have := List.mem_of_mem_take hu
      rcases List.mem_append.mp this with z | z
      · exact hpr u (List.mem_of_mem_drop z)
      · exact hpr u (List.mem_of_mem_take z)
  · walk_at "st"
    refine drawS_of C3.tape fun r4 H4 r40 r41 c4 => ?_
    walk_at "st"
    refine drawS_of c4.tape (fun r5 H5 r50 r51 c5 => ?_) (by omega) (by omega)
    walk_at "st"
    refine ⟨small16' (by decide +kernel), ?_⟩
    walk_at "st"
    refine drawS_of c5.tape fun r6 H6 r60 r61 c6 => ?_
    have C6 := ((C3.then c4).then c5).then c6
    walk_at "rd"
    have e1 : (1 : Int) + r5 = ((1 + r5.toNat : Nat) : Int) := by omega
    have e6 : r6 = ((r6.toNat : Nat) : Int) := by omega
    refine comp_rg (m := m) (fun i => .str (nameB wd (1 + r5.toNat) (2 + r4) (signAt r6.toNat i))) (fun R h => h) (by omega) (fun i H' hi S' Q' hq => ?_) (fun D7 H7 S7 hD7 hD7' => ?_)
    · walk_at "rd"
      have hi' : ((r6 + 5 * (0 + (i : Int))) % 36) = (((r6.toNat + 5 * i) % 36 : Nat) : Int) := by rw [Int.natCast_emod]; congr 1; omega
      have hsl1 := Txt.slice_le wd none (some (1 + r5))
      have hsl2 := Txt.slice_le wd (some (1 + r5 + 1)) (some (2 + r4))
      have hs1 : (sgn (signAt r6.toNat i)).length = 1 := rfl
      refine ⟨small16' (by omega), cmul_l (by omega) (by omega), by decide, signAt r6.toNat i, small16' (by decide +kernel), ?_, ?_, small16' (by omega), ?_, ?_⟩
      · rw [hi']
        exact atI_nat (signAt_some _ _)
      · exact small16' (by show _ + (sgn (signAt r6.toNat i)).length ≤ _; omega)
      · refine small16' ?_
        show (Txt.slice wd none (some (1 + r5)) ++ sgn (signAt r6.toNat i)).length + _ ≤ _
        rw [app_len]
        omega
      · have := hq _ (.refl _)
        unfold nameB at this
        rw [e1]
        exact this
    · have exs : (List.range m).map (fun i => V.str (nameB wd (1 + r5.toNat) (2 + r4) (signAt r6.toNat i))) = ((List.range m).map fun i => nameB wd (1 + r5.toNat) (2 + r4) (signAt r6.toNat i)).map V.str := by rw [List.map_map]; rfl
      rw [exs] at hD7'
      refine q D7 _ H7 (C6.same S7) (C6.free' hD7) hD7' (by simp) (nodupB (by omega) (by omega)) fun u hu => ?_
      obtain ⟨i, _, rfl⟩ := List.mem_map.mp hu
      have hnb := nmB (w := wd) (a := 1 + r5.toNat) (sz := 2 + r4.toNat) (c := signAt r6.toNat i) hw8 (by omega) (by omega) (by omega) hwlow (signs_ld _ (List.mem_of_getElem? (signAt_some _ _)))
      rw [show ((2 + r4.toNat : Nat) : Int) = 2 + r4 by omega] at hnb
      exact ⟨ascB hwa (signAt_asc _ _), hnb⟩
theorem CurS.at {t sc p : Addr} {H H1 : Hp} {xs : List V} (c : CurS K ns t sc H H1) (n : p ≠ t) (h : H p = some (.lst xs)) : H1 p = some (.lst xs) := c.ext _ _ (fun z => absurd z n) h
theorem ok_law_throws (F : Df K mg "_law_throws" s_law_throws ["_law_tape_here", "_law_names_here", "_law_count"]) (m_tuple : mg "tuple" = none) (d_law_draw : Dn P w K mg base k "_law_draw" ["_law_tape_here", "_law_many"] (spDrawS K ns)) (d_law_great : Dn P w K mg base k "_law_great" ["_law_tape_here"] (spGreat K ns)) : Dn P w K mg base (k + 1) "_law_throws" ["_law_tape_here", "_law_names_here", "_law_count"] (spThrows K ns) := by
  refine F.ok sc_law_throws (fun vs H Q E h => ?_) (fun f cdv A outer s H vs Q E hr h => ?_)
  · obtain ⟨t, sc, na, ws, c, rfl, _⟩ := h; rfl
  obtain ⟨t, sc, na, ws, c, rfl, T, hnt, hna, hw1, hw30, hasc, hc1, hc2, q⟩ := h
  refine ⟨_, [some _, some _, some _, none, none, none], 
      (@pss_cons _ _ _ _ _ (@ps_set _ _ 3 _ _ _ _ sc_law_throws.nd rfl (Or.inl rfl) (@pe_lst _ _ _ _ (@pa_nil _)) (by rfl) (by first | exact .inl rfl | exact .inr rfl | assumption)) 
      (@pss_cons _ _ _ _ _ (@ps_for _ _ _ _ _ _ _ _ PassesOwn.never rfl (@pi_list _ _ _ _ (@pv _ 1 _ _ (by rfl) (by first | exact Or.inl rfl | exact Or.inr (Or.inl rfl) | exact Or.inr (Or.inr rfl)) (by decide) (by decide))) (@pg_name _ _ 4 _ sc_law_throws.nd rfl (Or.inl rfl) (by first | exact .inl rfl | exact .inr rfl | assumption)) 
      (@pss_cons _ _ _ _ _ (@ps_set _ _ 5 _ _ _ _ sc_law_throws.nd rfl (Or.inl rfl) (@pe_lst _ _ _ _ (@pa_u _ _ _ _ _ (@pe_callD _ _ _ _ _ _ _ _ _ _ d_law_draw hr rfl (@pa_u _ _ _ _ _ (@pv _ 0 _ _ (by rfl) (by first | exact Or.inl rfl | exact Or.inr (Or.inl rfl) | exact Or.inr (Or.inr rfl)) (by decide) (by decide)) (@pa_u _ _ _ _ _ (@pe_int _ _ _ _) (@pa_nil _) (by rfl)) (by rfl)) (by rfl) (by decide)) (@pa_u _ _ _ _ _ (@pe_callD _ _ _ _ _ _ _ _ _ _ d_law_draw hr rfl (@pa_u _ _ _ _ _ (@pv _ 0 _ _ (by rfl) (by first | exact Or.inl rfl | exact Or.inr (Or.inl rfl) | exact Or.inr (Or.inr rfl)) (by decide) (by decide)) (@pa_u _ _ _ _ _ (@pe_int _ _ _ _) (@pa_nil _) (by rfl)) (by rfl)) (by rfl) (by decide)) (@pa_u _ _ _ _ _ (@pe_op _ _ _ _ _ _ _ _ op_fdiv (@pv _ 2 _ _ (by rfl) (by first | exact Or.inl rfl | exact Or.inr (Or.inl rfl) | exact Or.inr (Or.inr rfl)) (by decide) (by decide)) (@pe_int _ _ _ _)) (@pa_u _ _ _ _ _ (@pe_op _ _ _ _ _ _ _ _ op_sub (@pv _ 2 _ _ (by rfl) (by first | exact Or.inl rfl | exact Or.inr (Or.inl rfl) | exact Or.inr (Or.inr rfl)) (by decide) (by decide)) (@pe_callD _ _ _ _ _ _ _ _ _ _ d_law_draw hr rfl (@pa_u _ _ _ _ _ (@pv _ 0 _ _ (by rfl) (by first | exact Or.inl rfl | exact Or.inr (Or.inl rfl) | exact Or.inr (Or.inr rfl)) (by decide) (by decide)) (@pa_u _ _ _ _ _ (@pv _ 2 _ _ (by rfl) (by first | exact Or.inl rfl | exact Or.inr (Or.inl rfl) | exact Or.inr (Or.inr rfl)) (by decide) (by decide)) (@pa_nil _) (by rfl)) (by rfl)) (by rfl) (by decide))) (@pa_nil _) (by rfl)) (by rfl)) (by rfl)) (by rfl))) (by rfl) (by first | exact .inl rfl | exact .inr rfl | assumption)) 
      (@pss_cons _ _ _ _ _ (@ps_expr _ _ _ _ (@pe_bm _ _ _ _ _ _ _ _ _ _ _ _ PySem.F.plainAttrs_list PySem.F.slot_list_append PySem.F.type_list_append mt_append (@pv _ 5 _ _ (by rfl) (by first | exact Or.inl rfl | exact Or.inr (Or.inl rfl) | exact Or.inr (Or.inr rfl)) (by decide) (by decide)) (@pa_u _ _ _ _ _ (@pe_op _ _ _ _ _ _ _ _ op_add (@pe_callD _ _ _ _ _ _ _ _ _ _ d_law_great hr rfl (@pa_u _ _ _ _ _ (@pv _ 0 _ _ (by rfl) (by first | exact Or.inl rfl | exact Or.inr (Or.inl rfl) | exact Or.inr (Or.inr rfl)) (by decide) (by decide)) (@pa_nil _) (by rfl)) (by rfl) (by decide)) (@pe_callD _ _ _ _ _ _ _ _ _ _ d_law_draw hr rfl (@pa_u _ _ _ _ _ (@pv _ 0 _ _ (by rfl) (by first | exact Or.inl rfl | exact Or.inr (Or.inl rfl) | exact Or.inr (Or.inr rfl)) (by decide) (by decide)) (@pa_u _ _ _ _ _ (@pe_int _ _ _ _) (@pa_nil _) (by rfl)) (by rfl)) (by rfl) (by decide))) (@pa_nil _) (by rfl)) (by rfl) (by rfl) (by rfl) (by rfl) (by rfl)) (by rfl)) (@pss_one _ _ _ (@ps_expr _ _ _ _ (@pe_bm _ _ _ _ _ _ _ _ _ _ _ _ PySem.F.plainAttrs_list PySem.F.slot_list_append PySem.F.type_list_append mt_append (@pv _ 3 _ _ (by rfl) (by first | exact Or.inl rfl | exact Or.inr (Or.inl rfl) | exact Or.inr (Or.inr rfl)) (by decide) (by decide)) (@pa_u _ _ _ _ _ (@pe_tup _ _ _ _ _ (@pa_u _ _ _ _ _ (@pv _ 4 _ _ (by rfl) (by first | exact Or.inl rfl | exact Or.inr (Or.inl rfl) | exact Or.inr (Or.inr rfl)) (by decide) (by decide)) (@pa_u _ _ _ _ _ (@pe_ix _ _ _ _ _ _ _ ix_list (@pv _ 5 _ _ (by rfl) (by first | exact Or.inl rfl | exact Or.inr (Or.inl rfl) | exact Or.inr (Or.inr rfl)) (by decide) (by decide)) (@pe_callD _ _ _ _ _ _ _ _ _ _ d_law_draw hr rfl (@pa_u _ _ _ _ _ (@pv _ 0 _ _ (by rfl) (by first | exact Or.inl rfl | exact Or.inr (Or.inl rfl) | exact Or.inr (Or.inr rfl)) (by decide) (by decide)) (@pa_u _ _ _ _ _ (@pe_int _ _ _ _) (@pa_nil _) (by rfl)) (by rfl)) (by rfl) (by decide)) (fun _ _ => rfl)) (@pa_u _ _ _ _ _ (@pe_cmpR _ _ _ _ _ _ _ _ op_eq (@pe_callD _ _ _ _ _ _ _ _ _ _ d_law_draw hr rfl (@pa_u _ _ _ _ _ (@pv _ 0 _ _ (by rfl) (by first | exact Or.inl rfl | exact Or.inr (Or.inl rfl) | exact Or.inr (Or.inr rfl)) (by decide) (by decide)) (@pa_u _ _ _ _ _ (@pe_int _ _ _ _) (@pa_nil _) (by rfl)) (by rfl)) (by rfl) (by decide)) (@pe_int _ _ _ _) (nomark _)) (@pa_nil _) (by rfl)) (by rfl)) (by rfl))) (@pa_nil _) (by rfl)) (by rfl) (by rfl) (by rfl) (by rfl) (by rfl)) (by rfl))))) (by intro _; rfl)) (@pss_one _ _ _ (@ps_ret _ _ _ _ (@pe_callTu _ _ _ _ _ _ _ _ _ call_tuple_of rfl m_tuple bt_tuple (@pa_u _ _ _ _ _ (@pv _ 3 _ _ (by rfl) (by first | exact Or.inl rfl | exact Or.inr (Or.inl rfl) | exact Or.inr (Or.inr rfl)) (by decide) (by decide)) (@pa_nil _) (by rfl)) (by rfl) (by decide) (by decide)))))), rfl, ?_⟩
  walk_at "cl"
  have hwl : (ws.map V.str).length = ws.length := List.length_map ..
  walk_at "st"
  refine ⟨small6 (by simp), fun D hD => ?_⟩
  have C0 : CurS K ns t sc H (upd H D (.lst [])) := T.cur.keep T hD
  have hD0 : (upd H D (.lst [])) D = some (.lst []) := upd_same
  have hna0 := same_new hD (.lst []) _ _ hna
  have hDt : D ≠ t := T.ne hD
  have hDn : D ≠ na := (ne_of_none hna hD).symm
  generalize upd H D (.lst []) = H0 at C0 hD0 hna0 ⊢
  walk_at "st"
  refine ⟨⟨_, .of hna0⟩, lst_of (xs := ws.map V.str) (fun i σ' H' => ∃ (ths : List Th) (vs : List V) (x1 x2 : Option V), σ' = [some (.ref t), some (.ref na), some (.int c), some (.ref D), x1, x2] ∧ H' D = some (.lst vs) ∧ ThL K H' ths vs ∧ ths.map (·.nm) = ws.take i ∧ (∀ x ∈ ths, 0 ≤ x.wo ∧ x.wo ≤ 1000000) ∧ CurS K ns t sc H H' ∧ H' na = some (.lst (ws.map V.str))) ⟨[], [], none, none, rfl, hD0, .nil, by simp, (fun x hx => nomatch hx), C0, hna0⟩ (fun i σ' H' _ h => ?_) ?_ ?_⟩
  · obtain ⟨_, _, _, _, _, _, _, _, _, _, h⟩ := h; exact .of h
  · rintro Pv hP i x _ H1 hx ⟨ths, vs, x1, x2, rfl, hD1, hth, hnm, hbd, C1, hna1⟩
    have hi : i < ws.length := by
      have := (List.getElem?_eq_some_iff.mp hx).1
      rwa [hwl] at this
    have hxe : x = .str ws[i] := by
      rw [List.getElem?_map, List.getElem?_eq_getElem hi] at hx
      exact (Option.some.inj hx).symm
    subst hxe
    have hvl : vs.length ≤ 30 := by
      have e1 := congrArg List.length hnm
      rw [List.length_map, List.length_take] at e1
      have := hth.len
      omega
    walk_at "st"
    refine drawS_of C1.tape fun r1 H2 r10 r11 c2 => ?_
    walk_at "rd"
    refine drawS_of c2.tape fun r2 H3 r20 r21 c3 => ?_
    walk_at "rd"
    refine ⟨⟨by decide, by decide⟩, drawS_of c3.tape (fun r3 H4 r30 r31 c4 => ?_) (by omega) (by omega)⟩
    have c14 := (c2.then c3).then c4
    walk_at "rd"
    refine ⟨small6 (by simp), fun W hW => ?_⟩
    have C4 := C1.then c14
    have hWH : H W = none := C4.free' hW
    have hD4 := CurS.at c14 hDt hD1
    have hna4 := CurS.at c14 hnt hna1
    have hWD : W ≠ D := (ne_of_none hD4 hW).symm
    have hWn : W ≠ na := (ne_of_none hna4 hW).symm
    have hWt : W ≠ t := c4.tape.ne hW
    have s5 := same_new hW (.lst [V.int r1, V.int r2, V.int (c / 2), V.int (c - r3)])
    have C5 : CurS K ns t sc H (upd H4 W (.lst [V.int r1, V.int r2, V.int (c / 2), V.int (c - r3)])) := C4.keep T hWH
    have hW5 : (upd H4 W (.lst [V.int r1, V.int r2, V.int (c / 2), V.int (c - r3)])) W = some (.lst [V.int r1, V.int r2, V.int (c / 2), V.int (c - r3)]) := upd_same
    have hD5 := s5 _ _ hD4
    have hna5 := s5 _ _ hna4
    have tk5 : Tk K H1 (upd H4 W (.lst [V.int r1, V.int r2, V.int (c / 2), V.int (c - r3)])) := c14.ext.tk.trans s5.tk
    generalize upd H4 W (.lst [V.int r1, V.int r2, V.int (c / 2), V.int (c - r3)]) = H5 at s5 C5 hW5 hD5 hna5 tk5 ⊢
    walk_at "st"
    refine ⟨.inl ⟨rfl, _, .of hW5⟩, t, sc, rfl, C5.tape, fun r6 H6 r60 r61 c6 => ?_⟩
    walk_at "rd"
    refine drawS_of c6.tape fun r7 H7 r70 r71 c7 => ?_
    have c57 := c6.then c7
    have hW7 := CurS.at c57 hWt hW5
    have hD7 := CurS.at c57 hDt hD5
    have hna7 := CurS.at c57 hnt hna5
    walk_at "rd"
    refine ⟨W, _, _, rfl, rfl, hW7, small1000 (by simp), ?_⟩
    have tk8 : Tk K H1 (upd H7 W (.lst ([V.int r1, V.int r2, V.int (c / 2), V.int (c - r3)] ++ [V.int (r6 + r7)]))) := tk5.trans (c57.ext.tk.trans (Tk.updL hW7))
    have C8 : CurS K ns t sc H (upd H7 W (.lst ([V.int r1, V.int r2, V.int (c / 2), V.int (c - r3)] ++ [V.int (r6 + r7)]))) := (C5.then c57).keep T hWH
    have hW8 : (upd H7 W (.lst ([V.int r1, V.int r2, V.int (c / 2), V.int (c - r3)] ++ [V.int (r6 + r7)]))) W = some (.lst [V.int r1, V.int r2, V.int (c / 2), V.int (c - r3), V.int (r6 + r7)]) := upd_same
    have hD8 : (upd H7 W (.lst ([V.int r1, V.int r2, V.int (c / 2), V.int (c - r3)] ++ [V.int (r6 + r7)]))) D = some (.lst vs) := by rw [upd_ne hWD.symm]; exact hD7
    have hna8 : (upd H7 W (.lst ([V.int r1, V.int r2, V.int (c / 2), V.int (c - r3)] ++ [V.int (r6 + r7)]))) na = some (.lst (ws.map V.str)) := by rw [upd_ne hWn.symm]; exact hna7
    generalize upd H7 W (.lst ([V.int r1, V.int r2, V.int (c / 2), V.int (c - r3)] ++ [V.int (r6 + r7)])) = H8 at tk8 C8 hW8 hD8 hna8 ⊢
    walk_at "rd"
    refine ⟨.inl ⟨rfl, _, .of hD8⟩, drawS_of C8.tape fun r9 H9 r90 r91 c9 => ?_⟩
    have hW9 := CurS.at c9 hWt hW8
    walk_at "rd"
    obtain ⟨v9, hv9, m9⟩ := atMem (xs := [V.int r1, V.int r2, V.int (c / 2), V.int (c - r3), V.int (r6 + r7)]) (i := r9) (by omega) (by simp; omega)
    obtain ⟨wo, rfl, wo0, wo1⟩ : ∃ k : Int, v9 = .int k ∧ 0 ≤ k ∧ k ≤ 1000000 := by
      simp at m9
      rcases m9 with rfl | rfl | rfl | rfl | rfl <;> exact ⟨_, rfl, by omega, by omega⟩
    refine ⟨_, .of hW9, _, hv9, drawS_of c9.tape fun r10' H10 r100 r101 c10 => ?_⟩
    have c910 := c9.then c10
    walk_at "rd"
    refine ⟨small6 (by simp), fun p11 hp11 => ?_⟩
    have s11 := same_new hp11 (.tup [V.str ws[i], V.int wo, V.bl (decide (r10' = 0))])
    have hD10 := CurS.at c910 hDt hD8
    refine ⟨D, _, _, rfl, rfl, s11 _ _ hD10, small1000 (by omega), ?_⟩
    have hna11 := s11 _ _ (CurS.at c910 hnt hna8)
    have tk11 : Tk K H1 (upd H10 p11 (.tup [V.str ws[i], V.int wo, V.bl (decide (r10' = 0))])) := tk8.trans (c910.ext.tk.trans s11.tk)
    have tk12 : Tk K (upd H10 p11 (.tup [V.str ws[i], V.int wo, V.bl (decide (r10' = 0))])) (upd (upd H10 p11 (.tup [V.str ws[i], V.int wo, V.bl (decide (r10' = 0))])) D (.lst (vs ++ [.ref p11]))) := Tk.updL (s11 _ _ hD10)
    have hnew : ThV K (upd H10 p11 (.tup [V.str ws[i], V.int wo, V.bl (decide (r10' = 0))])) ⟨ws[i], wo, decide (r10' = 0)⟩ (.ref p11) := th_mk (.of upd_same) (asc_ok (hasc _ (List.getElem_mem _)))
    refine hP _ _ _ ⟨ths ++ [⟨ws[i], wo, decide (r10' = 0)⟩], vs ++ [.ref p11], _, _, rfl, upd_same, ((hth.tk tk11).snoc hnew).tk tk12, ?_, ?_, ?_, ?_⟩
    · rw [List.map_append, hnm, List.take_add_one, List.getElem?_eq_getElem hi]
      rfl
    · intro y hy
      rcases List.mem_append.mp hy with z | z
      · exact hbd y z
      · rw [List.mem_singleton.mp z]
        exact ⟨wo0, wo1⟩
    · exact (((C8.then c910).keep T ((C8.then c910).free' hp11))).keep T hD
    · rw [upd_ne hDn.symm]; exact hna11
  · rintro _ H1 ⟨ths, vs, x1, x2, rfl, hD1, hth, hnm, hbd, C1, hna1⟩
    rw [hwl, List.take_length] at hnm
    walk_at "rd"
    refine ⟨D, _, rfl, .inl ⟨.of hD1, fun l hl => ?_⟩⟩
    have s2 := same_new hl (.tup vs)
    exact q l vs ths _ (C1.same s2) (.of upd_same) (hth.same s2) hnm hbd
end
end My
namespace My
open PySem L2 M
section
variable (K : PySem.W.Frag) (ns : List Int)
def spDown : Sp := fun vs H Q _ => ∃ t sc, vs = [.ref t] ∧ TapeS K ns t sc H ∧ ∀ (da : Addr) (n : Nat) (b tr : Int) (ths : List Th) H', CurS K ns t sc H H' → DwV K H' n b tr ths da → 1 ≤ n → n ≤ 3 → 1 ≤ b → b ≤ 1000000 → 1 ≤ tr → tr ≤ 3 → 1 ≤ ths.length → ths.length ≤ 30 → (ths.map (·.nm)).Nodup → (∀ x ∈ ths, asc x.nm ∧ nmL x.nm ∧ 0 ≤ x.wo ∧ x.wo ≤ 1000000) → Q (.ref da) H'
end
section
variable {P : Program} {w : World} {K : PySem.W.Frag} {mg : Str → Option Value} {base : Heap} {ns : List Int} {k : Nat}
theorem ok_law_down (F : Df K mg "_law_down" s_law_down ["_law_tape_here"]) (d_law_draw : Dn P w K mg base k "_law_draw" ["_law_tape_here", "_law_many"] (spDrawS K ns)) (d_law_great : Dn P w K mg base k "_law_great" ["_law_tape_here"] (spGreat K ns)) (d_law_names : Dn P w K mg base k "_law_names" ["_law_tape_here", "_law_many"] (spNames K ns)) (d_law_throws : Dn P w K mg base k "_law_throws" ["_law_tape_here", "_law_names_here", "_law_count"] (spThrows K ns)) : Dn P w K mg base (k + 1) "_law_down" ["_law_tape_here"] (spDown K ns) := by
  refine F.ok sc_law_down (fun vs H Q E h => ?_) (fun f cdv A outer s H vs Q E hr h => ?_)
  · obtain ⟨t, sc, rfl, _⟩ := h; rfl
  obtain ⟨t, sc, rfl, T, q⟩ := h
  refine ⟨_, [some _, none, none, none, none], 
      (@pss_cons _ _ _ _ _ (@ps_set _ _ 1 _ _ _ _ sc_law_down.nd rfl (Or.inl rfl) (@pe_ix _ _ _ _ _ _ _ ix_list (@pe_lst _ _ _ _ (@pa_u _ _ _ _ _ (@pe_op _ _ _ _ _ _ _ _ op_add (@pe_int _ _ _ _) (@pe_callD _ _ _ _ _ _ _ _ _ _ d_law_draw hr rfl (@pa_u _ _ _ _ _ (@pv _ 0 _ _ (by rfl) (by first | exact Or.inl rfl | exact Or.inr (Or.inl rfl) | exact Or.inr (Or.inr rfl)) (by decide) (by decide)) (@pa_u _ _ _ _ _ (@pe_int _ _ _ _) (@pa_nil _) (by rfl)) (by rfl)) (by rfl) (by decide))) (@pa_u _ _ _ _ _ (@pe_op _ _ _ _ _ _ _ _ op_add (@pe_int _ _ _ _) (@pe_callD _ _ _ _ _ _ _ _ _ _ d_law_draw hr rfl (@pa_u _ _ _ _ _ (@pv _ 0 _ _ (by rfl) (by first | exact Or.inl rfl | exact Or.inr (Or.inl rfl) | exact Or.inr (Or.inr rfl)) (by decide) (by decide)) (@pa_u _ _ _ _ _ (@pe_int _ _ _ _) (@pa_nil _) (by rfl)) (by rfl)) (by rfl) (by decide))) (@pa_nil _) (by rfl)) (by rfl))) (@pe_op _ _ _ _ _ _ _ _ op_fdiv (@pe_callD _ _ _ _ _ _ _ _ _ _ d_law_draw hr rfl (@pa_u _ _ _ _ _ (@pv _ 0 _ _ (by rfl) (by first | exact Or.inl rfl | exact Or.inr (Or.inl rfl) | exact Or.inr (Or.inr rfl)) (by decide) (by decide)) (@pa_u _ _ _ _ _ (@pe_int _ _ _ _) (@pa_nil _) (by rfl)) (by rfl)) (by rfl) (by decide)) (@pe_int _ _ _ _)) (fun _ _ => rfl)) (by rfl) (by first | exact .inl rfl | exact .inr rfl | assumption)) 
      (@pss_cons _ _ _ _ _ (@ps_set _ _ 2 _ _ _ _ sc_law_down.nd rfl (Or.inl rfl) (@pe_lst _ _ _ _ (@pa_u _ _ _ _ _ (@pe_op _ _ _ _ _ _ _ _ op_add (@pe_int _ _ _ _) (@pe_callD _ _ _ _ _ _ _ _ _ _ d_law_draw hr rfl (@pa_u _ _ _ _ _ (@pv _ 0 _ _ (by rfl) (by first | exact Or.inl rfl | exact Or.inr (Or.inl rfl) | exact Or.inr (Or.inr rfl)) (by decide) (by decide)) (@pa_u _ _ _ _ _ (@pe_int _ _ _ _) (@pa_nil _) (by rfl)) (by rfl)) (by rfl) (by decide))) (@pa_u _ _ _ _ _ (@pe_op _ _ _ _ _ _ _ _ op_add (@pe_int _ _ _ _) (@pe_callD _ _ _ _ _ _ _ _ _ _ d_law_draw hr rfl (@pa_u _ _ _ _ _ (@pv _ 0 _ _ (by rfl) (by first | exact Or.inl rfl | exact Or.inr (Or.inl rfl) | exact Or.inr (Or.inr rfl)) (by decide) (by decide)) (@pa_u _ _ _ _ _ (@pe_int _ _ _ _) (@pa_nil _) (by rfl)) (by rfl)) (by rfl) (by decide))) (@pa_u _ _ _ _ _ (@pe_op _ _ _ _ _ _ _ _ op_add (@pe_int _ _ _ _) (@pe_callD _ _ _ _ _ _ _ _ _ _ d_law_great hr rfl (@pa_u _ _ _ _ _ (@pv _ 0 _ _ (by rfl) (by first | exact Or.inl rfl | exact Or.inr (Or.inl rfl) | exact Or.inr (Or.inr rfl)) (by decide) (by decide)) (@pa_nil _) (by rfl)) (by rfl) (by decide))) (@pa_nil _) (by rfl)) (by rfl)) (by rfl))) (by rfl) (by first | exact .inl rfl | exact .inr rfl | assumption)) 
      (@pss_cons _ _ _ _ _ (@ps_set _ _ 3 _ _ _ _ sc_law_down.nd rfl (Or.inl rfl) (@pe_ix _ _ _ _ _ _ _ ix_list (@pv _ 2 _ _ (by rfl) (by first | exact Or.inl rfl | exact Or.inr (Or.inl rfl) | exact Or.inr (Or.inr rfl)) (by decide) (by decide)) (@pe_callD _ _ _ _ _ _ _ _ _ _ d_law_draw hr rfl (@pa_u _ _ _ _ _ (@pv _ 0 _ _ (by rfl) (by first | exact Or.inl rfl | exact Or.inr (Or.inl rfl) | exact Or.inr (Or.inr rfl)) (by decide) (by decide)) (@pa_u _ _ _ _ _ (@pe_int _ _ _ _) (@pa_nil _) (by rfl)) (by rfl)) (by rfl) (by decide)) (fun _ _ => rfl)) (by rfl) (by first | exact .inl rfl | exact .inr rfl | assumption)) 
      (@pss_cons _ _ _ _ _ (@ps_set _ _ 4 _ _ _ _ sc_law_down.nd rfl (Or.inl rfl) (@pe_callD _ _ _ _ _ _ _ _ _ _ d_law_throws hr rfl (@pa_u _ _ _ _ _ (@pv _ 0 _ _ (by rfl) (by first | exact Or.inl rfl | exact Or.inr (Or.inl rfl) | exact Or.inr (Or.inr rfl)) (by decide) (by decide)) (@pa_u _ _ _ _ _ (@pe_callD _ _ _ _ _ _ _ _ _ _ d_law_names hr rfl (@pa_u _ _ _ _ _ (@pv _ 0 _ _ (by rfl) (by first | exact Or.inl rfl | exact Or.inr (Or.inl rfl) | exact Or.inr (Or.inr rfl)) (by decide) (by decide)) (@pa_u _ _ _ _ _ (@pv _ 1 _ _ (by rfl) (by first | exact Or.inl rfl | exact Or.inr (Or.inl rfl) | exact Or.inr (Or.inr rfl)) (by decide) (by decide)) (@pa_nil _) (by rfl)) (by rfl)) (by rfl) (by decide)) (@pa_u _ _ _ _ _ (@pv _ 3 _ _ (by rfl) (by first | exact Or.inl rfl | exact Or.inr (Or.inl rfl) | exact Or.inr (Or.inr rfl)) (by decide) (by decide)) (@pa_nil _) (by rfl)) (by rfl)) (by rfl)) (by rfl) (by decide)) (by rfl) (by first | exact .inl rfl | exact .inr rfl | assumption)) (@pss_one _ _ _ (@ps_ret _ _ _ _ (@pe_tup _ _ _ _ _ (@pa_u _ _ _ _ _ (@pe_op _ _ _ _ _ _ _ _ op_add (@pe_int _ _ _ _) (@pe_callD _ _ _ _ _ _ _ _ _ _ d_law_draw hr rfl (@pa_u _ _ _ _ _ (@pv _ 0 _ _ (by rfl) (by first | exact Or.inl rfl | exact Or.inr (Or.inl rfl) | exact Or.inr (Or.inr rfl)) (by decide) (by decide)) (@pa_u _ _ _ _ _ (@pe_int _ _ _ _) (@pa_nil _) (by rfl)) (by rfl)) (by rfl) (by decide))) (@pa_u _ _ _ _ _ (@pv _ 3 _ _ (by rfl) (by first | exact Or.inl rfl | exact Or.inr (Or.inl rfl) | exact Or.inr (Or.inr rfl)) (by decide) (by decide)) (@pa_u _ _ _ _ _ (@pe_op _ _ _ _ _ _ _ _ op_add (@pe_int _ _ _ _) (@pe_callD _ _ _ _ _ _ _ _ _ _ d_law_draw hr rfl (@pa_u _ _ _ _ _ (@pv _ 0 _ _ (by rfl) (by first | exact Or.inl rfl | exact Or.inr (Or.inl rfl) | exact Or.inr (Or.inr rfl)) (by decide) (by decide)) (@pa_u _ _ _ _ _ (@pe_int _ _ _ _) (@pa_nil _) (by rfl)) (by rfl)) (by rfl) (by decide))) (@pa_u _ _ _ _ _ (@pv _ 4 _ _ (by rfl) (by first | exact Or.inl rfl | exact Or.inr (Or.inl rfl) | exact Or.inr (Or.inr rfl)) (by decide) (by decide)) (@pa_nil _) (by rfl)) (by rfl)) (by rfl)) (by rfl))))))))), rfl, ?_⟩
  walk_at "cl"
  walk_at "st"
  refine drawS_of T fun r1 H1 r10 r11 c1 => ?_
  walk_at "rd"
  refine drawS_of c1.tape fun r2 H2 r20 r21 c2 => ?_
  walk_at "rd"
  have C2 := c1.then c2
  refine ⟨small6 (by simp), fun p1 hp1 => drawS_of (C2.tape.same (same_new hp1 _)) fun r3 H3 r30 r31 c3 => ?_⟩
  have s3 : SqL K H3 p1 [V.int (1 + r1), V.int (1 + r2)] := c3.ext.sqL (C2.tape.ne hp1) (.of upd_same)
  have C3 : CurS K ns t sc H H3 := (C2.new hp1).then c3
  walk_at "rd"
  obtain ⟨v3, hv3, m3⟩ := atMem (xs := [V.int (1 + r1), V.int (1 + r2)]) (i := r3 / 7) (by omega) (by simp; omega)
  obtain ⟨mn, rfl, mn0, mn1⟩ : ∃ k : Nat, v3 = .int k ∧ 1 ≤ k ∧ k ≤ 30 := by
    simp at m3
    rcases m3 with rfl | rfl
    · exact ⟨(1 + r1).toNat, by rw [Int.toNat_of_nonneg (by omega)], by omega, by omega⟩
    · exact ⟨(1 + r2).toNat, by rw [Int.toNat_of_nonneg (by omega)], by omega, by omega⟩
  refine ⟨⟨by decide, by decide⟩, _, s3, _, hv3, ?_⟩
  walk_at "st"
  refine drawS_of C3.tape fun r4 H4 r40 r41 c4 => ?_
  walk_at "rd"
  refine drawS_of c4.tape fun r5 H5 r50 r51 c5 => ?_
  walk_at "rd"
  refine ⟨t, sc, rfl, c5.tape, fun r6 H6 r60 r61 c6 => ?_⟩
  walk_at "rd"
  refine ⟨small6 (by simp), fun p2 hp2 => ?_⟩
  have C6 := ((C3.then c4).then c5).then c6
  have C7 : CurS K ns t sc H (upd H6 p2 (.lst [V.int (1 + r4), V.int (1 + r5), V.int (1 + r6)])) := C6.new hp2
  have h7 : (upd H6 p2 (.lst [V.int (1 + r4), V.int (1 + r5), V.int (1 + r6)])) p2 = some (.lst [V.int (1 + r4), V.int (1 + r5), V.int (1 + r6)]) := upd_same
  have n7 : p2 ≠ t := c6.tape.ne hp2
  generalize upd H6 p2 (.lst [V.int (1 + r4), V.int (1 + r5), V.int (1 + r6)]) = H7 at C7 h7 ⊢
  walk_at "st"
  refine drawS_of C7.tape fun r8 H8 r80 r81 c8 => ?_
  have s8 : SqL K H8 p2 [V.int (1 + r4), V.int (1 + r5), V.int (1 + r6)] := c8.ext.sqL n7 (.of h7)
  walk_at "rd"
  obtain ⟨v8, hv8, m8⟩ := atMem (xs := [V.int (1 + r4), V.int (1 + r5), V.int (1 + r6)]) (i := r8) (by omega) (by simp; omega)
  obtain ⟨bg, rfl, bg0, bg1⟩ : ∃ k : Int, v8 = .int k ∧ 1 ≤ k ∧ k ≤ 1000000 := by
    simp at m8
    rcases m8 with rfl | rfl | rfl <;> exact ⟨_, rfl, by omega, by omega⟩
  have C8 := C7.then c8
  refine ⟨_, s8, _, hv8, ?_⟩
  walk_at "st"
  refine ⟨t, sc, mn, rfl, mn0, mn1, C8.tape, fun na ws H9 c9 hna0 hna hwl hnd hws => ?_⟩
  walk_at "rd"
  refine ⟨t, sc, na, ws, bg, rfl, c9.tape, C8.tape.ne hna0, hna, by omega, by omega, fun u hu => (hws u hu).1, bg0, bg1, fun ta vs ths H10 c10 hta htl hnm hbd => ?_⟩
  have C10 := (C8.then c9).then c10
  walk_at "rd"
  refine drawS_of C10.tape fun r11' H11 r110 r111 c11 => ?_
  walk_at "rd"
  refine drawS_of c11.tape fun r12 H12 r120 r121 c12 => ?_
  have c1012 := c11.then c12
  walk_at "rd"
  refine ⟨small6 (by simp), fun p3 hp3 => ?_⟩
  have s13 := same_new hp3 (.tup [V.int (1 + r11'), V.int bg, V.int (1 + r12), V.ref ta])
  have hlen : ths.length = ws.length := by rw [← hnm, List.length_map]
  have e1 : (1 : Int) + r11' = ((1 + r11'.toNat : Nat) : Int) := by omega
  rw [e1] at s13 ⊢
  refine q p3 (1 + r11'.toNat) bg (1 + r12) ths _ ((C10.then c1012).same s13) ⟨ta, vs, .of upd_same, Same.sqT (c1012.ext.tk _ _ hta) s13, (htl.tk c1012.ext.tk).same s13⟩ (by omega) (by omega) bg0 bg1 (by omega) (by omega) (by omega) (by omega) (by rw [hnm]; exact hnd) fun x hx => ?_
  have hxm : x.nm ∈ ws := by rw [← hnm]; exact List.mem_map_of_mem hx
  exact ⟨(hws _ hxm).1, (hws _ hxm).2, hbd x hx⟩
end
end My
namespace My
open PySem L2 M
section
variable (K : PySem.W.Frag) (ns : List Int)
def spLane : Sp := fun vs H Q _ => ∃ t sc, vs = [.ref t] ∧ TapeS K ns t sc H ∧ ∀ (la : Addr) (s : Nat) (p f : Int) H', 1 ≤ s → s ≤ 3 → 1 ≤ p → p ≤ 20 → 1 ≤ f → f ≤ 12 → CurS K ns t sc H H' → SqT K H' la [.int s, .int p, .int f] → Q (.ref la) H'
end
section
variable {P : Program} {w : World} {K : PySem.W.Frag} {mg : Str → Option Value} {base : Heap} {ns : List Int} {k : Nat}
theorem ok_law_lane (F : Df K mg "_law_lane" s_law_lane ["_law_tape_here"]) (d_law_draw : Dn P w K mg base k "_law_draw" ["_law_tape_here", "_law_many"] (spDrawS K ns)) : Dn P w K mg base (k + 1) "_law_lane" ["_law_tape_here"] (spLane K ns) := by
  refine F.ok sc_law_lane (fun vs H Q E h => ?_) (fun f cdv A outer s H vs Q E hr h => ?_)
  · obtain ⟨t, sc, rfl, _⟩ := h; rfl
  obtain ⟨t, sc, rfl, T, q⟩ := h
  refine ⟨_, [some _, none, none], 
      (@pss_cons _ _ _ _ _ (@ps_set _ _ 1 _ _ _ _ sc_law_lane.nd rfl (Or.inl rfl) (@pe_ix _ _ _ _ _ _ _ ix_list (@pe_lst _ _ _ _ (@pa_u _ _ _ _ _ (@pe_op _ _ _ _ _ _ _ _ op_add (@pe_int _ _ _ _) (@pe_callD _ _ _ _ _ _ _ _ _ _ d_law_draw hr rfl (@pa_u _ _ _ _ _ (@pv _ 0 _ _ (by rfl) (by first | exact Or.inl rfl | exact Or.inr (Or.inl rfl) | exact Or.inr (Or.inr rfl)) (by decide) (by decide)) (@pa_u _ _ _ _ _ (@pe_int _ _ _ _) (@pa_nil _) (by rfl)) (by rfl)) (by rfl) (by decide))) (@pa_u _ _ _ _ _ (@pe_int _ _ _ _) (@pa_u _ _ _ _ _ (@pe_op _ _ _ _ _ _ _ _ op_add (@pe_int _ _ _ _) (@pe_callD _ _ _ _ _ _ _ _ _ _ d_law_draw hr rfl (@pa_u _ _ _ _ _ (@pv _ 0 _ _ (by rfl) (by first | exact Or.inl rfl | exact Or.inr (Or.inl rfl) | exact Or.inr (Or.inr rfl)) (by decide) (by decide)) (@pa_u _ _ _ _ _ (@pe_int _ _ _ _) (@pa_nil _) (by rfl)) (by rfl)) (by rfl) (by decide))) (@pa_nil _) (by rfl)) (by rfl)) (by rfl))) (@pe_callD _ _ _ _ _ _ _ _ _ _ d_law_draw hr rfl (@pa_u _ _ _ _ _ (@pv _ 0 _ _ (by rfl) (by first | exact Or.inl rfl | exact Or.inr (Or.inl rfl) | exact Or.inr (Or.inr rfl)) (by decide) (by decide)) (@pa_u _ _ _ _ _ (@pe_int _ _ _ _) (@pa_nil _) (by rfl)) (by rfl)) (by rfl) (by decide)) (fun _ _ => rfl)) (by rfl) (by first | exact .inl rfl | exact .inr rfl | assumption)) 
      (@pss_cons _ _ _ _ _ (@ps_set _ _ 2 _ _ _ _ sc_law_lane.nd rfl (Or.inl rfl) (@pe_ix _ _ _ _ _ _ _ ix_list (@pe_lst _ _ _ _ (@pa_u _ _ _ _ _ (@pe_op _ _ _ _ _ _ _ _ op_add (@pe_int _ _ _ _) (@pe_callD _ _ _ _ _ _ _ _ _ _ d_law_draw hr rfl (@pa_u _ _ _ _ _ (@pv _ 0 _ _ (by rfl) (by first | exact Or.inl rfl | exact Or.inr (Or.inl rfl) | exact Or.inr (Or.inr rfl)) (by decide) (by decide)) (@pa_u _ _ _ _ _ (@pe_int _ _ _ _) (@pa_nil _) (by rfl)) (by rfl)) (by rfl) (by decide))) (@pa_u _ _ _ _ _ (@pe_op _ _ _ _ _ _ _ _ op_add (@pe_int _ _ _ _) (@pe_callD _ _ _ _ _ _ _ _ _ _ d_law_draw hr rfl (@pa_u _ _ _ _ _ (@pv _ 0 _ _ (by rfl) (by first | exact Or.inl rfl | exact Or.inr (Or.inl rfl) | exact Or.inr (Or.inr rfl)) (by decide) (by decide)) (@pa_u _ _ _ _ _ (@pe_int _ _ _ _) (@pa_nil _) (by rfl)) (by rfl)) (by rfl) (by decide))) (@pa_nil _) (by rfl)) (by rfl))) (@pe_callD _ _ _ _ _ _ _ _ _ _ d_law_draw hr rfl (@pa_u _ _ _ _ _ (@pv _ 0 _ _ (by rfl) (by first | exact Or.inl rfl | exact Or.inr (Or.inl rfl) | exact Or.inr (Or.inr rfl)) (by decide) (by decide)) (@pa_u _ _ _ _ _ (@pe_int _ _ _ _) (@pa_nil _) (by rfl)) (by rfl)) (by rfl) (by decide)) (fun _ _ => rfl)) (by rfl) (by first | exact .inl rfl | exact .inr rfl | assumption)) (@pss_one _ _ _ (@ps_ret _ _ _ _ (@pe_tup _ _ _ _ _ (@pa_u _ _ _ _ _ (@pe_op _ _ _ _ _ _ _ _ op_add (@pe_int _ _ _ _) (@pe_callD _ _ _ _ _ _ _ _ _ _ d_law_draw hr rfl (@pa_u _ _ _ _ _ (@pv _ 0 _ _ (by rfl) (by first | exact Or.inl rfl | exact Or.inr (Or.inl rfl) | exact Or.inr (Or.inr rfl)) (by decide) (by decide)) (@pa_u _ _ _ _ _ (@pe_int _ _ _ _) (@pa_nil _) (by rfl)) (by rfl)) (by rfl) (by decide))) (@pa_u _ _ _ _ _ (@pv _ 1 _ _ (by rfl) (by first | exact Or.inl rfl | exact Or.inr (Or.inl rfl) | exact Or.inr (Or.inr rfl)) (by decide) (by decide)) (@pa_u _ _ _ _ _ (@pv _ 2 _ _ (by rfl) (by first | exact Or.inl rfl | exact Or.inr (Or.inl rfl) | exact Or.inr (Or.inr rfl)) (by decide) (by decide)) (@pa_nil _) (by rfl)) (by rfl)) (by rfl))))))), rfl, ?_⟩
  walk_at "cl"
  walk_at "st"
  refine drawS_of T fun r1 H1 r10 r11 c1 => ?_
  walk_at "rd"
  refine drawS_of c1.tape fun r2 H2 r20 r21 c2 => ?_
  walk_at "rd"
  have C2 := c1.then c2
  refine ⟨small6 (by simp), fun p1 hp1 => drawS_of (C2.tape.same (same_new hp1 _)) fun r3 H3 r30 r31 c3 => ?_⟩
  have s3 : SqL K H3 p1 [V.int (1 + r1), V.int 10, V.int (1 + r2)] := c3.ext.sqL (C2.tape.ne hp1) (.of upd_same)
  have C3 : CurS K ns t sc H H3 := (C2.new hp1).then c3
  walk_at "rd"
  obtain ⟨v3, hv3, m3⟩ := atMem (xs := [V.int (1 + r1), V.int 10, V.int (1 + r2)]) (i := r3) (by omega) (by simp; omega)
  obtain ⟨pn, rfl, pn0, pn1⟩ : ∃ k : Int, v3 = .int k ∧ 1 ≤ k ∧ k ≤ 20 := by
    simp at m3
    rcases m3 with rfl | rfl | rfl
    · exact ⟨_, rfl, by omega, by omega⟩
    · exact ⟨_, rfl, by decide, by decide⟩
    · exact ⟨_, rfl, by omega, by omega⟩
  refine ⟨_, s3, _, hv3, ?_⟩
  walk_at "st"
  refine drawS_of C3.tape fun r4 H4 r40 r41 c4 => ?_
  walk_at "rd"
  refine drawS_of c4.tape fun r5 H5 r50 r51 c5 => ?_
  walk_at "rd"
  have C5 := (C3.then c4).then c5
  refine ⟨small6 (by simp), fun p2 hp2 => drawS_of (C5.tape.same (same_new hp2 _)) fun r6 H6 r60 r61 c6 => ?_⟩
  have s6 : SqL K H6 p2 [V.int (1 + r4), V.int (1 + r5)] := c6.ext.sqL (C5.tape.ne hp2) (.of upd_same)
  have C6 : CurS K ns t sc H H6 := (C5.new hp2).then c6
  walk_at "rd"
  obtain ⟨v6, hv6, m6⟩ := atMem (xs := [V.int (1 + r4), V.int (1 + r5)]) (i := r6) (by omega) (by simp; omega)
  obtain ⟨fr, rfl, fr0, fr1⟩ : ∃ k : Int, v6 = .int k ∧ 1 ≤ k ∧ k ≤ 12 := by
    simp at m6
    rcases m6 with rfl | rfl
    · exact ⟨_, rfl, by omega, by omega⟩
    · exact ⟨_, rfl, by omega, by omega⟩
  refine ⟨_, s6, _, hv6, ?_⟩
  walk_at "rd"
  refine drawS_of C6.tape fun r7 H7 r70 r71 c7 => ?_
  walk_at "rd"
  have C7 := C6.then c7
  refine ⟨small6 (by simp), fun p3 hp3 => ?_⟩
  have e : (1 : Int) + r7 = ((1 + r7.toNat : Nat) : Int) := by omega
  rw [e]
  exact q p3 (1 + r7.toNat) pn fr _ (by omega) (by omega) pn0 pn1 fr0 fr1 (C7.new hp3) (.of upd_same)
end
end My
namespace My
open PySem L2 M
def thgs (dk : PyData) : List PyData := [.none, .bool true, .bool false, .int (-1), .int 0, .int 1, .int (10 ^ Int.toNat 40), .str "", .str "down", .str "Point", .tuple [.str "point"], .list [], .tuple [], .tuple [dk], .list [dk, .int 1]] ++ [.tuple [dk, .int 1], .tuple [.tuple [dk], .list [dk]], .tuple [.int 1, .int 1, .int 1], .list [.int 1, .int 10, .int 10], .tuple [.str "lane", .int 1], .int 7, .tuple [.int 1, .int 10, .int 10, .str "x"]] ++ [.tuple [.str "rally", dk], .str "12"]
section
variable (K : PySem.W.Frag) (ns : List Int)
def spThing : Sp := fun vs H Q _ => ∃ t sc dk v, vs = [.ref t, v] ∧ TapeS K ns t sc H ∧ Dt K t H dk v ∧ ∀ d v' H', CurS K ns t sc H H' → Dt K t H' d v' → d ∈ thgs dk → Q v' H'
end
section
variable {P : Program} {w : World} {K : PySem.W.Frag} {mg : Str → Option Value} {base : Heap} {ns : List Int} {k : Nat}
theorem dtl_app {t : Addr} {H : Hp} : ∀ {ds : List PyData} {vs : List V} {es : List PyData} {us : List V}, DtL K t H ds vs → DtL K t H es us → DtL K t H (ds ++ es) (vs ++ us)
  | [], vs, _, _, h, q => by
    simp only [DtL] at h
    subst h
    exact q
  | d :: ds, vs, _, _, h, q => by
    simp only [DtL] at h
    obtain ⟨v, r, rfl, h1, h2⟩ := h
    exact .cons h1 (dtl_app h2 q)
theorem ok_law_thing (F : Df K mg "_law_thing" s_law_thing ["_law_tape_here", "_law_kept"]) (d_law_draw : Dn P w K mg base k "_law_draw" ["_law_tape_here", "_law_many"] (spDrawS K ns)) : Dn P w K mg base (k + 1) "_law_thing" ["_law_tape_here", "_law_kept"] (spThing K ns) := by
  refine F.ok sc_law_thing (fun vs H Q E h => ?_) (fun f cdv A outer s H vs Q E hr h => ?_)
  · obtain ⟨t, sc, dk, v, rfl, _⟩ := h; rfl
  obtain ⟨t, sc, dk, v, rfl, T, hk, q⟩ := h
  refine ⟨_, [some _, some _, none], 
      (@pss_cons _ _ _ _ _ (@ps_set _ _ 2 _ _ _ _ sc_law_thing.nd rfl (Or.inl rfl) (@pe_lst _ _ _ _ (@pa_u _ _ _ _ _ (@pe_non _ _ _) (@pa_u _ _ _ _ _ (@pe_bl _ _ _ _) (@pa_u _ _ _ _ _ (@pe_bl _ _ _ _) (@pa_u _ _ _ _ _ (@pe_un _ _ _ _ _ _ un_neg (@pe_int _ _ _ _)) (@pa_u _ _ _ _ _ (@pe_int _ _ _ _) (@pa_u _ _ _ _ _ (@pe_int _ _ _ _) (@pa_u _ _ _ _ _ (@pe_op _ _ _ _ _ _ _ _ op_pow (@pe_int _ _ _ _) (@pe_int _ _ _ _)) (@pa_u _ _ _ _ _ (@pe_str _ _ _ _) (@pa_u _ _ _ _ _ (@pe_str _ _ _ _) (@pa_u _ _ _ _ _ (@pe_str _ _ _ _) (@pa_u _ _ _ _ _ (@pe_tup _ _ _ _ _ (@pa_u _ _ _ _ _ (@pe_str _ _ _ _) (@pa_nil _) (by rfl))) (@pa_u _ _ _ _ _ (@pe_lst _ _ _ _ (@pa_nil _)) (@pa_u _ _ _ _ _ (@pe_tup _ _ _ _ _ (@pa_nil _)) (@pa_u _ _ _ _ _ (@pe_tup _ _ _ _ _ (@pa_u _ _ _ _ _ (@pv _ 1 _ _ (by rfl) (by first | exact Or.inl rfl | exact Or.inr (Or.inl rfl) | exact Or.inr (Or.inr rfl)) (by decide) (by decide)) (@pa_nil _) (by rfl))) (@pa_u _ _ _ _ _ (@pe_lst _ _ _ _ (@pa_u _ _ _ _ _ (@pv _ 1 _ _ (by rfl) (by first | exact Or.inl rfl | exact Or.inr (Or.inl rfl) | exact Or.inr (Or.inr rfl)) (by decide) (by decide)) (@pa_u _ _ _ _ _ (@pe_int _ _ _ _) (@pa_nil _) (by rfl)) (by rfl))) (@pa_nil _) (by rfl)) (by rfl)) (by rfl)) (by rfl)) (by rfl)) (by rfl)) (by rfl)) (by rfl)) (by rfl)) (by rfl)) (by rfl)) (by rfl)) (by rfl)) (by rfl)) (by rfl))) (by rfl) (by first | exact .inl rfl | exact .inr rfl | assumption)) 
      (@pss_cons _ _ _ _ _ (@ps_set _ _ 2 _ _ _ _ sc_law_thing.nd rfl (Or.inl rfl) (@pe_op _ _ _ _ _ _ _ _ op_cat (@pv _ 2 _ _ (by rfl) (by first | exact Or.inl rfl | exact Or.inr (Or.inl rfl) | exact Or.inr (Or.inr rfl)) (by decide) (by decide)) (@pe_lst _ _ _ _ (@pa_u _ _ _ _ _ (@pe_tup _ _ _ _ _ (@pa_u _ _ _ _ _ (@pv _ 1 _ _ (by rfl) (by first | exact Or.inl rfl | exact Or.inr (Or.inl rfl) | exact Or.inr (Or.inr rfl)) (by decide) (by decide)) (@pa_u _ _ _ _ _ (@pe_int _ _ _ _) (@pa_nil _) (by rfl)) (by rfl))) (@pa_u _ _ _ _ _ (@pe_tup _ _ _ _ _ (@pa_u _ _ _ _ _ (@pe_tup _ _ _ _ _ (@pa_u _ _ _ _ _ (@pv _ 1 _ _ (by rfl) (by first | exact Or.inl rfl | exact Or.inr (Or.inl rfl) | exact Or.inr (Or.inr rfl)) (by decide) (by decide)) (@pa_nil _) (by rfl))) (@pa_u _ _ _ _ _ (@pe_lst _ _ _ _ (@pa_u _ _ _ _ _ (@pv _ 1 _ _ (by rfl) (by first | exact Or.inl rfl | exact Or.inr (Or.inl rfl) | exact Or.inr (Or.inr rfl)) (by decide) (by decide)) (@pa_nil _) (by rfl))) (@pa_nil _) (by rfl)) (by rfl))) (@pa_u _ _ _ _ _ (@pe_tup _ _ _ _ _ (@pa_u _ _ _ _ _ (@pe_int _ _ _ _) (@pa_u _ _ _ _ _ (@pe_int _ _ _ _) (@pa_u _ _ _ _ _ (@pe_int _ _ _ _) (@pa_nil _) (by rfl)) (by rfl)) (by rfl))) (@pa_u _ _ _ _ _ (@pe_lst _ _ _ _ (@pa_u _ _ _ _ _ (@pe_int _ _ _ _) (@pa_u _ _ _ _ _ (@pe_int _ _ _ _) (@pa_u _ _ _ _ _ (@pe_int _ _ _ _) (@pa_nil _) (by rfl)) (by rfl)) (by rfl))) (@pa_u _ _ _ _ _ (@pe_tup _ _ _ _ _ (@pa_u _ _ _ _ _ (@pe_str _ _ _ _) (@pa_u _ _ _ _ _ (@pe_int _ _ _ _) (@pa_nil _) (by rfl)) (by rfl))) (@pa_u _ _ _ _ _ (@pe_int _ _ _ _) (@pa_u _ _ _ _ _ (@pe_tup _ _ _ _ _ (@pa_u _ _ _ _ _ (@pe_int _ _ _ _) (@pa_u _ _ _ _ _ (@pe_int _ _ _ _) (@pa_u _ _ _ _ _ (@pe_int _ _ _ _) (@pa_u _ _ _ _ _ (@pe_str _ _ _ _) (@pa_nil _) (by rfl)) (by rfl)) (by rfl)) (by rfl))) (@pa_nil _) (by rfl)) (by rfl)) (by rfl)) (by rfl)) (by rfl)) (by rfl)) (by rfl)))) (by rfl) (by first | exact .inl rfl | exact .inr rfl | assumption)) 
      (@pss_cons _ _ _ _ _ (@ps_set _ _ 2 _ _ _ _ sc_law_thing.nd rfl (Or.inl rfl) (@pe_op _ _ _ _ _ _ _ _ op_cat (@pv _ 2 _ _ (by rfl) (by first | exact Or.inl rfl | exact Or.inr (Or.inl rfl) | exact Or.inr (Or.inr rfl)) (by decide) (by decide)) (@pe_lst _ _ _ _ (@pa_u _ _ _ _ _ (@pe_tup _ _ _ _ _ (@pa_u _ _ _ _ _ (@pe_str _ _ _ _) (@pa_u _ _ _ _ _ (@pv _ 1 _ _ (by rfl) (by first | exact Or.inl rfl | exact Or.inr (Or.inl rfl) | exact Or.inr (Or.inr rfl)) (by decide) (by decide)) (@pa_nil _) (by rfl)) (by rfl))) (@pa_u _ _ _ _ _ (@pe_str _ _ _ _) (@pa_nil _) (by rfl)) (by rfl)))) (by rfl) (by first | exact .inl rfl | exact .inr rfl | assumption)) (@pss_one _ _ _ (@ps_ret _ _ _ _ (@pe_ix _ _ _ _ _ _ _ ix_list (@pv _ 2 _ _ (by rfl) (by first | exact Or.inl rfl | exact Or.inr (Or.inl rfl) | exact Or.inr (Or.inr rfl)) (by decide) (by decide)) (@pe_callD _ _ _ _ _ _ _ _ _ _ d_law_draw hr rfl (@pa_u _ _ _ _ _ (@pv _ 0 _ _ (by rfl) (by first | exact Or.inl rfl | exact Or.inr (Or.inl rfl) | exact Or.inr (Or.inr rfl)) (by decide) (by decide)) (@pa_u _ _ _ _ _ (@pe_int _ _ _ _) (@pa_nil _) (by rfl)) (by rfl)) (by rfl) (by decide)) (fun _ _ => rfl))))))), rfl, ?_⟩
  walk_at "cl"
  have ht : H t ≠ none := fun z => T.ne z rfl
  rw [L2.r_seq, L2.r_asg]
  refine gl_lst (K := K) (t := t) (ds := [.none, .bool true, .bool false, .int (-1), .int 0, .int 1, .int (10 ^ Int.toNat 40), .str "", .str "down", .str "Point", .tuple [.str "point"], .list [], .tuple [], .tuple [dk], .list [dk, .int 1]]) ?_ (by simp) fun p1 vs1 H1 S1 hp1 hd1 => ?_
  · walk_at "gd"
  have s1 := same_new hp1 (.lst vs1)
  have l1 : (upd H1 p1 (.lst vs1)) p1 = some (.lst vs1) := upd_same
  have n1 : p1 ≠ t := (T.same S1).ne hp1
  replace hd1 := hd1.on s1.ext
  replace S1 := S1.trans s1
  generalize upd H1 p1 (.lst vs1) = H2 at S1 l1 hd1 ⊢
  have ht2 : H2 t ≠ none := fun z => (T.same S1).ne z rfl
  have hk2 : Dt K t H2 dk v := Same.dt hk S1
  have C2 : CurS K ns t sc H H2 := T.cur.same S1
  clear s1 hp1 S1 H1
  simp only [L2.r_name, List.set_cons_zero, List.set_cons_succ]
  rw [L2.r_seq, L2.r_asg, L2.r_op]
  simp only [L2.r_var, L2.r_varS]
  refine gl_lst (K := K) (t := t) (ds := [.tuple [dk, .int 1], .tuple [.tuple [dk], .list [dk]], .tuple [.int 1, .int 1, .int 1], .list [.int 1, .int 10, .int 10], .tuple [.str "lane", .int 1], .int 7, .tuple [.int 1, .int 10, .int 10, .str "x"]]) ?_ (by simp) fun p3 vs3 H3 S3 hp3 hd3 => ?_
  · walk_at "gd"
  have s3 := same_new hp3 (.lst vs3)
  have hlv1 : vs1.length = 15 := by rw [← hd1.len]; rfl
  have hlv3 : vs3.length = 7 := by rw [← hd3.len]; rfl
  refine cat_of (s3 _ _ (S3 _ _ l1)) upd_same (smallA (by omega)) fun p4 hp4 => ?_
  have s4 := same_new hp4 (.lst (vs1 ++ vs3))
  have l4 : (upd (upd H3 p3 (.lst vs3)) p4 (.lst (vs1 ++ vs3))) p4 = some (.lst (vs1 ++ vs3)) := upd_same
  have SS4 := (S3.trans s3).trans s4
  have hd4 := dtl_app (hd1.on SS4.ext) (hd3.on (s3.trans s4).ext)
  generalize upd (upd H3 p3 (.lst vs3)) p4 (.lst (vs1 ++ vs3)) = H4 at SS4 l4 hd4 ⊢
  have ht4 : H4 t ≠ none := fun z => (C2.same SS4).tape.ne z rfl
  have hk4 : Dt K t H4 dk v := Same.dt hk2 SS4
  have C4 := C2.same SS4
  clear hd3 s3 s4 S3 SS4 hp4 hp3 H3
  simp only [L2.r_name, List.set_cons_zero, List.set_cons_succ]
  rw [L2.r_seq, L2.r_asg, L2.r_op]
  simp only [L2.r_var, L2.r_varS]
  refine gl_lst (K := K) (t := t) (ds := [.tuple [.str "rally", dk], .str "12"]) ?_ (by simp) fun p5 vs5 H5 S5 hp5 hd5 => ?_
  · walk_at "gd"
  have s5 := same_new hp5 (.lst vs5)
  have hlv5 : vs5.length = 2 := by rw [← hd5.len]; rfl
  refine cat_of (s5 _ _ (S5 _ _ l4)) upd_same (smallA (by rw [List.length_append]; omega)) fun p6 hp6 => ?_
  have s6 := same_new hp6 (.lst (vs1 ++ vs3 ++ vs5))
  have l6 : (upd (upd H5 p5 (.lst vs5)) p6 (.lst (vs1 ++ vs3 ++ vs5))) p6 = some (.lst (vs1 ++ vs3 ++ vs5)) := upd_same
  have SS6 := (S5.trans s5).trans s6
  have n6 : p6 ≠ t := (C4.same (S5.trans s5)).tape.ne hp6
  have hd6 : DtL K t _ (thgs dk) (vs1 ++ vs3 ++ vs5) := dtl_app (hd4.on SS6.ext) (hd5.on (s5.trans s6).ext)
  generalize upd (upd H5 p5 (.lst vs5)) p6 (.lst (vs1 ++ vs3 ++ vs5)) = H6 at SS6 l6 hd6 ⊢
  have C6 := C4.same SS6
  walk_at "rd"
  refine drawS_of C6.tape fun r7 H7 r70 r71 c7 => ?_
  have l7 : SqL K H7 p6 (vs1 ++ vs3 ++ vs5) := c7.ext.sqL n6 (.of l6)
  obtain ⟨v7, e7, hv7, hm7, hd7⟩ := menu (i := r7) (hd6.on c7.ext) r70 (by show r7 < ((thgs dk).length : Int); rw [show (thgs dk).length = 24 from rfl]; omega)
  walk_at "rd"
  exact ⟨_, l7, _, hv7, q _ _ _ (C6.then c7) hd7 (List.mem_of_getElem? hm7)⟩
end
end My
namespace My
open PySem L2 M
def laneD : PyData → Bool
  | .tuple [a, b, c] => whl a 1 3 && whl b 1 20 && whl c 1 12
  | _ => false
section
variable (K : PySem.W.Frag)
def spIsLane : Sp := fun vs H Q _ => ∃ t d v, vs = [v] ∧ Dt K t H d v ∧ ∀ H', Same H H' → Q (.bl (laneD d)) H'
def spWhole : Sp := fun vs H Q _ => ∃ t d v lo hi, vs = [v, .int lo, .int hi] ∧ Dt K t H d v ∧ Q (.bl (whl d lo hi)) H
def spWholes : Sp := fun vs H Q _ => ∃ (t a b : Addr) (ds : List PyData) (xs : List V) (ms : List Int), vs = [.ref a, .ref b] ∧ SqT K H a xs ∧ DtL K t H ds xs ∧ SqT K H b (ms.map V.int) ∧ ds.length = ms.length ∧ ds.length ≤ 1000 ∧ ∀ H', Same H H' → Q (.bl ((List.range ds.length).all (whlAt ds ms))) H'
end
section
variable {P : Program} {w : World} {K : PySem.W.Frag} {mg : Str → Option Value} {base : Heap} {ns : List Int} {k : Nat}
theorem ok_is_whole (F : Df K mg "is_whole" s_is_whole ["thing", "least", "most"]) (m_isinstance : mg "isinstance" = none) (m_int : mg "int" = none) (m_bool : mg "bool" = none) : Dn P w K mg base (k + 1) "is_whole" ["thing", "least", "most"] (spWhole K) := by
  refine F.ok sc_is_whole (fun vs H Q E h => ?_) (fun f cdv A outer s H vs Q E hr h => ?_)
  · obtain ⟨t, d, v, lo, hi, rfl, _⟩ := h; rfl
  obtain ⟨t, d, v, lo, hi, rfl, hd, q⟩ := h
  refine ⟨_, [some _, some _, some _], (@pss_one _ _ _ (@ps_ret _ _ _ _ (@pe_and _ _ _ _ _ _ _ (@pe_callBu _ _ _ _ _ _ _ _ _ call_isi rfl m_isinstance bt_isinstance (@pa_u _ _ _ _ _ (@pv _ 0 _ _ (by rfl) (by first | exact Or.inl rfl | exact Or.inr (Or.inl rfl) | exact Or.inr (Or.inr rfl)) (by decide) (by decide)) (@pa_u _ _ _ _ _ (@pe_bltn _ _ (.ty "int") _ _ rfl m_int bt_int rfl (by decide) (by decide)) (@pa_nil _) (by rfl)) (by rfl)) (by rfl) (by decide) (by decide)) (@pe_and _ _ _ _ _ _ _ (@pe_not _ _ _ _ (@pe_callBu _ _ _ _ _ _ _ _ _ call_isi rfl m_isinstance bt_isinstance (@pa_u _ _ _ _ _ (@pv _ 0 _ _ (by rfl) (by first | exact Or.inl rfl | exact Or.inr (Or.inl rfl) | exact Or.inr (Or.inr rfl)) (by decide) (by decide)) (@pa_u _ _ _ _ _ (@pe_bltn _ _ (.ty "bool") _ _ rfl m_bool bt_bool rfl (by decide) (by decide)) (@pa_nil _) (by rfl)) (by rfl)) (by rfl) (by decide) (by decide))) (@pe_one _ _ _ _ _ (@pe_chain _ _ _ _ _ _ _ _ _ _ _ _ op_le op_le (@pv _ 1 _ _ (by rfl) (by first | exact Or.inl rfl | exact Or.inr (Or.inl rfl) | exact Or.inr (Or.inr rfl)) (by decide) (by decide)) (@pv _ 0 _ _ (by rfl) (by first | exact Or.inl rfl | exact Or.inr (Or.inl rfl) | exact Or.inr (Or.inr rfl)) (by decide) (by decide)) (@pv _ 2 _ _ (by rfl) (by first | exact Or.inl rfl | exact Or.inr (Or.inl rfl) | exact Or.inr (Or.inr rfl)) (by decide) (by decide)) (by with_unfolding_all rfl))))))), rfl, ?_⟩
  walk_at "cl"
  walk_at "rd"
  refine isi_of hd ⟨_, rfl, ?_⟩
  cases d with
  | int i =>
    simp only [Dt] at hd
    subst hd
    walk_at "T"
    refine isi_of (t := t) (d := .int i) (.int i) ?_
    walk_at "rd"
    walk_at "T"
    simp only [whl] at q
    refine ite2 (fun c => ?_) (fun c => ?_)
    · rw [decide_eq_true c, Bool.true_and] at q
      exact q
    · rw [decide_eq_false c, Bool.false_and] at q
      exact q
  | bool b =>
    walk_at "T"
    refine isi_of hd ?_
    walk_at "rd"
    walk_at "F"
    exact q
  | none => exact iteF q
  | str x => exact iteF q
  | list x => exact iteF q
  | tuple x => exact iteF q
  | dict x => exact iteF q
theorem ok_are_wholes (F : Df K mg "are_wholes" s_are_wholes ["things", "mosts"]) (m_zip : mg "zip" = none) (m_all : mg "all" = none) (d_is_whole : Dn P w K mg base k "is_whole" ["thing", "least", "most"] (spWhole K)) : Dn P w K mg base (k + 1) "are_wholes" ["things", "mosts"] (spWholes K) := by
  refine F.ok sc_are_wholes (fun vs H Q E h => ?_) (fun f cdv A outer s H vs Q E hr h => ?_)
  · obtain ⟨t, a, b, ds, xs, ms, rfl, _⟩ := h; rfl
  obtain ⟨t, a, b, ds, xs, ms, rfl, ha, hds, hb, hl, hl2, q⟩ := h
  refine ⟨_, [some _, some _], (@pss_one _ _ _ (@ps_ret _ _ _ _ (@pe_callBu _ _ _ _ _ _ _ _ _ (call_allB rfl) rfl m_all bt_all (@pa_u _ _ _ _ _ (@pe_comp2 _ _ _ _ _ _ _ _ _ _ _ _ _ _ _ _ _ rfl (compCap2 (N := ["things", "mosts"]) (N' := ["things", "mosts"]) (fr := []) (osc := defScope s_are_wholes) rfl rfl (by decide +kernel) rfl rfl (fun p hp => (nomatch hp))) (@pi_zip _ _ _ _ _ _ _ _ _ rfl m_zip (@pa_u _ _ _ _ _ (@pv _ 0 _ _ (by rfl) (by first | exact Or.inl rfl | exact Or.inr (Or.inl rfl) | exact Or.inr (Or.inr rfl)) (by decide) (by decide)) (@pa_u _ _ _ _ _ (@pv _ 1 _ _ (by rfl) (by first | exact Or.inl rfl | exact Or.inr (Or.inl rfl) | exact Or.inr (Or.inr rfl)) (by decide) (by decide)) (@pa_nil _) (by rfl)) (by rfl)) (by rfl) (by rfl)) (fun _ _ _ _ => (@pts_nil _)) (fun _ _ _ _ => (@pe_callD _ _ _ _ _ _ _ _ _ _ d_is_whole hr rfl (@pa_u _ _ _ _ _ (@pv _ 0 _ _ (by rfl) (by first | exact Or.inl rfl | exact Or.inr (Or.inl rfl) | exact Or.inr (Or.inr rfl)) (by decide) (by decide)) (@pa_u _ _ _ _ _ (@pe_int _ _ _ _) (@pa_u _ _ _ _ _ (@pv _ 1 _ _ (by rfl) (by first | exact Or.inl rfl | exact Or.inr (Or.inl rfl) | exact Or.inr (Or.inr rfl)) (by decide) (by decide)) (@pa_nil _) (by rfl)) (by rfl)) (by rfl)) (by rfl) (by decide))) (by intro _; rfl)) (@pa_nil _) (by rfl)) (by rfl) (by decide) (by decide)))), rfl, ?_⟩
  walk_at "cl"
  have hxl := hds.len
  walk_at "rd"
  refine comp_zip (K := K) (a := a) (b := b) (xs := xs) (ys := ms.map V.int) (fun _ => true) (fun i y _ => y = V.bl (whlAt ds ms i)) (fun R h => ?_) ha hb (by rw [List.length_map]; omega) (by omega) (fun _ _ _ _ _ h => h) (fun i x y H1 hx hy S1 Q' hq => hq _ (.refl _)) (fun i x y H1 hx hy _ S1 Q' hq => ?_) (fun D zs H1 S1 hD hD1 hall => ?_)
  · walk_at "rd"
    exact h
  · have hil : i < ds.length := by rw [hxl]; exact (List.getElem?_eq_some_iff.mp hx).1
    have hdi : ds[i]? = some ds[i] := List.getElem?_eq_getElem hil
    obtain ⟨v, hv, hvd⟩ := hds.get hdi
    rw [hx] at hv
    cases hv
    have hmi : ms[i]? = some ms[i] := List.getElem?_eq_getElem (by omega)
    rw [List.getElem?_map, hmi] at hy
    cases hy
    walk_at "rd"
    refine ⟨t, ds[i], x, 1, ms[i], rfl, Same.dt hvd S1, hq _ _ (.refl _) ?_⟩
    rw [whlAt_of hdi hmi]
  rw [List.filter_eq_self.mpr (by simp), ← hxl] at hall
  have e : zs = ((List.range ds.length).map (whlAt ds ms)).map V.bl := by
    rw [All2.eq hall, List.map_map]
    rfl
  refine ⟨D, _, rfl, .of (by rw [hD1, e]), ?_⟩
  have q' := q _ S1
  rw [show (List.map (whlAt ds ms) (List.range ds.length)).all id = (List.range ds.length).all (whlAt ds ms) by rw [List.all_map]; rfl]
  exact q'
theorem ok_is_lane {pM : Addr} (F : Df K mg "is_lane" s_is_lane ["thing"]) (m_isinstance : mg "isinstance" = none) (m_tuple : mg "tuple" = none) (m_len : mg "len" = none) (g_LANE_MOSTS : Gc mg "LANE_MOSTS" (.ref pM)) (tM : ∀ H : Hp, SqT K H pM [.int 3, .int 20, .int 12]) (d_are_wholes : Dn P w K mg base k "are_wholes" ["things", "mosts"] (spWholes K)) : Dn P w K mg base (k + 1) "is_lane" ["thing"] (spIsLane K) := by
  refine F.ok sc_is_lane (fun vs H Q E h => ?_) (fun f cdv A outer s H vs Q E hr h => ?_)
  · obtain ⟨t, d, v, rfl, _⟩ := h; rfl
  obtain ⟨t, d, v, rfl, hd, q⟩ := h
  refine ⟨_, [some _], (@pss_one _ _ _ (@ps_ret _ _ _ _ (@pe_and _ _ _ _ _ _ _ (@pe_callBu _ _ _ _ _ _ _ _ _ call_isi rfl m_isinstance bt_isinstance (@pa_u _ _ _ _ _ (@pv _ 0 _ _ (by rfl) (by first | exact Or.inl rfl | exact Or.inr (Or.inl rfl) | exact Or.inr (Or.inr rfl)) (by decide) (by decide)) (@pa_u _ _ _ _ _ (@pe_bltn _ _ (.ty "tuple") _ _ rfl m_tuple bt_tuple rfl (by decide) (by decide)) (@pa_nil _) (by rfl)) (by rfl)) (by rfl) (by decide) (by decide)) (@pe_and _ _ _ _ _ _ _ (@pe_cmpR _ _ _ _ _ _ _ _ op_eq (@pe_callBu _ _ _ _ _ _ _ _ _ call_lenS rfl m_len PySem.boot_len (@pa_u _ _ _ _ _ (@pv _ 0 _ _ (by rfl) (by first | exact Or.inl rfl | exact Or.inr (Or.inl rfl) | exact Or.inr (Or.inr rfl)) (by decide) (by decide)) (@pa_nil _) (by rfl)) (by rfl) (by decide) (by decide)) (@pe_int _ _ _ _) (nomark _)) (@pe_one _ _ _ _ _ (@pe_callD _ _ _ _ _ _ _ _ _ _ d_are_wholes hr rfl (@pa_u _ _ _ _ _ (@pv _ 0 _ _ (by rfl) (by first | exact Or.inl rfl | exact Or.inr (Or.inl rfl) | exact Or.inr (Or.inr rfl)) (by decide) (by decide)) (@pa_u _ _ _ _ _ (@pe_gc _ _ _ _ g_LANE_MOSTS rfl (by decide)) (@pa_nil _) (by rfl)) (by rfl)) (by rfl) (by decide))))))), rfl, ?_⟩
  walk_at "cl"
  walk_at "rd"
  refine isi_of hd ⟨_, rfl, ?_⟩
  cases d with
  | tuple ds =>
    obtain ⟨a, xs, rfl, hs, hx⟩ := Dt.tup_inv hd
    have hxl := hx.len
    walk_at "T"
    refine lenT_of hs ?_
    walk_at "rd"
    refine ite2 (fun c => ?_) (fun c => ?_)
    · have hl3 : ds.length = 3 := by omega
      refine ⟨t, a, pM, ds, xs, [3, 20, 12], rfl, hs, hx, tM _, hl3, by omega, fun H1 S1 => ?_⟩
      have q' := q _ S1
      match ds, hl3 with
      | [d1, d2, d3], _ =>
        rw [show (List.range [d1, d2, d3].length).all (whlAt [d1, d2, d3] [3, 20, 12]) = laneD (.tuple [d1, d2, d3]) by simp [laneD, whlAt, List.range_succ, Bool.and_assoc]]
        exact q'
    · have q' := q _ (.refl _)
      have : laneD (.tuple ds) = false := by
        match ds, c, hxl with
        | [], _, _ => rfl
        | [_], _, _ => rfl
        | [_, _], _, _ => rfl
        | [_, _, _], c, hxl => exact absurd (by rw [← hxl]; rfl) c
        | _ :: _ :: _ :: _ :: _, _, _ => rfl
      rw [this] at q'
      exact q'
  | none => exact iteF (q _ (.refl _))
  | bool b => exact iteF (q _ (.refl _))
  | int i => exact iteF (q _ (.refl _))
  | str x => exact iteF (q _ (.refl _))
  | list x => exact iteF (q _ (.refl _))
  | dict x => exact iteF (q _ (.refl _))
end
end My
namespace My
open PySem L2 M
def thsD (d : PyData) : Bool := match d with
  | .tuple ts => (decide (1 ≤ ts.length) && decide (ts.length ≤ 30)) && (ts.all thD && decide (nDist (ts.map nmOf) = ts.length))
  | _ => false
def downD (d : PyData) : Bool := match d with
  | .tuple [a, b, c, t] => whl a 1 3 && (whl b 1 1000000 && (whl c 1 3 && thsD t))
  | _ => false
section
variable (K : PySem.W.Frag)
def spB (f : PyData → Bool) : Sp := fun vs H Q _ => ∃ t d v, vs = [v] ∧ Dt K t H d v ∧ smD d = true ∧ ∀ H', Same H H' → Q (.bl (f d)) H'
end
section
variable {P : Program} {w : World} {K : PySem.W.Frag} {mg : Str → Option Value} {base : Heap} {ns : List Int} {k : Nat}
theorem sm_str {x : Str} (h : smD (.str x) = true) : asc x ∧ x.length ≤ 1000 ∧ x.cps.all (· < 128) = true := by
  simp only [smD, Bool.and_eq_true, List.all_eq_true, decide_eq_true_eq] at h
  refine ⟨h.1, h.2, ?_⟩
  rw [Array.all_eq_true']
  intro c hc
  simp only [decide_eq_true_eq]
  exact h.1 c (by simpa using hc)
theorem sm_tup {ds : List PyData} (h : smD (.tuple ds) = true) : ds.length ≤ 1000 ∧ ∀ d ∈ ds, smD d = true := by
  simp only [smD, Bool.and_eq_true, decide_eq_true_eq] at h
  exact ⟨h.1, smL_mem h.2⟩
theorem fst_at {x : Str} (h : 1 ≤ x.length) : ∃ c, atI x.cps.toList 0 = some c ∧ fst x.cps.toList = low c ∧ c ∈ x.cps.toList := by
  rw [len_toList] at h
  match hx : x.cps.toList, h with
  | c :: cs, _ => exact ⟨c, atI_nat (j := 0) rfl, rfl, List.mem_cons_self ..⟩
theorem ok_is_name (F : Df K mg "is_name" s_is_name ["thing"]) (m_isinstance : mg "isinstance" = none) (m_str : mg "str" = none) (m_len : mg "len" = none) (m_all : mg "all" = none) (g_MOST_SIGNS : Gc mg "MOST_SIGNS" (.int 8)) : Dn P w K mg base (k + 1) "is_name" ["thing"] (spB K nmD) := by
  refine F.ok sc_is_name (fun vs H Q E h => ?_) (fun f cdv A outer s H vs Q E hr h => ?_)
  · obtain ⟨t, d, v, rfl, _⟩ := h; rfl
  obtain ⟨t, d, v, rfl, hd, hk, q⟩ := h
  refine ⟨_, [some _], 
      (@pss_cons _ _ _ _ _ (@ps_if _ _ _ _ _ _ _ _ (@PW.pt _ _ _ (@pw_or _ _ _ _ _ _ _ (@pt_not _ _ _ _ (@pt_val _ _ _ (@pe_callBu _ _ _ _ _ _ _ _ _ call_isi rfl m_isinstance bt_isinstance (@pa_u _ _ _ _ _ (@pv _ 0 _ _ (by rfl) (by first | exact Or.inl rfl | exact Or.inr (Or.inl rfl) | exact Or.inr (Or.inr rfl)) (by decide) (by decide)) (@pa_u _ _ _ _ _ (@pe_bltn _ _ (.ty "str") _ _ rfl m_str bt_str rfl (by decide) (by decide)) (@pa_nil _) (by rfl)) (by rfl)) (by rfl) (by decide) (by decide)) (by intro _; rfl))) (@pw_or1 _ _ _ _ (@pt_not _ _ _ _ (@pt_chain _ _ _ _ _ _ _ _ _ _ _ _ op_le op_le (@pe_int _ _ _ _) (@pe_callBu _ _ _ _ _ _ _ _ _ call_len_str rfl m_len PySem.boot_len (@pa_u _ _ _ _ _ (@pv _ 0 _ _ (by rfl) (by first | exact Or.inl rfl | exact Or.inr (Or.inl rfl) | exact Or.inr (Or.inr rfl)) (by decide) (by decide)) (@pa_nil _) (by rfl)) (by rfl) (by decide) (by decide)) (@pe_gc _ _ _ _ g_MOST_SIGNS rfl (by decide)) (by with_unfolding_all rfl)))))) (@pss_one _ _ _ (@ps_ret _ _ _ _ (@pe_bl _ _ _ _))) (@pss_nil _)) 
      (@pss_cons _ _ _ _ _ (@ps_if _ _ _ _ _ _ _ _ (@pt_not _ _ _ _ (@pt_chain _ _ _ _ _ _ _ _ _ _ _ _ op_leS op_leS (@pe_str _ _ _ _) (@pe_ix _ _ _ _ _ _ _ ix_str (@pv _ 0 _ _ (by rfl) (by first | exact Or.inl rfl | exact Or.inr (Or.inl rfl) | exact Or.inr (Or.inr rfl)) (by decide) (by decide)) (@pe_int _ _ _ _) (fun _ _ => rfl)) (@pe_str _ _ _ _) (by with_unfolding_all rfl))) (@pss_one _ _ _ (@ps_ret _ _ _ _ (@pe_bl _ _ _ _))) (@pss_nil _)) (@pss_one _ _ _ (@ps_ret _ _ _ _ (@pe_callBu _ _ _ _ _ _ _ _ _ (call_allB rfl) rfl m_all bt_all (@pa_u _ _ _ _ _ (@pe_comp _ _ _ _ _ _ _ _ _ _ _ _ _ rfl (compPlain (N := ["thing"]) rfl (by decide +kernel) rfl) (@pi_str _ _ _ _ (@pv _ 0 _ _ (by rfl) (by first | exact Or.inl rfl | exact Or.inr (Or.inl rfl) | exact Or.inr (Or.inr rfl)) (by decide) (by decide))) (fun _ _ _ _ => (@pts_nil _)) (fun _ _ _ _ => (@pe_or _ _ _ _ _ _ _ (@pe_chain _ _ _ _ _ _ _ _ _ _ _ _ op_leS op_leS (@pe_str _ _ _ _) (@pv _ 0 _ _ (by rfl) (by first | exact Or.inl rfl | exact Or.inr (Or.inl rfl) | exact Or.inr (Or.inr rfl)) (by decide) (by decide)) (@pe_str _ _ _ _) (by with_unfolding_all rfl)) (@pe_one _ _ _ _ _ (@pe_chain _ _ _ _ _ _ _ _ _ _ _ _ op_leS op_leS (@pe_str _ _ _ _) (@pv _ 0 _ _ (by rfl) (by first | exact Or.inl rfl | exact Or.inr (Or.inl rfl) | exact Or.inr (Or.inr rfl)) (by decide) (by decide)) (@pe_str _ _ _ _) (by with_unfolding_all rfl))))) (by intro _; rfl)) (@pa_nil _) (by rfl)) (by rfl) (by decide) (by decide)))))), rfl, ?_⟩
  walk_at "cl"
  walk_at "st"
  refine isi_of hd ?_
  walk_at "rd"
  cases d with
  | str x =>
    simp only [Dt] at hd
    obtain ⟨rfl, _⟩ := hd
    obtain ⟨ha, hl, hal⟩ := sm_str hk
    rw [if_neg (by simp [isiD])]
    refine ⟨_, rfl, small16' (by omega), ?_⟩
    walk_at "rd"
    have no : nmD (.str x) = false → ∀ H', Same H H' → Q (.bl false) H' := fun e H' S => by have := q H' S; rw [e] at this; exact this
    have hx : nmD (.str x) = nmS x.cps.toList := rfl
    have hxl := len_toList x
    refine ite2 (fun c1 => ite2 (fun c2 => ?_) (fun c2 => ?_)) (fun c1 => ?_)
    · exact no (by rw [hx]; unfold nmS; rw [decide_eq_false (p := x.cps.toList.length ≤ 8) (by omega)]; simp) _ (.refl _)
    · obtain ⟨c, hc, hf, hm⟩ := fst_at (x := x) (by omega)
      have e1 : nmS x.cps.toList = (fst x.cps.toList && x.cps.toList.all ld) := by unfold nmS; rw [decide_eq_true (p := x.cps.toList.length ≤ 8) (by omega), decide_eq_true (p := 1 ≤ x.cps.toList.length) (by omega)]; rfl
      have hc8 := ha c hm
      have hlo := le_low c hc8
      walk_at "st"
      refine ⟨c, small16' (by omega), hc, ?_⟩
      show if leS (Str.ofString "a") (sgn c) = true then (if leS (sgn c) (Str.ofString "z") = false then _ else _) else _
      rw [hf, ← hlo] at e1
      refine ite2 (fun d1 => ite2 (fun d2 => ?_) (fun d2 => ?_)) (fun d1 => ?_)
      · exact no (by rw [hx, e1, d2]; simp) _ (.refl _)
      · rw [d1, show leS (sgn c) (Str.ofString "z") = true by simpa using d2] at e1
        refine comp_strB ld (fun R h => h) hal (by show x.length ≤ 1000; omega) (fun d H1 hd1 S1 Q' hq => ?_) (fun D H1 S1 hD => ?_)
        · have b1 := le_low d (ha d hd1)
          have b2 := le_dig d (ha d hd1)
          have hq' := hq _ (.refl _)
          rw [show ld d = (low d || dig d) from rfl, ← b1, ← b2] at hq'
          walk_at "rd"
          revert hq'
          cases leS (Str.ofString "a") (sgn d) <;> cases leS (sgn d) (Str.ofString "z") <;> cases leS (Str.ofString "0") (sgn d) <;> cases leS (sgn d) (Str.ofString "9") <;> intro h <;> simpa using h
        · refine ⟨D, _, rfl, .of hD, ?_⟩
          rw [List.all_map, show (id ∘ ld) = ld from rfl]
          have := q _ S1
          rw [hx, e1] at this
          exact this
      · exact no (by rw [hx, e1, show leS (Str.ofString "a") (sgn c) = false by simpa using d1]; simp) _ (.refl _)
    · exact no (by rw [hx]; unfold nmS; rw [decide_eq_false (p := 1 ≤ x.cps.toList.length) (by omega)]; simp) _ (.refl _)
  | none => rw [if_pos (by simp [isiD])]; exact q _ (.refl _)
  | bool b => rw [if_pos (by simp [isiD])]; exact q _ (.refl _)
  | int i => rw [if_pos (by simp [isiD])]; exact q _ (.refl _)
  | tuple x => rw [if_pos (by simp [isiD])]; exact q _ (.refl _)
  | list x => rw [if_pos (by simp [isiD])]; exact q _ (.refl _)
  | dict x => rw [if_pos (by simp [isiD])]; exact q _ (.refl _)
theorem th_len {ds : List PyData} (h : ds.length ≠ 3) : thD (.tuple ds) = false := by
  match ds, h with
  | [], _ => rfl
  | [_], _ => rfl
  | [_, _], _ => rfl
  | [_, _, _], h => exact absurd rfl h
  | _ :: _ :: _ :: _ :: _, _ => rfl
theorem dt3 {t : Addr} {H : Hp} {d1 d2 d3 : PyData} {xs : List V} (h : DtL K t H [d1, d2, d3] xs) : ∃ v1 v2 v3, xs = [v1, v2, v3] ∧ Dt K t H d1 v1 ∧ Dt K t H d2 v2 ∧ Dt K t H d3 v3 := by
  simp only [DtL] at h
  obtain ⟨v1, _, rfl, h1, v2, _, rfl, h2, v3, _, rfl, h3, rfl⟩ := h
  exact ⟨v1, v2, v3, rfl, h1, h2, h3⟩
theorem tr_of (d : PyData) : (isB d true || isB d false) = isTr d := by
  cases d with
  | bool b => cases b <;> rfl
  | _ => rfl
theorem ok_is_throw (F : Df K mg "is_throw" s_is_throw ["thing"]) (m_isinstance : mg "isinstance" = none) (m_tuple : mg "tuple" = none) (m_len : mg "len" = none) (g_MOST_WORTH : Gc mg "MOST_WORTH" (.int 1000000)) (d_is_name : Dn P w K mg base k "is_name" ["thing"] (spB K nmD)) (d_is_whole : Dn P w K mg base k "is_whole" ["thing", "least", "most"] (spWhole K)) : Dn P w K mg base (k + 1) "is_throw" ["thing"] (spB K thD) := by
  refine F.ok sc_is_throw (fun vs H Q E h => ?_) (fun f cdv A outer s H vs Q E hr h => ?_)
  · obtain ⟨t, d, v, rfl, _⟩ := h; rfl
  obtain ⟨t, d, v, rfl, hd, hk, q⟩ := h
  refine ⟨_, [some _], 
      (@pss_cons _ _ _ _ _ (@ps_if _ _ _ _ _ _ _ _ (@PW.pt _ _ _ (@pw_or _ _ _ _ _ _ _ (@pt_not _ _ _ _ (@pt_val _ _ _ (@pe_callBu _ _ _ _ _ _ _ _ _ call_isi rfl m_isinstance bt_isinstance (@pa_u _ _ _ _ _ (@pv _ 0 _ _ (by rfl) (by first | exact Or.inl rfl | exact Or.inr (Or.inl rfl) | exact Or.inr (Or.inr rfl)) (by decide) (by decide)) (@pa_u _ _ _ _ _ (@pe_bltn _ _ (.ty "tuple") _ _ rfl m_tuple bt_tuple rfl (by decide) (by decide)) (@pa_nil _) (by rfl)) (by rfl)) (by rfl) (by decide) (by decide)) (by intro _; rfl))) (@pw_or1 _ _ _ _ (@pt_cmpR _ _ _ _ _ _ _ _ op_ne (@pe_callBu _ _ _ _ _ _ _ _ _ call_lenS rfl m_len PySem.boot_len (@pa_u _ _ _ _ _ (@pv _ 0 _ _ (by rfl) (by first | exact Or.inl rfl | exact Or.inr (Or.inl rfl) | exact Or.inr (Or.inr rfl)) (by decide) (by decide)) (@pa_nil _) (by rfl)) (by rfl) (by decide) (by decide)) (@pe_int _ _ _ _) (nomark _))))) (@pss_one _ _ _ (@ps_ret _ _ _ _ (@pe_bl _ _ _ _))) (@pss_nil _)) 
      (@pss_cons _ _ _ _ _ (@ps_if _ _ _ _ _ _ _ _ (@PW.pt _ _ _ (@pw_or _ _ _ _ _ _ _ (@pt_not _ _ _ _ (@pt_val _ _ _ (@pe_callD _ _ _ _ _ _ _ _ _ _ d_is_name hr rfl (@pa_u _ _ _ _ _ (@pe_ix _ _ _ _ _ _ _ ix_tup (@pv _ 0 _ _ (by rfl) (by first | exact Or.inl rfl | exact Or.inr (Or.inl rfl) | exact Or.inr (Or.inr rfl)) (by decide) (by decide)) (@pe_int _ _ _ _) (fun _ _ => rfl)) (@pa_nil _) (by rfl)) (by rfl) (by decide)) (by intro _; rfl))) (@pw_or1 _ _ _ _ (@pt_not _ _ _ _ (@pt_val _ _ _ (@pe_callD _ _ _ _ _ _ _ _ _ _ d_is_whole hr rfl (@pa_u _ _ _ _ _ (@pe_ix _ _ _ _ _ _ _ ix_tup (@pv _ 0 _ _ (by rfl) (by first | exact Or.inl rfl | exact Or.inr (Or.inl rfl) | exact Or.inr (Or.inr rfl)) (by decide) (by decide)) (@pe_int _ _ _ _) (fun _ _ => rfl)) (@pa_u _ _ _ _ _ (@pe_int _ _ _ _) (@pa_u _ _ _ _ _ (@pe_gc _ _ _ _ g_MOST_WORTH rfl (by decide)) (@pa_nil _) (by rfl)) (by rfl)) (by rfl)) (by rfl) (by decide)) (by intro _; rfl)))))) (@pss_one _ _ _ (@ps_ret _ _ _ _ (@pe_bl _ _ _ _))) (@pss_nil _)) (@pss_one _ _ _ (@ps_ret _ _ _ _ (@pe_or _ _ _ _ _ _ _ (@pe_cmpR _ _ _ _ _ _ _ _ op_isB (@pe_ix _ _ _ _ _ _ _ ix_tup (@pv _ 0 _ _ (by rfl) (by first | exact Or.inl rfl | exact Or.inr (Or.inl rfl) | exact Or.inr (Or.inr rfl)) (by decide) (by decide)) (@pe_int _ _ _ _) (fun _ _ => rfl)) (@pe_bl _ _ _ _) (nomark _)) (@pe_one _ _ _ _ _ (@pe_cmpR _ _ _ _ _ _ _ _ op_isB (@pe_ix _ _ _ _ _ _ _ ix_tup (@pv _ 0 _ _ (by rfl) (by first | exact Or.inl rfl | exact Or.inr (Or.inl rfl) | exact Or.inr (Or.inr rfl)) (by decide) (by decide)) (@pe_int _ _ _ _) (fun _ _ => rfl)) (@pe_bl _ _ _ _) (nomark _)))))))), rfl, ?_⟩
  walk_at "cl"
  have no : ∀ {d : PyData}, thD d = false → (∀ H', Same H H' → Q (.bl (thD d)) H') → ∀ H', Same H H' → Q (.bl false) H' := fun e q H' S => by have := q H' S; rw [e] at this; exact this
  walk_at "st"
  refine isi_of hd ?_
  walk_at "rd"
  cases d with
  | tuple ds =>
    obtain ⟨a, xs, rfl, hs, hx⟩ := Dt.tup_inv hd
    have hxl := hx.len
    rw [if_neg (by simp [isiD])]
    refine lenT_of hs ?_
    walk_at "rd"
    refine ite2 (fun c => ?_) (fun c => ?_)
    · exact no (th_len (by omega)) q _ (.refl _)
    have h3 : ds.length = 3 := by omega
    obtain ⟨_, hsm⟩ := sm_tup hk
    match ds, h3 with
    | [d1, d2, d3], _ =>
      obtain ⟨v1, v2, v3, rfl, h1, h2, h3⟩ := dt3 hx
      have ethD : thD (.tuple [d1, d2, d3]) = (nmD d1 && (whl d2 0 1000000 && isTr d3)) := rfl
      walk_at "st"
      refine ⟨_, hs, _, atI_nat (j := 0) rfl, t, d1, v1, rfl, h1, hsm d1 (by simp), fun H1 S1 => ?_⟩
      walk_at "rd"
      refine ite2 (fun e => no (by rw [ethD, e]; rfl) q _ S1) (fun e => ?_)
      replace e : nmD d1 = true := by simpa using e
      refine ⟨_, Same.sqT hs S1, _, atI_nat (j := 1) rfl, t, d2, v2, 0, 1000000, rfl, Same.dt h2 S1, _, rfl, ?_⟩
      refine ite2 (fun e2 => no (by rw [ethD, e, e2]; rfl) q _ S1) (fun e2 => ?_)
      replace e2 : whl d2 0 1000000 = true := by simpa using e2
      have q' := q _ S1
      rw [ethD, e, e2, Bool.true_and, Bool.true_and, ← tr_of] at q'
      refine ⟨_, Same.sqT hs S1, _, atI_nat (j := 2) rfl, r_isB (Same.dt h3 S1) ⟨_, rfl, ite2 (fun e3 => ?_) (fun e3 => ?_)⟩⟩
      · rw [e3, Bool.true_or] at q'
        exact q'
      · rw [show isB d3 true = false by simpa using e3, Bool.false_or] at q'
        exact ⟨_, Same.sqT hs S1, _, atI_nat (j := 2) rfl, r_isB (Same.dt h3 S1) q'⟩
  | none => rw [if_pos (by simp [isiD])]; exact no rfl q _ (.refl _)
  | bool b => rw [if_pos (by simp [isiD])]; exact no rfl q _ (.refl _)
  | int i => rw [if_pos (by simp [isiD])]; exact no rfl q _ (.refl _)
  | str x => rw [if_pos (by simp [isiD])]; exact no rfl q _ (.refl _)
  | list x => rw [if_pos (by simp [isiD])]; exact no rfl q _ (.refl _)
  | dict x => rw [if_pos (by simp [isiD])]; exact no rfl q _ (.refl _)
theorem th_name {d : PyData} {t : Addr} {H : Hp} {v : V} (h : thD d = true) (hd : Dt K t H d v) : ∃ a v2 v3, v = .ref a ∧ SqT K H a [.str (nmOf d), v2, v3] := by
  match d, h with
  | .tuple [n, x, e], h =>
    obtain ⟨a, xs, rfl, hs, hx⟩ := Dt.tup_inv hd
    obtain ⟨v1, v2, v3, rfl, h1, h2, h3⟩ := dt3 hx
    simp only [thD, Bool.and_eq_true] at h
    match n, h.1 with
    | .str z, _ =>
      simp only [Dt] at h1
      obtain ⟨rfl, _⟩ := h1
      exact ⟨a, v2, v3, rfl, hs⟩
theorem range_map {α : Type} (f : PyData → α) (ds : List PyData) : (List.range ds.length).map (fun i => f (ds.getD i .none)) = ds.map f := by
  refine List.ext_getElem (by simp) fun i h1 h2 => ?_
  rw [List.getElem_map, List.getElem_map, List.getElem_range, List.getD_eq_getElem?_getD, List.getElem?_eq_getElem (by simpa using h2)]
  rfl
theorem dget {t : Addr} {H : Hp} {ds : List PyData} {xs : List V} {i : Nat} {x : V} (hx : DtL K t H ds xs) (h : xs[i]? = some x) : Dt K t H (ds.getD i .none) x ∧ ds.getD i .none ∈ ds := by
  have hi : i < ds.length := by rw [hx.len]; exact (List.getElem?_eq_some_iff.mp h).1
  have e : ds[i]? = some ds[i] := List.getElem?_eq_getElem hi
  obtain ⟨v, hv, hd⟩ := hx.get e
  rw [h] at hv
  cases hv
  rw [List.getD_eq_getElem?_getD, e]
  exact ⟨hd, List.getElem_mem _⟩
theorem ok_are_throws (F : Df K mg "are_throws" s_are_throws ["thing"]) (m_isinstance : mg "isinstance" = none) (m_tuple : mg "tuple" = none) (m_len : mg "len" = none) (m_all : mg "all" = none) (m_set : mg "set" = none) (g_MOST_THROWS : Gc mg "MOST_THROWS" (.int 30)) (d_is_throw : Dn P w K mg base k "is_throw" ["thing"] (spB K thD)) : Dn P w K mg base (k + 1) "are_throws" ["thing"] (spB K thsD) := by
  refine F.ok sc_are_throws (fun vs H Q E h => ?_) (fun f cdv A outer s H vs Q E hr h => ?_)
  · obtain ⟨t, d, v, rfl, _⟩ := h; rfl
  obtain ⟨t, d, v, rfl, hd, hk, q⟩ := h
  refine ⟨_, [some _], 
      (@pss_cons _ _ _ _ _ (@ps_if _ _ _ _ _ _ _ _ (@PW.pt _ _ _ (@pw_or _ _ _ _ _ _ _ (@pt_not _ _ _ _ (@pt_val _ _ _ (@pe_callBu _ _ _ _ _ _ _ _ _ call_isi rfl m_isinstance bt_isinstance (@pa_u _ _ _ _ _ (@pv _ 0 _ _ (by rfl) (by first | exact Or.inl rfl | exact Or.inr (Or.inl rfl) | exact Or.inr (Or.inr rfl)) (by decide) (by decide)) (@pa_u _ _ _ _ _ (@pe_bltn _ _ (.ty "tuple") _ _ rfl m_tuple bt_tuple rfl (by decide) (by decide)) (@pa_nil _) (by rfl)) (by rfl)) (by rfl) (by decide) (by decide)) (by intro _; rfl))) (@pw_or1 _ _ _ _ (@pt_not _ _ _ _ (@pt_chain _ _ _ _ _ _ _ _ _ _ _ _ op_le op_le (@pe_int _ _ _ _) (@pe_callBu _ _ _ _ _ _ _ _ _ call_lenS rfl m_len PySem.boot_len (@pa_u _ _ _ _ _ (@pv _ 0 _ _ (by rfl) (by first | exact Or.inl rfl | exact Or.inr (Or.inl rfl) | exact Or.inr (Or.inr rfl)) (by decide) (by decide)) (@pa_nil _) (by rfl)) (by rfl) (by decide) (by decide)) (@pe_gc _ _ _ _ g_MOST_THROWS rfl (by decide)) (by with_unfolding_all rfl)))))) (@pss_one _ _ _ (@ps_ret _ _ _ _ (@pe_bl _ _ _ _))) (@pss_nil _)) 
      (@pss_cons _ _ _ _ _ (@ps_if _ _ _ _ _ _ _ _ (@pt_not _ _ _ _ (@pt_val _ _ _ (@pe_callBu _ _ _ _ _ _ _ _ _ (call_allB rfl) rfl m_all bt_all (@pa_u _ _ _ _ _ (@pe_comp _ _ _ _ _ _ _ _ _ _ _ _ _ rfl (compPlain (N := ["thing"]) rfl (by decide +kernel) rfl) (@pi_tup _ _ _ _ (@pv _ 0 _ _ (by rfl) (by first | exact Or.inl rfl | exact Or.inr (Or.inl rfl) | exact Or.inr (Or.inr rfl)) (by decide) (by decide))) (fun _ _ _ _ => (@pts_nil _)) (fun _ _ _ _ => (@pe_callD _ _ _ _ _ _ _ _ _ _ d_is_throw hr rfl (@pa_u _ _ _ _ _ (@pv _ 0 _ _ (by rfl) (by first | exact Or.inl rfl | exact Or.inr (Or.inl rfl) | exact Or.inr (Or.inr rfl)) (by decide) (by decide)) (@pa_nil _) (by rfl)) (by rfl) (by decide))) (by intro _; rfl)) (@pa_nil _) (by rfl)) (by rfl) (by decide) (by decide)) (by intro _; rfl))) (@pss_one _ _ _ (@ps_ret _ _ _ _ (@pe_bl _ _ _ _))) (@pss_nil _)) (@pss_one _ _ _ (@ps_ret _ _ _ _ (@pe_cmpR _ _ _ _ _ _ _ _ op_eq (@pe_callBu _ _ _ _ _ _ _ _ _ call_lenSet rfl m_len PySem.boot_len (@pa_u _ _ _ _ _ (@pe_callTu _ _ _ _ _ _ _ _ _ (call_setS rfl) rfl m_set bt_set (@pa_u _ _ _ _ _ (@pe_comp _ _ _ _ _ _ _ _ _ _ _ _ _ rfl (compPlain (N := ["thing"]) rfl (by decide +kernel) rfl) (@pi_tup _ _ _ _ (@pv _ 0 _ _ (by rfl) (by first | exact Or.inl rfl | exact Or.inr (Or.inl rfl) | exact Or.inr (Or.inr rfl)) (by decide) (by decide))) (fun _ _ _ _ => (@pts_nil _)) (fun _ _ _ _ => (@pe_ix _ _ _ _ _ _ _ (ixK_tup (K := K) rfl) (@pv _ 0 _ _ (by rfl) (by first | exact Or.inl rfl | exact Or.inr (Or.inl rfl) | exact Or.inr (Or.inr rfl)) (by decide) (by decide)) (@pe_int _ _ _ _) (fun _ _ => rfl))) (by intro _; rfl)) (@pa_nil _) (by rfl)) (by rfl) (by decide) (by decide)) (@pa_nil _) (by rfl)) (by rfl) (by decide) (by decide)) (@pe_callBu _ _ _ _ _ _ _ _ _ call_lenS rfl m_len PySem.boot_len (@pa_u _ _ _ _ _ (@pv _ 0 _ _ (by rfl) (by first | exact Or.inl rfl | exact Or.inr (Or.inl rfl) | exact Or.inr (Or.inr rfl)) (by decide) (by decide)) (@pa_nil _) (by rfl)) (by rfl) (by decide) (by decide)) (nomark _)))))), rfl, ?_⟩
  walk_at "cl"
  have no : ∀ {d : PyData}, thsD d = false → (∀ H', Same H H' → Q (.bl (thsD d)) H') → ∀ H', Same H H' → Q (.bl false) H' := fun e q H' S => by have := q H' S; rw [e] at this; exact this
  walk_at "st"
  refine isi_of hd ?_
  walk_at "rd"
  cases d with
  | tuple ds =>
    obtain ⟨a, xs, rfl, hs, hx⟩ := Dt.tup_inv hd
    have hxl := hx.len
    obtain ⟨_, hsm⟩ := sm_tup hk
    rw [if_neg (by simp [isiD])]
    refine lenT_of hs ?_
    walk_at "rd"
    have eD : thsD (.tuple ds) = ((decide (1 ≤ ds.length) && decide (ds.length ≤ 30)) && (ds.all thD && decide (nDist (ds.map nmOf) = ds.length))) := rfl
    refine ite2 (fun c1 => ite2 (fun c2 => ?_) (fun c2 => ?_)) (fun c1 => ?_)
    · exact no (by rw [eD, decide_eq_false (p := ds.length ≤ 30) (by omega)]; simp) q _ (.refl _)
    · rw [decide_eq_true (p := 1 ≤ ds.length) (by omega), decide_eq_true (p := ds.length ≤ 30) (by omega), Bool.true_and, Bool.true_and] at eD
      walk_at "st"
      refine comp_tG (K := K) (fun _ => true) (fun i y _ => y = V.bl (thD (ds.getD i .none))) (fun R h => h) hs (by omega) (fun _ _ _ _ _ h => h) (fun i x H1 hx1 S1 Q' hq => hq _ (.refl _)) (fun i x H1 hx1 _ S1 Q' hq => ?_) (fun D zs H1 S1 hD hD1 hall => ?_)
      · obtain ⟨g1, g2⟩ := dget hx hx1
        walk_at "rd"
        exact ⟨t, _, x, rfl, Same.dt g1 S1, hsm _ g2, fun H2 S2 => hq _ _ S2 rfl⟩
      rw [List.filter_eq_self.mpr (by simp), ← hxl] at hall
      have e : zs = (ds.map thD).map V.bl := by
        rw [All2.eq hall, ← range_map thD ds, List.map_map]
        rfl
      refine ⟨D, _, rfl, .of (by rw [hD1, e]), ?_⟩
      rw [show (List.map thD ds).all id = ds.all thD by rw [List.all_map]; rfl]
      walk_at "rd"
      refine ite2 (fun f1 => no (by rw [eD, f1]; rfl) q _ S1) (fun f1 => ?_)
      replace f1 : ds.all thD = true := by simpa using f1
      have hs1 := Same.sqT hs S1
      have hx1 := hx.on S1.ext
      refine comp_tG (K := K) (fun _ => true) (fun i y _ => y = V.str (nmOf (ds.getD i .none))) (fun R h => h) hs1 (by omega) (fun _ _ _ _ _ h => h) (fun i x H2 hx2 S2 Q' hq => hq _ (.refl _)) (fun i x H2 hx2 _ S2 Q' hq => ?_) (fun D2 zs2 H2 S2 hD2 hD3 hall2 => ?_)
      · obtain ⟨g1, g2⟩ := dget hx1 hx2
        obtain ⟨b, v2, v3, rfl, g3⟩ := th_name (List.all_eq_true.mp f1 _ g2) g1
        walk_at "rd"
        exact ⟨_, Same.sqT g3 S2, _, atI_nat (j := 0) rfl, hq _ _ (.refl _) rfl⟩
      rw [List.filter_eq_self.mpr (by simp), ← hxl] at hall2
      have e2 : zs2 = (ds.map nmOf).map V.str := by
        rw [All2.eq hall2, ← range_map nmOf ds, List.map_map]
        rfl
      have hln : (ds.map nmOf).length = ds.length := List.length_map ..
      have hnd : nDist (ds.map nmOf) ≤ 1000000 := Nat.le_trans (ndAt_le _ _) (by omega)
      refine ⟨D2, _, rfl, .of (by rw [hD3, e2]), by omega, fun D4 hD4 => ⟨D4, _, rfl, upd_same, hnd, ?_⟩⟩
      have s4 := same_new hD4 (setO D4 (nDist (ds.map nmOf)))
      have SS := (S1.trans S2).trans s4
      refine lenT_of (Same.sqT hs SS) ?_
      walk_at "rd"
      have q' := q _ SS
      rw [eD, f1, Bool.true_and] at q'
      rw [show (decide (((nDist (ds.map nmOf) : Nat) : Int) = (xs.length : Int))) = decide (nDist (ds.map nmOf) = ds.length) by rw [decide_eq_decide]; omega]
      exact q'
    · exact no (by rw [eD, decide_eq_false (p := 1 ≤ ds.length) (by omega)]; simp) q _ (.refl _)
  | none => rw [if_pos (by simp [isiD])]; exact no rfl q _ (.refl _)
  | bool b => rw [if_pos (by simp [isiD])]; exact no rfl q _ (.refl _)
  | int i => rw [if_pos (by simp [isiD])]; exact no rfl q _ (.refl _)
  | str x => rw [if_pos (by simp [isiD])]; exact no rfl q _ (.refl _)
  | list x => rw [if_pos (by simp [isiD])]; exact no rfl q _ (.refl _)
  | dict x => rw [if_pos (by simp [isiD])]; exact no rfl q _ (.refl _)
theorem down_len {ds : List PyData} (h : ds.length ≠ 4) : downD (.tuple ds) = false := by
  match ds, h with
  | [], _ => rfl
  | [_], _ => rfl
  | [_, _], _ => rfl
  | [_, _, _], _ => rfl
  | [_, _, _, _], h => exact absurd rfl h
  | _ :: _ :: _ :: _ :: _ :: _, _ => rfl
theorem dt4 {t : Addr} {H : Hp} {d1 d2 d3 d4 : PyData} {xs : List V} (h : DtL K t H [d1, d2, d3, d4] xs) : ∃ v1 v2 v3 v4, xs = [v1, v2, v3, v4] ∧ Dt K t H d1 v1 ∧ Dt K t H d2 v2 ∧ Dt K t H d3 v3 ∧ Dt K t H d4 v4 := by
  simp only [DtL] at h
  obtain ⟨v1, _, rfl, h1, v2, _, rfl, h2, v3, _, rfl, h3, v4, _, rfl, h4, rfl⟩ := h
  exact ⟨v1, v2, v3, v4, rfl, h1, h2, h3, h4⟩
theorem ok_is_down {pM : Addr} (F : Df K mg "is_down" s_is_down ["thing"]) (m_isinstance : mg "isinstance" = none) (m_tuple : mg "tuple" = none) (m_len : mg "len" = none) (g_DOWN_MOSTS : Gc mg "DOWN_MOSTS" (.ref pM)) (tM : ∀ H : Hp, SqT K H pM [.int 3, .int 1000000, .int 3]) (d_are_wholes : Dn P w K mg base k "are_wholes" ["things", "mosts"] (spWholes K)) (d_are_throws : Dn P w K mg base k "are_throws" ["thing"] (spB K thsD)) : Dn P w K mg base (k + 1) "is_down" ["thing"] (spB K downD) := by
  refine F.ok sc_is_down (fun vs H Q E h => ?_) (fun f cdv A outer s H vs Q E hr h => ?_)
  · obtain ⟨t, d, v, rfl, _⟩ := h; rfl
  obtain ⟨t, d, v, rfl, hd, hk, q⟩ := h
  refine ⟨_, [some _], 
      (@pss_cons _ _ _ _ _ (@ps_if _ _ _ _ _ _ _ _ (@PW.pt _ _ _ (@pw_or _ _ _ _ _ _ _ (@pt_not _ _ _ _ (@pt_val _ _ _ (@pe_callBu _ _ _ _ _ _ _ _ _ call_isi rfl m_isinstance bt_isinstance (@pa_u _ _ _ _ _ (@pv _ 0 _ _ (by rfl) (by first | exact Or.inl rfl | exact Or.inr (Or.inl rfl) | exact Or.inr (Or.inr rfl)) (by decide) (by decide)) (@pa_u _ _ _ _ _ (@pe_bltn _ _ (.ty "tuple") _ _ rfl m_tuple bt_tuple rfl (by decide) (by decide)) (@pa_nil _) (by rfl)) (by rfl)) (by rfl) (by decide) (by decide)) (by intro _; rfl))) (@pw_or1 _ _ _ _ (@pt_cmpR _ _ _ _ _ _ _ _ op_ne (@pe_callBu _ _ _ _ _ _ _ _ _ call_lenS rfl m_len PySem.boot_len (@pa_u _ _ _ _ _ (@pv _ 0 _ _ (by rfl) (by first | exact Or.inl rfl | exact Or.inr (Or.inl rfl) | exact Or.inr (Or.inr rfl)) (by decide) (by decide)) (@pa_nil _) (by rfl)) (by rfl) (by decide) (by decide)) (@pe_int _ _ _ _) (nomark _))))) (@pss_one _ _ _ (@ps_ret _ _ _ _ (@pe_bl _ _ _ _))) (@pss_nil _)) (@pss_one _ _ _ (@ps_ret _ _ _ _ (@pe_and _ _ _ _ _ _ _ (@pe_callD _ _ _ _ _ _ _ _ _ _ d_are_wholes hr rfl (@pa_u _ _ _ _ _ (@pe_slice _ _ _ _ _ _ _ _ _ _ slA_tup (@pv _ 0 _ _ (by rfl) (by first | exact Or.inl rfl | exact Or.inr (Or.inl rfl) | exact Or.inr (Or.inr rfl)) (by decide) (by decide)) (@po_none _) (@po_some _ _ _ (@pe_int _ _ _ _))) (@pa_u _ _ _ _ _ (@pe_gc _ _ _ _ g_DOWN_MOSTS rfl (by decide)) (@pa_nil _) (by rfl)) (by rfl)) (by rfl) (by decide)) (@pe_one _ _ _ _ _ (@pe_callD _ _ _ _ _ _ _ _ _ _ d_are_throws hr rfl (@pa_u _ _ _ _ _ (@pe_ix _ _ _ _ _ _ _ ix_tup (@pv _ 0 _ _ (by rfl) (by first | exact Or.inl rfl | exact Or.inr (Or.inl rfl) | exact Or.inr (Or.inr rfl)) (by decide) (by decide)) (@pe_int _ _ _ _) (fun _ _ => rfl)) (@pa_nil _) (by rfl)) (by rfl) (by decide))))))), rfl, ?_⟩
  walk_at "cl"
  have no : ∀ {d : PyData}, downD d = false → (∀ H', Same H H' → Q (.bl (downD d)) H') → ∀ H', Same H H' → Q (.bl false) H' := fun e q H' S => by have := q H' S; rw [e] at this; exact this
  walk_at "st"
  refine isi_of hd ?_
  walk_at "rd"
  cases d with
  | tuple ds =>
    obtain ⟨a, xs, rfl, hs, hx⟩ := Dt.tup_inv hd
    have hxl := hx.len
    obtain ⟨_, hsm⟩ := sm_tup hk
    rw [if_neg (by simp [isiD])]
    refine lenT_of hs ?_
    walk_at "rd"
    refine ite2 (fun c => ?_) (fun c => ?_)
    · exact no (down_len (by omega)) q _ (.refl _)
    have h4 : ds.length = 4 := by omega
    match ds, h4 with
    | [d1, d2, d3, d4], _ =>
      obtain ⟨v1, v2, v3, v4, rfl, h1, h2, h3, h4⟩ := dt4 hx
      have eD : downD (.tuple [d1, d2, d3, d4]) = ((List.range [d1, d2, d3].length).all (whlAt [d1, d2, d3] [3, 1000000, 3]) && thsD d4) := by simp [downD, whlAt, List.range_succ, Bool.and_assoc]
      refine ⟨a, _, rfl, hs, fun p H0 s1 hp => ?_⟩
      refine ⟨t, p, pM, [d1, d2, d3], [v1, v2, v3], [3, 1000000, 3], rfl, hp, .cons (Same.dt h1 s1) (.cons (Same.dt h2 s1) (.cons (Same.dt h3 s1) .nil)), tM _, rfl, by simp, fun H1 S1 => ⟨_, rfl, ?_⟩⟩
      have SS := s1.trans S1
      refine ite2 (fun e => ?_) (fun e => ?_)
      · refine ⟨_, Same.sqT hs SS, _, atI_nat (j := 3) rfl, t, d4, v4, rfl, Same.dt h4 SS, hsm d4 (by simp), fun H2 S2 => ?_⟩
        have q' := q _ (SS.trans S2)
        rw [eD, e, Bool.true_and] at q'
        exact q'
      · exact no (by rw [eD, show (List.range [d1, d2, d3].length).all (whlAt [d1, d2, d3] [3, 1000000, 3]) = false by simpa using e]; rfl) q _ SS
  | none => rw [if_pos (by simp [isiD])]; exact no rfl q _ (.refl _)
  | bool b => rw [if_pos (by simp [isiD])]; exact no rfl q _ (.refl _)
  | int i => rw [if_pos (by simp [isiD])]; exact no rfl q _ (.refl _)
  | str x => rw [if_pos (by simp [isiD])]; exact no rfl q _ (.refl _)
  | list x => rw [if_pos (by simp [isiD])]; exact no rfl q _ (.refl _)
  | dict x => rw [if_pos (by simp [isiD])]; exact no rfl q _ (.refl _)
end
end My
namespace My
open PySem L2 M
section
variable (K : PySem.W.Frag)
def spBounded : Sp := fun vs H Q _ => ∃ t d v least, vs = [v, .int least, .int 99] ∧ Dt K t H d v ∧ Q (.bl (bnd d least)) H
def spForm : Sp := fun vs H Q _ => ∃ t d v, vs = [v] ∧ Dt K t H d v ∧ Q (.bl (form d)) H
def optV : Option Nat → V
  | none => .non
  | some n => .int n
def spUnits (n : Nat) : Sp := fun vs H Q _ => ∃ t d v room, vs = [v, .int room] ∧ 0 ≤ room ∧ room < n ∧ Dt K t H d v ∧ Q (optV (M.unitsOf room.toNat d)) H
def spIsRule : Sp := fun vs H Q _ => ∃ t d v, vs = [v] ∧ Dt K t H d v ∧ Q (.bl (isRule d)) H
end
section
variable {P : Program} {w : World} {K : PySem.W.Frag} {mg : Str → Option Value} {base : Heap} {ns : List Int} {k : Nat}
theorem bnd_whl (d : PyData) (l : Int) : bnd d l = whl d l 99 := by cases d <;> rfl
theorem ok_is_wholeB (F : Df K mg "is_whole" s_is_whole ["thing", "least", "most"]) (m_isinstance : mg "isinstance" = none) (m_int : mg "int" = none) (m_bool : mg "bool" = none) : Dn P w K mg base (k + 1) "is_whole" ["thing", "least", "most"] (spBounded K) :=
  (ok_is_whole F m_isinstance m_int m_bool).imp fun vs H Q E ⟨t, d, v, l, e, hd, q⟩ => ⟨t, d, v, l, 99, e, hd, by rw [← bnd_whl]; exact q⟩
theorem form_no {ds : List PyData} (h : ds.length ≠ 6) : form (.tuple ds) = false := by
  unfold form
  split
  · rename_i e; cases e; simp at h
  · rfl
theorem bnd_int {d : PyData} {l : Int} (h : bnd d l = true) : ∃ i, d = .int i ∧ l ≤ i ∧ i ≤ 99 := by
  cases d with
  | int i => simp only [bnd, Bool.and_eq_true, decide_eq_true_eq] at h; exact ⟨i, rfl, h⟩
  | _ => simp [bnd] at h
theorem ok_has_unit_form (F : Df K mg "has_unit_form" s_has_unit_form ["thing"]) (m_isinstance : mg "isinstance" = none) (m_tuple : mg "tuple" = none) (m_len : mg "len" = none) (g_MOST : Gc mg "MOST" (.int 99)) (d_is_whole : Dn P w K mg base k "is_whole" ["thing", "least", "most"] (spBounded K)) : Dn P w K mg base (k + 1) "has_unit_form" ["thing"] (spForm K) := by
  refine F.ok sc_has_unit_form (fun vs H Q E h => ?_) (fun f cdv A outer s H vs Q E hr h => ?_)
  · obtain ⟨t, d, v, rfl, _⟩ := h; rfl
  obtain ⟨t, d, v, rfl, hd, q⟩ := h
  refine ⟨_, [some _, none, none], 
      (@pss_cons _ _ _ _ _ (@ps_if _ _ _ _ _ _ _ _ (@PW.pt _ _ _ (@pw_or _ _ _ _ _ _ _ (@pt_not _ _ _ _ (@pt_val _ _ _ (@pe_callBu _ _ _ _ _ _ _ _ _ call_isi rfl m_isinstance bt_isinstance (@pa_u _ _ _ _ _ (@pv _ 0 _ _ (by rfl) (by first | exact Or.inl rfl | exact Or.inr (Or.inl rfl) | exact Or.inr (Or.inr rfl)) (by decide) (by decide)) (@pa_u _ _ _ _ _ (@pe_bltn _ _ (.ty "tuple") _ _ rfl m_tuple bt_tuple rfl (by decide) (by decide)) (@pa_nil _) (by rfl)) (by rfl)) (by rfl) (by decide) (by decide)) (by intro _; rfl))) (@pw_or _ _ _ _ _ _ _ (@pt_cmpR _ _ _ _ _ _ _ _ op_ne (@pe_callBu _ _ _ _ _ _ _ _ _ call_lenS rfl m_len PySem.boot_len (@pa_u _ _ _ _ _ (@pv _ 0 _ _ (by rfl) (by first | exact Or.inl rfl | exact Or.inr (Or.inl rfl) | exact Or.inr (Or.inr rfl)) (by decide) (by decide)) (@pa_nil _) (by rfl)) (by rfl) (by decide) (by decide)) (@pe_int _ _ _ _) (nomark _)) (@pw_or1 _ _ _ _ (@pt_cmpR _ _ _ _ _ _ _ _ (op_neD hr) (@pe_ix _ _ _ _ _ _ _ ix_tup (@pv _ 0 _ _ (by rfl) (by first | exact Or.inl rfl | exact Or.inr (Or.inl rfl) | exact Or.inr (Or.inr rfl)) (by decide) (by decide)) (@pe_int _ _ _ _) (fun _ _ => rfl)) (@pe_str _ _ _ _) (nomark _)))))) (@pss_one _ _ _ (@ps_ret _ _ _ _ (@pe_bl _ _ _ _))) (@pss_nil _)) 
      (@pss_cons _ _ _ _ _ (@ps_set _ _ 1 _ _ _ _ sc_has_unit_form.nd rfl (Or.inl rfl) (@pe_ix _ _ _ _ _ _ _ ix_tup (@pv _ 0 _ _ (by rfl) (by first | exact Or.inl rfl | exact Or.inr (Or.inl rfl) | exact Or.inr (Or.inr rfl)) (by decide) (by decide)) (@pe_int _ _ _ _) (fun _ _ => rfl)) (by rfl) (by first | exact .inl rfl | exact .inr rfl | assumption)) 
      (@pss_cons _ _ _ _ _ (@ps_set _ _ 2 _ _ _ _ sc_has_unit_form.nd rfl (Or.inl rfl) (@pe_ix _ _ _ _ _ _ _ ix_tup (@pv _ 0 _ _ (by rfl) (by first | exact Or.inl rfl | exact Or.inr (Or.inl rfl) | exact Or.inr (Or.inr rfl)) (by decide) (by decide)) (@pe_int _ _ _ _) (fun _ _ => rfl)) (by rfl) (by first | exact .inl rfl | exact .inr rfl | assumption)) 
      (@pss_cons _ _ _ _ _ (@ps_if _ _ _ _ _ _ _ _ (@PW.pt _ _ _ (@pw_or _ _ _ _ _ _ _ (@pt_not _ _ _ _ (@pt_val _ _ _ (@pe_callD _ _ _ _ _ _ _ _ _ _ d_is_whole hr rfl (@pa_u _ _ _ _ _ (@pv _ 1 _ _ (by rfl) (by first | exact Or.inl rfl | exact Or.inr (Or.inl rfl) | exact Or.inr (Or.inr rfl)) (by decide) (by decide)) (@pa_u _ _ _ _ _ (@pe_int _ _ _ _) (@pa_u _ _ _ _ _ (@pe_gc _ _ _ _ g_MOST rfl (by decide)) (@pa_nil _) (by rfl)) (by rfl)) (by rfl)) (by rfl) (by decide)) (by intro _; rfl))) (@pw_or1 _ _ _ _ (@pt_not _ _ _ _ (@pt_val _ _ _ (@pe_callD _ _ _ _ _ _ _ _ _ _ d_is_whole hr rfl (@pa_u _ _ _ _ _ (@pe_ix _ _ _ _ _ _ _ ix_tup (@pv _ 0 _ _ (by rfl) (by first | exact Or.inl rfl | exact Or.inr (Or.inl rfl) | exact Or.inr (Or.inr rfl)) (by decide) (by decide)) (@pe_int _ _ _ _) (fun _ _ => rfl)) (@pa_u _ _ _ _ _ (@pe_int _ _ _ _) (@pa_u _ _ _ _ _ (@pe_gc _ _ _ _ g_MOST rfl (by decide)) (@pa_nil _) (by rfl)) (by rfl)) (by rfl)) (by rfl) (by decide)) (by intro _; rfl)))))) (@pss_one _ _ _ (@ps_ret _ _ _ _ (@pe_bl _ _ _ _))) (@pss_nil _)) 
      (@pss_cons _ _ _ _ _ (@ps_if _ _ _ _ _ _ _ _ (@pt_cmpR _ _ _ _ _ _ _ _ op_isNS (@pv _ 2 _ _ (by rfl) (by first | exact Or.inl rfl | exact Or.inr (Or.inl rfl) | exact Or.inr (Or.inr rfl)) (by decide) (by decide)) (@pe_non _ _ _) (nomark _)) (@pss_one _ _ _ (@ps_ret _ _ _ _ (@pe_cmpR _ _ _ _ _ _ _ _ op_isNS (@pe_ix _ _ _ _ _ _ _ ix_tup (@pv _ 0 _ _ (by rfl) (by first | exact Or.inl rfl | exact Or.inr (Or.inl rfl) | exact Or.inr (Or.inr rfl)) (by decide) (by decide)) (@pe_int _ _ _ _) (fun _ _ => rfl)) (@pe_non _ _ _) (nomark _)))) (@pss_nil _)) (@pss_one _ _ _ (@ps_ret _ _ _ _ (@pe_callD _ _ _ _ _ _ _ _ _ _ d_is_whole hr rfl (@pa_u _ _ _ _ _ (@pv _ 2 _ _ (by rfl) (by first | exact Or.inl rfl | exact Or.inr (Or.inl rfl) | exact Or.inr (Or.inr rfl)) (by decide) (by decide)) (@pa_u _ _ _ _ _ (@pv _ 1 _ _ (by rfl) (by first | exact Or.inl rfl | exact Or.inr (Or.inl rfl) | exact Or.inr (Or.inr rfl)) (by decide) (by decide)) (@pa_u _ _ _ _ _ (@pe_gc _ _ _ _ g_MOST rfl (by decide)) (@pa_nil _) (by rfl)) (by rfl)) (by rfl)) (by rfl) (by decide))))))))), rfl, ?_⟩
  walk_at "cl"
  walk_at "st"
  refine isi_of hd ⟨_, rfl, ?_⟩
  cases d with
  | tuple ds =>
    walk_at "F"
    obtain ⟨a, xs, rfl, hs, hx⟩ := hd.tup_inv
    refine lenT_of hs ?_
    walk_at "rd"
    by_cases c6 : xs.length = 6
    · rw [if_neg (by omega)]
      obtain ⟨d0, d1, d2, d3, d4, d5, v0, v1, v2, v3, v4, v5, rfl, rfl, h0, h1, h2, h3, h4, h5⟩ := six_of hx c6
      refine ⟨_, hs, _, rfl, neD_of h0 (dstr "unit") (depR (n := 0) rfl) ?_⟩
      walk_at "rd"
      simp only [form] at q
      by_cases cw : PyData.eqv d0 (.str "unit") = true
      · rw [if_neg (by rw [cw]; intro h; cases h)]
        rw [cw, Bool.true_and] at q
        walk_at "st"
        refine ⟨_, hs, _, rfl, ?_⟩
        walk_at "st"
        refine ⟨_, hs, _, rfl, ?_⟩
        walk_at "st"
        refine ⟨t, d1, v1, 1, rfl, h1, ?_⟩
        walk_at "rd"
        by_cases c1 : bnd d1 1 = true
        · rw [if_neg (by rw [c1]; intro h; cases h)]
          rw [c1, Bool.true_and] at q
          refine ⟨_, hs, _, rfl, t, d2, v2, 1, rfl, h2, ?_⟩
          walk_at "rd"
          by_cases c2 : bnd d2 1 = true
          · rw [if_neg (by rw [c2]; intro h; cases h)]
            rw [c2, Bool.true_and] at q
            walk_at "st"
            have e3 := dt_non h3
            have e5 := dt_non h5
            obtain ⟨i, rfl, i0, i1⟩ := bnd_int c1
            simp only [Dt] at h1
            subst h1
            by_cases c3 : v3 = .non
            · rw [if_pos c3]
              rw [decide_eq_true c3] at e3
              rw [← e3, if_pos rfl] at q
              refine ⟨_, hs, _, rfl, ?_⟩
              walk_at "rd"
              rw [e5]
              exact q
            · rw [if_neg c3]
              rw [decide_eq_false c3] at e3
              rw [← e3, if_neg (by intro h; cases h)] at q
              exact ⟨t, d3, v3, i, rfl, h3, q⟩
          · rw [if_pos (by simpa using c2)]
            rw [Bool.eq_false_iff.mpr c2, Bool.false_and] at q
            exact q
        · rw [if_pos (by simpa using c1)]
          rw [Bool.eq_false_iff.mpr c1, Bool.false_and] at q
          exact q
      · rw [if_pos (by simpa using cw)]
        rw [Bool.eq_false_iff.mpr cw, Bool.false_and] at q
        exact q
    · rw [if_pos (by omega)]
      rw [form_no (by rw [hx.len]; exact c6)] at q
      exact q
  | _ => walk_at "T"; exact q
theorem ok_units_of {n : Nat} {pP : Addr} (F : Df K mg "units_of" s_units_of ["thing", "room"]) (g_POINT : Gc mg "POINT" (.ref pP)) (tP : ∀ H, SqT K H pP [.str "point"]) (d_has_unit_form : Dn P w K mg base k "has_unit_form" ["thing"] (spForm K)) (d_units_of : Dn P w K mg base k "units_of" ["thing", "room"] (spUnits K n)) :
    Dn P w K mg base (k + 1) "units_of" ["thing", "room"] (spUnits K (n + 1)) := by
  refine F.ok sc_units_of (fun vs H Q E h => ?_) (fun f cdv A outer s H vs Q E hr h => ?_)
  · obtain ⟨t, d, v, r, rfl, _⟩ := h; rfl
  obtain ⟨t, d, v, room, rfl, r0, rn, hd, q⟩ := h
  refine ⟨_, [some _, some _, none, none], 
      (@pss_cons _ _ _ _ _ (@ps_if _ _ _ _ _ _ _ _ (@pt_cmpR _ _ _ _ _ _ _ _ (op_eqD hr) (@pv _ 0 _ _ (by rfl) (by first | exact Or.inl rfl | exact Or.inr (Or.inl rfl) | exact Or.inr (Or.inr rfl)) (by decide) (by decide)) (@pe_gc _ _ _ _ g_POINT rfl (by decide)) (nomark _)) (@pss_one _ _ _ (@ps_ret _ _ _ _ (@pe_int _ _ _ _))) (@pss_nil _)) 
      (@pss_cons _ _ _ _ _ (@ps_if _ _ _ _ _ _ _ _ (@PW.pt _ _ _ (@pw_or _ _ _ _ _ _ _ (@pt_cmpR _ _ _ _ _ _ _ _ op_eq (@pv _ 1 _ _ (by rfl) (by first | exact Or.inl rfl | exact Or.inr (Or.inl rfl) | exact Or.inr (Or.inr rfl)) (by decide) (by decide)) (@pe_int _ _ _ _) (nomark _)) (@pw_or1 _ _ _ _ (@pt_not _ _ _ _ (@pt_val _ _ _ (@pe_callD _ _ _ _ _ _ _ _ _ _ d_has_unit_form hr rfl (@pa_u _ _ _ _ _ (@pv _ 0 _ _ (by rfl) (by first | exact Or.inl rfl | exact Or.inr (Or.inl rfl) | exact Or.inr (Or.inr rfl)) (by decide) (by decide)) (@pa_nil _) (by rfl)) (by rfl) (by decide)) (by intro _; rfl)))))) (@pss_one _ _ _ (@ps_ret _ _ _ _ (@pe_non _ _ _))) (@pss_nil _)) 
      (@pss_cons _ _ _ _ _ (@ps_set _ _ 2 _ _ _ _ sc_units_of.nd rfl (Or.inl rfl) (@pe_callD _ _ _ _ _ _ _ _ _ _ d_units_of hr rfl (@pa_u _ _ _ _ _ (@pe_ix _ _ _ _ _ _ _ ix_tup (@pv _ 0 _ _ (by rfl) (by first | exact Or.inl rfl | exact Or.inr (Or.inl rfl) | exact Or.inr (Or.inr rfl)) (by decide) (by decide)) (@pe_int _ _ _ _) (fun _ _ => rfl)) (@pa_u _ _ _ _ _ (@pe_op _ _ _ _ _ _ _ _ op_sub (@pv _ 1 _ _ (by rfl) (by first | exact Or.inl rfl | exact Or.inr (Or.inl rfl) | exact Or.inr (Or.inr rfl)) (by decide) (by decide)) (@pe_int _ _ _ _)) (@pa_nil _) (by rfl)) (by rfl)) (by rfl) (by decide)) (by rfl) (by first | exact .inl rfl | exact .inr rfl | assumption)) 
      (@pss_cons _ _ _ _ _ (@ps_set _ _ 3 _ _ _ _ sc_units_of.nd rfl (Or.inl rfl) (@pe_int _ _ _ _) (by rfl) (by first | exact .inl rfl | exact .inr rfl | assumption)) 
      (@pss_cut _ _ _ _ _ (@ps_if _ _ _ _ _ _ _ _ (@pt_cmpR _ _ _ _ _ _ _ _ op_notNS (@pe_ix _ _ _ _ _ _ _ ix_tup (@pv _ 0 _ _ (by rfl) (by first | exact Or.inl rfl | exact Or.inr (Or.inl rfl) | exact Or.inr (Or.inr rfl)) (by decide) (by decide)) (@pe_int _ _ _ _) (fun _ _ => rfl)) (@pe_non _ _ _) (nomark _)) (@pss_one _ _ _ (@ps_set _ _ 3 _ _ _ _ sc_units_of.nd rfl (Or.inl rfl) (@pe_callD _ _ _ _ _ _ _ _ _ _ d_units_of hr rfl (@pa_u _ _ _ _ _ (@pe_ix _ _ _ _ _ _ _ ix_tup (@pv _ 0 _ _ (by rfl) (by first | exact Or.inl rfl | exact Or.inr (Or.inl rfl) | exact Or.inr (Or.inr rfl)) (by decide) (by decide)) (@pe_int _ _ _ _) (fun _ _ => rfl)) (@pa_u _ _ _ _ _ (@pe_op _ _ _ _ _ _ _ _ op_sub (@pv _ 1 _ _ (by rfl) (by first | exact Or.inl rfl | exact Or.inr (Or.inl rfl) | exact Or.inr (Or.inr rfl)) (by decide) (by decide)) (@pe_int _ _ _ _)) (@pa_nil _) (by rfl)) (by rfl)) (by rfl) (by decide)) (by rfl) (by first | exact .inl rfl | exact .inr rfl | assumption))) (@pss_nil _)) 
      (@pss_cons _ _ _ _ _ (@ps_if _ _ _ _ _ _ _ _ (@PW.pt _ _ _ (@pw_or _ _ _ _ _ _ _ (@pt_cmpR _ _ _ _ _ _ _ _ op_isNS (@pv _ 2 _ _ (by rfl) (by first | exact Or.inl rfl | exact Or.inr (Or.inl rfl) | exact Or.inr (Or.inr rfl)) (by decide) (by decide)) (@pe_non _ _ _) (nomark _)) (@pw_or1 _ _ _ _ (@pt_cmpR _ _ _ _ _ _ _ _ op_isNS (@pv _ 3 _ _ (by rfl) (by first | exact Or.inl rfl | exact Or.inr (Or.inl rfl) | exact Or.inr (Or.inr rfl)) (by decide) (by decide)) (@pe_non _ _ _) (nomark _))))) (@pss_one _ _ _ (@ps_ret _ _ _ _ (@pe_non _ _ _))) (@pss_nil _)) (@pss_one _ _ _ (@ps_ret _ _ _ _ (@pe_op _ _ _ _ _ _ _ _ op_add (@pe_op _ _ _ _ _ _ _ _ op_add (@pe_int _ _ _ _) (@pv _ 2 _ _ (by rfl) (by first | exact Or.inl rfl | exact Or.inr (Or.inl rfl) | exact Or.inr (Or.inr rfl)) (by decide) (by decide))) (@pv _ 3 _ _ (by rfl) (by first | exact Or.inl rfl | exact Or.inr (Or.inl rfl) | exact Or.inr (Or.inr rfl)) (by decide) (by decide))))))))))), rfl, ?_⟩
  walk_at "cl"
  walk_at "st"
  refine eqF_of hd (pt_dt (tP H)) (depR dep_pt) ?_
  walk_at "rd"
  unfold M.unitsOf at q
  refine ite2 (fun c => ?_) (fun c => ?_)
  · rw [c, if_pos rfl] at q
    exact q
  · rw [Bool.eq_false_iff.mpr c, if_neg Bool.false_ne_true] at q
    walk_at "st"
    refine ite2 (fun c0 => ?_) (fun c0 => ?_)
    · subst c0
      exact q
    · obtain ⟨r, hr'⟩ : ∃ r : Nat, room.toNat = r + 1 := ⟨room.toNat - 1, by omega⟩
      have hr1 : (room - 1).toNat = r := by omega
      rw [hr'] at q
      refine ⟨t, d, v, rfl, hd, ?_⟩
      walk_at "rd"
      refine ite2 (fun cf => ?_) (fun cf => ?_)
      · simp only [cf, if_neg Bool.false_ne_true] at q
        exact q
      · have cf' : form d = true := by simpa using cf
        obtain ⟨d0, d1, d2, d3, d4, d5, rfl⟩ : ∃ d0 d1 d2 d3 d4 d5, d = .tuple [d0, d1, d2, d3, d4, d5] := by
          unfold form at cf'
          split at cf'
          · exact ⟨_, _, _, _, _, _, rfl⟩
          · cases cf'
        simp only [cf', if_pos] at q
        obtain ⟨a, xs, rfl, hs, hx⟩ := hd.tup_inv
        have hl : xs.length = 6 := hx.len.symm
        obtain ⟨_, _, _, _, _, _, v0, v1, v2, v3, v4, v5, e, rfl, h0, h1, h2, h3, h4, h5⟩ := six_of hx hl
        cases e
        walk_at "st"
        refine ⟨_, hs, _, rfl, t, d4, v4, room - 1, rfl, by omega, by omega, h4, ?_⟩
        rw [hr1]
        walk_at "st"
        refine r_cut (fun σ' H' => σ' = [some (.ref a), some (.int room), some (optV (M.unitsOf r d4)), some (optV (if isN d5 = true then some 0 else M.unitsOf r d5))] ∧ H' = H) (fun M hM => ?_) ?_
        · walk_at "rd"
          refine ⟨_, hs, _, rfl, ?_⟩
          walk_at "rd"
          have e5 := dt_non h5
          by_cases c5 : v5 = .non
          · rw [decide_eq_true c5] at e5
            rw [if_neg (by simpa using c5)]
            refine hM _ _ ⟨?_, rfl⟩
            rw [← e5]
            rfl
          · rw [decide_eq_false c5] at e5
            rw [if_pos c5]
            refine ⟨_, hs, _, rfl, t, d5, v5, room - 1, rfl, by omega, by omega, h5, ?_⟩
            rw [hr1]
            refine hM _ _ ⟨?_, rfl⟩
            rw [← e5]
            rfl
        · rintro _ _ ⟨rfl, rfl⟩
          walk_at "st"
          revert q
          generalize M.unitsOf r d4 = u4
          generalize (if isN d5 = true then some 0 else M.unitsOf r d5) = u5
          intro q
          cases u4 with
          | none => exact q
          | some a4 =>
            cases u5 with
            | none => exact q
            | some a5 =>
              rw [if_neg (by intro h; cases h), if_neg (by intro h; cases h)]
              simp only [optV]
              walk_at "rd"
              simp only [optV] at q
              rw [show ((1 + a4 + a5 : Nat) : Int) = 1 + (a4 : Int) + (a5 : Int) by omega] at q
              exact q
theorem all_units {n : Nat} {pP : Addr} (F : Df K mg "units_of" s_units_of ["thing", "room"]) (g_POINT : Gc mg "POINT" (.ref pP)) (tP : ∀ H, SqT K H pP [.str "point"]) (d_has_unit_form : Dn P w K mg base k "has_unit_form" ["thing"] (spForm K)) :
    Dn P w K mg base (k + n) "units_of" ["thing", "room"] (spUnits K n) := by
  induction n with
  | zero => exact F.void fun vs H Q E ⟨_, _, _, _, _, h0, h1, _⟩ => by omega
  | succ n ih => exact ok_units_of F g_POINT tP (d_has_unit_form.mono (Nat.le_add_right k n)) ih
theorem ok_is_rule (F : Df K mg "is_rule" s_is_rule ["thing"]) (g_MOST_DEPTH : Gc mg "MOST_DEPTH" (.int 4)) (g_MOST_UNITS : Gc mg "MOST_UNITS" (.int 10)) (d_units_of : Dn P w K mg base k "units_of" ["thing", "room"] (spUnits K 5)) : Dn P w K mg base (k + 1) "is_rule" ["thing"] (spIsRule K) := by
  refine F.ok sc_is_rule (fun vs H Q E h => ?_) (fun f cdv A outer s H vs Q E hr h => ?_)
  · obtain ⟨t, d, v, rfl, _⟩ := h; rfl
  obtain ⟨t, d, v, rfl, hd, q⟩ := h
  refine ⟨_, [some _, none], 
      (@pss_cons _ _ _ _ _ (@ps_set _ _ 1 _ _ _ _ sc_is_rule.nd rfl (Or.inl rfl) (@pe_callD _ _ _ _ _ _ _ _ _ _ d_units_of hr rfl (@pa_u _ _ _ _ _ (@pv _ 0 _ _ (by rfl) (by first | exact Or.inl rfl | exact Or.inr (Or.inl rfl) | exact Or.inr (Or.inr rfl)) (by decide) (by decide)) (@pa_u _ _ _ _ _ (@pe_gc _ _ _ _ g_MOST_DEPTH rfl (by decide)) (@pa_nil _) (by rfl)) (by rfl)) (by rfl) (by decide)) (by rfl) (by first | exact .inl rfl | exact .inr rfl | assumption)) (@pss_one _ _ _ (@ps_ret _ _ _ _ (@pe_and _ _ _ _ _ _ _ (@pe_cmpR _ _ _ _ _ _ _ _ op_notNS (@pv _ 1 _ _ (by rfl) (by first | exact Or.inl rfl | exact Or.inr (Or.inl rfl) | exact Or.inr (Or.inr rfl)) (by decide) (by decide)) (@pe_non _ _ _) (nomark _)) (@pe_one _ _ _ _ _ (@pe_cmpR _ _ _ _ _ _ _ _ op_le (@pv _ 1 _ _ (by rfl) (by first | exact Or.inl rfl | exact Or.inr (Or.inl rfl) | exact Or.inr (Or.inr rfl)) (by decide) (by decide)) (@pe_gc _ _ _ _ g_MOST_UNITS rfl (by decide)) (nomark _))))))), rfl, ?_⟩
  walk_at "cl"
  walk_at "st"
  refine ⟨t, d, v, 4, rfl, by decide, by decide, hd, ?_⟩
  walk_at "rd"
  simp only [isRule] at q
  rw [show (4 : Int).toNat = 4 from rfl]
  revert q
  generalize M.unitsOf 4 d = u
  intro q
  cases u with
  | none =>
    rw [if_neg (by simp [optV])]
    exact q
  | some n =>
    rw [if_pos (by simp [optV])]
    simp only [optV]
    walk_at "rd"
    rw [show decide ((n : Int) ≤ 10) = decide (n ≤ 10) by simp only [decide_eq_decide]; omega]
    exact q
end
end My
namespace My
open PySem L2 M
section
variable {P : Program} {w : World} {K : PySem.W.Frag} {mg : Str → Option Value} {base : Heap} {ns : List Int} {k : Nat}
theorem ok_played_now (F : Df K mg "played_now" s_played_now ["rule", "zero", "one"]) : Dn P w K mg base (k + 1) "played_now" ["rule", "zero", "one"] (spNow K) := by
  refine F.ok sc_played_now (fun vs H Q E h => ?_) (fun f cdv A outer s H vs Q E hr h => ?_)
  · obtain ⟨rl, v, z, o, rfl, _⟩ := h; rfl
  obtain ⟨rl, v, z, o, rfl, hd, hne, q⟩ := h
  refine ⟨_, [some _, some _, some _, none], 
      (@pss_cons _ _ _ _ _ (@ps_set _ _ 3 _ _ _ _ sc_played_now.nd rfl (Or.inl rfl) (@pe_ix _ _ _ _ _ _ _ ix_tup (@pv _ 0 _ _ (by rfl) (by first | exact Or.inl rfl | exact Or.inr (Or.inl rfl) | exact Or.inr (Or.inr rfl)) (by decide) (by decide)) (@pe_int _ _ _ _) (fun _ _ => rfl)) (by rfl) (by first | exact .inl rfl | exact .inr rfl | assumption)) 
      (@pss_cons _ _ _ _ _ (@ps_if _ _ _ _ _ _ _ _ (@PW.pt _ _ _ (@pw_and _ _ _ _ _ _ _ (@pt_cmpR _ _ _ _ _ _ _ _ op_notNS (@pv _ 3 _ _ (by rfl) (by first | exact Or.inl rfl | exact Or.inr (Or.inl rfl) | exact Or.inr (Or.inr rfl)) (by decide) (by decide)) (@pe_non _ _ _) (nomark _)) (@pw_and1 _ _ _ _ (@pt_chain _ _ _ _ _ _ _ _ _ _ _ _ op_eq op_eq (@pv _ 1 _ _ (by rfl) (by first | exact Or.inl rfl | exact Or.inr (Or.inl rfl) | exact Or.inr (Or.inr rfl)) (by decide) (by decide)) (@pv _ 2 _ _ (by rfl) (by first | exact Or.inl rfl | exact Or.inr (Or.inl rfl) | exact Or.inr (Or.inr rfl)) (by decide) (by decide)) (@pe_op _ _ _ _ _ _ _ _ op_sub (@pe_ix _ _ _ _ _ _ _ ix_tup (@pv _ 0 _ _ (by rfl) (by first | exact Or.inl rfl | exact Or.inr (Or.inl rfl) | exact Or.inr (Or.inr rfl)) (by decide) (by decide)) (@pe_int _ _ _ _) (fun _ _ => rfl)) (@pe_int _ _ _ _)) (by with_unfolding_all rfl))))) (@pss_one _ _ _ (@ps_ret _ _ _ _ (@pv _ 3 _ _ (by rfl) (by first | exact Or.inl rfl | exact Or.inr (Or.inl rfl) | exact Or.inr (Or.inr rfl)) (by decide) (by decide)))) (@pss_nil _)) (@pss_one _ _ _ (@ps_ret _ _ _ _ (@pe_ix _ _ _ _ _ _ _ ix_tup (@pv _ 0 _ _ (by rfl) (by first | exact Or.inl rfl | exact Or.inr (Or.inl rfl) | exact Or.inr (Or.inr rfl)) (by decide) (by decide)) (@pe_int _ _ _ _) (fun _ _ => rfl)))))), rfl, ?_⟩
  walk_at "cl"
  obtain ⟨a, v4, v5, rfl, hs, h4, h5⟩ := rl_acc hd hne
  walk_at "st"
  refine ⟨_, hs, _, rfl, ?_⟩
  walk_at "st"
  have inn : now rl z o = innR rl → (∃ xs, SqT K H a xs ∧ ∃ v, atI xs 4 = some v ∧ Q v H) := fun e => ⟨_, hs, _, rfl, q _ (by rw [e]; exact h4)⟩
  cases hl : lastR rl with
  | none =>
    rw [hl] at h5
    have h5' : v5 = .non := h5
    subst h5'
    walk_at "rd"
    exact inn (now_none hl z o)
  | some l =>
    rw [hl] at h5
    rw [if_pos h5.yes]
    walk_at "rd"
    obtain ⟨c, hc⟩ := cap_of_last hl
    have hn := now_some hl z o
    rw [hc] at hn
    have hs' := hs
    rw [hc] at hs'
    simp only [optI] at hs'
    refine ite2 (fun c1 => ?_) (fun c1 => ?_)
    · refine ⟨_, hs', _, rfl, ?_⟩
      walk_at "rd"
      refine ite2 (fun c2 => ?_) (fun c2 => ?_)
      · rw [if_pos (by unfold atCap; simp; omega)] at hn
        exact q _ (by rw [hn]; exact h5)
      · rw [if_neg (by unfold atCap; simp; omega)] at hn
        exact inn hn
    · rw [if_neg (by unfold atCap; simp; omega)] at hn
      exact inn hn
theorem ok_begun_within {n : Nat} (F : Df K mg "begun_within" s_begun_within ["rule", "zero", "one"]) (d_played_now : Dn P w K mg base k "played_now" ["rule", "zero", "one"] (spNow K)) (d_begun : Dn P w K mg base k "begun" ["rule"] (spBegun K n)) : Dn P w K mg base (k + 1) "begun_within" ["rule", "zero", "one"] (spBegunIn K (n + 1)) := by
  refine F.ok sc_begun_within (fun vs H Q E h => ?_) (fun f cdv A outer s H vs Q E hr h => ?_)
  · obtain ⟨rl, v, z, o, rfl, _⟩ := h; rfl
  obtain ⟨rl, v, z, o, rfl, hd, hne, hn, q⟩ := h
  refine ⟨_, [some _, some _, some _], (@pss_one _ _ _ (@ps_ret _ _ _ _ (@pe_tup _ _ _ _ _ (@pa_u _ _ _ _ _ (@pv _ 1 _ _ (by rfl) (by first | exact Or.inl rfl | exact Or.inr (Or.inl rfl) | exact Or.inr (Or.inr rfl)) (by decide) (by decide)) (@pa_u _ _ _ _ _ (@pv _ 2 _ _ (by rfl) (by first | exact Or.inl rfl | exact Or.inr (Or.inl rfl) | exact Or.inr (Or.inr rfl)) (by decide) (by decide)) (@pa_u _ _ _ _ _ (@pe_callD _ _ _ _ _ _ _ _ _ _ d_begun hr rfl (@pa_u _ _ _ _ _ (@pe_callD _ _ _ _ _ _ _ _ _ _ d_played_now hr rfl (@pa_u _ _ _ _ _ (@pv _ 0 _ _ (by rfl) (by first | exact Or.inl rfl | exact Or.inr (Or.inl rfl) | exact Or.inr (Or.inr rfl)) (by decide) (by decide)) (@pa_u _ _ _ _ _ (@pv _ 1 _ _ (by rfl) (by first | exact Or.inl rfl | exact Or.inr (Or.inl rfl) | exact Or.inr (Or.inr rfl)) (by decide) (by decide)) (@pa_u _ _ _ _ _ (@pv _ 2 _ _ (by rfl) (by first | exact Or.inl rfl | exact Or.inr (Or.inl rfl) | exact Or.inr (Or.inr rfl)) (by decide) (by decide)) (@pa_nil _) (by rfl)) (by rfl)) (by rfl)) (by rfl) (by decide)) (@pa_nil _) (by rfl)) (by rfl) (by decide)) (@pa_nil _) (by rfl)) (by rfl)) (by rfl))))), rfl, ?_⟩
  walk_at "cl"
  walk_at "rd"
  have hdn := depth_now hne z o
  refine ⟨rl, v, z, o, rfl, hd, hne, fun v' h' => ?_⟩
  walk_at "rd"
  refine ⟨now rl z o, v', rfl, h', by omega, fun r H1 S1 st => ?_⟩
  walk_at "rd"
  refine ⟨small6 (by simp), fun p hp => q _ _ (S1.trans (same_new hp _)) (st_cn (.of upd_same) (st.same (same_new hp _)))⟩
theorem ok_begun {n : Nat} {pP : Addr} (F : Df K mg "begun" s_begun ["rule"]) (g_POINT : Gc mg "POINT" (.ref pP)) (tP : ∀ H, SqT K H pP [.str "point"]) (d_begun_within : Dn P w K mg base k "begun_within" ["rule", "zero", "one"] (spBegunIn K n)) : Dn P w K mg base (k + 1) "begun" ["rule"] (spBegun K n) := by
  refine F.ok sc_begun (fun vs H Q E h => ?_) (fun f cdv A outer s H vs Q E hr h => ?_)
  · obtain ⟨d, v, rfl, _⟩ := h; rfl
  obtain ⟨rl, v, rfl, hd, hn, q⟩ := h
  refine ⟨_, [some _], 
      (@pss_cons _ _ _ _ _ (@ps_if _ _ _ _ _ _ _ _ (@pt_cmpR _ _ _ _ _ _ _ _ (op_eqD hr) (@pv _ 0 _ _ (by rfl) (by first | exact Or.inl rfl | exact Or.inr (Or.inl rfl) | exact Or.inr (Or.inr rfl)) (by decide) (by decide)) (@pe_gc _ _ _ _ g_POINT rfl (by decide)) (nomark _)) (@pss_one _ _ _ (@ps_ret _ _ _ _ (@pe_tup _ _ _ _ _ (@pa_nil _)))) (@pss_nil _)) (@pss_one _ _ _ (@ps_ret _ _ _ _ (@pe_callD _ _ _ _ _ _ _ _ _ _ d_begun_within hr rfl (@pa_u _ _ _ _ _ (@pv _ 0 _ _ (by rfl) (by first | exact Or.inl rfl | exact Or.inr (Or.inl rfl) | exact Or.inr (Or.inr rfl)) (by decide) (by decide)) (@pa_u _ _ _ _ _ (@pe_int _ _ _ _) (@pa_u _ _ _ _ _ (@pe_int _ _ _ _) (@pa_nil _) (by rfl)) (by rfl)) (by rfl)) (by rfl) (by decide))))), rfl, ?_⟩
  walk_at "cl"
  walk_at "st"
  refine eqF_of (t := 0) hd (pt_dt (tP H)) (depR dep_pt) ?_
  walk_at "rd"
  refine ite2 (fun c => ?_) (fun c => ?_)
  · rw [eqv_enc_pt] at c
    subst c
    exact ⟨small6 (by simp), fun p hp => q _ _ (same_new hp _) (st_nil (.of upd_same))⟩
  · have hne : rl ≠ .pt := fun z => c ((eqv_enc_pt rl).mpr z)
    rw [begn_unit hne] at q
    exact ⟨rl, v, 0, 0, rfl, hd, hne, hn, q⟩
theorem all_begun {n : Nat} {pP : Addr} (F : Df K mg "begun" s_begun ["rule"]) (Fw : Df K mg "begun_within" s_begun_within ["rule", "zero", "one"]) (g_POINT : Gc mg "POINT" (.ref pP)) (tP : ∀ H, SqT K H pP [.str "point"]) (d_played_now : Dn P w K mg base k "played_now" ["rule", "zero", "one"] (spNow K)) : Dn P w K mg base (k + 2 * n) "begun" ["rule"] (spBegun K n) := by
  induction n with
  | zero => exact F.void fun vs H Q E ⟨_, _, _, _, h, _⟩ => by omega
  | succ n ih => exact ok_begun F g_POINT tP (ok_begun_within Fw (d_played_now.mono (Nat.le_add_right k _)) ih)
end
end My
namespace My
open PySem L2 M
section
variable (K : PySem.W.Frag)
def spDBegun : Sp := fun vs H Q _ => ∃ (da : Addr) (n : Nat) (b tr : Int) (ts : List Th), vs = [.ref da] ∧ DwV K H n b tr ts da ∧ 1 ≤ n ∧ n ≤ 3 ∧ ∀ a H', Same H H' → SnV K H' (begD n b) (.ref a) → Q (.ref a) H'
def spLBegun : Sp := fun vs H Q _ => ∃ (la : Addr) (s : Nat) (p f : Int), vs = [.ref la] ∧ SqT K H la [.int s, .int p, .int f] ∧ 1 ≤ s ∧ s ≤ 3 ∧ ∀ a H', Same H H' → LsV K H' (List.replicate s ⟨0, 0, p, 0, 0, 0, 0⟩) 0 (.ref a) → Q (.ref a) H'
end
section
variable {P : Program} {w : World} {K : PySem.W.Frag} {mg : Str → Option Value} {base : Heap} {ns : List Int} {k : Nat}
theorem ok_down_begun (F : Df K mg "down_begun" s_down_begun ["down"]) : Dn P w K mg base (k + 1) "down_begun" ["down"] (spDBegun K) := by
  refine F.ok sc_down_begun (fun vs H Q E h => ?_) (fun f cdv A outer s H vs Q E hr h => ?_)
  · obtain ⟨da, n, b, tr, ts, rfl, _⟩ := h; rfl
  obtain ⟨da, n, b, tr, ts, rfl, hd, hn1, hn3, q⟩ := h
  refine ⟨_, [some _, none], 
      (@pss_cons _ _ _ _ _ (@ps_set _ _ 1 _ _ _ _ sc_down_begun.nd rfl (Or.inl rfl) (@pe_ix _ _ _ _ _ _ _ ix_tup (@pv _ 0 _ _ (by rfl) (by first | exact Or.inl rfl | exact Or.inr (Or.inl rfl) | exact Or.inr (Or.inr rfl)) (by decide) (by decide)) (@pe_int _ _ _ _) (fun _ _ => rfl)) (by rfl) (by first | exact .inl rfl | exact .inr rfl | assumption)) (@pss_one _ _ _ (@ps_ret _ _ _ _ (@pe_tup _ _ _ _ _ (@pa_u _ _ _ _ _ (@pe_op _ _ _ _ _ _ _ _ op_repT (@pe_tup _ _ _ _ _ (@pa_u _ _ _ _ _ (@pv _ 1 _ _ (by rfl) (by first | exact Or.inl rfl | exact Or.inr (Or.inl rfl) | exact Or.inr (Or.inr rfl)) (by decide) (by decide)) (@pa_nil _) (by rfl))) (@pe_ix _ _ _ _ _ _ _ ix_tup (@pv _ 0 _ _ (by rfl) (by first | exact Or.inl rfl | exact Or.inr (Or.inl rfl) | exact Or.inr (Or.inr rfl)) (by decide) (by decide)) (@pe_int _ _ _ _) (fun _ _ => rfl))) (@pa_u _ _ _ _ _ (@pe_int _ _ _ _) (@pa_u _ _ _ _ _ (@pe_int _ _ _ _) (@pa_u _ _ _ _ _ (@pv _ 1 _ _ (by rfl) (by first | exact Or.inl rfl | exact Or.inr (Or.inl rfl) | exact Or.inr (Or.inr rfl)) (by decide) (by decide)) (@pa_nil _) (by rfl)) (by rfl)) (by rfl)) (by rfl)))))), rfl, ?_⟩
  walk_at "cl"
  obtain ⟨ta, us, hda, hta, htl⟩ := hd
  walk_at "st"
  refine ⟨_, hda, _, rfl, ?_⟩
  walk_at "rd"
  refine ⟨small6 (by simp), fun p2 hp2 => ?_⟩
  have s2 := same_new hp2 (.tup [V.int b])
  refine ⟨_, Same.sqT hda s2, _, rfl, p2, .int b, n, rfl, rfl, hn1, hn3, .of upd_same, fun p3 H3 S3 h3' => ?_⟩
  refine ⟨small6 (by simp), fun p4 hp4 => ?_⟩
  have s4 := same_new hp4 (.tup [V.ref p3, V.int 0, V.int 0, V.int b])
  refine q _ _ ((s2.trans S3).trans s4) (sn_mk (sd := 0) (.of upd_same) ?_)
  rw [List.map_replicate]
  exact Same.sqT h3' s4
theorem ok_lane_begun (F : Df K mg "lane_begun" s_lane_begun ["lane"]) : Dn P w K mg base (k + 1) "lane_begun" ["lane"] (spLBegun K) := by
  refine F.ok sc_lane_begun (fun vs H Q E h => ?_) (fun f cdv A outer s H vs Q E hr h => ?_)
  · obtain ⟨la, s, p, f, rfl, _⟩ := h; rfl
  obtain ⟨la, sd, p, f, rfl, hl, h1, h3, q⟩ := h
  refine ⟨_, [some _, none], 
      (@pss_cons _ _ _ _ _ (@ps_set _ _ 1 _ _ _ _ sc_lane_begun.nd rfl (Or.inl rfl) (@pe_tup _ _ _ _ _ (@pa_u _ _ _ _ _ (@pe_int _ _ _ _) (@pa_u _ _ _ _ _ (@pe_int _ _ _ _) (@pa_u _ _ _ _ _ (@pe_ix _ _ _ _ _ _ _ ix_tup (@pv _ 0 _ _ (by rfl) (by first | exact Or.inl rfl | exact Or.inr (Or.inl rfl) | exact Or.inr (Or.inr rfl)) (by decide) (by decide)) (@pe_int _ _ _ _) (fun _ _ => rfl)) (@pa_u _ _ _ _ _ (@pe_int _ _ _ _) (@pa_u _ _ _ _ _ (@pe_int _ _ _ _) (@pa_u _ _ _ _ _ (@pe_int _ _ _ _) (@pa_u _ _ _ _ _ (@pe_int _ _ _ _) (@pa_nil _) (by rfl)) (by rfl)) (by rfl)) (by rfl)) (by rfl)) (by rfl)) (by rfl))) (by rfl) (by first | exact .inl rfl | exact .inr rfl | assumption)) (@pss_one _ _ _ (@ps_ret _ _ _ _ (@pe_tup _ _ _ _ _ (@pa_u _ _ _ _ _ (@pe_op _ _ _ _ _ _ _ _ op_repT (@pe_tup _ _ _ _ _ (@pa_u _ _ _ _ _ (@pv _ 1 _ _ (by rfl) (by first | exact Or.inl rfl | exact Or.inr (Or.inl rfl) | exact Or.inr (Or.inr rfl)) (by decide) (by decide)) (@pa_nil _) (by rfl))) (@pe_ix _ _ _ _ _ _ _ ix_tup (@pv _ 0 _ _ (by rfl) (by first | exact Or.inl rfl | exact Or.inr (Or.inl rfl) | exact Or.inr (Or.inr rfl)) (by decide) (by decide)) (@pe_int _ _ _ _) (fun _ _ => rfl))) (@pa_u _ _ _ _ _ (@pe_int _ _ _ _) (@pa_nil _) (by rfl)) (by rfl)))))), rfl, ?_⟩
  walk_at "cl"
  walk_at "st"
  refine ⟨_, hl, _, rfl, small6 (by simp), fun p1 hp1 => ?_⟩
  walk_at "rd"
  refine ⟨small6 (by simp), fun p2 hp2 => ?_⟩
  have s1 := same_new hp1 (.tup [V.int 0, V.int 0, V.int p, V.int 0, V.int 0, V.int 0, V.int 0])
  have s2 := same_new hp2 (.tup [V.ref p1])
  have r1 : RwV K (upd H p1 (HO.tup [V.int 0, V.int 0, V.int p, V.int 0, V.int 0, V.int 0, V.int 0])) ⟨0, 0, p, 0, 0, 0, 0⟩ (.ref p1) := rw_mk (.of upd_same)
  refine ⟨_, Same.sqT (Same.sqT hl s1) s2, _, rfl, p2, .ref p1, sd, rfl, rfl, h1, h3, .of upd_same, fun p3 H3 S3 h3' => ?_⟩
  refine ⟨small6 (by simp), fun p4 hp4 => ?_⟩
  have s4 := same_new hp4 (.tup [V.ref p3, V.int 0])
  exact q _ _ (((s1.trans s2).trans S3).trans s4) (ls_mk (.of upd_same) (Same.sqT h3' s4) (RwL.rep ((r1.same (s2.trans S3)).same s4)))
end
end My
namespace My
open PySem L2 M
section
mutual
def fl2 : PyData → Bool
  | .none => true
  | .bool _ => true
  | .int _ => true
  | .str _ => true
  | .tuple ds => decide (ds.length ≤ 100000) && fls2 ds
  | _ => false
def fls2 : List PyData → Bool
  | [] => true
  | d :: ds => fl2 d && fls2 ds
end
theorem fls2_mem : ∀ {ds : List PyData} {d : PyData}, fls2 ds = true → d ∈ ds → fl2 d = true
  | e :: ds, d, h, hm => by
    simp only [fls2, Bool.and_eq_true] at h
    rcases List.mem_cons.mp hm with rfl | hm
    · exact h.1
    · exact fls2_mem h.2 hm
theorem depAll_mem2 : ∀ {ds : List PyData} {d : PyData}, d ∈ ds → d.depth ≤ PyData.depthAll ds
  | e :: ds, d, hm => by
    simp only [PyData.depthAll]
    rcases List.mem_cons.mp hm with rfl | hm
    · omega
    · have := depAll_mem2 hm
      omega
variable (K : PySem.W.Frag)
def spAl2 (n : Nat) : Sp := fun vs H Q _ => ∃ t d x y, vs = [x, y] ∧ Dt K t H d x ∧ Dt K t H d y ∧ fl2 d = true ∧ d.depth < n ∧ n ≤ 100 ∧ ∀ H', Same H H' → Q (.bl true) H'
end
section
variable {P : Program} {w : World} {K : PySem.W.Frag} {mg : Str → Option Value} {base : Heap} {ns : List Int} {k : Nat}
theorem ok_law_al2 {n : Nat} (F : Df K mg "_law_alike" s_law_alike ["_law_due", "_law_found"]) (m_isinstance : mg "isinstance" = none) (m_tuple : mg "tuple" = none) (m_list : mg "list" = none) (m_str : mg "str" = none) (m_len : mg "len" = none) (m_range : mg "range" = none) (m_int : mg "int" = none) (m_bool : mg "bool" = none) (m_all : mg "all" = none)
    (d_law_alike : Dn P w K mg base k "_law_alike" ["_law_due", "_law_found"] (spAl2 K n)) : Dn P w K mg base (k + 1) "_law_alike" ["_law_due", "_law_found"] (spAl2 K (n + 1)) := by
  refine F.ok sc_law_alike (fun vs H Q E h => ?_) (fun f cdv A outer s H vs Q E hr h => ?_)
  · obtain ⟨t, d, x, y, rfl, _⟩ := h; rfl
  obtain ⟨t, d, x, y, rfl, hx, hy, hf, hn, hn1, q⟩ := h
  refine ⟨_, [some _, some _], 
      (@pss_cons _ _ _ _ _ (@ps_if _ _ _ _ _ _ _ _ (@PW.pt _ _ _ (@pw_or _ _ _ _ _ _ _ (@pt_val _ _ _ (@pe_callBu _ _ _ _ _ _ _ _ _ call_isi rfl m_isinstance bt_isinstance (@pa_u _ _ _ _ _ (@pv _ 0 _ _ (by rfl) (by first | exact Or.inl rfl | exact Or.inr (Or.inl rfl) | exact Or.inr (Or.inr rfl)) (by decide) (by decide)) (@pa_u _ _ _ _ _ (@pe_bltn _ _ (.ty "tuple") _ _ rfl m_tuple bt_tuple rfl (by decide) (by decide)) (@pa_nil _) (by rfl)) (by rfl)) (by rfl) (by decide) (by decide)) (by intro _; rfl)) (@pw_or1 _ _ _ _ (@pt_val _ _ _ (@pe_callBu _ _ _ _ _ _ _ _ _ call_isi rfl m_isinstance bt_isinstance (@pa_u _ _ _ _ _ (@pv _ 0 _ _ (by rfl) (by first | exact Or.inl rfl | exact Or.inr (Or.inl rfl) | exact Or.inr (Or.inr rfl)) (by decide) (by decide)) (@pa_u _ _ _ _ _ (@pe_bltn _ _ (.ty "list") _ _ rfl m_list bt_list rfl (by decide) (by decide)) (@pa_nil _) (by rfl)) (by rfl)) (by rfl) (by decide) (by decide)) (by intro _; rfl))))) 
      (@pss_cons _ _ _ _ _ (@ps_if _ _ _ _ _ _ _ _ (@PW.pt _ _ _ (@pw_or _ _ _ _ _ _ _ (@pt_cmpR _ _ _ _ _ _ _ _ op_ne (@pe_callBu _ _ _ _ _ _ _ _ _ call_isi rfl m_isinstance bt_isinstance (@pa_u _ _ _ _ _ (@pv _ 0 _ _ (by rfl) (by first | exact Or.inl rfl | exact Or.inr (Or.inl rfl) | exact Or.inr (Or.inr rfl)) (by decide) (by decide)) (@pa_u _ _ _ _ _ (@pe_bltn _ _ (.ty "tuple") _ _ rfl m_tuple bt_tuple rfl (by decide) (by decide)) (@pa_nil _) (by rfl)) (by rfl)) (by rfl) (by decide) (by decide)) (@pe_callBu _ _ _ _ _ _ _ _ _ call_isi rfl m_isinstance bt_isinstance (@pa_u _ _ _ _ _ (@pv _ 1 _ _ (by rfl) (by first | exact Or.inl rfl | exact Or.inr (Or.inl rfl) | exact Or.inr (Or.inr rfl)) (by decide) (by decide)) (@pa_u _ _ _ _ _ (@pe_bltn _ _ (.ty "tuple") _ _ rfl m_tuple bt_tuple rfl (by decide) (by decide)) (@pa_nil _) (by rfl)) (by rfl)) (by rfl) (by decide) (by decide)) (nomark _)) (@pw_or1 _ _ _ _ (@pt_cmpR _ _ _ _ _ _ _ _ op_ne (@pe_callBu _ _ _ _ _ _ _ _ _ call_isi rfl m_isinstance bt_isinstance (@pa_u _ _ _ _ _ (@pv _ 0 _ _ (by rfl) (by first | exact Or.inl rfl | exact Or.inr (Or.inl rfl) | exact Or.inr (Or.inr rfl)) (by decide) (by decide)) (@pa_u _ _ _ _ _ (@pe_bltn _ _ (.ty "list") _ _ rfl m_list bt_list rfl (by decide) (by decide)) (@pa_nil _) (by rfl)) (by rfl)) (by rfl) (by decide) (by decide)) (@pe_callBu _ _ _ _ _ _ _ _ _ call_isi rfl m_isinstance bt_isinstance (@pa_u _ _ _ _ _ (@pv _ 1 _ _ (by rfl) (by first | exact Or.inl rfl | exact Or.inr (Or.inl rfl) | exact Or.inr (Or.inr rfl)) (by decide) (by decide)) (@pa_u _ _ _ _ _ (@pe_bltn _ _ (.ty "list") _ _ rfl m_list bt_list rfl (by decide) (by decide)) (@pa_nil _) (by rfl)) (by rfl)) (by rfl) (by decide) (by decide)) (nomark _))))) (@pss_one _ _ _ (@ps_ret _ _ _ _ (@pe_bl _ _ _ _))) (@pss_nil _)) (@pss_one _ _ _ (@ps_ret _ _ _ _ (@pe_and _ _ _ _ _ _ _ (@pe_cmpR _ _ _ _ _ _ _ _ op_eq (@pe_callBu _ _ _ _ _ _ _ _ _ call_lenS rfl m_len PySem.boot_len (@pa_u _ _ _ _ _ (@pv _ 0 _ _ (by rfl) (by first | exact Or.inl rfl | exact Or.inr (Or.inl rfl) | exact Or.inr (Or.inr rfl)) (by decide) (by decide)) (@pa_nil _) (by rfl)) (by rfl) (by decide) (by decide)) (@pe_callBu _ _ _ _ _ _ _ _ _ call_lenS rfl m_len PySem.boot_len (@pa_u _ _ _ _ _ (@pv _ 1 _ _ (by rfl) (by first | exact Or.inl rfl | exact Or.inr (Or.inl rfl) | exact Or.inr (Or.inr rfl)) (by decide) (by decide)) (@pa_nil _) (by rfl)) (by rfl) (by decide) (by decide)) (nomark _)) (@pe_one _ _ _ _ _ (@pe_callBu _ _ _ _ _ _ _ _ _ (call_allB rfl) rfl m_all bt_all (@pa_u _ _ _ _ _ (@pe_comp _ _ _ _ _ _ _ _ _ _ _ _ _ rfl (compCap (N := ["_law_due", "_law_found"]) (fr := ["_law_found", "_law_due"]) (osc := defScope s_law_alike) rfl rfl (by decide +kernel) rfl rfl (by intro p hp; simp only [List.mem_cons, List.not_mem_nil, or_false] at hp; rcases hp with rfl | rfl <;> rfl)) (@pi_range1 _ _ _ _ _ _ rfl m_range (@pa_u _ _ _ _ _ (@pe_callBu _ _ _ _ _ _ _ _ _ call_lenS rfl m_len PySem.boot_len (@pa_u _ _ _ _ _ (@pv _ 0 _ _ (by rfl) (by first | exact Or.inl rfl | exact Or.inr (Or.inl rfl) | exact Or.inr (Or.inr rfl)) (by decide) (by decide)) (@pa_nil _) (by rfl)) (by rfl) (by decide) (by decide)) (@pa_nil _) (by rfl)) (by rfl)) (fun _ _ _ _ => (@pts_nil _)) (fun _ _ _ _ => (@pe_callD _ _ _ _ _ _ _ _ _ _ d_law_alike hr rfl (@pa_u _ _ _ _ _ (@pe_ix _ _ _ _ _ _ _ (ixK_seq (K := K) rfl) (@pv _ 1 _ _ (by rfl) (by first | exact Or.inl rfl | exact Or.inr (Or.inl rfl) | exact Or.inr (Or.inr rfl)) (by decide) (by decide)) (@pv _ 0 _ _ (by rfl) (by first | exact Or.inl rfl | exact Or.inr (Or.inl rfl) | exact Or.inr (Or.inr rfl)) (by decide) (by decide)) (fun _ _ => rfl)) (@pa_u _ _ _ _ _ (@pe_ix _ _ _ _ _ _ _ (ixK_seq (K := K) rfl) (@pv _ 2 _ _ (by rfl) (by first | exact Or.inl rfl | exact Or.inr (Or.inl rfl) | exact Or.inr (Or.inr rfl)) (by decide) (by decide)) (@pv _ 0 _ _ (by rfl) (by first | exact Or.inl rfl | exact Or.inr (Or.inl rfl) | exact Or.inr (Or.inr rfl)) (by decide) (by decide)) (fun _ _ => rfl)) (@pa_nil _) (by rfl)) (by rfl)) (by rfl) (by decide))) (by intro _; rfl)) (@pa_nil _) (by rfl)) (by rfl) (by decide) (by decide))))))) (@pss_nil _)) 
      (@pss_cons _ _ _ _ _ (@ps_if _ _ _ _ _ _ _ _ (@pt_cmpR _ _ _ _ _ _ _ _ op_isNS (@pv _ 0 _ _ (by rfl) (by first | exact Or.inl rfl | exact Or.inr (Or.inl rfl) | exact Or.inr (Or.inr rfl)) (by decide) (by decide)) (@pe_non _ _ _) (nomark _)) (@pss_one _ _ _ (@ps_ret _ _ _ _ (@pe_cmpR _ _ _ _ _ _ _ _ op_isNS (@pv _ 1 _ _ (by rfl) (by first | exact Or.inl rfl | exact Or.inr (Or.inl rfl) | exact Or.inr (Or.inr rfl)) (by decide) (by decide)) (@pe_non _ _ _) (nomark _)))) (@pss_nil _)) 
      (@pss_cons _ _ _ _ _ (@ps_if _ _ _ _ _ _ _ _ (@pt_val _ _ _ (@pe_callBu _ _ _ _ _ _ _ _ _ call_isi rfl m_isinstance bt_isinstance (@pa_u _ _ _ _ _ (@pv _ 0 _ _ (by rfl) (by first | exact Or.inl rfl | exact Or.inr (Or.inl rfl) | exact Or.inr (Or.inr rfl)) (by decide) (by decide)) (@pa_u _ _ _ _ _ (@pe_bltn _ _ (.ty "str") _ _ rfl m_str bt_str rfl (by decide) (by decide)) (@pa_nil _) (by rfl)) (by rfl)) (by rfl) (by decide) (by decide)) (by intro _; rfl)) (@pss_one _ _ _ (@ps_ret _ _ _ _ (@pe_and _ _ _ _ _ _ _ (@pe_callBu _ _ _ _ _ _ _ _ _ call_isi rfl m_isinstance bt_isinstance (@pa_u _ _ _ _ _ (@pv _ 1 _ _ (by rfl) (by first | exact Or.inl rfl | exact Or.inr (Or.inl rfl) | exact Or.inr (Or.inr rfl)) (by decide) (by decide)) (@pa_u _ _ _ _ _ (@pe_bltn _ _ (.ty "str") _ _ rfl m_str bt_str rfl (by decide) (by decide)) (@pa_nil _) (by rfl)) (by rfl)) (by rfl) (by decide) (by decide)) (@pe_one _ _ _ _ _ (@pe_cmpR _ _ _ _ _ _ _ _ (op_eqD hr) (@pv _ 1 _ _ (by rfl) (by first | exact Or.inl rfl | exact Or.inr (Or.inl rfl) | exact Or.inr (Or.inr rfl)) (by decide) (by decide)) (@pv _ 0 _ _ (by rfl) (by first | exact Or.inl rfl | exact Or.inr (Or.inl rfl) | exact Or.inr (Or.inr rfl)) (by decide) (by decide)) (nomark _)))))) (@pss_nil _)) 
      (@pss_cons _ _ _ _ _ (@ps_if _ _ _ _ _ _ _ _ (@pt_val _ _ _ (@pe_callBu _ _ _ _ _ _ _ _ _ call_isi rfl m_isinstance bt_isinstance (@pa_u _ _ _ _ _ (@pv _ 0 _ _ (by rfl) (by first | exact Or.inl rfl | exact Or.inr (Or.inl rfl) | exact Or.inr (Or.inr rfl)) (by decide) (by decide)) (@pa_u _ _ _ _ _ (@pe_bltn _ _ (.ty "bool") _ _ rfl m_bool bt_bool rfl (by decide) (by decide)) (@pa_nil _) (by rfl)) (by rfl)) (by rfl) (by decide) (by decide)) (by intro _; rfl)) (@pss_one _ _ _ (@ps_ret _ _ _ _ (@pe_and _ _ _ _ _ _ _ (@pe_callBu _ _ _ _ _ _ _ _ _ call_isi rfl m_isinstance bt_isinstance (@pa_u _ _ _ _ _ (@pv _ 1 _ _ (by rfl) (by first | exact Or.inl rfl | exact Or.inr (Or.inl rfl) | exact Or.inr (Or.inr rfl)) (by decide) (by decide)) (@pa_u _ _ _ _ _ (@pe_bltn _ _ (.ty "bool") _ _ rfl m_bool bt_bool rfl (by decide) (by decide)) (@pa_nil _) (by rfl)) (by rfl)) (by rfl) (by decide) (by decide)) (@pe_one _ _ _ _ _ (@pe_cmpR _ _ _ _ _ _ _ _ (op_eqD hr) (@pv _ 1 _ _ (by rfl) (by first | exact Or.inl rfl | exact Or.inr (Or.inl rfl) | exact Or.inr (Or.inr rfl)) (by decide) (by decide)) (@pv _ 0 _ _ (by rfl) (by first | exact Or.inl rfl | exact Or.inr (Or.inl rfl) | exact Or.inr (Or.inr rfl)) (by decide) (by decide)) (nomark _)))))) (@pss_nil _)) (@pss_one _ _ _ (@ps_ret _ _ _ _ (@pe_and _ _ _ _ _ _ _ (@pe_callBu _ _ _ _ _ _ _ _ _ call_isi rfl m_isinstance bt_isinstance (@pa_u _ _ _ _ _ (@pv _ 1 _ _ (by rfl) (by first | exact Or.inl rfl | exact Or.inr (Or.inl rfl) | exact Or.inr (Or.inr rfl)) (by decide) (by decide)) (@pa_u _ _ _ _ _ (@pe_bltn _ _ (.ty "int") _ _ rfl m_int bt_int rfl (by decide) (by decide)) (@pa_nil _) (by rfl)) (by rfl)) (by rfl) (by decide) (by decide)) (@pe_and _ _ _ _ _ _ _ (@pe_not _ _ _ _ (@pe_callBu _ _ _ _ _ _ _ _ _ call_isi rfl m_isinstance bt_isinstance (@pa_u _ _ _ _ _ (@pv _ 1 _ _ (by rfl) (by first | exact Or.inl rfl | exact Or.inr (Or.inl rfl) | exact Or.inr (Or.inr rfl)) (by decide) (by decide)) (@pa_u _ _ _ _ _ (@pe_bltn _ _ (.ty "bool") _ _ rfl m_bool bt_bool rfl (by decide) (by decide)) (@pa_nil _) (by rfl)) (by rfl)) (by rfl) (by decide) (by decide))) (@pe_one _ _ _ _ _ (@pe_cmpR _ _ _ _ _ _ _ _ (op_eqD hr) (@pv _ 1 _ _ (by rfl) (by first | exact Or.inl rfl | exact Or.inr (Or.inl rfl) | exact Or.inr (Or.inr rfl)) (by decide) (by decide)) (@pv _ 0 _ _ (by rfl) (by first | exact Or.inl rfl | exact Or.inr (Or.inl rfl) | exact Or.inr (Or.inr rfl)) (by decide) (by decide)) (nomark _))))))))))), rfl, ?_⟩
  walk_at "cl"
  have seq : ∀ (ds : List PyData) (xs ys : List V) (a b : Addr), (∀ H1, Same H H1 → (SqL K H1 a xs ∨ SqT K H1 a xs)) → (∀ H1, Same H H1 → (SqL K H1 b ys ∨ SqT K H1 b ys)) → DtL K t H ds xs → DtL K t H ds ys → fls2 ds = true → ds.length ≤ 100000 → PyData.depthAll ds + 1 < n + 1 →
      rLenS K [.ref a] H fun x H1 => rLenS K [.ref b] H1 fun y H2 => rEq x y H2 fun x H1 => ∃ c, x = .bl c ∧ if c = true then tComp (iRng1 (tCons (tCB (rLenS K) (tCons (tVar 0) tNil)) tNil)) tTrue (tCall (spAl2 K n) [] E0 (tCons (tOp (rIx K) (tVar 1) (tVar 0)) (tCons (tOp (rIx K) (tVar 2) (tVar 0)) tNil))) [some (.ref a), some (.ref b)] H1 fun x H1 => rAllB K [x] H1 Q else Q (.bl false) H1 := by
    intro ds xs ys a b ha hb hxs hys hfs hln hdp
    have el := hxs.len
    have el2 := hys.len
    refine ⟨a, xs, rfl, ha _ (.refl _), b, ys, rfl, hb _ (.refl _), ?_⟩
    walk_at "rd"
    rw [if_pos (by omega)]
    refine comp_rG (K := K) (m := xs.length) (fun _ => true) (fun _ y _ => y = V.bl true) (fun R h => ?_) (by omega) (fun _ _ _ _ _ h => h) (fun i H1 hi S1 Q' hq => hq _ (.refl _)) (fun i H1 hi _ S1 Q' hq => ?_) (fun Dl zs H1 S1 hD1 hD1' hall => ?_)
    · walk_at "rd"
      exact ⟨a, xs, rfl, ha _ (.refl _), h⟩
    · have hdi : ds[i]? = some ds[i] := List.getElem?_eq_getElem (by omega)
      obtain ⟨vx, ex, dx⟩ := hxs.get hdi
      obtain ⟨vy, ey, dy⟩ := hys.get hdi
      have ixx : ∀ (a : Addr) (us : List V) (v : V) (H2 : Hp) (Qx : VK), (SqL K H2 a us ∨ SqT K H2 a us) → us[i]? = some v → Qx v H2 → rIx K (.ref a) (.int ((i : Nat) : Int)) H2 Qx := fun a us v H2 Qx hs e hq => by
        rcases hs with z | z
        · exact .inl (by rw [r_ixL]; exact ⟨_, z, _, atI_nat e, hq⟩)
        · exact .inr (.inl (by rw [r_ixT]; exact ⟨_, z, _, atI_nat e, hq⟩))
      walk_at "rd"
      refine ixx a xs vx H1 _ (ha _ S1) ex ?_
      walk_at "rd"
      refine ixx b ys vy H1 _ (hb _ S1) ey ?_
      walk_at "rd"
      refine ⟨t, ds[i], vx, vy, rfl, Same.dt dx S1, Same.dt dy S1, fls2_mem hfs (List.getElem_mem _), ?_, by omega, fun H2 S2 => hq _ _ S2 rfl⟩
      have := depAll_mem2 (ds := ds) (List.getElem_mem (h := (by omega : i < ds.length)))
      omega
    · have e : zs = ((List.range xs.length).map fun _ => true).map V.bl := by
        have := All2.eq (f := fun _ => V.bl true) hall
        rw [this, List.filter_eq_self.mpr (by simp), List.map_map]
        rfl
      refine ⟨Dl, (List.range xs.length).map fun _ => true, rfl, .of (by rw [hD1', e]), ?_⟩
      rw [show ((List.range xs.length).map fun _ => true).all id = true by simp]
      exact q _ S1
  walk_at "st"
  refine isi_of hx ?_
  cases d with
  | tuple ds =>
    refine ⟨_, rfl, ?_⟩
    walk_at "T"
    simp only [fl2, Bool.and_eq_true, decide_eq_true_eq] at hf
    obtain ⟨a, xs, rfl, hxs, hxd⟩ := hx.tup_inv
    obtain ⟨b, ys, rfl, hys, hyd⟩ := hy.tup_inv
    walk_at "st"
    refine isi_of hx ?_
    walk_at "rd"
    refine isi_of hy ?_
    walk_at "rd"
    rw [if_neg (by simp [isiD])]
    refine isi_of hx ?_
    walk_at "rd"
    refine isi_of hy ?_
    walk_at "rd"
    rw [if_neg (by simp [isiD])]
    exact seq ds xs ys a b (fun H1 S1 => .inr (Same.sqT hxs S1)) (fun H1 S1 => .inr (Same.sqT hys S1)) hxd hyd hf.2 hf.1 (by simp only [PyData.depth] at hn; omega)
  | list ds => exact absurd hf (by simp [fl2])
  | none =>
    refine ⟨_, rfl, ?_⟩
    walk_at "F"
    refine isi_of hx ⟨_, rfl, ?_⟩
    walk_at "F"
    simp only [Dt] at hx hy
    subst hx hy
    walk_at "st"
    exact q _ (.refl _)
  | str b =>
    refine ⟨_, rfl, ?_⟩
    walk_at "F"
    refine isi_of hx ⟨_, rfl, ?_⟩
    walk_at "F"
    have hx' := hx
    simp only [Dt] at hx'
    obtain ⟨rfl, hok⟩ := hx'
    walk_at "st"
    rw [if_neg (by simp)]
    walk_at "st"
    refine isi_of hx ⟨_, rfl, ?_⟩
    walk_at "T"
    walk_at "rd"
    refine isi_of hy ⟨_, rfl, ?_⟩
    walk_at "T"
    refine eqF_of hy hx (depR (n := 0) (by simp [PyData.depth])) ?_
    rw [show PyData.eqv (.str b) (.str b) = true by simp [PyData.eqv]]
    exact q _ (.refl _)
  | bool b =>
    refine ⟨_, rfl, ?_⟩
    walk_at "F"
    refine isi_of hx ⟨_, rfl, ?_⟩
    walk_at "F"
    have hx' := hx
    simp only [Dt] at hx'
    subst hx'
    walk_at "st"
    rw [if_neg (by simp)]
    walk_at "st"
    refine isi_of hx ⟨_, rfl, ?_⟩
    walk_at "F"
    walk_at "st"
    refine isi_of hx ⟨_, rfl, ?_⟩
    walk_at "T"
    walk_at "rd"
    refine isi_of hy ⟨_, rfl, ?_⟩
    walk_at "T"
    refine eqF_of hy hx (depR (n := 0) (by simp [PyData.depth])) ?_
    rw [show PyData.eqv (.bool b) (.bool b) = true by simp [PyData.eqv]]
    exact q _ (.refl _)
  | int b =>
    refine ⟨_, rfl, ?_⟩
    walk_at "F"
    refine isi_of hx ⟨_, rfl, ?_⟩
    walk_at "F"
    have hx' := hx
    simp only [Dt] at hx'
    subst hx'
    walk_at "st"
    rw [if_neg (by simp)]
    walk_at "st"
    refine isi_of hx ⟨_, rfl, ?_⟩
    walk_at "F"
    walk_at "st"
    refine isi_of hx ⟨_, rfl, ?_⟩
    walk_at "F"
    walk_at "rd"
    refine isi_of hy ⟨_, rfl, ?_⟩
    walk_at "T"
    refine isi_of hy ?_
    walk_at "rd"
    walk_at "T"
    refine eqF_of hy hx (depR (n := 0) (by simp [PyData.depth])) ?_
    rw [show PyData.eqv (.int b) (.int b) = true by simp [PyData.eqv]]
    exact q _ (.refl _)
  | dict b => simp [fl2] at hf
theorem all_law_al2 {n : Nat} (F : Df K mg "_law_alike" s_law_alike ["_law_due", "_law_found"]) (m_isinstance : mg "isinstance" = none) (m_tuple : mg "tuple" = none) (m_list : mg "list" = none) (m_str : mg "str" = none) (m_len : mg "len" = none) (m_range : mg "range" = none) (m_int : mg "int" = none) (m_bool : mg "bool" = none) (m_all : mg "all" = none) : Dn P w K mg base (k + n) "_law_alike" ["_law_due", "_law_found"] (spAl2 K n) := by
  induction n with
  | zero => exact F.void fun vs H Q E ⟨_, _, _, _, _, _, _, _, h, _⟩ => by omega
  | succ n ih => exact ok_law_al2 F m_isinstance m_tuple m_list m_str m_len m_range m_int m_bool m_all ih
end
end My
namespace My
open PySem L2 M
def gameD (d : PyData) : Bool := match d with
  | .tuple [w, r] => if PyData.eqv w (.str "rally") = true then isRule r else if PyData.eqv w (.str "down") = true then downD r else (PyData.eqv w (.str "lane") && laneD r)
  | _ => false
def firstD : Gm → PyData
  | .ral rl => .tuple [encS (begn rl), .none]
  | .dn n b _ _ => .tuple [encSn (begD n b), .none]
  | .ln s p _ => .tuple [encLs (List.replicate s ⟨0, 0, p, 0, 0, 0, 0⟩) 0, .none]
section
variable (K : PySem.W.Frag)
def spSides : Sp := fun vs H Q _ => ∃ g v, vs = [v] ∧ GmV K H g v ∧ Q (.int g.sides) H
def spFirst : Sp := fun vs H Q _ => ∃ g v, vs = [v] ∧ GmV K H g v ∧ GmOk g ∧ ∀ r H', Same H H' → Dt K 0 H' (firstD g) r → Q r H'
end
section
variable {P : Program} {w : World} {K : PySem.W.Frag} {mg : Str → Option Value} {base : Heap} {ns : List Int} {k : Nat}
theorem game_len {ds : List PyData} (h : ds.length ≠ 2) : gameD (.tuple ds) = false := by
  match ds, h with
  | [], _ => rfl
  | [_], _ => rfl
  | [_, _], h => exact absurd rfl h
  | _ :: _ :: _ :: _, _ => rfl
theorem dt2 {t : Addr} {H : Hp} {d1 d2 : PyData} {xs : List V} (h : DtL K t H [d1, d2] xs) : ∃ v1 v2, xs = [v1, v2] ∧ Dt K t H d1 v1 ∧ Dt K t H d2 v2 := by
  simp only [DtL] at h
  obtain ⟨v1, _, rfl, h1, v2, _, rfl, h2, rfl⟩ := h
  exact ⟨v1, v2, rfl, h1, h2⟩
theorem ok_is_game (F : Df K mg "is_game" s_is_game ["thing"]) (m_isinstance : mg "isinstance" = none) (m_tuple : mg "tuple" = none) (m_len : mg "len" = none) (d_is_rule : Dn P w K mg base k "is_rule" ["thing"] (spIsRule K)) (d_is_down : Dn P w K mg base k "is_down" ["thing"] (spB K downD)) (d_is_lane : Dn P w K mg base k "is_lane" ["thing"] (spIsLane K)) : Dn P w K mg base (k + 1) "is_game" ["thing"] (spB K gameD) := by
  refine F.ok sc_is_game (fun vs H Q E h => ?_) (fun f cdv A outer s H vs Q E hr h => ?_)
  · obtain ⟨t, d, v, rfl, _⟩ := h; rfl
  obtain ⟨t, d, v, rfl, hd, hk, q⟩ := h
  refine ⟨_, [some _], 
      (@pss_cons _ _ _ _ _ (@ps_if _ _ _ _ _ _ _ _ (@PW.pt _ _ _ (@pw_or _ _ _ _ _ _ _ (@pt_not _ _ _ _ (@pt_val _ _ _ (@pe_callBu _ _ _ _ _ _ _ _ _ call_isi rfl m_isinstance bt_isinstance (@pa_u _ _ _ _ _ (@pv _ 0 _ _ (by rfl) (by first | exact Or.inl rfl | exact Or.inr (Or.inl rfl) | exact Or.inr (Or.inr rfl)) (by decide) (by decide)) (@pa_u _ _ _ _ _ (@pe_bltn _ _ (.ty "tuple") _ _ rfl m_tuple bt_tuple rfl (by decide) (by decide)) (@pa_nil _) (by rfl)) (by rfl)) (by rfl) (by decide) (by decide)) (by intro _; rfl))) (@pw_or1 _ _ _ _ (@pt_cmpR _ _ _ _ _ _ _ _ op_ne (@pe_callBu _ _ _ _ _ _ _ _ _ call_lenS rfl m_len PySem.boot_len (@pa_u _ _ _ _ _ (@pv _ 0 _ _ (by rfl) (by first | exact Or.inl rfl | exact Or.inr (Or.inl rfl) | exact Or.inr (Or.inr rfl)) (by decide) (by decide)) (@pa_nil _) (by rfl)) (by rfl) (by decide) (by decide)) (@pe_int _ _ _ _) (nomark _))))) (@pss_one _ _ _ (@ps_ret _ _ _ _ (@pe_bl _ _ _ _))) (@pss_nil _)) 
      (@pss_cons _ _ _ _ _ (@ps_if _ _ _ _ _ _ _ _ (@pt_cmpR _ _ _ _ _ _ _ _ (op_eqD hr) (@pe_ix _ _ _ _ _ _ _ ix_tup (@pv _ 0 _ _ (by rfl) (by first | exact Or.inl rfl | exact Or.inr (Or.inl rfl) | exact Or.inr (Or.inr rfl)) (by decide) (by decide)) (@pe_int _ _ _ _) (fun _ _ => rfl)) (@pe_str _ _ _ _) (nomark _)) (@pss_one _ _ _ (@ps_ret _ _ _ _ (@pe_callD _ _ _ _ _ _ _ _ _ _ d_is_rule hr rfl (@pa_u _ _ _ _ _ (@pe_ix _ _ _ _ _ _ _ ix_tup (@pv _ 0 _ _ (by rfl) (by first | exact Or.inl rfl | exact Or.inr (Or.inl rfl) | exact Or.inr (Or.inr rfl)) (by decide) (by decide)) (@pe_int _ _ _ _) (fun _ _ => rfl)) (@pa_nil _) (by rfl)) (by rfl) (by decide)))) (@pss_nil _)) 
      (@pss_cons _ _ _ _ _ (@ps_if _ _ _ _ _ _ _ _ (@pt_cmpR _ _ _ _ _ _ _ _ (op_eqD hr) (@pe_ix _ _ _ _ _ _ _ ix_tup (@pv _ 0 _ _ (by rfl) (by first | exact Or.inl rfl | exact Or.inr (Or.inl rfl) | exact Or.inr (Or.inr rfl)) (by decide) (by decide)) (@pe_int _ _ _ _) (fun _ _ => rfl)) (@pe_str _ _ _ _) (nomark _)) (@pss_one _ _ _ (@ps_ret _ _ _ _ (@pe_callD _ _ _ _ _ _ _ _ _ _ d_is_down hr rfl (@pa_u _ _ _ _ _ (@pe_ix _ _ _ _ _ _ _ ix_tup (@pv _ 0 _ _ (by rfl) (by first | exact Or.inl rfl | exact Or.inr (Or.inl rfl) | exact Or.inr (Or.inr rfl)) (by decide) (by decide)) (@pe_int _ _ _ _) (fun _ _ => rfl)) (@pa_nil _) (by rfl)) (by rfl) (by decide)))) (@pss_nil _)) (@pss_one _ _ _ (@ps_ret _ _ _ _ (@pe_and _ _ _ _ _ _ _ (@pe_cmpR _ _ _ _ _ _ _ _ (op_eqD hr) (@pe_ix _ _ _ _ _ _ _ ix_tup (@pv _ 0 _ _ (by rfl) (by first | exact Or.inl rfl | exact Or.inr (Or.inl rfl) | exact Or.inr (Or.inr rfl)) (by decide) (by decide)) (@pe_int _ _ _ _) (fun _ _ => rfl)) (@pe_str _ _ _ _) (nomark _)) (@pe_one _ _ _ _ _ (@pe_callD _ _ _ _ _ _ _ _ _ _ d_is_lane hr rfl (@pa_u _ _ _ _ _ (@pe_ix _ _ _ _ _ _ _ ix_tup (@pv _ 0 _ _ (by rfl) (by first | exact Or.inl rfl | exact Or.inr (Or.inl rfl) | exact Or.inr (Or.inr rfl)) (by decide) (by decide)) (@pe_int _ _ _ _) (fun _ _ => rfl)) (@pa_nil _) (by rfl)) (by rfl) (by decide))))))))), rfl, ?_⟩
  walk_at "cl"
  have no : ∀ {d : PyData}, gameD d = false → (∀ H', Same H H' → Q (.bl (gameD d)) H') → ∀ H', Same H H' → Q (.bl false) H' := fun e q H' S => by have := q H' S; rw [e] at this; exact this
  walk_at "st"
  refine isi_of hd ?_
  walk_at "rd"
  cases d with
  | tuple ds =>
    obtain ⟨a, xs, rfl, hs, hx⟩ := Dt.tup_inv hd
    have hxl := hx.len
    obtain ⟨_, hsm⟩ := sm_tup hk
    rw [if_neg (by simp [isiD])]
    refine lenT_of hs ?_
    walk_at "rd"
    refine ite2 (fun c => ?_) (fun c => ?_)
    · exact no (game_len (by omega)) q _ (.refl _)
    have h2 : ds.length = 2 := by omega
    match ds, h2 with
    | [d0, d1], _ =>
      obtain ⟨v0, v1, rfl, h0, h1⟩ := dt2 hx
      have eG : gameD (.tuple [d0, d1]) = if PyData.eqv d0 (.str "rally") = true then isRule d1 else if PyData.eqv d0 (.str "down") = true then downD d1 else (PyData.eqv d0 (.str "lane") && laneD d1) := rfl
      walk_at "st"
      refine ⟨_, hs, _, atI_nat (j := 0) rfl, eqF_of h0 (dstr "rally") (depR (n := 0) rfl) ?_⟩
      walk_at "rd"
      refine ite2 (fun c1 => ?_) (fun c1 => ?_)
      · rw [if_pos c1] at eG
        refine ⟨_, hs, _, atI_nat (j := 1) rfl, t, d1, v1, rfl, h1, ?_⟩
        have := q _ (.refl _)
        rw [eG] at this
        exact this
      rw [if_neg c1] at eG
      walk_at "st"
      refine ⟨_, hs, _, atI_nat (j := 0) rfl, eqF_of h0 (dstr "down") (depR (n := 0) rfl) ?_⟩
      walk_at "rd"
      refine ite2 (fun c2 => ?_) (fun c2 => ?_)
      · rw [if_pos c2] at eG
        refine ⟨_, hs, _, atI_nat (j := 1) rfl, t, d1, v1, rfl, h1, hsm d1 (by simp), fun H1 S1 => ?_⟩
        have := q _ S1
        rw [eG] at this
        exact this
      rw [if_neg c2] at eG
      refine ⟨_, hs, _, atI_nat (j := 0) rfl, eqF_of h0 (dstr "lane") (depR (n := 0) rfl) ⟨_, rfl, ?_⟩⟩
      refine ite2 (fun c3 => ?_) (fun c3 => ?_)
      · rw [c3, Bool.true_and] at eG
        refine ⟨_, hs, _, atI_nat (j := 1) rfl, t, d1, v1, rfl, h1, fun H1 S1 => ?_⟩
        have := q _ S1
        rw [eG] at this
        exact this
      · rw [show PyData.eqv d0 (.str "lane") = false by simpa using c3, Bool.false_and] at eG
        have := q _ (.refl _)
        rw [eG] at this
        first | exact this | (rw [show PyData.eqv d0 (.str (Str.ofString "lane")) = false by simpa using c3]; exact this)
  | none => rw [if_pos (by simp [isiD])]; exact no rfl q _ (.refl _)
  | bool b => rw [if_pos (by simp [isiD])]; exact no rfl q _ (.refl _)
  | int i => rw [if_pos (by simp [isiD])]; exact no rfl q _ (.refl _)
  | str x => rw [if_pos (by simp [isiD])]; exact no rfl q _ (.refl _)
  | list x => rw [if_pos (by simp [isiD])]; exact no rfl q _ (.refl _)
  | dict x => rw [if_pos (by simp [isiD])]; exact no rfl q _ (.refl _)
theorem ok_sides_of (F : Df K mg "sides_of" s_sides_of ["game"]) : Dn P w K mg base (k + 1) "sides_of" ["game"] (spSides K) := by
  refine F.ok sc_sides_of (fun vs H Q E h => ?_) (fun f cdv A outer s H vs Q E hr h => ?_)
  · obtain ⟨g, v, rfl, _⟩ := h; rfl
  obtain ⟨g, v, rfl, hg, q⟩ := h
  refine ⟨_, [some _], 
      (@pss_cons _ _ _ _ _ (@ps_if _ _ _ _ _ _ _ _ (@pt_cmpR _ _ _ _ _ _ _ _ op_eq (@pe_ix _ _ _ _ _ _ _ ix_tup (@pv _ 0 _ _ (by rfl) (by first | exact Or.inl rfl | exact Or.inr (Or.inl rfl) | exact Or.inr (Or.inr rfl)) (by decide) (by decide)) (@pe_int _ _ _ _) (fun _ _ => rfl)) (@pe_str _ _ _ _) (nomark _)) (@pss_one _ _ _ (@ps_ret _ _ _ _ (@pe_int _ _ _ _))) (@pss_nil _)) (@pss_one _ _ _ (@ps_ret _ _ _ _ (@pe_ix _ _ _ _ _ _ _ ix_tup (@pe_ix _ _ _ _ _ _ _ ix_tup (@pv _ 0 _ _ (by rfl) (by first | exact Or.inl rfl | exact Or.inr (Or.inl rfl) | exact Or.inr (Or.inr rfl)) (by decide) (by decide)) (@pe_int _ _ _ _) (fun _ _ => rfl)) (@pe_int _ _ _ _) (fun _ _ => rfl))))), rfl, ?_⟩
  walk_at "cl"
  obtain ⟨a, rv, rfl, hs, hr⟩ := hg
  walk_at "st"
  refine ⟨_, hs, _, atI_nat (j := 0) rfl, ?_⟩
  cases g with
  | ral rl =>
    walk_at "rd"
    walk_at "T"
    exact q
  | dn n b tr ths =>
    obtain ⟨da, rfl, ta, vs, h1, _⟩ := hr
    walk_at "rd"
    rw [if_neg Gm.dn_ral]
    refine ⟨_, hs, _, atI_nat (j := 1) rfl, ?_⟩
    walk_at "rd"
    exact ⟨_, h1, _, atI_nat (j := 0) rfl, q⟩
  | ln s p f =>
    obtain ⟨la, rfl, h1⟩ := hr
    walk_at "rd"
    rw [if_neg Gm.ln_ral]
    refine ⟨_, hs, _, atI_nat (j := 1) rfl, ?_⟩
    walk_at "rd"
    exact ⟨_, h1, _, atI_nat (j := 0) rfl, q⟩
theorem ok_first (F : Df K mg "first" s_first ["game"]) (d_begun : Dn P w K mg base k "begun" ["rule"] (spBegun K 5)) (d_down_begun : Dn P w K mg base k "down_begun" ["down"] (spDBegun K)) (d_lane_begun : Dn P w K mg base k "lane_begun" ["lane"] (spLBegun K)) : Dn P w K mg base (k + 1) "first" ["game"] (spFirst K) := by
  refine F.ok sc_first (fun vs H Q E h => ?_) (fun f cdv A outer s H vs Q E hr h => ?_)
  · obtain ⟨g, v, rfl, _⟩ := h; rfl
  obtain ⟨g, v, rfl, hg, hok, q⟩ := h
  refine ⟨_, [some _], 
      (@pss_cons _ _ _ _ _ (@ps_if _ _ _ _ _ _ _ _ (@pt_cmpR _ _ _ _ _ _ _ _ op_eq (@pe_ix _ _ _ _ _ _ _ ix_tup (@pv _ 0 _ _ (by rfl) (by first | exact Or.inl rfl | exact Or.inr (Or.inl rfl) | exact Or.inr (Or.inr rfl)) (by decide) (by decide)) (@pe_int _ _ _ _) (fun _ _ => rfl)) (@pe_str _ _ _ _) (nomark _)) (@pss_one _ _ _ (@ps_ret _ _ _ _ (@pe_tup _ _ _ _ _ (@pa_u _ _ _ _ _ (@pe_callD _ _ _ _ _ _ _ _ _ _ d_begun hr rfl (@pa_u _ _ _ _ _ (@pe_ix _ _ _ _ _ _ _ ix_tup (@pv _ 0 _ _ (by rfl) (by first | exact Or.inl rfl | exact Or.inr (Or.inl rfl) | exact Or.inr (Or.inr rfl)) (by decide) (by decide)) (@pe_int _ _ _ _) (fun _ _ => rfl)) (@pa_nil _) (by rfl)) (by rfl) (by decide)) (@pa_u _ _ _ _ _ (@pe_non _ _ _) (@pa_nil _) (by rfl)) (by rfl))))) (@pss_nil _)) 
      (@pss_cons _ _ _ _ _ (@ps_if _ _ _ _ _ _ _ _ (@pt_cmpR _ _ _ _ _ _ _ _ op_eq (@pe_ix _ _ _ _ _ _ _ ix_tup (@pv _ 0 _ _ (by rfl) (by first | exact Or.inl rfl | exact Or.inr (Or.inl rfl) | exact Or.inr (Or.inr rfl)) (by decide) (by decide)) (@pe_int _ _ _ _) (fun _ _ => rfl)) (@pe_str _ _ _ _) (nomark _)) (@pss_one _ _ _ (@ps_ret _ _ _ _ (@pe_tup _ _ _ _ _ (@pa_u _ _ _ _ _ (@pe_callD _ _ _ _ _ _ _ _ _ _ d_down_begun hr rfl (@pa_u _ _ _ _ _ (@pe_ix _ _ _ _ _ _ _ ix_tup (@pv _ 0 _ _ (by rfl) (by first | exact Or.inl rfl | exact Or.inr (Or.inl rfl) | exact Or.inr (Or.inr rfl)) (by decide) (by decide)) (@pe_int _ _ _ _) (fun _ _ => rfl)) (@pa_nil _) (by rfl)) (by rfl) (by decide)) (@pa_u _ _ _ _ _ (@pe_non _ _ _) (@pa_nil _) (by rfl)) (by rfl))))) (@pss_nil _)) (@pss_one _ _ _ (@ps_ret _ _ _ _ (@pe_tup _ _ _ _ _ (@pa_u _ _ _ _ _ (@pe_callD _ _ _ _ _ _ _ _ _ _ d_lane_begun hr rfl (@pa_u _ _ _ _ _ (@pe_ix _ _ _ _ _ _ _ ix_tup (@pv _ 0 _ _ (by rfl) (by first | exact Or.inl rfl | exact Or.inr (Or.inl rfl) | exact Or.inr (Or.inr rfl)) (by decide) (by decide)) (@pe_int _ _ _ _) (fun _ _ => rfl)) (@pa_nil _) (by rfl)) (by rfl) (by decide)) (@pa_u _ _ _ _ _ (@pe_non _ _ _) (@pa_nil _) (by rfl)) (by rfl))))))), rfl, ?_⟩
  walk_at "cl"
  obtain ⟨a, rv, rfl, hs, hr⟩ := hg
  walk_at "st"
  refine ⟨_, hs, _, atI_nat (j := 0) rfl, ?_⟩
  cases g with
  | ral rl =>
    walk_at "rd"
    walk_at "T"
    refine ⟨_, hs, _, atI_nat (j := 1) rfl, rl, rv, rfl, hr, by have := hok.2.1; omega, fun r1 H1 S1 st => ?_⟩
    refine ⟨small6 (by simp), fun p hp => q _ _ (S1.trans (same_new hp _)) (Dt.newT hp (.cons st (.cons .non .nil)))⟩
  | dn n b tr ths =>
    obtain ⟨da, rfl, hr⟩ := hr
    walk_at "rd"
    rw [if_neg Gm.dn_ral]
    walk_at "st"
    refine ⟨_, hs, _, atI_nat (j := 0) rfl, ?_⟩
    walk_at "rd"
    walk_at "T"
    refine ⟨_, hs, _, atI_nat (j := 1) rfl, da, n, b, tr, ths, rfl, hr, hok.1.n1, hok.1.n3, fun r1 H1 S1 st => ?_⟩
    refine ⟨small6 (by simp), fun p hp => q _ _ (S1.trans (same_new hp _)) (Dt.newT hp (.cons st (.cons .non .nil)))⟩
  | ln s p f =>
    obtain ⟨la, rfl, hr⟩ := hr
    walk_at "rd"
    rw [if_neg Gm.ln_ral]
    walk_at "st"
    refine ⟨_, hs, _, atI_nat (j := 0) rfl, ?_⟩
    walk_at "rd"
    rw [if_neg Gm.ln_dn]
    refine ⟨_, hs, _, atI_nat (j := 1) rfl, la, s, p, f, rfl, hr, hok.1.1, hok.1.2, fun r1 H1 S1 st => ?_⟩
    refine ⟨small6 (by simp), fun p hp => q _ _ (S1.trans (same_new hp _)) (Dt.newT hp (.cons st (.cons .non .nil)))⟩
end
end My
namespace My
open PySem L2 M
def luD : Nat → PyData → Nat
  | room, d => if PyData.eqv d pointD then 0 else match room with
    | 0 => 99
    | r + 1 => if form d then (match d with
        | .tuple [_, _, _, _, i, l] => 1 + luD r i + (if isN l then 0 else luD r l)
        | _ => 99) else 99
theorem lu_of : ∀ (room : Nat) (d : PyData), (∀ n, M.unitsOf room d = some n → luD room d = n) ∧ (M.unitsOf room d = none → 99 ≤ luD room d)
  | 0, d => by
    unfold M.unitsOf luD
    by_cases c : PyData.eqv d pointD = true
    · rw [if_pos c, if_pos c]; exact ⟨fun n h => by cases h; rfl, fun h => by cases h⟩
    · rw [if_neg c, if_neg c]; exact ⟨fun n h => (nomatch h), fun _ => Nat.le_refl _⟩
  | r + 1, d => by
    unfold M.unitsOf luD
    by_cases c : PyData.eqv d pointD = true
    · rw [if_pos c, if_pos c]; exact ⟨fun n h => by cases h; rfl, fun h => by cases h⟩
    · rw [if_neg c, if_neg c]
      by_cases cf : form d = true
      · obtain ⟨d0, d1, d2, d3, d4, d5, rfl⟩ : ∃ d0 d1 d2 d3 d4 d5, d = .tuple [d0, d1, d2, d3, d4, d5] := by
          unfold form at cf
          split at cf
          · exact ⟨_, _, _, _, _, _, rfl⟩
          · cases cf
        simp only [if_pos cf]
        obtain ⟨a1, a2⟩ := lu_of r d4
        obtain ⟨b1, b2⟩ := lu_of r d5
        cases e4 : M.unitsOf r d4 with
        | none =>
          have := a2 e4
          refine ⟨fun n h => (nomatch h), fun _ => by omega⟩
        | some x =>
          have := a1 x e4
          by_cases c5 : isN d5 = true
          · simp only [if_pos c5]
            exact ⟨fun n h => by cases h; omega, fun h => (nomatch h)⟩
          · simp only [if_neg c5]
            cases e5 : M.unitsOf r d5 with
            | none =>
              have := b2 e5
              exact ⟨fun n h => (nomatch h), fun _ => by omega⟩
            | some y =>
              have := b1 y e5
              exact ⟨fun n h => by cases h; omega, fun h => (nomatch h)⟩
      · simp only [if_neg cf]
        exact ⟨fun n h => (nomatch h), fun _ => Nat.le_refl _⟩
theorem lu_rule (d : PyData) : decide ((luD 4 d : Int) ≤ 10) = isRule d := by
  obtain ⟨h1, h2⟩ := lu_of 4 d
  unfold isRule
  cases e : M.unitsOf 4 d with
  | none => have := h2 e; exact decide_eq_false (by omega)
  | some n => have := h1 n e; rw [this]; simp only [decide_eq_decide]; omega
theorem via2 {F Y G : Prop} (h : (F → Y) → G) (b : F → Y) : G := h b
section
variable (K : PySem.W.Frag) (ns : List Int)
def spGame : Sp := fun vs H Q _ => ∃ t, vs = [.ref t] ∧ Tape K ns t H ∧ ∀ g v H', Cur K ns t H H' → GmV K H' g v → GmOk g → Q v H'
def spNumb : Sp := fun vs H Q _ => ∃ t d v lo hi, vs = [v, .int lo, .int hi] ∧ Dt K t H d v ∧ Q (.bl (whl d lo hi)) H
def spLU (n : Nat) : Sp := fun vs H Q _ => ∃ t d v ar, vs = [v, .int ar] ∧ 0 ≤ ar ∧ ar ≤ 4 ∧ (4 - ar).toNat < n ∧ Dt K t H d v ∧ ∀ H', Same H H' → Q (.int (luD (4 - ar).toNat d)) H'
def spNumbs : Sp := fun vs H Q _ => ∃ t a b ds xs, ∃ ms : List Int, vs = [.ref a, .ref b] ∧ SqT K H a xs ∧ DtL K t H ds xs ∧ 3 ≤ ds.length ∧ SqL K H b (ms.map V.int) ∧ ms.length = 3 ∧ ∀ H', Same H H' → Q (.bl ((List.range 3).all (whlAt ds ms))) H'
end
section
variable {P : Program} {w : World} {K : PySem.W.Frag} {mg : Str → Option Value} {base : Heap} {ns : List Int} {k : Nat}
theorem ok_law_game (F : Df K mg "_law_game" s_law_game ["_law_tape_here"]) (d_law_draw : Dn P w K mg base k "_law_draw" ["_law_tape_here", "_law_many"] (spDraw K ns)) (d_law_any_rule : Dn P w K mg base k "_law_any_rule" ["_law_tape_here"] (spAny K ns)) (d_law_down : Dn P w K mg base k "_law_down" ["_law_tape_here"] (spDown K ns)) (d_law_lane : Dn P w K mg base k "_law_lane" ["_law_tape_here"] (spLane K ns)) : Dn P w K mg base (k + 1) "_law_game" ["_law_tape_here"] (spGame K ns) := by
  refine F.ok sc_law_game (fun vs H Q E h => ?_) (fun f cdv A outer s H vs Q E hr h => ?_)
  · obtain ⟨t, rfl, _⟩ := h; rfl
  obtain ⟨t, rfl, T, q⟩ := h
  refine ⟨_, [some _, none], 
      (@pss_cons _ _ _ _ _ (@ps_set _ _ 1 _ _ _ _ sc_law_game.nd rfl (Or.inl rfl) (@pe_callD _ _ _ _ _ _ _ _ _ _ d_law_draw hr rfl (@pa_u _ _ _ _ _ (@pv _ 0 _ _ (by rfl) (by first | exact Or.inl rfl | exact Or.inr (Or.inl rfl) | exact Or.inr (Or.inr rfl)) (by decide) (by decide)) (@pa_u _ _ _ _ _ (@pe_int _ _ _ _) (@pa_nil _) (by rfl)) (by rfl)) (by rfl) (by decide)) (by rfl) (by first | exact .inl rfl | exact .inr rfl | assumption)) 
      (@pss_cons _ _ _ _ _ (@ps_if _ _ _ _ _ _ _ _ (@pt_cmpR _ _ _ _ _ _ _ _ op_eq (@pv _ 1 _ _ (by rfl) (by first | exact Or.inl rfl | exact Or.inr (Or.inl rfl) | exact Or.inr (Or.inr rfl)) (by decide) (by decide)) (@pe_int _ _ _ _) (nomark _)) (@pss_one _ _ _ (@ps_ret _ _ _ _ (@pe_tup _ _ _ _ _ (@pa_u _ _ _ _ _ (@pe_str _ _ _ _) (@pa_u _ _ _ _ _ (@pe_callD _ _ _ _ _ _ _ _ _ _ d_law_any_rule hr rfl (@pa_u _ _ _ _ _ (@pv _ 0 _ _ (by rfl) (by first | exact Or.inl rfl | exact Or.inr (Or.inl rfl) | exact Or.inr (Or.inr rfl)) (by decide) (by decide)) (@pa_nil _) (by rfl)) (by rfl) (by decide)) (@pa_nil _) (by rfl)) (by rfl))))) (@pss_nil _)) 
      (@pss_cons _ _ _ _ _ (@ps_if _ _ _ _ _ _ _ _ (@pt_cmpR _ _ _ _ _ _ _ _ op_eq (@pv _ 1 _ _ (by rfl) (by first | exact Or.inl rfl | exact Or.inr (Or.inl rfl) | exact Or.inr (Or.inr rfl)) (by decide) (by decide)) (@pe_int _ _ _ _) (nomark _)) (@pss_one _ _ _ (@ps_ret _ _ _ _ (@pe_tup _ _ _ _ _ (@pa_u _ _ _ _ _ (@pe_str _ _ _ _) (@pa_u _ _ _ _ _ (@pe_callD _ _ _ _ _ _ _ _ _ _ d_law_down hr rfl (@pa_u _ _ _ _ _ (@pv _ 0 _ _ (by rfl) (by first | exact Or.inl rfl | exact Or.inr (Or.inl rfl) | exact Or.inr (Or.inr rfl)) (by decide) (by decide)) (@pa_nil _) (by rfl)) (by rfl) (by decide)) (@pa_nil _) (by rfl)) (by rfl))))) (@pss_nil _)) (@pss_one _ _ _ (@ps_ret _ _ _ _ (@pe_tup _ _ _ _ _ (@pa_u _ _ _ _ _ (@pe_str _ _ _ _) (@pa_u _ _ _ _ _ (@pe_callD _ _ _ _ _ _ _ _ _ _ d_law_lane hr rfl (@pa_u _ _ _ _ _ (@pv _ 0 _ _ (by rfl) (by first | exact Or.inl rfl | exact Or.inr (Or.inl rfl) | exact Or.inr (Or.inr rfl)) (by decide) (by decide)) (@pa_nil _) (by rfl)) (by rfl) (by decide)) (@pa_nil _) (by rfl)) (by rfl)))))))), rfl, ?_⟩
  walk_at "cl"
  walk_at "st"
  refine draw_of T fun r1 H1 r10 r11 c1 => ?_
  walk_at "st"
  refine ite2 (fun _ => ?_) (fun _ => ?_)
  · refine ⟨t, rfl, c1.tape, fun rl r H2 o1 o2 o3 c2 hd => ⟨small6 (by simp), fun p hp => ?_⟩⟩
    exact q (.ral rl) _ _ ((c1.then c2).new hp _) ⟨p, _, rfl, .of upd_same, (RlV.of hd).same (same_new hp _)⟩ ⟨o1, o2, o3⟩
  walk_at "st"
  refine ite2 (fun _ => ?_) (fun _ => ?_)
  · obtain ⟨sc, T1⟩ := c1.tape.s
    refine ⟨t, sc, rfl, T1, fun da n b tr ths H2 c2 hdw n1 n3 b1 b2 t1 t3 l1 l2 hnd hok => ⟨small6 (by simp), fun p hp => ?_⟩⟩
    exact q (.dn n b tr ths) _ _ ((c1.then c2.cur).new hp _) ⟨p, _, rfl, .of upd_same, da, rfl, hdw.same (same_new hp _)⟩ ⟨⟨n1, n3, b1, b2, t1, t3, l1, l2, hok⟩, hnd⟩
  · obtain ⟨sc, T1⟩ := c1.tape.s
    refine ⟨t, sc, rfl, T1, fun la s p f H2 s1 s3 p1 p20 f1 f12 c2 hs => ⟨small6 (by simp), fun p' hp => ?_⟩⟩
    exact q (.ln s p f) _ _ ((c1.then c2.cur).new hp _) ⟨p', _, rfl, .of upd_same, la, rfl, Same.sqT hs (same_new hp _)⟩ ⟨⟨s1, s3⟩, ⟨p1, p20⟩, f1, f12⟩
theorem ok_law_inner (F : Df K mg "_law_inner" s_law_inner ["_law_rule_here", "_law_zero", "_law_one"]) : Dn P w K mg base (k + 1) "_law_inner" ["_law_rule_here", "_law_zero", "_law_one"] (spNow K) := by
  refine F.ok sc_law_inner (fun vs H Q E h => ?_) (fun f cdv A outer s H vs Q E hr h => ?_)
  · obtain ⟨rl, v, z, o, rfl, _⟩ := h; rfl
  obtain ⟨rl, v, z, o, rfl, hd, hne, q⟩ := h
  refine ⟨_, [some _, some _, some _], 
      (@pss_cons _ _ _ _ _ (@ps_if _ _ _ _ _ _ _ _ (@PW.pt _ _ _ (@pw_and _ _ _ _ _ _ _ (@pt_cmpR _ _ _ _ _ _ _ _ op_notNS (@pe_ix _ _ _ _ _ _ _ ix_tup (@pv _ 0 _ _ (by rfl) (by first | exact Or.inl rfl | exact Or.inr (Or.inl rfl) | exact Or.inr (Or.inr rfl)) (by decide) (by decide)) (@pe_int _ _ _ _) (fun _ _ => rfl)) (@pe_non _ _ _) (nomark _)) (@pw_and _ _ _ _ _ _ _ (@pt_cmpR _ _ _ _ _ _ _ _ op_eq (@pv _ 1 _ _ (by rfl) (by first | exact Or.inl rfl | exact Or.inr (Or.inl rfl) | exact Or.inr (Or.inr rfl)) (by decide) (by decide)) (@pv _ 2 _ _ (by rfl) (by first | exact Or.inl rfl | exact Or.inr (Or.inl rfl) | exact Or.inr (Or.inr rfl)) (by decide) (by decide)) (nomark _)) (@pw_and1 _ _ _ _ (@pt_cmpR _ _ _ _ _ _ _ _ op_eq (@pe_op _ _ _ _ _ _ _ _ op_add (@pv _ 1 _ _ (by rfl) (by first | exact Or.inl rfl | exact Or.inr (Or.inl rfl) | exact Or.inr (Or.inr rfl)) (by decide) (by decide)) (@pe_int _ _ _ _)) (@pe_ix _ _ _ _ _ _ _ ix_tup (@pv _ 0 _ _ (by rfl) (by first | exact Or.inl rfl | exact Or.inr (Or.inl rfl) | exact Or.inr (Or.inr rfl)) (by decide) (by decide)) (@pe_int _ _ _ _) (fun _ _ => rfl)) (nomark _)))))) (@pss_one _ _ _ (@ps_ret _ _ _ _ (@pe_ix _ _ _ _ _ _ _ ix_tup (@pv _ 0 _ _ (by rfl) (by first | exact Or.inl rfl | exact Or.inr (Or.inl rfl) | exact Or.inr (Or.inr rfl)) (by decide) (by decide)) (@pe_int _ _ _ _) (fun _ _ => rfl)))) (@pss_nil _)) (@pss_one _ _ _ (@ps_ret _ _ _ _ (@pe_ix _ _ _ _ _ _ _ ix_tup (@pv _ 0 _ _ (by rfl) (by first | exact Or.inl rfl | exact Or.inr (Or.inl rfl) | exact Or.inr (Or.inr rfl)) (by decide) (by decide)) (@pe_int _ _ _ _) (fun _ _ => rfl))))), rfl, ?_⟩
  walk_at "cl"
  obtain ⟨a, v4, v5, rfl, hs, h4, h5⟩ := rl_acc hd hne
  have inn : now rl z o = innR rl → (∃ xs, SqT K H a xs ∧ ∃ v, atI xs 4 = some v ∧ Q v H) := fun e => ⟨_, hs, _, rfl, q _ (by rw [e]; exact h4)⟩
  walk_at "st"
  refine ⟨_, hs, _, rfl, ?_⟩
  cases hl : lastR rl with
  | none =>
    rw [hl] at h5
    have h5' : v5 = .non := h5
    subst h5'
    walk_at "rd"
    exact inn (now_none hl z o)
  | some l =>
    rw [hl] at h5
    walk_at "rd"
    rw [if_pos h5.yes]
    obtain ⟨c, hc⟩ := cap_of_last hl
    have hn := now_some hl z o
    rw [hc] at hn
    have hs' := hs
    rw [hc] at hs'
    simp only [optI] at hs'
    walk_at "rd"
    refine ite2 (fun c1 => ?_) (fun c1 => ?_)
    · refine ⟨_, hs', _, rfl, ?_⟩
      walk_at "rd"
      refine ite2 (fun c2 => ?_) (fun c2 => ?_)
      · rw [if_pos (by unfold atCap; simp; omega)] at hn
        exact ⟨_, hs, _, rfl, q _ (by rw [hn]; exact h5)⟩
      · rw [if_neg (by unfold atCap; simp; omega)] at hn
        exact inn hn
    · rw [if_neg (by unfold atCap; simp; omega)] at hn
      exact inn hn
theorem ok_law_begun {n : Nat} (F : Df K mg "_law_begun" s_law_begun ["_law_rule_here"]) (d_law_inner : Dn P w K mg base k "_law_inner" ["_law_rule_here", "_law_zero", "_law_one"] (spNow K)) (d_law_begun : Dn P w K mg base k "_law_begun" ["_law_rule_here"] (spBegun K n)) : Dn P w K mg base (k + 1) "_law_begun" ["_law_rule_here"] (spBegun K (n + 1)) := by
  refine F.ok sc_law_begun (fun vs H Q E h => ?_) (fun f cdv A outer s H vs Q E hr h => ?_)
  · obtain ⟨d, v, rfl, _⟩ := h; rfl
  obtain ⟨rl, v, rfl, hd, hn, q⟩ := h
  refine ⟨_, [some _], 
      (@pss_cons _ _ _ _ _ (@ps_if _ _ _ _ _ _ _ _ (@pt_cmpR _ _ _ _ _ _ _ _ (op_eqD hr) (@pv _ 0 _ _ (by rfl) (by first | exact Or.inl rfl | exact Or.inr (Or.inl rfl) | exact Or.inr (Or.inr rfl)) (by decide) (by decide)) (@pe_tup _ _ _ _ _ (@pa_u _ _ _ _ _ (@pe_str _ _ _ _) (@pa_nil _) (by rfl))) (nomark _)) (@pss_one _ _ _ (@ps_ret _ _ _ _ (@pe_tup _ _ _ _ _ (@pa_nil _)))) (@pss_nil _)) (@pss_one _ _ _ (@ps_ret _ _ _ _ (@pe_tup _ _ _ _ _ (@pa_u _ _ _ _ _ (@pe_int _ _ _ _) (@pa_u _ _ _ _ _ (@pe_int _ _ _ _) (@pa_u _ _ _ _ _ (@pe_callD _ _ _ _ _ _ _ _ _ _ d_law_begun hr rfl (@pa_u _ _ _ _ _ (@pe_callD _ _ _ _ _ _ _ _ _ _ d_law_inner hr rfl (@pa_u _ _ _ _ _ (@pv _ 0 _ _ (by rfl) (by first | exact Or.inl rfl | exact Or.inr (Or.inl rfl) | exact Or.inr (Or.inr rfl)) (by decide) (by decide)) (@pa_u _ _ _ _ _ (@pe_int _ _ _ _) (@pa_u _ _ _ _ _ (@pe_int _ _ _ _) (@pa_nil _) (by rfl)) (by rfl)) (by rfl)) (by rfl) (by decide)) (@pa_nil _) (by rfl)) (by rfl) (by decide)) (@pa_nil _) (by rfl)) (by rfl)) (by rfl)))))), rfl, ?_⟩
  walk_at "cl"
  walk_at "st"
  refine ⟨small6 (by simp), fun p hp => ?_⟩
  have S0 := same_new hp (.tup [.str "point"])
  refine eqF_of (t := 0) (hd.same S0) (pt_dt (.of upd_same)) (depR dep_pt) ?_
  have hd0 := hd.same S0
  generalize upd H p (.tup [.str "point"]) = H0 at S0 hd0 ⊢
  walk_at "rd"
  refine ite2 (fun c => ?_) (fun c => ?_)
  · rw [eqv_enc_pt] at c
    subst c
    exact ⟨small6 (by simp), fun p hp => q _ _ (S0.trans (same_new hp _)) (st_nil (.of upd_same))⟩
  · have hne : rl ≠ .pt := fun z => c ((eqv_enc_pt rl).mpr z)
    rw [begn_unit hne] at q
    have hdn := depth_now hne 0 0
    refine ⟨rl, v, 0, 0, rfl, hd0, hne, fun v' h' => ?_⟩
    walk_at "rd"
    refine ⟨now rl 0 0, v', rfl, h', by omega, fun r H1 S1 st => ⟨small6 (by simp), fun p hp => q _ _ ((S0.trans S1).trans (same_new hp _)) (st_cn (.of upd_same) (st.same (same_new hp _)))⟩⟩
theorem all_law_begun {n : Nat} (F : Df K mg "_law_begun" s_law_begun ["_law_rule_here"]) (d_law_inner : Dn P w K mg base k "_law_inner" ["_law_rule_here", "_law_zero", "_law_one"] (spNow K)) : Dn P w K mg base (k + n) "_law_begun" ["_law_rule_here"] (spBegun K n) := by
  induction n with
  | zero => exact F.void fun vs H Q E ⟨_, _, _, _, h, _⟩ => by omega
  | succ n ih => exact ok_law_begun F (d_law_inner.mono (Nat.le_add_right k n)) ih
theorem ok_law_number (F : Df K mg "_law_number" s_law_number ["_law_thing_here", "_law_low", "_law_high"]) (m_isinstance : mg "isinstance" = none) (m_int : mg "int" = none) (m_bool : mg "bool" = none) : Dn P w K mg base (k + 1) "_law_number" ["_law_thing_here", "_law_low", "_law_high"] (spNumb K) := by
  refine F.ok sc_law_number (fun vs H Q E h => ?_) (fun f cdv A outer s H vs Q E hr h => ?_)
  · obtain ⟨t, d, v, lo, hi, rfl, _⟩ := h; rfl
  obtain ⟨t, d, v, lo, hi, rfl, hd, q⟩ := h
  refine ⟨_, [some _, some _, some _], (@pss_one _ _ _ (@ps_ret _ _ _ _ (@pe_and _ _ _ _ _ _ _ (@pe_callBu _ _ _ _ _ _ _ _ _ call_isi rfl m_isinstance bt_isinstance (@pa_u _ _ _ _ _ (@pv _ 0 _ _ (by rfl) (by first | exact Or.inl rfl | exact Or.inr (Or.inl rfl) | exact Or.inr (Or.inr rfl)) (by decide) (by decide)) (@pa_u _ _ _ _ _ (@pe_bltn _ _ (.ty "int") _ _ rfl m_int bt_int rfl (by decide) (by decide)) (@pa_nil _) (by rfl)) (by rfl)) (by rfl) (by decide) (by decide)) (@pe_and _ _ _ _ _ _ _ (@pe_not _ _ _ _ (@pe_callBu _ _ _ _ _ _ _ _ _ call_isi rfl m_isinstance bt_isinstance (@pa_u _ _ _ _ _ (@pv _ 0 _ _ (by rfl) (by first | exact Or.inl rfl | exact Or.inr (Or.inl rfl) | exact Or.inr (Or.inr rfl)) (by decide) (by decide)) (@pa_u _ _ _ _ _ (@pe_bltn _ _ (.ty "bool") _ _ rfl m_bool bt_bool rfl (by decide) (by decide)) (@pa_nil _) (by rfl)) (by rfl)) (by rfl) (by decide) (by decide))) (@pe_one _ _ _ _ _ (@pe_chain _ _ _ _ _ _ _ _ _ _ _ _ op_le op_le (@pv _ 1 _ _ (by rfl) (by first | exact Or.inl rfl | exact Or.inr (Or.inl rfl) | exact Or.inr (Or.inr rfl)) (by decide) (by decide)) (@pv _ 0 _ _ (by rfl) (by first | exact Or.inl rfl | exact Or.inr (Or.inl rfl) | exact Or.inr (Or.inr rfl)) (by decide) (by decide)) (@pv _ 2 _ _ (by rfl) (by first | exact Or.inl rfl | exact Or.inr (Or.inl rfl) | exact Or.inr (Or.inr rfl)) (by decide) (by decide)) (by with_unfolding_all rfl))))))), rfl, ?_⟩
  walk_at "cl"
  walk_at "rd"
  refine isi_of hd ⟨_, rfl, ?_⟩
  cases d with
  | int i =>
    simp only [Dt] at hd
    subst hd
    walk_at "T"
    refine isi_of (t := t) (d := .int i) (.int i) ?_
    walk_at "rd"
    walk_at "T"
    simp only [whl] at q
    refine ite2 (fun c => ?_) (fun c => ?_)
    · rw [decide_eq_true c, Bool.true_and] at q
      exact q
    · rw [decide_eq_false c, Bool.false_and] at q
      exact q
  | bool b =>
    walk_at "T"
    refine isi_of hd ?_
    walk_at "rd"
    walk_at "F"
    exact q
  | none => exact iteF q
  | str x => exact iteF q
  | list x => exact iteF q
  | tuple x => exact iteF q
  | dict x => exact iteF q
theorem ok_law_units {n : Nat} (F : Df K mg "_law_units" s_law_units ["_law_thing_here", "_law_around"]) (m_isinstance : mg "isinstance" = none) (m_tuple : mg "tuple" = none) (m_len : mg "len" = none) (d_law_number : Dn P w K mg base k "_law_number" ["_law_thing_here", "_law_low", "_law_high"] (spNumb K)) (d_law_units : Dn P w K mg base k "_law_units" ["_law_thing_here", "_law_around"] (spLU K n)) : Dn P w K mg base (k + 1) "_law_units" ["_law_thing_here", "_law_around"] (spLU K (n + 1)) := by
  refine F.ok sc_law_units (fun vs H Q E h => ?_) (fun f cdv A outer s H vs Q E hr h => ?_)
  · obtain ⟨t, d, v, ar, rfl, _⟩ := h; rfl
  obtain ⟨t, d, v, ar, rfl, a0, a4, hn, hd, q⟩ := h
  refine ⟨_, [some _, some _, none], 
      (@pss_cons _ _ _ _ _ (@ps_if _ _ _ _ _ _ _ _ (@pt_cmpR _ _ _ _ _ _ _ _ (op_eqD hr) (@pv _ 0 _ _ (by rfl) (by first | exact Or.inl rfl | exact Or.inr (Or.inl rfl) | exact Or.inr (Or.inr rfl)) (by decide) (by decide)) (@pe_tup _ _ _ _ _ (@pa_u _ _ _ _ _ (@pe_str _ _ _ _) (@pa_nil _) (by rfl))) (nomark _)) (@pss_one _ _ _ (@ps_ret _ _ _ _ (@pe_int _ _ _ _))) (@pss_nil _)) 
      (@pss_cons _ _ _ _ _ (@ps_if _ _ _ _ _ _ _ _ (@PW.pt _ _ _ (@pw_or _ _ _ _ _ _ _ (@pt_not _ _ _ _ (@pt_val _ _ _ (@pe_callBu _ _ _ _ _ _ _ _ _ call_isi rfl m_isinstance bt_isinstance (@pa_u _ _ _ _ _ (@pv _ 0 _ _ (by rfl) (by first | exact Or.inl rfl | exact Or.inr (Or.inl rfl) | exact Or.inr (Or.inr rfl)) (by decide) (by decide)) (@pa_u _ _ _ _ _ (@pe_bltn _ _ (.ty "tuple") _ _ rfl m_tuple bt_tuple rfl (by decide) (by decide)) (@pa_nil _) (by rfl)) (by rfl)) (by rfl) (by decide) (by decide)) (by intro _; rfl))) (@pw_or _ _ _ _ _ _ _ (@pt_cmpR _ _ _ _ _ _ _ _ op_ne (@pe_callBu _ _ _ _ _ _ _ _ _ call_lenS rfl m_len PySem.boot_len (@pa_u _ _ _ _ _ (@pv _ 0 _ _ (by rfl) (by first | exact Or.inl rfl | exact Or.inr (Or.inl rfl) | exact Or.inr (Or.inr rfl)) (by decide) (by decide)) (@pa_nil _) (by rfl)) (by rfl) (by decide) (by decide)) (@pe_int _ _ _ _) (nomark _)) (@pw_or _ _ _ _ _ _ _ (@pt_cmpR _ _ _ _ _ _ _ _ (op_neD hr) (@pe_ix _ _ _ _ _ _ _ ix_tup (@pv _ 0 _ _ (by rfl) (by first | exact Or.inl rfl | exact Or.inr (Or.inl rfl) | exact Or.inr (Or.inr rfl)) (by decide) (by decide)) (@pe_int _ _ _ _) (fun _ _ => rfl)) (@pe_str _ _ _ _) (nomark _)) (@pw_or1 _ _ _ _ (@pt_cmpR _ _ _ _ _ _ _ _ op_eq (@pv _ 1 _ _ (by rfl) (by first | exact Or.inl rfl | exact Or.inr (Or.inl rfl) | exact Or.inr (Or.inr rfl)) (by decide) (by decide)) (@pe_int _ _ _ _) (nomark _))))))) (@pss_one _ _ _ (@ps_ret _ _ _ _ (@pe_int _ _ _ _))) (@pss_nil _)) 
      (@pss_cons _ _ _ _ _ (@ps_if _ _ _ _ _ _ _ _ (@PW.pt _ _ _ (@pw_or _ _ _ _ _ _ _ (@pt_not _ _ _ _ (@pt_val _ _ _ (@pe_callD _ _ _ _ _ _ _ _ _ _ d_law_number hr rfl (@pa_u _ _ _ _ _ (@pe_ix _ _ _ _ _ _ _ ix_tup (@pv _ 0 _ _ (by rfl) (by first | exact Or.inl rfl | exact Or.inr (Or.inl rfl) | exact Or.inr (Or.inr rfl)) (by decide) (by decide)) (@pe_int _ _ _ _) (fun _ _ => rfl)) (@pa_u _ _ _ _ _ (@pe_int _ _ _ _) (@pa_u _ _ _ _ _ (@pe_int _ _ _ _) (@pa_nil _) (by rfl)) (by rfl)) (by rfl)) (by rfl) (by decide)) (by intro _; rfl))) (@pw_or1 _ _ _ _ (@pt_not _ _ _ _ (@pt_val _ _ _ (@pe_callD _ _ _ _ _ _ _ _ _ _ d_law_number hr rfl (@pa_u _ _ _ _ _ (@pe_ix _ _ _ _ _ _ _ ix_tup (@pv _ 0 _ _ (by rfl) (by first | exact Or.inl rfl | exact Or.inr (Or.inl rfl) | exact Or.inr (Or.inr rfl)) (by decide) (by decide)) (@pe_int _ _ _ _) (fun _ _ => rfl)) (@pa_u _ _ _ _ _ (@pe_int _ _ _ _) (@pa_u _ _ _ _ _ (@pe_int _ _ _ _) (@pa_nil _) (by rfl)) (by rfl)) (by rfl)) (by rfl) (by decide)) (by intro _; rfl)))))) (@pss_one _ _ _ (@ps_ret _ _ _ _ (@pe_int _ _ _ _))) (@pss_nil _)) 
      (@pss_cons _ _ _ _ _ (@ps_if _ _ _ _ _ _ _ _ (@PW.pt _ _ _ (@pw_or _ _ _ _ _ _ _ (@PW.pt _ _ _ (@pw_and _ _ _ _ _ _ _ (@pt_cmpR _ _ _ _ _ _ _ _ op_isNS (@pe_ix _ _ _ _ _ _ _ ix_tup (@pv _ 0 _ _ (by rfl) (by first | exact Or.inl rfl | exact Or.inr (Or.inl rfl) | exact Or.inr (Or.inr rfl)) (by decide) (by decide)) (@pe_int _ _ _ _) (fun _ _ => rfl)) (@pe_non _ _ _) (nomark _)) (@pw_and1 _ _ _ _ (@pt_cmpR _ _ _ _ _ _ _ _ op_notNS (@pe_ix _ _ _ _ _ _ _ ix_tup (@pv _ 0 _ _ (by rfl) (by first | exact Or.inl rfl | exact Or.inr (Or.inl rfl) | exact Or.inr (Or.inr rfl)) (by decide) (by decide)) (@pe_int _ _ _ _) (fun _ _ => rfl)) (@pe_non _ _ _) (nomark _))))) (@pw_or1 _ _ _ _ (@PW.pt _ _ _ (@pw_and _ _ _ _ _ _ _ (@pt_cmpR _ _ _ _ _ _ _ _ op_notNS (@pe_ix _ _ _ _ _ _ _ ix_tup (@pv _ 0 _ _ (by rfl) (by first | exact Or.inl rfl | exact Or.inr (Or.inl rfl) | exact Or.inr (Or.inr rfl)) (by decide) (by decide)) (@pe_int _ _ _ _) (fun _ _ => rfl)) (@pe_non _ _ _) (nomark _)) (@pw_and1 _ _ _ _ (@pt_not _ _ _ _ (@pt_val _ _ _ (@pe_callD _ _ _ _ _ _ _ _ _ _ d_law_number hr rfl (@pa_u _ _ _ _ _ (@pe_ix _ _ _ _ _ _ _ ix_tup (@pv _ 0 _ _ (by rfl) (by first | exact Or.inl rfl | exact Or.inr (Or.inl rfl) | exact Or.inr (Or.inr rfl)) (by decide) (by decide)) (@pe_int _ _ _ _) (fun _ _ => rfl)) (@pa_u _ _ _ _ _ (@pe_ix _ _ _ _ _ _ _ ix_tup (@pv _ 0 _ _ (by rfl) (by first | exact Or.inl rfl | exact Or.inr (Or.inl rfl) | exact Or.inr (Or.inr rfl)) (by decide) (by decide)) (@pe_int _ _ _ _) (fun _ _ => rfl)) (@pa_u _ _ _ _ _ (@pe_int _ _ _ _) (@pa_nil _) (by rfl)) (by rfl)) (by rfl)) (by rfl) (by decide)) (by intro _; rfl))))))))) (@pss_one _ _ _ (@ps_ret _ _ _ _ (@pe_int _ _ _ _))) (@pss_nil _)) 
      (@pss_cons _ _ _ _ _ (@ps_set _ _ 2 _ _ _ _ sc_law_units.nd rfl (Or.inl rfl) (@pe_op _ _ _ _ _ _ _ _ op_add (@pe_int _ _ _ _) (@pe_callD _ _ _ _ _ _ _ _ _ _ d_law_units hr rfl (@pa_u _ _ _ _ _ (@pe_ix _ _ _ _ _ _ _ ix_tup (@pv _ 0 _ _ (by rfl) (by first | exact Or.inl rfl | exact Or.inr (Or.inl rfl) | exact Or.inr (Or.inr rfl)) (by decide) (by decide)) (@pe_int _ _ _ _) (fun _ _ => rfl)) (@pa_u _ _ _ _ _ (@pe_op _ _ _ _ _ _ _ _ op_add (@pv _ 1 _ _ (by rfl) (by first | exact Or.inl rfl | exact Or.inr (Or.inl rfl) | exact Or.inr (Or.inr rfl)) (by decide) (by decide)) (@pe_int _ _ _ _)) (@pa_nil _) (by rfl)) (by rfl)) (by rfl) (by decide))) (by rfl) (by first | exact .inl rfl | exact .inr rfl | assumption)) 
      (@pss_cut _ _ _ _ _ (@ps_if _ _ _ _ _ _ _ _ (@pt_cmpR _ _ _ _ _ _ _ _ op_notNS (@pe_ix _ _ _ _ _ _ _ ix_tup (@pv _ 0 _ _ (by rfl) (by first | exact Or.inl rfl | exact Or.inr (Or.inl rfl) | exact Or.inr (Or.inr rfl)) (by decide) (by decide)) (@pe_int _ _ _ _) (fun _ _ => rfl)) (@pe_non _ _ _) (nomark _)) (@pss_one _ _ _ (@ps_set _ _ 2 _ _ _ _ sc_law_units.nd rfl (Or.inl rfl) (@pe_op _ _ _ _ _ _ _ _ op_add (@pv _ 2 _ _ (by rfl) (by first | exact Or.inl rfl | exact Or.inr (Or.inl rfl) | exact Or.inr (Or.inr rfl)) (by decide) (by decide)) (@pe_callD _ _ _ _ _ _ _ _ _ _ d_law_units hr rfl (@pa_u _ _ _ _ _ (@pe_ix _ _ _ _ _ _ _ ix_tup (@pv _ 0 _ _ (by rfl) (by first | exact Or.inl rfl | exact Or.inr (Or.inl rfl) | exact Or.inr (Or.inr rfl)) (by decide) (by decide)) (@pe_int _ _ _ _) (fun _ _ => rfl)) (@pa_u _ _ _ _ _ (@pe_op _ _ _ _ _ _ _ _ op_add (@pv _ 1 _ _ (by rfl) (by first | exact Or.inl rfl | exact Or.inr (Or.inl rfl) | exact Or.inr (Or.inr rfl)) (by decide) (by decide)) (@pe_int _ _ _ _)) (@pa_nil _) (by rfl)) (by rfl)) (by rfl) (by decide))) (by rfl) (by first | exact .inl rfl | exact .inr rfl | assumption))) (@pss_nil _)) (@pss_one _ _ _ (@ps_ret _ _ _ _ (@pv _ 2 _ _ (by rfl) (by first | exact Or.inl rfl | exact Or.inr (Or.inl rfl) | exact Or.inr (Or.inr rfl)) (by decide) (by decide)))))))))), rfl, ?_⟩
  walk_at "cl"
  walk_at "st"
  refine ⟨small6 (by simp), fun p hp => ?_⟩
  have S0 := same_new hp (.tup [.str "point"])
  refine eqF_of (t := t) (Same.dt hd S0) (pt_dt (.of upd_same)) (depR dep_pt) ?_
  replace hd := Same.dt hd S0
  generalize upd H p (.tup [.str "point"]) = H0 at S0 hd ⊢
  replace q : ∀ H', Same H0 H' → Q (.int (luD (4 - ar).toNat d)) H' := fun H' S => q _ (S0.trans S)
  clear S0 hp
  walk_at "rd"
  unfold luD at q
  refine ite2 (fun c => ?_) (fun c => ?_)
  · rw [if_pos c] at q
    exact q _ (.refl _)
  rw [if_neg c] at q
  have no : form d = false ∨ ar = 4 → ∀ H', Same H0 H' → Q (.int 99) H' := fun e H' S => by
    have := q _ S
    rcases e with e | e
    · cases h4 : (4 - ar).toNat with
      | zero => rw [h4] at this; exact this
      | succ r => rw [h4] at this; simp only [e, Bool.false_eq_true, if_false] at this; exact this
    · subst e; exact this
  walk_at "st"
  refine isi_of hd ?_
  walk_at "rd"
  cases d with
  | tuple ds =>
    obtain ⟨a, xs, rfl, hs, hx⟩ := Dt.tup_inv hd
    have hxl := hx.len
    rw [if_neg (by simp [isiD])]
    refine lenT_of hs ?_
    walk_at "rd"
    refine ite2 (fun c6 => no (.inl (form_no (by omega))) _ (.refl _)) (fun c6 => ?_)
    obtain ⟨d0, d1, d2, d3, d4, d5, v0, v1, v2, v3, v4, v5, rfl, rfl, h0, h1, h2, h3, h4, h5⟩ := six_of hx (by omega)
    refine ⟨_, hs, _, rfl, neD_of h0 (dstr "unit") (depR (n := 0) rfl) ?_⟩
    walk_at "rd"
    have eF : form (.tuple [d0, d1, d2, d3, d4, d5]) = (PyData.eqv d0 (.str "unit") && (bnd d1 1 && (bnd d2 1 && (if isN d3 then isN d5 else bnd d3 (intOf d1))))) := rfl
    refine ite2 (fun cw => no (.inl (by rw [eF, show PyData.eqv d0 (.str "unit") = false by simpa using cw]; rfl)) _ (.refl _)) (fun cw => ?_)
    refine ite2 (fun ca => no (.inr ca) _ (.refl _)) (fun ca => ?_)
    rw [show PyData.eqv d0 (.str "unit") = true by simpa using cw, Bool.true_and] at eF
    walk_at "st"
    refine ⟨_, hs, _, rfl, t, d1, v1, 1, 99, rfl, h1, ?_⟩
    walk_at "rd"
    refine ite2 (fun b1 => no (.inl (by rw [eF, bnd_whl, b1]; rfl)) _ (.refl _)) (fun b1 => ?_)
    replace b1 : bnd d1 1 = true := by rw [bnd_whl]; simpa using b1
    refine ⟨_, hs, _, rfl, t, d2, v2, 1, 99, rfl, h2, ?_⟩
    walk_at "rd"
    refine ite2 (fun b2 => no (.inl (by rw [eF, b1, bnd_whl d2, b2]; rfl)) _ (.refl _)) (fun b2 => ?_)
    replace b2 : bnd d2 1 = true := by rw [bnd_whl]; simpa using b2
    rw [b1, b2, Bool.true_and, Bool.true_and] at eF
    obtain ⟨i, rfl, i0, i1⟩ := bnd_int b1
    simp only [Dt] at h1
    subst h1
    have e3 := dt_non h3
    have e5 := dt_non h5
    have k1 : (4 - ar).toNat = (4 - (ar + 1)).toNat + 1 := by omega
    have go : form (.tuple [d0, .int i, d2, d3, d4, d5]) = true → (∀ H', Same H0 H' → Q (.int ((1 + luD (4 - (ar + 1)).toNat d4 + (if isN d5 then 0 else luD (4 - (ar + 1)).toNat d5) : Nat) : Int)) H') := fun ef H' S => by
      have := q _ S
      rw [k1] at this
      simp only [ef, if_true] at this
      exact this
    walk_at "st"
    refine ⟨_, hs, _, rfl, ?_⟩
    walk_at "rd"
    apply via2 (F := form (.tuple [d0, .int i, d2, d3, d4, d5]) = true)
    · intro body
      by_cases c3 : v3 = .non
      · rw [decide_eq_true c3] at e3
        rw [← e3, if_pos rfl] at eF
        rw [if_pos c3]
        refine ⟨_, hs, _, rfl, ?_⟩
        walk_at "rd"
        by_cases c5 : v5 = .non
        · rw [decide_eq_true c5] at e5
          rw [if_neg (by simpa using c5)]
          refine ⟨_, hs, _, rfl, ?_⟩
          walk_at "rd"
          rw [if_neg (by simpa using c3)]
          exact body (by rw [eF, ← e5])
        · rw [decide_eq_false c5] at e5
          rw [if_pos c5]
          exact no (.inl (by rw [eF, ← e5])) _ (.refl _)
      · rw [decide_eq_false c3] at e3
        rw [← e3, if_neg Bool.false_ne_true] at eF
        rw [if_neg c3]
        refine ⟨_, hs, _, rfl, ?_⟩
        walk_at "rd"
        rw [if_pos c3]
        refine ⟨_, hs, _, rfl, _, hs, _, rfl, t, d3, v3, i, 99, rfl, h3, ?_⟩
        walk_at "rd"
        refine ite2 (fun b3 => no (.inl (by rw [eF, bnd_whl]; exact b3)) _ (.refl _)) (fun b3 => body (by rw [eF, bnd_whl]; simpa [intOf] using b3))
    · intro hform
      replace go := go hform
      walk_at "st"
      refine ⟨_, hs, _, rfl, t, d4, v4, ar + 1, rfl, by omega, by omega, by omega, h4, fun H1 S1 => ?_⟩
      have hs1 := Same.sqT hs S1
      walk_at "rd"
      refine r_cut (fun σ' H' => σ' = [some (.ref a), some (.int ar), some (.int ((1 + luD (4 - (ar + 1)).toNat d4 + (if isN d5 then 0 else luD (4 - (ar + 1)).toNat d5) : Nat) : Int))] ∧ Same H0 H') (fun M hM => ?_) ?_
      · walk_at "rd"
        refine ⟨_, hs1, _, rfl, ?_⟩
        walk_at "rd"
        by_cases c5 : v5 = .non
        · rw [decide_eq_true c5] at e5
          rw [if_neg (by simpa using c5)]
          refine hM _ _ ⟨?_, S1⟩
          rw [← e5]
          rfl
        · rw [decide_eq_false c5] at e5
          rw [if_pos c5]
          refine ⟨_, hs1, _, rfl, t, d5, v5, ar + 1, rfl, by omega, by omega, by omega, Same.dt h5 S1, fun H2 S2 => ?_⟩
          walk_at "rd"
          refine hM _ _ ⟨?_, S1.trans S2⟩
          rw [← e5, if_neg Bool.false_ne_true]
          simp only [Int.natCast_add, Int.cast_ofNat_Int]
      · rintro _ H3 ⟨rfl, S3⟩
        walk_at "rd"
        exact go _ S3
  | none => rw [if_pos (by simp [isiD])]; exact no (.inl rfl) _ (.refl _)
  | bool b => rw [if_pos (by simp [isiD])]; exact no (.inl rfl) _ (.refl _)
  | int i => rw [if_pos (by simp [isiD])]; exact no (.inl rfl) _ (.refl _)
  | str x => rw [if_pos (by simp [isiD])]; exact no (.inl rfl) _ (.refl _)
  | list x => rw [if_pos (by simp [isiD])]; exact no (.inl rfl) _ (.refl _)
  | dict x => rw [if_pos (by simp [isiD])]; exact no (.inl rfl) _ (.refl _)
theorem all_law_units {n : Nat} (F : Df K mg "_law_units" s_law_units ["_law_thing_here", "_law_around"]) (m_isinstance : mg "isinstance" = none) (m_tuple : mg "tuple" = none) (m_len : mg "len" = none) (d_law_number : Dn P w K mg base k "_law_number" ["_law_thing_here", "_law_low", "_law_high"] (spNumb K)) : Dn P w K mg base (k + n) "_law_units" ["_law_thing_here", "_law_around"] (spLU K n) := by
  induction n with
  | zero => exact F.void fun vs H Q E ⟨_, _, _, _, _, h0, h1, h2, _⟩ => by omega
  | succ n ih => exact ok_law_units F m_isinstance m_tuple m_len (d_law_number.mono (Nat.le_add_right k n)) ih
theorem ok_law_numbers (F : Df K mg "_law_numbers" s_law_numbers ["_law_thing_here", "_law_mosts"]) (m_all : mg "all" = none) (m_range : mg "range" = none) (d_law_number : Dn P w K mg base k "_law_number" ["_law_thing_here", "_law_low", "_law_high"] (spNumb K)) : Dn P w K mg base (k + 1) "_law_numbers" ["_law_thing_here", "_law_mosts"] (spNumbs K) := by
  refine F.ok sc_law_numbers (fun vs H Q E h => ?_) (fun f cdv A outer s H vs Q E hr h => ?_)
  · obtain ⟨t, a, b, ds, xs, ms, rfl, _⟩ := h; rfl
  obtain ⟨t, a, b, ds, xs, ms, rfl, ha, hds, hl3, hb, hm3, q⟩ := h
  refine ⟨_, [some _, some _], (@pss_one _ _ _ (@ps_ret _ _ _ _ (@pe_callBu _ _ _ _ _ _ _ _ _ (call_allB rfl) rfl m_all bt_all (@pa_u _ _ _ _ _ (@pe_comp _ _ _ _ _ _ _ _ _ _ _ _ _ rfl (compCap (N := ["_law_thing_here", "_law_mosts"]) (fr := ["_law_thing_here", "_law_mosts"]) (osc := defScope s_law_numbers) rfl rfl (by decide +kernel) rfl rfl (by intro p hp; simp only [List.mem_cons, List.not_mem_nil, or_false] at hp; rcases hp with rfl | rfl <;> rfl)) (@pi_range1 _ _ _ _ _ _ rfl m_range (@pa_u _ _ _ _ _ (@pe_int _ _ _ _) (@pa_nil _) (by rfl)) (by rfl)) (fun _ _ _ _ => (@pts_nil _)) (fun _ _ _ _ => (@pe_callD _ _ _ _ _ _ _ _ _ _ d_law_number hr rfl (@pa_u _ _ _ _ _ (@pe_ix _ _ _ _ _ _ _ (ixK_tup (K := K) rfl) (@pv _ 1 _ _ (by rfl) (by first | exact Or.inl rfl | exact Or.inr (Or.inl rfl) | exact Or.inr (Or.inr rfl)) (by decide) (by decide)) (@pv _ 0 _ _ (by rfl) (by first | exact Or.inl rfl | exact Or.inr (Or.inl rfl) | exact Or.inr (Or.inr rfl)) (by decide) (by decide)) (fun _ _ => rfl)) (@pa_u _ _ _ _ _ (@pe_int _ _ _ _) (@pa_u _ _ _ _ _ (@pe_ix _ _ _ _ _ _ _ (ixK_list (K := K) rfl) (@pv _ 2 _ _ (by rfl) (by first | exact Or.inl rfl | exact Or.inr (Or.inl rfl) | exact Or.inr (Or.inr rfl)) (by decide) (by decide)) (@pv _ 0 _ _ (by rfl) (by first | exact Or.inl rfl | exact Or.inr (Or.inl rfl) | exact Or.inr (Or.inr rfl)) (by decide) (by decide)) (fun _ _ => rfl)) (@pa_nil _) (by rfl)) (by rfl)) (by rfl)) (by rfl) (by decide))) (by intro _; rfl)) (@pa_nil _) (by rfl)) (by rfl) (by decide) (by decide)))), rfl, ?_⟩
  walk_at "cl"
  have hxl := hds.len
  walk_at "rd"
  refine comp_rG (K := K) (m := 3) (fun _ => true) (fun i y _ => y = V.bl (whlAt ds ms i)) (fun R h => ?_) (by decide) (fun _ _ _ _ _ h => h) (fun i H1 hi S1 Q' hq => hq _ (.refl _)) (fun i H1 hi _ S1 Q' hq => ?_) (fun D zs H1 S1 hD hD1 hall => ?_)
  · walk_at "rd"
    exact h
  · have hdi : ds[i]? = some ds[i] := List.getElem?_eq_getElem (by omega)
    obtain ⟨v, hv, hvd⟩ := hds.get hdi
    have hmi : ms[i]? = some ms[i] := List.getElem?_eq_getElem (by omega)
    walk_at "rd"
    refine ⟨_, Same.sqT ha S1, _, atI_nat hv, _, Same.sqL hb S1, _, atI_nat (show (ms.map V.int)[i]? = some (V.int ms[i]) by rw [List.getElem?_map, hmi]; rfl), ?_⟩
    refine ⟨t, ds[i], v, 1, ms[i], rfl, Same.dt hvd S1, hq _ _ (.refl _) ?_⟩
    rw [whlAt_of hdi hmi]
  rw [List.filter_eq_self.mpr (by simp)] at hall
  have e : zs = ((List.range 3).map (whlAt ds ms)).map V.bl := by
    rw [All2.eq hall, List.map_map]
    rfl
  refine ⟨D, _, rfl, .of (by rw [hD1, e]), ?_⟩
  have q' := q _ S1
  rw [show (List.map (whlAt ds ms) (List.range 3)).all id = (List.range 3).all (whlAt ds ms) by rw [List.all_map]; rfl]
  exact q'
end
end My
namespace My
open PySem L2 M
section
variable (K : PySem.W.Frag) (ns : List Int)
def Rok (d : PyData) : Prop := PyData.showable d = true ∧ (PyData.shown d).length ≤ sizeLine ∧ PyData.depth d ≤ 100
def spTold : Sp := fun vs H Q _ => ∃ t d v, vs = [v] ∧ Dt K t H d v ∧ smD d = true ∧ Rok d ∧ ∀ H', Same H H' → Q (.bl true) H'
end
section
variable {P : Program} {w : World} {K : PySem.W.Frag} {mg : Str → Option Value} {base : Heap} {ns : List Int} {k : Nat}
theorem rok_of {d : PyData} (h : smD d = true) (hw : wtD d ≤ 10000000) (hd : d.depth ≤ 100) : Rok d := by
  obtain ⟨h1, h2⟩ := shown_le d (sm_ok d h)
  exact ⟨h1, by rw [sizeLine_eq]; omega, hd⟩
theorem pow6 : (10 : Int) ^ Int.toNat 6 = 1000000 := by decide +kernel
theorem isi_bool (d : PyData) : isiD d "bool" = isTr d := by cases d <;> rfl
theorem isi_str {d : PyData} (h : isiD d "str" = false) : nmD d = false := by
  cases d with
  | str x => simp [isiD] at h
  | _ => rfl
theorem eqv_str2 (a b : Str) : PyData.eqv (.str a) (.str b) = decide (a = b) := by
  unfold PyData.eqv; by_cases c : a = b <;> simp [c]
theorem eqv_strc (z : Str) (d : PyData) : PyData.eqv (.str z) d = PyData.eqv d (.str z) := by
  cases d with
  | str b => rw [eqv_str2, eqv_str2]; simp only [decide_eq_decide]; exact eq_comm
  | _ => rfl
theorem eqv_strD {d : PyData} {z : Str} (h : PyData.eqv d (.str z) = true) : d = .str z := by
  cases d with
  | str b => rw [eqv_str2] at h; rw [of_decide_eq_true h]
  | _ => cases h
theorem ok_law_is_throw (F : Df K mg "_law_is_throw" s_law_is_throw ["_law_thing_here"]) (m_isinstance : mg "isinstance" = none) (m_tuple : mg "tuple" = none) (m_str : mg "str" = none) (m_bool : mg "bool" = none) (m_len : mg "len" = none) (m_min : mg "min" = none) (d_law_number : Dn P w K mg base k "_law_number" ["_law_thing_here", "_law_low", "_law_high"] (spNumb K)) : Dn P w K mg base (k + 1) "_law_is_throw" ["_law_thing_here"] (spB K thD) := by
  refine F.ok sc_law_is_throw (fun vs H Q E h => ?_) (fun f cdv A outer s H vs Q E hr h => ?_)
  · obtain ⟨t, d, v, rfl, _⟩ := h; rfl
  obtain ⟨t, d, v, rfl, hd, hk, q⟩ := h
  refine ⟨_, [some _, none], 
      (@pss_cons _ _ _ _ _ (@ps_if _ _ _ _ _ _ _ _ (@PW.pt _ _ _ (@pw_or _ _ _ _ _ _ _ (@pt_not _ _ _ _ (@pt_val _ _ _ (@pe_callBu _ _ _ _ _ _ _ _ _ call_isi rfl m_isinstance bt_isinstance (@pa_u _ _ _ _ _ (@pv _ 0 _ _ (by rfl) (by first | exact Or.inl rfl | exact Or.inr (Or.inl rfl) | exact Or.inr (Or.inr rfl)) (by decide) (by decide)) (@pa_u _ _ _ _ _ (@pe_bltn _ _ (.ty "tuple") _ _ rfl m_tuple bt_tuple rfl (by decide) (by decide)) (@pa_nil _) (by rfl)) (by rfl)) (by rfl) (by decide) (by decide)) (by intro _; rfl))) (@pw_or _ _ _ _ _ _ _ (@pt_cmpR _ _ _ _ _ _ _ _ op_ne (@pe_callBu _ _ _ _ _ _ _ _ _ call_lenS rfl m_len PySem.boot_len (@pa_u _ _ _ _ _ (@pv _ 0 _ _ (by rfl) (by first | exact Or.inl rfl | exact Or.inr (Or.inl rfl) | exact Or.inr (Or.inr rfl)) (by decide) (by decide)) (@pa_nil _) (by rfl)) (by rfl) (by decide) (by decide)) (@pe_int _ _ _ _) (nomark _)) (@pw_or1 _ _ _ _ (@pt_not _ _ _ _ (@pt_val _ _ _ (@pe_callBu _ _ _ _ _ _ _ _ _ call_isi rfl m_isinstance bt_isinstance (@pa_u _ _ _ _ _ (@pe_ix _ _ _ _ _ _ _ ix_tup (@pv _ 0 _ _ (by rfl) (by first | exact Or.inl rfl | exact Or.inr (Or.inl rfl) | exact Or.inr (Or.inr rfl)) (by decide) (by decide)) (@pe_int _ _ _ _) (fun _ _ => rfl)) (@pa_u _ _ _ _ _ (@pe_bltn _ _ (.ty "str") _ _ rfl m_str bt_str rfl (by decide) (by decide)) (@pa_nil _) (by rfl)) (by rfl)) (by rfl) (by decide) (by decide)) (by intro _; rfl))))))) (@pss_one _ _ _ (@ps_ret _ _ _ _ (@pe_bl _ _ _ _))) (@pss_nil _)) 
      (@pss_cons _ _ _ _ _ (@ps_set _ _ 1 _ _ _ _ sc_law_is_throw.nd rfl (Or.inr rfl) (@pe_str _ _ _ _) (by rfl) (by first | exact .inl rfl | exact .inr rfl | assumption)) 
      (@pss_cons _ _ _ _ _ (@ps_if _ _ _ _ _ _ _ _ (@PW.pt _ _ _ (@pw_or _ _ _ _ _ _ _ (@pt_not _ _ _ _ (@pt_chain _ _ _ _ _ _ _ _ _ _ _ _ op_le op_le (@pe_int _ _ _ _) (@pe_callBu _ _ _ _ _ _ _ _ _ call_len_str rfl m_len PySem.boot_len (@pa_u _ _ _ _ _ (@pe_ix _ _ _ _ _ _ _ ix_tup (@pv _ 0 _ _ (by rfl) (by first | exact Or.inl rfl | exact Or.inr (Or.inl rfl) | exact Or.inr (Or.inr rfl)) (by decide) (by decide)) (@pe_int _ _ _ _) (fun _ _ => rfl)) (@pa_nil _) (by rfl)) (by rfl) (by decide) (by decide)) (@pe_int _ _ _ _) (by with_unfolding_all rfl))) (@pw_or1 _ _ _ _ (@pt_cmpR _ _ _ _ _ _ _ _ op_lt (@pe_bm _ _ _ _ _ _ _ _ _ _ _ _ PySem.F.plainAttrs_str PySem.F.slot_str_find PySem.F.type_str_find mt_find (@pv _ 1 _ _ (by rfl) (by first | exact Or.inl rfl | exact Or.inr (Or.inl rfl) | exact Or.inr (Or.inr rfl)) (by decide) (by decide)) (@pa_u _ _ _ _ _ (@pe_ix _ _ _ _ _ _ _ ix_str (@pe_ix _ _ _ _ _ _ _ ix_tup (@pv _ 0 _ _ (by rfl) (by first | exact Or.inl rfl | exact Or.inr (Or.inl rfl) | exact Or.inr (Or.inr rfl)) (by decide) (by decide)) (@pe_int _ _ _ _) (fun _ _ => rfl)) (@pe_int _ _ _ _) (fun _ _ => rfl)) (@pa_nil _) (by rfl)) (by rfl) (by rfl) (by rfl) (by rfl) (by rfl)) (@pe_int _ _ _ _) (nomark _))))) (@pss_one _ _ _ (@ps_ret _ _ _ _ (@pe_bl _ _ _ _))) (@pss_nil _)) 
      (@pss_cons _ _ _ _ _ (@ps_if _ _ _ _ _ _ _ _ (@pt_cmpR _ _ _ _ _ _ _ _ op_lt (@pe_callBu _ _ _ _ _ _ _ _ _ (call_minL rfl) rfl m_min bt_min (@pa_u _ _ _ _ _ (@pe_comp _ _ _ _ _ _ _ _ _ _ _ _ _ rfl (compCap (N := ["_law_thing_here", "_law_letters"]) (fr := ["_law_letters"]) (osc := defScope s_law_is_throw) rfl rfl (by decide +kernel) rfl rfl (by intro p hp; simp only [List.mem_cons, List.not_mem_nil, or_false] at hp; rcases hp with rfl <;> rfl)) (@pi_str _ _ _ _ (@pe_ix _ _ _ _ _ _ _ ix_tup (@pv _ 0 _ _ (by rfl) (by first | exact Or.inl rfl | exact Or.inr (Or.inl rfl) | exact Or.inr (Or.inr rfl)) (by decide) (by decide)) (@pe_int _ _ _ _) (fun _ _ => rfl))) (fun _ _ _ _ => (@pts_nil _)) (fun _ _ _ _ => (@pe_bmK _ K _ _ _ _ _ _ _ _ _ _ _ rfl PySem.F.plainAttrs_str PySem.F.slot_str_find PySem.F.type_str_find mt_find (@pe_op _ _ _ _ _ _ _ _ op_addS (@pv _ 2 _ _ (by rfl) (by first | exact Or.inl rfl | exact Or.inr (Or.inl rfl) | exact Or.inr (Or.inr rfl)) (by decide) (by decide)) (@pe_str _ _ _ _)) (@pa_u _ _ _ _ _ (@pv _ 0 _ _ (by rfl) (by first | exact Or.inl rfl | exact Or.inr (Or.inl rfl) | exact Or.inr (Or.inr rfl)) (by decide) (by decide)) (@pa_nil _) (by rfl)) (by rfl) (by rfl) (by rfl) (by rfl) (by rfl))) (by intro _; rfl)) (@pa_nil _) (by rfl)) (by rfl) (by decide) (by decide)) (@pe_int _ _ _ _) (nomark _)) (@pss_one _ _ _ (@ps_ret _ _ _ _ (@pe_bl _ _ _ _))) (@pss_nil _)) (@pss_one _ _ _ (@ps_ret _ _ _ _ (@pe_and _ _ _ _ _ _ _ (@pe_callD _ _ _ _ _ _ _ _ _ _ d_law_number hr rfl (@pa_u _ _ _ _ _ (@pe_ix _ _ _ _ _ _ _ ix_tup (@pv _ 0 _ _ (by rfl) (by first | exact Or.inl rfl | exact Or.inr (Or.inl rfl) | exact Or.inr (Or.inr rfl)) (by decide) (by decide)) (@pe_int _ _ _ _) (fun _ _ => rfl)) (@pa_u _ _ _ _ _ (@pe_int _ _ _ _) (@pa_u _ _ _ _ _ (@pe_op _ _ _ _ _ _ _ _ op_pow (@pe_int _ _ _ _) (@pe_int _ _ _ _)) (@pa_nil _) (by rfl)) (by rfl)) (by rfl)) (by rfl) (by decide)) (@pe_one _ _ _ _ _ (@pe_callBu _ _ _ _ _ _ _ _ _ call_isi rfl m_isinstance bt_isinstance (@pa_u _ _ _ _ _ (@pe_ix _ _ _ _ _ _ _ ix_tup (@pv _ 0 _ _ (by rfl) (by first | exact Or.inl rfl | exact Or.inr (Or.inl rfl) | exact Or.inr (Or.inr rfl)) (by decide) (by decide)) (@pe_int _ _ _ _) (fun _ _ => rfl)) (@pa_u _ _ _ _ _ (@pe_bltn _ _ (.ty "bool") _ _ rfl m_bool bt_bool rfl (by decide) (by decide)) (@pa_nil _) (by rfl)) (by rfl)) (by rfl) (by decide) (by decide)))))))))), rfl, ?_⟩
  walk_at "cl"
  have no : ∀ {d : PyData}, thD d = false → (∀ H', Same H H' → Q (.bl (thD d)) H') → ∀ H', Same H H' → Q (.bl false) H' := fun e q H' S => by have := q H' S; rw [e] at this; exact this
  walk_at "st"
  refine isi_of hd ?_
  walk_at "rd"
  cases d with
  | tuple ds =>
    obtain ⟨a, xs, rfl, hs, hx⟩ := Dt.tup_inv hd
    have hxl := hx.len
    rw [if_neg (by simp [isiD])]
    refine lenT_of hs ?_
    walk_at "rd"
    refine ite2 (fun c => ?_) (fun c => ?_)
    · exact no (th_len (by omega)) q _ (.refl _)
    have h3 : ds.length = 3 := by omega
    obtain ⟨_, hsm⟩ := sm_tup hk
    match ds, h3 with
    | [d1, d2, d3], _ =>
      obtain ⟨v1, v2, v3, rfl, h1, h2, h3⟩ := dt3 hx
      have ethD : thD (.tuple [d1, d2, d3]) = (nmD d1 && (whl d2 0 1000000 && isTr d3)) := rfl
      refine ⟨_, hs, _, atI_nat (j := 0) rfl, isi_of h1 ?_⟩
      walk_at "rd"
      refine ite2 (fun e => no (by rw [ethD, isi_str e]; rfl) q _ (.refl _)) (fun e => ?_)
      obtain ⟨x, rfl⟩ : ∃ x, d1 = .str x := by
        cases d1 with
        | str x => exact ⟨x, rfl⟩
        | _ => exact absurd rfl e
      clear e
      have hk1 := hsm (.str x) (by simp)
      simp only [Dt] at h1
      obtain ⟨rfl, _⟩ := h1
      obtain ⟨ha, hl, hal⟩ := sm_str hk1
      have hx0 : nmD (.str x) = nmS x.cps.toList := rfl
      have hxl2 := len_toList x
      walk_at "st"
      walk_at "st"
      refine ⟨_, hs, _, atI_nat (j := 0) rfl, ?_⟩
      walk_at "rd"
      refine ⟨_, rfl, small16' (by omega), ?_⟩
      walk_at "rd"
      refine ite2 (fun c1 => ?_) (fun c1 => ?_)
      rotate_left
      · exact no (by rw [ethD, hx0]; unfold nmS; rw [decide_eq_false (p := 1 ≤ x.cps.toList.length) (by omega)]; simp) q _ (.refl _)
      refine ite2 (fun c2 => ?_) (fun c2 => ?_)
      · exact no (by rw [ethD, hx0]; unfold nmS; rw [decide_eq_false (p := x.cps.toList.length ≤ 8) (by omega)]; simp) q _ (.refl _)
      obtain ⟨c, hc, hf, hm⟩ := fst_at (x := x) (by omega)
      have e1 : nmS x.cps.toList = (fst x.cps.toList && x.cps.toList.all ld) := by unfold nmS; rw [decide_eq_true (p := x.cps.toList.length ≤ 8) (by omega), decide_eq_true (p := 1 ≤ x.cps.toList.length) (by omega)]; rfl
      have hc8 := ha c hm
      have hlo := find_low c hc8
      walk_at "rd"
      refine ⟨rfl, _, hs, _, atI_nat (j := 0) rfl, ?_⟩
      walk_at "rd"
      refine ⟨c, small16' (by omega), hc, ?_⟩
      show if Txt.find letters (sgn c) < 0 then _ else _
      rw [hf, ← hlo] at e1
      refine ite2 (fun d1 => ?_) (fun d1 => ?_)
      · rw [decide_eq_false (p := 0 ≤ Txt.find letters (sgn c)) (by omega), Bool.false_and] at e1
        exact no (by rw [ethD, hx0, e1]; rfl) q _ (.refl _)
      rw [decide_eq_true (p := 0 ≤ Txt.find letters (sgn c)) (by omega), Bool.true_and] at e1
      walk_at "st"
      refine comp_str (fun d => .int (Txt.find signsS (sgn d))) (fun R h => ?_) hal (by show x.length ≤ 1000; omega) (fun d H1 hd1 S1 Q' hq => ?_) (fun D H1 S1 hD0 hD => ?_)
      · walk_at "rd"
        exact ⟨_, hs, _, atI_nat (j := 0) rfl, h⟩
      · walk_at "rd"
        exact ⟨small16' (by decide +kernel), rfl, hq _ (.refl _)⟩
      refine ⟨D, x.cps.toList.map fun d => Txt.find signsS (sgn d), rfl, .of (by rw [hD, List.map_map]; rfl), by rw [List.length_map]; omega, fun m hm1 hmin => ?_⟩
      walk_at "rd"
      have hfl : ∀ d ∈ x.cps.toList, decide (0 ≤ Txt.find signsS (sgn d)) = ld d := fun d hd => find_ld d (ha d hd)
      have e2 : decide (0 ≤ m) = x.cps.toList.all ld := by
        obtain ⟨d, hdm, rfl⟩ := List.mem_map.mp hm1
        cases hb : decide (0 ≤ Txt.find signsS (sgn d)) with
        | true =>
          refine (List.all_eq_true.mpr fun y hy => ?_).symm
          have := hmin _ (List.mem_map_of_mem (f := fun d => Txt.find signsS (sgn d)) hy)
          rw [← hfl y hy]
          exact decide_eq_true (Int.le_trans (of_decide_eq_true hb) this)
        | false =>
          refine (List.all_eq_false.mpr ⟨d, hdm, ?_⟩).symm
          rw [← hfl d hdm, hb]
          simp
      have e : nmD (.str x) = decide (0 ≤ m) := by rw [hx0, e1, e2]
      refine ite2 (fun c3 => no (by rw [ethD, e, decide_eq_false (p := 0 ≤ m) (by omega)]; rfl) q _ S1) (fun c3 => ?_)
      rw [decide_eq_true (p := 0 ≤ m) (by omega)] at e
      refine ⟨_, Same.sqT hs S1, _, atI_nat (j := 1) rfl, ⟨by decide, by decide, by decide⟩, ?_⟩
      rw [pow6]
      refine ⟨t, d2, v2, 0, 1000000, rfl, Same.dt h2 S1, _, rfl, ?_⟩
      have q' := q _ S1
      refine ite2 (fun e2 => ?_) (fun e2 => ?_)
      · rw [ethD, e, e2, Bool.true_and, Bool.true_and, ← isi_bool] at q'
        exact ⟨_, Same.sqT hs S1, _, atI_nat (j := 2) rfl, isi_of (Same.dt h3 S1) q'⟩
      · rw [ethD, e, show whl d2 0 1000000 = false by simpa using e2] at q'
        exact q'
  | none => rw [if_pos (by simp [isiD])]; exact no rfl q _ (.refl _)
  | bool b => rw [if_pos (by simp [isiD])]; exact no rfl q _ (.refl _)
  | int i => rw [if_pos (by simp [isiD])]; exact no rfl q _ (.refl _)
  | str x => rw [if_pos (by simp [isiD])]; exact no rfl q _ (.refl _)
  | list x => rw [if_pos (by simp [isiD])]; exact no rfl q _ (.refl _)
  | dict x => rw [if_pos (by simp [isiD])]; exact no rfl q _ (.refl _)
theorem ths_no {d : PyData} (h : isiD d "tuple" = false) : thsD d = false := by
  cases d with
  | tuple ds => simp [isiD] at h
  | _ => rfl
theorem isi_tup {d : PyData} (h : ¬ isiD d "tuple" = false) : ∃ es, d = .tuple es := by
  cases d with
  | tuple es => exact ⟨es, rfl⟩
  | _ => exact absurd rfl h
theorem down_no {d : PyData} (h : isiD d "tuple" = false) : downD d = false := by
  cases d with
  | tuple ds => simp [isiD] at h
  | _ => rfl
theorem lane_no {d : PyData} (h : isiD d "tuple" = false) : laneD d = false := by
  cases d with
  | tuple ds => simp [isiD] at h
  | _ => rfl
theorem lane_len {ds : List PyData} (h : ds.length ≠ 3) : laneD (.tuple ds) = false := by
  match ds, h with
  | [], _ => rfl
  | [_], _ => rfl
  | [_, _], _ => rfl
  | [_, _, _], h => exact absurd rfl h
  | _ :: _ :: _ :: _ :: _, _ => rfl
theorem ok_law_judged (F : Df K mg "_law_judged" s_law_judged ["_law_thing_here"]) (m_isinstance : mg "isinstance" = none) (m_tuple : mg "tuple" = none) (m_len : mg "len" = none) (m_all : mg "all" = none) (m_set : mg "set" = none) (d_law_units : Dn P w K mg base k "_law_units" ["_law_thing_here", "_law_around"] (spLU K 5)) (d_law_numbers : Dn P w K mg base k "_law_numbers" ["_law_thing_here", "_law_mosts"] (spNumbs K)) (d_law_is_throw : Dn P w K mg base k "_law_is_throw" ["_law_thing_here"] (spB K thD)) : Dn P w K mg base (k + 1) "_law_judged" ["_law_thing_here"] (spB K gameD) := by
  refine F.ok sc_law_judged (fun vs H Q E h => ?_) (fun f cdv A outer s H vs Q E hr h => ?_)
  · obtain ⟨t, d, v, rfl, _⟩ := h; rfl
  obtain ⟨t, d, v, rfl, hd, hk, q⟩ := h
  refine ⟨_, [some _, none], 
      (@pss_cons _ _ _ _ _ (@ps_if _ _ _ _ _ _ _ _ (@PW.pt _ _ _ (@pw_or _ _ _ _ _ _ _ (@pt_not _ _ _ _ (@pt_val _ _ _ (@pe_callBu _ _ _ _ _ _ _ _ _ call_isi rfl m_isinstance bt_isinstance (@pa_u _ _ _ _ _ (@pv _ 0 _ _ (by rfl) (by first | exact Or.inl rfl | exact Or.inr (Or.inl rfl) | exact Or.inr (Or.inr rfl)) (by decide) (by decide)) (@pa_u _ _ _ _ _ (@pe_bltn _ _ (.ty "tuple") _ _ rfl m_tuple bt_tuple rfl (by decide) (by decide)) (@pa_nil _) (by rfl)) (by rfl)) (by rfl) (by decide) (by decide)) (by intro _; rfl))) (@pw_or _ _ _ _ _ _ _ (@pt_cmpR _ _ _ _ _ _ _ _ op_ne (@pe_callBu _ _ _ _ _ _ _ _ _ call_lenS rfl m_len PySem.boot_len (@pa_u _ _ _ _ _ (@pv _ 0 _ _ (by rfl) (by first | exact Or.inl rfl | exact Or.inr (Or.inl rfl) | exact Or.inr (Or.inr rfl)) (by decide) (by decide)) (@pa_nil _) (by rfl)) (by rfl) (by decide) (by decide)) (@pe_int _ _ _ _) (nomark _)) (@pw_or1 _ _ _ _ (@pt_cmpR _ _ _ _ _ _ _ _ (op_notInS hr) (@pe_ix _ _ _ _ _ _ _ ix_tup (@pv _ 0 _ _ (by rfl) (by first | exact Or.inl rfl | exact Or.inr (Or.inl rfl) | exact Or.inr (Or.inr rfl)) (by decide) (by decide)) (@pe_int _ _ _ _) (fun _ _ => rfl)) (@pe_lst _ _ _ _ (@pa_u _ _ _ _ _ (@pe_str _ _ _ _) (@pa_u _ _ _ _ _ (@pe_str _ _ _ _) (@pa_u _ _ _ _ _ (@pe_str _ _ _ _) (@pa_nil _) (by rfl)) (by rfl)) (by rfl))) rfl))))) (@pss_one _ _ _ (@ps_ret _ _ _ _ (@pe_bl _ _ _ _))) (@pss_nil _)) 
      (@pss_cons _ _ _ _ _ (@ps_set _ _ 1 _ _ _ _ sc_law_judged.nd rfl (Or.inl rfl) (@pe_ix _ _ _ _ _ _ _ ix_tup (@pv _ 0 _ _ (by rfl) (by first | exact Or.inl rfl | exact Or.inr (Or.inl rfl) | exact Or.inr (Or.inr rfl)) (by decide) (by decide)) (@pe_int _ _ _ _) (fun _ _ => rfl)) (by rfl) (by first | exact .inl rfl | exact .inr rfl | assumption)) 
      (@pss_cons _ _ _ _ _ (@ps_if _ _ _ _ _ _ _ _ (@pt_cmpR _ _ _ _ _ _ _ _ (op_eqD hr) (@pe_ix _ _ _ _ _ _ _ ix_tup (@pv _ 0 _ _ (by rfl) (by first | exact Or.inl rfl | exact Or.inr (Or.inl rfl) | exact Or.inr (Or.inr rfl)) (by decide) (by decide)) (@pe_int _ _ _ _) (fun _ _ => rfl)) (@pe_str _ _ _ _) (nomark _)) (@pss_one _ _ _ (@ps_ret _ _ _ _ (@pe_cmpR _ _ _ _ _ _ _ _ op_le (@pe_callD _ _ _ _ _ _ _ _ _ _ d_law_units hr rfl (@pa_u _ _ _ _ _ (@pv _ 1 _ _ (by rfl) (by first | exact Or.inl rfl | exact Or.inr (Or.inl rfl) | exact Or.inr (Or.inr rfl)) (by decide) (by decide)) (@pa_u _ _ _ _ _ (@pe_int _ _ _ _) (@pa_nil _) (by rfl)) (by rfl)) (by rfl) (by decide)) (@pe_int _ _ _ _) (nomark _)))) (@pss_nil _)) 
      (@pss_cons _ _ _ _ _ (@ps_if _ _ _ _ _ _ _ _ (@pt_cmpR _ _ _ _ _ _ _ _ (op_eqD hr) (@pe_ix _ _ _ _ _ _ _ ix_tup (@pv _ 0 _ _ (by rfl) (by first | exact Or.inl rfl | exact Or.inr (Or.inl rfl) | exact Or.inr (Or.inr rfl)) (by decide) (by decide)) (@pe_int _ _ _ _) (fun _ _ => rfl)) (@pe_str _ _ _ _) (nomark _)) (@pss_one _ _ _ (@ps_ret _ _ _ _ (@pe_and _ _ _ _ _ _ _ (@pe_callBu _ _ _ _ _ _ _ _ _ call_isi rfl m_isinstance bt_isinstance (@pa_u _ _ _ _ _ (@pv _ 1 _ _ (by rfl) (by first | exact Or.inl rfl | exact Or.inr (Or.inl rfl) | exact Or.inr (Or.inr rfl)) (by decide) (by decide)) (@pa_u _ _ _ _ _ (@pe_bltn _ _ (.ty "tuple") _ _ rfl m_tuple bt_tuple rfl (by decide) (by decide)) (@pa_nil _) (by rfl)) (by rfl)) (by rfl) (by decide) (by decide)) (@pe_and _ _ _ _ _ _ _ (@pe_cmpR _ _ _ _ _ _ _ _ op_eq (@pe_callBu _ _ _ _ _ _ _ _ _ call_lenS rfl m_len PySem.boot_len (@pa_u _ _ _ _ _ (@pv _ 1 _ _ (by rfl) (by first | exact Or.inl rfl | exact Or.inr (Or.inl rfl) | exact Or.inr (Or.inr rfl)) (by decide) (by decide)) (@pa_nil _) (by rfl)) (by rfl) (by decide) (by decide)) (@pe_int _ _ _ _) (nomark _)) (@pe_one _ _ _ _ _ (@pe_callD _ _ _ _ _ _ _ _ _ _ d_law_numbers hr rfl (@pa_u _ _ _ _ _ (@pv _ 1 _ _ (by rfl) (by first | exact Or.inl rfl | exact Or.inr (Or.inl rfl) | exact Or.inr (Or.inr rfl)) (by decide) (by decide)) (@pa_u _ _ _ _ _ (@pe_lst _ _ _ _ (@pa_u _ _ _ _ _ (@pe_int _ _ _ _) (@pa_u _ _ _ _ _ (@pe_int _ _ _ _) (@pa_u _ _ _ _ _ (@pe_int _ _ _ _) (@pa_nil _) (by rfl)) (by rfl)) (by rfl))) (@pa_nil _) (by rfl)) (by rfl)) (by rfl) (by decide))))))) (@pss_nil _)) 
      (@pss_cons _ _ _ _ _ (@ps_if _ _ _ _ _ _ _ _ (@PW.pt _ _ _ (@pw_or _ _ _ _ _ _ _ (@pt_not _ _ _ _ (@pt_val _ _ _ (@pe_callBu _ _ _ _ _ _ _ _ _ call_isi rfl m_isinstance bt_isinstance (@pa_u _ _ _ _ _ (@pv _ 1 _ _ (by rfl) (by first | exact Or.inl rfl | exact Or.inr (Or.inl rfl) | exact Or.inr (Or.inr rfl)) (by decide) (by decide)) (@pa_u _ _ _ _ _ (@pe_bltn _ _ (.ty "tuple") _ _ rfl m_tuple bt_tuple rfl (by decide) (by decide)) (@pa_nil _) (by rfl)) (by rfl)) (by rfl) (by decide) (by decide)) (by intro _; rfl))) (@pw_or _ _ _ _ _ _ _ (@pt_cmpR _ _ _ _ _ _ _ _ op_ne (@pe_callBu _ _ _ _ _ _ _ _ _ call_lenS rfl m_len PySem.boot_len (@pa_u _ _ _ _ _ (@pv _ 1 _ _ (by rfl) (by first | exact Or.inl rfl | exact Or.inr (Or.inl rfl) | exact Or.inr (Or.inr rfl)) (by decide) (by decide)) (@pa_nil _) (by rfl)) (by rfl) (by decide) (by decide)) (@pe_int _ _ _ _) (nomark _)) (@pw_or1 _ _ _ _ (@pt_not _ _ _ _ (@pt_val _ _ _ (@pe_callBu _ _ _ _ _ _ _ _ _ call_isi rfl m_isinstance bt_isinstance (@pa_u _ _ _ _ _ (@pe_ix _ _ _ _ _ _ _ ix_tup (@pv _ 1 _ _ (by rfl) (by first | exact Or.inl rfl | exact Or.inr (Or.inl rfl) | exact Or.inr (Or.inr rfl)) (by decide) (by decide)) (@pe_int _ _ _ _) (fun _ _ => rfl)) (@pa_u _ _ _ _ _ (@pe_bltn _ _ (.ty "tuple") _ _ rfl m_tuple bt_tuple rfl (by decide) (by decide)) (@pa_nil _) (by rfl)) (by rfl)) (by rfl) (by decide) (by decide)) (by intro _; rfl))))))) (@pss_one _ _ _ (@ps_ret _ _ _ _ (@pe_bl _ _ _ _))) (@pss_nil _)) 
      (@pss_cons _ _ _ _ _ (@ps_if _ _ _ _ _ _ _ _ (@PW.pt _ _ _ (@pw_or _ _ _ _ _ _ _ (@pt_not _ _ _ _ (@pt_val _ _ _ (@pe_callD _ _ _ _ _ _ _ _ _ _ d_law_numbers hr rfl (@pa_u _ _ _ _ _ (@pv _ 1 _ _ (by rfl) (by first | exact Or.inl rfl | exact Or.inr (Or.inl rfl) | exact Or.inr (Or.inr rfl)) (by decide) (by decide)) (@pa_u _ _ _ _ _ (@pe_lst _ _ _ _ (@pa_u _ _ _ _ _ (@pe_int _ _ _ _) (@pa_u _ _ _ _ _ (@pe_op _ _ _ _ _ _ _ _ op_pow (@pe_int _ _ _ _) (@pe_int _ _ _ _)) (@pa_u _ _ _ _ _ (@pe_int _ _ _ _) (@pa_nil _) (by rfl)) (by rfl)) (by rfl))) (@pa_nil _) (by rfl)) (by rfl)) (by rfl) (by decide)) (by intro _; rfl))) (@pw_or1 _ _ _ _ (@pt_not _ _ _ _ (@pt_chain _ _ _ _ _ _ _ _ _ _ _ _ op_le op_le (@pe_int _ _ _ _) (@pe_callBu _ _ _ _ _ _ _ _ _ call_lenS rfl m_len PySem.boot_len (@pa_u _ _ _ _ _ (@pe_ix _ _ _ _ _ _ _ ix_tup (@pv _ 1 _ _ (by rfl) (by first | exact Or.inl rfl | exact Or.inr (Or.inl rfl) | exact Or.inr (Or.inr rfl)) (by decide) (by decide)) (@pe_int _ _ _ _) (fun _ _ => rfl)) (@pa_nil _) (by rfl)) (by rfl) (by decide) (by decide)) (@pe_int _ _ _ _) (by with_unfolding_all rfl)))))) (@pss_one _ _ _ (@ps_ret _ _ _ _ (@pe_bl _ _ _ _))) (@pss_nil _)) 
      (@pss_cons _ _ _ _ _ (@ps_if _ _ _ _ _ _ _ _ (@pt_not _ _ _ _ (@pt_val _ _ _ (@pe_callBu _ _ _ _ _ _ _ _ _ (call_allB rfl) rfl m_all bt_all (@pa_u _ _ _ _ _ (@pe_comp _ _ _ _ _ _ _ _ _ _ _ _ _ rfl (compPlain (N := ["_law_thing_here", "_law_rule_here"]) rfl (by decide +kernel) rfl) (@pi_tup _ _ _ _ (@pe_ix _ _ _ _ _ _ _ ix_tup (@pv _ 1 _ _ (by rfl) (by first | exact Or.inl rfl | exact Or.inr (Or.inl rfl) | exact Or.inr (Or.inr rfl)) (by decide) (by decide)) (@pe_int _ _ _ _) (fun _ _ => rfl))) (fun _ _ _ _ => (@pts_nil _)) (fun _ _ _ _ => (@pe_callD _ _ _ _ _ _ _ _ _ _ d_law_is_throw hr rfl (@pa_u _ _ _ _ _ (@pv _ 0 _ _ (by rfl) (by first | exact Or.inl rfl | exact Or.inr (Or.inl rfl) | exact Or.inr (Or.inr rfl)) (by decide) (by decide)) (@pa_nil _) (by rfl)) (by rfl) (by decide))) (by intro _; rfl)) (@pa_nil _) (by rfl)) (by rfl) (by decide) (by decide)) (by intro _; rfl))) (@pss_one _ _ _ (@ps_ret _ _ _ _ (@pe_bl _ _ _ _))) (@pss_nil _)) (@pss_one _ _ _ (@ps_ret _ _ _ _ (@pe_cmpR _ _ _ _ _ _ _ _ op_eq (@pe_callBu _ _ _ _ _ _ _ _ _ call_lenSet rfl m_len PySem.boot_len (@pa_u _ _ _ _ _ (@pe_callTu _ _ _ _ _ _ _ _ _ (call_setS rfl) rfl m_set bt_set (@pa_u _ _ _ _ _ (@pe_comp _ _ _ _ _ _ _ _ _ _ _ _ _ rfl (compPlain (N := ["_law_thing_here", "_law_rule_here"]) rfl (by decide +kernel) rfl) (@pi_tup _ _ _ _ (@pe_ix _ _ _ _ _ _ _ ix_tup (@pv _ 1 _ _ (by rfl) (by first | exact Or.inl rfl | exact Or.inr (Or.inl rfl) | exact Or.inr (Or.inr rfl)) (by decide) (by decide)) (@pe_int _ _ _ _) (fun _ _ => rfl))) (fun _ _ _ _ => (@pts_nil _)) (fun _ _ _ _ => (@pe_ix _ _ _ _ _ _ _ (ixK_tup (K := K) rfl) (@pv _ 0 _ _ (by rfl) (by first | exact Or.inl rfl | exact Or.inr (Or.inl rfl) | exact Or.inr (Or.inr rfl)) (by decide) (by decide)) (@pe_int _ _ _ _) (fun _ _ => rfl))) (by intro _; rfl)) (@pa_nil _) (by rfl)) (by rfl) (by decide) (by decide)) (@pa_nil _) (by rfl)) (by rfl) (by decide) (by decide)) (@pe_callBu _ _ _ _ _ _ _ _ _ call_lenS rfl m_len PySem.boot_len (@pa_u _ _ _ _ _ (@pe_ix _ _ _ _ _ _ _ ix_tup (@pv _ 1 _ _ (by rfl) (by first | exact Or.inl rfl | exact Or.inr (Or.inl rfl) | exact Or.inr (Or.inr rfl)) (by decide) (by decide)) (@pe_int _ _ _ _) (fun _ _ => rfl)) (@pa_nil _) (by rfl)) (by rfl) (by decide) (by decide)) (nomark _))))))))))), rfl, ?_⟩
  walk_at "cl"
  have no : ∀ {d : PyData}, gameD d = false → (∀ H', Same H H' → Q (.bl (gameD d)) H') → ∀ H', Same H H' → Q (.bl false) H' := fun e q H' S => by have := q H' S; rw [e] at this; exact this
  walk_at "st"
  refine isi_of hd ?_
  walk_at "rd"
  cases d with
  | tuple ds =>
    obtain ⟨a, xs, rfl, hs, hx⟩ := Dt.tup_inv hd
    have hxl := hx.len
    obtain ⟨_, hsm⟩ := sm_tup hk
    rw [if_neg (by simp [isiD])]
    refine lenT_of hs ?_
    walk_at "rd"
    refine ite2 (fun c => ?_) (fun c => ?_)
    · exact no (game_len (by omega)) q _ (.refl _)
    have h2 : ds.length = 2 := by omega
    match ds, h2 with
    | [d0, d1], _ =>
      obtain ⟨v0, v1, rfl, h0, h1⟩ := dt2 hx
      have eG : gameD (.tuple [d0, d1]) = if PyData.eqv d0 (.str "rally") = true then isRule d1 else if PyData.eqv d0 (.str "down") = true then downD d1 else (PyData.eqv d0 (.str "lane") && laneD d1) := rfl
      have hk1 := hsm d1 (by simp)
      refine ⟨_, hs, _, atI_nat (j := 0) rfl, small6 (by simp), fun p hp => ?_⟩
      have S0 := same_new hp (.lst [V.str (Str.ofString "rally"), V.str (Str.ofString "down"), V.str (Str.ofString "lane")])
      have l0 : SqL K (upd H p (.lst [V.str (Str.ofString "rally"), V.str (Str.ofString "down"), V.str (Str.ofString "lane")])) p ([Str.ofString "rally", Str.ofString "down", Str.ofString "lane"].map V.str) := .of upd_same
      generalize upd H p (.lst [V.str (Str.ofString "rally"), V.str (Str.ofString "down"), V.str (Str.ofString "lane")]) = H0 at S0 l0 ⊢
      replace hs := Same.sqT hs S0
      replace h0 := Same.dt h0 S0
      replace h1 := Same.dt h1 S0
      replace q : ∀ H', Same H0 H' → Q (.bl (gameD (.tuple [d0, d1]))) H' := fun H' S => q H' (S0.trans S)
      replace no : gameD (.tuple [d0, d1]) = false → ∀ H', Same H0 H' → Q (.bl false) H' := fun e H' S => by have := q H' S; rw [e] at this; exact this
      refine ⟨t, d0, p, _, rfl, l0, (by decide +kernel), h0, _, rfl, ?_⟩
      rw [show ([Str.ofString "rally", Str.ofString "down", Str.ofString "lane"].any fun z => PyData.eqv (.str z) d0) = (PyData.eqv d0 (.str "rally") || (PyData.eqv d0 (.str "down") || PyData.eqv d0 (.str "lane"))) by simp only [List.any_cons, List.any_nil, Bool.or_false, eqv_strc]]
      refine ite2 (fun e => ?_) (fun e => ?_)
      · simp only [Bool.not_eq_true', Bool.or_eq_false_iff] at e
        exact no (by rw [eG, e.1, e.2.1, e.2.2]; rfl) _ (.refl _)
      walk_at "st"
      refine ⟨_, hs, _, atI_nat (j := 1) rfl, ?_⟩
      walk_at "st"
      refine ⟨_, hs, _, atI_nat (j := 0) rfl, eqF_of h0 (dstr "rally") (depR (n := 0) rfl) ?_⟩
      walk_at "rd"
      refine ite2 (fun c1 => ?_) (fun c1 => ?_)
      · rw [if_pos c1] at eG
        refine ⟨t, d1, v1, 0, rfl, by decide, by decide, by decide, h1, fun H1 S1 => ?_⟩
        walk_at "rd"
        rw [show (4 - (0 : Int)).toNat = 4 from rfl, lu_rule]
        have := q _ S1
        rw [eG] at this
        exact this
      rw [if_neg c1] at eG
      walk_at "st"
      refine ⟨_, hs, _, atI_nat (j := 0) rfl, eqF_of h0 (dstr "lane") (depR (n := 0) rfl) ?_⟩
      walk_at "rd"
      refine ite2 (fun c2 => ?_) (fun c2 => ?_)
      · have e0 := eqv_strD c2
        subst e0
        replace eG : gameD (.tuple [.str "lane", d1]) = laneD d1 := by
          rw [eG, if_neg (by decide +kernel), show PyData.eqv (.str "lane") (.str "lane") = true by decide +kernel]
          rfl
        refine isi_of h1 ⟨_, rfl, ite2 (fun e1 => ?_) (fun e1 => ?_)⟩
        · obtain ⟨es, rfl⟩ := isi_tup (by rw [e1]; intro h; cases h)
          obtain ⟨b, ys, rfl, hs1, hy⟩ := Dt.tup_inv h1
          have hyl := hy.len
          refine lenT_of hs1 ?_
          walk_at "rd"
          refine ite2 (fun c3 => ?_) (fun c3 => ?_)
          · refine ⟨small6 (by simp), fun p2 hp2 => ?_⟩
            have S2 := same_new hp2 (.lst [V.int 3, V.int 20, V.int 12])
            refine ⟨t, b, p2, es, ys, [3, 20, 12], rfl, Same.sqT hs1 S2, hy.on S2.ext, by omega, .of upd_same, rfl, fun H3 S3 => ?_⟩
            have h3 : es.length = 3 := by omega
            match es, h3 with
            | [e1, e2, e3], _ =>
              have := q _ (S2.trans S3)
              rw [eG] at this
              rw [show (List.range 3).all (whlAt [e1, e2, e3] [3, 20, 12]) = laneD (.tuple [e1, e2, e3]) by simp [laneD, whlAt, List.range_succ, Bool.and_assoc]]
              exact this
          · exact no (by rw [eG, lane_len (by omega)]) _ (.refl _)
        · have := no (by rw [eG, lane_no (by simpa using e1)]) _ (.refl _)
          exact this
      have e0 : d0 = .str "down" := by
        refine eqv_strD ?_
        simp only [Bool.not_eq_true', Bool.not_eq_false, Bool.or_eq_true] at e
        rcases e with e | e | e
        · exact absurd e c1
        · exact e
        · exact absurd e c2
      subst e0
      replace eG : gameD (.tuple [.str "down", d1]) = downD d1 := by rw [eG, if_pos (by decide +kernel)]
      clear c1 c2 e l0
      walk_at "st"
      refine isi_of h1 ?_
      walk_at "rd"
      refine ite2 (fun e1 => no (by rw [eG, down_no e1]) _ (.refl _)) (fun e1 => ?_)
      obtain ⟨es, rfl⟩ := isi_tup e1
      obtain ⟨b, ys, rfl, hs1, hy⟩ := Dt.tup_inv h1
      have hyl := hy.len
      refine lenT_of hs1 ?_
      walk_at "rd"
      refine ite2 (fun c3 => no (by rw [eG, down_len (by omega)]) _ (.refl _)) (fun c3 => ?_)
      have h4 : es.length = 4 := by omega
      match es, h4 with
      | [e1, e2, e3, e4], _ =>
        obtain ⟨u1, u2, u3, u4, rfl, g1, g2, g3, g4⟩ := dt4 hy
        have eD : downD (.tuple [e1, e2, e3, e4]) = ((List.range 3).all (whlAt [e1, e2, e3, e4] [3, 1000000, 3]) && thsD e4) := by simp [downD, whlAt, List.range_succ, Bool.and_assoc]
        rw [eD] at eG
        refine ⟨_, hs1, _, atI_nat (j := 3) rfl, isi_of g4 ?_⟩
        walk_at "rd"
        refine ite2 (fun e => no (by rw [eG, ths_no e, Bool.and_false]) _ (.refl _)) (fun e => ?_)
        obtain ⟨fs, rfl⟩ := isi_tup e
        have hk4 : smD (.tuple fs) = true := (sm_tup hk1).2 (.tuple fs) (by simp)
        obtain ⟨_, hsm4⟩ := sm_tup hk4
        obtain ⟨c, zs, rfl, hs4, hz⟩ := Dt.tup_inv g4
        have hzl := hz.len
        have eT : thsD (.tuple fs) = ((decide (1 ≤ fs.length) && decide (fs.length ≤ 30)) && (fs.all thD && decide (nDist (fs.map nmOf) = fs.length))) := rfl
        walk_at "st"
        refine ⟨⟨by decide, by decide, by decide⟩, small6 (by simp), fun p2 hp2 => ?_⟩
        rw [pow6]
        have S2 := same_new hp2 (.lst [V.int 3, V.int 1000000, V.int 3])
        refine ⟨t, b, p2, [e1, e2, e3, .tuple fs], [u1, u2, u3, .ref c], [3, 1000000, 3], rfl, Same.sqT hs1 S2, hy.on S2.ext, (by simp), .of upd_same, rfl, fun H3 S3 => ⟨_, rfl, ?_⟩⟩
        replace S3 := S2.trans S3
        clear S2
        generalize upd H0 p2 (.lst [V.int 3, V.int 1000000, V.int 3]) = H2 at *
        refine ite2 (fun e5 => no (by rw [eG, e5]; rfl) _ S3) (fun e5 => ?_)
        replace e5 : (List.range 3).all (whlAt [e1, e2, e3, .tuple fs] [3, 1000000, 3]) = true := by simpa using e5
        rw [e5, Bool.true_and] at eG
        have hs1' := Same.sqT hs1 S3
        have hs4' := Same.sqT hs4 S3
        refine ⟨_, hs1', _, atI_nat (j := 3) rfl, lenT_of hs4' ?_⟩
        walk_at "rd"
        have at3 : ∀ (H' : Hp) (R : VK), SqT K H' b [u1, u2, u3, .ref c] → R (.ref c) H' → tOp (rIxT K) (tVar 1) (tC (V.int 3)) [some (V.ref a), some (V.ref b)] H' R := fun H' R h1 h2 => by
          walk_at "rd"
          exact ⟨_, h1, _, atI_nat (j := 3) rfl, h2⟩
        refine ite2 (fun c1 => ite2 (fun c2 => ?_) (fun c2 => ?_)) (fun c1 => ?_)
        · exact no (by rw [eG, eT, decide_eq_false (p := fs.length ≤ 30) (by omega)]; simp) _ S3
        · rw [decide_eq_true (p := 1 ≤ fs.length) (by omega), decide_eq_true (p := fs.length ≤ 30) (by omega), Bool.true_and, Bool.true_and] at eT
          rw [eT] at eG
          walk_at "st"
          have hz3 := hz.on S3.ext
          refine comp_tG (K := K) (fun _ => true) (fun i y _ => y = V.bl (thD (fs.getD i .none))) (fun R h => at3 _ R hs1' h) hs4' (by omega) (fun _ _ _ _ _ h => h) (fun i x H1 hx1 S1 Q' hq => hq _ (.refl _)) (fun i x H1 hx1 _ S1 Q' hq => ?_) (fun D zs5 H5 S5 hD hD1 hall => ?_)
          · obtain ⟨g1, g2⟩ := dget hz3 hx1
            walk_at "rd"
            exact ⟨t, _, x, rfl, Same.dt g1 S1, hsm4 _ g2, fun H2 S2 => hq _ _ S2 rfl⟩
          rw [List.filter_eq_self.mpr (by simp), ← hzl] at hall
          have ez : zs5 = (fs.map thD).map V.bl := by
            rw [All2.eq hall, ← range_map thD fs, List.map_map]
            rfl
          refine ⟨D, _, rfl, .of (by rw [hD1, ez]), ?_⟩
          rw [show (List.map thD fs).all id = fs.all thD by rw [List.all_map]; rfl]
          walk_at "rd"
          refine ite2 (fun f1 => no (by rw [eG, f1]; rfl) _ (S3.trans S5)) (fun f1 => ?_)
          replace f1 : fs.all thD = true := by simpa using f1
          have hs5 := Same.sqT hs4' S5
          have hx5 := hz3.on S5.ext
          refine comp_tG (K := K) (fun _ => true) (fun i y _ => y = V.str (nmOf (fs.getD i .none))) (fun R h => at3 _ R (Same.sqT hs1' S5) h) hs5 (by omega) (fun _ _ _ _ _ h => h) (fun i x H2 hx2 S2 Q' hq => hq _ (.refl _)) (fun i x H2 hx2 _ S2 Q' hq => ?_) (fun D2 zs2 H6 S6 hD2 hD3 hall2 => ?_)
          · obtain ⟨g1, g2⟩ := dget hx5 hx2
            obtain ⟨b, v2, v3, rfl, g3⟩ := th_name (List.all_eq_true.mp f1 _ g2) g1
            walk_at "rd"
            exact ⟨_, Same.sqT g3 S2, _, atI_nat (j := 0) rfl, hq _ _ (.refl _) rfl⟩
          rw [List.filter_eq_self.mpr (by simp), ← hzl] at hall2
          have e2 : zs2 = (fs.map nmOf).map V.str := by
            rw [All2.eq hall2, ← range_map nmOf fs, List.map_map]
            rfl
          have hln : (fs.map nmOf).length = fs.length := List.length_map ..
          have hnd : nDist (fs.map nmOf) ≤ 1000000 := Nat.le_trans (ndAt_le _ _) (by omega)
          refine ⟨D2, _, rfl, .of (by rw [hD3, e2]), by omega, fun D4 hD4 => ⟨D4, _, rfl, upd_same, hnd, ?_⟩⟩
          have s4 := same_new hD4 (setO D4 (nDist (fs.map nmOf)))
          have SS := ((S3.trans S5).trans S6).trans s4
          refine ⟨_, Same.sqT hs1 SS, _, atI_nat (j := 3) rfl, lenT_of (Same.sqT hs4 SS) ?_⟩
          walk_at "rd"
          have q' := q _ SS
          rw [eG, f1, Bool.true_and] at q'
          rw [show (decide (((nDist (fs.map nmOf) : Nat) : Int) = (zs.length : Int))) = decide (nDist (fs.map nmOf) = fs.length) by rw [decide_eq_decide]; omega]
          exact q'
        · exact no (by rw [eG, eT, decide_eq_false (p := 1 ≤ fs.length) (by omega)]; simp) _ S3
  | none => rw [if_pos (by simp [isiD])]; exact no rfl q _ (.refl _)
  | bool b => rw [if_pos (by simp [isiD])]; exact no rfl q _ (.refl _)
  | int i => rw [if_pos (by simp [isiD])]; exact no rfl q _ (.refl _)
  | str x => rw [if_pos (by simp [isiD])]; exact no rfl q _ (.refl _)
  | list x => rw [if_pos (by simp [isiD])]; exact no rfl q _ (.refl _)
  | dict x => rw [if_pos (by simp [isiD])]; exact no rfl q _ (.refl _)
end
end My
namespace My
open PySem L2 M
section
variable (K : PySem.W.Frag) (ns : List Int)
def spBent : Sp := fun vs H Q _ => ∃ t ds v, vs = [.ref t, v] ∧ Tape K ns t H ∧ Dt K t H (.tuple ds) v ∧ (∀ d ∈ ds, Gd 121303 5 d) ∧ 1 ≤ ds.length ∧ ds.length ≤ 6 ∧ ∀ d v' H', Cur K ns t H H' → Dt K t H' d v' → Gd 2200000 8 d → Q v' H'
def spSpoilt : Sp := fun vs H Q _ => ∃ t g v, vs = [.ref t, v] ∧ Tape K ns t H ∧ GmV K H g v ∧ GmOk g ∧ ∀ d v' H', Cur K ns t H H' → Dt K t H' d v' → Gd 5000000 12 d → Q v' H'
end
section
variable {P : Program} {w : World} {K : PySem.W.Frag} {mg : Str → Option Value} {base : Heap} {ns : List Int} {k : Nat}
def bent41 (ds : List PyData) : List PyData := [.int 0, .int 1, .int 2, .int 3, .int 4, .int 12, .int 13, .int 20, .int 21, .int 99, .int 100, .bool true, .none, .str (Str.ofString "1"), .list [.int 1], .tuple [.str (Str.ofString "point")], .tuple [], .list ds, .int (-1), .int (10 ^ Int.toNat 40)]
theorem bent_gd {ds : List PyData} (h : ∀ d ∈ ds, Gd 121303 5 d) (hl : ds.length ≤ 6) : ∀ d ∈ bent41 ds, Gd 727833 6 d := by
  intro d hd
  simp only [bent41, List.mem_cons, List.not_mem_nil, or_false] at hd
  rcases hd with rfl | rfl | rfl | rfl | rfl | rfl | rfl | rfl | rfl | rfl | rfl | rfl | rfl | rfl | rfl | rfl | rfl | rfl | rfl | rfl
  all_goals first
    | exact ⟨by decide +kernel, by decide +kernel, by simp [PyData.depth, PyData.depthAll]⟩
    | exact (Gd.lst (n := 6) h hl).mono
theorem ok_law_bent (F : Df K mg "_law_bent" s_law_bent ["_law_tape_here", "_law_rule_here"]) (m_len : mg "len" = none) (m_list : mg "list" = none) (d_law_draw : Dn P w K mg base k "_law_draw" ["_law_tape_here", "_law_many"] (spDraw K ns)) : Dn P w K mg base (k + 1) "_law_bent" ["_law_tape_here", "_law_rule_here"] (spBent K ns) := by
  refine F.ok sc_law_bent (fun vs H Q E h => ?_) (fun f cdv A outer s H vs Q E hr h => ?_)
  · obtain ⟨t, ds, v, rfl, _⟩ := h; rfl
  obtain ⟨t, ds, v, rfl, T, hd, hg, hl1, hl6, q⟩ := h
  refine ⟨_, [some _, some _, none, none], 
      (@pss_cons _ _ _ _ _ (@ps_set _ _ 2 _ _ _ _ sc_law_bent.nd rfl (Or.inl rfl) (@pe_callD _ _ _ _ _ _ _ _ _ _ d_law_draw hr rfl (@pa_u _ _ _ _ _ (@pv _ 0 _ _ (by rfl) (by first | exact Or.inl rfl | exact Or.inr (Or.inl rfl) | exact Or.inr (Or.inr rfl)) (by decide) (by decide)) (@pa_u _ _ _ _ _ (@pe_callBu _ _ _ _ _ _ _ _ _ call_lenS rfl m_len PySem.boot_len (@pa_u _ _ _ _ _ (@pv _ 1 _ _ (by rfl) (by first | exact Or.inl rfl | exact Or.inr (Or.inl rfl) | exact Or.inr (Or.inr rfl)) (by decide) (by decide)) (@pa_nil _) (by rfl)) (by rfl) (by decide) (by decide)) (@pa_nil _) (by rfl)) (by rfl)) (by rfl) (by decide)) (by rfl) (by first | exact .inl rfl | exact .inr rfl | assumption)) 
      (@pss_cons _ _ _ _ _ (@ps_set _ _ 3 _ _ _ _ sc_law_bent.nd rfl (Or.inl rfl) (@pe_lst _ _ _ _ (@pa_u _ _ _ _ _ (@pe_int _ _ _ _) (@pa_u _ _ _ _ _ (@pe_int _ _ _ _) (@pa_u _ _ _ _ _ (@pe_int _ _ _ _) (@pa_u _ _ _ _ _ (@pe_int _ _ _ _) (@pa_u _ _ _ _ _ (@pe_int _ _ _ _) (@pa_u _ _ _ _ _ (@pe_int _ _ _ _) (@pa_u _ _ _ _ _ (@pe_int _ _ _ _) (@pa_u _ _ _ _ _ (@pe_int _ _ _ _) (@pa_u _ _ _ _ _ (@pe_int _ _ _ _) (@pa_u _ _ _ _ _ (@pe_int _ _ _ _) (@pa_u _ _ _ _ _ (@pe_int _ _ _ _) (@pa_u _ _ _ _ _ (@pe_bl _ _ _ _) (@pa_u _ _ _ _ _ (@pe_non _ _ _) (@pa_u _ _ _ _ _ (@pe_str _ _ _ _) (@pa_u _ _ _ _ _ (@pe_lst _ _ _ _ (@pa_u _ _ _ _ _ (@pe_int _ _ _ _) (@pa_nil _) (by rfl))) (@pa_u _ _ _ _ _ (@pe_tup _ _ _ _ _ (@pa_u _ _ _ _ _ (@pe_str _ _ _ _) (@pa_nil _) (by rfl))) (@pa_u _ _ _ _ _ (@pe_tup _ _ _ _ _ (@pa_nil _)) (@pa_u _ _ _ _ _ (@pe_callTu _ _ _ _ _ _ _ _ _ call_listS rfl m_list bt_list (@pa_u _ _ _ _ _ (@pv _ 1 _ _ (by rfl) (by first | exact Or.inl rfl | exact Or.inr (Or.inl rfl) | exact Or.inr (Or.inr rfl)) (by decide) (by decide)) (@pa_nil _) (by rfl)) (by rfl) (by decide) (by decide)) (@pa_u _ _ _ _ _ (@pe_un _ _ _ _ _ _ un_neg (@pe_int _ _ _ _)) (@pa_u _ _ _ _ _ (@pe_op _ _ _ _ _ _ _ _ op_pow (@pe_int _ _ _ _) (@pe_int _ _ _ _)) (@pa_nil _) (by rfl)) (by rfl)) (by rfl)) (by rfl)) (by rfl)) (by rfl)) (by rfl)) (by rfl)) (by rfl)) (by rfl)) (by rfl)) (by rfl)) (by rfl)) (by rfl)) (by rfl)) (by rfl)) (by rfl)) (by rfl)) (by rfl)) (by rfl))) (by rfl) (by first | exact .inl rfl | exact .inr rfl | assumption)) (@pss_one _ _ _ (@ps_ret _ _ _ _ (@pe_op _ _ _ _ _ _ _ _ op_catA (@pe_op _ _ _ _ _ _ _ _ op_catA (@pe_slice _ _ _ _ _ _ _ _ _ _ slA_tup (@pv _ 1 _ _ (by rfl) (by first | exact Or.inl rfl | exact Or.inr (Or.inl rfl) | exact Or.inr (Or.inr rfl)) (by decide) (by decide)) (@po_none _) (@po_some _ _ _ (@pv _ 2 _ _ (by rfl) (by first | exact Or.inl rfl | exact Or.inr (Or.inl rfl) | exact Or.inr (Or.inr rfl)) (by decide) (by decide)))) (@pe_tup _ _ _ _ _ (@pa_u _ _ _ _ _ (@pe_ix _ _ _ _ _ _ _ ix_list (@pv _ 3 _ _ (by rfl) (by first | exact Or.inl rfl | exact Or.inr (Or.inl rfl) | exact Or.inr (Or.inr rfl)) (by decide) (by decide)) (@pe_callD _ _ _ _ _ _ _ _ _ _ d_law_draw hr rfl (@pa_u _ _ _ _ _ (@pv _ 0 _ _ (by rfl) (by first | exact Or.inl rfl | exact Or.inr (Or.inl rfl) | exact Or.inr (Or.inr rfl)) (by decide) (by decide)) (@pa_u _ _ _ _ _ (@pe_int _ _ _ _) (@pa_nil _) (by rfl)) (by rfl)) (by rfl) (by decide)) (fun _ _ => rfl)) (@pa_nil _) (by rfl)))) (@pe_slice _ _ _ _ _ _ _ _ _ _ slA_tup (@pv _ 1 _ _ (by rfl) (by first | exact Or.inl rfl | exact Or.inr (Or.inl rfl) | exact Or.inr (Or.inr rfl)) (by decide) (by decide)) (@po_some _ _ _ (@pe_op _ _ _ _ _ _ _ _ op_add (@pv _ 2 _ _ (by rfl) (by first | exact Or.inl rfl | exact Or.inr (Or.inl rfl) | exact Or.inr (Or.inr rfl)) (by decide) (by decide)) (@pe_int _ _ _ _))) (@po_none _))))))), rfl, ?_⟩
  walk_at "cl"
  obtain ⟨a, xs, rfl, hs, hx⟩ := Dt.tup_inv hd
  have hxl := hx.len
  walk_at "st"
  refine lenT_of hs ?_
  walk_at "rd"
  refine draw_of T (fun r1 H1 r10 r11 c1 => ?_) (by omega) (by omega)
  have hd1 := hd.on c1.ext
  have ht1 : H1 t ≠ none := fun z => c1.tape.ne z rfl
  try dsimp only
  try rw [L2.r_name]
  try simp only [List.set_cons_zero, List.set_cons_succ]
  rw [L2.r_seq, L2.r_asg]
  refine gl_lst (K := K) (t := t) (ds := bent41 ds) ?_ (by simp [bent41]) fun p2 vs2 H2 S2 hp2 hd2 => ?_
  · unfold bent41
    walk_at "gd"
  have s2 := same_new hp2 (.lst vs2)
  have l3 : (upd H2 p2 (.lst vs2)) p2 = some (.lst vs2) := upd_same
  have C2 := c1.same S2
  have n2 : p2 ≠ t := C2.tape.ne hp2
  have C3 := C2.same s2
  have hd3 := hd2.on s2.ext
  have hdd3 := Same.dt hd1 (S2.trans s2)
  generalize upd H2 p2 (.lst vs2) = H3 at C3 l3 hd3 hdd3 ⊢
  simp only [L2.r_name, List.set_cons_zero, List.set_cons_succ]
  walk_at "rd"
  refine slA_of hdd3 fun p5 H5 S5 h5 => ?_
  refine draw_of (C3.same S5).tape fun r6 H6 r60 r61 c6 => ?_
  have C6 := (C3.same S5).then c6
  have l6 : SqL K H6 p2 vs2 := c6.ext.sqL n2 (.of (S5 _ _ l3))
  obtain ⟨v6, e6, hv6, hm6, hd6⟩ := menu (i := r6) ((hd3.on S5.ext).on c6.ext) r60 (by show r6 < (((bent41 ds).length : Nat) : Int); rw [show (bent41 ds).length = 20 from rfl]; omega)
  refine ⟨_, l6, _, hv6, small6 (by simp), fun p7 hp7 => ?_⟩
  have s7 := same_new hp7 (.tup [v6])
  have h7 : Dt K t (upd H6 p7 (.tup [v6])) (.tuple [e6]) (.ref p7) := .newT hp7 (.cons hd6 .nil)
  have z1 := cutD_len ds none (some r1)
  have z2 := cutD_len ds (some (r1 + 1)) none
  have hdd7 := Same.dt ((hdd3.on S5.ext).on c6.ext) s7
  refine catA_of (Same.dt (h5.on c6.ext) s7) h7 (by simp at *; omega) fun p8 H8 S8 h8 => ?_
  refine slA_of (Same.dt hdd7 S8) fun p9 H9 S9 h9 => ?_
  refine catA_of (Same.dt h8 S9) h9 (by simp at *; omega) fun p10 H10 S10 h10 => ?_
  refine q _ _ _ (((C6.same s7).same (S8.trans S9)).same S10) h10 ?_
  have g1 : GdL 727830 5 6 (cutD ds none (some r1)) := GdL.of (W := 121303) (n := 6) (fun d hd => hg d (cutD_mem hd)) (by omega)
  have g2 : GdL 727830 5 6 (cutD ds (some (r1 + 1)) none) := GdL.of (W := 121303) (n := 6) (fun d hd => hg d (cutD_mem hd)) (by omega)
  exact ((g1.app (GdL.one (bent_gd hg hl6 e6 (List.mem_of_getElem? hm6)))).app g2).tup.mono
def words41 : List PyData := [.str (Str.ofString "rally"), .str (Str.ofString "down"), .str (Str.ofString "lane"), .str (Str.ofString "Rally"), .str (Str.ofString ""), .none, .int 1, .tuple [.str (Str.ofString "rally")], .str (Str.ofString "lanes"), .bool true]
theorem words_gd : ∀ d ∈ words41, Gd 1455673 7 d := by
  intro d hd
  simp only [words41, List.mem_cons, List.not_mem_nil, or_false] at hd
  rcases hd with rfl | rfl | rfl | rfl | rfl | rfl | rfl | rfl | rfl | rfl <;> exact ⟨by decide +kernel, by decide +kernel, by simp [PyData.depth, PyData.depthAll]⟩
def some41 (dw : PyData) (g o : Gm) : List PyData := [.tuple [dw, .tuple g.items], .tuple [.str g.word, .tuple o.items], .list [.str g.word, .tuple g.items], .tuple ([.str g.word, .tuple g.items] ++ [.int 1]), .tuple (cutD [.str g.word, .tuple g.items] none (some 1)), .tuple g.items, .tuple [.tuple [.str g.word, .tuple g.items]], .list [.tuple [.str g.word, .tuple g.items]]]
def more41 (g : Gm) : List PyData := [.tuple [.str g.word, .list g.items], .tuple [.str g.word, .tuple (cutD g.items (some 1) none)], .tuple [.str g.word, .tuple (g.items ++ [.int 1])]]
theorem gd1 : Gd 81 0 (.int 1) := Gd.int (by decide +kernel)
theorem pair_gd {W D : Nat} {a b : PyData} (ha : Gd W D a) (hb : Gd W D b) : Gd (2 * W + 7) (D + 1) (.tuple [a, b]) := by
  refine (Gd.tup (W := W) (D := D) (n := 2) (fun d hd => ?_) (by simp)).mono
  simp only [List.mem_cons, List.not_mem_nil, or_false] at hd
  rcases hd with rfl | rfl
  · exact ha
  · exact hb
theorem some_gd {dw : PyData} {g o : Gm} (hw : Gd 1455673 7 dw) (hg : GmOk g) (ho : GmOk o) : ∀ d ∈ some41 dw g o ++ more41 g, Gd 5000000 12 d := by
  obtain ⟨i1, i2, i3⟩ := items_gd hg
  have hr := rule_gd hg
  have hro := rule_gd ho
  have hwd := gd_word g
  have heg := encG_gd hg
  rw [rule_items] at hr hro
  unfold encG at heg
  rw [rule_items] at heg
  intro d hd
  simp only [some41, more41, List.cons_append, List.nil_append, List.mem_cons, List.not_mem_nil, or_false] at hd
  rcases hd with rfl | rfl | rfl | rfl | rfl | rfl | rfl | rfl | rfl | rfl | rfl
  · exact (pair_gd hw (hr.mono (W' := 1455673) (D' := 7))).mono
  · exact (pair_gd (hwd.mono (W' := 727833) (D' := 6)) hro).mono
  · refine (Gd.lst (W := 727833) (D := 6) (n := 2) (fun d hd => ?_) (by simp)).mono
    simp only [List.mem_cons, List.not_mem_nil, or_false] at hd
    rcases hd with rfl | rfl
    · exact hwd.mono
    · exact hr
  · refine (Gd.tup (W := 727833) (D := 6) (n := 3) (fun d hd => ?_) (by simp)).mono
    simp only [List.mem_cons, List.not_mem_nil, or_false] at hd
    rcases hd with rfl | rfl | rfl
    · exact hwd.mono
    · exact hr
    · exact gd1.mono
  · refine (Gd.tup (W := 727833) (D := 6) (n := 2) (fun d hd => ?_) (cutD_len _ _ _)).mono
    have := cutD_mem hd
    simp only [List.mem_cons, List.not_mem_nil, or_false] at this
    rcases this with rfl | rfl
    · exact hwd.mono
    · exact hr
  · exact hr.mono
  · exact (Gd.tup (n := 1) (fun d hd => by rw [List.mem_singleton.mp hd]; exact heg) (by simp)).mono
  · exact (Gd.lst (n := 1) (fun d hd => by rw [List.mem_singleton.mp hd]; exact heg) (by simp)).mono
  · exact (pair_gd (hwd.mono (W' := 727833) (D' := 6)) (Gd.lst (n := 6) i1 i3).mono).mono
  · exact (pair_gd (hwd.mono (W' := 727833) (D' := 6)) (Gd.tup (n := 6) (fun d hd => i1 d (cutD_mem hd)) (Nat.le_trans (cutD_len _ _ _) i3)).mono).mono
  · exact (pair_gd (hwd.mono (W' := 727833 + 100) (D' := 6)) (((GdL.of i1 i3).app (GdL.one gd1)).tup.mono)).mono
theorem ok_law_spoilt (F : Df K mg "_law_spoilt" s_law_spoilt ["_law_tape_here", "_law_game_here"]) (m_list : mg "list" = none) (d_law_draw : Dn P w K mg base k "_law_draw" ["_law_tape_here", "_law_many"] (spDraw K ns)) (d_law_game : Dn P w K mg base k "_law_game" ["_law_tape_here"] (spGame K ns)) (d_law_bent : Dn P w K mg base k "_law_bent" ["_law_tape_here", "_law_rule_here"] (spBent K ns)) : Dn P w K mg base (k + 1) "_law_spoilt" ["_law_tape_here", "_law_game_here"] (spSpoilt K ns) := by
  refine F.ok sc_law_spoilt (fun vs H Q E h => ?_) (fun f cdv A outer s H vs Q E hr h => ?_)
  · obtain ⟨t, g, v, rfl, _⟩ := h; rfl
  obtain ⟨t, g, v, rfl, T, hg, hok, q⟩ := h
  refine ⟨_, [some _, some _, none, none, none, none], 
      (@pss_cons _ _ _ _ _ (@ps_set _ _ 2 _ _ _ _ sc_law_spoilt.nd rfl (Or.inl rfl) (@pe_callD _ _ _ _ _ _ _ _ _ _ d_law_game hr rfl (@pa_u _ _ _ _ _ (@pv _ 0 _ _ (by rfl) (by first | exact Or.inl rfl | exact Or.inr (Or.inl rfl) | exact Or.inr (Or.inr rfl)) (by decide) (by decide)) (@pa_nil _) (by rfl)) (by rfl) (by decide)) (by rfl) (by first | exact .inl rfl | exact .inr rfl | assumption)) 
      (@pss_cons _ _ _ _ _ (@ps_set _ _ 3 _ _ _ _ sc_law_spoilt.nd rfl (Or.inl rfl) (@pe_ix _ _ _ _ _ _ _ ix_list (@pe_lst _ _ _ _ (@pa_u _ _ _ _ _ (@pe_str _ _ _ _) (@pa_u _ _ _ _ _ (@pe_str _ _ _ _) (@pa_u _ _ _ _ _ (@pe_str _ _ _ _) (@pa_u _ _ _ _ _ (@pe_str _ _ _ _) (@pa_u _ _ _ _ _ (@pe_str _ _ _ _) (@pa_u _ _ _ _ _ (@pe_non _ _ _) (@pa_u _ _ _ _ _ (@pe_int _ _ _ _) (@pa_u _ _ _ _ _ (@pe_tup _ _ _ _ _ (@pa_u _ _ _ _ _ (@pe_str _ _ _ _) (@pa_nil _) (by rfl))) (@pa_u _ _ _ _ _ (@pe_str _ _ _ _) (@pa_u _ _ _ _ _ (@pe_bl _ _ _ _) (@pa_nil _) (by rfl)) (by rfl)) (by rfl)) (by rfl)) (by rfl)) (by rfl)) (by rfl)) (by rfl)) (by rfl)) (by rfl))) (@pe_callD _ _ _ _ _ _ _ _ _ _ d_law_draw hr rfl (@pa_u _ _ _ _ _ (@pv _ 0 _ _ (by rfl) (by first | exact Or.inl rfl | exact Or.inr (Or.inl rfl) | exact Or.inr (Or.inr rfl)) (by decide) (by decide)) (@pa_u _ _ _ _ _ (@pe_int _ _ _ _) (@pa_nil _) (by rfl)) (by rfl)) (by rfl) (by decide)) (fun _ _ => rfl)) (by rfl) (by first | exact .inl rfl | exact .inr rfl | assumption)) 
      (@pss_cons _ _ _ _ _ (@ps_set _ _ 4 _ _ _ _ sc_law_spoilt.nd rfl (Or.inl rfl) (@pe_lst _ _ _ _ (@pa_u _ _ _ _ _ (@pe_tup _ _ _ _ _ (@pa_u _ _ _ _ _ (@pv _ 3 _ _ (by rfl) (by first | exact Or.inl rfl | exact Or.inr (Or.inl rfl) | exact Or.inr (Or.inr rfl)) (by decide) (by decide)) (@pa_u _ _ _ _ _ (@pe_ix _ _ _ _ _ _ _ ix_tup (@pv _ 1 _ _ (by rfl) (by first | exact Or.inl rfl | exact Or.inr (Or.inl rfl) | exact Or.inr (Or.inr rfl)) (by decide) (by decide)) (@pe_int _ _ _ _) (fun _ _ => rfl)) (@pa_nil _) (by rfl)) (by rfl))) (@pa_u _ _ _ _ _ (@pe_tup _ _ _ _ _ (@pa_u _ _ _ _ _ (@pe_ix _ _ _ _ _ _ _ ix_tup (@pv _ 1 _ _ (by rfl) (by first | exact Or.inl rfl | exact Or.inr (Or.inl rfl) | exact Or.inr (Or.inr rfl)) (by decide) (by decide)) (@pe_int _ _ _ _) (fun _ _ => rfl)) (@pa_u _ _ _ _ _ (@pe_ix _ _ _ _ _ _ _ ix_tup (@pv _ 2 _ _ (by rfl) (by first | exact Or.inl rfl | exact Or.inr (Or.inl rfl) | exact Or.inr (Or.inr rfl)) (by decide) (by decide)) (@pe_int _ _ _ _) (fun _ _ => rfl)) (@pa_nil _) (by rfl)) (by rfl))) (@pa_u _ _ _ _ _ (@pe_callTu _ _ _ _ _ _ _ _ _ call_listS rfl m_list bt_list (@pa_u _ _ _ _ _ (@pv _ 1 _ _ (by rfl) (by first | exact Or.inl rfl | exact Or.inr (Or.inl rfl) | exact Or.inr (Or.inr rfl)) (by decide) (by decide)) (@pa_nil _) (by rfl)) (by rfl) (by decide) (by decide)) (@pa_u _ _ _ _ _ (@pe_op _ _ _ _ _ _ _ _ op_catA (@pv _ 1 _ _ (by rfl) (by first | exact Or.inl rfl | exact Or.inr (Or.inl rfl) | exact Or.inr (Or.inr rfl)) (by decide) (by decide)) (@pe_tup _ _ _ _ _ (@pa_u _ _ _ _ _ (@pe_int _ _ _ _) (@pa_nil _) (by rfl)))) (@pa_u _ _ _ _ _ (@pe_slice _ _ _ _ _ _ _ _ _ _ slA_tup (@pv _ 1 _ _ (by rfl) (by first | exact Or.inl rfl | exact Or.inr (Or.inl rfl) | exact Or.inr (Or.inr rfl)) (by decide) (by decide)) (@po_none _) (@po_some _ _ _ (@pe_int _ _ _ _))) (@pa_u _ _ _ _ _ (@pe_ix _ _ _ _ _ _ _ ix_tup (@pv _ 1 _ _ (by rfl) (by first | exact Or.inl rfl | exact Or.inr (Or.inl rfl) | exact Or.inr (Or.inr rfl)) (by decide) (by decide)) (@pe_int _ _ _ _) (fun _ _ => rfl)) (@pa_u _ _ _ _ _ (@pe_tup _ _ _ _ _ (@pa_u _ _ _ _ _ (@pv _ 1 _ _ (by rfl) (by first | exact Or.inl rfl | exact Or.inr (Or.inl rfl) | exact Or.inr (Or.inr rfl)) (by decide) (by decide)) (@pa_nil _) (by rfl))) (@pa_u _ _ _ _ _ (@pe_lst _ _ _ _ (@pa_u _ _ _ _ _ (@pv _ 1 _ _ (by rfl) (by first | exact Or.inl rfl | exact Or.inr (Or.inl rfl) | exact Or.inr (Or.inr rfl)) (by decide) (by decide)) (@pa_nil _) (by rfl))) (@pa_nil _) (by rfl)) (by rfl)) (by rfl)) (by rfl)) (by rfl)) (by rfl)) (by rfl)) (by rfl))) (by rfl) (by first | exact .inl rfl | exact .inr rfl | assumption)) 
      (@pss_cons _ _ _ _ _ (@ps_set _ _ 4 _ _ _ _ sc_law_spoilt.nd rfl (Or.inl rfl) (@pe_op _ _ _ _ _ _ _ _ op_cat (@pv _ 4 _ _ (by rfl) (by first | exact Or.inl rfl | exact Or.inr (Or.inl rfl) | exact Or.inr (Or.inr rfl)) (by decide) (by decide)) (@pe_lst _ _ _ _ (@pa_u _ _ _ _ _ (@pe_tup _ _ _ _ _ (@pa_u _ _ _ _ _ (@pe_ix _ _ _ _ _ _ _ ix_tup (@pv _ 1 _ _ (by rfl) (by first | exact Or.inl rfl | exact Or.inr (Or.inl rfl) | exact Or.inr (Or.inr rfl)) (by decide) (by decide)) (@pe_int _ _ _ _) (fun _ _ => rfl)) (@pa_u _ _ _ _ _ (@pe_callTu _ _ _ _ _ _ _ _ _ call_listS rfl m_list bt_list (@pa_u _ _ _ _ _ (@pe_ix _ _ _ _ _ _ _ ix_tup (@pv _ 1 _ _ (by rfl) (by first | exact Or.inl rfl | exact Or.inr (Or.inl rfl) | exact Or.inr (Or.inr rfl)) (by decide) (by decide)) (@pe_int _ _ _ _) (fun _ _ => rfl)) (@pa_nil _) (by rfl)) (by rfl) (by decide) (by decide)) (@pa_nil _) (by rfl)) (by rfl))) (@pa_u _ _ _ _ _ (@pe_tup _ _ _ _ _ (@pa_u _ _ _ _ _ (@pe_ix _ _ _ _ _ _ _ ix_tup (@pv _ 1 _ _ (by rfl) (by first | exact Or.inl rfl | exact Or.inr (Or.inl rfl) | exact Or.inr (Or.inr rfl)) (by decide) (by decide)) (@pe_int _ _ _ _) (fun _ _ => rfl)) (@pa_u _ _ _ _ _ (@pe_slice _ _ _ _ _ _ _ _ _ _ slA_tup (@pe_ix _ _ _ _ _ _ _ ix_tup (@pv _ 1 _ _ (by rfl) (by first | exact Or.inl rfl | exact Or.inr (Or.inl rfl) | exact Or.inr (Or.inr rfl)) (by decide) (by decide)) (@pe_int _ _ _ _) (fun _ _ => rfl)) (@po_some _ _ _ (@pe_int _ _ _ _)) (@po_none _)) (@pa_nil _) (by rfl)) (by rfl))) (@pa_u _ _ _ _ _ (@pe_tup _ _ _ _ _ (@pa_u _ _ _ _ _ (@pe_ix _ _ _ _ _ _ _ ix_tup (@pv _ 1 _ _ (by rfl) (by first | exact Or.inl rfl | exact Or.inr (Or.inl rfl) | exact Or.inr (Or.inr rfl)) (by decide) (by decide)) (@pe_int _ _ _ _) (fun _ _ => rfl)) (@pa_u _ _ _ _ _ (@pe_op _ _ _ _ _ _ _ _ op_catA (@pe_ix _ _ _ _ _ _ _ ix_tup (@pv _ 1 _ _ (by rfl) (by first | exact Or.inl rfl | exact Or.inr (Or.inl rfl) | exact Or.inr (Or.inr rfl)) (by decide) (by decide)) (@pe_int _ _ _ _) (fun _ _ => rfl)) (@pe_tup _ _ _ _ _ (@pa_u _ _ _ _ _ (@pe_int _ _ _ _) (@pa_nil _) (by rfl)))) (@pa_nil _) (by rfl)) (by rfl))) (@pa_nil _) (by rfl)) (by rfl)) (by rfl)))) (by rfl) (by first | exact .inl rfl | exact .inr rfl | assumption)) 
      (@pss_cons _ _ _ _ _ (@ps_set _ _ 5 _ _ _ _ sc_law_spoilt.nd rfl (Or.inl rfl) (@pe_tup _ _ _ _ _ (@pa_u _ _ _ _ _ (@pe_ix _ _ _ _ _ _ _ ix_tup (@pv _ 1 _ _ (by rfl) (by first | exact Or.inl rfl | exact Or.inr (Or.inl rfl) | exact Or.inr (Or.inr rfl)) (by decide) (by decide)) (@pe_int _ _ _ _) (fun _ _ => rfl)) (@pa_u _ _ _ _ _ (@pe_callD _ _ _ _ _ _ _ _ _ _ d_law_bent hr rfl (@pa_u _ _ _ _ _ (@pv _ 0 _ _ (by rfl) (by first | exact Or.inl rfl | exact Or.inr (Or.inl rfl) | exact Or.inr (Or.inr rfl)) (by decide) (by decide)) (@pa_u _ _ _ _ _ (@pe_ix _ _ _ _ _ _ _ ix_tup (@pv _ 1 _ _ (by rfl) (by first | exact Or.inl rfl | exact Or.inr (Or.inl rfl) | exact Or.inr (Or.inr rfl)) (by decide) (by decide)) (@pe_int _ _ _ _) (fun _ _ => rfl)) (@pa_nil _) (by rfl)) (by rfl)) (by rfl) (by decide)) (@pa_nil _) (by rfl)) (by rfl))) (by rfl) (by first | exact .inl rfl | exact .inr rfl | assumption)) (@pss_one _ _ _ (@ps_ret _ _ _ _ (@pe_ix _ _ _ _ _ _ _ ix_list (@pe_op _ _ _ _ _ _ _ _ op_cat (@pv _ 4 _ _ (by rfl) (by first | exact Or.inl rfl | exact Or.inr (Or.inl rfl) | exact Or.inr (Or.inr rfl)) (by decide) (by decide)) (@pe_op _ _ _ _ _ _ _ _ op_rep (@pe_lst _ _ _ _ (@pa_u _ _ _ _ _ (@pv _ 5 _ _ (by rfl) (by first | exact Or.inl rfl | exact Or.inr (Or.inl rfl) | exact Or.inr (Or.inr rfl)) (by decide) (by decide)) (@pa_nil _) (by rfl))) (@pe_int _ _ _ _))) (@pe_callD _ _ _ _ _ _ _ _ _ _ d_law_draw hr rfl (@pa_u _ _ _ _ _ (@pv _ 0 _ _ (by rfl) (by first | exact Or.inl rfl | exact Or.inr (Or.inl rfl) | exact Or.inr (Or.inr rfl)) (by decide) (by decide)) (@pa_u _ _ _ _ _ (@pe_int _ _ _ _) (@pa_nil _) (by rfl)) (by rfl)) (by rfl) (by decide)) (fun _ _ => rfl))))))))), rfl, ?_⟩
  walk_at "cl"
  have dts : ∀ {H' : Hp} {g : Gm} {v : V}, GmV K H' g v → Dt K t H' (.tuple [.str g.word, .tuple g.items]) v := fun {H' g v} h => by have := h.dt (t := t); unfold encG at this; rw [rule_items] at this; exact this
  walk_at "st"
  refine ⟨t, rfl, T, fun o ov H1 c1 ho hoo => ?_⟩
  have hg1 := hg.tk c1.ext.tk
  have ht1 : H1 t ≠ none := fun z => c1.tape.ne z rfl
  try dsimp only
  try rw [L2.r_name]
  try simp only [List.set_cons_zero, List.set_cons_succ]
  rw [L2.r_seq, L2.r_asg, L2.r_op]
  refine gl_lst (K := K) (t := t) (ds := words41) ?_ (by simp [words41]) fun p2 vs2 H2 S2 hp2 hd2 => ?_
  · unfold words41
    walk_at "gd"
  have s2 := same_new hp2 (.lst vs2)
  have l3 : (upd H2 p2 (.lst vs2)) p2 = some (.lst vs2) := upd_same
  have C2 := c1.same S2
  have n2 : p2 ≠ t := C2.tape.ne hp2
  have C3 := C2.same s2
  have hd3 := hd2.on s2.ext
  have hg3 := hg1.same (S2.trans s2)
  have ho3 := ho.same (S2.trans s2)
  generalize upd H2 p2 (.lst vs2) = H3 at C3 l3 hd3 hg3 ho3 ⊢
  walk_at "rd"
  refine draw_of C3.tape fun r4 H4 r40 r41 c4 => ?_
  have C4 := C3.then c4
  obtain ⟨v4, dw, hv4, hm4, hd4⟩ := menu (i := r4) (hd3.on c4.ext) r40 (by show r4 < ((words41.length : Nat) : Int); rw [show words41.length = 10 from rfl]; omega)
  walk_at "rd"
  refine ⟨_, c4.ext.sqL n2 (.of l3), _, hv4, ?_⟩
  have gw := words_gd dw (List.mem_of_getElem? hm4)
  have hg4 := hg3.tk c4.ext.tk
  have ho4 := ho3.tk c4.ext.tk
  have hgd := dts hg4
  have hod := dts ho4
  have ht4 : H4 t ≠ none := fun z => C4.tape.ne z rfl
  have hz1 : g.items.length + [PyData.int 1].length ≤ 1000 := by have := (items_gd hok).2.2; simp; omega
  clear hd3 l3 n2
  try dsimp only
  try rw [L2.r_name]
  try simp only [List.set_cons_zero, List.set_cons_succ]
  rw [L2.r_seq, L2.r_asg]
  refine gl_lst (K := K) (t := t) (ds := some41 dw g o) ?_ (by simp [some41]) fun p5 vs5 H5 S5 hp5 hd5 => ?_
  · unfold some41
    walk_at "gd"
  have s5 := same_new hp5 (.lst vs5)
  have l6 : (upd H5 p5 (.lst vs5)) p5 = some (.lst vs5) := upd_same
  have C6 := C4.same (S5.trans s5)
  have hd6 := hd5.on s5.ext
  have hg6 := hg4.same (S5.trans s5)
  generalize upd H5 p5 (.lst vs5) = H6 at C6 l6 hd6 hg6 ⊢
  have hgd6 := dts hg6
  have ht6 : H6 t ≠ none := fun z => C6.tape.ne z rfl
  simp only [L2.r_name, List.set_cons_zero, List.set_cons_succ]
  rw [L2.r_seq, L2.r_asg, L2.r_op]
  simp only [L2.r_var, L2.r_varS]
  refine gl_lst (K := K) (t := t) (ds := more41 g) ?_ (by simp [more41]) fun p7 vs7 H7 S7 hp7 hd7 => ?_
  · unfold more41
    walk_at "gd"
  have s7 := same_new hp7 (.lst vs7)
  have hlv5 : vs5.length = 8 := by rw [← hd6.len]; rfl
  have hlv7 : vs7.length = 3 := by rw [← hd7.len]; rfl
  refine cat_of (s7 _ _ (S7 _ _ l6)) upd_same (smallA (by omega)) fun p8 hp8 => ?_
  have s8 := same_new hp8 (.lst (vs5 ++ vs7))
  have l8 : (upd (upd H7 p7 (.lst vs7)) p8 (.lst (vs5 ++ vs7))) p8 = some (.lst (vs5 ++ vs7)) := upd_same
  have SS8 := (S7.trans s7).trans s8
  have n8 : p8 ≠ t := (C6.same (S7.trans s7)).tape.ne hp8
  have hd8 : DtL K t _ (some41 dw g o ++ more41 g) (vs5 ++ vs7) := dtl_app (hd6.on SS8.ext) (hd7.on (s7.trans s8).ext)
  have C8 := C6.same SS8
  have hg8 := hg6.same SS8
  generalize upd (upd H7 p7 (.lst vs7)) p8 (.lst (vs5 ++ vs7)) = H8 at C8 l8 hd8 hg8 ⊢
  simp only [L2.r_name, List.set_cons_zero, List.set_cons_succ]
  obtain ⟨i1, i2, i3⟩ := items_gd hok
  obtain ⟨ga, rv, rfl, hgs, hru⟩ := hg8
  walk_at "st"
  refine ⟨_, hgs, _, atI_nat (j := 0) rfl, _, hgs, _, atI_nat (j := 1) rfl, t, g.items, rv, rfl, C8.tape, by have := hru.dt (t := t); rw [rule_items] at this; exact this, i1, i2, i3, fun d9 v9 H9 c9 hd9 g9 => ⟨small6 (by simp), fun p10 hp10 => ?_⟩⟩
  have s10 := same_new hp10 (.tup [V.str g.word, v9])
  have h10 : Dt K t (upd H9 p10 (.tup [V.str g.word, v9])) (.tuple [.str g.word, d9]) (.ref p10) := Dt.newT hp10 (.cons (.str (word_ok g)) (.cons hd9 .nil))
  have C10 := (C8.then c9).same s10
  have l10 : (upd H9 p10 (.tup [V.str g.word, v9])) p8 = some (.lst (vs5 ++ vs7)) := s10 _ _ (c9.ext _ _ (fun z => absurd z n8) l8)
  have hd10 := (hd8.on c9.ext).on s10.ext
  generalize upd H9 p10 (.tup [V.str g.word, v9]) = H10 at h10 C10 l10 hd10 ⊢
  walk_at "rd"
  refine ⟨small6 (by simp), fun p11 hp11 => ?_⟩
  have s11 := same_new hp11 (.lst [V.ref p10])
  refine ⟨p11, 9, [V.ref p10], rfl, rfl, upd_same, by decide, by decide, small6 (xs := List.replicate 9 (V.ref p10)) (by simp), fun p12 hp12 => ?_⟩
  have e9 : (List.replicate (Int.toNat 9) [V.ref p10]).flatten = List.replicate 9 (V.ref p10) := rfl
  rw [e9]
  have s12 := same_new hp12 (.lst (List.replicate 9 (V.ref p10)))
  have s1112 := s11.trans s12
  refine cat_of (s1112 _ _ l10) upd_same (smallA (by rw [List.length_append]; simp; omega)) fun p13 hp13 => ?_
  have s13 := same_new hp13 (.lst ((vs5 ++ vs7) ++ List.replicate 9 (V.ref p10)))
  have SS := s1112.trans s13
  have n13 : p13 ≠ t := (C10.same s1112).tape.ne hp13
  have hrep : ∀ {H' : Hp} (n : Nat), Dt K t H' (.tuple [.str g.word, d9]) (.ref p10) → DtL K t H' (List.replicate n (.tuple [.str g.word, d9])) (List.replicate n (V.ref p10)) := fun {H'} n h => by
    induction n with
    | zero => exact .nil
    | succ n ih => exact .cons h ih
  have hd13 := dtl_app (hd10.on SS.ext) (hrep 9 (Same.dt h10 SS))
  have l13 : (upd (upd (upd H10 p11 (.lst [V.ref p10])) p12 (.lst (List.replicate 9 (V.ref p10)))) p13 (.lst ((vs5 ++ vs7) ++ List.replicate 9 (V.ref p10)))) p13 = some (.lst ((vs5 ++ vs7) ++ List.replicate 9 (V.ref p10))) := upd_same
  have C13 := C10.same SS
  generalize upd (upd (upd H10 p11 (.lst [V.ref p10])) p12 (.lst (List.replicate 9 (V.ref p10)))) p13 (.lst ((vs5 ++ vs7) ++ List.replicate 9 (V.ref p10))) = H13 at hd13 l13 C13 ⊢
  refine draw_of C13.tape fun r14 H14 r140 r141 c14 => ?_
  obtain ⟨v14, d14, hv14, hm14, hd14⟩ := menu (i := r14) (hd13.on c14.ext) r140 (by show r14 < (((some41 dw g o ++ more41 g ++ List.replicate 9 (PyData.tuple [.str g.word, d9])).length : Nat) : Int); rw [show (some41 dw g o ++ more41 g ++ List.replicate 9 (PyData.tuple [.str g.word, d9])).length = 20 from rfl]; omega)
  walk_at "rd"
  refine ⟨_, c14.ext.sqL n13 (.of l13), _, hv14, q _ _ _ (C13.then c14) hd14 ?_⟩
  rcases List.mem_append.mp (List.mem_of_getElem? hm14) with h | h
  · exact some_gd gw hok hoo _ h
  · rw [List.eq_of_mem_replicate h]
    exact (pair_gd (gd_word g).mono g9).mono
end
end My
namespace My
open PySem L2 M
section
variable {P : Program} {w : World} {K : PySem.W.Frag} {mg : Str → Option Value} {base : Heap} {ns : List Int} {k : Nat}
theorem thgs_rok {dk : PyData} (g : Gd 1455673 7 dk) : ∀ d ∈ thgs dk, smD d = true ∧ Rok d := by
  obtain ⟨h1, h2, h3⟩ := g
  intro d hd
  simp only [thgs, List.cons_append, List.nil_append, List.mem_cons, List.not_mem_nil, or_false] at hd
  have key : ∀ {d : PyData}, smD d = true → wtD d ≤ 10000000 → d.depth ≤ 100 → smD d = true ∧ Rok d := fun a b c => ⟨a, rok_of a b c⟩
  rcases hd with rfl | rfl | rfl | rfl | rfl | rfl | rfl | rfl | rfl | rfl | rfl | rfl | rfl | rfl | rfl | rfl | rfl | rfl | rfl | rfl | rfl | rfl | rfl | rfl
  all_goals first
    | exact key (by decide +kernel) (by decide +kernel) (by simp [PyData.depth, PyData.depthAll])
    | (refine key ?_ ?_ ?_
       · simp only [smD, smL, h1, Bool.and_true, Bool.true_and]; try first | rfl | decide +kernel
       · simp only [wtD, wtL]; first | omega | (have : (Str.ofString "rally").length = 5 := by decide +kernel
                                                omega)
       · simp only [PyData.depth, PyData.depthAll]; omega)
theorem ok_law_told (F : Df K mg "_law_told" s_law_told ["_law_thing_here"]) (m_isinstance : mg "isinstance" = none) (m_bool : mg "bool" = none) (m_repr : mg "repr" = none) (d_law_judged : Dn P w K mg base k "_law_judged" ["_law_thing_here"] (spB K gameD)) (d_is_game : Dn P w K mg base k "is_game" ["thing"] (spB K gameD)) : Dn P w K mg base (k + 1) "_law_told" ["_law_thing_here"] (spTold K) := by
  refine F.ok sc_law_told (fun vs H Q E h => ?_) (fun f cdv A outer s H vs Q E hr h => ?_)
  · obtain ⟨t, d, v, rfl, _⟩ := h; rfl
  obtain ⟨t, d, v, rfl, hd, hk, ⟨hk1, hk2, hk3⟩, q⟩ := h
  refine ⟨_, [some _, none, none, none], 
      (@pss_cons _ _ _ _ _ (@ps_set _ _ 1 _ _ _ _ sc_law_told.nd rfl (Or.inl rfl) (@pe_callD _ _ _ _ _ _ _ _ _ _ d_law_judged hr rfl (@pa_u _ _ _ _ _ (@pv _ 0 _ _ (by rfl) (by first | exact Or.inl rfl | exact Or.inr (Or.inl rfl) | exact Or.inr (Or.inr rfl)) (by decide) (by decide)) (@pa_nil _) (by rfl)) (by rfl) (by decide)) (by rfl) (by first | exact .inl rfl | exact .inr rfl | assumption)) 
      (@pss_cons _ _ _ _ _ (@ps_set _ _ 2 _ _ _ _ sc_law_told.nd rfl (Or.inl rfl) (@pe_callBu _ _ _ _ _ _ _ _ _ (call_reprD hr) rfl m_repr bt_repr (@pa_u _ _ _ _ _ (@pv _ 0 _ _ (by rfl) (by first | exact Or.inl rfl | exact Or.inr (Or.inl rfl) | exact Or.inr (Or.inr rfl)) (by decide) (by decide)) (@pa_nil _) (by rfl)) (by rfl) (by decide) (by decide)) (by rfl) (by first | exact .inl rfl | exact .inr rfl | assumption)) 
      (@pss_cons _ _ _ _ _ (@ps_set _ _ 3 _ _ _ _ sc_law_told.nd rfl (Or.inl rfl) (@pe_callD _ _ _ _ _ _ _ _ _ _ d_is_game hr rfl (@pa_u _ _ _ _ _ (@pv _ 0 _ _ (by rfl) (by first | exact Or.inl rfl | exact Or.inr (Or.inl rfl) | exact Or.inr (Or.inr rfl)) (by decide) (by decide)) (@pa_nil _) (by rfl)) (by rfl) (by decide)) (by rfl) (by first | exact .inl rfl | exact .inr rfl | assumption)) (@pss_one _ _ _ (@ps_ret _ _ _ _ (@pe_and _ _ _ _ _ _ _ (@pe_callBu _ _ _ _ _ _ _ _ _ call_isi rfl m_isinstance bt_isinstance (@pa_u _ _ _ _ _ (@pv _ 3 _ _ (by rfl) (by first | exact Or.inl rfl | exact Or.inr (Or.inl rfl) | exact Or.inr (Or.inr rfl)) (by decide) (by decide)) (@pa_u _ _ _ _ _ (@pe_bltn _ _ (.ty "bool") _ _ rfl m_bool bt_bool rfl (by decide) (by decide)) (@pa_nil _) (by rfl)) (by rfl)) (by rfl) (by decide) (by decide)) (@pe_and _ _ _ _ _ _ _ (@pe_cmpR _ _ _ _ _ _ _ _ op_eq (@pv _ 3 _ _ (by rfl) (by first | exact Or.inl rfl | exact Or.inr (Or.inl rfl) | exact Or.inr (Or.inr rfl)) (by decide) (by decide)) (@pv _ 1 _ _ (by rfl) (by first | exact Or.inl rfl | exact Or.inr (Or.inl rfl) | exact Or.inr (Or.inr rfl)) (by decide) (by decide)) (nomark _)) (@pe_one _ _ _ _ _ (@pe_cmpR _ _ _ _ _ _ _ _ op_eq (@pe_callBu _ _ _ _ _ _ _ _ _ (call_reprD hr) rfl m_repr bt_repr (@pa_u _ _ _ _ _ (@pv _ 0 _ _ (by rfl) (by first | exact Or.inl rfl | exact Or.inr (Or.inl rfl) | exact Or.inr (Or.inr rfl)) (by decide) (by decide)) (@pa_nil _) (by rfl)) (by rfl) (by decide) (by decide)) (@pv _ 2 _ _ (by rfl) (by first | exact Or.inl rfl | exact Or.inr (Or.inl rfl) | exact Or.inr (Or.inr rfl)) (by decide) (by decide)) (nomark _)))))))))), rfl, ?_⟩
  walk_at "cl"
  walk_at "st"
  refine ⟨t, d, v, rfl, hd, hk, fun H1 S1 => ?_⟩
  have hd1 := Same.dt hd S1
  walk_at "st"
  refine ⟨_, t, d, rfl, hd1, hk1, hk2, hk3, ?_⟩
  walk_at "st"
  refine ⟨t, d, v, rfl, hd1, hk, fun H2 S2 => ?_⟩
  have hd2 := Same.dt hd1 S2
  walk_at "rd"
  refine isi_of (t := t) (d := .bool (gameD d)) (.bl _) ?_
  walk_at "rd"
  rw [if_pos (by simp [isiD]), if_pos (by simp)]
  refine ⟨_, t, d, rfl, hd2, hk1, hk2, hk3, ?_⟩
  walk_at "rd"
  exact q _ (S1.trans S2)
theorem ok_law_first (F : Df K mg "_law_first" s_law_first ["_law_game_here"]) (d_law_begun : Dn P w K mg base k "_law_begun" ["_law_rule_here"] (spBegun K 5)) : Dn P w K mg base (k + 1) "_law_first" ["_law_game_here"] (spFirst K) := by
  refine F.ok sc_law_first (fun vs H Q E h => ?_) (fun f cdv A outer s H vs Q E hr h => ?_)
  · obtain ⟨g, v, rfl, _⟩ := h; rfl
  obtain ⟨g, v, rfl, hg, hok, q⟩ := h
  refine ⟨_, [some _], 
      (@pss_cons _ _ _ _ _ (@ps_if _ _ _ _ _ _ _ _ (@pt_cmpR _ _ _ _ _ _ _ _ op_eq (@pe_ix _ _ _ _ _ _ _ ix_tup (@pv _ 0 _ _ (by rfl) (by first | exact Or.inl rfl | exact Or.inr (Or.inl rfl) | exact Or.inr (Or.inr rfl)) (by decide) (by decide)) (@pe_int _ _ _ _) (fun _ _ => rfl)) (@pe_str _ _ _ _) (nomark _)) (@pss_one _ _ _ (@ps_ret _ _ _ _ (@pe_tup _ _ _ _ _ (@pa_u _ _ _ _ _ (@pe_callD _ _ _ _ _ _ _ _ _ _ d_law_begun hr rfl (@pa_u _ _ _ _ _ (@pe_ix _ _ _ _ _ _ _ ix_tup (@pv _ 0 _ _ (by rfl) (by first | exact Or.inl rfl | exact Or.inr (Or.inl rfl) | exact Or.inr (Or.inr rfl)) (by decide) (by decide)) (@pe_int _ _ _ _) (fun _ _ => rfl)) (@pa_nil _) (by rfl)) (by rfl) (by decide)) (@pa_u _ _ _ _ _ (@pe_non _ _ _) (@pa_nil _) (by rfl)) (by rfl))))) (@pss_nil _)) 
      (@pss_cons _ _ _ _ _ (@ps_if _ _ _ _ _ _ _ _ (@pt_cmpR _ _ _ _ _ _ _ _ op_eq (@pe_ix _ _ _ _ _ _ _ ix_tup (@pv _ 0 _ _ (by rfl) (by first | exact Or.inl rfl | exact Or.inr (Or.inl rfl) | exact Or.inr (Or.inr rfl)) (by decide) (by decide)) (@pe_int _ _ _ _) (fun _ _ => rfl)) (@pe_str _ _ _ _) (nomark _)) (@pss_one _ _ _ (@ps_ret _ _ _ _ (@pe_tup _ _ _ _ _ (@pa_u _ _ _ _ _ (@pe_tup _ _ _ _ _ (@pa_u _ _ _ _ _ (@pe_op _ _ _ _ _ _ _ _ op_repT (@pe_tup _ _ _ _ _ (@pa_u _ _ _ _ _ (@pe_ix _ _ _ _ _ _ _ ix_tup (@pe_ix _ _ _ _ _ _ _ ix_tup (@pv _ 0 _ _ (by rfl) (by first | exact Or.inl rfl | exact Or.inr (Or.inl rfl) | exact Or.inr (Or.inr rfl)) (by decide) (by decide)) (@pe_int _ _ _ _) (fun _ _ => rfl)) (@pe_int _ _ _ _) (fun _ _ => rfl)) (@pa_nil _) (by rfl))) (@pe_ix _ _ _ _ _ _ _ ix_tup (@pe_ix _ _ _ _ _ _ _ ix_tup (@pv _ 0 _ _ (by rfl) (by first | exact Or.inl rfl | exact Or.inr (Or.inl rfl) | exact Or.inr (Or.inr rfl)) (by decide) (by decide)) (@pe_int _ _ _ _) (fun _ _ => rfl)) (@pe_int _ _ _ _) (fun _ _ => rfl))) (@pa_u _ _ _ _ _ (@pe_int _ _ _ _) (@pa_u _ _ _ _ _ (@pe_int _ _ _ _) (@pa_u _ _ _ _ _ (@pe_ix _ _ _ _ _ _ _ ix_tup (@pe_ix _ _ _ _ _ _ _ ix_tup (@pv _ 0 _ _ (by rfl) (by first | exact Or.inl rfl | exact Or.inr (Or.inl rfl) | exact Or.inr (Or.inr rfl)) (by decide) (by decide)) (@pe_int _ _ _ _) (fun _ _ => rfl)) (@pe_int _ _ _ _) (fun _ _ => rfl)) (@pa_nil _) (by rfl)) (by rfl)) (by rfl)) (by rfl))) (@pa_u _ _ _ _ _ (@pe_non _ _ _) (@pa_nil _) (by rfl)) (by rfl))))) (@pss_nil _)) (@pss_one _ _ _ (@ps_ret _ _ _ _ (@pe_tup _ _ _ _ _ (@pa_u _ _ _ _ _ (@pe_tup _ _ _ _ _ (@pa_u _ _ _ _ _ (@pe_op _ _ _ _ _ _ _ _ op_repT (@pe_tup _ _ _ _ _ (@pa_u _ _ _ _ _ (@pe_tup _ _ _ _ _ (@pa_u _ _ _ _ _ (@pe_int _ _ _ _) (@pa_u _ _ _ _ _ (@pe_int _ _ _ _) (@pa_u _ _ _ _ _ (@pe_ix _ _ _ _ _ _ _ ix_tup (@pe_ix _ _ _ _ _ _ _ ix_tup (@pv _ 0 _ _ (by rfl) (by first | exact Or.inl rfl | exact Or.inr (Or.inl rfl) | exact Or.inr (Or.inr rfl)) (by decide) (by decide)) (@pe_int _ _ _ _) (fun _ _ => rfl)) (@pe_int _ _ _ _) (fun _ _ => rfl)) (@pa_u _ _ _ _ _ (@pe_int _ _ _ _) (@pa_u _ _ _ _ _ (@pe_int _ _ _ _) (@pa_u _ _ _ _ _ (@pe_int _ _ _ _) (@pa_u _ _ _ _ _ (@pe_int _ _ _ _) (@pa_nil _) (by rfl)) (by rfl)) (by rfl)) (by rfl)) (by rfl)) (by rfl)) (by rfl))) (@pa_nil _) (by rfl))) (@pe_ix _ _ _ _ _ _ _ ix_tup (@pe_ix _ _ _ _ _ _ _ ix_tup (@pv _ 0 _ _ (by rfl) (by first | exact Or.inl rfl | exact Or.inr (Or.inl rfl) | exact Or.inr (Or.inr rfl)) (by decide) (by decide)) (@pe_int _ _ _ _) (fun _ _ => rfl)) (@pe_int _ _ _ _) (fun _ _ => rfl))) (@pa_u _ _ _ _ _ (@pe_int _ _ _ _) (@pa_nil _) (by rfl)) (by rfl))) (@pa_u _ _ _ _ _ (@pe_non _ _ _) (@pa_nil _) (by rfl)) (by rfl))))))), rfl, ?_⟩
  walk_at "cl"
  obtain ⟨a, rv, rfl, hs, hr⟩ := hg
  walk_at "st"
  refine ⟨_, hs, _, atI_nat (j := 0) rfl, ?_⟩
  cases g with
  | ral rl =>
    walk_at "rd"
    walk_at "T"
    refine ⟨_, hs, _, atI_nat (j := 1) rfl, rl, rv, rfl, hr, by have := hok.2.1; omega, fun r1 H1 S1 st => ?_⟩
    refine ⟨small6 (by simp), fun p hp => q _ _ (S1.trans (same_new hp _)) (Dt.newT hp (.cons st (.cons .non .nil)))⟩
  | dn n b tr ths =>
    obtain ⟨da, rfl, ta, us, hda, hta, htl⟩ := hr
    walk_at "rd"
    rw [if_neg Gm.dn_ral]
    walk_at "st"
    refine ⟨_, hs, _, atI_nat (j := 0) rfl, ?_⟩
    walk_at "rd"
    walk_at "T"
    refine ⟨_, hs, _, atI_nat (j := 1) rfl, ?_⟩
    walk_at "rd"
    refine ⟨_, hda, _, atI_nat (j := 1) rfl, small6 (by simp), fun p2 hp2 => ?_⟩
    have s2 := same_new hp2 (.tup [V.int b])
    walk_at "rd"
    refine ⟨_, Same.sqT hs s2, _, atI_nat (j := 1) rfl, ?_⟩
    walk_at "rd"
    refine ⟨_, Same.sqT hda s2, _, atI_nat (j := 0) rfl, p2, .int b, n, rfl, rfl, hok.1.n1, hok.1.n3, .of upd_same, fun p3 H3 S3 h3' => ?_⟩
    walk_at "rd"
    refine ⟨_, Same.sqT hs (s2.trans S3), _, atI_nat (j := 1) rfl, ?_⟩
    walk_at "rd"
    refine ⟨_, Same.sqT hda (s2.trans S3), _, atI_nat (j := 1) rfl, small6 (by simp), fun p4 hp4 => ?_⟩
    have s4 := same_new hp4 (.tup [V.ref p3, V.int 0, V.int 0, V.int b])
    refine ⟨small6 (by simp), fun p5 hp5 => q _ _ (((s2.trans S3).trans s4).trans (same_new hp5 _)) (Dt.newT hp5 (.cons (sn_mk (sd := 0) (.of upd_same) ?_) (.cons .non .nil)))⟩
    rw [List.map_replicate]
    exact Same.sqT h3' s4
  | ln sd p f =>
    obtain ⟨la, rfl, hl⟩ := hr
    walk_at "rd"
    rw [if_neg Gm.ln_ral]
    walk_at "st"
    refine ⟨_, hs, _, atI_nat (j := 0) rfl, ?_⟩
    walk_at "rd"
    rw [if_neg Gm.ln_dn]
    refine ⟨_, hs, _, atI_nat (j := 1) rfl, ?_⟩
    walk_at "rd"
    refine ⟨_, hl, _, atI_nat (j := 1) rfl, small6 (by simp), fun p1 hp1 => ?_⟩
    walk_at "rd"
    refine ⟨small6 (by simp), fun p2 hp2 => ?_⟩
    have s1 := same_new hp1 (.tup [V.int 0, V.int 0, V.int p, V.int 0, V.int 0, V.int 0, V.int 0])
    have s2 := same_new hp2 (.tup [V.ref p1])
    have r1 : RwV K (upd H p1 (HO.tup [V.int 0, V.int 0, V.int p, V.int 0, V.int 0, V.int 0, V.int 0])) ⟨0, 0, p, 0, 0, 0, 0⟩ (.ref p1) := rw_mk (.of upd_same)
    walk_at "rd"
    refine ⟨_, Same.sqT hs (s1.trans s2), _, atI_nat (j := 1) rfl, ?_⟩
    walk_at "rd"
    refine ⟨_, Same.sqT (Same.sqT hl s1) s2, _, atI_nat (j := 0) rfl, p2, .ref p1, sd, rfl, rfl, hok.1.1, hok.1.2, .of upd_same, fun p3 H3 S3 h3' => ?_⟩
    refine ⟨small6 (by simp), fun p4 hp4 => ?_⟩
    have s4 := same_new hp4 (.tup [V.ref p3, V.int 0])
    refine ⟨small6 (by simp), fun p5 hp5 => q _ _ ((((s1.trans s2).trans S3).trans s4).trans (same_new hp5 _)) (Dt.newT hp5 (.cons (ls_mk (.of upd_same) (Same.sqT h3' s4) (RwL.rep ((r1.same (s2.trans S3)).same s4))) (.cons .non .nil)))⟩
theorem fl2_S : ∀ s : Sd, fl2 (encS s) = true
  | .nil => rfl
  | .cn z o w => by simp only [encS, fl2, fls2, fl2_S w]; rfl
theorem fls2_ints : ∀ cs : List Int, fls2 (cs.map PyData.int) = true
  | [] => rfl
  | c :: cs => by simp only [List.map_cons, fls2, fl2, fls2_ints cs]; rfl
theorem fls2_rows : ∀ rs : List Lr, fls2 (rs.map encR) = true
  | [] => rfl
  | r :: rs => by simp only [List.map_cons, fls2, fls2_rows rs, encR, fl2]; rfl
theorem fl2_first {g : Gm} (h : GmOk g) : fl2 (firstD g) = true := by
  cases g with
  | ral rl => simp only [firstD, fl2, fls2, fl2_S]; rfl
  | dn n b tr ths =>
    have := h.1.n3
    simp only [firstD, encSn, begD, encI, fl2, fls2, fls2_ints, List.length_map, List.length_replicate, List.length_cons, List.length_nil, Bool.and_true, decide_eq_true_eq, Bool.and_eq_true]
    omega
  | ln s p f =>
    have := h.1.2
    simp only [firstD, encLs, fl2, fls2, fls2_rows, List.length_map, List.length_replicate, List.length_cons, List.length_nil, Bool.and_true, decide_eq_true_eq, Bool.and_eq_true]
    omega
theorem depAll_ints : ∀ cs : List Int, PyData.depthAll (cs.map PyData.int) = 0
  | [] => rfl
  | c :: cs => by simp [List.map_cons, PyData.depthAll, depAll_ints cs, PyData.depth]
theorem dep_first {g : Gm} (h : GmOk g) : (firstD g).depth < 20 := by
  cases g with
  | ral rl =>
    have h1 := len_shp (live0 h.1).shp
    have := h.2.1
    simp only [firstD, PyData.depth, PyData.depthAll, dep_encS]
    omega
  | dn n b tr ths =>
    simp only [firstD, encSn, begD, encI, PyData.depth, PyData.depthAll, depAll_ints]
    omega
  | ln s p f =>
    have := dep_encLs (List.replicate s ⟨0, 0, p, 0, 0, 0, 0⟩) 0
    simp only [firstD, PyData.depth, PyData.depthAll]
    omega
theorem th_ok {x : Th} (h : asc x.nm ∧ nmL x.nm ∧ 0 ≤ x.wo ∧ x.wo ≤ 1000000) : thD (encT x) = true := by
  show (nmD (.str x.nm) && (whl (.int x.wo) 0 1000000 && isTr (.bool x.en))) = true
  simp only [nmD, whl, isTr, h.2.1.2, Bool.true_and, Bool.and_true, Bool.and_eq_true, decide_eq_true_eq]
  exact ⟨h.2.2.1, h.2.2.2⟩
theorem dw_right {n : Nat} {b tr : Int} {ths : List Th} (h : DwOk n b tr ths) (hn : (ths.map (·.nm)).Nodup) : downD (.tuple (dwD n b tr ths)) = true := by
  have := h.n1; have := h.n3; have := h.b1; have := h.b2; have := h.t1; have := h.t3; have := h.l1; have := h.l2
  have e : (ths.map encT).map nmOf = ths.map (·.nm) := by rw [List.map_map]; rfl
  have hall : (ths.map encT).all thD = true := by
    rw [List.all_eq_true]
    intro d hd
    obtain ⟨x, hx, rfl⟩ := List.mem_map.mp hd
    exact th_ok (h.ok x hx)
  show (whl (.int n) 1 3 && (whl (.int b) 1 1000000 && (whl (.int tr) 1 3 && thsD (.tuple (ths.map encT))))) = true
  simp only [whl, thsD, hall, e, nDist_nd hn, List.length_map, Bool.true_and, Bool.and_eq_true, decide_eq_true_eq]
  exact ⟨by omega, by omega, by omega, by omega, trivial⟩
theorem game_right {g : Gm} (h : GmOk g) : gameD (encG g) = true := by
  cases g with
  | ral rl =>
    have e : gameD (encG (.ral rl)) = isRule (enc rl) := rfl
    rw [e]
    unfold isRule
    rw [units_enc rl 4 h.1, if_pos h.2.1]
    have := h.2.2
    exact decide_eq_true (by omega)
  | dn n b tr ths =>
    have e : gameD (encG (.dn n b tr ths)) = downD (.tuple (dwD n b tr ths)) := rfl
    rw [e]
    exact dw_right h.1 h.2
  | ln s p f =>
    obtain ⟨⟨h1, h2⟩, ⟨h3, h4⟩, h5, h6⟩ := h
    have e : gameD (encG (.ln s p f)) = laneD (.tuple (lnD s p f)) := rfl
    rw [e]
    simp only [lnD, laneD, whl, Bool.and_eq_true, decide_eq_true_eq]
    omega
theorem ok_law {fa : Addr} {fd : FuncData} (F : Fun K "law" "law" s_law fa fd) (m_range : mg "range" = none) (d_law_tape : ∀ ns, Dn P w K mg base k "_law_tape" ["_law_script"] (spTape K ns)) (d_law_game : ∀ ns, Dn P w K mg base k "_law_game" ["_law_tape_here"] (spGame K ns)) (d_law_thing : ∀ ns, Dn P w K mg base k "_law_thing" ["_law_tape_here", "_law_kept"] (spThing K ns)) (d_law_spoilt : ∀ ns, Dn P w K mg base k "_law_spoilt" ["_law_tape_here", "_law_game_here"] (spSpoilt K ns))
    (d_is_game : Dn P w K mg base k "is_game" ["thing"] (spB K gameD)) (d_law_told : Dn P w K mg base k "_law_told" ["_law_thing_here"] (spTold K)) (d_law_first : Dn P w K mg base k "_law_first" ["_law_game_here"] (spFirst K)) (d_first : Dn P w K mg base k "first" ["game"] (spFirst K)) (d_sides_of : Dn P w K mg base k "sides_of" ["game"] (spSides K)) (d_law_alike : Dn P w K mg base k "_law_alike" ["_law_due", "_law_found"] (spAl2 K 20)) : FnOk P w K mg base CX0 (k + 1) fa fd ["_law_script"] (spLaw K) := by
  refine F.okS sc_law (fun vs H Q E h => ?_) (fun cdv A outer s H vs Q E hr h => ?_)
  · obtain ⟨a, ns, rfl, _⟩ := h; rfl
  obtain ⟨a, ns, rfl, hs, _, q⟩ := h
  replace d_law_tape := d_law_tape ns
  replace d_law_game := d_law_game ns
  replace d_law_thing := d_law_thing ns
  replace d_law_spoilt := d_law_spoilt ns
  refine ⟨_, [some _, none, none, none, none], 
      (@pss_cons _ _ _ _ _ (@ps_set _ _ 1 _ _ _ _ sc_law.nd rfl (Or.inl rfl) (@pe_callD _ _ _ _ _ _ _ _ _ _ d_law_tape hr rfl (@pa_u _ _ _ _ _ (@pv _ 0 _ _ (by rfl) (by first | exact Or.inl rfl | exact Or.inr (Or.inl rfl) | exact Or.inr (Or.inr rfl)) (by decide) (by decide)) (@pa_nil _) (by rfl)) (by rfl) (by decide)) (by rfl) (by first | exact .inl rfl | exact .inr rfl | assumption)) 
      (@pss_cons _ _ _ _ _ (@ps_set _ _ 2 _ _ _ _ sc_law.nd rfl (Or.inl rfl) (@pe_callD _ _ _ _ _ _ _ _ _ _ d_law_game hr rfl (@pa_u _ _ _ _ _ (@pv _ 1 _ _ (by rfl) (by first | exact Or.inl rfl | exact Or.inr (Or.inl rfl) | exact Or.inr (Or.inr rfl)) (by decide) (by decide)) (@pa_nil _) (by rfl)) (by rfl) (by decide)) (by rfl) (by first | exact .inl rfl | exact .inr rfl | assumption)) 
      (@pss_cons _ _ _ _ _ (@ps_if _ _ _ _ _ _ _ _ (@pt_cmpR _ _ _ _ _ _ _ _ op_notB (@pe_callD _ _ _ _ _ _ _ _ _ _ d_is_game hr rfl (@pa_u _ _ _ _ _ (@pv _ 2 _ _ (by rfl) (by first | exact Or.inl rfl | exact Or.inr (Or.inl rfl) | exact Or.inr (Or.inr rfl)) (by decide) (by decide)) (@pa_nil _) (by rfl)) (by rfl) (by decide)) (@pe_bl _ _ _ _) (nomark _)) (@pss_one _ _ _ (@ps_ret _ _ _ _ (@pe_bl _ _ _ _))) (@pss_nil _)) 
      (@pss_cons _ _ _ _ _ (@ps_for _ _ _ _ _ _ _ _ PassesOwn.never rfl (@pi_range1 _ _ _ _ _ _ rfl m_range (@pa_u _ _ _ _ _ (@pe_int _ _ _ _) (@pa_nil _) (by rfl)) (by rfl)) (@pg_name _ _ 3 _ sc_law.nd rfl (Or.inl rfl) (by first | exact .inl rfl | exact .inr rfl | assumption)) (@pss_one _ _ _ (@ps_if _ _ _ _ _ _ _ _ (@PW.pt _ _ _ (@pw_or _ _ _ _ _ _ _ (@pt_not _ _ _ _ (@pt_val _ _ _ (@pe_callD _ _ _ _ _ _ _ _ _ _ d_law_told hr rfl (@pa_u _ _ _ _ _ (@pe_callD _ _ _ _ _ _ _ _ _ _ d_law_spoilt hr rfl (@pa_u _ _ _ _ _ (@pv _ 1 _ _ (by rfl) (by first | exact Or.inl rfl | exact Or.inr (Or.inl rfl) | exact Or.inr (Or.inr rfl)) (by decide) (by decide)) (@pa_u _ _ _ _ _ (@pv _ 2 _ _ (by rfl) (by first | exact Or.inl rfl | exact Or.inr (Or.inl rfl) | exact Or.inr (Or.inr rfl)) (by decide) (by decide)) (@pa_nil _) (by rfl)) (by rfl)) (by rfl) (by decide)) (@pa_nil _) (by rfl)) (by rfl) (by decide)) (by intro _; rfl))) (@pw_or1 _ _ _ _ (@pt_not _ _ _ _ (@pt_val _ _ _ (@pe_callD _ _ _ _ _ _ _ _ _ _ d_law_told hr rfl (@pa_u _ _ _ _ _ (@pe_callD _ _ _ _ _ _ _ _ _ _ d_law_thing hr rfl (@pa_u _ _ _ _ _ (@pv _ 1 _ _ (by rfl) (by first | exact Or.inl rfl | exact Or.inr (Or.inl rfl) | exact Or.inr (Or.inr rfl)) (by decide) (by decide)) (@pa_u _ _ _ _ _ (@pv _ 2 _ _ (by rfl) (by first | exact Or.inl rfl | exact Or.inr (Or.inl rfl) | exact Or.inr (Or.inr rfl)) (by decide) (by decide)) (@pa_nil _) (by rfl)) (by rfl)) (by rfl) (by decide)) (@pa_nil _) (by rfl)) (by rfl) (by decide)) (by intro _; rfl)))))) (@pss_one _ _ _ (@ps_ret _ _ _ _ (@pe_bl _ _ _ _))) (@pss_nil _))) (by intro _; rfl)) 
      (@pss_cons _ _ _ _ _ (@ps_set _ _ 4 _ _ _ _ sc_law.nd rfl (Or.inl rfl) (@pe_ix _ _ _ _ _ _ _ ix_tup (@pe_ix _ _ _ _ _ _ _ ix_tup (@pv _ 2 _ _ (by rfl) (by first | exact Or.inl rfl | exact Or.inr (Or.inl rfl) | exact Or.inr (Or.inr rfl)) (by decide) (by decide)) (@pe_int _ _ _ _) (fun _ _ => rfl)) (@pe_int _ _ _ _) (fun _ _ => rfl)) (by rfl) (by first | exact .inl rfl | exact .inr rfl | assumption)) 
      (@pss_cut _ _ _ _ _ (@ps_if _ _ _ _ _ _ _ _ (@pt_cmpR _ _ _ _ _ _ _ _ op_eq (@pe_ix _ _ _ _ _ _ _ ix_tup (@pv _ 2 _ _ (by rfl) (by first | exact Or.inl rfl | exact Or.inr (Or.inl rfl) | exact Or.inr (Or.inr rfl)) (by decide) (by decide)) (@pe_int _ _ _ _) (fun _ _ => rfl)) (@pe_str _ _ _ _) (nomark _)) (@pss_one _ _ _ (@ps_set _ _ 4 _ _ _ _ sc_law.nd rfl (Or.inl rfl) (@pe_int _ _ _ _) (by rfl) (by first | exact .inl rfl | exact .inr rfl | assumption))) (@pss_nil _)) 
      (@pss_cons _ _ _ _ _ (@ps_if _ _ _ _ _ _ _ _ (@PW.pt _ _ _ (@pw_or _ _ _ _ _ _ _ (@pt_not _ _ _ _ (@pt_val _ _ _ (@pe_callD _ _ _ _ _ _ _ _ _ _ d_law_alike hr rfl (@pa_u _ _ _ _ _ (@pv _ 4 _ _ (by rfl) (by first | exact Or.inl rfl | exact Or.inr (Or.inl rfl) | exact Or.inr (Or.inr rfl)) (by decide) (by decide)) (@pa_u _ _ _ _ _ (@pe_callD _ _ _ _ _ _ _ _ _ _ d_sides_of hr rfl (@pa_u _ _ _ _ _ (@pv _ 2 _ _ (by rfl) (by first | exact Or.inl rfl | exact Or.inr (Or.inl rfl) | exact Or.inr (Or.inr rfl)) (by decide) (by decide)) (@pa_nil _) (by rfl)) (by rfl) (by decide)) (@pa_nil _) (by rfl)) (by rfl)) (by rfl) (by decide)) (by intro _; rfl))) (@pw_or1 _ _ _ _ (@pt_not _ _ _ _ (@pt_val _ _ _ (@pe_callD _ _ _ _ _ _ _ _ _ _ d_law_alike hr rfl (@pa_u _ _ _ _ _ (@pe_callD _ _ _ _ _ _ _ _ _ _ d_law_first hr rfl (@pa_u _ _ _ _ _ (@pv _ 2 _ _ (by rfl) (by first | exact Or.inl rfl | exact Or.inr (Or.inl rfl) | exact Or.inr (Or.inr rfl)) (by decide) (by decide)) (@pa_nil _) (by rfl)) (by rfl) (by decide)) (@pa_u _ _ _ _ _ (@pe_callD _ _ _ _ _ _ _ _ _ _ d_first hr rfl (@pa_u _ _ _ _ _ (@pv _ 2 _ _ (by rfl) (by first | exact Or.inl rfl | exact Or.inr (Or.inl rfl) | exact Or.inr (Or.inr rfl)) (by decide) (by decide)) (@pa_nil _) (by rfl)) (by rfl) (by decide)) (@pa_nil _) (by rfl)) (by rfl)) (by rfl) (by decide)) (by intro _; rfl)))))) (@pss_one _ _ _ (@ps_ret _ _ _ _ (@pe_bl _ _ _ _))) (@pss_nil _)) (@pss_one _ _ _ (@ps_ret _ _ _ _ (@pe_callD _ _ _ _ _ _ _ _ _ _ d_law_told hr rfl (@pa_u _ _ _ _ _ (@pv _ 2 _ _ (by rfl) (by first | exact Or.inl rfl | exact Or.inr (Or.inl rfl) | exact Or.inr (Or.inr rfl)) (by decide) (by decide)) (@pa_nil _) (by rfl)) (by rfl) (by decide))))))))))), rfl, ?_⟩
  walk_at "cl"
  walk_at "st"
  refine ⟨a, rfl, hs, fun t H1 T => ?_⟩
  walk_at "st"
  refine ⟨t, rfl, T, fun g gv H2 c2 hg hok => ?_⟩
  have hright := game_right hok
  have gk := encG_gd hok
  walk_at "st"
  refine ⟨t, _, _, rfl, hg.dt, gk.1, fun H3 S3 => ?_⟩
  rw [hright]
  walk_at "rd"
  refine ⟨true, true, rfl, rfl, ?_⟩
  walk_at "rd"
  have C3 := c2.same S3
  have hg3 := hg.same S3
  walk_at "st"
  refine ⟨_, rfl, by decide, by decide, rng_of (fun i σ' H' => ∃ x : Option V, σ' = [some (.ref a), some (.ref t), some gv, x, none] ∧ Cur K ns t H1 H' ∧ GmV K H' g gv) ⟨none, rfl, C3, hg3⟩ ?_ ?_⟩
  · rintro Pv hP i _ H4 hi ⟨x, rfl, C4, hg4⟩
    walk_at "rd"
    refine ⟨t, g, gv, rfl, C4.tape, hg4, hok, fun d5 v5 H5 c5 hd5 g5 => ?_⟩
    walk_at "rd"
    refine ⟨t, d5, v5, rfl, hd5, g5.1, rok_of g5.1 (by have := g5.2.1; omega) (by have := g5.2.2; omega), fun H6 S6 => ?_⟩
    have C6 := (C4.then c5).same S6
    have hg6 := hg4.tk (c5.ext.tk.trans S6.tk)
    walk_at "rd"
    obtain ⟨sc, T6⟩ := C6.tape.s
    refine ⟨t, sc, encG g, gv, rfl, T6, hg6.dt, fun d7 v7 H7 c7 hd7 hmem7 => ?_⟩
    obtain ⟨k1, k2⟩ := thgs_rok gk d7 hmem7
    walk_at "rd"
    refine ⟨t, d7, v7, rfl, hd7, k1, k2, fun H8 S8 => ?_⟩
    walk_at "rd"
    exact hP _ _ _ ⟨_, rfl, (C6.then c7.cur).same S8, hg6.tk (c7.ext.tk.trans S8.tk)⟩
  · rintro _ H4 ⟨x, rfl, C4, hg4⟩
    have hg4' := hg4
    obtain ⟨ga, rv, rfl, hgs, hru⟩ := hg4
    obtain ⟨i1, i2, i3⟩ := items_gd hok
    have hrd := hru.dt (t := t)
    rw [rule_items] at hrd
    obtain ⟨ra, xs, rfl, hrs, hrx⟩ := Dt.tup_inv hrd
    obtain ⟨v0, hv0, hd0⟩ := hrx.get (i := 0) (d := g.items[0]) (List.getElem?_eq_getElem _)
    walk_at "st"
    refine ⟨_, hgs, _, atI_nat (j := 1) rfl, ?_⟩
    walk_at "rd"
    refine ⟨_, hrs, _, atI_nat (j := 0) hv0, ?_⟩
    walk_at "rd"
    refine r_cut (fun σ' H' => ∃ y : Option V, σ' = [some (.ref a), some (.ref t), some (.ref ga), y, some (.int g.sides)] ∧ H' = H4) (fun M hM => ?_) ?_
    · walk_at "rd"
      refine ⟨_, hgs, _, atI_nat (j := 0) rfl, ?_⟩
      walk_at "rd"
      cases g with
      | ral rl =>
        walk_at "T"
        exact hM _ _ ⟨_, rfl, rfl⟩
      | dn n b tr ths =>
        rw [if_neg Gm.dn_ral]
        replace hd0 : Dt K t H4 (.int n) v0 := hd0
        simp only [Dt] at hd0
        subst hd0
        exact hM _ _ ⟨_, rfl, rfl⟩
      | ln sd p f =>
        rw [if_neg Gm.ln_ral]
        replace hd0 : Dt K t H4 (.int sd) v0 := hd0
        simp only [Dt] at hd0
        subst hd0
        exact hM _ _ ⟨_, rfl, rfl⟩
    · rintro _ Hx ⟨y, rfl, eHx⟩
      rw [eHx]
      clear eHx Hx
      walk_at "st"
      refine ⟨g, _, rfl, hg4', ?_⟩
      walk_at "rd"
      refine ⟨t, .int g.sides, _, _, rfl, .int _, .int _, rfl, by rw [dep_int]; decide, by decide, fun H5 S5 => ?_⟩
      walk_at "rd"
      refine ⟨g, _, rfl, hg4'.same S5, hok, fun r1 H6 S6 d1 => ?_⟩
      walk_at "rd"
      refine ⟨g, _, rfl, hg4'.same (S5.trans S6), hok, fun r2 H7 S7 d2 => ?_⟩
      walk_at "rd"
      refine ⟨0, firstD g, r1, r2, rfl, Same.dt d1 S7, d2, fl2_first hok, dep_first hok, by decide, fun H8 S8 => ?_⟩
      walk_at "rd"
      refine ⟨t, _, _, rfl, (hg4'.same (((S5.trans S6).trans S7).trans S8)).dt, gk.1, rok_of gk.1 (by have := gk.2.1; omega) (by have := gk.2.2; omega), fun H9 S9 => ?_⟩
      exact q _
end
set_option genInjectivity false in
set_option genSizeOf false in
structure Txt (K : PySem.W.Frag) (mg : Str → Option Value) (p_DOWN_MOSTS : Addr) (p_LANE_MOSTS : Addr) (p_POINT : Addr) : Prop where
  F_is_whole : Df K mg "is_whole" s_is_whole ["thing", "least", "most"]
  F_are_wholes : Df K mg "are_wholes" s_are_wholes ["things", "mosts"]
  F_is_down : Df K mg "is_down" s_is_down ["thing"]
  F_down_begun : Df K mg "down_begun" s_down_begun ["down"]
  F_are_throws : Df K mg "are_throws" s_are_throws ["thing"]
  F_is_throw : Df K mg "is_throw" s_is_throw ["thing"]
  F_is_name : Df K mg "is_name" s_is_name ["thing"]
  F_is_lane : Df K mg "is_lane" s_is_lane ["thing"]
  F_lane_begun : Df K mg "lane_begun" s_lane_begun ["lane"]
  F_is_rule : Df K mg "is_rule" s_is_rule ["thing"]
  F_units_of : Df K mg "units_of" s_units_of ["thing", "room"]
  F_has_unit_form : Df K mg "has_unit_form" s_has_unit_form ["thing"]
  F_begun : Df K mg "begun" s_begun ["rule"]
  F_played_now : Df K mg "played_now" s_played_now ["rule", "zero", "one"]
  F_begun_within : Df K mg "begun_within" s_begun_within ["rule", "zero", "one"]
  F_is_game : Df K mg "is_game" s_is_game ["thing"]
  F_sides_of : Df K mg "sides_of" s_sides_of ["game"]
  F_first : Df K mg "first" s_first ["game"]
  F_law_tape : Df K mg "_law_tape" s_law_tape ["_law_script"]
  F_law_draw : Df K mg "_law_draw" s_law_draw ["_law_tape_here", "_law_many"]
  F_law_great : Df K mg "_law_great" s_law_great ["_law_tape_here"]
  F_law_alike : Df K mg "_law_alike" s_law_alike ["_law_due", "_law_found"]
  F_law_unit : Df K mg "_law_unit" s_law_unit ["_law_tape_here", "_law_deep", "_law_thin"]
  F_law_rule : Df K mg "_law_rule" s_law_rule ["_law_tape_here", "_law_deep", "_law_thin"]
  F_law_any_rule : Df K mg "_law_any_rule" s_law_any_rule ["_law_tape_here"]
  F_law_names : Df K mg "_law_names" s_law_names ["_law_tape_here", "_law_many"]
  F_law_throws : Df K mg "_law_throws" s_law_throws ["_law_tape_here", "_law_names_here", "_law_count"]
  F_law_down : Df K mg "_law_down" s_law_down ["_law_tape_here"]
  F_law_lane : Df K mg "_law_lane" s_law_lane ["_law_tape_here"]
  F_law_game : Df K mg "_law_game" s_law_game ["_law_tape_here"]
  F_law_inner : Df K mg "_law_inner" s_law_inner ["_law_rule_here", "_law_zero", "_law_one"]
  F_law_begun : Df K mg "_law_begun" s_law_begun ["_law_rule_here"]
  F_law_thing : Df K mg "_law_thing" s_law_thing ["_law_tape_here", "_law_kept"]
  F_law_number : Df K mg "_law_number" s_law_number ["_law_thing_here", "_law_low", "_law_high"]
  F_law_units : Df K mg "_law_units" s_law_units ["_law_thing_here", "_law_around"]
  F_law_is_throw : Df K mg "_law_is_throw" s_law_is_throw ["_law_thing_here"]
  F_law_numbers : Df K mg "_law_numbers" s_law_numbers ["_law_thing_here", "_law_mosts"]
  F_law_judged : Df K mg "_law_judged" s_law_judged ["_law_thing_here"]
  F_law_bent : Df K mg "_law_bent" s_law_bent ["_law_tape_here", "_law_rule_here"]
  F_law_spoilt : Df K mg "_law_spoilt" s_law_spoilt ["_law_tape_here", "_law_game_here"]
  F_law_told : Df K mg "_law_told" s_law_told ["_law_thing_here"]
  F_law_first : Df K mg "_law_first" s_law_first ["_law_game_here"]
  m_all : mg "all" = none
  m_bool : mg "bool" = none
  m_int : mg "int" = none
  m_isinstance : mg "isinstance" = none
  m_len : mg "len" = none
  m_list : mg "list" = none
  m_min : mg "min" = none
  m_range : mg "range" = none
  m_repr : mg "repr" = none
  m_set : mg "set" = none
  m_str : mg "str" = none
  m_tuple : mg "tuple" = none
  m_zip : mg "zip" = none
  g_DOWN_MOSTS : Gc mg "DOWN_MOSTS" (.ref p_DOWN_MOSTS)
  t_DOWN_MOSTS : ∀ H : Hp, SqT K H p_DOWN_MOSTS [.int 3, .int 1000000, .int 3]
  g_MOST_THROWS : Gc mg "MOST_THROWS" (.int 30)
  g_MOST_SIGNS : Gc mg "MOST_SIGNS" (.int 8)
  g_MOST_WORTH : Gc mg "MOST_WORTH" (.int 1000000)
  g_LANE_MOSTS : Gc mg "LANE_MOSTS" (.ref p_LANE_MOSTS)
  t_LANE_MOSTS : ∀ H : Hp, SqT K H p_LANE_MOSTS [.int 3, .int 20, .int 12]
  g_MOST : Gc mg "MOST" (.int 99)
  g_MOST_UNITS : Gc mg "MOST_UNITS" (.int 10)
  g_MOST_DEPTH : Gc mg "MOST_DEPTH" (.int 4)
  g_POINT : Gc mg "POINT" (.ref p_POINT)
  t_POINT : ∀ H : Hp, SqT K H p_POINT [.str "point"]
theorem txt_mk {K : PySem.W.Frag} {h : Heap} {mg : Str → Option Value} {fa : Addr} (X : K.In h) (G : h.Ns mainGlobals mg) (hfa : mg "law" = some (.ref fa))
    {f1 : Addr} {od1 an1 : Option Addr} {sl1 : Array (Option Value)} {oc1 kV1 dc1 pm1 cd1 ct1 : Value}
    {f2 : Addr} {od2 an2 : Option Addr} {sl2 : Array (Option Value)} {oc2 kV2 dc2 pm2 cd2 ct2 : Value}
    {f3 : Addr} {od3 an3 : Option Addr} {sl3 : Array (Option Value)} {oc3 kV3 dc3 pm3 cd3 ct3 : Value}
    {f4 : Addr} {od4 an4 : Option Addr} {sl4 : Array (Option Value)} {oc4 kV4 dc4 pm4 cd4 ct4 : Value}
    {f5 : Addr} {od5 an5 : Option Addr} {sl5 : Array (Option Value)} {oc5 kV5 dc5 pm5 cd5 ct5 : Value}
    {f6 : Addr} {od6 an6 : Option Addr} {sl6 : Array (Option Value)} {oc6 kV6 dc6 pm6 cd6 ct6 : Value}
    {f7 : Addr} {od7 an7 : Option Addr} {sl7 : Array (Option Value)} {oc7 kV7 dc7 pm7 cd7 ct7 : Value}
    {f8 : Addr} {od8 an8 : Option Addr} {sl8 : Array (Option Value)} {oc8 kV8 dc8 pm8 cd8 ct8 : Value}
    {f9 : Addr} {od9 an9 : Option Addr} {sl9 : Array (Option Value)} {oc9 kV9 dc9 pm9 cd9 ct9 : Value}
    {f10 : Addr} {od10 an10 : Option Addr} {sl10 : Array (Option Value)} {oc10 kV10 dc10 pm10 cd10 ct10 : Value}
    {f11 : Addr} {od11 an11 : Option Addr} {sl11 : Array (Option Value)} {oc11 kV11 dc11 pm11 cd11 ct11 : Value}
    {f12 : Addr} {od12 an12 : Option Addr} {sl12 : Array (Option Value)} {oc12 kV12 dc12 pm12 cd12 ct12 : Value}
    {f13 : Addr} {od13 an13 : Option Addr} {sl13 : Array (Option Value)} {oc13 kV13 dc13 pm13 cd13 ct13 : Value}
    {f14 : Addr} {od14 an14 : Option Addr} {sl14 : Array (Option Value)} {oc14 kV14 dc14 pm14 cd14 ct14 : Value}
    {f15 : Addr} {od15 an15 : Option Addr} {sl15 : Array (Option Value)} {oc15 kV15 dc15 pm15 cd15 ct15 : Value}
    {f16 : Addr} {od16 an16 : Option Addr} {sl16 : Array (Option Value)} {oc16 kV16 dc16 pm16 cd16 ct16 : Value}
    {f17 : Addr} {od17 an17 : Option Addr} {sl17 : Array (Option Value)} {oc17 kV17 dc17 pm17 cd17 ct17 : Value}
    {f18 : Addr} {od18 an18 : Option Addr} {sl18 : Array (Option Value)} {oc18 kV18 dc18 pm18 cd18 ct18 : Value}
    {f19 : Addr} {od19 an19 : Option Addr} {sl19 : Array (Option Value)} {oc19 kV19 dc19 pm19 cd19 ct19 : Value}
    {f20 : Addr} {od20 an20 : Option Addr} {sl20 : Array (Option Value)} {oc20 kV20 dc20 pm20 cd20 ct20 : Value}
    {f21 : Addr} {od21 an21 : Option Addr} {sl21 : Array (Option Value)} {oc21 kV21 dc21 pm21 cd21 ct21 : Value}
    {f22 : Addr} {od22 an22 : Option Addr} {sl22 : Array (Option Value)} {oc22 kV22 dc22 pm22 cd22 ct22 : Value}
    {f23 : Addr} {od23 an23 : Option Addr} {sl23 : Array (Option Value)} {oc23 kV23 dc23 pm23 cd23 ct23 : Value}
    {f24 : Addr} {od24 an24 : Option Addr} {sl24 : Array (Option Value)} {oc24 kV24 dc24 pm24 cd24 ct24 : Value}
    {f25 : Addr} {od25 an25 : Option Addr} {sl25 : Array (Option Value)} {oc25 kV25 dc25 pm25 cd25 ct25 : Value}
    {f26 : Addr} {od26 an26 : Option Addr} {sl26 : Array (Option Value)} {oc26 kV26 dc26 pm26 cd26 ct26 : Value}
    {f27 : Addr} {od27 an27 : Option Addr} {sl27 : Array (Option Value)} {oc27 kV27 dc27 pm27 cd27 ct27 : Value}
    {f28 : Addr} {od28 an28 : Option Addr} {sl28 : Array (Option Value)} {oc28 kV28 dc28 pm28 cd28 ct28 : Value}
    {f29 : Addr} {od29 an29 : Option Addr} {sl29 : Array (Option Value)} {oc29 kV29 dc29 pm29 cd29 ct29 : Value}
    {f30 : Addr} {od30 an30 : Option Addr} {sl30 : Array (Option Value)} {oc30 kV30 dc30 pm30 cd30 ct30 : Value}
    {f31 : Addr} {od31 an31 : Option Addr} {sl31 : Array (Option Value)} {oc31 kV31 dc31 pm31 cd31 ct31 : Value}
    {f32 : Addr} {od32 an32 : Option Addr} {sl32 : Array (Option Value)} {oc32 kV32 dc32 pm32 cd32 ct32 : Value}
    {f33 : Addr} {od33 an33 : Option Addr} {sl33 : Array (Option Value)} {oc33 kV33 dc33 pm33 cd33 ct33 : Value}
    {f34 : Addr} {od34 an34 : Option Addr} {sl34 : Array (Option Value)} {oc34 kV34 dc34 pm34 cd34 ct34 : Value}
    {f35 : Addr} {od35 an35 : Option Addr} {sl35 : Array (Option Value)} {oc35 kV35 dc35 pm35 cd35 ct35 : Value}
    {f36 : Addr} {od36 an36 : Option Addr} {sl36 : Array (Option Value)} {oc36 kV36 dc36 pm36 cd36 ct36 : Value}
    {f37 : Addr} {od37 an37 : Option Addr} {sl37 : Array (Option Value)} {oc37 kV37 dc37 pm37 cd37 ct37 : Value}
    {f38 : Addr} {od38 an38 : Option Addr} {sl38 : Array (Option Value)} {oc38 kV38 dc38 pm38 cd38 ct38 : Value}
    {f39 : Addr} {od39 an39 : Option Addr} {sl39 : Array (Option Value)} {oc39 kV39 dc39 pm39 cd39 ct39 : Value}
    {f40 : Addr} {od40 an40 : Option Addr} {sl40 : Array (Option Value)} {oc40 kV40 dc40 pm40 cd40 ct40 : Value}
    {f41 : Addr} {od41 an41 : Option Addr} {sl41 : Array (Option Value)} {oc41 kV41 dc41 pm41 cd41 ct41 : Value}
    {f42 : Addr} {od42 an42 : Option Addr} {sl42 : Array (Option Value)} {oc42 kV42 dc42 pm42 cd42 ct42 : Value}
    {f43 : Addr} {od43 an43 : Option Addr} {sl43 : Array (Option Value)} {oc43 kV43 dc43 pm43 cd43 ct43 : Value}
    {p_DOWN_MOSTS n_DOWN_MOSTS : Nat} {o_DOWN_MOSTS : Option Addr} {s_DOWN_MOSTS : Array (Option Value)} {tk_DOWN_MOSTS0 : Tok} {tk_DOWN_MOSTS1 : Tok} {tk_DOWN_MOSTS2 : Tok}
    {tk_MOST_THROWS : Tok}
    {tk_MOST_SIGNS : Tok}
    {tk_MOST_WORTH : Tok}
    {p_LANE_MOSTS n_LANE_MOSTS : Nat} {o_LANE_MOSTS : Option Addr} {s_LANE_MOSTS : Array (Option Value)} {tk_LANE_MOSTS0 : Tok} {tk_LANE_MOSTS1 : Tok} {tk_LANE_MOSTS2 : Tok}
    {tk_MOST : Tok}
    {tk_MOST_UNITS : Tok}
    {tk_MOST_DEPTH : Tok}
    {p_POINT n_POINT : Nat} {o_POINT : Option Addr} {s_POINT : Array (Option Value)} {tk_POINT0 : Tok}
    (a1 : PySem.W.nsIn K mainGlobals "is_whole" = some (some (.ref f1))) (l1 : K.lookup f1 = some ⟨oc1, od1, .func (PySem.W.fnOf "is_whole" "is_whole" (defArgs s_is_whole) (defBody s_is_whole) (defScope s_is_whole) .none kV1 dc1 pm1 an1 cd1 ct1), sl1⟩) (c1 : PySem.W.codeIn K cd1 "is_whole" = true) (k1 : PySem.W.keepIn K (.ref f1) = true)
    (a2 : PySem.W.nsIn K mainGlobals "are_wholes" = some (some (.ref f2))) (l2 : K.lookup f2 = some ⟨oc2, od2, .func (PySem.W.fnOf "are_wholes" "are_wholes" (defArgs s_are_wholes) (defBody s_are_wholes) (defScope s_are_wholes) .none kV2 dc2 pm2 an2 cd2 ct2), sl2⟩) (c2 : PySem.W.codeIn K cd2 "are_wholes" = true) (k2 : PySem.W.keepIn K (.ref f2) = true)
    (a3 : PySem.W.nsIn K mainGlobals "is_down" = some (some (.ref f3))) (l3 : K.lookup f3 = some ⟨oc3, od3, .func (PySem.W.fnOf "is_down" "is_down" (defArgs s_is_down) (defBody s_is_down) (defScope s_is_down) .none kV3 dc3 pm3 an3 cd3 ct3), sl3⟩) (c3 : PySem.W.codeIn K cd3 "is_down" = true) (k3 : PySem.W.keepIn K (.ref f3) = true)
    (a4 : PySem.W.nsIn K mainGlobals "down_begun" = some (some (.ref f4))) (l4 : K.lookup f4 = some ⟨oc4, od4, .func (PySem.W.fnOf "down_begun" "down_begun" (defArgs s_down_begun) (defBody s_down_begun) (defScope s_down_begun) .none kV4 dc4 pm4 an4 cd4 ct4), sl4⟩) (c4 : PySem.W.codeIn K cd4 "down_begun" = true) (k4 : PySem.W.keepIn K (.ref f4) = true)
    (a5 : PySem.W.nsIn K mainGlobals "are_throws" = some (some (.ref f5))) (l5 : K.lookup f5 = some ⟨oc5, od5, .func (PySem.W.fnOf "are_throws" "are_throws" (defArgs s_are_throws) (defBody s_are_throws) (defScope s_are_throws) .none kV5 dc5 pm5 an5 cd5 ct5), sl5⟩) (c5 : PySem.W.codeIn K cd5 "are_throws" = true) (k5 : PySem.W.keepIn K (.ref f5) = true)
    (a6 : PySem.W.nsIn K mainGlobals "is_throw" = some (some (.ref f6))) (l6 : K.lookup f6 = some ⟨oc6, od6, .func (PySem.W.fnOf "is_throw" "is_throw" (defArgs s_is_throw) (defBody s_is_throw) (defScope s_is_throw) .none kV6 dc6 pm6 an6 cd6 ct6), sl6⟩) (c6 : PySem.W.codeIn K cd6 "is_throw" = true) (k6 : PySem.W.keepIn K (.ref f6) = true)
    (a7 : PySem.W.nsIn K mainGlobals "is_name" = some (some (.ref f7))) (l7 : K.lookup f7 = some ⟨oc7, od7, .func (PySem.W.fnOf "is_name" "is_name" (defArgs s_is_name) (defBody s_is_name) (defScope s_is_name) .none kV7 dc7 pm7 an7 cd7 ct7), sl7⟩) (c7 : PySem.W.codeIn K cd7 "is_name" = true) (k7 : PySem.W.keepIn K (.ref f7) = true)
    (a8 : PySem.W.nsIn K mainGlobals "is_lane" = some (some (.ref f8))) (l8 : K.lookup f8 = some ⟨oc8, od8, .func (PySem.W.fnOf "is_lane" "is_lane" (defArgs s_is_lane) (defBody s_is_lane) (defScope s_is_lane) .none kV8 dc8 pm8 an8 cd8 ct8), sl8⟩) (c8 : PySem.W.codeIn K cd8 "is_lane" = true) (k8 : PySem.W.keepIn K (.ref f8) = true)
    (a9 : PySem.W.nsIn K mainGlobals "lane_begun" = some (some (.ref f9))) (l9 : K.lookup f9 = some ⟨oc9, od9, .func (PySem.W.fnOf "lane_begun" "lane_begun" (defArgs s_lane_begun) (defBody s_lane_begun) (defScope s_lane_begun) .none kV9 dc9 pm9 an9 cd9 ct9), sl9⟩) (c9 : PySem.W.codeIn K cd9 "lane_begun" = true) (k9 : PySem.W.keepIn K (.ref f9) = true)
    (a10 : PySem.W.nsIn K mainGlobals "is_rule" = some (some (.ref f10))) (l10 : K.lookup f10 = some ⟨oc10, od10, .func (PySem.W.fnOf "is_rule" "is_rule" (defArgs s_is_rule) (defBody s_is_rule) (defScope s_is_rule) .none kV10 dc10 pm10 an10 cd10 ct10), sl10⟩) (c10 : PySem.W.codeIn K cd10 "is_rule" = true) (k10 : PySem.W.keepIn K (.ref f10) = true)
    (a11 : PySem.W.nsIn K mainGlobals "units_of" = some (some (.ref f11))) (l11 : K.lookup f11 = some ⟨oc11, od11, .func (PySem.W.fnOf "units_of" "units_of" (defArgs s_units_of) (defBody s_units_of) (defScope s_units_of) .none kV11 dc11 pm11 an11 cd11 ct11), sl11⟩) (c11 : PySem.W.codeIn K cd11 "units_of" = true) (k11 : PySem.W.keepIn K (.ref f11) = true)
    (a12 : PySem.W.nsIn K mainGlobals "has_unit_form" = some (some (.ref f12))) (l12 : K.lookup f12 = some ⟨oc12, od12, .func (PySem.W.fnOf "has_unit_form" "has_unit_form" (defArgs s_has_unit_form) (defBody s_has_unit_form) (defScope s_has_unit_form) .none kV12 dc12 pm12 an12 cd12 ct12), sl12⟩) (c12 : PySem.W.codeIn K cd12 "has_unit_form" = true) (k12 : PySem.W.keepIn K (.ref f12) = true)
    (a13 : PySem.W.nsIn K mainGlobals "begun" = some (some (.ref f13))) (l13 : K.lookup f13 = some ⟨oc13, od13, .func (PySem.W.fnOf "begun" "begun" (defArgs s_begun) (defBody s_begun) (defScope s_begun) .none kV13 dc13 pm13 an13 cd13 ct13), sl13⟩) (c13 : PySem.W.codeIn K cd13 "begun" = true) (k13 : PySem.W.keepIn K (.ref f13) = true)
    (a14 : PySem.W.nsIn K mainGlobals "played_now" = some (some (.ref f14))) (l14 : K.lookup f14 = some ⟨oc14, od14, .func (PySem.W.fnOf "played_now" "played_now" (defArgs s_played_now) (defBody s_played_now) (defScope s_played_now) .none kV14 dc14 pm14 an14 cd14 ct14), sl14⟩) (c14 : PySem.W.codeIn K cd14 "played_now" = true) (k14 : PySem.W.keepIn K (.ref f14) = true)
    (a15 : PySem.W.nsIn K mainGlobals "begun_within" = some (some (.ref f15))) (l15 : K.lookup f15 = some ⟨oc15, od15, .func (PySem.W.fnOf "begun_within" "begun_within" (defArgs s_begun_within) (defBody s_begun_within) (defScope s_begun_within) .none kV15 dc15 pm15 an15 cd15 ct15), sl15⟩) (c15 : PySem.W.codeIn K cd15 "begun_within" = true) (k15 : PySem.W.keepIn K (.ref f15) = true)
    (a16 : PySem.W.nsIn K mainGlobals "is_game" = some (some (.ref f16))) (l16 : K.lookup f16 = some ⟨oc16, od16, .func (PySem.W.fnOf "is_game" "is_game" (defArgs s_is_game) (defBody s_is_game) (defScope s_is_game) .none kV16 dc16 pm16 an16 cd16 ct16), sl16⟩) (c16 : PySem.W.codeIn K cd16 "is_game" = true) (k16 : PySem.W.keepIn K (.ref f16) = true)
    (a17 : PySem.W.nsIn K mainGlobals "sides_of" = some (some (.ref f17))) (l17 : K.lookup f17 = some ⟨oc17, od17, .func (PySem.W.fnOf "sides_of" "sides_of" (defArgs s_sides_of) (defBody s_sides_of) (defScope s_sides_of) .none kV17 dc17 pm17 an17 cd17 ct17), sl17⟩) (c17 : PySem.W.codeIn K cd17 "sides_of" = true) (k17 : PySem.W.keepIn K (.ref f17) = true)
    (a18 : PySem.W.nsIn K mainGlobals "first" = some (some (.ref f18))) (l18 : K.lookup f18 = some ⟨oc18, od18, .func (PySem.W.fnOf "first" "first" (defArgs s_first) (defBody s_first) (defScope s_first) .none kV18 dc18 pm18 an18 cd18 ct18), sl18⟩) (c18 : PySem.W.codeIn K cd18 "first" = true) (k18 : PySem.W.keepIn K (.ref f18) = true)
    (a19 : PySem.W.nsIn K mainGlobals "_law_tape" = some (some (.ref f19))) (l19 : K.lookup f19 = some ⟨oc19, od19, .func (PySem.W.fnOf "_law_tape" "_law_tape" (defArgs s_law_tape) (defBody s_law_tape) (defScope s_law_tape) .none kV19 dc19 pm19 an19 cd19 ct19), sl19⟩) (c19 : PySem.W.codeIn K cd19 "_law_tape" = true) (k19 : PySem.W.keepIn K (.ref f19) = true)
    (a20 : PySem.W.nsIn K mainGlobals "_law_draw" = some (some (.ref f20))) (l20 : K.lookup f20 = some ⟨oc20, od20, .func (PySem.W.fnOf "_law_draw" "_law_draw" (defArgs s_law_draw) (defBody s_law_draw) (defScope s_law_draw) .none kV20 dc20 pm20 an20 cd20 ct20), sl20⟩) (c20 : PySem.W.codeIn K cd20 "_law_draw" = true) (k20 : PySem.W.keepIn K (.ref f20) = true)
    (a21 : PySem.W.nsIn K mainGlobals "_law_great" = some (some (.ref f21))) (l21 : K.lookup f21 = some ⟨oc21, od21, .func (PySem.W.fnOf "_law_great" "_law_great" (defArgs s_law_great) (defBody s_law_great) (defScope s_law_great) .none kV21 dc21 pm21 an21 cd21 ct21), sl21⟩) (c21 : PySem.W.codeIn K cd21 "_law_great" = true) (k21 : PySem.W.keepIn K (.ref f21) = true)
    (a22 : PySem.W.nsIn K mainGlobals "_law_alike" = some (some (.ref f22))) (l22 : K.lookup f22 = some ⟨oc22, od22, .func (PySem.W.fnOf "_law_alike" "_law_alike" (defArgs s_law_alike) (defBody s_law_alike) (defScope s_law_alike) .none kV22 dc22 pm22 an22 cd22 ct22), sl22⟩) (c22 : PySem.W.codeIn K cd22 "_law_alike" = true) (k22 : PySem.W.keepIn K (.ref f22) = true)
    (a23 : PySem.W.nsIn K mainGlobals "_law_unit" = some (some (.ref f23))) (l23 : K.lookup f23 = some ⟨oc23, od23, .func (PySem.W.fnOf "_law_unit" "_law_unit" (defArgs s_law_unit) (defBody s_law_unit) (defScope s_law_unit) .none kV23 dc23 pm23 an23 cd23 ct23), sl23⟩) (c23 : PySem.W.codeIn K cd23 "_law_unit" = true) (k23 : PySem.W.keepIn K (.ref f23) = true)
    (a24 : PySem.W.nsIn K mainGlobals "_law_rule" = some (some (.ref f24))) (l24 : K.lookup f24 = some ⟨oc24, od24, .func (PySem.W.fnOf "_law_rule" "_law_rule" (defArgs s_law_rule) (defBody s_law_rule) (defScope s_law_rule) .none kV24 dc24 pm24 an24 cd24 ct24), sl24⟩) (c24 : PySem.W.codeIn K cd24 "_law_rule" = true) (k24 : PySem.W.keepIn K (.ref f24) = true)
    (a25 : PySem.W.nsIn K mainGlobals "_law_any_rule" = some (some (.ref f25))) (l25 : K.lookup f25 = some ⟨oc25, od25, .func (PySem.W.fnOf "_law_any_rule" "_law_any_rule" (defArgs s_law_any_rule) (defBody s_law_any_rule) (defScope s_law_any_rule) .none kV25 dc25 pm25 an25 cd25 ct25), sl25⟩) (c25 : PySem.W.codeIn K cd25 "_law_any_rule" = true) (k25 : PySem.W.keepIn K (.ref f25) = true)
    (a26 : PySem.W.nsIn K mainGlobals "_law_names" = some (some (.ref f26))) (l26 : K.lookup f26 = some ⟨oc26, od26, .func (PySem.W.fnOf "_law_names" "_law_names" (defArgs s_law_names) (defBody s_law_names) (defScope s_law_names) .none kV26 dc26 pm26 an26 cd26 ct26), sl26⟩) (c26 : PySem.W.codeIn K cd26 "_law_names" = true) (k26 : PySem.W.keepIn K (.ref f26) = true)
    (a27 : PySem.W.nsIn K mainGlobals "_law_throws" = some (some (.ref f27))) (l27 : K.lookup f27 = some ⟨oc27, od27, .func (PySem.W.fnOf "_law_throws" "_law_throws" (defArgs s_law_throws) (defBody s_law_throws) (defScope s_law_throws) .none kV27 dc27 pm27 an27 cd27 ct27), sl27⟩) (c27 : PySem.W.codeIn K cd27 "_law_throws" = true) (k27 : PySem.W.keepIn K (.ref f27) = true)
    (a28 : PySem.W.nsIn K mainGlobals "_law_down" = some (some (.ref f28))) (l28 : K.lookup f28 = some ⟨oc28, od28, .func (PySem.W.fnOf "_law_down" "_law_down" (defArgs s_law_down) (defBody s_law_down) (defScope s_law_down) .none kV28 dc28 pm28 an28 cd28 ct28), sl28⟩) (c28 : PySem.W.codeIn K cd28 "_law_down" = true) (k28 : PySem.W.keepIn K (.ref f28) = true)
    (a29 : PySem.W.nsIn K mainGlobals "_law_lane" = some (some (.ref f29))) (l29 : K.lookup f29 = some ⟨oc29, od29, .func (PySem.W.fnOf "_law_lane" "_law_lane" (defArgs s_law_lane) (defBody s_law_lane) (defScope s_law_lane) .none kV29 dc29 pm29 an29 cd29 ct29), sl29⟩) (c29 : PySem.W.codeIn K cd29 "_law_lane" = true) (k29 : PySem.W.keepIn K (.ref f29) = true)
    (a30 : PySem.W.nsIn K mainGlobals "_law_game" = some (some (.ref f30))) (l30 : K.lookup f30 = some ⟨oc30, od30, .func (PySem.W.fnOf "_law_game" "_law_game" (defArgs s_law_game) (defBody s_law_game) (defScope s_law_game) .none kV30 dc30 pm30 an30 cd30 ct30), sl30⟩) (c30 : PySem.W.codeIn K cd30 "_law_game" = true) (k30 : PySem.W.keepIn K (.ref f30) = true)
    (a31 : PySem.W.nsIn K mainGlobals "_law_inner" = some (some (.ref f31))) (l31 : K.lookup f31 = some ⟨oc31, od31, .func (PySem.W.fnOf "_law_inner" "_law_inner" (defArgs s_law_inner) (defBody s_law_inner) (defScope s_law_inner) .none kV31 dc31 pm31 an31 cd31 ct31), sl31⟩) (c31 : PySem.W.codeIn K cd31 "_law_inner" = true) (k31 : PySem.W.keepIn K (.ref f31) = true)
    (a32 : PySem.W.nsIn K mainGlobals "_law_begun" = some (some (.ref f32))) (l32 : K.lookup f32 = some ⟨oc32, od32, .func (PySem.W.fnOf "_law_begun" "_law_begun" (defArgs s_law_begun) (defBody s_law_begun) (defScope s_law_begun) .none kV32 dc32 pm32 an32 cd32 ct32), sl32⟩) (c32 : PySem.W.codeIn K cd32 "_law_begun" = true) (k32 : PySem.W.keepIn K (.ref f32) = true)
    (a33 : PySem.W.nsIn K mainGlobals "_law_thing" = some (some (.ref f33))) (l33 : K.lookup f33 = some ⟨oc33, od33, .func (PySem.W.fnOf "_law_thing" "_law_thing" (defArgs s_law_thing) (defBody s_law_thing) (defScope s_law_thing) .none kV33 dc33 pm33 an33 cd33 ct33), sl33⟩) (c33 : PySem.W.codeIn K cd33 "_law_thing" = true) (k33 : PySem.W.keepIn K (.ref f33) = true)
    (a34 : PySem.W.nsIn K mainGlobals "_law_number" = some (some (.ref f34))) (l34 : K.lookup f34 = some ⟨oc34, od34, .func (PySem.W.fnOf "_law_number" "_law_number" (defArgs s_law_number) (defBody s_law_number) (defScope s_law_number) .none kV34 dc34 pm34 an34 cd34 ct34), sl34⟩) (c34 : PySem.W.codeIn K cd34 "_law_number" = true) (k34 : PySem.W.keepIn K (.ref f34) = true)
    (a35 : PySem.W.nsIn K mainGlobals "_law_units" = some (some (.ref f35))) (l35 : K.lookup f35 = some ⟨oc35, od35, .func (PySem.W.fnOf "_law_units" "_law_units" (defArgs s_law_units) (defBody s_law_units) (defScope s_law_units) .none kV35 dc35 pm35 an35 cd35 ct35), sl35⟩) (c35 : PySem.W.codeIn K cd35 "_law_units" = true) (k35 : PySem.W.keepIn K (.ref f35) = true)
    (a36 : PySem.W.nsIn K mainGlobals "_law_is_throw" = some (some (.ref f36))) (l36 : K.lookup f36 = some ⟨oc36, od36, .func (PySem.W.fnOf "_law_is_throw" "_law_is_throw" (defArgs s_law_is_throw) (defBody s_law_is_throw) (defScope s_law_is_throw) .none kV36 dc36 pm36 an36 cd36 ct36), sl36⟩) (c36 : PySem.W.codeIn K cd36 "_law_is_throw" = true) (k36 : PySem.W.keepIn K (.ref f36) = true)
    (a37 : PySem.W.nsIn K mainGlobals "_law_numbers" = some (some (.ref f37))) (l37 : K.lookup f37 = some ⟨oc37, od37, .func (PySem.W.fnOf "_law_numbers" "_law_numbers" (defArgs s_law_numbers) (defBody s_law_numbers) (defScope s_law_numbers) .none kV37 dc37 pm37 an37 cd37 ct37), sl37⟩) (c37 : PySem.W.codeIn K cd37 "_law_numbers" = true) (k37 : PySem.W.keepIn K (.ref f37) = true)
    (a38 : PySem.W.nsIn K mainGlobals "_law_judged" = some (some (.ref f38))) (l38 : K.lookup f38 = some ⟨oc38, od38, .func (PySem.W.fnOf "_law_judged" "_law_judged" (defArgs s_law_judged) (defBody s_law_judged) (defScope s_law_judged) .none kV38 dc38 pm38 an38 cd38 ct38), sl38⟩) (c38 : PySem.W.codeIn K cd38 "_law_judged" = true) (k38 : PySem.W.keepIn K (.ref f38) = true)
    (a39 : PySem.W.nsIn K mainGlobals "_law_bent" = some (some (.ref f39))) (l39 : K.lookup f39 = some ⟨oc39, od39, .func (PySem.W.fnOf "_law_bent" "_law_bent" (defArgs s_law_bent) (defBody s_law_bent) (defScope s_law_bent) .none kV39 dc39 pm39 an39 cd39 ct39), sl39⟩) (c39 : PySem.W.codeIn K cd39 "_law_bent" = true) (k39 : PySem.W.keepIn K (.ref f39) = true)
    (a40 : PySem.W.nsIn K mainGlobals "_law_spoilt" = some (some (.ref f40))) (l40 : K.lookup f40 = some ⟨oc40, od40, .func (PySem.W.fnOf "_law_spoilt" "_law_spoilt" (defArgs s_law_spoilt) (defBody s_law_spoilt) (defScope s_law_spoilt) .none kV40 dc40 pm40 an40 cd40 ct40), sl40⟩) (c40 : PySem.W.codeIn K cd40 "_law_spoilt" = true) (k40 : PySem.W.keepIn K (.ref f40) = true)
    (a41 : PySem.W.nsIn K mainGlobals "_law_told" = some (some (.ref f41))) (l41 : K.lookup f41 = some ⟨oc41, od41, .func (PySem.W.fnOf "_law_told" "_law_told" (defArgs s_law_told) (defBody s_law_told) (defScope s_law_told) .none kV41 dc41 pm41 an41 cd41 ct41), sl41⟩) (c41 : PySem.W.codeIn K cd41 "_law_told" = true) (k41 : PySem.W.keepIn K (.ref f41) = true)
    (a42 : PySem.W.nsIn K mainGlobals "_law_first" = some (some (.ref f42))) (l42 : K.lookup f42 = some ⟨oc42, od42, .func (PySem.W.fnOf "_law_first" "_law_first" (defArgs s_law_first) (defBody s_law_first) (defScope s_law_first) .none kV42 dc42 pm42 an42 cd42 ct42), sl42⟩) (c42 : PySem.W.codeIn K cd42 "_law_first" = true) (k42 : PySem.W.keepIn K (.ref f42) = true)
    (a43 : PySem.W.nsIn K mainGlobals "law" = some (some (.ref f43))) (l43 : K.lookup f43 = some ⟨oc43, od43, .func (PySem.W.fnOf "law" "law" (defArgs s_law) (defBody s_law) (defScope s_law) .none kV43 dc43 pm43 an43 cd43 ct43), sl43⟩) (c43 : PySem.W.codeIn K cd43 "law" = true) (k43 : PySem.W.keepIn K (.ref f43) = true)
    (z_all : PySem.W.nsIn K mainGlobals "all" = some none)
    (z_bool : PySem.W.nsIn K mainGlobals "bool" = some none)
    (z_int : PySem.W.nsIn K mainGlobals "int" = some none)
    (z_isinstance : PySem.W.nsIn K mainGlobals "isinstance" = some none)
    (z_len : PySem.W.nsIn K mainGlobals "len" = some none)
    (z_list : PySem.W.nsIn K mainGlobals "list" = some none)
    (z_min : PySem.W.nsIn K mainGlobals "min" = some none)
    (z_range : PySem.W.nsIn K mainGlobals "range" = some none)
    (z_repr : PySem.W.nsIn K mainGlobals "repr" = some none)
    (z_set : PySem.W.nsIn K mainGlobals "set" = some none)
    (z_str : PySem.W.nsIn K mainGlobals "str" = some none)
    (z_tuple : PySem.W.nsIn K mainGlobals "tuple" = some none)
    (z_zip : PySem.W.nsIn K mainGlobals "zip" = some none)
    (v_DOWN_MOSTS : PySem.W.nsIn K mainGlobals "DOWN_MOSTS" = some (some (.ref p_DOWN_MOSTS))) (w_DOWN_MOSTS : K.lookup p_DOWN_MOSTS = some ⟨.type "tuple", o_DOWN_MOSTS, .seq #[.int 3 tk_DOWN_MOSTS0, .int 1000000 tk_DOWN_MOSTS1, .int 3 tk_DOWN_MOSTS2] n_DOWN_MOSTS, s_DOWN_MOSTS⟩)
    (v_MOST_THROWS : PySem.W.nsIn K mainGlobals "MOST_THROWS" = some (some (.int 30 tk_MOST_THROWS)))
    (v_MOST_SIGNS : PySem.W.nsIn K mainGlobals "MOST_SIGNS" = some (some (.int 8 tk_MOST_SIGNS)))
    (v_MOST_WORTH : PySem.W.nsIn K mainGlobals "MOST_WORTH" = some (some (.int 1000000 tk_MOST_WORTH)))
    (v_LANE_MOSTS : PySem.W.nsIn K mainGlobals "LANE_MOSTS" = some (some (.ref p_LANE_MOSTS))) (w_LANE_MOSTS : K.lookup p_LANE_MOSTS = some ⟨.type "tuple", o_LANE_MOSTS, .seq #[.int 3 tk_LANE_MOSTS0, .int 20 tk_LANE_MOSTS1, .int 12 tk_LANE_MOSTS2] n_LANE_MOSTS, s_LANE_MOSTS⟩)
    (v_MOST : PySem.W.nsIn K mainGlobals "MOST" = some (some (.int 99 tk_MOST)))
    (v_MOST_UNITS : PySem.W.nsIn K mainGlobals "MOST_UNITS" = some (some (.int 10 tk_MOST_UNITS)))
    (v_MOST_DEPTH : PySem.W.nsIn K mainGlobals "MOST_DEPTH" = some (some (.int 4 tk_MOST_DEPTH)))
    (v_POINT : PySem.W.nsIn K mainGlobals "POINT" = some (some (.ref p_POINT))) (w_POINT : K.lookup p_POINT = some ⟨.type "tuple", o_POINT, .seq #[.str "point" tk_POINT0] n_POINT, s_POINT⟩) :
    ∃ (fd : FuncData) (p_DOWN_MOSTS : Addr) (p_LANE_MOSTS : Addr) (p_POINT : Addr), (∀ (s : Shared) (v : Value), BindsTo s fd ⟨[v], []⟩ [("_law_script", v)]) ∧ Fun K "law" "law" s_law fa fd ∧ Txt K mg p_DOWN_MOSTS p_LANE_MOSTS p_POINT := by
  have e := hfa.symm.trans (PySem.W.mg_of X G a43)
  cases e
  exact ⟨_, _, _, _, fun s v => .of_eq rfl, fun_mk (st := s_law) l43 c43 k43, ⟨⟨⟨f1, _, fun_mk (st := s_is_whole) l1 c1 k1, (fun_mk (st := s_is_whole) l1 c1 k1).binds (ps := ["thing", "least", "most"]) fun _ _ _ _ _ _ us hl => match us, hl with | [_, _, _], _ => rfl, PySem.W.mg_of X G a1⟩⟩,
    ⟨⟨f2, _, fun_mk (st := s_are_wholes) l2 c2 k2, (fun_mk (st := s_are_wholes) l2 c2 k2).binds (ps := ["things", "mosts"]) fun _ _ _ _ _ _ us hl => match us, hl with | [_, _], _ => rfl, PySem.W.mg_of X G a2⟩⟩,
    ⟨⟨f3, _, fun_mk (st := s_is_down) l3 c3 k3, (fun_mk (st := s_is_down) l3 c3 k3).binds (ps := ["thing"]) fun _ _ _ _ _ _ us hl => match us, hl with | [_], _ => rfl, PySem.W.mg_of X G a3⟩⟩,
    ⟨⟨f4, _, fun_mk (st := s_down_begun) l4 c4 k4, (fun_mk (st := s_down_begun) l4 c4 k4).binds (ps := ["down"]) fun _ _ _ _ _ _ us hl => match us, hl with | [_], _ => rfl, PySem.W.mg_of X G a4⟩⟩,
    ⟨⟨f5, _, fun_mk (st := s_are_throws) l5 c5 k5, (fun_mk (st := s_are_throws) l5 c5 k5).binds (ps := ["thing"]) fun _ _ _ _ _ _ us hl => match us, hl with | [_], _ => rfl, PySem.W.mg_of X G a5⟩⟩,
    ⟨⟨f6, _, fun_mk (st := s_is_throw) l6 c6 k6, (fun_mk (st := s_is_throw) l6 c6 k6).binds (ps := ["thing"]) fun _ _ _ _ _ _ us hl => match us, hl with | [_], _ => rfl, PySem.W.mg_of X G a6⟩⟩,
    ⟨⟨f7, _, fun_mk (st := s_is_name) l7 c7 k7, (fun_mk (st := s_is_name) l7 c7 k7).binds (ps := ["thing"]) fun _ _ _ _ _ _ us hl => match us, hl with | [_], _ => rfl, PySem.W.mg_of X G a7⟩⟩,
    ⟨⟨f8, _, fun_mk (st := s_is_lane) l8 c8 k8, (fun_mk (st := s_is_lane) l8 c8 k8).binds (ps := ["thing"]) fun _ _ _ _ _ _ us hl => match us, hl with | [_], _ => rfl, PySem.W.mg_of X G a8⟩⟩,
    ⟨⟨f9, _, fun_mk (st := s_lane_begun) l9 c9 k9, (fun_mk (st := s_lane_begun) l9 c9 k9).binds (ps := ["lane"]) fun _ _ _ _ _ _ us hl => match us, hl with | [_], _ => rfl, PySem.W.mg_of X G a9⟩⟩,
    ⟨⟨f10, _, fun_mk (st := s_is_rule) l10 c10 k10, (fun_mk (st := s_is_rule) l10 c10 k10).binds (ps := ["thing"]) fun _ _ _ _ _ _ us hl => match us, hl with | [_], _ => rfl, PySem.W.mg_of X G a10⟩⟩,
    ⟨⟨f11, _, fun_mk (st := s_units_of) l11 c11 k11, (fun_mk (st := s_units_of) l11 c11 k11).binds (ps := ["thing", "room"]) fun _ _ _ _ _ _ us hl => match us, hl with | [_, _], _ => rfl, PySem.W.mg_of X G a11⟩⟩,
    ⟨⟨f12, _, fun_mk (st := s_has_unit_form) l12 c12 k12, (fun_mk (st := s_has_unit_form) l12 c12 k12).binds (ps := ["thing"]) fun _ _ _ _ _ _ us hl => match us, hl with | [_], _ => rfl, PySem.W.mg_of X G a12⟩⟩,
    ⟨⟨f13, _, fun_mk (st := s_begun) l13 c13 k13, (fun_mk (st := s_begun) l13 c13 k13).binds (ps := ["rule"]) fun _ _ _ _ _ _ us hl => match us, hl with | [_], _ => rfl, PySem.W.mg_of X G a13⟩⟩,
    ⟨⟨f14, _, fun_mk (st := s_played_now) l14 c14 k14, (fun_mk (st := s_played_now) l14 c14 k14).binds (ps := ["rule", "zero", "one"]) fun _ _ _ _ _ _ us hl => match us, hl with | [_, _, _], _ => rfl, PySem.W.mg_of X G a14⟩⟩,
    ⟨⟨f15, _, fun_mk (st := s_begun_within) l15 c15 k15, (fun_mk (st := s_begun_within) l15 c15 k15).binds (ps := ["rule", "zero", "one"]) fun _ _ _ _ _ _ us hl => match us, hl with | [_, _, _], _ => rfl, PySem.W.mg_of X G a15⟩⟩,
    ⟨⟨f16, _, fun_mk (st := s_is_game) l16 c16 k16, (fun_mk (st := s_is_game) l16 c16 k16).binds (ps := ["thing"]) fun _ _ _ _ _ _ us hl => match us, hl with | [_], _ => rfl, PySem.W.mg_of X G a16⟩⟩,
    ⟨⟨f17, _, fun_mk (st := s_sides_of) l17 c17 k17, (fun_mk (st := s_sides_of) l17 c17 k17).binds (ps := ["game"]) fun _ _ _ _ _ _ us hl => match us, hl with | [_], _ => rfl, PySem.W.mg_of X G a17⟩⟩,
    ⟨⟨f18, _, fun_mk (st := s_first) l18 c18 k18, (fun_mk (st := s_first) l18 c18 k18).binds (ps := ["game"]) fun _ _ _ _ _ _ us hl => match us, hl with | [_], _ => rfl, PySem.W.mg_of X G a18⟩⟩,
    ⟨⟨f19, _, fun_mk (st := s_law_tape) l19 c19 k19, (fun_mk (st := s_law_tape) l19 c19 k19).binds (ps := ["_law_script"]) fun _ _ _ _ _ _ us hl => match us, hl with | [_], _ => rfl, PySem.W.mg_of X G a19⟩⟩,
    ⟨⟨f20, _, fun_mk (st := s_law_draw) l20 c20 k20, (fun_mk (st := s_law_draw) l20 c20 k20).binds (ps := ["_law_tape_here", "_law_many"]) fun _ _ _ _ _ _ us hl => match us, hl with | [_, _], _ => rfl, PySem.W.mg_of X G a20⟩⟩,
    ⟨⟨f21, _, fun_mk (st := s_law_great) l21 c21 k21, (fun_mk (st := s_law_great) l21 c21 k21).binds (ps := ["_law_tape_here"]) fun _ _ _ _ _ _ us hl => match us, hl with | [_], _ => rfl, PySem.W.mg_of X G a21⟩⟩,
    ⟨⟨f22, _, fun_mk (st := s_law_alike) l22 c22 k22, (fun_mk (st := s_law_alike) l22 c22 k22).binds (ps := ["_law_due", "_law_found"]) fun _ _ _ _ _ _ us hl => match us, hl with | [_, _], _ => rfl, PySem.W.mg_of X G a22⟩⟩,
    ⟨⟨f23, _, fun_mk (st := s_law_unit) l23 c23 k23, (fun_mk (st := s_law_unit) l23 c23 k23).binds (ps := ["_law_tape_here", "_law_deep", "_law_thin"]) fun _ _ _ _ _ _ us hl => match us, hl with | [_, _, _], _ => rfl, PySem.W.mg_of X G a23⟩⟩,
    ⟨⟨f24, _, fun_mk (st := s_law_rule) l24 c24 k24, (fun_mk (st := s_law_rule) l24 c24 k24).binds (ps := ["_law_tape_here", "_law_deep", "_law_thin"]) fun _ _ _ _ _ _ us hl => match us, hl with | [_, _, _], _ => rfl, PySem.W.mg_of X G a24⟩⟩,
    ⟨⟨f25, _, fun_mk (st := s_law_any_rule) l25 c25 k25, (fun_mk (st := s_law_any_rule) l25 c25 k25).binds (ps := ["_law_tape_here"]) fun _ _ _ _ _ _ us hl => match us, hl with | [_], _ => rfl, PySem.W.mg_of X G a25⟩⟩,
    ⟨⟨f26, _, fun_mk (st := s_law_names) l26 c26 k26, (fun_mk (st := s_law_names) l26 c26 k26).binds (ps := ["_law_tape_here", "_law_many"]) fun _ _ _ _ _ _ us hl => match us, hl with | [_, _], _ => rfl, PySem.W.mg_of X G a26⟩⟩,
    ⟨⟨f27, _, fun_mk (st := s_law_throws) l27 c27 k27, (fun_mk (st := s_law_throws) l27 c27 k27).binds (ps := ["_law_tape_here", "_law_names_here", "_law_count"]) fun _ _ _ _ _ _ us hl => match us, hl with | [_, _, _], _ => rfl, PySem.W.mg_of X G a27⟩⟩,
    ⟨⟨f28, _, fun_mk (st := s_law_down) l28 c28 k28, (fun_mk (st := s_law_down) l28 c28 k28).binds (ps := ["_law_tape_here"]) fun _ _ _ _ _ _ us hl => match us, hl with | [_], _ => rfl, PySem.W.mg_of X G a28⟩⟩,
    ⟨⟨f29, _, fun_mk (st := s_law_lane) l29 c29 k29, (fun_mk (st := s_law_lane) l29 c29 k29).binds (ps := ["_law_tape_here"]) fun _ _ _ _ _ _ us hl => match us, hl with | [_], _ => rfl, PySem.W.mg_of X G a29⟩⟩,
    ⟨⟨f30, _, fun_mk (st := s_law_game) l30 c30 k30, (fun_mk (st := s_law_game) l30 c30 k30).binds (ps := ["_law_tape_here"]) fun _ _ _ _ _ _ us hl => match us, hl with | [_], _ => rfl, PySem.W.mg_of X G a30⟩⟩,
    ⟨⟨f31, _, fun_mk (st := s_law_inner) l31 c31 k31, (fun_mk (st := s_law_inner) l31 c31 k31).binds (ps := ["_law_rule_here", "_law_zero", "_law_one"]) fun _ _ _ _ _ _ us hl => match us, hl with | [_, _, _], _ => rfl, PySem.W.mg_of X G a31⟩⟩,
    ⟨⟨f32, _, fun_mk (st := s_law_begun) l32 c32 k32, (fun_mk (st := s_law_begun) l32 c32 k32).binds (ps := ["_law_rule_here"]) fun _ _ _ _ _ _ us hl => match us, hl with | [_], _ => rfl, PySem.W.mg_of X G a32⟩⟩,
    ⟨⟨f33, _, fun_mk (st := s_law_thing) l33 c33 k33, (fun_mk (st := s_law_thing) l33 c33 k33).binds (ps := ["_law_tape_here", "_law_kept"]) fun _ _ _ _ _ _ us hl => match us, hl with | [_, _], _ => rfl, PySem.W.mg_of X G a33⟩⟩,
    ⟨⟨f34, _, fun_mk (st := s_law_number) l34 c34 k34, (fun_mk (st := s_law_number) l34 c34 k34).binds (ps := ["_law_thing_here", "_law_low", "_law_high"]) fun _ _ _ _ _ _ us hl => match us, hl with | [_, _, _], _ => rfl, PySem.W.mg_of X G a34⟩⟩,
    ⟨⟨f35, _, fun_mk (st := s_law_units) l35 c35 k35, (fun_mk (st := s_law_units) l35 c35 k35).binds (ps := ["_law_thing_here", "_law_around"]) fun _ _ _ _ _ _ us hl => match us, hl with | [_, _], _ => rfl, PySem.W.mg_of X G a35⟩⟩,
    ⟨⟨f36, _, fun_mk (st := s_law_is_throw) l36 c36 k36, (fun_mk (st := s_law_is_throw) l36 c36 k36).binds (ps := ["_law_thing_here"]) fun _ _ _ _ _ _ us hl => match us, hl with | [_], _ => rfl, PySem.W.mg_of X G a36⟩⟩,
    ⟨⟨f37, _, fun_mk (st := s_law_numbers) l37 c37 k37, (fun_mk (st := s_law_numbers) l37 c37 k37).binds (ps := ["_law_thing_here", "_law_mosts"]) fun _ _ _ _ _ _ us hl => match us, hl with | [_, _], _ => rfl, PySem.W.mg_of X G a37⟩⟩,
    ⟨⟨f38, _, fun_mk (st := s_law_judged) l38 c38 k38, (fun_mk (st := s_law_judged) l38 c38 k38).binds (ps := ["_law_thing_here"]) fun _ _ _ _ _ _ us hl => match us, hl with | [_], _ => rfl, PySem.W.mg_of X G a38⟩⟩,
    ⟨⟨f39, _, fun_mk (st := s_law_bent) l39 c39 k39, (fun_mk (st := s_law_bent) l39 c39 k39).binds (ps := ["_law_tape_here", "_law_rule_here"]) fun _ _ _ _ _ _ us hl => match us, hl with | [_, _], _ => rfl, PySem.W.mg_of X G a39⟩⟩,
    ⟨⟨f40, _, fun_mk (st := s_law_spoilt) l40 c40 k40, (fun_mk (st := s_law_spoilt) l40 c40 k40).binds (ps := ["_law_tape_here", "_law_game_here"]) fun _ _ _ _ _ _ us hl => match us, hl with | [_, _], _ => rfl, PySem.W.mg_of X G a40⟩⟩,
    ⟨⟨f41, _, fun_mk (st := s_law_told) l41 c41 k41, (fun_mk (st := s_law_told) l41 c41 k41).binds (ps := ["_law_thing_here"]) fun _ _ _ _ _ _ us hl => match us, hl with | [_], _ => rfl, PySem.W.mg_of X G a41⟩⟩,
    ⟨⟨f42, _, fun_mk (st := s_law_first) l42 c42 k42, (fun_mk (st := s_law_first) l42 c42 k42).binds (ps := ["_law_game_here"]) fun _ _ _ _ _ _ us hl => match us, hl with | [_], _ => rfl, PySem.W.mg_of X G a42⟩⟩,
    PySem.W.mg_none_of X G z_all,
    PySem.W.mg_none_of X G z_bool,
    PySem.W.mg_none_of X G z_int,
    PySem.W.mg_none_of X G z_isinstance,
    PySem.W.mg_none_of X G z_len,
    PySem.W.mg_none_of X G z_list,
    PySem.W.mg_none_of X G z_min,
    PySem.W.mg_none_of X G z_range,
    PySem.W.mg_none_of X G z_repr,
    PySem.W.mg_none_of X G z_set,
    PySem.W.mg_none_of X G z_str,
    PySem.W.mg_none_of X G z_tuple,
    PySem.W.mg_none_of X G z_zip,
    ⟨⟨_, PySem.W.mg_of X G v_DOWN_MOSTS, rfl⟩⟩,
    fun H => .inr ⟨_, _, _, w_DOWN_MOSTS, rfl, rfl, (by show 3 ≤ sizeLine; decide), .cons ⟨_, rfl⟩ (.cons ⟨_, rfl⟩ (.cons ⟨_, rfl⟩ (.nil)))⟩,
    ⟨⟨_, PySem.W.mg_of X G v_MOST_THROWS, ⟨_, rfl⟩⟩⟩,
    ⟨⟨_, PySem.W.mg_of X G v_MOST_SIGNS, ⟨_, rfl⟩⟩⟩,
    ⟨⟨_, PySem.W.mg_of X G v_MOST_WORTH, ⟨_, rfl⟩⟩⟩,
    ⟨⟨_, PySem.W.mg_of X G v_LANE_MOSTS, rfl⟩⟩,
    fun H => .inr ⟨_, _, _, w_LANE_MOSTS, rfl, rfl, (by show 3 ≤ sizeLine; decide), .cons ⟨_, rfl⟩ (.cons ⟨_, rfl⟩ (.cons ⟨_, rfl⟩ (.nil)))⟩,
    ⟨⟨_, PySem.W.mg_of X G v_MOST, ⟨_, rfl⟩⟩⟩,
    ⟨⟨_, PySem.W.mg_of X G v_MOST_UNITS, ⟨_, rfl⟩⟩⟩,
    ⟨⟨_, PySem.W.mg_of X G v_MOST_DEPTH, ⟨_, rfl⟩⟩⟩,
    ⟨⟨_, PySem.W.mg_of X G v_POINT, rfl⟩⟩,
    fun H => .inr ⟨_, _, _, w_POINT, rfl, rfl, (by show 1 ≤ sizeLine; decide), .cons ⟨_, rfl⟩ (.nil)⟩⟩⟩
section
variable {P : Program} {w : World} {K : PySem.W.Frag} {mg : Str → Option Value} {base : Heap}
theorem law_all {fa : Addr} {fd : FuncData} {p_DOWN_MOSTS p_LANE_MOSTS p_POINT : Addr} (F : Fun K "law" "law" s_law fa fd) (T : Txt K mg p_DOWN_MOSTS p_LANE_MOSTS p_POINT) : FnOk P w K mg base CX0 40 fa fd ["_law_script"] (spLaw K) := by
  have d0 : ∀ ns, Dn P w K mg base 1 "_law_draw" ["_law_tape_here", "_law_many"] (spDraw K ns) := fun ns => ok_law_draw T.F_law_draw T.m_len
  have ds : ∀ ns, Dn P w K mg base 1 "_law_draw" ["_law_tape_here", "_law_many"] (spDrawS K ns) := fun ns => ok_law_drawS T.F_law_draw T.m_len
  have dgr : ∀ ns, Dn P w K mg base 2 "_law_great" ["_law_tape_here"] (spGreat K ns) := fun ns => ok_law_great T.F_law_great (ds ns)
  have dnm : ∀ ns, Dn P w K mg base 3 "_law_names" ["_law_tape_here", "_law_many"] (spNames K ns) := fun ns => (ok_law_names T.F_law_names T.m_range (ds ns)).mono (by decide)
  have dtr : ∀ ns, Dn P w K mg base 3 "_law_throws" ["_law_tape_here", "_law_names_here", "_law_count"] (spThrows K ns) := fun ns => ok_law_throws T.F_law_throws T.m_tuple ((ds ns).mono (by decide)) (dgr ns)
  have ddw : ∀ ns, Dn P w K mg base 4 "_law_down" ["_law_tape_here"] (spDown K ns) := fun ns => ok_law_down T.F_law_down ((ds ns).mono (by decide)) ((dgr ns).mono (by decide)) (dnm ns) (dtr ns)
  have dlN : ∀ ns, Dn P w K mg base 2 "_law_lane" ["_law_tape_here"] (spLane K ns) := fun ns => ok_law_lane T.F_law_lane (ds ns)
  have drl : ∀ ns, Dn P w K mg base 20 "_law_rule" ["_law_tape_here", "_law_deep", "_law_thin"] (spRule K ns 5) := fun ns => (all_rule (k := 2) T.F_law_rule T.F_law_unit T.m_min ((d0 ns).mono (by decide))).mono (by decide)
  have dan : ∀ ns, Dn P w K mg base 21 "_law_any_rule" ["_law_tape_here"] (spAny K ns) := fun ns => ok_law_any_rule T.F_law_any_rule ((d0 ns).mono (by decide)) (drl ns)
  have dgm : ∀ ns, Dn P w K mg base 22 "_law_game" ["_law_tape_here"] (spGame K ns) := fun ns => ok_law_game T.F_law_game ((d0 ns).mono (by decide)) (dan ns) ((ddw ns).mono (by decide)) ((dlN ns).mono (by decide))
  have dth : ∀ ns, Dn P w K mg base 2 "_law_thing" ["_law_tape_here", "_law_kept"] (spThing K ns) := fun ns => ok_law_thing T.F_law_thing (ds ns)
  have dbe : ∀ ns, Dn P w K mg base 2 "_law_bent" ["_law_tape_here", "_law_rule_here"] (spBent K ns) := fun ns => ok_law_bent T.F_law_bent T.m_len T.m_list (d0 ns)
  have dsp : ∀ ns, Dn P w K mg base 23 "_law_spoilt" ["_law_tape_here", "_law_game_here"] (spSpoilt K ns) := fun ns => ok_law_spoilt T.F_law_spoilt T.m_list ((d0 ns).mono (by decide)) (dgm ns) ((dbe ns).mono (by decide))
  have dwh : Dn P w K mg base 1 "is_whole" ["thing", "least", "most"] (spWhole K) := ok_is_whole T.F_is_whole T.m_isinstance T.m_int T.m_bool
  have dwb : Dn P w K mg base 1 "is_whole" ["thing", "least", "most"] (spBounded K) := ok_is_wholeB T.F_is_whole T.m_isinstance T.m_int T.m_bool
  have dws : Dn P w K mg base 2 "are_wholes" ["things", "mosts"] (spWholes K) := ok_are_wholes T.F_are_wholes T.m_zip T.m_all dwh
  have din : Dn P w K mg base 1 "is_name" ["thing"] (spB K nmD) := ok_is_name T.F_is_name T.m_isinstance T.m_str T.m_len T.m_all T.g_MOST_SIGNS
  have dit : Dn P w K mg base 2 "is_throw" ["thing"] (spB K thD) := ok_is_throw T.F_is_throw T.m_isinstance T.m_tuple T.m_len T.g_MOST_WORTH din dwh
  have dat : Dn P w K mg base 3 "are_throws" ["thing"] (spB K thsD) := ok_are_throws T.F_are_throws T.m_isinstance T.m_tuple T.m_len T.m_all T.m_set T.g_MOST_THROWS dit
  have did : Dn P w K mg base 4 "is_down" ["thing"] (spB K downD) := ok_is_down T.F_is_down T.m_isinstance T.m_tuple T.m_len T.g_DOWN_MOSTS T.t_DOWN_MOSTS (dws.mono (by decide)) dat
  have dil : Dn P w K mg base 3 "is_lane" ["thing"] (spIsLane K) := ok_is_lane T.F_is_lane T.m_isinstance T.m_tuple T.m_len T.g_LANE_MOSTS T.t_LANE_MOSTS dws
  have dhf : Dn P w K mg base 2 "has_unit_form" ["thing"] (spForm K) := ok_has_unit_form T.F_has_unit_form T.m_isinstance T.m_tuple T.m_len T.g_MOST dwb
  have duo : Dn P w K mg base 7 "units_of" ["thing", "room"] (spUnits K 5) := all_units (k := 2) (n := 5) T.F_units_of T.g_POINT T.t_POINT dhf
  have dir : Dn P w K mg base 8 "is_rule" ["thing"] (spIsRule K) := ok_is_rule T.F_is_rule T.g_MOST_DEPTH T.g_MOST_UNITS duo
  have dig : Dn P w K mg base 9 "is_game" ["thing"] (spB K gameD) := ok_is_game T.F_is_game T.m_isinstance T.m_tuple T.m_len dir (did.mono (by decide)) (dil.mono (by decide))
  have dlu : Dn P w K mg base 1 "_law_number" ["_law_thing_here", "_law_low", "_law_high"] (spNumb K) := ok_law_number T.F_law_number T.m_isinstance T.m_int T.m_bool
  have dlU : Dn P w K mg base 6 "_law_units" ["_law_thing_here", "_law_around"] (spLU K 5) := all_law_units (k := 1) (n := 5) T.F_law_units T.m_isinstance T.m_tuple T.m_len dlu
  have dls : Dn P w K mg base 2 "_law_numbers" ["_law_thing_here", "_law_mosts"] (spNumbs K) := ok_law_numbers T.F_law_numbers T.m_all T.m_range dlu
  have dlt : Dn P w K mg base 2 "_law_is_throw" ["_law_thing_here"] (spB K thD) := ok_law_is_throw T.F_law_is_throw T.m_isinstance T.m_tuple T.m_str T.m_bool T.m_len T.m_min dlu
  have dju : Dn P w K mg base 7 "_law_judged" ["_law_thing_here"] (spB K gameD) := ok_law_judged T.F_law_judged T.m_isinstance T.m_tuple T.m_len T.m_all T.m_set dlU (dls.mono (by decide)) (dlt.mono (by decide))
  have dto : Dn P w K mg base 10 "_law_told" ["_law_thing_here"] (spTold K) := ok_law_told T.F_law_told T.m_isinstance T.m_bool T.m_repr (dju.mono (by decide)) dig
  have dpn : Dn P w K mg base 1 "played_now" ["rule", "zero", "one"] (spNow K) := ok_played_now T.F_played_now
  have dbg : Dn P w K mg base 13 "begun" ["rule"] (spBegun K 5) := (all_begun (k := 1) (n := 5) T.F_begun T.F_begun_within T.g_POINT T.t_POINT dpn).mono (by decide)
  have ddb : Dn P w K mg base 1 "down_begun" ["down"] (spDBegun K) := ok_down_begun T.F_down_begun
  have dlb : Dn P w K mg base 1 "lane_begun" ["lane"] (spLBegun K) := ok_lane_begun T.F_lane_begun
  have dfi : Dn P w K mg base 14 "first" ["game"] (spFirst K) := ok_first T.F_first dbg (ddb.mono (by decide)) (dlb.mono (by decide))
  have dso : Dn P w K mg base 1 "sides_of" ["game"] (spSides K) := ok_sides_of T.F_sides_of
  have dli : Dn P w K mg base 1 "_law_inner" ["_law_rule_here", "_law_zero", "_law_one"] (spNow K) := ok_law_inner T.F_law_inner
  have dlg : Dn P w K mg base 6 "_law_begun" ["_law_rule_here"] (spBegun K 5) := all_law_begun (k := 1) (n := 5) T.F_law_begun dli
  have dlf : Dn P w K mg base 7 "_law_first" ["_law_game_here"] (spFirst K) := ok_law_first T.F_law_first dlg
  have dal : Dn P w K mg base 21 "_law_alike" ["_law_due", "_law_found"] (spAl2 K 20) := all_law_al2 (k := 1) (n := 20) T.F_law_alike T.m_isinstance T.m_tuple T.m_list T.m_str T.m_len T.m_range T.m_int T.m_bool T.m_all
  exact ok_law (k := 39) F T.m_range (fun ns => (ok_law_tape T.F_law_tape T.m_len).mono (show 1 ≤ 39 by decide)) (fun ns => (dgm ns).mono (by decide)) (fun ns => (dth ns).mono (by decide)) (fun ns => (dsp ns).mono (by decide)) (dig.mono (by decide)) (dto.mono (by decide)) (dlf.mono (by decide)) (dfi.mono (by decide)) (dso.mono (by decide)) (dal.mono (by decide))
end
theorem walkL {l : PySem.W.OpenLaw} {q : Program} {loose : List Str} {XP : (Str → Option Value) → Heap → Prop} {YP : World → Heap → Prop} {d : DefRec} {K : Params → PySem.W.Frag} (hn : l.most = some 63) (hdf : d.params.defaults = [])
    (hY : ∀ (w : World) (h : Heap), YP w h → (K w.params).In h)
    (F : ∀ (w : World) (mg : Str → Option Value) (fa : Addr) (h : Heap), (K w.params).In h → h.Ns mainGlobals mg → mg d.name = some (.ref fa) →
      ∃ (fd : FuncData) (p_DOWN_MOSTS : Addr) (p_LANE_MOSTS : Addr) (p_POINT : Addr), (∀ (s : Shared) (v : Value), BindsTo s fd ⟨[v], []⟩ [("_law_script", v)]) ∧ Fun (K w.params) "law" "law" s_law fa fd ∧ Txt (K w.params) mg p_DOWN_MOSTS p_LANE_MOSTS p_POINT) :
    PySem.W.WalkO q loose XP YP l.row.toRowW d [] (fun f vs => PySem.call f vs) :=
  L2.walk_of (n := 63) (k := 40) (x := "_law_script") (CX := fun _ => CX0) (sp := fun w => spLaw (K w.params)) hn (by decide) hdf ⟨rfl, by decide, by decide, rfl⟩ hY (fun w mg fa h X G e => by
    obtain ⟨fd, p_DOWN_MOSTS, p_LANE_MOSTS, p_POINT, b, Fl, T⟩ := F w mg fa h X G e
    exact ⟨fd, b, fun base _ _ => law_all Fl T⟩) (fun _ _ a ns hl _ hS => ⟨a, ns, rfl, hS, hl, fun _ => rfl⟩) fun _ _ _ _ _ z => z
end My
open PySem PySem.W PyProof.Rows
set_option maxRecDepth 100000 in
set_option maxHeartbeats 0 in
theorem PySem.Challenge.cw_tally_k41_what_is_a_game_holds : PySem.Challenge.rw_tally_k41_what_is_a_game.Holds := by
  w_on; o_law; z_head; (case hw => w_witness2)
  k_fill
  refine L2.walkX (fun P => by kernel_rfl) (My.walkL (l := PySem.Challenge.rw_tally_k41_what_is_a_game) rfl rfl (fun w h Y => Y) ?F)
  case F =>
    intro w mg fa h KX G hmg
    refine' My.txt_mk KX G hmg ?a1 ?l1 ?c1 ?k1 ?a2 ?l2 ?c2 ?k2 ?a3 ?l3 ?c3 ?k3 ?a4 ?l4 ?c4 ?k4 ?a5 ?l5 ?c5 ?k5 ?a6 ?l6 ?c6 ?k6 ?a7 ?l7 ?c7 ?k7 ?a8 ?l8 ?c8 ?k8 ?a9 ?l9 ?c9 ?k9 ?a10 ?l10 ?c10 ?k10 ?a11 ?l11 ?c11 ?k11 ?a12 ?l12 ?c12 ?k12 ?a13 ?l13 ?c13 ?k13 ?a14 ?l14 ?c14 ?k14 ?a15 ?l15 ?c15 ?k15 ?a16 ?l16 ?c16 ?k16 ?a17 ?l17 ?c17 ?k17 ?a18 ?l18 ?c18 ?k18 ?a19 ?l19 ?c19 ?k19 ?a20 ?l20 ?c20 ?k20 ?a21 ?l21 ?c21 ?k21 ?a22 ?l22 ?c22 ?k22 ?a23 ?l23 ?c23 ?k23 ?a24 ?l24 ?c24 ?k24 ?a25 ?l25 ?c25 ?k25 ?a26 ?l26 ?c26 ?k26 ?a27 ?l27 ?c27 ?k27 ?a28 ?l28 ?c28 ?k28 ?a29 ?l29 ?c29 ?k29 ?a30 ?l30 ?c30 ?k30 ?a31 ?l31 ?c31 ?k31 ?a32 ?l32 ?c32 ?k32 ?a33 ?l33 ?c33 ?k33 ?a34 ?l34 ?c34 ?k34 ?a35 ?l35 ?c35 ?k35 ?a36 ?l36 ?c36 ?k36 ?a37 ?l37 ?c37 ?k37 ?a38 ?l38 ?c38 ?k38 ?a39 ?l39 ?c39 ?k39 ?a40 ?l40 ?c40 ?k40 ?a41 ?l41 ?c41 ?k41 ?a42 ?l42 ?c42 ?k42 ?a43 ?l43 ?c43 ?k43 ?z_all ?z_bool ?z_int ?z_isinstance ?z_len ?z_list ?z_min ?z_range ?z_repr ?z_set ?z_str ?z_tuple ?z_zip ?v_DOWN_MOSTS ?w_DOWN_MOSTS ?v_MOST_THROWS ?v_MOST_SIGNS ?v_MOST_WORTH ?v_LANE_MOSTS ?w_LANE_MOSTS ?v_MOST ?v_MOST_UNITS ?v_MOST_DEPTH ?v_POINT ?w_POINT
    (case a1 => k_is)
    (case l1 => k_is)
    (case c1 => k_is)
    (case k1 => k_is)
    (case a2 => k_is)
    (case l2 => k_is)
    (case c2 => k_is)
    (case k2 => k_is)
    (case a3 => k_is)
    (case l3 => k_is)
    (case c3 => k_is)
    (case k3 => k_is)
    (case a4 => k_is)
    (case l4 => k_is)
    (case c4 => k_is)
    (case k4 => k_is)
    (case a5 => k_is)
    (case l5 => k_is)
    (case c5 => k_is)
    (case k5 => k_is)
    (case a6 => k_is)
    (case l6 => k_is)
    (case c6 => k_is)
    (case k6 => k_is)
    (case a7 => k_is)
    (case l7 => k_is)
    (case c7 => k_is)
    (case k7 => k_is)
    (case a8 => k_is)
    (case l8 => k_is)
    (case c8 => k_is)
    (case k8 => k_is)
    (case a9 => k_is)
    (case l9 => k_is)
    (case c9 => k_is)
    (case k9 => k_is)
    (case a10 => k_is)
    (case l10 => k_is)
    (case c10 => k_is)
    (case k10 => k_is)
    (case a11 => k_is)
    (case l11 => k_is)
    (case c11 => k_is)
    (case k11 => k_is)
    (case a12 => k_is)
    (case l12 => k_is)
    (case c12 => k_is)
    (case k12 => k_is)
    (case a13 => k_is)
    (case l13 => k_is)
    (case c13 => k_is)
    (case k13 => k_is)
    (case a14 => k_is)
    (case l14 => k_is)
    (case c14 => k_is)
    (case k14 => k_is)
    (case a15 => k_is)
    (case l15 => k_is)
    (case c15 => k_is)
    (case k15 => k_is)
    (case a16 => k_is)
    (case l16 => k_is)
    (case c16 => k_is)
    (case k16 => k_is)
    (case a17 => k_is)
    (case l17 => k_is)
    (case c17 => k_is)
    (case k17 => k_is)
    (case a18 => k_is)
    (case l18 => k_is)
    (case c18 => k_is)
    (case k18 => k_is)
    (case a19 => k_is)
    (case l19 => k_is)
    (case c19 => k_is)
    (case k19 => k_is)
    (case a20 => k_is)
    (case l20 => k_is)
    (case c20 => k_is)
    (case k20 => k_is)
    (case a21 => k_is)
    (case l21 => k_is)
    (case c21 => k_is)
    (case k21 => k_is)
    (case a22 => k_is)
    (case l22 => k_is)
    (case c22 => k_is)
    (case k22 => k_is)
    (case a23 => k_is)
    (case l23 => k_is)
    (case c23 => k_is)
    (case k23 => k_is)
    (case a24 => k_is)
    (case l24 => k_is)
    (case c24 => k_is)
    (case k24 => k_is)
    (case a25 => k_is)
    (case l25 => k_is)
    (case c25 => k_is)
    (case k25 => k_is)
    (case a26 => k_is)
    (case l26 => k_is)
    (case c26 => k_is)
    (case k26 => k_is)
    (case a27 => k_is)
    (case l27 => k_is)
    (case c27 => k_is)
    (case k27 => k_is)
    (case a28 => k_is)
    (case l28 => k_is)
    (case c28 => k_is)
    (case k28 => k_is)
    (case a29 => k_is)
    (case l29 => k_is)
    (case c29 => k_is)
    (case k29 => k_is)
    (case a30 => k_is)
    (case l30 => k_is)
    (case c30 => k_is)
    (case k30 => k_is)
    (case a31 => k_is)
    (case l31 => k_is)
    (case c31 => k_is)
    (case k31 => k_is)
    (case a32 => k_is)
    (case l32 => k_is)
    (case c32 => k_is)
    (case k32 => k_is)
    (case a33 => k_is)
    (case l33 => k_is)
    (case c33 => k_is)
    (case k33 => k_is)
    (case a34 => k_is)
    (case l34 => k_is)
    (case c34 => k_is)
    (case k34 => k_is)
    (case a35 => k_is)
    (case l35 => k_is)
    (case c35 => k_is)
    (case k35 => k_is)
    (case a36 => k_is)
    (case l36 => k_is)
    (case c36 => k_is)
    (case k36 => k_is)
    (case a37 => k_is)
    (case l37 => k_is)
    (case c37 => k_is)
    (case k37 => k_is)
    (case a38 => k_is)
    (case l38 => k_is)
    (case c38 => k_is)
    (case k38 => k_is)
    (case a39 => k_is)
    (case l39 => k_is)
    (case c39 => k_is)
    (case k39 => k_is)
    (case a40 => k_is)
    (case l40 => k_is)
    (case c40 => k_is)
    (case k40 => k_is)
    (case a41 => k_is)
    (case l41 => k_is)
    (case c41 => k_is)
    (case k41 => k_is)
    (case a42 => k_is)
    (case l42 => k_is)
    (case c42 => k_is)
    (case k42 => k_is)
    (case a43 => k_is)
    (case l43 => k_is)
    (case c43 => k_is)
    (case k43 => k_is)
    (case z_all => k_is)
    (case z_bool => k_is)
    (case z_int => k_is)
    (case z_isinstance => k_is)
    (case z_len => k_is)
    (case z_list => k_is)
    (case z_min => k_is)
    (case z_range => k_is)
    (case z_repr => k_is)
    (case z_set => k_is)
    (case z_str => k_is)
    (case z_tuple => k_is)
    (case z_zip => k_is)
    (case v_DOWN_MOSTS => k_is)
    (case w_DOWN_MOSTS => k_is)
    (case v_MOST_THROWS => k_is)
    (case v_MOST_SIGNS => k_is)
    (case v_MOST_WORTH => k_is)
    (case v_LANE_MOSTS => k_is)
    (case w_LANE_MOSTS => k_is)
    (case v_MOST => k_is)
    (case v_MOST_UNITS => k_is)
    (case v_MOST_DEPTH => k_is)
    (case v_POINT => k_is)
    (case w_POINT => k_is)