import PyProof.Rows.All
import Wide.All
import OpenK.AllK
import Wide.FinOn
import Lean
import PyProof.EqAt
import PyProof.EqKinds
import PyProof.TupleCall
import PyProof.P3Eq
import PyProof.NeData
import PyProof.P3Statements
import PyProof.StrLawsChain
import PyProof.StrLawsTight
import PyProof.StrLawsReplace
import PyProof.FitsReplace
import KE.IntText
import PyProof.StrBlockL
import PyProof.ExcArgsOwn
import PyProof.ExcAttrAll.ValueError
import KE.KxWritten
import PyProof.ListRange
import PyProof.ZipIter
import PyProof.TupleIter
import PyProof.EnumFor
import PyProof.EnumMake
import PyProof.EnumStmt
import PyProof.WalkInts
import PyProof.SumWalkG
import PyProof.SeqI3
import PySem.Challenge.RW_tally_k46_whole_a_lane_bowled_out
set_option maxHeartbeats 4000000
set_option Elab.async false
set_option linter.all false
set_option maxRecDepth 100000
namespace L2
open PySem PySem.Spec PyProof.Rows
abbrev Key := Sum Int Str
def keyIs : Key → Value → Bool
  | .inl k, v => Value.isInt k v
  | .inr x, v => Value.isStrOf x v
def keyH (w : World) : Key → Int
  | .inl k => hashInt k
  | .inr x => hashStr w x
theorem keyIs_shape : ∀ {k : Key} {v : Value}, keyIs k v = true → (∃ i t, k = Sum.inl i ∧ v = Value.int i t) ∨ (∃ x t, k = Sum.inr x ∧ v = Value.str x t)
  | .inl i, v, h => by
    obtain ⟨t, e⟩ := Value.isInt_shape (k := i) (v := v) h
    exact .inl ⟨i, t, rfl, e⟩
  | .inr x, v, h => by
    obtain ⟨t, e⟩ := Value.isStrOf_shape (x := x) (v := v) h
    exact .inr ⟨x, t, rfl, e⟩
theorem key_ll (a b : Int) : decide ((Sum.inl a : Key) = Sum.inl b) = (a == b) := by
  by_cases e : a = b
  · subst e; simp
  · have h : ¬ (Sum.inl a : Key) = Sum.inl b := fun q => e (Sum.inl.inj q)
    rw [decide_eq_false h]
    exact (beq_eq_false_iff_ne.mpr e).symm
theorem key_rr (a b : Str) : decide ((Sum.inr a : Key) = Sum.inr b) = decide (a = b) := by
  by_cases e : a = b
  · subst e; simp
  · have h : ¬ (Sum.inr a : Key) = Sum.inr b := fun q => e (Sum.inr.inj q)
    rw [decide_eq_false h, decide_eq_false e]
theorem key_lr (a : Int) (b : Str) : decide ((Sum.inl a : Key) = Sum.inr b) = false := decide_eq_false (fun q => nomatch q)
theorem key_rl (a : Str) (b : Int) : decide ((Sum.inr a : Key) = Sum.inl b) = false := decide_eq_false (fun q => nomatch q)
def mixKind (prog : Program) (w : World) : PySem.KeyKind prog w Key where
  is := keyIs
  hash := keyH w
  inj := fun v a b ha hb => by
    rcases keyIs_shape ha with ⟨i, t, rfl, rfl⟩ | ⟨x, t, rfl, rfl⟩
    · rcases keyIs_shape hb with ⟨j, u, rfl, e⟩ | ⟨y, u, rfl, e⟩
      · injection e with e1 _; rw [e1]
      · exact nomatch e
    · rcases keyIs_shape hb with ⟨j, u, rfl, e⟩ | ⟨y, u, rfl, e⟩
      · exact nomatch e
      · injection e with e1 _; rw [e1]
  byValue := fun k v h => by
    rcases keyIs_shape h with ⟨i, t, rfl, rfl⟩ | ⟨x, t, rfl, rfl⟩ <;> rfl
  pyHash := fun hv h => by
    rcases keyIs_shape hv with ⟨i, t, rfl, rfl⟩ | ⟨x, t, rfl, rfl⟩
    · exact wpAny_pyHash_int h
    · exact wpAny_pyHash_str h
  eqBool := fun hu hv h => by
    rcases keyIs_shape hu with ⟨i, t, rfl, rfl⟩ | ⟨x, t, rfl, rfl⟩
    · rcases keyIs_shape hv with ⟨j, u, rfl, rfl⟩ | ⟨y, u, rfl, rfl⟩
      · rw [key_ll] at h; exact wpAny_eqBool_int h
      · rw [key_lr] at h; exact SeqAt.EqAt.int_str i t y u _ _ _ _ h
    · rcases keyIs_shape hv with ⟨j, u, rfl, rfl⟩ | ⟨y, u, rfl, rfl⟩
      · rw [key_rl] at h; exact SeqAt.EqAt.str_int x t j u _ _ _ _ h
      · rw [key_rr] at h; exact wpAny_eqBool_str h
  «strs» := fun k x t v h => by
    rcases keyIs_shape h with ⟨i, u, rfl, e⟩ | ⟨y, u, rfl, e⟩
    · exact nomatch e
    · injection e with e1 _
      subst e1
      cases v <;> rfl
end L2
namespace L2
open PySem PySem.Spec PyProof.Rows
inductive V where
  | non | bl (b : Bool) | int (i : Int) | str (x : Str) | byt (b : Array UInt8) | flt (b : UInt64) | ref (a : Addr) | ty (n : String)
  deriving DecidableEq
def RelV : V → Value → Prop
  | .non, u => u = Value.none
  | .bl b, u => u = Value.bool b
  | .int i, u => ∃ t, u = Value.int i t
  | .str x, u => ∃ t, u = Value.str x t
  | .byt b, u => ∃ t, u = Value.bytes b t
  | .flt b, u => ∃ t, u = Value.float b t
  | .ref a, u => u = Value.ref a
  | .ty n, u => u = Value.type n
abbrev Vals : List V → List Value → Prop := Paired RelV
theorem Vals.length {xs : List V} {us : List Value} (r : Vals xs us) : xs.length = us.length := Paired.length r
theorem Vals.get : ∀ {xs : List V} {us : List Value} {i : Nat} {x : V}, Vals xs us → xs[i]? = some x → ∃ u, us[i]? = some u ∧ RelV x u
  | _, _, _, _, .nil, e => by simp at e
  | _, _, 0, _, .cons r _, e => by simp at e; subst e; exact ⟨_, rfl, r⟩
  | _, _, i + 1, x, .cons _ t, e => by
    obtain ⟨u, h1, h2⟩ := Vals.get (i := i) (x := x) t (by simpa using e)
    exact ⟨u, by simpa using h1, h2⟩
theorem Vals.set {x : V} {u : Value} (r : RelV x u) : ∀ {xs : List V} {us : List Value} (i : Nat), Vals xs us → Vals (xs.set i x) (us.set i u)
  | _, _, _, .nil => .nil
  | _, _, 0, .cons _ t => .cons r t
  | _, _, i + 1, .cons q t => .cons q (Vals.set r i t)
theorem Vals.append : ∀ {xs ys : List V} {us ws : List Value}, Vals xs us → Vals ys ws → Vals (xs ++ ys) (us ++ ws)
  | _, _, _, _, .nil, s => s
  | _, _, _, _, .cons r t, s => .cons r (Vals.append t s)
theorem Vals.take : ∀ {xs : List V} {us : List Value} (n : Nat), Vals xs us → Vals (xs.take n) (us.take n)
  | _, _, 0, _ => .nil
  | _, _, _ + 1, .nil => .nil
  | _, _, n + 1, .cons r t => .cons r (Vals.take n t)
theorem Vals.drop : ∀ {xs : List V} {us : List Value} (n : Nat), Vals xs us → Vals (xs.drop n) (us.drop n)
  | _, _, 0, r => r
  | _, _, _ + 1, .nil => .nil
  | _, _, n + 1, .cons _ t => Vals.drop n t
def RelO : Option V → Option Value → Prop
  | some v, some u => RelV v u
  | none, none => True
  | _, _ => False
def KV {κ : Type} : List (κ × V) → List (κ × Value) → Prop := Paired fun (p : κ × V) (q : κ × Value) => p.1 = q.1 ∧ RelV p.2 q.2
def kV : Key → V
  | .inl i => .int i
  | .inr x => .str x
inductive HO where
  | lst (xs : List V)
  | tup (xs : List V)
  | dK (kvs : List (Key × V)) | dT (kvs : List (List Key × V))
  | set (S : Int → Bool) (n : Nat)
  | ins (C dx : Addr) (fs : List (Str × V))
  | own (x : Addr)
  | xd (fs : List (Str × V))
  | met (f x : Addr)
  | rng (lo hi : Int)
  | frz (o : Obj) (u : HO)
  | tbl (ps : Array Value)
  | ext (φ : Heap → Prop)
abbrev Hp := Addr → Option HO
def upd (H : Hp) (a : Addr) (o : HO) : Hp := fun b => if b = a then some o else H b
theorem upd_same {H : Hp} {a : Addr} {o : HO} : upd H a o a = some o := by unfold upd; rw [if_pos rfl]
theorem upd_ne {H : Hp} {a b : Addr} {o : HO} (h : b ≠ a) : upd H a o b = H b := by unfold upd; rw [if_neg h]
theorem ne_of_none {H : Hp} {a b : Addr} {o : HO} (h : H a = some o) (h' : H b = none) : a ≠ b := by
  intro e; subst e; rw [h] at h'; cases h'
section
variable (P : Program) (w : World)
def ObjOk (H : Hp) (h : Heap) (a : Addr) : HO → Prop
  | .lst xs => xs.length ≤ sizeLine ∧ ∃ (its : List Value) (n : Nat), Vals xs its ∧ h.get? a = some { cls := .type "list", data := .seq its.toArray n }
  | .tup xs => xs.length ≤ sizeLine ∧ ∃ its : List Value, Vals xs its ∧ IsTup h a its.toArray
  | .dK kvs => kvs.length ≤ sizeLine ∧ (a == sysModules) = false ∧ ∃ vs, KV kvs vs ∧ h.DictOf (mixKind P w) a vs
  | .dT kvs => kvs.length ≤ sizeLine ∧ (a == sysModules) = false ∧ ∃ xs : List (List Key × Addr × Value),
      Paired (fun (p : List Key × V) (q : List Key × Addr × Value) => p.1 = q.1 ∧ H q.2.1 = some (.tup (p.1.map kV)) ∧ RelV p.2 q.2.2) kvs xs ∧
      ∃ o es ep, h.get? a = some o ∧ o.ExactDict ∧ o.data = .dict es ep ∧ es.toList = xs.map (entryOfKey (tupleKind (mixKind P w))) ∧ (xs.map (·.1)).Nodup
  | .set S n => h.SetOf (intKind P w) a S n
  | .ins C dx fs => H dx = some (.own a) ∧ fs.length ≤ 1000 ∧ dx ≠ a ∧ h.get? a = some (PySem.W.instObj C dx) ∧
      ∃ mA, h.Ns1 dx mA ∧ (∀ f, RelO (fs.lookup f) (mA f)) ∧ PySem.Within mA (fs.map (·.1))
  | .own _ => ∃ o, h.get? a = some o
  | .xd fs => ∃ mA, h.Ns1 a mA ∧ ∀ f, RelO (fs.lookup f) (mA f)
  | .rng lo hi => ∃ t u v, h.get? a = some { cls := .type "range", data := .fields #[.int lo t, .int hi u, .int 1 v] }
  | .frz o u => h.get? a = some o ∧ ObjOk H h a u
  | .tbl ps => h.get? a = some { cls := .none, data := .fields ps }
  | .met f x => h.get? a = some (PySem.W.methodObj (.ref f) (.ref x))
  | .ext φ => φ h ∧ (∃ o, h.get? a = some o) ∧ ∀ h1 h2 : Heap, φ h1 → (∀ o, h1.get? a = some o → h2.get? a = some o) → φ h2
def HOk (H : Hp) (h : Heap) : Prop := ∀ a o, H a = some o → ObjOk P w H h a o
end
section
variable {P : Program} {w : World} {H H' : Hp} {h h' : Heap} {a : Addr} {o : HO}
theorem ObjOk.lt (x : ObjOk P w H h a o) : a < h.objs.size := by
  cases o with
  | lst xs => obtain ⟨_, _, _, _, e⟩ := x; exact Heap.lt_size e
  | tup xs => obtain ⟨_, _, _, p⟩ := x; exact p.lt
  | dK kvs => obtain ⟨_, _, _, _, o, _, _, e, _⟩ := x; exact Heap.lt_size e
  | dT kvs => obtain ⟨_, _, _, _, o, _, _, e, _⟩ := x; exact Heap.lt_size e
  | set S n => obtain ⟨o, _, _, _, e, _⟩ := x; exact Heap.lt_size e
  | ins C dx fs => obtain ⟨_, _, _, e, _⟩ := x; exact Heap.lt_size e
  | own y => obtain ⟨_, e⟩ := x; exact Heap.lt_size e
  | xd fs => obtain ⟨_, ⟨_, _, _, e, _⟩, _⟩ := x; exact Heap.lt_size e
  | rng lo hi => obtain ⟨_, _, _, e⟩ := x; exact Heap.lt_size e
  | frz ob u => obtain ⟨e, _⟩ := x; exact Heap.lt_size e
  | tbl ps => exact Heap.lt_size (show h.get? a = some _ from x)
  | met f y => exact Heap.lt_size (show h.get? a = some _ from x)
  | ext φ => obtain ⟨_, ⟨_, e⟩, _⟩ := x; exact Heap.lt_size e
theorem Paired.mapP {α β : Type} {F G : α → β → Prop} : ∀ {l₁ : List α} {l₂ : List β}, Paired F l₁ l₂ → (∀ a b, F a b → G a b) → Paired G l₁ l₂
  | _, _, .nil, _ => .nil
  | _, _, .cons r t, f => .cons (f _ _ r) (Paired.mapP t f)
theorem ObjOk.stay (x : ObjOk P w H h a o) (k : ∀ b u, (b = a ∨ H b = some (.own a)) → h.get? b = some u → h'.get? b = some u)
    (ho : ∀ b, H b = some (.own a) → H' b = some (.own a)) (ht : ∀ b xs, H b = some (.tup xs) → H' b = some (.tup xs)) : ObjOk P w H' h' a o := by
  induction o with
  | lst xs => obtain ⟨z, its, n, r, e⟩ := x; exact ⟨z, its, n, r, k _ _ (.inl rfl) e⟩
  | tup xs => obtain ⟨z, its, r, ob, e, c⟩ := x; exact ⟨z, its, r, ob, k _ _ (.inl rfl) e, c⟩
  | dK kvs => obtain ⟨z, y, vs, r, ob, es, ep, e, c⟩ := x; exact ⟨z, y, vs, r, ob, es, ep, k _ _ (.inl rfl) e, c⟩
  | dT kvs =>
    obtain ⟨z, y, xs, r, ob, es, ep, e, c⟩ := x
    exact ⟨z, y, xs, Paired.mapP r fun p q z => ⟨z.1, ht _ _ z.2.1, z.2.2⟩, ob, es, ep, k _ _ (.inl rfl) e, c⟩
  | set S n => obtain ⟨ob, es, ep, t, e, c⟩ := x; exact ⟨ob, es, ep, t, k _ _ (.inl rfl) e, c⟩
  | ins C dx fs =>
    obtain ⟨d, z, ne, e, mA, ⟨od, es, ep, e2, c⟩, r⟩ := x
    exact ⟨ho _ d, z, ne, k _ _ (.inl rfl) e, mA, ⟨od, es, ep, k _ _ (.inr d) e2, c⟩, r⟩
  | own y => obtain ⟨ob, e⟩ := x; exact ⟨ob, k _ _ (.inl rfl) e⟩
  | xd fs => obtain ⟨mA, ⟨od, es, ep, e, c⟩, r⟩ := x; exact ⟨mA, ⟨od, es, ep, k _ _ (.inl rfl) e, c⟩, r⟩
  | rng lo hi => obtain ⟨t, u, v, e⟩ := x; exact ⟨t, u, v, k _ _ (.inl rfl) e⟩
  | frz ob u ih => obtain ⟨e, q⟩ := x; exact ⟨k _ _ (.inl rfl) e, ih q⟩
  | tbl ps =>
    have e : h.get? a = some { cls := .none, data := .fields ps } := x
    show h'.get? a = some { cls := .none, data := .fields ps }
    exact k a _ (.inl rfl) e
  | met f y =>
    have e : h.get? a = some (PySem.W.methodObj (.ref f) (.ref y)) := x
    show h'.get? a = some (PySem.W.methodObj (.ref f) (.ref y))
    exact k a _ (.inl rfl) e
  | ext φ => obtain ⟨p, ⟨o, e⟩, st⟩ := x; exact ⟨st _ _ p fun o q => k _ _ (.inl rfl) q, ⟨o, k _ _ (.inl rfl) e⟩, st⟩
theorem HOk.lt (x : HOk P w H h) (e : H a = some o) : a < h.objs.size := (x a o e).lt
theorem HOk.fresh (x : HOk P w H h) (e : h.objs.size ≤ a) : H a = none := by
  cases q : H a with
  | none => rfl
  | some u => exact absurd (Nat.lt_of_lt_of_le (x.lt q) e) (Nat.lt_irrefl _)
theorem HOk.kept (x : HOk P w H h) (k : ∀ b u, h.get? b = some u → h'.get? b = some u) : HOk P w H h' := fun a o e =>
  (x a o e).stay (fun b u _ q => k b u q) (fun _ q => q) fun _ _ q => q
theorem HOk.laid (x : HOk P w H h) (k : ∀ b u, h.get? b = some u → h'.get? b = some u) (hp : h.objs.size ≤ a) (new : ObjOk P w (upd H a o) h' a o) : HOk P w (upd H a o) h' := fun b u e => by
  have hn := x.fresh hp
  by_cases hb : b = a
  · subst hb; rw [upd_same] at e; cases e; exact new
  · rw [upd_ne hb] at e
    exact (x b u e).stay (fun c v _ q => k c v q) (fun c q => by rw [upd_ne (ne_of_none q hn)]; exact q) fun c xs q => by rw [upd_ne (ne_of_none q hn)]; exact q
end
def Rd (H : Hp) (a : Addr) (u : HO) : Prop := H a = some u ∨ ∃ o, H a = some (.frz o u)
theorem Rd.of {H : Hp} {a : Addr} {u : HO} (h : H a = some u) : Rd H a u := .inl h
theorem Rd.ok {P : Program} {w : World} {H : Hp} {h : Heap} {a : Addr} {u : HO} (r : Rd H a u) (x : HOk P w H h) : ObjOk P w H h a u := by
  rcases r with r | ⟨o, r⟩
  · exact x a u r
  · obtain ⟨_, q⟩ := x a _ r
    exact q
def Mut : Option HO → Prop
  | some (.lst _) => True
  | some (.dK _) => True
  | some (.dT _) => True
  | some (.set _ _) => True
  | some (.ins _ _ _) => True
  | some (.ext _) => True
  | _ => False
section
variable {P : Program} {w : World} {H : Hp} {h h' : Heap} {x e : Addr} {o' : HO}
theorem HOk.write (ok : HOk P w H h) (mu : Mut (H x)) (he : e = x ∨ H e = some (.own x)) (k : ∀ b u, b ≠ e → h.get? b = some u → h'.get? b = some u) (heo : ∃ u, h'.get? e = some u)
    (new : ObjOk P w (upd H x o') h' x o') : HOk P w (upd H x o') h' := fun b u q => by
  have nown : ∀ c y, H c = some (.own y) → c ≠ x := fun c y r z => by subst z; rw [r] at mu; exact mu
  have ntup : ∀ c xs, H c = some (.tup xs) → c ≠ x := fun c xs r z => by subst z; rw [r] at mu; exact mu
  by_cases hb : b = x
  · subst hb; rw [upd_same] at q; cases q; exact new
  · rw [upd_ne hb] at q
    by_cases hbe : b = e
    · have q' : H b = some (.own x) := by
        rcases he with z | z
        · exact absurd (hbe.trans z) hb
        · rw [hbe]; exact z
      rw [q] at q'; cases q'
      obtain ⟨v, hv⟩ := heo
      exact ⟨v, by rw [hbe]; exact hv⟩
    · refine (ok b u q).stay (fun c v hc r => k c v ?_ r) (fun c r => by rw [upd_ne (nown c b r)]; exact r) fun c xs r => by rw [upd_ne (ntup c xs r)]; exact r
      rcases hc with rfl | hc
      · exact hbe
      · rintro rfl
        rcases he with z | z
        · exact nown c b hc z
        · rw [hc] at z; cases z; exact hb rfl
end
structure Un (fs ex : List Addr) (H H' : Hp) (h h' : Heap) : Prop where
  keep : ∀ b o, h.get? b = some o → H b = none → b ∉ fs → b ∉ ex → h'.get? b = some o
  slot : ∀ b o, h.get? b = some o → H b = none → b ∈ fs → b ∉ ex → ∃ sl, h'.get? b = some { o with slots := sl }
  free : ∀ b o, h.get? b = some o → H b = none → b ∉ ex → H' b = none
  there : ∀ b o, h.get? b = some o → b ∉ ex → ∃ o', h'.get? b = some o'
  tups : ∀ b xs, H b = some (.tup xs) → H' b = some (.tup xs)
  frzs : ∀ b o u, H b = some (.frz o u) → H' b = some (.frz o u)
  tbls : ∀ b ps, H b = some (.tbl ps) → ∃ more, H' b = some (.tbl (ps ++ more))
section
variable {fs fs' ex ex' : List Addr} {H H1 H2 : Hp} {h h1 h2 h' : Heap} {a x e : Addr} {o : HO}
theorem Un.any (u : Un fs ex H H1 h h1) {b : Addr} {ob : Obj} (q : h.get? b = some ob) (n : H b = none) (hx : b ∉ ex) : ∃ sl, h1.get? b = some { ob with slots := sl } := by
  by_cases hb : b ∈ fs
  · exact u.slot b ob q n hb hx
  · exact ⟨ob.slots, u.keep b ob q n hb hx⟩
theorem Un.trans (a : Un fs ex H H1 h h1) (b : Un fs ex H1 H2 h1 h2) : Un fs ex H H2 h h2 where
  keep := fun c ob q n hc hx => b.keep c ob (a.keep c ob q n hc hx) (a.free c ob q n hx) hc hx
  slot := fun c ob q n hc hx => by
    obtain ⟨sl, e1⟩ := a.slot c ob q n hc hx
    obtain ⟨sl', e2⟩ := b.slot c _ e1 (a.free c ob q n hx) hc hx
    exact ⟨sl', e2⟩
  free := fun c ob q n hx => by
    obtain ⟨o', e1⟩ := a.there c ob q hx
    exact b.free c o' e1 (a.free c ob q n hx) hx
  there := fun c ob q hx => by
    obtain ⟨o', e1⟩ := a.there c ob q hx
    exact b.there c o' e1 hx
  tups := fun c xs q => b.tups c xs (a.tups c xs q)
  frzs := fun c ob xs q => b.frzs c ob xs (a.frzs c ob xs q)
  tbls := fun c ps q => by
    obtain ⟨m1, e1⟩ := a.tbls c ps q
    obtain ⟨m2, e2⟩ := b.tbls c _ e1
    exact ⟨m1 ++ m2, by rw [e2, Array.append_assoc]⟩
theorem Un.kept (k : ∀ b u, h.get? b = some u → h'.get? b = some u) : Un fs ex H H h h' :=
  ⟨fun b ob q _ _ _ => k b ob q, fun b ob q _ _ _ => ⟨ob.slots, k b ob q⟩, fun _ _ _ n _ => n, fun b ob q _ => ⟨ob, k b ob q⟩, fun _ _ q => q, fun _ _ _ q => q, fun _ ps q => ⟨#[], by rw [q]; simp⟩⟩
theorem Un.refl : Un fs ex H H h h := Un.kept fun _ _ q => q
theorem Un.laid (k : ∀ b u, h.get? b = some u → h'.get? b = some u) (hp : h.objs.size ≤ a) (hn : H a = none) : Un fs ex H (upd H a o) h h' where
  keep := fun b u q _ _ _ => k b u q
  slot := fun b u q _ _ _ => ⟨u.slots, k b u q⟩
  free := fun b u q n _ => by rw [upd_ne (Nat.ne_of_lt (Nat.lt_of_lt_of_le (Heap.lt_size q) hp))]; exact n
  there := fun b u q _ => ⟨u, k b u q⟩
  tups := fun b xs q => by rw [upd_ne (ne_of_none q hn)]; exact q
  frzs := fun b u xs q => by rw [upd_ne (ne_of_none q hn)]; exact q
  tbls := fun b ps q => ⟨#[], by rw [upd_ne (ne_of_none q hn), q]; simp⟩
theorem Un.write (mu : Mut (H x)) (he : e = x ∨ H e = some (.own x)) (k : ∀ b u, b ≠ e → h.get? b = some u → h'.get? b = some u) (heo : ∃ u, h'.get? e = some u) : Un fs ex H (upd H x o) h h' := by
  have hx : ∀ b, H b = none → b ≠ x := fun b n z => by subst z; rw [n] at mu; exact mu
  have hb : ∀ b, H b = none → b ≠ e := fun b n z => by
    subst z
    rcases he with r | r
    · exact hx b n r
    · rw [n] at r; cases r
  have hm : ∀ b u, H b = some u → ¬ Mut (some u) → b ≠ x := fun b u q nm z => by subst z; rw [q] at mu; exact nm mu
  refine ⟨fun b u q n _ _ => k b u (hb b n) q, fun b u q n _ _ => ⟨u.slots, k b u (hb b n) q⟩, fun b u q n _ => by rw [upd_ne (hx b n)]; exact n, fun b u q _ => ?_,
    fun b xs q => by rw [upd_ne (hm b _ q fun z => z)]; exact q, fun b u xs q => by rw [upd_ne (hm b _ q fun z => z)]; exact q, fun b ps q => ⟨#[], by rw [upd_ne (hm b _ q fun z => z), q]; simp⟩⟩
  by_cases hbe : b = e
  · subst hbe; exact heo
  · exact ⟨u, k b u hbe q⟩
theorem Un.mono (u : Un fs ex H H1 h h1) (hs : ∀ b ∈ fs, b ∈ fs') (hx : ∀ b ∈ ex, b ∈ ex') : Un fs' ex' H H1 h h1 :=
  ⟨fun b ob q n hb he => u.keep b ob q n (fun z => hb (hs b z)) fun z => he (hx b z), fun _ _ q n _ he => u.any q n fun z => he (hx _ z), fun b ob q n he => u.free b ob q n fun z => he (hx b z), fun b ob q he => u.there b ob q fun z => he (hx b z), u.tups, u.frzs, u.tbls⟩
end
def trk (h : Heap) (H : Hp) : List Addr := (List.range h.objs.size).filter fun a => (H a).isSome
def hidT (h : Heap) (H : Hp) : Heap := PySem.W.hideAll h (trk h H)
theorem hidT_size (h : Heap) (H : Hp) : (hidT h H).objs.size = h.objs.size := PySem.W.hideAll_size _ _
theorem hidT_get {h : Heap} {H : Hp} {b : Addr} {o : Obj} (e : h.get? b = some o) (n : H b = none) : (hidT h H).get? b = some o :=
  PySem.W.hideAll_get _ e fun hm => by
    have q : (H b).isSome = true := (List.mem_filter.mp hm).2
    rw [n] at q; simp at q
theorem of_hidT {h : Heap} {H : Hp} {b : Addr} {o : Obj} (e : (hidT h H).get? b = some o) : h.get? b = some o ∧ H b = none := by
  have e' : h.get? b = some o := PySem.W.of_hideAll (trk h H) e
  refine ⟨e', ?_⟩
  cases q : H b with
  | none => rfl
  | some x =>
    have hm : b ∈ trk h H := List.mem_filter.mpr ⟨List.mem_range.mpr (Heap.lt_size e'), by simp [q]⟩
    have z : (hidT h H).get? b = none := PySem.W.hideAll_none (trk h H) hm
    rw [z] at e; cases e
def allNews (g h : Heap) (L : Addr) : List (Addr × Obj) := (List.range h.objs.size).filterMap fun a => if a = L ∨ (g.get? a).isSome = true then none else (h.get? a).map fun o => (a, o)
def rest (g h : Heap) (L d : Addr) : List (Addr × Obj) := (allNews g h L).filter fun p => decide (p.1 ≠ d)
end L2
namespace L2
open PySem PySem.Spec PyProof.Rows
structure Mod (K : PySem.W.Frag) (mg : Str → Option Value) (base : Heap) : Prop where
  kin : K.In base
  glob : base.Ns mainGlobals mg
  blt : ∃ mb, base.Ns builtinsNs mb ∧ ∀ x : Str, x ≠ "__name__" → mb x = bootBuiltins x
  nolimit : base.NoLimit
structure Cx where
  prog : Program
  w : World
  K : PySem.W.Frag
  mg : Str → Option Value
  base : Heap
  A : Around
  N : List Str
  s₀ : Shared
  H₀ : Hp
  env : Env
  outer : List Env
  stack : List Env
  ex : List Addr
  fn : Str → Bool
  calm : Bool
  pn : List (Addr × Obj)
  xe : Value → Shared → Prop
def frs (l : List Env) : List Addr := l.filterMap (·.frame)
abbrev Cx.fs (X : Cx) : List Addr := frs X.outer
def Vis (sc : Scope) (x : Str) : Prop := sc.names.lookup x = some .local ∨ sc.names.lookup x = some .cell ∨ sc.names.lookup x = some .free
def Loc (sc : Scope) (x : Str) : Prop := sc.names.lookup x = some .local ∨ sc.names.lookup x = some .cell
def Look (env : Env) (h : Heap) (m : Str → Option Value) (x : Str) (u : Value) : Prop :=
  (env.kindOf x = some .local ∧ m x = some u) ∨ ((env.kindOf x = some .cell ∨ env.kindOf x = some .free) ∧ ∃ c, env.cells.lookup x = some c ∧ h.IsCell c (some u))
structure Cx.Ok (X : Cx) : Prop where
  mod : Mod X.K X.mg X.base
  kind : X.env.scope.kind = .function
  glob : X.env.globals = mainGlobals
  blt : X.env.builtins = builtinsNs
  above : X.s₀.heap.objs.size ≤ X.env.locals
  inj : ∀ x y c, X.env.cells.lookup x = some c → X.env.cells.lookup y = some c → x = y
  has : ∀ x, (X.env.kindOf x = some .cell ∨ X.env.kindOf x = some .free) → ∃ c, X.env.cells.lookup x = some c
  cab : ∀ x c, X.fn x = true → X.env.cells.lookup x = some c → X.s₀.heap.objs.size ≤ c
  hd : X.calm = true → X.A.handled = none
  frames : X.A.frames = some X.stack
  stk : X.stack = X.outer ∨ (X.stack = X.env :: X.outer ∧ X.env.frame = some X.env.locals)
  exf : ∀ b ∈ X.ex, b ≠ X.env.locals ∧ ∀ x c, X.env.cells.lookup x = some c → c ≠ b
  bs : ∀ b o, X.base.get? b = some o → X.s₀.heap.get? b = some o ∧ X.H₀ b = none
  bsz : X.base.objs.size ≤ X.s₀.heap.objs.size
  noex : ∀ b o, X.base.get? b = some o → b ∉ X.ex
  exfs : ∀ b ∈ X.ex, b ∉ X.fs
  funs : X.s₀.heap.FunFrames X.base X.outer
  frf : ∀ b ∈ X.fs, X.H₀ b = none
structure Inv (X : Cx) (pins : List (Addr × Obj)) (σ : List (Option V)) (H : Hp) (s : Shared) : Prop where
  ok : X.Ok
  os : s.os = X.s₀.os
  bare : AllBare s.gens
  base : Un X.fs X.ex X.H₀ H X.s₀.heap s.heap
  loc : ∃ m, s.heap.Ns X.env.locals m ∧ ∀ (i : Nat) (x : Str) (v : V), X.N[i]? = some x → σ[i]? = some (some v) → Vis X.env.scope x → ∃ u, RelV v u ∧ Look X.env s.heap m x u
  cell : ∀ x c, X.env.cells.lookup x = some c → ∃ v, s.heap.IsCell c v
  free : H X.env.locals = none
  freeC : ∀ x c, X.env.cells.lookup x = some c → H c = none
  pin : ∀ p ∈ X.pn ++ pins, s.heap.get? p.1 = some p.2 ∧ H p.1 = none ∧ p.1 ≠ X.env.locals ∧ p.1 ∉ X.fs ∧ ∀ v, p.2.data ≠ .cell v
  hok : HOk X.prog X.w H s.heap
  len : σ.length = X.N.length
section
variable {X : Cx} {pins : List (Addr × Obj)} {σ : List (Option V)} {H H' : Hp} {s : Shared} {h' : Heap}
theorem Cx.Ok.nofr (ok : X.Ok) {b : Addr} {o : Obj} (e : X.base.get? b = some o) : b ∉ X.fs := fun hb => by
  have := (ok.funs.mem hb).1
  rw [e] at this; cases this
theorem Inv.bs (I : Inv X pins σ H s) : ∀ b o, X.base.get? b = some o → s.heap.get? b = some o ∧ H b = none := fun b o e =>
  ⟨I.base.keep b o (I.ok.bs b o e).1 (I.ok.bs b o e).2 (I.ok.nofr e) (I.ok.noex b o e), I.base.free b o (I.ok.bs b o e).1 (I.ok.bs b o e).2 (I.ok.noex b o e)⟩
theorem Inv.bk (I : Inv X pins σ H s) : ∀ b o, X.base.get? b = some o → s.heap.get? b = some o := fun b o e => (I.bs b o e).1
theorem Inv.mod (I : Inv X pins σ H s) : Mod X.K X.mg X.base := I.ok.mod
theorem Inv.kIn (I : Inv X pins σ H s) : X.K.In s.heap := I.ok.mod.kin.keeps I.bk
theorem Inv.nolimit (I : Inv X pins σ H s) : s.heap.NoLimit := I.ok.mod.nolimit.keeps I.bk
theorem Inv.fr (I : Inv X pins σ H s) : ∃ m, Fr X.base X.env.locals s.heap m :=
  let ⟨m, hn, _⟩ := I.loc
  ⟨m, hn, I.bk, Nat.le_trans I.ok.bsz I.ok.above⟩
theorem Inv.lt (I : Inv X pins σ H s) : X.env.locals < s.heap.objs.size := let ⟨_, hn, _⟩ := I.loc; hn.lt
theorem Inv.sz (I : Inv X pins σ H s) : X.s₀.heap.objs.size ≤ s.heap.objs.size := Nat.le_trans I.ok.above (Nat.le_of_lt I.lt)
theorem Inv.nofs (I : Inv X pins σ H s) {a : Addr} (h : s.heap.objs.size ≤ a) : a ∉ X.fs := fun hb => by
  obtain ⟨_, o, ho, _⟩ := I.ok.funs.mem hb
  exact absurd (Nat.lt_of_lt_of_le (Heap.lt_size ho) (Nat.le_trans I.sz h)) (Nat.lt_irrefl _)
theorem Inv.cne (I : Inv X pins σ H s) : ∀ x c, X.env.cells.lookup x = some c → c ≠ X.env.locals := fun x c e z => by
  obtain ⟨v, o, ho, hd⟩ := I.cell x c e
  obtain ⟨m, ⟨o', es, ep, ho', hd', _⟩, _⟩ := I.loc
  rw [z, ho'] at ho; cases ho; rw [hd'] at hd; cases hd
theorem Inv.funs (I : Inv X pins σ H s) : s.heap.FunFrames X.base X.outer := by
  have all : ∀ (l : List Env), (∀ b ∈ frs l, b ∈ X.fs) → X.s₀.heap.FunFrames X.base l → s.heap.FunFrames X.base l := by
    intro l
    induction l with
    | nil => intro _ _; trivial
    | cons env r ih =>
      intro hs hl
      obtain ⟨hk, ⟨L, o, hf, hn, ho, hd⟩, hr⟩ := hl
      have hL : L ∈ X.fs := hs L (by unfold frs; rw [List.filterMap_cons, hf]; exact List.mem_cons_self)
      obtain ⟨sl, e⟩ := I.base.slot L o ho (I.ok.frf L hL) hL fun z => I.ok.exfs L z hL
      exact ⟨hk, ⟨L, _, hf, hn, e, hd⟩, ih (fun b hb => hs b (by unfold frs; rw [List.filterMap_cons, hf]; exact List.mem_cons_of_mem _ hb)) hr⟩
  exact all X.outer (fun _ hb => hb) I.ok.funs
theorem Inv.stack (I : Inv X pins σ H s) : s.heap.FunFrames X.base X.stack := by
  rcases I.ok.stk with e | ⟨e, hf⟩
  · rw [e]; exact I.funs
  · rw [e]
    obtain ⟨m, hn, _⟩ := I.loc
    refine .cons (by rw [I.ok.kind]; decide) hf hn ?_ I.funs
    exact Heap.get?_none_of_le (Nat.le_trans I.ok.bsz I.ok.above)
theorem Inv.stkSub (I : Inv X pins σ H s) : ∀ b ∈ frs X.stack, b ∈ X.env.locals :: X.fs := fun b hb => by
  rcases I.ok.stk with e | ⟨e, hf⟩
  · rw [e] at hb; exact List.mem_cons_of_mem _ hb
  · rw [e] at hb
    unfold frs at hb
    rw [List.filterMap_cons, hf] at hb
    exact hb
theorem Inv.stkFree (I : Inv X pins σ H s) : ∀ b ∈ frs X.stack, H b = none := fun b hb => by
  rcases List.mem_cons.mp (I.stkSub b hb) with e | hb
  · rw [e]; exact I.free
  · obtain ⟨_, o, ho, _⟩ := I.ok.funs.mem hb
    exact I.base.free b o ho (I.ok.frf b hb) fun z => I.ok.exfs b z hb
theorem Inv.step {g' : Array GenState} {t' : Nat} {d' : Drawn} {ch : List Addr} (I : Inv X pins σ H s)
    (hch : ∀ b ∈ ch, (b ∈ X.ex ∨ X.s₀.heap.objs.size ≤ b) ∧ b ≠ X.env.locals ∧ (∀ x c, X.env.cells.lookup x = some c → c ≠ b) ∧ ∀ p ∈ X.pn ++ pins, p.1 ≠ b)
    (keep : ∀ b o, b ≠ X.env.locals → b ∉ X.fs → b ∉ ch → s.heap.get? b = some o → H b = none → h'.get? b = some o)
    (slot : ∀ b o, b ≠ X.env.locals → b ∈ X.fs → b ∉ ch → s.heap.get? b = some o → H b = none → ∃ sl, h'.get? b = some { o with slots := sl }) (free : ∀ b o, b ∉ ch → s.heap.get? b = some o → H b = none → H' b = none)
    (there : ∀ b o, b ∉ ch → s.heap.get? b = some o → ∃ o', h'.get? b = some o')
    (tups : ∀ b xs, H b = some (.tup xs) → H' b = some (.tup xs)) (frzs : ∀ b o u, H b = some (.frz o u) → H' b = some (.frz o u)) (tbls : ∀ b ps, H b = some (.tbl ps) → ∃ more, H' b = some (.tbl (ps ++ more)))
    (ns : ∀ m, s.heap.Ns X.env.locals m → h'.Ns X.env.locals m) (hok : HOk X.prog X.w H' h') (hg : AllBare g') :
    Inv X pins σ H' { s with heap := h', gens := g', drawn := d', toks := t' } := by
  have neL : ∀ b o, X.s₀.heap.get? b = some o → b ≠ X.env.locals := fun b o e => Nat.ne_of_lt (Nat.lt_of_lt_of_le (Heap.lt_size e) I.ok.above)
  have neC : ∀ b o, X.s₀.heap.get? b = some o → b ∉ X.ex → b ∉ ch := fun b o e hx hb => by
    rcases (hch b hb).1 with z | z
    · exact hx z
    · exact absurd (Nat.lt_of_lt_of_le (Heap.lt_size e) z) (Nat.lt_irrefl _)
  have cellK : ∀ x c, X.env.cells.lookup x = some c → ∀ v, s.heap.IsCell c v → h'.IsCell c v := fun x c e v ⟨o, ho, hd⟩ => by
    have nch : c ∉ ch := fun z => (hch c z).2.2.1 x c e rfl
    by_cases hc : c ∈ X.fs
    · obtain ⟨sl, q⟩ := slot c o (I.cne x c e) hc nch ho (I.freeC x c e)
      exact ⟨_, q, hd⟩
    · exact ⟨o, keep c o (I.cne x c e) hc nch ho (I.freeC x c e), hd⟩
  refine ⟨I.ok, I.os, hg, ⟨fun b o e n hb hx => ?_, fun b o e n hb hx => ?_, fun b o e n hx => ?_, fun b o e hx => ?_, fun b xs e => tups b xs (I.base.tups b xs e), fun b o xs e => frzs b o xs (I.base.frzs b o xs e), fun b ps e => ?_⟩, ?_, fun x c e => ?_, ?_, fun x c e => ?_, fun p hp => ?_, hok, I.len⟩
  · exact keep b o (neL b o e) hb (neC b o e hx) (I.base.keep b o e n hb hx) (I.base.free b o e n hx)
  · obtain ⟨sl, e1⟩ := I.base.slot b o e n hb hx
    obtain ⟨sl', e2⟩ := slot b _ (neL b o e) hb (neC b o e hx) e1 (I.base.free b o e n hx)
    exact ⟨sl', e2⟩
  · obtain ⟨o', e1⟩ := I.base.there b o e hx
    exact free b o' (neC b o e hx) e1 (I.base.free b o e n hx)
  · obtain ⟨o', e1⟩ := I.base.there b o e hx
    exact there b o' (neC b o e hx) e1
  · obtain ⟨m1, e1⟩ := I.base.tbls b ps e
    obtain ⟨m2, e2⟩ := tbls b _ e1
    exact ⟨m1 ++ m2, by rw [e2, Array.append_assoc]⟩
  · obtain ⟨m, hn, hl⟩ := I.loc
    refine ⟨m, ns m hn, fun i x v e1 e2 e3 => ?_⟩
    obtain ⟨u, r, l⟩ := hl i x v e1 e2 e3
    refine ⟨u, r, ?_⟩
    rcases l with l | ⟨k, c, e, z⟩
    · exact .inl l
    · exact .inr ⟨k, c, e, cellK x c e _ z⟩
  · obtain ⟨v, z⟩ := I.cell x c e
    exact ⟨v, cellK x c e v z⟩
  · obtain ⟨m, ⟨o, _, _, ho, _⟩, _⟩ := I.loc
    exact free _ o (fun z => (hch _ z).2.1 rfl) ho I.free
  · obtain ⟨v, o, ho, hd⟩ := I.cell x c e
    exact free c o (fun z => (hch c z).2.2.1 x c e rfl) ho (I.freeC x c e)
  · obtain ⟨e, n, ne, nf, d⟩ := I.pin p hp
    have nch : p.1 ∉ ch := fun z => (hch p.1 z).2.2.2 p hp rfl
    exact ⟨keep p.1 p.2 ne nf nch e n, free p.1 p.2 nch e n, ne, nf, d⟩
theorem Inv.un {t' : Nat} (I : Inv X pins σ H s) (u : Un X.fs [] H H' s.heap h') (hok : HOk X.prog X.w H' h') : Inv X pins σ H' { s with heap := h', toks := t' } := by
  obtain ⟨m, ⟨o, es, ep, ho, r⟩, _⟩ := id I.loc
  obtain ⟨sl, hL⟩ := u.any ho I.free (by simp)
  exact I.step (g' := s.gens) (d' := s.drawn) (ch := []) (fun _ z => nomatch z) (fun b o _ hb _ e n => u.keep b o e n hb (by simp)) (fun b o _ hb _ e n => u.slot b o e n hb (by simp)) (fun b o _ e n => u.free b o e n (by simp)) (fun b o _ e => u.there b o e (by simp)) u.tups u.frzs u.tbls (fun m' hm => by
    obtain ⟨o', es', ep', ho', r'⟩ := hm
    rw [ho] at ho'; cases ho'
    exact ⟨_, es', ep', hL, r'⟩) hok I.bare
theorem Inv.call {g' : Array GenState} {t' : Nat} {d' : Drawn} {ch : List Addr} (I : Inv X pins σ H s) (u : Un (frs X.stack) ch H H' s.heap h') (hok : HOk X.prog X.w H' h') (hg : AllBare g')
    (hch : ∀ b ∈ ch, (b ∈ X.ex ∨ X.s₀.heap.objs.size ≤ b) ∧ b ≠ X.env.locals ∧ (∀ x c, X.env.cells.lookup x = some c → c ≠ b) ∧ ∀ p ∈ X.pn ++ pins, p.1 ≠ b) :
    Inv X pins σ H' { s with heap := h', gens := g', drawn := d', toks := t' } := by
  obtain ⟨m, ⟨o, es, ep, ho, r⟩, _⟩ := id I.loc
  obtain ⟨sl, hL⟩ := u.any ho I.free fun z => (hch _ z).2.1 rfl
  exact I.step (ch := ch) hch (fun b o hL hb hc e n => u.keep b o e n (fun z => (List.mem_cons.mp (I.stkSub b z)).elim hL hb) hc) (fun b o _ _ hc e n => u.any e n hc) (fun b o hc e n => u.free b o e n hc) (fun b o hc e => u.there b o e hc) u.tups u.frzs u.tbls (fun m' hm => by
    obtain ⟨o', es', ep', ho', r'⟩ := hm
    rw [ho] at ho'; cases ho'
    exact ⟨_, es', ep', hL, r'⟩) hok hg
theorem Inv.turned {t' : Nat} {it : Addr} (I : Inv X pins σ H s) (k : ∀ b o, b ≠ it → s.heap.get? b = some o → h'.get? b = some o) (hn : H it = none) (hL : it ≠ X.env.locals)
    (h1 : it ∈ X.ex ∨ X.s₀.heap.objs.size ≤ it) (h2 : ∀ x c, X.env.cells.lookup x = some c → c ≠ it) (h3 : ∀ p ∈ X.pn ++ pins, p.1 ≠ it) : Inv X pins σ H { s with heap := h', toks := t' } := by
  have nit : ∀ b u, H b = some u → b ≠ it := fun b u e z => by rw [z, hn] at e; cases e
  refine I.step (g' := s.gens) (d' := s.drawn) (ch := [it]) (fun b hb => ?_) (fun b o _ _ hc e _ => k b o (fun z => hc (by simp [z])) e) (fun b o _ _ hc e _ => ⟨o.slots, k b o (fun z => hc (by simp [z])) e⟩) (fun _ _ _ _ n => n)
    (fun b o hc e => ⟨o, k b o (fun z => hc (by simp [z])) e⟩) (fun _ _ e => e) (fun _ _ _ e => e) (fun b ps e => ⟨#[], by rw [e]; simp⟩) (fun m hm => ?_) (fun b u e => ?_) I.bare
  · have e : b = it := by simpa using hb
    subst e
    exact ⟨h1, hL, h2, h3⟩
  · obtain ⟨o, es, ep, ho, r⟩ := hm
    exact ⟨o, es, ep, k _ o (Ne.symm hL) ho, r⟩
  · refine (I.hok b u e).stay (fun c v hc q => k c v ?_ q) (fun _ q => q) fun _ _ q => q
    rcases hc with z | z
    · rw [z]; exact nit b u e
    · exact nit c _ z
theorem Inv.tok (I : Inv X pins σ H s) (t : Nat) : Inv X pins σ H { s with toks := t } := I.un (h' := s.heap) (t' := t) Un.refl I.hok
theorem Inv.kept {t' : Nat} (I : Inv X pins σ H s) (k : ∀ b u, s.heap.get? b = some u → h'.get? b = some u) : Inv X pins σ H { s with heap := h', toks := t' } := I.un (Un.kept k) (I.hok.kept k)
theorem Inv.laid {a : Addr} {o : HO} {t' : Nat} (I : Inv X pins σ H s) (k : ∀ b u, s.heap.get? b = some u → h'.get? b = some u) (hp : s.heap.objs.size ≤ a) (new : ObjOk X.prog X.w (upd H a o) h' a o) :
    Inv X pins σ (upd H a o) { s with heap := h', toks := t' } := I.un (Un.laid k hp (I.hok.fresh hp)) (I.hok.laid k hp new)
theorem Inv.write {x e : Addr} {o : HO} {t' : Nat} (I : Inv X pins σ H s) (mu : Mut (H x)) (he : e = x ∨ H e = some (.own x)) (k : ∀ b u, b ≠ e → s.heap.get? b = some u → h'.get? b = some u) (heo : ∃ u, h'.get? e = some u)
    (new : ObjOk X.prog X.w (upd H x o) h' x o) : Inv X pins σ (upd H x o) { s with heap := h', toks := t' } := I.un (Un.write mu he k heo) (I.hok.write mu he k heo new)
theorem Inv.pins_of {pins' : List (Addr × Obj)} (I : Inv X pins σ H s) (h : ∀ p ∈ pins', s.heap.get? p.1 = some p.2 ∧ H p.1 = none ∧ p.1 ≠ X.env.locals ∧ p.1 ∉ X.fs ∧ ∀ v, p.2.data ≠ .cell v) : Inv X pins' σ H s :=
  ⟨I.ok, I.os, I.bare, I.base, I.loc, I.cell, I.free, I.freeC, fun p hp => (List.mem_append.mp hp).elim (fun z => I.pin p (List.mem_append_left _ z)) (h p), I.hok, I.len⟩
theorem nodup_ix {N : List Str} (hN : N.Nodup) {i j : Nat} {x : Str} (a : N[i]? = some x) (b : N[j]? = some x) : i = j := by
  obtain ⟨h1, e1⟩ := List.getElem?_eq_some_iff.mp a
  obtain ⟨h2, e2⟩ := List.getElem?_eq_some_iff.mp b
  exact (List.getElem_inj hN).mp (e1.trans e2.symm)
theorem store_ok2 {M : Model} {A : Around} {E : Value → Shared → Prop} {i : Nat} {x : Str} {v : V} {u : Value} {Q : Unit → Shared → Prop} (I : Inv X pins σ H s) (hN : X.N.Nodup) (hi : X.N[i]? = some x) (hx : Loc X.env.scope x) (r : RelV v u)
    (h : ∀ s', Inv X pins (σ.set i (some v)) H s' → (∃ a, Heap.SameBut a s.heap s'.heap ∧ (a = X.env.locals ∨ X.env.cells.lookup x = some a)) → Q () s') (hf : X.fn x = true ∨ X.env.scope.names.lookup x = some .local := by first | exact .inl rfl | exact .inr rfl | assumption) : wpAny M A (storeName X.env x u) Q E s := by
  obtain ⟨m, hn, hl⟩ := id I.loc
  have hcls : (X.env.scope.kind == .class || (X.env.scope.kind == .module && X.env.locals != X.env.globals)) = false := by rw [I.ok.kind]; rfl
  have hiσ : i < σ.length := by rw [I.len]; exact (List.getElem?_eq_some_iff.mp hi).1
  have cne := I.cne
  have tracked : ∀ {a : Addr} {h' : Heap}, (∃ o, s.heap.get? a = some o ∧ H a = none) → Heap.SameBut a s.heap h' → HOk X.prog X.w H h' := fun {a h'} ha hs b ob e => by
    obtain ⟨_, _, hfree⟩ := ha
    refine (I.hok b ob e).stay (fun c w' hc q => (hs.2 c ?_).trans q) (fun _ q => q) fun _ _ q => q
    rintro rfl
    rcases hc with rfl | hc
    · rw [hfree] at e; cases e
    · rw [hfree] at hc; cases hc
  rcases hx with hk | hk
  · refine wpAny_storeName_local hk hn (fun h' hn' hs => ?_) hcls
    obtain ⟨oL, _, _, hoL, _⟩ := id hn
    refine h _ ⟨I.ok, I.os, I.bare, ⟨fun b o e n hb hx => ?_, fun b o e n hb hx => ?_, I.base.free, fun b o e hx => ?_, I.base.tups, I.base.frzs, I.base.tbls⟩, ⟨_, hn', fun j y v' e1 e2 e3 => ?_⟩, fun y c e => ?_, I.free, I.freeC, fun p hp => ?_, tracked ⟨oL, hoL, I.free⟩ hs, by simpa using I.len⟩ ⟨_, hs, .inl rfl⟩
    · exact (hs.2 b (Nat.ne_of_lt (Nat.lt_of_lt_of_le (Heap.lt_size e) I.ok.above))).trans (I.base.keep b o e n hb hx)
    · obtain ⟨sl, e1⟩ := I.base.slot b o e n hb hx
      exact ⟨sl, (hs.2 b (Nat.ne_of_lt (Nat.lt_of_lt_of_le (Heap.lt_size e) I.ok.above))).trans e1⟩
    · obtain ⟨o', e1⟩ := I.base.there b o e hx
      exact ⟨o', (hs.2 b (Nat.ne_of_lt (Nat.lt_of_lt_of_le (Heap.lt_size e) I.ok.above))).trans e1⟩
    · by_cases hj : j = i
      · subst hj
        rw [hi] at e1; cases e1
        rw [List.getElem?_set_self hiσ] at e2
        cases e2
        exact ⟨u, r, .inl ⟨hk, by simp⟩⟩
      · rw [List.getElem?_set_ne (Ne.symm hj)] at e2
        obtain ⟨u', r', q⟩ := hl j y v' e1 e2 e3
        refine ⟨u', r', ?_⟩
        rcases q with ⟨k, e⟩ | ⟨k, c, e, z⟩
        · refine .inl ⟨k, ?_⟩
          have : y ≠ x := fun e => hj (nodup_ix hN e1 (e ▸ hi))
          simp [this, e]
        · exact .inr ⟨k, c, e, z.sameBut hs (cne y c e)⟩
    · obtain ⟨w', z⟩ := I.cell y c e
      exact ⟨w', z.sameBut hs (cne y c e)⟩
    · obtain ⟨e, n, ne, nf, d⟩ := I.pin p hp
      exact ⟨(hs.2 p.1 ne).trans e, n, ne, nf, d⟩
  · have hfn : X.fn x = true := by
      rcases hf with z | z
      · exact z
      · rw [z] at hk; cases hk
    obtain ⟨c, hc⟩ := I.ok.has x (.inl hk)
    obtain ⟨w', z⟩ := I.cell x c hc
    refine wpAny_storeName_cell I.ok.kind hk hc z (fun h' hc' hs => ?_)
    obtain ⟨oc, hoc, hocd⟩ := id z
    refine h { s with heap := h' } ⟨I.ok, I.os, I.bare, ⟨fun b o e n hb hx => ?_, fun b o e n hb hx => ?_, I.base.free, fun b o e hx => ?_, I.base.tups, I.base.frzs, I.base.tbls⟩, ⟨m, hn.sameBut hs (Ne.symm (cne x c hc)), fun j y v' e1 e2 e3 => ?_⟩, fun y c' e => ?_, I.free, I.freeC, fun p hp => ?_, tracked ⟨oc, hoc, I.freeC x c hc⟩ hs, by simpa using I.len⟩ ⟨c, hs, .inr hc⟩
    · exact (hs.2 b (Nat.ne_of_lt (Nat.lt_of_lt_of_le (Heap.lt_size e) (I.ok.cab x c hfn hc)))).trans (I.base.keep b o e n hb hx)
    · obtain ⟨sl, e1⟩ := I.base.slot b o e n hb hx
      exact ⟨sl, (hs.2 b (Nat.ne_of_lt (Nat.lt_of_lt_of_le (Heap.lt_size e) (I.ok.cab x c hfn hc)))).trans e1⟩
    · obtain ⟨o', e1⟩ := I.base.there b o e hx
      exact ⟨o', (hs.2 b (Nat.ne_of_lt (Nat.lt_of_lt_of_le (Heap.lt_size e) (I.ok.cab x c hfn hc)))).trans e1⟩
    · by_cases hj : j = i
      · subst hj
        rw [hi] at e1; cases e1
        rw [List.getElem?_set_self hiσ] at e2
        cases e2
        exact ⟨u, r, .inr ⟨.inl hk, c, hc, hc'⟩⟩
      · rw [List.getElem?_set_ne (Ne.symm hj)] at e2
        obtain ⟨u', r', q⟩ := hl j y v' e1 e2 e3
        refine ⟨u', r', ?_⟩
        rcases q with q | ⟨k, c', e, z'⟩
        · exact .inl q
        · refine .inr ⟨k, c', e, z'.sameBut hs ?_⟩
          rintro rfl
          exact hj (nodup_ix hN e1 (I.ok.inj _ _ _ e hc ▸ hi))
    · by_cases hcc : c' = c
      · subst hcc; exact ⟨_, hc'⟩
      · obtain ⟨w2, z2⟩ := I.cell y c' e
        exact ⟨w2, z2.sameBut hs hcc⟩
    · obtain ⟨e, n, ne, nf, d⟩ := I.pin p hp
      refine ⟨(hs.2 p.1 ?_).trans e, n, ne, nf, d⟩
      intro q
      rw [q, hoc] at e
      have q' : oc = p.2 := Option.some.inj e
      exact d w' (by rw [← q']; exact hocd)
theorem store_ok {M : Model} {A : Around} {E : Value → Shared → Prop} {i : Nat} {x : Str} {v : V} {u : Value} {Q : Unit → Shared → Prop} (I : Inv X pins σ H s) (hN : X.N.Nodup) (hi : X.N[i]? = some x) (hx : Loc X.env.scope x) (r : RelV v u)
    (h : ∀ s', Inv X pins (σ.set i (some v)) H s' → Q () s') (hf : X.fn x = true ∨ X.env.scope.names.lookup x = some .local := by first | exact .inl rfl | exact .inr rfl | assumption) : wpAny M A (storeName X.env x u) Q E s :=
  store_ok2 I hN hi hx r (fun s' I' _ => h s' I') hf
theorem Inv.call' {s' : Shared} {ch : List Addr} (I : Inv X pins σ H s) (ho : s'.os = s.os) (u : Un (frs X.stack) ch H H' s.heap s'.heap) (hok : HOk X.prog X.w H' s'.heap) (hg : AllBare s'.gens)
    (hch : ∀ b ∈ ch, (b ∈ X.ex ∨ X.s₀.heap.objs.size ≤ b) ∧ b ≠ X.env.locals ∧ (∀ x c, X.env.cells.lookup x = some c → c ≠ b) ∧ ∀ p ∈ X.pn ++ pins, p.1 ≠ b) : Inv X pins σ H' s' := by
  obtain ⟨h', g', d', t', o'⟩ := s'
  have e : o' = s.os := ho
  subst e
  exact I.call (g' := g') (t' := t') (d' := d') u hok hg hch
end
abbrev XK := Value → Option Addr → Hp → Prop
abbrev St := List (Option V)
abbrev VK := V → Hp → Prop
abbrev TE := St → Hp → VK → Prop
abbrev TT := St → Hp → (Bool → Hp → Prop) → Prop
abbrev TA := St → Hp → (List V → Hp → Prop) → Prop
structure Ends where
  nx : St → Hp → Prop
  rt : VK
  bk : St → Hp → Prop := fun _ _ => False
  ct : St → Hp → Prop := fun _ _ => False
abbrev TS := Ends → St → Hp → Prop
def EP (X : Cx) (pins : List (Addr × Obj)) (σ : St) (Q : VK) (u : Value) (s' : Shared) : Prop := ∃ v H', Inv X pins σ H' s' ∧ RelV v u ∧ Q v H'
def TP (X : Cx) (pins : List (Addr × Obj)) (σ : St) (Q : Bool → Hp → Prop) (b : Bool) (s' : Shared) : Prop := ∃ H', Inv X pins σ H' s' ∧ Q b H'
def AP (X : Cx) (pins : List (Addr × Obj)) (σ : St) (Q : List V → Hp → Prop) (us : List Value) (s' : Shared) : Prop := ∃ vs H', Inv X pins σ H' s' ∧ Vals vs us ∧ Q vs H'
def SP (X : Cx) (pins : List (Addr × Obj)) (D : Ends) (f : Flow) (s' : Shared) : Prop :=
  match f with
  | .next => ∃ σ' H', Inv X pins σ' H' s' ∧ D.nx σ' H'
  | .brk => ∃ σ' H', Inv X pins σ' H' s' ∧ D.bk σ' H'
  | .cont => ∃ σ' H', Inv X pins σ' H' s' ∧ D.ct σ' H'
  | .ret u => ∃ v σ' H', Inv X pins σ' H' s' ∧ RelV v u ∧ D.rt v H'
def PE (X : Cx) (e : Expr) (t : TE) : Prop :=
  ∀ (pins : List (Addr × Obj)) (s : Shared) (σ : St) (H : Hp) (Q : VK), Inv X pins σ H s → t σ H Q → wpAny (model X.prog X.w) X.A (eval e X.env) (EP X pins σ Q) X.xe s
def PT (X : Cx) (e : Expr) (t : TT) : Prop :=
  ∀ (pins : List (Addr × Obj)) (s : Shared) (σ : St) (H : Hp) (Q : Bool → Hp → Prop), Inv X pins σ H s → t σ H Q → wpAny (model X.prog X.w) X.A (isTrue e X.env (eval e X.env)) (TP X pins σ Q) X.xe s
def PW (X : Cx) (e : Expr) (t : TT) : Prop :=
  ∀ (whole : Sem Value) (pins : List (Addr × Obj)) (s : Shared) (σ : St) (H : Hp) (Q : Bool → Hp → Prop), Inv X pins σ H s → t σ H Q → wpAny (model X.prog X.w) X.A (isTrue e X.env whole) (TP X pins σ Q) X.xe s
theorem PW.pt {X : Cx} {e : Expr} {t : TT} (h : PW X e t) : PT X e t := h _
def PA (X : Cx) (es : List Expr) (t : TA) : Prop :=
  ∀ (pos : Pos) (pins : List (Addr × Obj)) (s : Shared) (σ : St) (H : Hp) (Q : List V → Hp → Prop), Inv X pins σ H s → t σ H Q → wpAny (model X.prog X.w) X.A (spliced (backTo pos (starEach es X.env))) (AP X pins σ Q) X.xe s
def PS (X : Cx) (st : Stmt) (t : TS) : Prop :=
  ∀ (pins : List (Addr × Obj)) (s : Shared) (σ : St) (H : Hp) (D : Ends), Inv X pins σ H s → t D σ H → wpAny (model X.prog X.w) X.A (exec st X.env) (SP X pins D) X.xe s
def PSs (X : Cx) (st : List Stmt) (t : TS) : Prop :=
  ∀ (pins : List (Addr × Obj)) (s : Shared) (σ : St) (H : Hp) (D : Ends), Inv X pins σ H s → t D σ H → wpAny (model X.prog X.w) X.A (execs st X.env) (SP X pins D) X.xe s
theorem thn {α : Type} {t : Sem α} {Q Q' : α → Shared → Prop} {M : Model} {A : Around} {E : Value → Shared → Prop} {s : Shared} (h : wpAny M A t Q E s) (hQ : ∀ a s, Q a s → Q' a s) : wpAny M A t Q' E s := wpAny_mono h hQ fun _ _ x => x
end L2
namespace L2
open PySem PySem.Spec PyProof.Rows
section
variable {X : Cx}
def tVar (i : Nat) : TE := fun σ H Q => ∃ v, σ[i]? = some (some v) ∧ Q v H
def tC (v : V) : TE := fun _ H Q => Q v H
theorem pe_var {i : Nat} {x : Str} {pos : Pos} (hN : X.N[i]? = some x) (hv : Vis X.env.scope x) (hd : (x == ("__debug__" : Str)) = false := by decide) (hcd : (x == ("__classdict__" : Str)) = false := by decide) : PE X (.Name x pos) (tVar i) := by
  intro pins s σ H Q I h
  obtain ⟨v, e, h⟩ := h
  obtain ⟨m, hn, hl⟩ := I.loc
  obtain ⟨u, r, l⟩ := hl i x v hN e hv
  have fin : EP X pins σ Q u s := ⟨v, H, I, r, h⟩
  rcases l with ⟨hk, hm⟩ | ⟨hk, c, hc, hcell⟩
  · exact wpAny_Name (wpAny_loadName_local I.ok.kind hk hn hm fin) hd
  · rcases hk with hk | hk
    · exact wpAny_Name (wpAny_loadName_cell I.ok.kind hk hc hcell fin) hd
    · exact wpAny_Name (wpAny_loadName_free I.ok.kind hk hc hcell fin hcd) hd
theorem pe_int {i j pos} : PE X (.Constant (.int i) j pos) (tC (.int i)) := fun _ _ _ H _ I h => wpAny_Constant_int ⟨.int i, H, I.tok _, ⟨_, rfl⟩, h⟩
theorem pe_bl {b j pos} : PE X (.Constant (.bool b) j pos) (tC (.bl b)) := fun _ _ _ H _ I h => Constant_bool ⟨.bl b, H, I, rfl, h⟩
theorem pe_non {j pos} : PE X (.Constant .none j pos) (tC .non) := fun _ _ _ H _ I h => Constant_none ⟨.non, H, I, rfl, h⟩
def Gl (X : Cx) (x : Str) : Prop := X.env.kindOf x = some .globalImplicit
theorem ld_glob {E : Value → Shared → Prop} {pins : List (Addr × Obj)} {s : Shared} {σ : St} {H : Hp} {x : Str} {u : Value} {pos : Pos} {Q : Value → Shared → Prop} (I : Inv X pins σ H s) (hg : Gl X x) (hm : X.mg x = some u) (h : Q u s)
    (hd : (x == ("__debug__" : Str)) = false := by decide) : wpAny (model X.prog X.w) X.A (eval (.Name x pos) X.env) Q E s :=
  Calls.Name_function_global I.ok.kind hg (Calls.loadGlobal_global (by rw [I.ok.glob]; exact I.mod.glob.keeps I.bk) hm h) hd
theorem ld_blt {E : Value → Shared → Prop} {pins : List (Addr × Obj)} {s : Shared} {σ : St} {H : Hp} {x : Str} {u : Value} {pos : Pos} {Q : Value → Shared → Prop} (I : Inv X pins σ H s) (hg : Gl X x) (hm : X.mg x = none) (hv : bootBuiltins x = some u) (h : Q u s)
    (hn : x ≠ "__name__" := by decide) (hd : (x == ("__debug__" : Str)) = false := by decide) : wpAny (model X.prog X.w) X.A (eval (.Name x pos) X.env) Q E s := by
  obtain ⟨mb, h1, h2⟩ := I.mod.blt
  exact Calls.Name_function_global I.ok.kind hg (Calls.loadGlobal_builtin (by rw [I.ok.glob]; exact I.mod.glob.keeps I.bk) hm (by rw [I.ok.blt]; exact h1.keeps I.bk) ((h2 x hn).trans hv) h) hd
theorem pe_bltn {x : Str} {v : V} {u : Value} {pos : Pos} (hg : Gl X x) (hm : X.mg x = none) (hv : bootBuiltins x = some u) (r : RelV v u) (hn : x ≠ "__name__" := by decide) (hd : (x == ("__debug__" : Str)) = false := by decide) : PE X (.Name x pos) (tC v) :=
  fun _ _ _ H _ I h => ld_blt I hg hm hv ⟨v, H, I, r, h⟩ hn hd
def t2I (ta tb : TE) (k : Int → Int → Hp → Prop) : St → Hp → Prop := fun σ H => ta σ H fun x H1 => tb σ H1 fun y H2 => ∃ i j, x = .int i ∧ y = .int j ∧ k i j H2
def tAdd (ta tb : TE) : TE := fun σ H Q => t2I ta tb (fun i j H2 => Q (.int (i + j)) H2) σ H
def tSub (ta tb : TE) : TE := fun σ H Q => t2I ta tb (fun i j H2 => Q (.int (i - j)) H2) σ H
def tMul (ta tb : TE) : TE := fun σ H Q => t2I ta tb (fun i j H2 => (-(2 ^ 64) < i ∧ i < 2 ^ 64) ∧ Q (.int (i * j)) H2) σ H
variable {a b : Expr} {ta tb : TE} {pos : Pos}
def PC (X : Cx) (op : CmpOp) (a b : Expr) (t : TE) : Prop :=
  ∀ (pins : List (Addr × Obj)) (s : Shared) (σ : St) (H : Hp) (Q : VK), Inv X pins σ H s → t σ H Q →
    wpAny (model X.prog X.w) X.A (eval a X.env) (fun v s₁ => wpAny (model X.prog X.w) X.A (eval b X.env) (fun u s₂ => wpAny (model X.prog X.w) X.A (compareOp op v u) (EP X pins σ Q) X.xe s₂) X.xe s₁) X.xe s
def tCmp (p : Int → Int → Bool) (ta tb : TE) : TE := fun σ H Q => t2I ta tb (fun i j H2 => Q (.bl (p i j)) H2) σ H
abbrev tLt : TE → TE → TE := tCmp fun i j => decide (i < j)
abbrev tLe : TE → TE → TE := tCmp fun i j => decide (i ≤ j)
abbrev tGt : TE → TE → TE := tCmp fun i j => decide (j < i)
abbrev tGe : TE → TE → TE := tCmp fun i j => decide (j ≤ i)
abbrev tEqI : TE → TE → TE := tCmp fun i j => decide (i = j)
abbrev tNeI : TE → TE → TE := tCmp fun i j => !decide (i = j)
def tIsN (ta : TE) : TE := fun σ H Q => ta σ H fun x H1 => Q (.bl (decide (x = .non))) H1
def tNotN (ta : TE) : TE := fun σ H Q => ta σ H fun x H1 => Q (.bl (!decide (x = .non))) H1
def tB (t : TE) : TT := fun σ H Q => t σ H fun x H1 => ∃ c, x = .bl c ∧ Q c H1
theorem pt_val {e : Expr} {t : TE} (h : PE X e t) (he : ∀ whole, isTrue e X.env whole = (do let v ← whole; standAt e.pos; holding [v] (truthy v)) := by intro _; rfl) : PT X e (tB t) := by
  intro pins s σ H Q I hw
  refine isTrue_plain (thn (h pins s σ H _ I hw) fun v s1 ⟨x, H1, I1, r1, q1⟩ => ?_) (he _)
  obtain ⟨d, rfl, q⟩ := q1
  cases r1
  exact wpAny_truthy_bool ⟨H1, I1, q⟩
variable {tA tB' : TT} {rest : List Expr}
def tAnd (t u : TT) : TT := fun σ H Q => t σ H fun c H1 => if c = true then u σ H1 Q else Q false H1
def tOr (t u : TT) : TT := fun σ H Q => t σ H fun c H1 => if c = true then Q true H1 else u σ H1 Q
def tNot (t : TT) : TT := fun σ H Q => t σ H fun c H1 => Q (!c) H1
theorem pw_and1 (ha : PT X a tA) : PW X (.BoolOp .And [a] pos) tA := by
  intro wh pins s σ H Q I h
  refine isTrue_and (thn (ha pins s σ H Q I h) fun c s1 e => ?_)
  cases c with
  | true => exact isTrue_and_nil e
  | false => exact e
theorem pw_or1 (ha : PT X a tA) : PW X (.BoolOp .Or [a] pos) tA := by
  intro wh pins s σ H Q I h
  refine isTrue_or (thn (ha pins s σ H Q I h) fun c s1 e => ?_)
  cases c with
  | false => exact isTrue_or_nil e
  | true => exact e
theorem pw_and (ha : PT X a tA) (hb : PW X (.BoolOp .And (b :: rest) pos) tB') : PW X (.BoolOp .And (a :: b :: rest) pos) (tAnd tA tB') := by
  intro wh pins s σ H Q I h
  refine isTrue_and (thn (ha pins s σ H _ I h) fun c s1 ⟨H1, I1, q1⟩ => ?_)
  cases c with
  | true => exact hb wh pins s1 σ H1 Q I1 q1
  | false => exact ⟨H1, I1, q1⟩
theorem pw_or (ha : PT X a tA) (hb : PW X (.BoolOp .Or (b :: rest) pos) tB') : PW X (.BoolOp .Or (a :: b :: rest) pos) (tOr tA tB') := by
  intro wh pins s σ H Q I h
  refine isTrue_or (thn (ha pins s σ H _ I h) fun c s1 ⟨H1, I1, q1⟩ => ?_)
  cases c with
  | true => exact ⟨H1, I1, q1⟩
  | false => exact hb wh pins s1 σ H1 Q I1 q1
theorem pt_not (ha : PT X a tA) : PT X (.UnaryOp .Not a pos) (tNot tA) := by
  intro pins s σ H Q I h
  exact isTrue_not (ha pins s σ H (fun c H1 => Q (!c) H1) I h)
def tAndV (ta tb : TE) : TE := fun σ H Q => ta σ H fun x H1 => ∃ c, x = .bl c ∧ if c = true then tb σ H1 Q else Q (.bl false) H1
def tOrV (ta tb : TE) : TE := fun σ H Q => ta σ H fun x H1 => ∃ c, x = .bl c ∧ if c = true then Q (.bl true) H1 else tb σ H1 Q
def tNotV (ta : TE) : TE := fun σ H Q => ta σ H fun x H1 => ∃ c, x = .bl c ∧ Q (.bl (!c)) H1
theorem pe_one {op} {t : TE} (h : PE X a t) : PE X (.BoolOp op [a] pos) t := fun pins s σ H Q I hw => BoolOp_one (h pins s σ H Q I hw)
theorem pe_and (ha : PE X a ta) (hb : PE X (.BoolOp .And (b :: rest) pos) tb) : PE X (.BoolOp .And (a :: b :: rest) pos) (tAndV ta tb) := by
  intro pins s σ H Q I h
  refine BoolOp_and (thn (ha pins s σ H _ I h) fun v s1 ⟨x, H1, I1, r1, q1⟩ => ?_)
  obtain ⟨c, rfl, q1⟩ := q1
  cases r1
  refine wpAny_truthy_bool ?_
  cases c with
  | true => exact hb pins s1 σ H1 Q I1 q1
  | false => exact ⟨.bl false, H1, I1, rfl, q1⟩
theorem pe_not (ha : PE X a ta) : PE X (.UnaryOp .Not a pos) (tNotV ta) := by
  intro pins s σ H Q I h
  refine UnaryOp_ (thn (ha pins s σ H _ I h) fun v s1 ⟨x, H1, I1, r1, q1⟩ => ?_)
  obtain ⟨c, rfl, q1⟩ := q1
  cases r1
  exact not_of (wpAny_truthy_bool ⟨.bl (!c), H1, I1, rfl, q1⟩)
def tIf (t : TT) (ta tb : TE) : TE := fun σ H Q => t σ H fun c H1 => if c = true then ta σ H1 Q else tb σ H1 Q
theorem pe_ifExp {c : Expr} (hc : PT X c tA) (ha : PE X a ta) (hb : PE X b tb) : PE X (.IfExp c a b pos) (tIf tA ta tb) := by
  intro pins s σ H Q I h
  refine wpAny_IfExp (thn (hc pins s σ H _ I h) fun d s1 ⟨H1, I1, q1⟩ => ?_)
  cases d with
  | true => exact ha pins s1 σ H1 Q I1 q1
  | false => exact hb pins s1 σ H1 Q I1 q1
end
end L2
namespace L2
open PySem PySem.Spec PyProof.Rows
def SqL (K : PySem.W.Frag) (H : Hp) (a : Addr) (xs : List V) : Prop :=
  Rd H a (.lst xs) ∨
    ∃ (o : Obj) (its : Array Value) (n : Nat), K.lookup a = some o ∧ o.cls = .type "list" ∧ o.dict = none ∧ o.data = .seq its n ∧ its.size ≤ sizeLine ∧ Vals xs its.toList
def SqT (K : PySem.W.Frag) (H : Hp) (a : Addr) (xs : List V) : Prop :=
  Rd H a (.tup xs) ∨
    ∃ (o : Obj) (its : Array Value) (n : Nat), K.lookup a = some o ∧ o.cls = .type "tuple" ∧ o.data = .seq its n ∧ its.size ≤ sizeLine ∧ Vals xs its.toList
def absV : Value → Option V
  | .none => some .non
  | .bool b => some (.bl b)
  | .int i _ => some (.int i)
  | .str x _ => some (.str x)
  | .bytes b _ => some (.byt b)
  | .float b _ => some (.flt b)
  | .ref a => some (.ref a)
  | .type n => some (.ty n)
  | _ => none
theorem RelV.abs {x : V} {u : Value} (r : RelV x u) : absV u = some x := by
  cases x with
  | non => cases r; rfl
  | bl _ => cases r; rfl
  | int _ => obtain ⟨t, rfl⟩ := r; rfl
  | str _ => obtain ⟨t, rfl⟩ := r; rfl
  | byt _ => obtain ⟨t, rfl⟩ := r; rfl
  | flt _ => obtain ⟨t, rfl⟩ := r; rfl
  | ref _ => cases r; rfl
  | ty _ => cases r; rfl
theorem RelV.inj {x y : V} {u : Value} (r : RelV x u) (q : RelV y u) : x = y := Option.some.inj (r.abs.symm.trans q.abs)
theorem Vals.inj : ∀ {xs ys : List V} {us : List Value}, Vals xs us → Vals ys us → xs = ys
  | _, _, _, .nil, .nil => rfl
  | _, _, _, .cons r t, .cons r' t' => by rw [r.inj r', Vals.inj t t']
section
variable {X : Cx} {pins : List (Addr × Obj)} {σ : St} {H : Hp} {s : Shared} {a : Addr} {xs ys : List V}
theorem SqL.of {K : PySem.W.Frag} (h : H a = some (.lst xs)) : SqL K H a xs := .inl (.inl h)
theorem SqT.of {K : PySem.W.Frag} (h : H a = some (.tup xs)) : SqT K H a xs := .inl (.inl h)
theorem Inv.list (I : Inv X pins σ H s) (h : SqL X.K H a xs) : ∃ its : List Value, Vals xs its ∧ PlainL s.heap a its.toArray ∧ xs.length ≤ sizeLine := by
  rcases h with h | ⟨o, its, n, hk, hc, hd, hs, hz, r⟩
  · obtain ⟨z, its, n, r, e⟩ := h.ok I.hok
    exact ⟨its, r, ⟨_, n, e, rfl, rfl, rfl⟩, z⟩
  · refine ⟨its.toList, r, ⟨o, n, I.kIn a o hk, hc, hd, by simpa using hs⟩, ?_⟩
    have e := r.length
    simp only [Array.length_toList] at e
    omega
theorem Inv.tuple (I : Inv X pins σ H s) (h : SqT X.K H a xs) : ∃ its : List Value, Vals xs its ∧ IsTup s.heap a its.toArray ∧ xs.length ≤ sizeLine := by
  rcases h with h | ⟨o, its, n, hk, hc, hs, hz, r⟩
  · obtain ⟨z, its, r, p⟩ := h.ok I.hok
    exact ⟨its, r, p, z⟩
  · refine ⟨its.toList, r, ⟨o, I.kIn a o hk, hc, n, by simpa using hs⟩, ?_⟩
    have e := r.length
    simp only [Array.length_toList] at e
    omega
theorem Inv.list_inj (I : Inv X pins σ H s) (h : SqL X.K H a xs) (h' : SqL X.K H a ys) : xs = ys := by
  obtain ⟨its, r, ⟨o, n, e, _, _, d⟩, _⟩ := I.list h
  obtain ⟨its', r', ⟨o', n', e', _, _, d'⟩, _⟩ := I.list h'
  rw [e] at e'; cases e'
  rw [d] at d'
  injection d' with d1 _
  have : its = its' := by simpa using congrArg Array.toList d1
  subst this
  exact r.inj r'
theorem Inv.tuple_inj (I : Inv X pins σ H s) (h : SqT X.K H a xs) (h' : SqT X.K H a ys) : xs = ys := by
  obtain ⟨its, r, ⟨o, e, _, n, d⟩, _⟩ := I.tuple h
  obtain ⟨its', r', ⟨o', e', _, n', d'⟩, _⟩ := I.tuple h'
  rw [e] at e'; cases e'
  rw [d] at d'
  injection d' with d1 _
  have : its = its' := by simpa using congrArg Array.toList d1
  subst this
  exact r.inj r'
end
abbrev Cx.wish (X : Cx) (E : Value → Shared → Prop) : Cx := { X with xe := E }
abbrev Cx.nox (X : Cx) : Cx := X.wish fun _ _ => False
theorem Cx.Ok.wish {X : Cx} (ok : X.Ok) (E : Value → Shared → Prop) : (X.wish E).Ok :=
  ⟨ok.mod, ok.kind, ok.glob, ok.blt, ok.above, ok.inj, ok.has, ok.cab, ok.hd, ok.frames, ok.stk, ok.exf, ok.bs, ok.bsz, ok.noex, ok.exfs, ok.funs, ok.frf⟩
theorem Cx.Ok.unwish {X : Cx} {E : Value → Shared → Prop} (ok : (X.wish E).Ok) : X.Ok :=
  ⟨ok.mod, ok.kind, ok.glob, ok.blt, ok.above, ok.inj, ok.has, ok.cab, ok.hd, ok.frames, ok.stk, ok.exf, ok.bs, ok.bsz, ok.noex, ok.exfs, ok.funs, ok.frf⟩
section
variable {X : Cx} {pins : List (Addr × Obj)} {σ : St} {H : Hp} {s : Shared} {E : Value → Shared → Prop}
theorem Inv.wish (I : Inv X pins σ H s) (E : Value → Shared → Prop) : Inv (X.wish E) pins σ H s := ⟨I.ok.wish E, I.os, I.bare, I.base, I.loc, I.cell, I.free, I.freeC, I.pin, I.hok, I.len⟩
theorem Inv.unwish (I : Inv (X.wish E) pins σ H s) : Inv X pins σ H s := ⟨I.ok.unwish, I.os, I.bare, I.base, I.loc, I.cell, I.free, I.freeC, I.pin, I.hok, I.len⟩
theorem SP.unwish {D : Ends} {f : Flow} {s' : Shared} (h : SP (X.wish E) pins D f s') : SP X pins D f s' := by
  cases f with
  | next => obtain ⟨σ', H', I, q⟩ := h; exact ⟨σ', H', I.unwish, q⟩
  | brk => obtain ⟨σ', H', I, q⟩ := h; exact ⟨σ', H', I.unwish, q⟩
  | cont => obtain ⟨σ', H', I, q⟩ := h; exact ⟨σ', H', I.unwish, q⟩
  | ret u => obtain ⟨v, σ', H', I, r, q⟩ := h; exact ⟨v, σ', H', I.unwish, r, q⟩
theorem PE.nox {e : Expr} {t : TE} (h : PE X.nox e t) : PE X e t := fun pins s σ H Q I hw =>
  wpAny_mono (h pins s σ H Q (I.wish _) hw) (fun _ _ ⟨v, H', I', r, q⟩ => ⟨v, H', I'.unwish, r, q⟩) fun _ _ z => False.elim z
theorem PT.nox {e : Expr} {t : TT} (h : PT X.nox e t) : PT X e t := fun pins s σ H Q I hw =>
  wpAny_mono (h pins s σ H Q (I.wish _) hw) (fun _ _ ⟨H', I', q⟩ => ⟨H', I'.unwish, q⟩) fun _ _ z => False.elim z
theorem PSs.nox {st : List Stmt} {t : TS} (h : PSs X.nox st t) : PSs X st t := fun pins s σ H D I hw =>
  wpAny_mono (h pins s σ H D (I.wish _) hw) (fun _ _ q => q.unwish) fun _ _ z => False.elim z
end
section
variable {X : Cx} {st : Stmt} {rest : List Stmt} {t u : TS} {e : Expr} {te : TE} {pos : Pos}
def tNext : TS := fun D σ H => D.nx σ H
def tSeq (t u : TS) : TS := fun D σ H => t { D with nx := u D } σ H
theorem pss_nil : PSs X [] tNext := fun _ _ σ H _ I h => wpAny_execs_nil ⟨σ, H, I, h⟩
theorem pss_cons (h1 : PS X st t) (h2 : PSs X rest u) : PSs X (st :: rest) (tSeq t u) := by
  intro pins s σ H D I h
  refine wpAny_execs_cons (thn (h1 pins s σ H { D with nx := u D } I h) fun f s1 q => ?_)
  cases f with
  | next =>
    obtain ⟨σ', H', I', q⟩ := q
    exact h2 pins s1 σ' H' D I' q
  | ret v => exact q
  | brk => exact q
  | cont => exact q
theorem pss_one (h1 : PS X st t) : PSs X [st] t := by
  intro pins s σ H D I h
  refine wpAny_execs_cons (thn (h1 pins s σ H D I h) fun f s1 q => ?_)
  cases f with
  | next => exact wpAny_execs_nil q
  | ret v => exact q
  | brk => exact q
  | cont => exact q
def tBreak : TS := fun D σ H => D.bk σ H
def tCont : TS := fun D σ H => D.ct σ H
theorem Inv.quiet {pins : List (Addr × Obj)} {σ : St} {H : Hp} {s : Shared} (I : Inv X pins σ H s) : interactive X.env = false := by simp [interactive, I.ok.kind]
def tDrop (te : TE) : TS := fun D σ H => te σ H fun _ H1 => D.nx σ H1
theorem ps_expr (he : PE X e te) (hs : swapsWith e none pos.line X.env = pure false := by rfl) : PS X (.Expr e pos) (tDrop te) := by
  intro pins s σ H D I h
  exact wpAny_Expr_any (thn (he pins s σ H _ I h) fun v s1 ⟨x, H1, I1, r1, q1⟩ => ⟨σ, H1, I1, q1⟩) I.quiet hs
def tRet (te : TE) : TS := fun D σ H => te σ H D.rt
theorem ps_ret (he : PE X e te) : PS X (.Return (some e) pos) (tRet te) := by
  intro pins s σ H D I h
  exact wpAny_Return_some (thn (he pins s σ H _ I h) fun v s1 ⟨x, H1, I1, r1, q1⟩ => ⟨x, σ, H1, I1, r1, q1⟩)
def tRetN : TS := fun D _ H => D.rt .non H
def tIfS (c : TT) (t u : TS) : TS := fun D σ H => c σ H fun b H1 => if b = true then t D σ H1 else u D σ H1
theorem ps_if {c : Expr} {a b : List Stmt} {tc : TT} (hc : PT X c tc) (ha : PSs X a t) (hb : PSs X b u) : PS X (.If c a b pos) (tIfS tc t u) := by
  intro pins s σ H D I h
  refine wpAny_If (thn (hc pins s σ H _ I h) fun d s1 ⟨H1, I1, q1⟩ => ?_)
  cases d with
  | true => exact ha pins s1 σ H1 D I1 q1
  | false => exact hb pins s1 σ H1 D I1 q1
def tNever : TS := fun _ _ _ => False
theorem ps_never : PS X st tNever := fun _ _ _ _ _ _ h => h.elim
end
abbrev TG := V → St → Hp → (St → Hp → Prop) → Prop
abbrev TGs := List V → St → Hp → (St → Hp → Prop) → Prop
def PG (X : Cx) (target : Expr) (t : TG) : Prop :=
  ∀ (pins : List (Addr × Obj)) (s : Shared) (σ : St) (H : Hp) (v : V) (u : Value) (Q : St → Hp → Prop), Inv X pins σ H s → RelV v u → t v σ H Q →
    wpAny (model X.prog X.w) X.A (assign target X.env u) (fun _ s' => ∃ σ' H', Inv X pins σ' H' s' ∧ Q σ' H') X.xe s
def PGs (X : Cx) (ts : List Expr) (t : TGs) : Prop :=
  ∀ (pins : List (Addr × Obj)) (s : Shared) (σ : St) (H : Hp) (vs : List V) (us : List Value) (Q : St → Hp → Prop), Inv X pins σ H s → Vals vs us → t vs σ H Q →
    wpAny (model X.prog X.w) X.A (assignInOrder ((assignEach ts X.env).map (·.2)) us) (fun _ s' => ∃ σ' H', Inv X pins σ' H' s' ∧ Q σ' H') X.xe s
abbrev TSet := V → V → V → Hp → (Hp → Prop) → Prop
def PSet (X : Cx) (t : TSet) : Prop :=
  ∀ (pins : List (Addr × Obj)) (s : Shared) (σ : St) (H : Hp) (o i v : V) (ov iv u : Value) (Q : Hp → Prop), Inv X pins σ H s → RelV o ov → RelV i iv → RelV v u → t o i v H Q →
    wpAny (model X.prog X.w) X.A (setItem ov iv u) (fun _ s' => ∃ H', Inv X pins σ H' s' ∧ Q H') X.xe s
abbrev TIp := V → V → Hp → VK → Prop
def PIp (X : Cx) (op : Operator) (t : TIp) : Prop :=
  ∀ (pins : List (Addr × Obj)) (s : Shared) (σ : St) (H : Hp) (x y : V) (v u : Value) (Q : VK), Inv X pins σ H s → RelV x v → RelV y u → t x y H Q →
    wpAny (model X.prog X.w) X.A (inplaceOp op v u) (EP X pins σ Q) X.xe s
section
variable {X : Cx} {pos : Pos}
def gName (i : Nat) : TG := fun v σ H Q => Q (σ.set i (some v)) H
theorem pg_name {i : Nat} {x : Str} (hN : X.N.Nodup) (hi : X.N[i]? = some x) (hx : Loc X.env.scope x) (hf : X.fn x = true ∨ X.env.scope.names.lookup x = some .local := by first | exact .inl rfl | exact .inr rfl | assumption) : PG X (.Name x pos) (gName i) := by
  intro pins s σ H v u Q I r h
  exact wpAny_assign_Name (store_ok I hN hi hx r (fun s' I' => ⟨_, H, I', h⟩) hf)
def gNil : TGs := fun vs σ H Q => vs = [] ∧ Q σ H
def gCons (t : TG) (u : TGs) : TGs := fun vs σ H Q => ∃ v r, vs = v :: r ∧ t v σ H fun σ' H' => u r σ' H' Q
theorem pgs_nil : PGs X [] gNil := by
  intro pins s σ H vs us Q I r h
  obtain ⟨e, h⟩ := h
  subst e
  cases r
  exact assignInOrder_nil ⟨σ, H, I, h⟩
theorem pgs_cons {e : Expr} {es : List Expr} {t : TG} {u : TGs} (h1 : PG X e t) (h2 : PGs X es u)
    (hs : (assignEach (e :: es) X.env).map (·.2) = assign e X.env :: (assignEach es X.env).map (·.2) := by rfl) : PGs X (e :: es) (gCons t u) := by
  intro pins s σ H vs us Q I r h
  obtain ⟨v, vr, e1, h⟩ := h
  subst e1
  cases r with
  | cons r rr =>
    rw [hs]
    refine assignInOrder_cons (thn (h1 pins s σ H _ _ _ I r h) fun _ s1 ⟨σ1, H1, I1, q1⟩ => ?_)
    exact h2 pins s1 σ1 H1 _ _ Q I1 rr q1
def gTup (K : PySem.W.Frag) (n : Nat) (t : TGs) : TG := fun v σ H Q => ∃ a xs, v = .ref a ∧ SqT K H a xs ∧ xs.length = n ∧ t xs σ H Q
theorem pg_tup {es : List Expr} {k : Nat} {t : TGs} {n : Nat} (hc : X.calm = true) (h : PGs X es t)
    (hn : (assignEach es X.env).length = n := by rfl) (hst : (assignEach es X.env).findIdx? (·.1) = none := by rfl) : PG X (.Tuple es k pos) (gTup X.K n t) := by
  intro pins s σ H v u Q I r hw
  obtain ⟨a, xs, e1, hq, hl, hw⟩ := hw
  subst e1
  cases r
  obtain ⟨its, rv, ht, hz⟩ := I.tuple hq
  refine assign_Tuple_tuple (I.ok.hd hc) ht (by simp [hn, ← hl, rv.length]) hst fun h' hx => ?_
  have I1 : Inv X pins σ H { s with heap := h' } := I.kept (t' := s.toks) fun b o e => hx b o (Nat.ne_of_lt (Heap.lt_size e)) e
  exact h pins _ σ H xs _ Q I1 (by simpa using rv) hw
def gSub (to ti : TE) (t : TSet) : TG := fun v σ H Q => to σ H fun o H1 => ti σ H1 fun i H2 => t o i v H2 fun H3 => Q σ H3
theorem pg_sub {o i : Expr} {to ti : TE} {t : TSet} (ho : PE X o to) (hi : PE X i ti) (hs : PSet X t)
    (ha : ∀ v, assign (.Subscript o i pos) X.env v = (do
      let ov ← holding [v] (eval o X.env)
      let iv ← holding [v, ov] (eval i X.env)
      standAt pos
      holding [v, ov, iv] (setItem ov iv v)
      release [v, ov, iv] []) := by intro _; rfl) : PG X (.Subscript o i pos) (gSub to ti t) := by
  intro pins s σ H v u Q I r h
  rw [ha]
  refine wpAny_bind (wpAny_holding (thn (ho pins s σ H _ I h) fun ov s1 ⟨x, H1, I1, r1, q1⟩ => ?_))
  refine wpAny_bind (wpAny_holding (thn (hi pins s1 σ H1 _ I1 q1) fun iv s2 ⟨y, H2, I2, r2, q2⟩ => ?_))
  refine wpAny_bind (wpAny_standAt (wpAny_bind (wpAny_holding (thn (hs pins s2 σ H2 x y v ov iv u _ I2 r1 r2 r q2) fun _ s3 ⟨H3, I3, q3⟩ => ?_))))
  exact wpAny_release ⟨σ, H3, I3, q3⟩
def tAsg (te : TE) (g : TG) : TS := fun D σ H => te σ H fun x H1 => g x σ H1 D.nx
theorem ps_asg {tg e : Expr} {te : TE} {g : TG} (he : PE X e te) (hg : PG X tg g) (hs : swapsWithSole [tg] e pos.line X.env = pure false := by rfl) (hw : swappedStores [tg] e X.env = pure none := by rfl)
    (h1 : (assignEach [tg] X.env).map (·.2) = [assign tg X.env] := by rfl) : PS X (.Assign [tg] e pos) (tAsg te g) := by
  intro pins s σ H D I h
  refine wpAny_Assign_stores (thn (he pins s σ H _ I h) fun v s1 ⟨x, H1, I1, r1, q1⟩ => ?_) hs hw
  rw [h1]
  exact thn (hg pins s1 σ H1 x v _ I1 r1 q1) fun _ s2 q => q
theorem ps_set {i : Nat} {x : Str} {e : Expr} {te : TE} {pos' : Pos} (hN : X.N.Nodup) (hi : X.N[i]? = some x) (hx : Loc X.env.scope x) (he : PE X e te) (hs : swapsWith e (some (.Name x pos')) pos.line X.env = pure false := by rfl) (hf : X.fn x = true ∨ X.env.scope.names.lookup x = some .local := by first | exact .inl rfl | exact .inr rfl | assumption) :
    PS X (.Assign [.Name x pos'] e pos) (tAsg te (gName i)) := by
  intro pins s σ H D I h
  refine wpAny_Assign_Name (thn (he pins s σ H _ I h) fun v s1 ⟨y, H1, I1, r1, q1⟩ => ?_) hs
  exact store_ok I1 hN hi hx r1 (fun s2 I2 => ⟨_, H1, I2, q1⟩) hf
def tPar (i j : Nat) (ta : TA) : TS := fun D σ H => ta σ H fun vs H1 => ∃ v w, vs = [v, w] ∧ D.nx ((σ.set i (some v)).set j (some w)) H1
def tAug (i : Nat) (te : TE) (ti : TIp) : TS := fun D σ H => ∃ x, σ[i]? = some (some x) ∧ te σ H fun y H1 => ti x y H1 fun z H2 => D.nx (σ.set i (some z)) H2
def tAugS (to ti te : TE) (tget : V → V → Hp → VK → Prop) (tip : TIp) (tset : TSet) : TS := fun D σ H => to σ H fun o H1 => ti σ H1 fun i H2 => tget o i H2 fun x H3 => te σ H3 fun y H4 => tip x y H4 fun z H5 => tset o i z H5 fun H6 => D.nx σ H6
def PGet (X : Cx) (t : V → V → Hp → VK → Prop) : Prop :=
  ∀ (pins : List (Addr × Obj)) (s : Shared) (σ : St) (H : Hp) (o i : V) (ov iv : Value) (Q : VK), Inv X pins σ H s → RelV o ov → RelV i iv → t o i H Q →
    wpAny (model X.prog X.w) X.A (getItem ov iv) (EP X pins σ Q) X.xe s
def ipI (f : Int → Int → Int) : TIp := fun x y H Q => ∃ i j, x = .int i ∧ y = .int j ∧ Q (.int (f i j)) H
end
section
variable {X : Cx} {pos : Pos}
def tWhile (c : TT) (tb : TS) : TS := fun D σ H => ∃ W : Nat → St → Hp → Prop, (∃ m, W m σ H) ∧ ∀ m σ H, W m σ H →
  c σ H fun b H1 => if b = true then ∃ N : St → Hp → Prop, (∀ σ' H', N σ' H' → ∃ m', m' < m ∧ W m' σ' H') ∧ tb { D with nx := N, ct := N, bk := D.nx } σ H1 else D.nx σ H1
end
structure It where
  go : Nat → Hp → Prop
  yld : Nat → Hp → V → Hp → Prop
  stop : Nat → Hp → Prop
def FpOk (X : Cx) (pins : List (Addr × Obj)) (H : Hp) (b : Addr) : Prop :=
  H b = none ∧ b ≠ X.env.locals ∧ b ∉ X.fs ∧ (b ∈ X.ex ∨ X.s₀.heap.objs.size ≤ b) ∧ (∀ x c, X.env.cells.lookup x = some c → c ≠ b) ∧ ∀ p ∈ X.pn ++ pins, p.1 ≠ b
theorem Inv.fpOk {X : Cx} {pins : List (Addr × Obj)} {σ : St} {H H' : Hp} {s : Shared} {b : Addr} (I : Inv X pins σ H s) (hb : s.heap.objs.size ≤ b) (hn : H' b = none) : FpOk X pins H' b := by
  refine ⟨hn, Nat.ne_of_gt (Nat.lt_of_lt_of_le I.lt hb), I.nofs hb, .inr (Nat.le_trans I.sz hb), fun x c e z => ?_, fun p hp z => ?_⟩
  · obtain ⟨v, q⟩ := I.cell x c e
    exact absurd (Nat.lt_of_lt_of_le q.lt (by rw [z]; exact hb)) (Nat.lt_irrefl _)
  · exact absurd (Nat.lt_of_lt_of_le (Heap.lt_size (I.pin p hp).1) (by rw [z]; exact hb)) (Nat.lt_irrefl _)
structure Turn (P : Program) (w : World) (K : PySem.W.Frag) (tg : Expr) (J : It) (fp : List Addr) (it : Addr) (tn : Nat → Heap → Prop) : Prop where
  mem : it ∈ fp
  obj : ∀ i h, tn i h → ∀ b ∈ fp, ∃ o, h.get? b = some o ∧ ∀ v, o.data ≠ .cell v
  keep : ∀ i h h', tn i h → (∀ b ∈ fp, ∀ o, h.get? b = some o → h'.get? b = some o) → tn i h'
  item : ∀ (X : Cx), X.prog = P → X.w = w → X.K = K → X.calm = true → ∀ (i : Nat) (pins : List (Addr × Obj)) (s : Shared) (σ : St) (H : Hp) (E : Value → Shared → Prop), Inv X pins σ H s → (∀ b ∈ fp, FpOk X pins H b) → tn i s.heap → J.go i H →
    wpAny (model P w) X.A (pyNext (.ref it)) (fun r s1 => ∃ u, r = some u ∧
      wpAny (model P w) X.A (letOwnedTupleGo tg (.ref it) u) (fun _ s2 => ∃ x H', Inv X pins σ H' s2 ∧ RelV x u ∧ J.yld i H x H' ∧ tn (i + 1) s2.heap ∧ ∀ b ∈ fp, H' b = none) E s1) E s
  done : ∀ (X : Cx), X.prog = P → X.w = w → X.K = K → X.calm = true → ∀ (i : Nat) (pins : List (Addr × Obj)) (s : Shared) (σ : St) (H : Hp) (E : Value → Shared → Prop), Inv X pins σ H s → (∀ b ∈ fp, FpOk X pins H b) → tn i s.heap → J.stop i H →
    wpAny (model P w) X.A (pyNext (.ref it)) (fun r s1 => r = none ∧ Inv X pins σ H s1) E s
  self : ∀ (A : Around) (i : Nat) (s : Shared) (Q : Value → Shared → Prop) (E : Value → Shared → Prop), tn i s.heap → Q (.ref it) s → wpAny (model P w) A (pyIter (.ref it)) Q E s
abbrev TI := St → Hp → (It → Hp → Prop) → Prop
def PIE (X : Cx) (pins : List (Addr × Obj)) (σ : St) (tg : Expr) (R : It → Hp → Prop) (itv : Value) (s2 : Shared) : Prop :=
  ∃ (it : Addr) (fp : List Addr) (tn : Nat → Heap → Prop) (J : It) (H' : Hp), itv = .ref it ∧ Inv X pins σ H' s2 ∧ Turn X.prog X.w X.K tg J fp it tn ∧ tn 0 s2.heap ∧ (∀ b ∈ fp, FpOk X pins H' b) ∧ R J H'
def PI (X : Cx) (tg iter : Expr) (wi : TI) : Prop :=
  ∀ (pins : List (Addr × Obj)) (s : Shared) (σ : St) (H : Hp) (R : It → Hp → Prop), Inv X pins σ H s → wi σ H R →
    wpAny (model X.prog X.w) X.A (eval iter X.env) (fun v s1 => wpAny (model X.prog X.w) X.A (pyIter v) (PIE X pins σ tg R) X.xe s1) X.xe s
theorem go_of {M : Model} {A : Around} {E : Value → Shared → Prop} {s : Shared} {tg : Expr} {it : Addr} {u : Value} {o : Obj} {n : String} {vs : Array Value} {Q : Unit → Shared → Prop} (ho : s.heap.get? it = some o) (hc : o.cls = .type n) (hd : o.data = .fields vs)
    (hn : ["enumerate", "zip", "dict_itemiterator", "dict_reverseitemiterator", "odict_iterator", "itertools.zip_longest", "itertools.pairwise"].contains n = false) (hQ : Q () s) : wpAny M A (letOwnedTupleGo tg (.ref it) u) Q E s := by
  unfold letOwnedTupleGo
  cases tg <;> first
    | exact wpAny_pure hQ
    | (cases u <;> first
        | exact wpAny_pure hQ
        | (refine wpAny_bind (wpAny_load ho ?_)
           rw [hc, hd]
           show wpAny M A (if (["enumerate", "zip", "dict_itemiterator", "dict_reverseitemiterator", "odict_iterator", "itertools.zip_longest", "itertools.pairwise"].contains n && vs[0]? == some (rawInt _)) = true then _ else _) Q E s
           rw [if_neg (by intro h; rw [hn, Bool.false_and] at h; cases h)]
           exact wpAny_pure hQ))
def Itl (K : PySem.W.Frag) (a : Addr) : It :=
  ⟨fun i H => ∃ xs x, SqL K H a xs ∧ xs[i]? = some x, fun i H x H' => H' = H ∧ ∀ xs, SqL K H a xs → xs[i]? = some x, fun i H => ∃ xs, SqL K H a xs ∧ xs.length ≤ i⟩
def Itt (K : PySem.W.Frag) (a : Addr) : It :=
  ⟨fun i H => ∃ xs x, SqT K H a xs ∧ xs[i]? = some x, fun i H x H' => H' = H ∧ ∀ xs, SqT K H a xs → xs[i]? = some x, fun i H => ∃ xs, SqT K H a xs ∧ xs.length ≤ i⟩
def Itr (lo : Int) (n : Nat) : It := ⟨fun i _ => i < n, fun i H x H' => H' = H ∧ x = .int (lo + i), fun i _ => n ≤ i⟩
theorem turn_list {P : Program} {w : World} {K : PySem.W.Frag} {tg : Expr} (a it : Addr) : Turn P w K tg (Itl K a) [it] it (fun i h => h.IsListIter it a i) where
  mem := by simp
  obj := fun i h st b hb => by
    have e : b = it := by simpa using hb
    subst e
    obtain ⟨o, e, c, d⟩ := st
    exact ⟨o, e, fun v z => by rw [d] at z; cases z⟩
  keep := fun i h h' st k => st.at fun o e => k it (by simp) o e
  item := by
    intro X hP hw hK hc i pins s σ H E I hf st hg
    subst hP hw hK
    obtain ⟨xs, x, hq, hx⟩ := hg
    obtain ⟨its, rv, p, hz⟩ := I.list hq
    obtain ⟨u, hu, ru⟩ := rv.get hx
    obtain ⟨f0, f1, f2, f3, f4, f5⟩ := hf it (by simp)
    refine wpAny_pyNext_list_item st p.isList (x := u) (by simpa using hu) fun h' st' sb => ?_
    have I1 : Inv X pins σ H { s with heap := h' } := I.turned (t' := s.toks) (fun b o hb e => (sb.2 b hb).trans e) f0 f1 f3 f4 f5
    obtain ⟨o, e, c, d⟩ := id st'
    exact ⟨u, rfl, go_of (s := { s with heap := h' }) e c d (by decide) ⟨x, H, I1, ru, ⟨rfl, fun ys hy => by rw [I.list_inj hy hq]; exact hx⟩, st', fun b hb => (hf b hb).1⟩⟩
  done := by
    intro X hP hw hK hc i pins s σ H E I hf st hg
    subst hP hw hK
    obtain ⟨xs, hq, hx⟩ := hg
    obtain ⟨its, rv, p, hz⟩ := I.list hq
    obtain ⟨f0, f1, f2, f3, f4, f5⟩ := hf it (by simp)
    have hl := rv.length
    exact wpAny_pyNext_list_end (I.ok.hd hc) st p.isList (by simp; omega) fun h' eb => ⟨rfl, I.turned (t' := s.toks) (fun b o hb e => eb b o hb e) f0 f1 f3 f4 f5⟩
  self := fun _ _ _ _ _ st h => wpAny_pyIter_listiter st h
theorem turn_tuple {P : Program} {w : World} {K : PySem.W.Frag} {tg : Expr} (a it : Addr) : Turn P w K tg (Itt K a) [it] it (fun i h => h.IsTupleIter it a i) where
  mem := by simp
  obj := fun i h st b hb => by
    have e : b = it := by simpa using hb
    subst e
    obtain ⟨o, e, c, d⟩ := st
    exact ⟨o, e, fun v z => by rw [d] at z; cases z⟩
  keep := fun i h h' st k => st.at fun o e => k it (by simp) o e
  item := by
    intro X hP hw hK hc i pins s σ H E I hf st hg
    subst hP hw hK
    obtain ⟨xs, x, hq, hx⟩ := hg
    obtain ⟨its, rv, p, hz⟩ := I.tuple hq
    obtain ⟨u, hu, ru⟩ := rv.get hx
    obtain ⟨f0, f1, f2, f3, f4, f5⟩ := hf it (by simp)
    refine wpAny_pyNext_tuple_item st (show s.heap.IsTuple a its.toArray from p) (x := u) (by simpa using hu) fun h' st' sb => ?_
    have I1 : Inv X pins σ H { s with heap := h' } := I.turned (t' := s.toks) (fun b o hb e => (sb.2 b hb).trans e) f0 f1 f3 f4 f5
    obtain ⟨o, e, c, d⟩ := id st'
    exact ⟨u, rfl, go_of (s := { s with heap := h' }) e c d (by decide) ⟨x, H, I1, ru, ⟨rfl, fun ys hy => by rw [I.tuple_inj hy hq]; exact hx⟩, st', fun b hb => (hf b hb).1⟩⟩
  done := by
    intro X hP hw hK hc i pins s σ H E I hf st hg
    subst hP hw hK
    obtain ⟨xs, hq, hx⟩ := hg
    obtain ⟨its, rv, p, hz⟩ := I.tuple hq
    obtain ⟨f0, f1, f2, f3, f4, f5⟩ := hf it (by simp)
    have hl := rv.length
    exact wpAny_pyNext_tuple_end (I.ok.hd hc) st (show s.heap.IsTuple a its.toArray from p) (by simp; omega) fun h' eb => ⟨rfl, I.turned (t' := s.toks) (fun b o hb e => eb b o hb e) f0 f1 f3 f4 f5⟩
  self := fun _ _ _ _ _ st h => wpAny_pyIter_tupleiter st h
theorem turn_range {P : Program} {w : World} {K : PySem.W.Frag} {tg : Expr} (it : Addr) (lo : Int) (n : Nat) : Turn P w K tg (Itr lo n) [it] it (fun i h => IsRangeIter h it (lo + (i : Nat) * 1) ((n : Int) - (i : Nat)) 1) where
  mem := by simp
  obj := fun i h st b hb => by
    have e : b = it := by simpa using hb
    subst e
    exact ⟨_, st, fun v z => by
      have z' : Data.fields _ = Data.cell v := z
      cases z'⟩
  keep := fun i h h' st k => k it (by simp) _ st
  item := by
    intro X hP hw hK hc i pins s σ H E I hf st hg
    subst hP hw hK
    obtain ⟨f0, f1, f2, f3, f4, f5⟩ := hf it (by simp)
    have W := Walks.range (prog := X.prog) (w := X.w) (I.ok.hd hc) it lo 1 n
    refine W.item i s _ _ hg st fun v h' tk hv st' kk => ?_
    obtain ⟨t, rfl⟩ := hv
    have I1 : Inv X pins σ H { s with heap := h', toks := tk } := I.turned (fun b o hb e => kk b o (by simpa using hb) e) f0 f1 f3 f4 f5
    refine ⟨_, rfl, go_of (s := { s with heap := h', toks := tk }) (n := "range_iterator") st' rfl rfl (by decide) ⟨.int (lo + i), H, I1, ⟨t, ?_⟩, ⟨rfl, rfl⟩, st', fun b hb => (hf b hb).1⟩⟩
    rw [Int.mul_one]
  done := by
    intro X hP hw hK hc i pins s σ H E I hf st hg
    subst hP hw hK
    obtain ⟨f0, f1, f2, f3, f4, f5⟩ := hf it (by simp)
    exact wpAny_pyNext_range_end (I.ok.hd hc) st (by have : n ≤ i := hg; omega) fun h' eb => ⟨rfl, I.turned (t' := s.toks) (fun b o hb e => eb b o hb e) f0 f1 f3 f4 f5⟩
  self := fun _ _ _ _ _ st h => wpAny_pyIter_rangeiter st h
end L2
namespace L2
open PySem PySem.Spec PyProof.Rows
section
variable {X : Cx} {tg : Expr}
def iList (K : PySem.W.Frag) (tl : TE) : TI := fun σ H R => tl σ H fun x H1 => ∃ a, x = .ref a ∧ (∃ xs, SqL K H1 a xs) ∧ R (Itl K a) H1
def iTup (K : PySem.W.Frag) (tl : TE) : TI := fun σ H R => tl σ H fun x H1 => ∃ a, x = .ref a ∧ (∃ xs, SqT K H1 a xs) ∧ R (Itt K a) H1
theorem pi_list {l : Expr} {tl : TE} (hl : PE X l tl) : PI X tg l (iList X.K tl) := by
  intro pins s σ H R I h
  refine thn (hl pins s σ H _ I h) fun v s1 ⟨x, H1, I1, r1, q1⟩ => ?_
  obtain ⟨a, e, ⟨xs, hq⟩, q⟩ := q1
  subst e
  cases r1
  obtain ⟨its, rv, p, hz⟩ := I1.list hq
  refine wpAny_pyIter_list p.isList ?_
  refine ⟨s1.heap.objs.size, [s1.heap.objs.size], _, _, H1, rfl, I1.kept (t' := s1.toks) fun b o e => Heap.get?_push_of_some _ e, turn_list a _, ⟨_, Heap.get?_push_size _ rfl, rfl, rfl⟩, fun b hb => ?_, q⟩
  have e : b = s1.heap.objs.size := by simpa using hb
  subst e
  exact I1.fpOk (Nat.le_refl _) (I1.hok.fresh (Nat.le_refl _))
theorem pi_tup {l : Expr} {tl : TE} (hl : PE X l tl) : PI X tg l (iTup X.K tl) := by
  intro pins s σ H R I h
  refine thn (hl pins s σ H _ I h) fun v s1 ⟨x, H1, I1, r1, q1⟩ => ?_
  obtain ⟨a, e, ⟨xs, hq⟩, q⟩ := q1
  subst e
  cases r1
  obtain ⟨its, rv, p, hz⟩ := I1.tuple hq
  refine wpAny_pyIter_tuple (show s1.heap.IsTuple a its.toArray from p) ?_
  refine ⟨s1.heap.objs.size, [s1.heap.objs.size], _, _, H1, rfl, I1.kept (t' := s1.toks) fun b o e => Heap.get?_push_of_some _ e, turn_tuple a _, ⟨_, Heap.get?_push_size _ rfl, rfl, rfl⟩, fun b hb => ?_, q⟩
  have e : b = s1.heap.objs.size := by simpa using hb
  subst e
  exact I1.fpOk (Nat.le_refl _) (I1.hok.fresh (Nat.le_refl _))
theorem range_it {pins : List (Addr × Obj)} {σ : St} {H : Hp} {s : Shared} {R : It → Hp → Prop} {E : Value → Shared → Prop} {lo hi : Int} {t u v : Tok} {tk : Nat} (I : Inv X pins σ H s) (h1 : -(2 ^ 62) ≤ lo) (h2 : lo < 2 ^ 62) (h3 : -(2 ^ 62) ≤ hi) (h4 : hi < 2 ^ 62)
    (q : R (Itr lo (hi - lo).toNat) H) : wpAny (model X.prog X.w) X.A (pyIter (.ref s.heap.objs.size)) (PIE X pins σ tg R) E { s with heap := s.heap.push { cls := .type "range", data := .fields #[.int lo t, .int hi u, .int 1 v] }, toks := tk } := by
  refine wpAny_pyIter_range (IsRange.new ..) (small_one h1 h2 h3 h4) ?_
  have I1 : Inv X pins σ H { s with heap := s.heap.push { cls := .type "range", data := .fields #[.int lo t, .int hi u, .int 1 v] }, toks := tk } := I.kept fun b o e => Heap.get?_push_of_some _ e
  refine ⟨(s.heap.push { cls := .type "range", data := .fields #[.int lo t, .int hi u, .int 1 v] }).objs.size, [(s.heap.push { cls := .type "range", data := .fields #[.int lo t, .int hi u, .int 1 v] }).objs.size], _, _, H, rfl,
    I1.kept (t' := tk) fun b o e => Heap.get?_push_of_some _ e, turn_range _ lo (hi - lo).toNat, ?_, fun b hb => ?_, q⟩
  · have e1 : lo + ((0 : Nat) : Int) * 1 = lo := by simp
    have e2 : (((hi - lo).toNat : Nat) : Int) - ((0 : Nat) : Int) = Builtin.Range.rangeSize lo hi 1 := by rw [rangeSize_one]; split <;> omega
    show IsRangeIter _ _ (lo + ((0 : Nat) : Int) * 1) ((((hi - lo).toNat : Nat) : Int) - ((0 : Nat) : Int)) 1
    rw [e1, e2]
    exact Heap.get?_push_size _ rfl
  · have e : b = (s.heap.push { cls := .type "range", data := .fields #[.int lo t, .int hi u, .int 1 v] }).objs.size := by simpa using hb
    subst e
    exact I1.fpOk (Nat.le_refl _) (I1.hok.fresh (Nat.le_refl _))
def iRng1 (ta : TA) : TI := fun σ H R => ta σ H fun vs H1 => ∃ j : Int, vs = [.int j] ∧ -(2 ^ 62) ≤ j ∧ j < 2 ^ 62 ∧ R (Itr 0 j.toNat) H1
def iRng2 (ta : TA) : TI := fun σ H R => ta σ H fun vs H1 => ∃ i j : Int, vs = [.int i, .int j] ∧ (-(2 ^ 62) ≤ i ∧ i < 2 ^ 62 ∧ -(2 ^ 62) ≤ j ∧ j < 2 ^ 62) ∧ R (Itr i (j - i).toNat) H1
theorem pi_range1 {a : Expr} {ta : TA} {p pos : Pos} (hg : Gl X "range") (hm : X.mg "range" = none) (ha : PA X [a] ta) (hs : starEach [a] X.env = [(false, eval a X.env)] := by rfl) : PI X tg (.Call (.Name "range" p) [a] [] pos) (iRng1 ta) := by
  intro pins s σ H R I h
  refine Call_ (ld_blt I hg hm boot_range (PyProof.Rows.callWith_type1 (thn (ha pos pins s σ H _ I h) fun us s1 ⟨vs, H1, I1, r1, q1⟩ => ?_) hs rfl))
  obtain ⟨j, e, q1, q2, q⟩ := q1
  subst e
  cases r1 with
  | cons r rr =>
    cases rr
    obtain ⟨t, rfl⟩ := r
    exact call_range_1 (range_it I1 (by omega) (by omega) q1 q2 (by simpa using q))
def tFor (wi : TI) (g : TG) (tb : TS) : TS := fun D σ H => wi σ H fun J H1 => ∃ W : Nat → Nat → St → Hp → Prop, (∃ m, W 0 m σ H1) ∧ ∀ i m σ H, W i m σ H →
  (J.stop i H ∧ D.nx σ H) ∨ (J.go i H ∧ ∃ N : St → Hp → Prop, (∀ σ' H', N σ' H' → ∃ m', m' < m ∧ W (i + 1) m' σ' H') ∧ ∀ x H', J.yld i H x H' → g x σ H' fun σ2 H2 => tb { D with nx := N, ct := N, bk := D.nx } σ2 H2)
def pinsAt (fp : List Addr) (h : Heap) : List (Addr × Obj) := fp.filterMap fun b => (h.get? b).map fun o => (b, o)
theorem mem_pinsAt {fp : List Addr} {h : Heap} {b : Addr} {o : Obj} (hb : b ∈ fp) (e : h.get? b = some o) : (b, o) ∈ pinsAt fp h := List.mem_filterMap.mpr ⟨b, hb, by rw [e]; rfl⟩
theorem of_pinsAt {fp : List Addr} {h : Heap} {p : Addr × Obj} (hp : p ∈ pinsAt fp h) : p.1 ∈ fp ∧ h.get? p.1 = some p.2 := by
  obtain ⟨b, hb, e⟩ := List.mem_filterMap.mp hp
  cases q : h.get? b with
  | none => rw [q] at e; cases e
  | some o =>
    rw [q] at e
    have e' : (b, o) = p := Option.some.inj e
    subst e'
    exact ⟨hb, q⟩
theorem Inv.pinned {pins : List (Addr × Obj)} {σ : St} {H : Hp} {s : Shared} {fp : List Addr} (I : Inv X pins σ H s) (hf : ∀ b ∈ fp, FpOk X pins H b) (ho : ∀ b ∈ fp, ∃ o, s.heap.get? b = some o ∧ ∀ v, o.data ≠ .cell v) : Inv X (pins ++ pinsAt fp s.heap) σ H s :=
  I.pins_of fun p hp => (List.mem_append.mp hp).elim (fun z => I.pin p (List.mem_append_right _ z)) fun z => by
    obtain ⟨hb, e⟩ := of_pinsAt z
    obtain ⟨f0, f1, f2, _⟩ := hf p.1 hb
    obtain ⟨o, e', d⟩ := ho p.1 hb
    rw [e] at e'; cases e'
    exact ⟨e, f0, f1, f2, d⟩
theorem Inv.unpinned {pins pl : List (Addr × Obj)} {σ : St} {H : Hp} {s : Shared} (I : Inv X (pins ++ pl) σ H s) : Inv X pins σ H s := I.pins_of fun p hp => I.pin p (List.mem_append_right _ (List.mem_append_left _ hp))
theorem ps_for {iter : Expr} {body : List Stmt} {wi : TI} {g : TG} {tb : TS} {pos : Pos} (hp : PassesOwn (model X.prog X.w) X.A X.env X.xe) (hc : X.calm = true) (hi : PI X tg iter wi) (hg : PG X tg g) (hb : PSs X body tb)
    (hs : ∀ x, foldedSetIterable iter X.env x = pure x := by intro _; rfl) : PS X (.For tg iter body [] pos) (tFor wi g tb) := by
  intro pins s σ H D I h
  refine wpAny_For (thn (hi pins s σ H _ I h) fun v s1 h1 => thn h1 fun itv s2 h2 => ?_) hs
  obtain ⟨it, fp, tn, J, H2, e, I2, T, st2, f2, W, ⟨m0, w0⟩, turn⟩ := h2
  subst e
  -- what stays true of the iterator's objects through the loop
  have stat : ∀ {H' : Hp}, (∀ b ∈ fp, H' b = none) → ∀ b ∈ fp, FpOk X pins H' b := fun hn b hb => ⟨hn b hb, (f2 b hb).2⟩
  refine codeAny_forLoop_any (fun n s' => ∃ i σ' H', Inv X pins σ' H' s' ∧ tn i s'.heap ∧ (∀ b ∈ fp, H' b = none) ∧ W i n σ' H') ?_ m0 ⟨0, σ, H2, I2, st2, fun b hb => (f2 b hb).1, w0⟩
  rintro n s3 ⟨i, σ3, H3, I3, st3, fr3, w3⟩
  rcases turn i n σ3 H3 w3 with ⟨stop, qn⟩ | ⟨go, N, hN, step⟩
  · refine wpAny_passesOwn hp (thn (T.done X rfl rfl rfl hc i pins s3 σ3 H3 X.xe I3 (stat fr3) st3 stop) fun r s4 ⟨hr, I4⟩ => ?_)
    subst hr
    exact wpAny_execs_nil ⟨σ3, H3, I4, qn⟩
  · refine wpAny_passesOwn hp (thn (T.item X rfl rfl rfl hc i pins s3 σ3 H3 X.xe I3 (stat fr3) st3 go) fun r s4 ⟨u, hr, h4⟩ => ?_)
    subst hr
    refine wpAny_passesOwn hp (thn h4 fun _ s5 ⟨x, H5, I5, r5, y5, st5, fr5⟩ => ?_)
    have I5' := I5.pinned (stat fr5) (T.obj _ _ st5)
    refine wpAny_passesOwn hp (thn (hg _ s5 σ3 H5 x u _ I5' r5 (step x H5 y5)) fun _ s6 ⟨σ6, H6, I6, q6⟩ => ?_)
    refine wpAny_passesOwn hp (thn (hb _ s6 σ6 H6 _ I6 q6) fun f s7 q7 => ?_)
    have again : ∀ {σ7 : St} {H7 : Hp}, Inv X (pins ++ pinsAt fp s5.heap) σ7 H7 s7 → N σ7 H7 → ∃ m, m < n ∧ ∃ i σ' H', Inv X pins σ' H' s7 ∧ tn i s7.heap ∧ (∀ b ∈ fp, H' b = none) ∧ W i m σ' H' := fun {σ7 H7} I7 n7 => by
      obtain ⟨m', hm, w7⟩ := hN σ7 H7 n7
      refine ⟨m', hm, i + 1, σ7, H7, I7.unpinned, T.keep _ _ _ st5 fun b hb o e => (I7.pin (b, o) (List.mem_append_right _ (List.mem_append_right _ (mem_pinsAt hb e)))).1, fun b hb => ?_, w7⟩
      obtain ⟨o, e, d⟩ := T.obj _ _ st5 b hb
      exact (I7.pin (b, o) (List.mem_append_right _ (List.mem_append_right _ (mem_pinsAt hb e)))).2.1
    cases f with
    | next => obtain ⟨σ7, H7, I7, n7⟩ := q7; exact again I7 n7
    | cont => obtain ⟨σ7, H7, I7, n7⟩ := q7; exact again I7 n7
    | brk => obtain ⟨σ7, H7, I7, q7⟩ := q7; exact ⟨σ7, H7, I7.unpinned, q7⟩
    | ret v => obtain ⟨x7, σ7, H7, I7, r7, q7⟩ := q7; exact ⟨x7, σ7, H7, I7.unpinned, r7, q7⟩
end
theorem for_range {lo : Int} {n : Nat} {g : TG} {tb : TS} {D : Ends} {σ : St} {H : Hp} (Pv : Nat → St → Hp → Prop) (h0 : Pv 0 σ H)
    (hs : ∀ i σ H, i < n → Pv i σ H → g (.int (lo + i)) σ H fun σ2 H2 => tb { D with nx := Pv (i + 1), ct := Pv (i + 1), bk := D.nx } σ2 H2) (hd : ∀ σ H, Pv n σ H → D.nx σ H) :
    ∃ W : Nat → Nat → St → Hp → Prop, (∃ m, W 0 m σ H) ∧ ∀ i m σ H, W i m σ H →
      ((Itr lo n).stop i H ∧ D.nx σ H) ∨ ((Itr lo n).go i H ∧ ∃ N : St → Hp → Prop, (∀ σ' H', N σ' H' → ∃ m', m' < m ∧ W (i + 1) m' σ' H') ∧ ∀ x H', (Itr lo n).yld i H x H' → g x σ H' fun σ2 H2 => tb { D with nx := N, ct := N, bk := D.nx } σ2 H2) := by
  refine ⟨fun i m σ H => m = n - i ∧ i ≤ n ∧ Pv i σ H, ⟨n, by simp, Nat.zero_le _, h0⟩, ?_⟩
  rintro i m σ H ⟨rfl, hi, p⟩
  by_cases hlt : i < n
  · refine .inr ⟨hlt, Pv (i + 1), fun σ' H' p' => ⟨n - (i + 1), by omega, rfl, hlt, p'⟩, fun x H' y => ?_⟩
    obtain ⟨e, y⟩ := y
    subst e y
    exact hs i σ _ hlt p
  · have e : i = n := by omega
    subst e
    exact .inl ⟨Nat.le_refl _, hd σ H p⟩
end L2
namespace L2
open PySem PySem.Spec PyProof.Rows
abbrev R2 := V → V → Hp → VK → Prop
def OpR (X : Cx) (f : Value → Value → Sem Value) (r : R2) : Prop :=
  ∀ (pins : List (Addr × Obj)) (s : Shared) (σ : St) (H : Hp) (x y : V) (v u : Value) (Q : VK), Inv X pins σ H s → RelV x v → RelV y u → r x y H Q →
    wpAny (model X.prog X.w) X.A (f v u) (EP X pins σ Q) X.xe s
def UnR (X : Cx) (f : Value → Sem Value) (r : V → Hp → VK → Prop) : Prop :=
  ∀ (pins : List (Addr × Obj)) (s : Shared) (σ : St) (H : Hp) (x : V) (v : Value) (Q : VK), Inv X pins σ H s → RelV x v → r x H Q →
    wpAny (model X.prog X.w) X.A (f v) (EP X pins σ Q) X.xe s
def CallR (X : Cx) (f : Value) (r : List V → Hp → VK → Prop) : Prop :=
  ∀ (pins : List (Addr × Obj)) (s : Shared) (σ : St) (H : Hp) (xs : List V) (us : List Value) (Q : VK), Inv X pins σ H s → Vals xs us → r xs H Q →
    wpAny (model X.prog X.w) X.A (call f us) (EP X pins σ Q) X.xe s
def TruR (X : Cx) (r : V → Hp → (Bool → Hp → Prop) → Prop) : Prop :=
  ∀ (pins : List (Addr × Obj)) (s : Shared) (σ : St) (H : Hp) (x : V) (v : Value) (Q : Bool → Hp → Prop), Inv X pins σ H s → RelV x v → r x H Q →
    wpAny (model X.prog X.w) X.A (truthy v) (TP X pins σ Q) X.xe s
def tOp (r : R2) (ta tb : TE) : TE := fun σ H Q => ta σ H fun x H1 => tb σ H1 fun y H2 => r x y H2 Q
def tUn (r : V → Hp → VK → Prop) (ta : TE) : TE := fun σ H Q => ta σ H fun x H1 => r x H1 Q
def rI (C : Int → Int → Prop) (g : Int → Int → V) : R2 := fun x y H Q => ∃ i j, x = .int i ∧ y = .int j ∧ C i j ∧ Q (g i j) H
def rI0 (g : Int → Int → V) : R2 := fun x y H Q => ∃ i j, x = .int i ∧ y = .int j ∧ Q (g i j) H
def rU (g : Int → V) : V → Hp → VK → Prop := fun x H Q => ∃ i, x = .int i ∧ Q (g i) H
section
variable {X : Cx} {a b c : Expr} {ta tb tc : TE} {pos : Pos}
theorem binT (ha : PE X a ta) (hb : PE X b tb) {pins : List (Addr × Obj)} {s : Shared} {σ : St} {H : Hp} {R : V → V → Hp → Prop} (I : Inv X pins σ H s)
    (h : ta σ H fun x H1 => tb σ H1 fun y H2 => R x y H2) {Q : Value → Shared → Prop} {f : Value → Value → Sem Value}
    (hf : ∀ v u s2 x y H2, Inv X pins σ H2 s2 → RelV x v → RelV y u → R x y H2 → wpAny (model X.prog X.w) X.A (f v u) Q X.xe s2) :
    wpAny (model X.prog X.w) X.A (eval a X.env) (fun v s₁ => wpAny (model X.prog X.w) X.A (eval b X.env) (fun u s₂ => wpAny (model X.prog X.w) X.A (f v u) Q X.xe s₂) X.xe s₁) X.xe s := by
  refine thn (ha pins s σ H _ I h) fun v s1 ⟨x, H1, I1, r1, q1⟩ => ?_
  refine thn (hb pins s1 σ H1 _ I1 q1) fun u s2 ⟨y, H2, I2, r2, q2⟩ => ?_
  exact hf v u s2 x y H2 I2 r1 r2 q2
theorem pe_op {op : Operator} {r : R2} (ho : OpR X (binaryOp op) r) (ha : PE X a ta) (hb : PE X b tb) : PE X (.BinOp a op b pos) (tOp r ta tb) := by
  intro pins s σ H Q I h
  exact wpAny_BinOp (binT ha hb I h fun v u s2 x y H2 I2 rx ry q => ho pins s2 σ H2 x y v u Q I2 rx ry q)
theorem opI {f : Value → Value → Sem Value} {C : Int → Int → Prop} {g : Int → Int → Int}
    (rule : ∀ (i j : Int) (t u : Tok) (s : Shared) (Q : Value → Shared → Prop) (E : Value → Shared → Prop), C i j → Q (.int (g i j) s.toks) { s with toks := s.toks + 1 } → wpAny (model X.prog X.w) X.A (f (.int i t) (.int j u)) Q E s) :
    OpR X f (rI C fun i j => .int (g i j)) := by
  intro pins s σ H x y v u Q I rx ry h
  obtain ⟨i, j, rfl, rfl, hc, q⟩ := h
  obtain ⟨t, rfl⟩ := rx
  obtain ⟨t', rfl⟩ := ry
  exact rule i j t t' s _ _ hc ⟨.int (g i j), H, I.tok _, ⟨_, rfl⟩, q⟩
theorem opI0 {f : Value → Value → Sem Value} {g : Int → Int → Int}
    (rule : ∀ (i j : Int) (t u : Tok) (s : Shared) (Q : Value → Shared → Prop) (E : Value → Shared → Prop), Q (.int (g i j) s.toks) { s with toks := s.toks + 1 } → wpAny (model X.prog X.w) X.A (f (.int i t) (.int j u)) Q E s) :
    OpR X f (rI0 fun i j => .int (g i j)) := by
  intro pins s σ H x y v u Q I rx ry h
  obtain ⟨i, j, rfl, rfl, q⟩ := h
  obtain ⟨t, rfl⟩ := rx
  obtain ⟨t', rfl⟩ := ry
  exact rule i j t t' s _ _ ⟨.int (g i j), H, I.tok _, ⟨_, rfl⟩, q⟩
theorem opB0 {f : Value → Value → Sem Value} {g : Int → Int → Bool}
    (rule : ∀ (i j : Int) (t u : Tok) (s : Shared) (Q : Value → Shared → Prop) (E : Value → Shared → Prop), Q (.bool (g i j)) s → wpAny (model X.prog X.w) X.A (f (.int i t) (.int j u)) Q E s) :
    OpR X f (rI0 fun i j => .bl (g i j)) := by
  intro pins s σ H x y v u Q I rx ry h
  obtain ⟨i, j, rfl, rfl, q⟩ := h
  obtain ⟨t, rfl⟩ := rx
  obtain ⟨t', rfl⟩ := ry
  exact rule i j t t' s _ _ ⟨.bl (g i j), H, I, rfl, q⟩
def CDiv (i j : Int) : Prop := 0 < j ∧ j < 1073741824
def CDivN (i j : Int) : Prop := j ≠ 0 ∧ j.natAbs < 1073741824
def CPow (i j : Int) : Prop := 0 ≤ j ∧ j ≤ 1000000 ∧ i.natAbs < 2 ^ 64
def CMul (i j : Int) : Prop := (-(2 ^ 64) < i ∧ i < 2 ^ 64) ∨ (-(2 ^ 64) < j ∧ j < 2 ^ 64)
theorem CMul.ok {i j : Int} (h : CMul i j) : IntMulOk i j := by
  rcases h with ⟨h1, h2⟩ | ⟨h1, h2⟩
  · exact .of_left (intBits_le_64 h1 h2)
  · exact .of_right (intBits_le_64 h1 h2)
theorem op_add : OpR X (binaryOp .Add) (rI0 fun i j => .int (i + j)) := opI0 fun _ _ _ _ _ _ _ q => add_int q
theorem op_sub : OpR X (binaryOp .Sub) (rI0 fun i j => .int (i - j)) := opI0 fun _ _ _ _ _ _ _ q => sub_int q
theorem op_mul : OpR X (binaryOp .Mult) (rI CMul fun i j => .int (i * j)) := opI fun _ _ _ _ _ _ _ hc q => mul_int q hc.ok
theorem op_fdiv : OpR X (binaryOp .FloorDiv) (rI CDiv fun i j => .int (i / j)) := opI fun i j _ _ _ _ _ hc q => by
  have h1 : (0 : Int) < j := hc.1
  have h2 : j < 1073741824 := hc.2
  exact floordiv_int (by omega) (by rw [Int.fdiv_eq_ediv_of_nonneg i (by omega)]; exact q) (.inl (PyProof.noPylong_small (by omega)))
theorem op_mod : OpR X (binaryOp .Mod) (rI (fun _ j => 0 < j) fun i j => .int (i % j)) := opI fun i j _ _ _ _ _ hc q => by
  have h1 : (0 : Int) < j := hc
  exact mod_int' (by omega) (by rw [Int.fmod_eq_emod_of_nonneg i (by omega)]; exact q)
end
def scal : V → V → Bool
  | .non, .non => true | .non, .int _ => true | .int _, .non => true | .non, .bl _ => true | .bl _, .non => true | .non, .str _ => true | .str _, .non => true
  | .int _, .int _ => true | .bl _, .bl _ => true | .str _, .str _ => true | .byt _, .byt _ => true
  | .int _, .str _ => true | .str _, .int _ => true | .bl _, .str _ => true | .str _, .bl _ => true
  | _, _ => false
def rEq : R2 := fun x y H Q => scal x y = true ∧ Q (.bl (decide (x = y))) H
def rNe : R2 := fun x y H Q => scal x y = true ∧ Q (.bl (!decide (x = y))) H
theorem dec_int {i j : Int} : decide (V.int i = V.int j) = (i == j) := by
  rw [Bool.eq_iff_iff]
  simp
theorem dec_bl {i j : Bool} : decide (V.bl i = V.bl j) = (i == j) := by
  rw [Bool.eq_iff_iff]
  simp
theorem dec_str {i j : Str} : decide (V.str i = V.str j) = (i == j) := by
  rw [Bool.eq_iff_iff]
  simp
theorem dec_byt {i j : Array UInt8} : decide (V.byt i = V.byt j) = (i.toList == j.toList) := by
  rw [Bool.eq_iff_iff]
  cases i
  cases j
  simp
section
variable {X : Cx} {a b c : Expr} {ta tb tc : TE} {pos : Pos}
theorem fin_bl {pins : List (Addr × Obj)} {σ : St} {H : Hp} {s : Shared} {Q : VK} {k k' : Bool} (I : Inv X pins σ H s) (q : Q (.bl k) H) (e : k = k') : EP X pins σ Q (.bool k') s := by
  subst e
  exact ⟨.bl k, H, I, rfl, q⟩
theorem op_eq : OpR X (compareOp .Eq) rEq := by
  intro pins s σ H x y v u Q I rx ry h
  obtain ⟨hs, q⟩ := h
  cases x with
  | non =>
    cases rx
    cases y with
    | non => cases ry; exact PySem.EqNone.eq_none_none (fin_bl I q (by simp))
    | bl j => cases ry; exact PySem.EqNone.eq_none_bool (fin_bl I q (by simp))
    | int j => obtain ⟨t', rfl⟩ := ry; exact PySem.EqNone.eq_none_int (fin_bl I q (by simp))
    | str j => obtain ⟨t', rfl⟩ := ry; exact PySem.EqNone.eq_none_str (fin_bl I q (by simp))
    | _ => exact absurd (show false = true from hs) Bool.false_ne_true
  | bl i =>
    cases rx
    cases y with
    | non => cases ry; exact PySem.EqNone.eq_bool_none (fin_bl I q (by simp))
    | bl j => cases ry; exact eq_bool (fin_bl I q dec_bl)
    | str j => obtain ⟨t', rfl⟩ := ry; exact PySem.EqMixed.eq_bool_str (fin_bl I q (by simp))
    | _ => exact absurd (show false = true from hs) Bool.false_ne_true
  | int i =>
    obtain ⟨t, rfl⟩ := rx
    cases y with
    | non => cases ry; exact PySem.EqNone.eq_int_none (fin_bl I q (by simp))
    | int j => obtain ⟨t', rfl⟩ := ry; exact eq_int (fin_bl I q dec_int)
    | str j => obtain ⟨t', rfl⟩ := ry; exact PySem.EqMixed.eq_int_str (fin_bl I q (by simp))
    | _ => exact absurd (show false = true from hs) Bool.false_ne_true
  | str i =>
    obtain ⟨t, rfl⟩ := rx
    cases y with
    | non => cases ry; exact PySem.EqNone.eq_str_none (fin_bl I q (by simp))
    | bl j => cases ry; exact PySem.EqMixed.eq_str_bool (fin_bl I q (by simp))
    | int j => obtain ⟨t', rfl⟩ := ry; exact PySem.EqMixed.eq_str_int (fin_bl I q (by simp))
    | str j => obtain ⟨t', rfl⟩ := ry; exact eq_str (fin_bl I q dec_str)
    | _ => exact absurd (show false = true from hs) Bool.false_ne_true
  | byt i =>
    obtain ⟨t, rfl⟩ := rx
    cases y with
    | byt j => obtain ⟨t', rfl⟩ := ry; exact PySem.W.eq_bytes (fin_bl I q dec_byt)
    | _ => exact absurd (show false = true from hs) Bool.false_ne_true
  | _ => cases y <;> exact absurd (show false = true from hs) Bool.false_ne_true
theorem op_ne : OpR X (compareOp .NotEq) rNe := by
  intro pins s σ H x y v u Q I rx ry h
  obtain ⟨hs, q⟩ := h
  cases x with
  | non =>
    cases rx
    cases y with
    | non => cases ry; exact PySem.EqNone.ne_none_none (fin_bl I q (by simp))
    | bl j => cases ry; exact PySem.EqNone.ne_none_bool (fin_bl I q (by simp))
    | int j => obtain ⟨t', rfl⟩ := ry; exact PySem.EqNone.ne_none_int (fin_bl I q (by simp))
    | str j => obtain ⟨t', rfl⟩ := ry; exact PySem.EqNone.ne_none_str (fin_bl I q (by simp))
    | _ => exact absurd (show false = true from hs) Bool.false_ne_true
  | bl i =>
    cases rx
    cases y with
    | non => cases ry; exact PySem.EqNone.ne_bool_none (fin_bl I q (by simp))
    | bl j => cases ry; exact ne_bool (fin_bl I q (congrArg not dec_bl))
    | str j => obtain ⟨t', rfl⟩ := ry; exact PySem.EqMixed.ne_bool_str (fin_bl I q (by simp))
    | _ => exact absurd (show false = true from hs) Bool.false_ne_true
  | int i =>
    obtain ⟨t, rfl⟩ := rx
    cases y with
    | non => cases ry; exact PySem.EqNone.ne_int_none (fin_bl I q (by simp))
    | int j => obtain ⟨t', rfl⟩ := ry; exact ne_int (fin_bl I q (congrArg not dec_int))
    | str j => obtain ⟨t', rfl⟩ := ry; exact PySem.EqMixed.ne_int_str (fin_bl I q (by simp))
    | _ => exact absurd (show false = true from hs) Bool.false_ne_true
  | str i =>
    obtain ⟨t, rfl⟩ := rx
    cases y with
    | non => cases ry; exact PySem.EqNone.ne_str_none (fin_bl I q (by simp))
    | bl j => cases ry; exact PySem.EqMixed.ne_str_bool (fin_bl I q (by simp))
    | int j => obtain ⟨t', rfl⟩ := ry; exact PySem.EqMixed.ne_str_int (fin_bl I q (by simp))
    | str j => obtain ⟨t', rfl⟩ := ry; exact ne_str (fin_bl I q (congrArg not dec_str))
    | _ => exact absurd (show false = true from hs) Bool.false_ne_true
  | byt i =>
    obtain ⟨t, rfl⟩ := rx
    cases y with
    | byt j => obtain ⟨t', rfl⟩ := ry; exact PySem.W.ne_bytes (fin_bl I q (congrArg not dec_byt))
    | _ => exact absurd (show false = true from hs) Bool.false_ne_true
  | _ => cases y <;> exact absurd (show false = true from hs) Bool.false_ne_true
theorem op_le : OpR X (compareOp .LtE) (rI0 fun i j => .bl (decide (i ≤ j))) := opB0 fun _ _ _ _ _ _ _ q => le_int q
theorem op_gt : OpR X (compareOp .Gt) (rI0 fun i j => .bl (decide (j < i))) := opB0 fun _ _ _ _ _ _ _ q => gt_int q
theorem op_ge : OpR X (compareOp .GtE) (rI0 fun i j => .bl (decide (j ≤ i))) := opB0 fun _ _ _ _ _ _ _ q => ge_int q
theorem op_isN : OpR X (compareOp .Is) (fun x y H Q => y = .non ∧ Q (.bl (decide (x = .non))) H) := by
  intro pins s σ H x y v u Q I rx ry h
  obtain ⟨rfl, q⟩ := h
  cases ry
  refine is_none_gen (fin_bl I q ?_)
  cases x <;> first
    | (cases rx; rfl)
    | (obtain ⟨t, rfl⟩ := rx; rfl)
def isObj : HO → Bool
  | .lst _ => true
  | .ins _ _ _ => true
  | _ => false
theorem OpR.or {f : Value → Value → Sem Value} {r r' : R2} (h : OpR X f r) (h' : OpR X f r') : OpR X f (fun x y H Q => r x y H Q ∨ r' x y H Q) := by
  intro pins s σ H x y v u Q I rx ry q
  rcases q with q | q
  · exact h pins s σ H x y v u Q I rx ry q
  · exact h' pins s σ H x y v u Q I rx ry q
theorem nomark (b : Expr) {op : CmpOp} (h : op ≠ .In := by decide) (h2 : op ≠ .NotIn := by decide) : behindInMarks op b = false := by
  have e1 : (op == CmpOp.In) = false := by cases op <;> first | rfl | exact absurd rfl h
  have e2 : (op == CmpOp.NotIn) = false := by cases op <;> first | rfl | exact absurd rfl h2
  cases b <;> simp [behindInMarks, e1, e2]
theorem pe_cmpR {op : CmpOp} {r : R2} (ho : OpR X (compareOp op) r) (ha : PE X a ta) (hb : PE X b tb) (hm : behindInMarks op b = false) : PE X (.Compare a [op] [b] pos) (tOp r ta tb) := by
  intro pins s σ H Q I h
  exact wpAny_Compare1 (binT ha hb I h fun v u s2 x y H2 I2 rx ry q => ho pins s2 σ H2 x y v u Q I2 rx ry q) hm
def tTest (t : TE) : TT := fun σ H Q => t σ H fun x H' => ∃ k, x = .bl k ∧ Q k H'
theorem pt_cmpR {op : CmpOp} {r : R2} (ho : OpR X (compareOp op) r) (ha : PE X a ta) (hb : PE X b tb) (hm : behindInMarks op b = false) : PT X (.Compare a [op] [b] pos) (tTest (tOp r ta tb)) := by
  intro pins s σ H Q I h
  refine wpAny_isTrue_Compare1 (thn (ha pins s σ H _ I h) fun v s1 ⟨x, H1, I1, r1, q1⟩ => thn (hb pins s1 σ H1 _ I1 q1) fun u s2 ⟨y, H2, I2, r2, q2⟩ =>
    thn (ho pins s2 σ H2 x y v u _ I2 r1 r2 q2) fun c s3 ⟨z, H3, I3, r3, k, e, q3⟩ => ?_) hm
  subst e
  cases r3
  exact wpAny_truthy_bool ⟨H3, I3, q3⟩
def tChain (r r' : R2) (ta tb tc : TE) : TE := fun σ H Q => ta σ H fun x H1 => tb σ H1 fun y H2 => r x y H2 fun z H3 => ∃ k, z = .bl k ∧
  (if k = true then tc σ H3 fun w' H4 => r' y w' H4 Q else Q (.bl false) H3)
theorem pe_chain {op op' : CmpOp} {r r' : R2} (ho : OpR X (compareOp op) r) (ho' : OpR X (compareOp op') r') (ha : PE X a ta) (hb : PE X b tb) (hc : PE X c tc)
    (hm : lastMarks [op, op'] [b, c] = false := by with_unfolding_all rfl) : PE X (.Compare a [op, op'] [b, c] pos) (tChain r r' ta tb tc) := by
  intro pins s σ H Q I h
  refine Compare_chain (thn (ha pins s σ H _ I h) fun v s1 ⟨x, H1, I1, r1, q1⟩ => chain_link (thn (hb pins s1 σ H1 _ I1 q1) fun u s2 ⟨y, H2, I2, r2, q2⟩ =>
    thn (ho pins s2 σ H2 x y v u _ I2 r1 r2 q2) fun d s3 ⟨z, H3, I3, r3, k, e, q3⟩ => ?_)) hm
  subst e
  cases r3
  refine wpAny_truthy_bool ?_
  cases k with
  | false => exact ite_ff ⟨.bl false, H3, I3, rfl, q3⟩
  | true => exact ite_tt (chain_last (thn (hc pins s3 σ H3 _ I3 q3) fun w' s4 ⟨z', H4, I4, r4, q4⟩ => ho' pins s4 σ H4 y z' u w' Q I4 r2 r4 q4))
def TruV (K : PySem.W.Frag) (x : V) (H : Hp) (k : Bool) : Prop :=
  match x with
  | .non => k = false
  | .bl b => k = b
  | .int i => k = (i != 0)
  | .str y => y.length ≤ sizeLine ∧ k = ((y.length : Int) != 0)
  | .byt y => y.size ≤ sizeLine ∧ k = ((y.size : Int) != 0)
  | .ref p => (∃ xs, SqL K H p xs ∧ k = !xs.isEmpty) ∨ (∃ xs, SqT K H p xs ∧ k = !xs.isEmpty) ∨ ∃ kvs, H p = some (.dK kvs) ∧ k = !kvs.isEmpty
  | _ => False
theorem line63 : (sizeLine : Nat) < 2 ^ 63 := by rw [sizeLine_eq]; decide
def PlainIxT (b : Expr) : Prop := ∀ o i, subscripted b false o i = operate [o, i] (getItem o i)
theorem vals1 {x : V} {us : List Value} (r : Vals [x] us) : ∃ u, us = [u] ∧ RelV x u := by
  cases r with
  | cons r1 r2 => cases r2; exact ⟨_, rfl, r1⟩
theorem vals2 {x y : V} {us : List Value} (r : Vals [x, y] us) : ∃ u w', us = [u, w'] ∧ RelV x u ∧ RelV y w' := by
  cases r with
  | cons r1 r2 =>
    cases r2 with
    | cons r3 r4 => cases r4; exact ⟨_, _, rfl, r1, r3⟩
theorem call_max2 (hc : X.calm = true) : CallR X (.builtin "max") (fun xs H Q => ∃ i j, xs = [.int i, .int j] ∧ Q (.int (if j > i then j else i)) H) := by
  intro pins s σ H xs us Q I r h
  obtain ⟨i, j, rfl, q⟩ := h
  obtain ⟨u, w', rfl, ⟨t, rfl⟩, ⟨t', rfl⟩⟩ := vals2 r
  refine max_two_ints (I.ok.hd hc) fun h' tk k => ⟨_, H, I.kept k, ?_, q⟩
  by_cases hj : j > i
  · rw [if_pos hj, if_pos hj]; exact ⟨_, rfl⟩
  · rw [if_neg hj, if_neg hj]; exact ⟨_, rfl⟩
theorem call_int1 : CallR X (.type "int") (fun xs H Q => (∃ i, xs = [.int i] ∧ Q (.int i) H) ∨ ∃ k, xs = [.bl k] ∧ Q (.int (if k then 1 else 0)) H) := by
  intro pins s σ H xs us Q I r h
  rcases h with ⟨i, rfl, q⟩ | ⟨k, rfl, q⟩
  · obtain ⟨u, rfl, t, rfl⟩ := vals1 r
    exact call_int_int ⟨.int i, H, I, ⟨_, rfl⟩, q⟩
  · obtain ⟨u, rfl, r1⟩ := vals1 r
    cases r1
    exact call_int_bool ⟨.int (if k then 1 else 0), H, I.tok _, ⟨_, rfl⟩, q⟩
def LenV (K : PySem.W.Frag) (x : V) (H : Hp) (n : Nat) : Prop :=
  match x with
  | .str y => y.length ≤ sizeLine ∧ n = y.length
  | .byt y => y.size ≤ sizeLine ∧ n = y.size
  | .ref p => (∃ xs, SqL K H p xs ∧ n = xs.length) ∨ ∃ xs, SqT K H p xs ∧ n = xs.length
  | _ => False
end
end L2
namespace L2
open PySem PySem.Spec PyProof.Rows
structure ObjM (h : Heap) (x dx C : Addr) (mA : Str → Option Value) : Prop where
  obj : h.get? x = some (PySem.W.instObj C dx)
  ns : h.Ns1 dx mA
  ne : dx ≠ x
section
variable {prog : Program} {w : World} {A : Around} {E : Value → Shared → Prop} {s : Shared} {K : PySem.W.Frag} {x dx C f : Addr} {mA : Str → Option Value} {name : Str} {v : Value}
end
def putF (f : Str) (v : V) : List (Str × V) → List (Str × V)
  | [] => [(f, v)]
  | (g, x) :: r => if g = f then (g, v) :: r else (g, x) :: putF f v r
section
variable {P : Program} {w : World} {H H' : Hp} {h h' : Heap} {a C dx : Addr} {fs fs' : List (Str × V)}
end
structure Cls (K : PySem.W.Frag) (C : Addr) : Prop where
  pg : PySem.W.plainGet K C Str.empty = true
  hd : PySem.W.hasDictIn K C = true
  po : PySem.W.plainOver K C = true
  sa : PySem.W.findIn K (.ref C) "__setattr__" = some (some (.builtin "object.__setattr__"))
theorem Cls.get {K : PySem.W.Frag} {C : Addr} (c : Cls K C) (f : Str) : PySem.W.plainGet K C f = true := c.pg
def NoAttr (K : PySem.W.Frag) (C : Addr) (f : Str) : Prop := PySem.W.findIn K (.ref C) f = some none
structure Con (K : PySem.W.Frag) (C : Addr) (f : Str) (v : V) (u : Value) : Prop where
  at_ : PySem.W.findIn K (.ref C) f = some (some u)
  rel : RelV v u
  get : PySem.W.specialIn K u "__get__" = some none
  cp : PySem.W.copiedNames.contains f = false
structure Meth (K : PySem.W.Frag) (C : Addr) (m : Str) (f : Addr) : Prop where
  at_ : PySem.W.findIn K (.ref C) m = some (some (.ref f))
  fn : PySem.W.isFn K (.ref f) = true
  kp : PySem.W.keepIn K (.ref f) = true
section
variable {X : Cx} {pins : List (Addr × Obj)} {σ : St} {H : Hp} {s : Shared} {a C dx : Addr} {fs : List (Str × V)} {f : Str} {v : V} {A : Around} {E : Value → Shared → Prop}
end
def tFld (K : PySem.W.Frag) (ta : TE) (f : Str) : TE := fun σ H Q => ta σ H fun x H1 => ∃ a C dx fs v, x = .ref a ∧ H1 a = some (.ins C dx fs) ∧ Cls K C ∧ NoAttr K C f ∧ fs.lookup f = some v ∧ Q v H1
def tCon (K : PySem.W.Frag) (ta : TE) (f : Str) : TE := fun σ H Q => ta σ H fun x H1 => ∃ a C dx fs v u, x = .ref a ∧ H1 a = some (.ins C dx fs) ∧ Cls K C ∧ Con K C f v u ∧ fs.lookup f = none ∧ Q v H1
def sFld (K : PySem.W.Frag) (ta tv : TE) (f : Str) : TS := fun D σ H => tv σ H fun y H1 => ta σ H1 fun x H2 => ∃ a C dx fs, x = .ref a ∧ H2 a = some (.ins C dx fs) ∧ Cls K C ∧ NoAttr K C f ∧ fs.length < 1000 ∧
  D.nx σ (upd H2 a (.ins C dx (putF f y fs)))
def InOp (X : Cx) (op : Operator) (rd : V → V → Hp → VK → Prop) : Prop :=
  ∀ (pins : List (Addr × Obj)) (s : Shared) (σ : St) (H : Hp) (x y : V) (u v : Value) (Q : VK), Inv X pins σ H s → RelV x u → RelV y v → rd x y H Q → wpAny (model X.prog X.w) X.A (inplaceOp op u v) (EP X pins σ Q) X.xe s
def sFldAug (K : PySem.W.Frag) (ta tv : TE) (rd : V → V → Hp → VK → Prop) (f : Str) : TS := fun D σ H => ta σ H fun x H1 => ∃ a C dx fs v, x = .ref a ∧ H1 a = some (.ins C dx fs) ∧ Cls K C ∧ NoAttr K C f ∧ fs.lookup f = some v ∧
  tv σ H1 fun y H2 => rd v y H2 fun z H3 => ∃ dx' fs', H3 a = some (.ins C dx' fs') ∧ fs'.length < 1000 ∧ D.nx σ (upd H3 a (.ins C dx' (putF f z fs')))
section
variable {X : Cx} {o e value : Expr} {f : Str} {pos pos' tpos : Pos} {ta tv : TE}
def rAdd : V → V → Hp → VK → Prop := fun x y H Q => ∃ i j, x = .int i ∧ y = .int j ∧ Q (.int (i + j)) H
def rSub : V → V → Hp → VK → Prop := fun x y H Q => ∃ i j, x = .int i ∧ y = .int j ∧ Q (.int (i - j)) H
end
section
variable {X : Cx} {pins : List (Addr × Obj)} {σ : St} {H : Hp} {s : Shared} {A : Around} {E : Value → Shared → Prop} {Q : Value → Shared → Prop} {c : Value} {b : Bool}
inductive TyOf (K : PySem.W.Frag) (H : Hp) : V → Value → Prop where
  | non : TyOf K H .non (.type "NoneType")
  | bl (x : Bool) : TyOf K H (.bl x) (.type "bool")
  | int (i : Int) : TyOf K H (.int i) (.type "int")
  | str (x : Str) : TyOf K H (.str x) (.type "str")
  | flt (x : UInt64) : TyOf K H (.flt x) (.type "float")
  | lst {a : Addr} {xs : List V} (e : H a = some (.lst xs)) : TyOf K H (.ref a) (.type "list")
  | frz {a : Addr} {o : Obj} {xs : List V} (e : H a = some (.frz o (.lst xs))) : TyOf K H (.ref a) (.type "list")
  | tup {a : Addr} {xs : List V} (e : H a = some (.tup xs)) : TyOf K H (.ref a) (.type "tuple")
  | dK {a : Addr} {kvs : List (Key × V)} (e : H a = some (.dK kvs)) : TyOf K H (.ref a) (.type "dict")
  | dT {a : Addr} {kvs : List (List Key × V)} (e : H a = some (.dT kvs)) : TyOf K H (.ref a) (.type "dict")
  | ins {a C dx : Addr} {fs : List (Str × V)} (e : H a = some (.ins C dx fs)) (cl : Cls K C) (ha : PySem.W.findIn K (.ref C) "__class__" = some (some (.builtin "object.__class__")))
      (hn : PySem.W.specialIn K (.builtin "object.__class__") "__get__" = some (some (.builtin "getset_descriptor.__get__"))) (htk : PySem.W.takesIn K (.builtin "object.__class__") = some true)
      (hm : PySem.W.mroIn K C (.type "object") = some true) : TyOf K H (.ref a) (.ref C)
end
end L2
namespace L2
open PySem PySem.Spec PyProof.Rows
structure Room (k : Nat) (A : Around) : Prop where
  hd : A.handled = none
  dp : A.depth + 3 * k + 5 < recursionLimit
  un : A.units + 16 * k + 200 < cLine
  gd : A.guards = some []
theorem Room.mono {j k : Nat} {A : Around} (r : Room k A) (h : j ≤ k) : Room j A := ⟨r.hd, by have := r.dp; omega, by have := r.un; omega, r.gd⟩
theorem Room.deeper {k : Nat} {A : Around} (r : Room (k + 1) A) (env : Env) : Room k (A.deeper env) :=
  ⟨r.hd, by have := r.dp; show A.depth + 1 + 3 * k + 5 < _; omega, by have := r.un; show A.units + 3 + 16 * k + 200 < _; omega, r.gd⟩
theorem Room.in1 {k : Nat} {A : Around} (r : Room (k + 1) A) : Room k A.in1 :=
  ⟨r.hd, by have := r.dp; show A.depth + 3 * k + 5 < _; omega, by have := r.un; show A.units + 1 + 16 * k + 200 < _; omega, r.gd⟩
theorem Room.depth {k : Nat} {A : Around} (r : Room k A) : A.depth < recursionLimit := by have := r.dp; omega
theorem Room.units {k : Nat} {A : Around} (r : Room k A) : A.units + 64 < cLine := by have := r.un; omega
def tNil : TA := fun _ H Q => Q [] H
def tCons (ta : TE) (tr : TA) : TA := fun σ H Q => ta σ H fun x H1 => tr σ H1 fun xs H2 => Q (x :: xs) H2
section
variable {X : Cx} {e : Expr} {es : List Expr} {te : TE} {t : TA} {pos : Pos}
theorem pa_nil : PA X [] tNil := fun _ _ _ _ H Q I h => Calls.spliced_nil ⟨[], H, I, .nil, h⟩
theorem pa_cons (ha : PE X e te) (hr : PA X es t) (hs : starEach (e :: es) X.env = (false, eval e X.env) :: starEach es X.env := by rfl) : PA X (e :: es) (tCons te t) := by
  intro pos pins s σ H Q I h
  rw [hs]
  show wpAny _ _ (spliced ((false, eval e X.env) :: backTo pos (starEach es X.env))) _ _ s
  refine Calls.spliced_cons (thn (ha pins s σ H _ I h) fun u s1 ⟨x, H1, I1, r1, q1⟩ => ?_)
  exact thn (hr pos pins s1 σ H1 _ I1 q1) fun us s2 ⟨xs, H2, I2, r2, q2⟩ => ⟨x :: xs, H2, I2, .cons r1 r2, q2⟩
def tTup (t : TA) : TE := fun σ H Q => t σ H fun xs H1 => xs.length ≤ sizeLine ∧ ∀ p, H1 p = none → Q (.ref p) (upd H1 p (.tup xs))
def tLst (t : TA) : TE := fun σ H Q => t σ H fun xs H1 => xs.length ≤ sizeLine ∧ ∀ p, H1 p = none → Q (.ref p) (upd H1 p (.lst xs))
theorem pe_tup {x1} (h : PA X es t) : PE X (.Tuple es x1 pos) (tTup t) := by
  intro pins s σ H Q I hq
  refine wpAny_Tuple_spliced (thn (h pos pins s σ H _ I hq) fun us s1 ⟨xs, H1, I1, r, z, q⟩ => ⟨by rw [← r.length]; exact z, ?_⟩)
  have hf : H1 s1.heap.objs.size = none := I1.hok.fresh (Nat.le_refl _)
  refine ⟨.ref s1.heap.objs.size, upd H1 s1.heap.objs.size (.tup xs), I1.laid (t' := s1.toks) (fun b u e => Heap.get?_push_of_some _ e) (Nat.le_refl _) ?_, rfl, q _ hf⟩
  exact ⟨z, us, r, ⟨_, Heap.get?_push_size _ rfl, rfl, _, rfl⟩⟩
theorem pe_lst (h : PA X es t) : PE X (.List es pos) (tLst t) := by
  intro pins s σ H Q I hq
  refine wpAny_List_spliced (thn (h pos pins s σ H _ I hq) fun us s1 ⟨xs, H1, I1, r, z, q⟩ => ⟨by rw [← r.length]; exact z, ?_⟩)
  have hf : H1 s1.heap.objs.size = none := I1.hok.fresh (Nat.le_refl _)
  refine ⟨.ref s1.heap.objs.size, upd H1 s1.heap.objs.size (.lst xs), I1.laid (t' := s1.toks) (fun b u e => Heap.get?_push_of_some _ e) (Nat.le_refl _) ?_, rfl, q _ hf⟩
  exact ⟨z, us, 0, r, Heap.get?_push_size _ rfl⟩
end
abbrev Sp := List V → Hp → VK → XK → Prop
abbrev CXT := List Env → Hp → Shared → XK → Value → Shared → Prop
structure Env0 (P : Program) (w : World) (K : PySem.W.Frag) (mg : Str → Option Value) (base : Heap) (A : Around) (outer : List Env) (s : Shared) (H : Hp) : Prop where
  frames : A.frames = some outer
  mod : Mod K mg base
  bs : ∀ b o, base.get? b = some o → s.heap.get? b = some o ∧ H b = none
  bsz : base.objs.size ≤ s.heap.objs.size
  funs : s.heap.FunFrames base outer
  frf : ∀ b ∈ frs outer, H b = none
  hok : HOk P w H s.heap
  bare : AllBare s.gens
def CE (outer : List Env) (P : Program) (w : World) (H : Hp) (s : Shared) (Q : VK) (u : Value) (s' : Shared) : Prop :=
  ∃ v H', s'.os = s.os ∧ AllBare s'.gens ∧ Un (frs outer) [] H H' s.heap s'.heap ∧ HOk P w H' s'.heap ∧ RelV v u ∧ Q v H'
def CR (CX : CXT) (outer : List Env) (P : Program) (w : World) (H : Hp) (s : Shared) (Q : VK) (E : XK) (r : Result) (s' : Shared) : Prop :=
  match r with
  | .ok (.ret u) => CE outer P w H s Q u s'
  | .ok _ => False
  | .error e => CX outer H s E e s'
structure FnOk (P : Program) (w : World) (K : PySem.W.Frag) (mg : Str → Option Value) (base : Heap) (CX : CXT) (k : Nat) (f : Addr) (fd : FuncData) (ps : List Str) (sp : Sp) : Prop where
  len : ∀ vs H Q E, sp vs H Q E → vs.length = ps.length
  run : ∀ (A : Around) (outer : List Env) (s : Shared) (H : Hp) (args : Args) (us : List Value) (vs : List V) (Q : VK) (E : XK), Room k A → Env0 P w K mg base A outer s H → BindsTo s fd args (ps.zip us) → Vals vs us → sp vs H Q E →
    codeAny (model P w) A (.call (.ref f) args) (CR CX outer P w H s Q E) s
theorem FnOk.mono {P : Program} {w : World} {K : PySem.W.Frag} {mg : Str → Option Value} {base : Heap} {CX : CXT} {j k : Nat} {f : Addr} {fd : FuncData} {ps : List Str} {sp : Sp} (F : FnOk P w K mg base CX j f fd ps sp) (h : j ≤ k) :
    FnOk P w K mg base CX k f fd ps sp := ⟨F.len, fun A outer s H args us vs Q E hr => F.run A outer s H args us vs Q E (hr.mono h)⟩
theorem FnOk.imp {P : Program} {w : World} {K : PySem.W.Frag} {mg : Str → Option Value} {base : Heap} {CX : CXT} {k : Nat} {f : Addr} {fd : FuncData} {ps : List Str} {sp sp' : Sp} (F : FnOk P w K mg base CX k f fd ps sp)
    (h : ∀ vs H Q E, sp' vs H Q E → sp vs H Q E) : FnOk P w K mg base CX k f fd ps sp' :=
  ⟨fun vs H Q E q => F.len vs H Q E (h _ _ _ _ q), fun A outer s H args us vs Q E hr he hb hv hs => F.run A outer s H args us vs Q E hr he hb hv (h _ _ _ _ hs)⟩
theorem Env0.in1 {P : Program} {w : World} {K : PySem.W.Frag} {mg : Str → Option Value} {base : Heap} {A : Around} {outer : List Env} {s : Shared} {H : Hp} (e : Env0 P w K mg base A outer s H) :
    Env0 P w K mg base A.in1 outer s H := ⟨e.frames, e.mod, e.bs, e.bsz, e.funs, e.frf, e.hok, e.bare⟩
section
variable {X : Cx} {pins : List (Addr × Obj)} {σ : St} {H : Hp} {s s' : Shared}
theorem Inv.env0 (I : Inv X pins σ H s) : Env0 X.prog X.w X.K X.mg X.base X.A X.stack s H :=
  ⟨I.ok.frames, I.ok.mod, I.bs, Nat.le_trans I.ok.bsz I.sz, I.stack, I.stkFree, I.hok, I.bare⟩
theorem Inv.after {Q : VK} {u : Value} (I : Inv X pins σ H s) (h : CE X.stack X.prog X.w H s Q u s') : EP X pins σ Q u s' := by
  obtain ⟨v, H', os, bare, un, hok, r, q⟩ := h
  obtain ⟨hh, g, d, t, os'⟩ := s'
  obtain rfl : os' = s.os := os
  exact ⟨v, H', I.call (h' := hh) (g' := g) (d' := d) (t' := t) (ch := []) un hok bare (fun b z => absurd z (by simp)), r, q⟩
end
def tCall (sp : Sp) (dvs : List V) (E : XK) (t : TA) : TE := fun σ H Q => t σ H fun vs H1 => sp (vs ++ dvs) H1 Q E
def tMeth (C : Addr) (m : Str) (sp : Sp) (dvs : List V) (E : XK) (ta : TE) (t : TA) : TE := fun σ H Q => ta σ H fun x H1 => ∃ a dx fs, x = .ref a ∧ H1 a = some (.ins C dx fs) ∧ fs.lookup m = none ∧
  t σ H1 fun vs H2 => sp (x :: (vs ++ dvs)) H2 Q E
def tMake (C : Addr) (sp : Sp) (dvs : List V) (E : XK) (t : TA) : TE := fun σ H Q => t σ H fun vs H1 => ∀ x dx, H1 x = none → H1 dx = none → dx ≠ x →
  sp (.ref x :: (vs ++ dvs)) (upd (upd H1 dx (.own x)) x (.ins C dx [])) (fun v H2 => v = .non ∧ Q (.ref x) H2) E
def Binds (K : PySem.W.Frag) (fd : FuncData) (ps : List Str) (ds : List Value) : Prop :=
  ∀ (s : Shared) (us : List Value), K.In s.heap → (us ++ ds).length = ps.length → BindsTo s fd ⟨us, []⟩ (ps.zip (us ++ ds))
theorem Binds.all {K : PySem.W.Frag} {fd : FuncData} {ps : List Str} (h : ∀ us : List Value, us.length = ps.length → bindArgs fd ⟨us, []⟩ = pure (ps.zip us)) : Binds K fd ps [] := fun s us _ hl => by
  rw [List.append_nil] at hl ⊢
  exact .of_eq (h us hl)
def Passes (CX : CXT) (X : Cx) (E : XK) : Prop := ∀ (pins : List (Addr × Obj)) (σ : St) (H : Hp) (s : Shared) (e : Value) (s' : Shared), Inv X pins σ H s → CX X.stack H s E e s' → X.xe e s'
section
variable {X : Cx} {CX : CXT} {k : Nat} {f C : Addr} {fd : FuncData} {ps : List Str} {sp : Sp} {dvs : List V} {ds : List Value} {E : XK} {x m : Str} {p pos apos : Pos} {e o : Expr} {es : List Expr} {ta : TE} {t : TA}
theorem run_fn {pins : List (Addr × Obj)} {σ : St} {H : Hp} {s : Shared} {Q : VK} {us : List Value} {vs : List V} (F : FnOk X.prog X.w X.K X.mg X.base CX k f fd ps sp) (hr : Room k X.A) (hb : Binds X.K fd ps ds) (hd : Vals dvs ds) (hx : Passes CX X E)
    (I : Inv X pins σ H s) (r : Vals vs us) (h : sp (vs ++ dvs) H Q E) : wpAny (model X.prog X.w) X.A (call (.ref f) us) (EP X pins σ Q) X.xe s := by
  have r2 : Vals (vs ++ dvs) (us ++ ds) := r.append hd
  have hl : (us ++ ds).length = ps.length := by rw [← r2.length]; exact F.len _ _ _ _ h
  refine wpAny_call (codeAny_mono (F.run X.A X.stack s H ⟨us, []⟩ (us ++ ds) (vs ++ dvs) Q E hr I.env0 (hb s us I.kIn hl) r2 h) fun r s' hq => ?_)
  cases r with
  | error e => exact hx pins σ H s e s' I hq
  | ok fl =>
    cases fl with
    | ret u => exact I.after hq
    | next => exact False.elim hq
    | brk => exact False.elim hq
    | cont => exact False.elim hq
theorem pe_call (F : FnOk X.prog X.w X.K X.mg X.base CX k f fd ps sp) (hr : Room k X.A) (hg : Gl X x) (hm : X.mg x = some (.ref f)) (hk : PySem.W.keepIn X.K (.ref f) = true) (hb : Binds X.K fd ps ds) (hd : Vals dvs ds) (hx : Passes CX X E)
    (ha : PA X (e :: es) t) (hdb : (x == ("__debug__" : Str)) = false := by decide) (he : starEach (e :: es) X.env = (false, eval e X.env) :: starEach es X.env := by rfl) (hpl : (backTo pos (starEach es X.env)).any (·.1) = false := by rfl) :
    PE X (.Call (.Name x p) (e :: es) [] pos) (tCall sp dvs E t) := by
  intro pins s σ H Q I h
  refine wpAny_Call_Name_kw (ld_glob I hg hm ?_ hdb)
  refine PySem.W.callWith_K (h₀ := X.base) I.ok.mod.kin hk (thn (ha pos pins s σ H _ I h) fun us s1 ⟨vs, H1, I1, r, q⟩ => ⟨I1.kIn, ?_⟩) he hpl
  exact run_fn F hr hb hd hx I1 r q
structure Mk (K : PySem.W.Frag) (C f : Addr) : Prop where
  makes : PySem.W.makesIn K C = true
  init : PySem.W.findIn K (.ref C) "__init__" = some (some (.ref f))
  fn : PySem.W.isFn K (.ref f) = true
  kp : PySem.W.keepIn K (.ref C) = true
end
def PK (X : Cx) (kws : List Keyword) (t : TA) : Prop :=
  ∀ (pos : Pos) (pins : List (Addr × Obj)) (s : Shared) (σ : St) (H : Hp) (Q : List V → Hp → Prop), Inv X pins σ H s → t σ H Q → wpAny (model X.prog X.w) X.A (evalAll ((backToKw pos (keywordEach kws X.env)).map (·.2))) (AP X pins σ Q) X.xe s
section
variable {X : Cx} {CX : CXT} {k : Nat} {f C : Addr} {fd : FuncData} {ps ks : List Str} {sp : Sp} {E : XK} {x m : Str} {p pos apos kpos : Pos} {e o : Expr} {es : List Expr} {kws : List Keyword} {te ta : TE} {t tk : TA} {nm : Option Str}
structure KBinds (K : PySem.W.Frag) (fd : FuncData) (ps ks : List Str) (g : List Value → List Value → List Value) (gV : List V → List V → List V) : Prop where
  to : ∀ (s : Shared) (us ws : List Value), K.In s.heap → (g us ws).length = ps.length → BindsTo s fd ⟨us, ks.zip ws⟩ (ps.zip (g us ws))
  rel : ∀ {vs : List V} {us : List Value} {zs : List V} {ws : List Value}, Vals vs us → Vals zs ws → Vals (gV vs zs) (g us ws)
def tCallK (sp : Sp) (gV : List V → List V → List V) (E : XK) (t tk : TA) : TE := fun σ H Q => t σ H fun vs H1 => tk σ H1 fun zs H2 => sp (gV vs zs) H2 Q E
variable {g : List Value → List Value → List Value} {gV : List V → List V → List V}
end
structure FnScope (N P : List Str) (sc : Scope) : Prop where
  kind : sc.kind = .function
  co : sc.isCoroutine = false
  gen : sc.isGenerator = false
  nd : N.Nodup
  pre : N.take P.length = P
  par : ∀ x ∈ P, sc.names.lookup x = some .local ∨ sc.names.lookup x = some .cell
  nofree : ∀ y ∈ sc.names, y.2 ≠ .free
theorem bindL_out {kindOf : Str → Option NameKind} {x : Str} : ∀ {binds : List (Str × Value)} {m : Str → Option Value}, (∀ v, (x, v) ∉ binds) → bindL kindOf binds m x = m x
  | [], _, _ => rfl
  | (n, v) :: r, m, h => by
    unfold bindL
    rw [bindL_out fun w hw => h w (List.mem_cons_of_mem _ hw)]
    split
    · have : x ≠ n := by rintro rfl; exact h v List.mem_cons_self
      simp [this]
    · rfl
theorem bindC_out {kindOf : Str → Option NameKind} {x : Str} : ∀ {binds : List (Str × Value)} {m : Str → Option Value}, (∀ v, (x, v) ∉ binds) → bindC kindOf binds m x = m x
  | [], _, _ => rfl
  | (n, v) :: r, m, h => by
    unfold bindC
    rw [bindC_out fun w hw => h w (List.mem_cons_of_mem _ hw)]
    split
    · rfl
    · have : x ≠ n := by rintro rfl; exact h v List.mem_cons_self
      simp [this]
theorem bindL_get {kindOf : Str → Option NameKind} {x : Str} {v : Value} : ∀ {P : List Str} {vs : List Value} {i : Nat} {m : Str → Option Value}, P.Nodup → P[i]? = some x → vs[i]? = some v → kindOf x = some .local →
    bindL kindOf (P.zip vs) m x = some v
  | [], _, _, _, _, h, _, _ => by simp at h
  | _ :: _, [], _, _, _, _, h, _ => by simp at h
  | p :: P, w :: vs, 0, m, nd, h1, h2, hk => by
    simp at h1 h2; subst h1; subst h2
    show bindL kindOf ((p, w) :: P.zip vs) m p = _
    unfold bindL
    rw [bindL_out fun v hv => (List.nodup_cons.mp nd).1 (List.of_mem_zip hv).1, if_pos hk]
    simp
  | p :: P, w :: vs, i + 1, m, nd, h1, h2, hk => by
    show bindL kindOf ((p, w) :: P.zip vs) m x = _
    unfold bindL
    exact bindL_get (i := i) (List.nodup_cons.mp nd).2 (by simpa using h1) (by simpa using h2) hk
theorem bindC_get {kindOf : Str → Option NameKind} {x : Str} {v : Value} : ∀ {P : List Str} {vs : List Value} {i : Nat} {m : Str → Option Value}, P.Nodup → P[i]? = some x → vs[i]? = some v → kindOf x ≠ some .local →
    bindC kindOf (P.zip vs) m x = some v
  | [], _, _, _, _, h, _, _ => by simp at h
  | _ :: _, [], _, _, _, _, h, _ => by simp at h
  | p :: P, w :: vs, 0, m, nd, h1, h2, hk => by
    simp at h1 h2; subst h1; subst h2
    show bindC kindOf ((p, w) :: P.zip vs) m p = _
    unfold bindC
    rw [bindC_out fun v hv => (List.nodup_cons.mp nd).1 (List.of_mem_zip hv).1, if_neg hk]
    simp
  | p :: P, w :: vs, i + 1, m, nd, h1, h2, hk => by
    show bindC kindOf ((p, w) :: P.zip vs) m x = _
    unfold bindC
    exact bindC_get (i := i) (List.nodup_cons.mp nd).2 (by simpa using h1) (by simpa using h2) hk
def start (N : List Str) (vs : List V) : St := vs.map some ++ List.replicate (N.length - vs.length) none
def cxOf (CX : CXT) (P : Program) (w : World) (K : PySem.W.Frag) (mg : Str → Option Value) (base : Heap) (N : List Str) (qual : Str) (scope : Scope) (f : Addr) (cd : Value) (A : Around) (outer : List Env) (s : Shared) (H : Hp) (E : XK) : Cx where
  prog := P
  w := w
  K := K
  mg := mg
  base := base
  A := A.deeper (envOfC qual scope s.heap.objs.size f cd)
  N := N
  s₀ := s
  H₀ := H
  env := envOfC qual scope s.heap.objs.size f cd
  outer := outer
  stack := envOfC qual scope s.heap.objs.size f cd :: outer
  ex := []
  calm := true
  fn := fun _ => true
  pn := []
  xe := fun e s' => wpAny (model P w) (A.deeper (envOfC qual scope s.heap.objs.size f cd)) (leaving (envOfC qual scope s.heap.objs.size f cd) e) (fun _ s'' => CX outer H s E e s'') (fun e' s'' => CX outer H s E e' s'') s'
theorem cell_has {sc : Scope} {n : Nat} {x : Str} (h : sc.names.lookup x = some .cell) : ∃ c, (cellsFrom n sc.names []).lookup x = some c := by
  have q := PySem.W.cellsFrom_some sc.names n [] (.inl h)
  exact Option.isSome_iff_exists.mp q
theorem inv_start {CX : CXT} {P : Program} {w : World} {K : PySem.W.Frag} {mg : Str → Option Value} {base : Heap} {N ps : List Str} {qual : Str} {scope : Scope} {f : Addr} {cd : Value} {A : Around} {outer : List Env} {s s1 : Shared} {H : Hp} {E : XK} {us : List Value} {vs : List V}
    (S : FnScope N ps scope) (hd : A.handled = none) (e0 : Env0 P w K mg base A outer s H) (hl : vs.length = ps.length) (r : Vals vs us)
    (x : InCallC s s.heap.objs.size (bindL (envOfC qual scope s.heap.objs.size f cd).kindOf (ps.zip us) fun _ => none) (cellsFrom (s.heap.objs.size + 1) scope.names []) (bindC (envOfC qual scope s.heap.objs.size f cd).kindOf (ps.zip us) fun _ => none) s1) :
    Inv (cxOf CX P w K mg base N qual scope f cd A outer s H E) [] (start N vs) H s1 := by
  have hpl : ps.length ≤ N.length := by have := congrArg List.length S.pre; rw [List.length_take] at this; omega
  obtain ⟨h1, tk, rfl, hk⟩ := x.done
  have noA : ∀ b : Addr, b ∉ (cxOf CX P w K mg base N qual scope f cd A outer s H E).ex := fun b z => absurd (show b ∈ ([] : List Addr) from z) (by simp)
  refine ⟨⟨e0.mod, S.kind, rfl, rfl, Nat.le_refl _, fun y z c h1 h2 => ?_, fun y hy => ?_, fun y c _ h => ?_, fun _ => hd, Around.frames_deeper e0.frames, .inr ⟨rfl, rfl⟩, fun b z => absurd z (noA b), e0.bs, e0.bsz, fun b _ _ => noA b, fun b z => absurd z (noA b), e0.funs, e0.frf⟩,
    rfl, e0.bare, Un.kept hk, ⟨_, x.toInCall.ns, fun i y v h1 h2 h3 => ?_⟩, fun y c h => ⟨_, x.cell y c h⟩, e0.hok.fresh (Nat.le_refl _), fun y c h => ?_, fun p hp => absurd (show p ∈ ([] : List (Addr × Obj)) from hp) (by simp), e0.hok.kept hk, ?_⟩
  · exact name_of_addr x.apart (PySem.mem_of_lookup h1) (PySem.mem_of_lookup h2)
  · have hy : scope.names.lookup y = some .cell ∨ scope.names.lookup y = some .free := hy
    rcases hy with hy | hy
    · exact cell_has hy
    · exact absurd rfl (S.nofree _ (PySem.mem_of_lookup hy))
  · exact Nat.le_of_lt (x.above y c (PySem.mem_of_lookup h))
  · have hi : i < vs.length := by
      unfold start at h2
      by_cases hi : i < vs.length
      · exact hi
      · rw [List.getElem?_append_right (by simpa using hi)] at h2
        rw [List.getElem?_replicate] at h2
        split at h2 <;> cases h2
    have ha : vs[i]? = some v := by
      unfold start at h2
      rw [List.getElem?_append_left (by simpa using hi), List.getElem?_map] at h2
      cases e : vs[i]? with
      | none => rw [e] at h2; cases h2
      | some a => rw [e] at h2; cases h2; rfl
    obtain ⟨u, hu, rv⟩ := r.get ha
    have hp : ps[i]? = some y := by
      rw [← S.pre, List.getElem?_take_of_lt (by omega)]; exact h1
    have ndP : ps.Nodup := by rw [← S.pre]; exact S.nd.sublist (List.take_sublist _ _)
    refine ⟨u, rv, ?_⟩
    rcases S.par y (List.mem_of_getElem? hp) with k | k
    · exact .inl ⟨k, bindL_get ndP hp hu k⟩
    · obtain ⟨c, e⟩ := cell_has (n := s.heap.objs.size + 1) k
      refine .inr ⟨.inl k, c, e, ?_⟩
      have q := x.cell y c e
      rw [bindC_get ndP hp hu (by show scope.names.lookup y ≠ _; rw [k]; decide)] at q
      exact q
  · exact e0.hok.fresh (Nat.le_of_lt (x.above y c (PySem.mem_of_lookup h)))
  · unfold start
    show _ = N.length
    rw [List.length_append, List.length_map, List.length_replicate]
    omega
theorem fn_of {CX : CXT} {P : Program} {w : World} {K : PySem.W.Frag} {mg : Str → Option Value} {base : Heap} {k : Nat} {f : Addr} {name qual : Str} {params : Arguments} {body : List Stmt} {scope : Scope} {dV kV doc pm cdv ct oc : Value} {an od : Option Addr}
    {osl : Array (Option Value)} {N ps : List Str} {sp : Sp} (lk : K.lookup f = some ⟨oc, od, .func (PySem.W.fnOf name qual params body scope dV kV doc pm an cdv ct), osl⟩) (hcd : PySem.W.codeIn K cdv qual = true) (S : FnScope N ps scope)
    (len : ∀ vs H Q E, sp vs H Q E → vs.length = ps.length)
    (hbody : ∀ (A : Around) (outer : List Env) (s : Shared) (H : Hp) (vs : List V) (Q : VK) (E : XK), Room k (A.deeper (envOfC qual scope s.heap.objs.size f cdv)) → sp vs H Q E →
      ∃ t, PSs (cxOf CX P w K mg base N qual scope f cdv A outer s H E) body t ∧ t { nx := fun _ H' => Q .non H', rt := Q } (start N vs) H) :
    FnOk P w K mg base CX (k + 1) f (PySem.W.fnOf name qual params body scope dV kV doc pm an cdv ct) ps sp := by
  refine ⟨len, fun A outer s H args us vs Q E hr e0 hb r hsp => ?_⟩
  have hl := len _ _ _ _ hsp
  have KX : K.In s.heap := e0.mod.kin.keeps fun b o e => (e0.bs b o e).1
  have lim : s.heap.NoLimit := e0.mod.nolimit.keeps fun b o e => (e0.bs b o e).1
  have hkind : ∀ y ∈ ps.zip us, scope.names.lookup y.1 = some .local ∨ (scope.names.lookup y.1 = some .cell ∧ ((cellsFrom (s.heap.objs.size + 1) scope.names []).lookup y.1).isSome = true) := fun ⟨n, v⟩ hy => by
    rcases S.par n (List.of_mem_zip hy).1 with q | q
    · exact .inl q
    · exact .inr ⟨q, PySem.W.cellsFrom_some _ _ _ (.inl q)⟩
  refine codeAny_call_function hr.depth (KX _ _ lk) rfl S.co S.gen rfl (PySem.W.codeRec_of KX hcd) (hb _ _ _ _ ?_)
  refine wpAny_newFunctionEnv_cells S.kind hkind fun env he s1 x => ?_
  subst he
  refine ⟨lim.keeps x.toInCall.keep, codeAny_func ?_⟩
  obtain ⟨t, ht, hq⟩ := hbody A outer s H vs Q E (hr.deeper _) hsp
  have I : Inv (cxOf CX P w K mg base N qual scope f cdv A outer s H E) [] (start N vs) H s1 := inv_start S hr.hd e0 hl r x
  refine wpAny_mono (ht [] s1 (start N vs) H _ I hq) (fun fl s' hs => ?_) fun e s' hs => hs
  have fin : ∀ {σ' : St} {H' : Hp} {v : V} {u : Value}, Inv (cxOf CX P w K mg base N qual scope f cdv A outer s H E) [] σ' H' s' → RelV v u → Q v H' → CE outer P w H s Q u s' :=
    fun {σ' H' v u} J rv q => ⟨v, H', J.os, J.bare, J.base, J.hok, rv, q⟩
  cases fl with
  | ret u =>
    obtain ⟨v, σ', H', J, rv, q⟩ := hs
    exact fin J rv q
  | next =>
    obtain ⟨σ', H', J, q⟩ := hs
    exact fin (v := V.non) (u := Value.none) J rfl q
  | brk =>
    obtain ⟨_, _, _, q⟩ := hs
    exact False.elim q
  | cont =>
    obtain ⟨_, _, _, q⟩ := hs
    exact False.elim q
end L2
namespace L2
open PySem PySem.Spec PyProof.Rows
section
variable {X : Cx} {x : Str} {p pos : Pos} {e : Expr} {es : List Expr} {t : TA} {id T : String} {r : List V → Hp → VK → Prop}
def tCB (r : List V → Hp → VK → Prop) (t : TA) : TE := fun σ H Q => t σ H fun vs H1 => r vs H1 Q
theorem pe_callB (hc : CallR X (.builtin id) r) (hg : Gl X x) (hm : X.mg x = none) (hv : bootBuiltins x = some (.builtin id)) (ha : PA X (e :: es) t) (hn : x ≠ "__name__" := by decide) (hdb : (x == ("__debug__" : Str)) = false := by decide)
    (he : starEach (e :: es) X.env = (false, eval e X.env) :: starEach es X.env := by rfl) (hpl : (backTo pos (starEach es X.env)).any (·.1) = false := by rfl) : PE X (.Call (.Name x p) (e :: es) [] pos) (tCB r t) := by
  intro pins s σ H Q I h
  refine wpAny_Call_Name_kw (ld_blt I hg hm hv ?_ hn hdb)
  exact PyProof.Rows.callWith_builtin1 (thn (ha pos pins s σ H _ I h) fun us s1 ⟨vs, H1, I1, r1, q1⟩ => hc pins s1 σ H1 vs us Q I1 r1 q1) he hpl
theorem pe_callTy (hc : CallR X (.type T) r) (hg : Gl X x) (hm : X.mg x = none) (hv : bootBuiltins x = some (.type T)) (ha : PA X (e :: es) t) (hn : x ≠ "__name__" := by decide) (hdb : (x == ("__debug__" : Str)) = false := by decide)
    (he : starEach (e :: es) X.env = (false, eval e X.env) :: starEach es X.env := by rfl) (hpl : (backTo pos (starEach es X.env)).any (·.1) = false := by rfl) : PE X (.Call (.Name x p) (e :: es) [] pos) (tCB r t) := by
  intro pins s σ H Q I h
  refine wpAny_Call_Name_kw (ld_blt I hg hm hv ?_ hn hdb)
  exact PyProof.Rows.callWith_type1 (thn (ha pos pins s σ H _ I h) fun us s1 ⟨vs, H1, I1, r1, q1⟩ => hc pins s1 σ H1 vs us Q I1 r1 q1) he hpl
end
end L2
namespace HT
open PySem PyProof.Rows
def lexLt : List Int → List Int → Bool
  | [], [] => false
  | [], _ :: _ => true
  | _ :: _, [] => false
  | x :: xs, y :: ys => if x = y then lexLt xs ys else decide (x < y)
section
open PySem.SeqAt
open PySem.AutoSeq1 (wpAny_loadPart')
open PySem.MeetsSeq PySem.MeetsSeq2 PySem.MeetsSeq3
end
section
variable {prog : Program} {w : World} {A : Around} {E : Value → Shared → Prop} {s : Shared}
theorem cat_tup {t b : Addr} {vs ws : List Value} {Q : Value → Shared → Prop} (ht : IsTup s.heap t vs.toArray) (hb : IsTup s.heap b ws.toArray) (hv : vs ≠ [])
    (h1 : ws = [] → Q (.ref t) s) (h2 : ws ≠ [] → Q (.ref s.heap.objs.size) { s with heap := s.heap.push { cls := .type "tuple", data := .seq (vs ++ ws).toArray } })
    (hsz : vs.length + ws.length ≤ sizeLine) : wpAny (model prog w) A (binaryOp .Add (.ref t) (.ref b)) Q E s := by
  obtain ⟨⟨cls, dd, data, sl⟩, ho, hc, n, hd⟩ := id ht
  obtain ⟨⟨cls2, dd2, data2, sl2⟩, ho2, hc2, n2, hd2⟩ := id hb
  simp only at hc hd hc2 hd2
  subst hc hd hc2 hd2
  have e : vs.toArray ++ ws.toArray = (vs ++ ws).toArray := by simp
  by_cases hw : ws = []
  · exact concat_meets ⟨_, ho, rfl⟩ ⟨_, ho2, rfl⟩ noFill_tuple_add seq_tuple_add PySem.F.slot_tuple_add PySem.F.entry_tuple_add (PySem.F.args_tuple_add_2 _ _)
      (tuple_addW1 t b vs.toArray ws.toArray n n2 dd dd2 sl sl2 (by simpa using hv) (by simp [hw])) ⟨ho, ho2, h1 hw⟩
  · refine concat_meets ⟨_, ho, rfl⟩ ⟨_, ho2, rfl⟩ noFill_tuple_add seq_tuple_add PySem.F.slot_tuple_add PySem.F.entry_tuple_add (PySem.F.args_tuple_add_2 _ _)
      (tuple_addW2 t b vs.toArray ws.toArray n n2 dd dd2 sl sl2 (by simpa using hv) (by simpa using hw) (by rw [List.size_toArray, List.size_toArray]; exact hsz)) ⟨ho, ho2, ?_⟩
    rw [e]
    exact h2 hw
def sIx (n d : Nat) : Option Int → Nat
  | none => d
  | some v => if v < 0 then (v + (n : Int)).toNat else min v.toNat n
theorem sIx_le (n d : Nat) (hd : d ≤ n) (o : Option Int) : sIx n d o ≤ n := by
  cases o with
  | none => exact hd
  | some v =>
    show (if v < 0 then (v + (n : Int)).toNat else min v.toNat n) ≤ n
    by_cases hv : v < 0
    · rw [if_pos hv]; omega
    · rw [if_neg hv]; exact Nat.min_le_right _ _
theorem clip_eq (v : Int) (n d : Nat) : (if v < 0 then max (v + (n : Int)) 0 else min v (n : Int)) = ((sIx n d (some v) : Nat) : Int) := by
  show (if v < 0 then max (v + (n : Int)) 0 else min v (n : Int)) = (((if v < 0 then (v + (n : Int)).toNat else min v.toNat n) : Nat) : Int)
  by_cases hv : v < 0
  · simp only [if_pos hv]; omega
  · simp only [if_neg hv]; omega
theorem adjust_gen (lo hi : Option Int) (n : Nat) : Builtin.Slice.sliceAdjust lo hi 1 (n : Int) = (((sIx n 0 lo : Nat) : Int), ((sIx n n hi : Nat) : Int)) := by
  have h1 : ¬ ((1 : Int) < 0) := by omega
  unfold Builtin.Slice.sliceAdjust
  simp only [h1, if_false]
  refine Prod.ext ?_ ?_
  · cases lo with
    | none => rfl
    | some v => exact clip_eq v n 0
  · cases hi with
    | none => rfl
    | some v => exact clip_eq v n n
theorem places_gen (i j : Nat) : Builtin.Slice.slicePlaces (i : Int) (j : Int) 1 = j - i := by
  unfold Builtin.Slice.slicePlaces
  have h1 : (1 : Int) > 0 := by omega
  simp only [h1, if_true, Int.ediv_one]
  split <;> omega
theorem slicePart_ {v : Value} {o : Option Int} {Q : Option Int → Shared → Prop} (p : IsPart v o) (h : Q o s) : wpAny (model prog w) A (Builtin.Slice.slicePartIndex v) Q E s := by
  cases p with
  | none => exact slicePart_none h
  | int i t => exact slicePart_int h
theorem sliceApplied_gen {sl : Addr} {vl vu : Value} {lo hi : Option Int} {n : Nat} {Q : Int × Int × Nat → Shared → Prop} (hs : s.heap.IsSliceOf sl vl vu .none) (pl : IsPart vl lo) (pu : IsPart vu hi)
    (h : Q (((sIx n 0 lo : Nat) : Int), 1, sIx n n hi - sIx n 0 lo) s) : wpAny (model prog w) A (Builtin.Slice.sliceApplied (.ref sl) (pure (n : Int))) Q E s := by
  obtain ⟨os, hos, hcs, hds⟩ := id hs
  unfold Builtin.Slice.sliceApplied Builtin.Slice.sliceFields
  refine wpAny_bind (wpAny_bind (wpAny_field hos hds (x := vl) rfl (wpAny_bind (wpAny_field hos hds (x := vu) rfl (wpAny_bind (wpAny_field hos hds (x := .none) rfl (wpAny_pure ?_)))))))
  refine wpAny_bind (slicePart_none ?_)
  show wpAny _ _ (if ((1 : Int) == 0) = true then _ else _) _ _ s
  rw [if_neg (by decide)]
  refine wpAny_bind (slicePart_ pl (wpAny_bind (slicePart_ pu (wpAny_bind (wpAny_pure ?_)))))
  show wpAny _ _ (match Builtin.Slice.sliceAdjust lo hi 1 (n : Int) with | (lo, hi) => pure (lo, (1 : Int), Builtin.Slice.slicePlaces lo hi 1)) _ _ s
  rw [adjust_gen lo hi n]
  show wpAny _ _ (pure (((sIx n 0 lo : Nat) : Int), (1 : Int), Builtin.Slice.slicePlaces ((sIx n 0 lo : Nat) : Int) ((sIx n n hi : Nat) : Int) 1)) _ _ s
  rw [places_gen]
  exact wpAny_pure h
theorem pick_gen (xs : Array Value) (i k : Nat) : ((List.range k).filterMap fun (m : Nat) => xs[((i : Int) + (m : Int) * 1).toNat]?).toArray = ((xs.toList.drop i).take k).toArray := by
  have e : (fun (m : Nat) => xs[((i : Int) + (m : Int) * 1).toNat]?) = fun m => xs[i + m]? := by
    funext m
    have : ((i : Int) + (m : Int) * 1).toNat = i + m := by omega
    rw [this]
  rw [e]
  have := pick_run xs i k
  rw [List.filterMap_map] at this
  have e2 : ((fun x => xs[x]?) ∘ fun x => i + x) = fun m => xs[i + m]? := rfl
  rw [e2] at this
  rw [this]
theorem getItem_tuple_cut {t sl : Addr} {items : Array Value} {vl vu : Value} {lo hi : Option Int} {Q : Value → Shared → Prop} (ht : IsTup s.heap t items) (hs : s.heap.IsSliceOf sl vl vu .none) (pl : IsPart vl lo) (pu : IsPart vu hi)
    (hw : ¬ (sIx items.size 0 lo = 0 ∧ sIx items.size items.size hi = items.size))
    (h : Q (.ref s.heap.objs.size) { s with heap := s.heap.push { cls := .type "tuple", data := .seq ((items.toList.drop (sIx items.size 0 lo)).take (sIx items.size items.size hi - sIx items.size 0 lo)).toArray } })
    (hsz : items.size ≤ sizeLine) : wpAny (model prog w) A (getItem (.ref t) (.ref sl)) Q E s := by
  have htake : sizeOk (.seq ((items.toList.drop (sIx items.size 0 lo)).take (sIx items.size items.size hi - sIx items.size 0 lo)).toArray) := by
    show ((items.toList.drop (sIx items.size 0 lo)).take (sIx items.size items.size hi - sIx items.size 0 lo)).toArray.size ≤ sizeLine
    rw [List.size_toArray, List.length_take, List.length_drop, Array.length_toList]
    omega
  have hj : sIx items.size items.size hi ≤ items.size := sIx_le _ _ (Nat.le_refl _) hi
  obtain ⟨os, hos, hcs, hds⟩ := id hs
  have hTs : s.TypeIs (.ref sl) "slice" := ⟨os, hos, hcs⟩
  unfold getItem
  try with_reducible refine wpAny_holding ?_
  first | refine wpAny_bind (wpAny_pure ?_) | skip
  refine wpAny_bind (wpAny_sequenceKey ht.typeIs (by decide) ?_)
  refine wpAny_bind (wpAny_callSpecial?_slot (name := Str.ofString "__getitem__") ht.typeIs PyProof.Rows.slot_tuple_getitem
    (wpAny_call_entry PyProof.Rows.slot_tuple_getitem ht.typeIs entry_tuple_getitem ?_ (args_tuple_getitem _ _)))
  show wpAny _ _ (Builtin.Tuple.tupleItemsOf (.ref t) >>= _) _ _ s
  refine wpAny_bind (tupleItemsOf_ ht ?_)
  refine wpAny_bind (wpAny_typeOf hTs ?_)
  rw [if_pos (by decide)]
  refine wpAny_bind (sliceApplied_gen hs pl pu ?_)
  have hno : ¬ ((((sIx items.size 0 lo : Nat) : Int) == 0 && (1 : Int) == 1 && (sIx items.size items.size hi - sIx items.size 0 lo) == items.size) = true) := by
    intro q
    rw [Bool.and_eq_true, Bool.and_eq_true] at q
    have q1 : ((sIx items.size 0 lo : Nat) : Int) = 0 := eq_of_beq q.1.1
    have q2 : sIx items.size items.size hi - sIx items.size 0 lo = items.size := eq_of_beq q.2
    exact hw ⟨by omega, by omega⟩
  show wpAny _ _ (if (((sIx items.size 0 lo : Nat) : Int) == 0 && (1 : Int) == 1 && (sIx items.size items.size hi - sIx items.size 0 lo) == items.size) = true then _ else _) _ _ s
  rw [if_neg hno, pick_gen]
  first
    | exact wpAny_bind (m := Builtin.Tuple.tupleExact _) (wpAny_newObj_type (wpAny_pure ⟨_, rfl, wpAny_pure h⟩) htake)
    | exact wpAny_bind (m := Builtin.Tuple.tupleExact _) (wpAny_newObj_type (wpAny_bind (wpAny_pure (wpAny_pure ⟨_, rfl, wpAny_pure h⟩))) htake)
    | exact wpAny_bind (wpAny_bind (m := Builtin.Tuple.tupleExact _) (wpAny_newObj_type (wpAny_pure (wpAny_pure ⟨_, rfl, wpAny_pure h⟩)) htake))
    | exact wpAny_bind (wpAny_bind (m := Builtin.Tuple.tupleExact _) (wpAny_newObj_type (wpAny_pure ⟨_, rfl, wpAny_pure h⟩) htake))
end
end HT
namespace L2
open PySem PySem.Spec PyProof.Rows
abbrev TO := St → Hp → (Option Int → Hp → Prop) → Prop
def PO (X : Cx) (e : Option Expr) (t : TO) : Prop :=
  ∀ (pins : List (Addr × Obj)) (s : Shared) (σ : St) (H : Hp) (Q : Option Int → Hp → Prop), Inv X pins σ H s → t σ H Q →
    wpAny (model X.prog X.w) X.A (evalPart e X.env) (fun u s' => ∃ o H', Inv X pins σ H' s' ∧ IsPart u o ∧ Q o H') X.xe s
def tNoPart : TO := fun _ H Q => Q none H
def tPart (t : TE) : TO := fun σ H Q => t σ H fun x H1 => ∃ i, x = .int i ∧ Q (some i) H1
theorem intsAre_of {ns : List Int} : ∀ {us : List Value}, Vals (ns.map V.int) us → IntsAre us ns := by
  induction ns with
  | nil => intro us r; rw [List.map_nil] at r; cases r; exact .nil
  | cons n ns ih =>
    intro us r
    rw [List.map_cons] at r
    cases r with
    | cons r1 r2 =>
      obtain ⟨t, e⟩ := r1
      subst e
      exact .cons n t (ih r2)
section
variable {X : Cx} {e : Expr} {te : TE} {lo hi : Option Expr} {tl th : TO} {pos p2 : Pos}
theorem po_none : PO X none tNoPart := by
  intro pins s σ H Q I h
  rw [evalPart_none]
  exact wpAny_pure ⟨none, H, I, .none, h⟩
theorem po_some (h : PE X e te) : PO X (some e) (tPart te) := by
  intro pins s σ H Q I hw
  rw [evalPart_some]
  refine thn (h pins s σ H _ I hw) fun u s1 ⟨x, H1, I1, r1, q1⟩ => ?_
  obtain ⟨i, rfl, q⟩ := q1
  obtain ⟨t, rfl⟩ := r1
  exact ⟨some i, H1, I1, .int i t, q⟩
def SlR (X : Cx) (r : V → Option Int → Option Int → Hp → VK → Prop) : Prop :=
  ∀ (pins : List (Addr × Obj)) (s : Shared) (σ : St) (H : Hp) (x : V) (v vl vu : Value) (lo hi : Option Int) (sl : Addr) (Q : VK), Inv X pins σ H s → RelV x v → s.heap.IsSliceOf sl vl vu .none → IsPart vl lo → IsPart vu hi → r x lo hi H Q →
    ∃ T id, typeLookup (.type T) "__getitem__" = pure (some (.builtin id)) ∧ s.TypeIs v T ∧ wpAny (model X.prog X.w) X.A (getItem v (.ref sl)) (EP X pins σ Q) X.xe s
theorem SlR.or {r r' : V → Option Int → Option Int → Hp → VK → Prop} (h : SlR X r) (h' : SlR X r') : SlR X (fun x lo hi H Q => r x lo hi H Q ∨ r' x lo hi H Q) := by
  intro pins s σ H x v vl vu lo hi sl Q I rx hs pl pu q
  rcases q with q | q
  · exact h pins s σ H x v vl vu lo hi sl Q I rx hs pl pu q
  · exact h' pins s σ H x v vl vu lo hi sl Q I rx hs pl pu q
def tSl (r : V → Option Int → Option Int → Hp → VK → Prop) (te : TE) (tl th : TO) : TE := fun σ H Q => te σ H fun x H1 => tl σ H1 fun l H2 => th σ H2 fun u H3 => r x l u H3 Q
theorem pe_slice {r : V → Option Int → Option Int → Hp → VK → Prop} (hr : SlR X r) (he : PE X e te) (hl : PO X lo tl) (hu : PO X hi th) : PE X (.Subscript e (.Slice lo hi none p2) pos) (tSl r te tl th) := by
  intro pins s σ H Q I h
  refine Subscript_ (thn (he pins s σ H _ I h) fun v s1 ⟨x, H1, I1, r1, q1⟩ => ?_)
  refine wpAny_Slice (thn (hl pins s1 σ H1 _ I1 q1) fun vl s2 ⟨l, H2, I2, pl, q2⟩ => thn (hu pins s2 σ H2 _ I2 q2) fun vu s3 ⟨u, H3, I3, pu, q3⟩ => ?_)
  rw [evalPart_none]
  refine wpAny_pure ?_
  have I4 : Inv X pins σ H3 { s3 with heap := s3.heap.push { cls := .type "slice", data := .fields #[vl, vu, .none] } } := I3.kept (t' := s3.toks) fun b ob q => Heap.get?_push_of_some _ q
  obtain ⟨T, id, hT, ht, hg⟩ := hr pins { s3 with heap := s3.heap.push { cls := .type "slice", data := .fields #[vl, vu, .none] } } σ H3 x v vl vu l u s3.heap.objs.size Q I4 r1 (Heap.IsSliceOf.new ..) pl pu q3
  show wpAny (model X.prog X.w) X.A (subscriptTail e (.Slice lo hi none p2) v (.ref s3.heap.objs.size)) (EP X pins σ Q) X.xe { s3 with heap := s3.heap.push { cls := .type "slice", data := .fields #[vl, vu, .none] } }
  exact tail_any (ops := [.ref s3.heap.objs.size, v]) ht hT hg (by with_unfolding_all rfl)
def cutV (xs : List V) (lo hi : Option Int) : List V := (xs.drop (HT.sIx xs.length 0 lo)).take (HT.sIx xs.length xs.length hi - HT.sIx xs.length 0 lo)
theorem cutV_length (xs : List V) (lo hi : Option Int) : (cutV xs lo hi).length ≤ xs.length := by
  unfold cutV
  rw [List.length_take, List.length_drop]
  omega
def rSlT (K : PySem.W.Frag) : V → Option Int → Option Int → Hp → VK → Prop := fun x lo hi H Q => ∃ a xs, x = .ref a ∧ SqT K H a xs ∧
  ¬ (HT.sIx xs.length 0 lo = 0 ∧ HT.sIx xs.length xs.length hi = xs.length) ∧ ∀ p, H p = none → Q (.ref p) (upd H p (.tup (cutV xs lo hi)))
theorem sl_tup : SlR X (rSlT X.K) := by
  intro pins s σ H x v vl vu lo hi sl Q I rx hs pl pu h
  obtain ⟨a, xs, rfl, hx, hw, q⟩ := h
  cases rx
  obtain ⟨its, r, ht, hz⟩ := I.tuple hx
  have hlen : its.toArray.size = xs.length := by rw [List.size_toArray]; exact r.length.symm
  refine ⟨"tuple", _, PyProof.Rows.slot_tuple_getitem.lookup, ht.typeIs, ?_⟩
  refine HT.getItem_tuple_cut ht hs pl pu (by rw [hlen]; exact hw) ?_ (by rw [hlen]; exact hz)
  rw [hlen]
  refine ⟨.ref s.heap.objs.size, _, I.laid (t' := s.toks) (o := .tup (cutV xs lo hi)) (fun b ob q => Heap.get?_push_of_some _ q) (Nat.le_refl _) ?_, rfl, q _ (I.hok.fresh (Nat.le_refl _))⟩
  exact ⟨Nat.le_trans (cutV_length xs lo hi) hz, _, (r.drop (HT.sIx xs.length 0 lo)).take (HT.sIx xs.length xs.length hi - HT.sIx xs.length 0 lo), IsTup.new _ _⟩
def rLtT (K : PySem.W.Frag) : R2 := fun x y H Q => ∃ a b ns ms, x = .ref a ∧ y = .ref b ∧ SqT K H a (ns.map V.int) ∧ SqT K H b (ms.map V.int) ∧ Q (.bl (HT.lexLt ns ms)) H
def rCatT (K : PySem.W.Frag) : R2 := fun x y H Q => ∃ a b xs ys, x = .ref a ∧ y = .ref b ∧ SqT K H a xs ∧ SqT K H b ys ∧ xs ≠ [] ∧ xs.length + ys.length ≤ sizeLine ∧
  (ys = [] → Q (.ref a) H) ∧ (ys ≠ [] → ∀ p, H p = none → Q (.ref p) (upd H p (.tup (xs ++ ys))))
theorem Vals.nil_iff {xs : List V} {us : List Value} (r : Vals xs us) : us = [] ↔ xs = [] := by
  cases r with
  | nil => simp
  | cons _ _ => simp
theorem op_catT : OpR X (binaryOp .Add) (rCatT X.K) := by
  intro pins s σ H x y v u Q I rx ry h
  obtain ⟨a, b, xs, ys, rfl, rfl, ha, hb, hx, hz, q1, q2⟩ := h
  cases rx
  cases ry
  obtain ⟨its, r1, p1, _⟩ := I.tuple ha
  obtain ⟨its2, r2, p2, _⟩ := I.tuple hb
  refine HT.cat_tup p1 p2 (fun z => hx (r1.nil_iff.mp z)) (fun z => ⟨.ref a, H, I, rfl, q1 (r2.nil_iff.mp z)⟩) (fun z => ?_) (by rw [← r1.length, ← r2.length]; exact hz)
  refine ⟨.ref s.heap.objs.size, _, I.laid (t' := s.toks) (o := .tup (xs ++ ys)) (fun b ob q => Heap.get?_push_of_some _ q) (Nat.le_refl _) ?_, rfl, q2 (fun w => z (r2.nil_iff.mpr w)) _ (I.hok.fresh (Nat.le_refl _))⟩
  exact ⟨by rw [List.length_append]; exact hz, _, r1.append r2, IsTup.new _ _⟩
end
end L2
namespace L2
open PySem PySem.Spec PyProof.Rows
def ixN (n : Nat) (i : Int) : Option Nat := if 0 ≤ i then (if i < n then some i.toNat else none) else if -(n : Int) ≤ i then some (i + n).toNat else none
def atI {α : Type} (xs : List α) (i : Int) : Option α := (ixN xs.length i).bind fun j => xs[j]?
theorem ixN_seq {n : Nat} {i : Int} {j : Nat} (h : ixN n i = some j) : seqIndex? i n = some j ∧ j < n ∧ -(n : Int) ≤ i ∧ i < n := by
  unfold ixN at h
  by_cases h0 : 0 ≤ i
  · rw [if_pos h0] at h
    by_cases h1 : i < n
    · rw [if_pos h1] at h
      have e : i.toNat = j := Option.some.inj h
      exact ⟨by rw [seqIndex_of h0 h1, e], by omega, by omega, h1⟩
    · rw [if_neg h1] at h; cases h
  · rw [if_neg h0] at h
    by_cases h1 : -(n : Int) ≤ i
    · rw [if_pos h1] at h
      have e : (i + n).toNat = j := Option.some.inj h
      exact ⟨by rw [seqIndex_neg (by omega) h1, e], by omega, h1, by omega⟩
    · rw [if_neg h1] at h; cases h
theorem atI_get {α : Type} {xs : List α} {i : Int} {v : α} (h : atI xs i = some v) : ∃ j, seqIndex? i xs.length = some j ∧ xs[j]? = some v ∧ j < xs.length ∧ -(xs.length : Int) ≤ i ∧ i < xs.length := by
  unfold atI at h
  cases e : ixN xs.length i with
  | none => rw [e] at h; cases h
  | some j =>
    rw [e] at h
    obtain ⟨h1, h2, h3, h4⟩ := ixN_seq e
    exact ⟨j, h1, h, h2, h3, h4⟩
theorem atI_nat {α : Type} {xs : List α} {j : Nat} {v : α} (h : xs[j]? = some v) : atI xs (j : Int) = some v := by
  have hj : j < xs.length := (List.getElem?_eq_some_iff.mp h).1
  have e : ixN xs.length (j : Int) = some j := by
    unfold ixN
    rw [if_pos (by omega), if_pos (by omega)]; simp
  unfold atI; rw [e]; exact h
def PlainIx (b : Expr) : Prop := ∀ o i, subscripted b false o i = operate [o, i] (getItem o i)
def IxR (X : Cx) (r : R2) : Prop :=
  ∀ (value slice : Expr) (pins : List (Addr × Obj)) (s : Shared) (σ : St) (H : Hp) (x y : V) (v u : Value) (Q : VK), Inv X pins σ H s → RelV x v → RelV y u → r x y H Q →
    subscripted slice false v u = operate [v, u] (getItem v u) → wpAny (model X.prog X.w) X.A (subscriptTail value slice v u) (EP X pins σ Q) X.xe s
def MtR (X : Cx) (id : String) (r : V → List V → Hp → VK → Prop) : Prop :=
  ∀ (pins : List (Addr × Obj)) (s : Shared) (σ : St) (H : Hp) (x : V) (xs : List V) (v : Value) (us : List Value) (Q : VK), Inv X pins σ H s → RelV x v → Vals xs us → r x xs H Q →
    wpAny (model X.prog X.w) X.A (call (.builtin id) (v :: us)) (EP X pins σ Q) X.xe s
section
variable {X : Cx} {a b : Expr} {ta tb : TE} {pos : Pos}
theorem IxR.or {r r' : R2} (h : IxR X r) (h' : IxR X r') : IxR X (fun x y H Q => r x y H Q ∨ r' x y H Q) := by
  intro value slice pins s σ H x y v u Q I rx ry q hs
  rcases q with q | q
  · exact h value slice pins s σ H x y v u Q I rx ry q hs
  · exact h' value slice pins s σ H x y v u Q I rx ry q hs
theorem MtR.or {id : String} {r r' : V → List V → Hp → VK → Prop} (h : MtR X id r) (h' : MtR X id r') : MtR X id (fun x xs H Q => r x xs H Q ∨ r' x xs H Q) := by
  intro pins s σ H x xs v us Q I rx rs q
  rcases q with q | q
  · exact h pins s σ H x xs v us Q I rx rs q
  · exact h' pins s σ H x xs v us Q I rx rs q
theorem pe_ix {r : R2} (hr : IxR X r) (ha : PE X a ta) (hb : PE X b tb) (hs : PlainIx b) : PE X (.Subscript a b pos) (tOp r ta tb) := by
  intro pins s σ H Q I h
  exact Subscript_ (binT ha hb I h fun v u s2 x y H2 I2 rx ry q => hr a b pins s2 σ H2 x y v u Q I2 rx ry q (hs _ _))
def rIxL (K : PySem.W.Frag) : R2 := fun x y H Q => ∃ p xs i v, x = .ref p ∧ y = .int i ∧ SqL K H p xs ∧ atI xs i = some v ∧ Q v H
def rIxT (K : PySem.W.Frag) : R2 := fun x y H Q => ∃ p xs i v, x = .ref p ∧ y = .int i ∧ SqT K H p xs ∧ atI xs i = some v ∧ Q v H
def rIxS : R2 := fun x y H Q => ∃ z i c, x = .str z ∧ y = .int i ∧ z.length ≤ sizeLine ∧ atI z.cps.toList i = some c ∧ Q (.str ⟨#[c]⟩) H
theorem ix_list : IxR X (rIxL X.K) := by
  intro value slice pins s σ H x y v u Q I rx ry h hs
  obtain ⟨p, xs, i, z, rfl, rfl, hq, he, q⟩ := h
  cases rx
  obtain ⟨t, rfl⟩ := ry
  obtain ⟨its, r, pl, hz⟩ := I.list hq
  obtain ⟨j, h1, h2, h3, h4, h5⟩ := atI_get he
  obtain ⟨w, ew, rw'⟩ := r.get h2
  have hl := r.length
  have hn := line63
  have fin : EP X pins σ Q w s := ⟨z, H, I, rw', q⟩
  by_cases h0 : 0 ≤ i
  · have hj : i.toNat = j := by
      rw [seqIndex_of h0 h5] at h1
      exact Option.some.inj h1
    exact item_listR pl.isList h0 (by omega) (by rw [hj]; simpa using ew) fin hs
  · have hj : (i + (its.toArray.size : Int)).toNat = j := by
      rw [seqIndex_neg (by omega) h4] at h1
      rw [List.size_toArray, ← hl]
      exact Option.some.inj h1
    exact subscriptTail_builtinR (x := w) pl.isList.typeIs slot_list_getitem.lookup
      (wpAny_getItem_list_neg (Q := fun r s' => r = w ∧ EP X pins σ Q r s') pl.isList (by omega) (by rw [List.size_toArray] <;> omega) (by omega) (by rw [hj]; simpa using ew) ⟨rfl, fin⟩) hs
theorem ix_tup : IxR X (rIxT X.K) := by
  intro value slice pins s σ H x y v u Q I rx ry h hs
  obtain ⟨p, xs, i, z, rfl, rfl, hq, he, q⟩ := h
  cases rx
  obtain ⟨t, rfl⟩ := ry
  obtain ⟨its, r, pl, hz⟩ := I.tuple hq
  obtain ⟨j, h1, h2, h3, h4, h5⟩ := atI_get he
  obtain ⟨w, ew, rw'⟩ := r.get h2
  have hl := r.length
  have hn := line63
  have fin : EP X pins σ Q w s := ⟨z, H, I, rw', q⟩
  exact subscriptTail_builtinR (x := w) pl.typeIs slot_tuple_getitem.lookup
    (getItem_tuple (j := j) (Q := fun r s' => r = w ∧ EP X pins σ Q r s') pl (by omega) (by omega) (by rw [List.size_toArray, ← hl]; exact h1) (by simpa using ew) ⟨rfl, fin⟩) hs
theorem ix_str : IxR X rIxS := by
  intro value slice pins s σ H x y v u Q I rx ry h hs
  obtain ⟨z, i, c, rfl, rfl, hz, he, q⟩ := h
  obtain ⟨t, rfl⟩ := rx
  obtain ⟨t', rfl⟩ := ry
  obtain ⟨j, h1, h2, h3, h4, h5⟩ := atI_get he
  have hl : z.cps.toList.length = z.length := by simp [Str.length]
  rw [hl] at h1 h4 h5
  have hn := line63
  exact tail_any (typeIs_str s z t) slot_str_getitem.lookup (getItem_str (c := c) (by
    have e1 : decide (i < -(2 ^ 63 : Int)) = false := decide_eq_false (by omega)
    have e2 : decide (i ≥ 2 ^ 63) = false := decide_eq_false (by omega)
    rw [e1, e2, Bool.or_false]) (by rw [h1]; simpa using h2) ⟨.str ⟨#[c]⟩, H, I.tok _, ⟨_, rfl⟩, q⟩) hs
def rIx (K : PySem.W.Frag) : R2 := fun x y H Q => rIxL K x y H Q ∨ rIxT K x y H Q ∨ rIxS x y H Q
theorem ix_seq : IxR X (rIx X.K) := ix_list.or (ix_tup.or ix_str)
theorem mapSeq_set (its : List Value) (n j : Nat) (u : Value) : Obj.mapSeq (·.setIfInBounds j u) { cls := .type "list", data := .seq its.toArray n } = { cls := .type "list", data := .seq (its.set j u).toArray n } := by
  simp [Obj.mapSeq]
theorem Inv.lst {pins : List (Addr × Obj)} {σ : St} {H : Hp} {s : Shared} {p : Addr} {xs : List V} (I : Inv X pins σ H s) (h : H p = some (.lst xs)) :
    ∃ (its : List Value) (n : Nat), Vals xs its ∧ s.heap.get? p = some { cls := .type "list", data := .seq its.toArray n } ∧ xs.length ≤ sizeLine := by
  obtain ⟨z, its, n, r, e⟩ := I.hok p _ h
  exact ⟨its, n, r, e, z⟩
theorem Inv.lstUpd {pins : List (Addr × Obj)} {σ : St} {H : Hp} {s : Shared} {p : Addr} {xs ys : List V} {its its' : List Value} {n n' : Nat} {f : Obj → Obj} (I : Inv X pins σ H s) (h : H p = some (.lst xs))
    (ho : s.heap.get? p = some { cls := .type "list", data := .seq its.toArray n }) (hf : f { cls := .type "list", data := .seq its.toArray n } = { cls := .type "list", data := .seq its'.toArray n' }) (r : Vals ys its') (hz : ys.length ≤ sizeLine) (t : Nat) :
    Inv X pins σ (upd H p (.lst ys)) { s with heap := s.heap.update p f, toks := t } := by
  have e : (s.heap.update p f).get? p = some { cls := .type "list", data := .seq its'.toArray n' } := by
    rw [Heap.get?_update_self f ho (by rw [hf] <;> rfl), hf]
  refine I.write (x := p) (e := p) (by rw [h]; trivial) (.inl rfl) (fun b u hb q => (Heap.get?_update_other _ _ (Ne.symm hb)).trans q) ⟨_, e⟩ ?_
  exact ⟨hz, its', n', r, e⟩
def rSetL : V → V → V → Hp → (Hp → Prop) → Prop := fun o i v H Q => ∃ p xs k j, o = .ref p ∧ i = .int k ∧ H p = some (.lst xs) ∧ ixN xs.length k = some j ∧ Q (upd H p (.lst (xs.set j v)))
theorem set_list : PSet X rSetL := by
  intro pins s σ H o i v ov iv u Q I ro ri rv h
  obtain ⟨p, xs, k, j, rfl, rfl, hp, hj, q⟩ := h
  cases ro
  obtain ⟨t, rfl⟩ := ri
  obtain ⟨its, n, r, ho, hz⟩ := I.lst hp
  obtain ⟨h1, h2, h3, h4⟩ := ixN_seq hj
  have hl := r.length
  have hn := line63
  have I' : Inv X pins σ (upd H p (.lst (xs.set j v))) { s with heap := s.heap.update p (Obj.mapSeq (·.setIfInBounds j u)) } :=
    I.lstUpd hp ho (mapSeq_set its n j u) (r.set rv j) (by rw [List.length_set]; exact hz) s.toks
  by_cases h0 : 0 ≤ k
  · have hk : k.toNat = j := by
      rw [seqIndex_of h0 h4] at h1
      exact Option.some.inj h1
    exact PySem.W.ki_setAt ho h0 (by omega) (by rw [List.size_toArray, ← hl]; exact h4) (by rw [hk]; exact ⟨_, I', q⟩)
  · have hk : (k + (its.toArray.size : Int)).toNat = j := by
      rw [seqIndex_neg (by omega) h3] at h1
      rw [List.size_toArray, ← hl]
      exact Option.some.inj h1
    exact PySem.W.ki_setBack ho (by omega) (by rw [List.size_toArray, ← hl]; exact h3) (by omega) (by rw [hk]; exact ⟨_, I', q⟩)
theorem slice_bounds (lo hi : Option Int) (n : Nat) : (sliceBounds lo hi none n).1 = ((HT.sIx n 0 lo : Nat) : Int) ∧ (sliceBounds lo hi none n).2.1 = ((HT.sIx n n hi : Nat) : Int) ∧ (sliceBounds lo hi none n).2.2 = 1 := by
  refine ⟨?_, ?_, rfl⟩
  · cases lo with
    | none => simp [sliceBounds, HT.sIx]
    | some i =>
      simp only [sliceBounds, HT.sIx, Option.getD_none, show (1 : Int) > 0 by decide, if_true]
      by_cases h : i < 0
      · simp only [h, if_true] <;> omega
      · simp only [h, if_false] <;> omega
  · cases hi with
    | none => simp [sliceBounds, HT.sIx]
    | some i =>
      simp only [sliceBounds, HT.sIx, Option.getD_none, show (1 : Int) > 0 by decide, if_true]
      by_cases h : i < 0
      · simp only [h, if_true] <;> omega
      · simp only [h, if_false] <;> omega
theorem slicePick_cut (its : List Value) (lo hi : Option Int) : slicePick its.toArray lo hi none = ((its.drop (HT.sIx its.length 0 lo)).take (HT.sIx its.length its.length hi - HT.sIx its.length 0 lo)).toArray := by
  obtain ⟨h1, h2, h3⟩ := slice_bounds lo hi its.toArray.size
  unfold slicePick
  rw [h1, h2, h3]
  simp only [sliceRange_one, pick_run, List.size_toArray] <;> rfl
def rSlL (K : PySem.W.Frag) : V → Option Int → Option Int → Hp → VK → Prop := fun x lo hi H Q => ∃ a xs, x = .ref a ∧ SqL K H a xs ∧ ∀ p, H p = none → Q (.ref p) (upd H p (.lst (cutV xs lo hi)))
theorem sl_list : SlR X (rSlL X.K) := by
  intro pins s σ H x v vl vu lo hi sl Q I rx hs pl pu h
  obtain ⟨a, xs, rfl, hx, q⟩ := h
  cases rx
  obtain ⟨its, r, ht, hz⟩ := I.list hx
  have hlen := r.length
  refine ⟨"list", _, slot_list_getitem.lookup, ht.isList.typeIs, ?_⟩
  refine wpAny_getItem_list_slice ht.isList hs pl pu .none (by simp) ?_ (by rw [List.size_toArray] <;> omega)
  rw [slicePick_cut, ← hlen]
  refine ⟨.ref s.heap.objs.size, _, I.laid (t' := s.toks) (o := .lst (cutV xs lo hi)) (fun b ob q => Heap.get?_push_of_some _ q) (Nat.le_refl _) ?_, rfl, q _ (I.hok.fresh (Nat.le_refl _))⟩
  exact ⟨Nat.le_trans (cutV_length xs lo hi) hz, _, 0, (r.drop (HT.sIx xs.length 0 lo)).take (HT.sIx xs.length xs.length hi - HT.sIx xs.length 0 lo), Heap.get?_push_size _ rfl⟩
def flatV : V → Bool
  | .non => true
  | .bl _ => true
  | .int _ => true
  | .str _ => true
  | _ => false
def eqV : V → V → Bool
  | .non, .non => true
  | .bl a, .bl b => a == b
  | .bl a, .int b => (if a then 1 else 0) == b
  | .int a, .bl b => a == (if b then 1 else 0)
  | .int a, .int b => a == b
  | .str a, .str b => a == b
  | _, _ => false
def eqU (x : V) (u : Value) : Bool := match u with
  | .none => eqV .non x
  | .bool b => eqV (.bl b) x
  | .int i _ => eqV (.int i) x
  | .str z _ => eqV (.str z) x
  | _ => false
def inV (x : V) (xs : List V) : Bool := xs.any fun y => eqV y x
def rIn (K : PySem.W.Frag) (neg : Bool) : R2 := fun x y H Q => ∃ p xs, y = .ref p ∧ (SqL K H p xs ∨ SqT K H p xs) ∧ flatV x = true ∧ xs.all flatV = true ∧ Q (.bl (if neg then !inV x xs else inV x xs)) H
theorem call_len_seq : CallR X (.builtin "len") (fun xs H Q => ∃ p ys, xs = [.ref p] ∧ (SqL X.K H p ys ∨ SqT X.K H p ys) ∧ Q (.int ys.length) H) := by
  intro pins s σ H xs us Q I r h
  obtain ⟨p, ys, rfl, hq, q⟩ := h
  obtain ⟨u, rfl, rx⟩ := vals1 r
  cases rx
  have hn := line63
  rcases hq with hq | hq
  · obtain ⟨its, r', pl, hz⟩ := I.list hq
    have hlen := r'.length
    exact Calls.call_len_list pl.isList (by simp only [List.size_toArray] <;> omega) ⟨.int ys.length, H, I.tok _, ⟨s.toks + 1, by rw [List.size_toArray, hlen]⟩, q⟩
  · obtain ⟨its, r', pl, hz⟩ := I.tuple hq
    have hlen := r'.length
    exact len_tuple pl (by simp only [List.size_toArray] <;> omega) ⟨.int ys.length, H, I.tok _, ⟨s.toks + 1, by rw [List.size_toArray, hlen]⟩, q⟩
theorem CallR.or {f : Value} {r r' : List V → Hp → VK → Prop} (h : CallR X f r) (h' : CallR X f r') : CallR X f (fun xs H Q => r xs H Q ∨ r' xs H Q) := by
  intro pins s σ H xs us Q I rs q
  rcases q with q | q
  · exact h pins s σ H xs us Q I rs q
  · exact h' pins s σ H xs us Q I rs q
theorem call_tuple_of : CallR X (.type "tuple") (fun xs H Q => ∃ p ys, xs = [.ref p] ∧ ((SqL X.K H p ys ∧ ∀ l, H l = none → Q (.ref l) (upd H l (.tup ys))) ∨ (SqT X.K H p ys ∧ Q (.ref p) H))) := by
  intro pins s σ H xs us Q I r h
  obtain ⟨p, ys, rfl, h⟩ := h
  obtain ⟨u, rfl, rx⟩ := vals1 r
  cases rx
  rcases h with ⟨hq, q⟩ | ⟨hq, q⟩
  · obtain ⟨its, r', pl, hz⟩ := I.list hq
    have hlen := r'.length
    refine call_tuple_list pl.isList (fun h' kp => ?_) (by simp only [List.size_toArray] <;> omega)
    have I1 : Inv X pins σ H { s with heap := h' } := I.kept (t' := s.toks) kp
    have I2 : Inv X pins σ (upd H h'.objs.size (.tup ys)) { s with heap := h'.push { cls := .type "tuple", data := .seq its.toArray } } :=
      I1.laid (t' := s.toks) (fun b o e => Heap.get?_push_of_some _ e) (Nat.le_refl _) (show ObjOk X.prog X.w _ _ _ (.tup ys) from ⟨hz, its, r', IsTup.new _ _⟩)
    exact ⟨.ref h'.objs.size, _, I2, rfl, q _ (I1.hok.fresh (Nat.le_refl _))⟩
  · obtain ⟨its, r', pl, hz⟩ := I.tuple hq
    exact call_tuple_same pl ⟨.ref p, H, I, rfl, q⟩
def tyV (K : PySem.W.Frag) (T : String) (x : V) (H : Hp) : Prop := match x with
  | .str _ => T = "str"
  | .int _ => T = "int"
  | .ref p => (T = "list" ∧ ∃ xs, SqL K H p xs) ∨ (T = "tuple" ∧ ∃ o, K.lookup p = some o ∧ o.cls = .type "tuple" ∧ o.dict = none) ∨
      (T = "dict" ∧ ((∃ kvs, H p = some (.dK kvs)) ∨ ∃ kvs, H p = some (.dT kvs))) ∨ (T = "set" ∧ ∃ S n, H p = some (.set S n))
  | _ => False
theorem tyV_is {pins : List (Addr × Obj)} {σ : St} {H : Hp} {s : Shared} {T : String} {x : V} {v : Value} (I : Inv X pins σ H s) (r : RelV x v) (ty : tyV X.K T x H) :
    s.TypeIs v T ∧ ∀ a, v = .ref a → ∃ ob, s.heap.get? a = some ob ∧ ob.dict = none := by
  cases x with
  | str z =>
    obtain ⟨t, rfl⟩ := r
    cases (show T = "str" from ty)
    exact ⟨typeIs_str s z t, fun _ e => nomatch e⟩
  | int i =>
    obtain ⟨t, rfl⟩ := r
    cases (show T = "int" from ty)
    exact ⟨typeIs_int s i t, fun _ e => nomatch e⟩
  | ref p =>
    cases r
    rcases ty with ⟨rfl, xs, hq⟩ | ⟨rfl, o, hk, hc, hd⟩ | ⟨rfl, hk⟩ | ⟨rfl, S, n, hk⟩
    · obtain ⟨its, _, pl, _⟩ := I.list hq
      refine ⟨pl.isList.typeIs, fun a e => ?_⟩
      cases e
      obtain ⟨o, n, e, c, hd, _⟩ := pl
      exact ⟨o, e, hd⟩
    · refine ⟨⟨o, I.kIn p o hk, hc⟩, fun a e => ?_⟩
      cases e
      exact ⟨o, I.kIn _ o hk, hd⟩
    · have z : ∃ o, s.heap.get? p = some o ∧ o.ExactDict := by
        rcases hk with ⟨kvs, hk⟩ | ⟨kvs, hk⟩
        · obtain ⟨_, _, _, _, o, _, _, e, ex, _⟩ := I.hok p _ hk
          exact ⟨o, e, ex⟩
        · obtain ⟨_, _, _, _, o, _, _, e, ex, _⟩ := I.hok p _ hk
          exact ⟨o, e, ex⟩
      obtain ⟨o, e, ex⟩ := z
      refine ⟨⟨o, e, ex.1⟩, fun a e2 => ?_⟩
      cases e2
      exact ⟨o, e, ex.2.1⟩
    · obtain ⟨o, _, _, _, e, ex, _⟩ := I.hok p _ hk
      refine ⟨⟨o, e, ex.1⟩, fun a e2 => ?_⟩
      cases e2
      exact ⟨o, e, ex.2.1⟩
  | _ => exact False.elim ty
def tBM0 (K : PySem.W.Frag) (T : String) (r : V → List V → Hp → VK → Prop) (to : TE) : TE := fun σ H Q => to σ H fun x H1 => tyV K T x H1 ∧ r x [] H1 Q
def tBM (K : PySem.W.Frag) (T : String) (r : V → List V → Hp → VK → Prop) (to : TE) (t : TA) : TE := fun σ H Q => to σ H fun x H1 => tyV K T x H1 ∧ t σ H1 fun xs H2 => r x xs H2 Q
variable {o e : Expr} {es : List Expr} {to : TE} {t : TA} {name : Str} {apos cpos : Pos} {T id : String} {r : V → List V → Hp → VK → Prop}
theorem pe_bm (pa : PlainAttrs T) (slot : Slot T name id) (hty : typeOf (.builtin id) = pure (.type "method_descriptor")) (hm : MtR X id r) (ho : PE X o to) (ha : PA X (e :: es) t)
    (hbase : attributeBase o name X.env (eval o X.env) = eval o X.env := by rfl)
    (hfew : ((backTo cpos (starEach (e :: es) X.env)).all (fun x => !x.1) && (backToKw cpos (keywordEach [] X.env)).all (fun x => x.1.isSome)
      && decide ((e :: es).length + ([] : List Keyword).length + (if ([] : List Keyword).isEmpty then 0 else 1) < 30)) = true := by rfl)
    (hline : (apos.endLine == cpos.line) = true := by rfl) (hs : starEach (e :: es) X.env = (false, eval e X.env) :: starEach es X.env := by rfl) (hplain : (backTo cpos (starEach es X.env)).any (·.1) = false := by rfl) :
    PE X (.Call (.Attribute o name apos) (e :: es) [] cpos) (tBM X.K T r to t) := by
  intro pins s σ H Q I h
  refine wpAny_Call_method_late hbase hfew hline rfl (thn (ho pins s σ H _ I h) fun v s1 ⟨x, H1, I1, r1, ty, q1⟩ => ?_)
  obtain ⟨h1, h2⟩ := tyV_is I1 r1 ty
  refine ⟨T, id, pa, slot, hty, h1, h2, ?_⟩
  have hA := ha cpos pins s1 σ H1 _ I1 q1
  rw [hs] at hA ⊢
  refine Calls.callWith_builtin (by show (false || (backTo cpos (starEach es X.env)).any (·.1)) = false; rw [hplain] <;> rfl) (Calls.evalArgs_plain ?_)
  exact thn hA fun us s2 ⟨vs, H2, I2, r2, q2⟩ => hm pins s2 σ H2 x vs v us Q I2 r1 r2 q2
end
end L2
namespace L2
open PySem PySem.Spec PyProof.Rows
def MtM (X : Cx) (id : String) (r : V → List V → Hp → VK → Prop) : Prop :=
  ∀ (pins : List (Addr × Obj)) (s : Shared) (σ : St) (H : Hp) (x : V) (xs : List V) (v : Value) (us : List Value) (Q : VK), Inv X pins σ H s → RelV x v → Vals xs us → r x xs H Q →
    wpAny (model X.prog X.w) X.A (call (.builtin id) (v :: us)) (EP X pins σ Q) X.xe s
theorem Vals.one : ∀ {x : V} {us : List Value}, Vals [x] us → ∃ u, us = [u] ∧ RelV x u
  | _, _, .cons r .nil => ⟨_, rfl, r⟩
theorem Vals.zero : ∀ {us : List Value}, Vals [] us → us = []
  | _, .nil => rfl
theorem Vals.dropLast {xs : List V} {us : List Value} (h : Vals xs us) : Vals xs.dropLast us.dropLast := by
  induction h with
  | nil => exact .nil
  | cons r t ih =>
    cases t with
    | nil => exact .nil
    | cons q t' => exact .cons r ih
theorem Vals.eraseIdx : ∀ {xs : List V} {us : List Value} (i : Nat), Vals xs us → Vals (xs.eraseIdx i) (us.eraseIdx i)
  | _, _, _, .nil => .nil
  | _, _, 0, .cons _ t => t
  | _, _, i + 1, .cons r t => .cons r (Vals.eraseIdx i t)
theorem Vals.reverse {xs : List V} {us : List Value} (h : Vals xs us) : Vals xs.reverse us.reverse := by
  induction h with
  | nil => exact .nil
  | cons r t ih => rw [List.reverse_cons, List.reverse_cons]; exact Vals.append ih (.cons r .nil)
theorem Vals.rep {xs : List V} {us : List Value} (h : Vals xs us) : ∀ k : Nat, Vals (List.replicate k xs).flatten (List.replicate k us).flatten
  | 0 => .nil
  | k + 1 => by
    rw [List.replicate_succ, List.replicate_succ, List.flatten_cons, List.flatten_cons]
    exact Vals.append h (Vals.rep h k)
section
variable {X : Cx} {pins : List (Addr × Obj)} {σ : St} {H : Hp} {s : Shared} {l b : Addr} {xs ys zs : List V}
theorem Inv.lset {its its' : List Value} {n : Nat} {f : Array Value → Array Value} {t' : Nat} (I : Inv X pins σ H s) (hH : H l = some (.lst xs))
    (e : s.heap.get? l = some { cls := .type "list", data := .seq its.toArray n }) (hf : f its.toArray = its'.toArray) (hv : Vals ys its') (hz : ys.length ≤ sizeLine) :
    Inv X pins σ (upd H l (.lst ys)) { s with heap := s.heap.update l (Obj.mapSeq f), toks := t' } := by
  have q := PySem.IsL.update e f
  rw [hf] at q
  refine I.write (x := l) (e := l) (by rw [hH]; exact trivial) (.inl rfl) (fun b' u hb hu => (Heap.get?_update_other s.heap (Obj.mapSeq f) (Ne.symm hb)).trans hu) ⟨_, q⟩ ?_
  exact ⟨hz, its', _, hv, q⟩
theorem Inv.lnew {its : List Value} {t' : Nat} (I : Inv X pins σ H s) (hv : Vals ys its) (hz : ys.length ≤ sizeLine) :
    Inv X pins σ (upd H s.heap.objs.size (.lst ys)) { s with heap := s.heap.push { cls := .type "list", data := .seq its.toArray }, toks := t' } :=
  I.laid (fun _ _ q => Heap.get?_push_of_some _ q) (Nat.le_refl _) ⟨hz, its, 0, hv, Heap.get?_push_size _ rfl⟩
theorem Inv.fresh (I : Inv X pins σ H s) : H s.heap.objs.size = none := I.hok.fresh (Nat.le_refl _)
theorem Inv.lstM (I : Inv X pins σ H s) (hH : H l = some (.lst xs)) : xs.length ≤ sizeLine ∧ ∃ (its : List Value) (n : Nat), Vals xs its ∧ xs.length = its.length ∧ s.heap.get? l = some { cls := .type "list", data := .seq its.toArray n } := by
  obtain ⟨z, its, n, r, e⟩ := I.hok l _ hH
  exact ⟨z, its, n, r, r.length, e⟩
end
section
variable {X : Cx}
def rAppend : V → List V → Hp → VK → Prop := fun x vs H Q => ∃ l xs y, x = .ref l ∧ vs = [y] ∧ H l = some (.lst xs) ∧ xs.length < sizeLine ∧ Q .non (upd H l (.lst (xs ++ [y])))
theorem mt_append : MtM X "list.append" rAppend := by
  intro pins s σ H x vs v us Q I rx rv h
  obtain ⟨l, xs, y, rfl, rfl, hH, hz, q⟩ := h
  cases rx
  obtain ⟨u, rfl, ru⟩ := rv.one
  obtain ⟨z, its, n, r, hl, e⟩ := I.lstM hH
  refine call_meets F.slot_list_append ⟨_, e, rfl⟩ F.entry_list_append (F.args_list_append_2 _ _) (PySem.list_append l its.toArray n u (by rw [List.size_toArray]; omega)) ⟨e, ?_⟩
  refine ⟨.non, _, I.lset (its' := its ++ [u]) hH e (by simp) (r.append (.cons ru .nil)) ?_, rfl, q⟩
  rw [List.length_append, List.length_singleton]
  omega
def rExtend : V → List V → Hp → VK → Prop := fun x vs H Q => ∃ l b xs zs, x = .ref l ∧ vs = [.ref b] ∧ H l = some (.lst xs) ∧ H b = some (.lst zs) ∧ xs.length + zs.length ≤ sizeLine ∧ Q .non (upd H l (.lst (xs ++ zs)))
def rPop : V → List V → Hp → VK → Prop := fun x vs H Q => ∃ l xs y, x = .ref l ∧ vs = [] ∧ H l = some (.lst xs) ∧ xs[xs.length - 1]? = some y ∧ Q y (upd H l (.lst xs.dropLast))
def rPopAt : V → List V → Hp → VK → Prop := fun x vs H Q => ∃ l xs i k y, x = .ref l ∧ vs = [.int i] ∧ H l = some (.lst xs) ∧ -(2 ^ 63) ≤ i ∧ i < 2 ^ 63 ∧ seqIndex? i xs.length = some k ∧ xs[k]? = some y ∧ Q y (upd H l (.lst (xs.eraseIdx k)))
def rReverse : V → List V → Hp → VK → Prop := fun x vs H Q => ∃ l xs, x = .ref l ∧ vs = [] ∧ H l = some (.lst xs) ∧ Q .non (upd H l (.lst xs.reverse))
def rClear : V → List V → Hp → VK → Prop := fun x vs H Q => ∃ l xs, x = .ref l ∧ vs = [] ∧ H l = some (.lst xs) ∧ Q .non (upd H l (.lst []))
def rCat : R2 := fun x y H Q => ∃ l b xs zs, x = .ref l ∧ y = .ref b ∧ H l = some (.lst xs) ∧ H b = some (.lst zs) ∧ xs.length + zs.length ≤ sizeLine ∧ ∀ p, H p = none → Q (.ref p) (upd H p (.lst (xs ++ zs)))
def rRep : R2 := fun x y H Q => ∃ l k xs, x = .ref l ∧ y = .int k ∧ H l = some (.lst xs) ∧ -(2 ^ 63) ≤ k ∧ k < 2 ^ 63 ∧ xs.length * k.toNat ≤ sizeLine ∧
  ∀ p, H p = none → Q (.ref p) (upd H p (.lst (List.replicate k.toNat xs).flatten))
end
section
variable {prog : Program} {w : World} {A : Around} {E : Value → Shared → Prop} {s : Shared}
end
section
variable {X : Cx}
end
end L2
namespace Att
open PySem PySem.W PySem.Calls PyProof.Rows
theorem ints_of_wellAll {P : Params} {h : Heap} : ∀ (ns : List Int) (vs : List Value), WellAll P h vs (ns.map WData.int) → IntsAre vs ns := by
  intro ns
  induction ns with
  | nil =>
    intro vs w
    rw [List.map_nil] at w
    cases w
    exact .nil
  | cons n ns ih =>
    intro vs w
    rw [List.map_cons] at w
    cases w with
    | cons a b =>
      cases a
      exact .cons _ _ (ih _ b)
theorem script_of {l : OpenLaw} {n : Nat} (hn : l.most = some n) {P : Params} {h : Heap} {args : List WData} {vals : List Value}
    (hpre : l.row.toRowW.claim.pre args = true) (hwl : WellAll P h vals args) :
    ∃ a vs ns, vals = [Value.ref a] ∧ args = [WData.list (ns.map WData.int)] ∧ h.get? a = some { cls := .type "list", data := .seq vs.toArray } ∧ IntsAre vs ns ∧ ns.length ≤ n := by
  have hsh : WShape.hasAll [] args [.list .int] = true := (pre_splitW hpre).1
  have hc : l.pre.holds [] { args := args } = true := (pre_splitW hpre).2
  obtain ⟨d, r, rfl, h1, h2⟩ := hasAllW_cons hsh
  obtain rfl := hasAllW_nil h2
  obtain ⟨xs, rfl, h3⟩ := hasW_list h1
  obtain ⟨ns, rfl⟩ := items_int h3
  have hlen : ns.length ≤ n := by
    unfold OpenLaw.pre at hc
    have h4 : (WTm.not (.lt (.lit (.int (n : Int))) (.len (.arg 0)))).holds [] { args := [.list (ns.map .int)] } = true := by
      have h4 := (holds_andW hc).1
      rw [hn] at h4
      exact h4
    have h5 := condW_of h4 (w_not (w_lt w_lit (w_len_list (w_arg rfl))))
    rw [List.length_map] at h5
    refine Nat.le_of_not_lt fun q => ?_
    have q' : (n : Int) < ((ns.length : Nat) : Int) := by omega
    first
      | (rw [decide_eq_true q'] at h5; exact absurd h5 (by decide))
      | (simp at h5; omega)
  cases hwl with
  | cons w1 w2 =>
    cases w2
    cases w1 with
    | list ho hall => exact ⟨_, _, ns, rfl, rfl, ho, ints_of_wellAll ns _ hall, hlen⟩
theorem post_true (l : OpenLaw) (args : List WData) : l.row.toRowW.claim.post args (.bool true) args = true :=
  postW_of (r := l.row.toRowW) (X := (true == true))
    (show WShape.has [] (.bool true) .bool = true by first | rfl | decide | simp [WShape.has, WShape.arms, WShape.armsAll])
    (show (WTm.eq .res (.lit (.bool true))).value [] { args := args, res := some (.bool true), after := args } = some (.bool (true == true)) from w_eq_bool (w_res rfl) w_lit) rfl
theorem attach_call {l : OpenLaw} {n : Nat} {q : Program} {loose : List Str} {XP : (Str → Option Value) → Heap → Prop} {YP : World → Heap → Prop} {d : DefRec}
    (hn : l.most = some n) (hdf : d.params.defaults = [])
    (call : ∀ (w : World) (s₀ s₁ : Shared) (mg mb : Str → Option Value) (fa : Addr) (o : Obj) (pm cd doc : Value) (a : Addr) (vs : List Value) (ns : List Int),
      Ground q loose [] XP w s₀ mg mb s₁.heap → YP w s₁.heap →
      s₁.heap.get? fa = some o → o.data = .func (docDef d.name d.params d.body d.scope pm cd doc) → s₁.heap.CodeRec cd d.name → mg d.name = some (.ref fa) →
      s₁.heap.get? a = some { cls := .type "list", data := .seq vs.toArray } → IntsAre vs ns → ns.length ≤ n → s₁.gens = #[] →
      codeAny (model l.prog w) callerA (.call (.ref fa) ⟨[.ref a], []⟩) (fun r s' => r = .ok (.ret (.bool true)) ∧ OldK s₁.heap s'.heap ∧ s'.os = s₁.os ∧ AllBare s'.gens) s₁) :
    WalkO q loose XP YP l.row.toRowW d [] (fun f vs => PySem.call f vs) := by
  intro w s₀ s₁ mg mb G Y fa o pm cd doc dV kV ho hd hcd hD hmg hg args vals as hpre hlay hrd hwl hlo
  obtain rfl : dV = .none := Dflts.none hD hdf
  obtain rfl : kV = .none := Dflts.noKw hD
  obtain ⟨a, vs, ns, rfl, rfl, hobj, hints, hlen⟩ := script_of hn hpre hwl
  refine enter_call (codeAny_mono (call w s₀ s₁ mg mb fa o pm cd doc a vs ns G Y ho (fd_plain hd) hcd hmg hobj hints hlen hg) fun r s' hq => ?_)
  obtain ⟨rfl, h2, h3, h4⟩ := hq
  exact ⟨.inl ⟨.bool true, .bool true, [], rfl, fun _ => rfl, .bool true, post_true l _, fun _ => ⟨List.Pairwise.nil, fun _ hm => (nomatch hm)⟩⟩, h2, h3, h4⟩
section
variable {prog : Program} {w : World} {A : Around} {E : Value → Shared → Prop} {s : Shared} {K : Frag}
def noObjs (h : Heap) : Heap := { h with objs := #[] }
def ledger (h : Heap) (L d : Addr) : List (Addr × Obj) := (List.range h.objs.size).filterMap fun a => if a = L ∨ a = d then none else (h.get? a).map fun o => (a, o)
end
end Att
namespace L2
open PySem PySem.Spec PyProof.Rows
theorem vals_ints : ∀ {vs : List Value} {ns : List Int}, IntsAre vs ns → Vals (ns.map V.int) vs
  | _, _, .nil => .nil
  | _, _, .cons n t h => .cons ⟨t, rfl⟩ (vals_ints h)
def Only (H : Hp) : Prop := ∀ b, H b = none ∨ ∃ o xs, H b = some (.frz o (.lst xs))
theorem law_call {P : Program} {w : World} {K : PySem.W.Frag} {mg mb : Str → Option Value} {CX : CXT} {k : Nat} {fa a : Addr} {fd : FuncData} {x : Str} {sp : Sp} {s₁ : Shared} {vs : List Value} {ns : List Int}
    (KX : K.In s₁.heap) (hns : s₁.heap.Ns mainGlobals mg) (hb : s₁.heap.Ns builtinsNs mb) (hbb : ∀ x : Str, x ≠ "__name__" → mb x = bootBuiltins x) (hlim : s₁.heap.NoLimit) (hg : s₁.gens = #[])
    (ha : s₁.heap.get? a = some { cls := .type "list", data := .seq vs.toArray }) (hi : IntsAre vs ns) (hl : ns.length ≤ sizeLine) (hr : Room k callerA)
    (F : ∀ base : Heap, K.In base → base.Ns mainGlobals mg → FnOk P w K mg base CX k fa fd [x] sp) (hbind : ∀ (s : Shared) (u : Value), BindsTo s fd ⟨[u], []⟩ [(x, u)])
    (hsp : ∀ H : Hp, Only H → SqL K H a (ns.map V.int) → sp [.ref a] H (fun v _ => v = .bl true) fun _ _ _ => False)
    (hCX : ∀ H e s', CX [] H s₁ (fun _ _ _ => False) e s' → False) :
    codeAny (model P w) callerA (.call (.ref fa) ⟨[.ref a], []⟩) (fun r s' => r = .ok (.ret (.bool true)) ∧ OldK s₁.heap s'.heap ∧ s'.os = s₁.os ∧ AllBare s'.gens) s₁ := by
  have rv := vals_ints hi
  have lenV := hi.length
  -- from an abstract heap in which nothing but the script may be tracked
  have core : ∀ H : Hp, Only H → SqL K H a (ns.map V.int) → HOk P w H s₁.heap → (∀ b, H b ≠ none → b = a) → (H a ≠ none → K.lookup a = none) →
      codeAny (model P w) callerA (.call (.ref fa) ⟨[.ref a], []⟩) (fun r s' => r = .ok (.ret (.bool true)) ∧ OldK s₁.heap s'.heap ∧ s'.os = s₁.os ∧ AllBare s'.gens) s₁ := by
    intro H hO hS hok hA hK
    have base_of : ∀ {b : Addr} {o : Obj}, s₁.heap.get? b = some o → H b = none → (hidT s₁.heap H).get? b = some o := fun e n => hidT_get e n
    have noA : ∀ {b : Addr} {o : Obj} {es : Array DictEntry} {ep : Nat}, s₁.heap.get? b = some o → o.data = .dict es ep → H b = none := fun {b o es ep} e d => by
      cases q : H b with
      | none => rfl
      | some u =>
        have e' : b = a := hA b (by rw [q]; simp)
        subst e'
        rw [ha] at e; cases e
        have d' : Data.seq vs.toArray _ = Data.dict es ep := d
        cases d'
    have nsK : ∀ {b : Addr} {m : Str → Option Value}, s₁.heap.Ns b m → (hidT s₁.heap H).Ns b m := fun {b m} ⟨o, es, ep, e, d, r⟩ => ⟨o, es, ep, base_of e (noA e d), d, r⟩
    have hKb : K.In (hidT s₁.heap H) := fun b o e => base_of (KX b o e) (by
      cases q : H b with
      | none => rfl
      | some u =>
        have e' : b = a := hA b (by rw [q]; simp)
        subst e'
        rw [hK (by rw [q]; simp)] at e; cases e)
    have hM : Mod K mg (hidT s₁.heap H) := ⟨hKb, nsK hns, ⟨mb, nsK hb, hbb⟩, let ⟨mc, h1, h2⟩ := hlim; ⟨mc, nsK h1, h2⟩⟩
    have e0 : Env0 P w K mg (hidT s₁.heap H) callerA [] s₁ H := ⟨rfl, hM, fun b o e => of_hidT e, Nat.le_of_eq (hidT_size _ _), trivial, fun b hb => absurd (show b ∈ ([] : List Addr) from hb) (by simp), hok, .of_eq hg⟩
    refine codeAny_mono ((F _ hKb (nsK hns)).run callerA [] s₁ H ⟨[.ref a], []⟩ [.ref a] [.ref a] _ _ hr e0 (hbind s₁ (.ref a)) (.cons rfl .nil) (hsp H hO hS)) fun r s' h => ?_
    cases r with
    | error e => exact (hCX H e s' h).elim
    | ok fl =>
      cases fl with
      | next => exact False.elim h
      | brk => exact False.elim h
      | cont => exact False.elim h
      | ret u =>
        obtain ⟨v, H', os, bare, un, hok', r', q⟩ := h
        have q' : v = .bl true := q
        subst q'
        obtain rfl : u = Value.bool true := r'
        refine ⟨rfl, OldK.of_keep fun b o e => ?_, os, bare⟩
        cases q : H b with
        | none => exact un.keep b o e q (by intro z; exact absurd (show b ∈ ([] : List Addr) from z) (by simp)) (by simp)
        | some u =>
          rcases hO b with z | ⟨ob, xs, z⟩
          · rw [q] at z; cases z
          · have z2 := un.frzs b ob _ z
            obtain ⟨e1, _⟩ := hok b _ z
            obtain ⟨e2, _⟩ := hok' b _ z2
            rw [e] at e1; cases e1
            exact e2
  cases hk : K.lookup a with
  | some o =>
    -- the script is one of the module's own objects
    have e := KX a o hk
    rw [ha] at e
    cases e
    refine core (fun _ => none) (fun _ => .inl rfl) (.inr ⟨_, vs.toArray, _, hk, rfl, rfl, rfl, by rw [List.size_toArray, lenV]; exact hl, by simpa using rv⟩) (fun b u z => by have z' : (none : Option HO) = some u := z; cases z') (fun b z => absurd rfl z) fun z => absurd rfl z
  | none =>
    refine core (fun b => if b = a then some (.frz { cls := .type "list", data := .seq vs.toArray } (.lst (ns.map V.int))) else none) (fun b => ?_) (.inl (.inr ⟨{ cls := .type "list", data := .seq vs.toArray }, if_pos rfl⟩)) (fun b u z => ?_) (fun b z => ?_) fun _ => hk
    · by_cases hb : b = a
      · exact .inr ⟨_, _, if_pos hb⟩
      · exact .inl (if_neg hb)
    · by_cases hb : b = a
      · have z' := (if_pos hb).symm.trans z
        cases z'
        subst hb
        exact ⟨ha, by rw [List.length_map]; exact hl, vs, _, rv, ha⟩
      · have z' := (if_neg hb).symm.trans z
        cases z'
    · by_cases hb : b = a
      · exact hb
      · exact absurd (if_neg hb) z
end L2
namespace L2
open PySem PySem.Spec PyProof.Rows
abbrev KOf {K : PySem.W.Frag} {h : Heap} (_ : K.In h) : PySem.W.Frag := K
theorem walk_of {l : PySem.W.OpenLaw} {n k : Nat} {q : Program} {loose : List Str} {XP : (Str → Option Value) → Heap → Prop} {YP : World → Heap → Prop} {d : DefRec} {K : Params → PySem.W.Frag} {CX : World → CXT} {sp : World → Sp} {x : Str}
    (hn : l.most = some n) (hn2 : n ≤ sizeLine) (hdf : d.params.defaults = []) (hr : Room k callerA)
    (hY : ∀ (w : World) (h : Heap), YP w h → (K w.params).In h)
    (F : ∀ (w : World) (mg : Str → Option Value) (fa : Addr) (h : Heap), (K w.params).In h → h.Ns mainGlobals mg → mg d.name = some (.ref fa) →
      ∃ fd : FuncData, (∀ (s : Shared) (u : Value), BindsTo s fd ⟨[u], []⟩ [(x, u)]) ∧
        ∀ base : Heap, (K w.params).In base → base.Ns mainGlobals mg → FnOk l.prog w (K w.params) mg base (CX w) k fa fd [x] (sp w))
    (hsp : ∀ (w : World) (H : Hp) (a : Addr) (ns : List Int), ns.length ≤ n → Only H → SqL (K w.params) H a (ns.map V.int) → sp w [.ref a] H (fun v _ => v = .bl true) fun _ _ _ => False)
    (hCX : ∀ (w : World) (H : Hp) (s : Shared) (e : Value) (s' : Shared), CX w [] H s (fun _ _ _ => False) e s' → False) :
    PySem.W.WalkO q loose XP YP l.row.toRowW d [] (fun f vs => PySem.call f vs) := by
  refine Att.attach_call hn hdf fun w s₀ s₁ mg mb fa o pm cd doc a vs ns G Y ho hd hcd hmg hobj hints hlen hg => ?_
  have KX := hY w _ Y
  obtain ⟨fd, hb, hF⟩ := F w mg fa _ KX G.T.g hmg
  exact law_call KX G.T.g G.T.b G.T.builtins G.T.nolimit hg hobj hints (Nat.le_trans hlen hn2) hr hF hb (fun H hO hS => hsp w H a ns hlen hO hS) fun H e s' => hCX w H s₁ e s'
end L2
namespace L2
open PySem PySem.Spec PyProof.Rows
def inClass (s : Stmt) (j : Nat) : Stmt := match s with
  | .ClassDef _ _ _ body _ _ _ _ _ _ _ => body.getD j (.Pass ⟨0, 0, 0, 0⟩)
  | _ => .Pass ⟨0, 0, 0, 0⟩
def defArgs (s : Stmt) : Arguments := match s with
  | .FunctionDef _ a _ _ _ _ _ _ _ _ => a
  | _ => { posonlyargs := [], args := [], vararg := none, kwonlyargs := [], kw_defaults := [], kwarg := none, defaults := [] }
def defBody (s : Stmt) : List Stmt := match s with
  | .FunctionDef _ _ b _ _ _ _ _ _ _ => b
  | _ => []
def defScope (s : Stmt) : Scope := match s with
  | .FunctionDef _ _ _ _ _ _ sc _ _ _ => sc
  | _ => { kind := .function, names := [], isGenerator := false, isCoroutine := false }
abbrev CX0 : CXT := fun _ _ _ _ _ _ => False
abbrev E0 : XK := fun _ _ _ => False
theorem pass0 {X : Cx} : Passes CX0 X E0 := fun _ _ _ _ _ _ _ h => h.elim
structure Fun (K : PySem.W.Frag) (x qual : Str) (st : Stmt) (f : Addr) (fd : FuncData) : Prop where
  ex : ∃ (oc : Value) (od : Option Addr) (kV doc pm : Value) (an : Option Addr) (cdv ct : Value) (osl : Array (Option Value)),
    fd = PySem.W.fnOf x qual (defArgs st) (defBody st) (defScope st) .none kV doc pm an cdv ct ∧ K.lookup f = some ⟨oc, od, .func fd, osl⟩ ∧ PySem.W.codeIn K cdv qual = true
  kp : PySem.W.keepIn K (.ref f) = true
section
variable {P : Program} {w : World} {K : PySem.W.Frag} {mg : Str → Option Value} {base : Heap}
theorem Fun.ok {x qual : Str} {st : Stmt} {f : Addr} {fd : FuncData} {N ps : List Str} {k : Nat} {sp : Sp} (F : Fun K x qual st f fd) (S : FnScope N ps (defScope st)) (len : ∀ vs H Q E, sp vs H Q E → vs.length = ps.length)
    (hbody : ∀ (cdv : Value) (A : Around) (outer : List Env) (s : Shared) (H : Hp) (vs : List V) (Q : VK) (E : XK), Room k (A.deeper (envOfC qual (defScope st) s.heap.objs.size f cdv)) → sp vs H Q E →
      ∃ t, PSs (cxOf CX0 P w K mg base N qual (defScope st) f cdv A outer s H E).nox (defBody st) t ∧ t { nx := fun _ H' => Q .non H', rt := Q } (start N vs) H) : FnOk P w K mg base CX0 (k + 1) f fd ps sp := by
  obtain ⟨oc, od, kV, doc, pm, an, cdv, ct, osl, rfl, lk, hcd⟩ := F.ex
  refine fn_of lk hcd S len fun A outer s H vs Q E hr hsp => ?_
  obtain ⟨t, h, q⟩ := hbody cdv A outer s H vs Q E hr hsp
  exact ⟨t, h.nox, q⟩
theorem Fun.binds {x qual : Str} {st : Stmt} {f : Addr} {fd : FuncData} {ps : List Str} (F : Fun K x qual st f fd)
    (h : ∀ (kV doc pm : Value) (an : Option Addr) (cdv ct : Value) (us : List Value), us.length = ps.length → bindArgs (PySem.W.fnOf x qual (defArgs st) (defBody st) (defScope st) .none kV doc pm an cdv ct) ⟨us, []⟩ = pure (ps.zip us)) : Binds K fd ps [] := by
  obtain ⟨oc, od, kV, doc, pm, an, cdv, ct, osl, rfl, lk, hcd⟩ := F.ex
  exact .all (h kV doc pm an cdv ct)
theorem fun_mk {x qual : Str} {st : Stmt} {f : Addr} {oc : Value} {od an : Option Addr} {osl : Array (Option Value)} {kV doc pm cdv ct : Value} (l : K.lookup f = some ⟨oc, od, .func (PySem.W.fnOf x qual (defArgs st) (defBody st) (defScope st) .none kV doc pm an cdv ct), osl⟩)
    (c : PySem.W.codeIn K cdv qual = true) (k : PySem.W.keepIn K (.ref f) = true) : Fun K x qual st f (PySem.W.fnOf x qual (defArgs st) (defBody st) (defScope st) .none kV doc pm an cdv ct) := ⟨⟨oc, od, kV, doc, pm, an, cdv, ct, osl, rfl, l, c⟩, k⟩
end
theorem small1000 {n : Nat} (h : n ≤ 1000) : n < sizeLine := Nat.lt_of_le_of_lt h (by decide)
section
variable {X : Cx}
theorem pv (i : Nat) {x : Str} {pos : Pos} (hN : X.N[i]? = some x := by rfl) (hv : Vis X.env.scope x := by first | exact Or.inl rfl | exact Or.inr (Or.inl rfl) | exact Or.inr (Or.inr rfl)) (hd : (x == ("__debug__" : Str)) = false := by decide)
    (hcd : (x == ("__classdict__" : Str)) = false := by decide) : PE X (.Name x pos) (tVar i) := pe_var hN hv hd hcd
end
theorem iteF {A B : Prop} (h : B) : if false = true then A else B := by
  rw [if_neg Bool.false_ne_true]
  exact h
theorem ite2 {c A B : Prop} [Decidable c] (h1 : c → A) (h2 : ¬ c → B) : if c then A else B := by
  by_cases h : c
  · rw [if_pos h]
    exact h1 h
  · rw [if_neg h]
    exact h2 h
def Same (H H' : Hp) : Prop := ∀ b o, H b = some o → H' b = some o
theorem Same.refl (H : Hp) : Same H H := fun _ _ h => h
theorem Same.trans {H H1 H2 : Hp} (a : Same H H1) (b : Same H1 H2) : Same H H2 := fun c o h => b c o (a c o h)
theorem Same.free {H H' : Hp} (e : Same H H') {l : Addr} (h : H' l = Option.none) : H l = Option.none := by
  cases q : H l with
  | none => rfl
  | some o =>
    rw [e l o q] at h
    cases h
theorem Same.seq {K : PySem.W.Frag} {H H' : Hp} {a : Addr} {xs : List V} (e : Same H H') (h : SqL K H a xs) : SqL K H' a xs := by
  rcases h with (h | ⟨o, h⟩) | h
  · exact .inl (.inl (e _ _ h))
  · exact .inl (.inr ⟨o, e _ _ h⟩)
  · exact .inr h
end L2
namespace L2
open PySem PySem.Spec PyProof.Rows
structure Dn (P : Program) (w : World) (K : PySem.W.Frag) (mg : Str → Option Value) (base : Heap) (k : Nat) (x : Str) (ps : List Str) (sp : Sp) : Prop where
  ex : ∃ (f : Addr) (fd : FuncData), FnOk P w K mg base CX0 k f fd ps sp ∧ Binds K fd ps [] ∧ PySem.W.keepIn K (.ref f) = true ∧ mg x = some (.ref f)
theorem Dn.mono {P : Program} {w : World} {K : PySem.W.Frag} {mg : Str → Option Value} {base : Heap} {j k : Nat} {x : Str} {ps : List Str} {sp : Sp} (D : Dn P w K mg base j x ps sp) (h : j ≤ k) : Dn P w K mg base k x ps sp := by
  obtain ⟨f, fd, a, b, c, d⟩ := D.ex
  exact ⟨f, fd, a.mono h, b, c, d⟩
theorem Dn.imp {P : Program} {w : World} {K : PySem.W.Frag} {mg : Str → Option Value} {base : Heap} {k : Nat} {x : Str} {ps : List Str} {sp sp' : Sp} (D : Dn P w K mg base k x ps sp) (h : ∀ vs H Q E, sp' vs H Q E → sp vs H Q E) : Dn P w K mg base k x ps sp' := by
  obtain ⟨f, fd, a, b, c, d⟩ := D.ex
  exact ⟨f, fd, a.imp h, b, c, d⟩
def unst (e : Expr) : Bool := match e with
  | .Starred _ _ => false
  | _ => true
theorem star_un {e : Expr} {es : List Expr} {env : Env} (h : unst e = true) : starEach (e :: es) env = (false, eval e env) :: starEach es env := by
  cases e <;> first | rfl | cases h
theorem star_any {env : Env} {pos : Pos} : ∀ {es : List Expr}, es.all unst = true → (backTo pos (starEach es env)).any (·.1) = false
  | [], _ => rfl
  | e :: es, h => by
    rw [List.all_cons, Bool.and_eq_true] at h
    rw [star_un h.1]
    show (false || (backTo pos (starEach es env)).any (·.1)) = false
    rw [star_any h.2]
    rfl
theorem all_tl {e : Expr} {es : List Expr} (h : (e :: es).all unst = true) : es.all unst = true := by
  rw [List.all_cons, Bool.and_eq_true] at h; exact h.2
theorem all_hd {e : Expr} {es : List Expr} (h : (e :: es).all unst = true) : unst e = true := by
  rw [List.all_cons, Bool.and_eq_true] at h; exact h.1
theorem pa_u {X : Cx} {e : Expr} {es : List Expr} {te : TE} {t : TA} (ha : PE X e te) (hr : PA X es t) (h : unst e = true := by rfl) : PA X (e :: es) (tCons te t) := pa_cons ha hr (star_un h)
theorem pe_callBu {X : Cx} {x : Str} {p pos : Pos} {e : Expr} {es : List Expr} {t : TA} {id : String} {r : List V → Hp → VK → Prop} (hc : CallR X (.builtin id) r) (hg : Gl X x) (hm : X.mg x = none) (hv : bootBuiltins x = some (.builtin id)) (ha : PA X (e :: es) t)
    (h : (e :: es).all unst = true := by rfl) (hn : x ≠ "__name__" := by decide) (hdb : (x == ("__debug__" : Str)) = false := by decide) : PE X (.Call (.Name x p) (e :: es) [] pos) (tCB r t) :=
  pe_callB hc hg hm hv ha hn hdb (star_un (all_hd h)) (star_any (all_tl h))
theorem pe_callTu {X : Cx} {x : Str} {p pos : Pos} {e : Expr} {es : List Expr} {t : TA} {T : String} {r : List V → Hp → VK → Prop} (hc : CallR X (.type T) r) (hg : Gl X x) (hm : X.mg x = none) (hv : bootBuiltins x = some (.type T)) (ha : PA X (e :: es) t)
    (h : (e :: es).all unst = true := by rfl) (hn : x ≠ "__name__" := by decide) (hdb : (x == ("__debug__" : Str)) = false := by decide) : PE X (.Call (.Name x p) (e :: es) [] pos) (tCB r t) :=
  pe_callTy hc hg hm hv ha hn hdb (star_un (all_hd h)) (star_any (all_tl h))
theorem pe_callD {X : Cx} {k : Nat} {x : Str} {ps : List Str} {sp : Sp} {e : Expr} {es : List Expr} {t : TA} {p pos : Pos} (D : Dn X.prog X.w X.K X.mg X.base k x ps sp) (hr : Room k X.A) (hg : Gl X x)
    (ha : PA X (e :: es) t) (h : (e :: es).all unst = true := by rfl) (hdb : (x == ("__debug__" : Str)) = false := by decide) :
    PE X (.Call (.Name x p) (e :: es) [] pos) (tCall sp [] E0 t) := by
  obtain ⟨f, fd, a, b, c, d⟩ := D.ex
  exact pe_call a hr hg d c b .nil pass0 ha hdb (star_un (all_hd h)) (star_any (all_tl h))
structure Df (K : PySem.W.Frag) (mg : Str → Option Value) (x : Str) (st : Stmt) (ps : List Str) : Prop where
  ex : ∃ (f : Addr) (fd : FuncData), Fun K x x st f fd ∧ Binds K fd ps [] ∧ mg x = some (.ref f)
theorem Df.ok {P : Program} {w : World} {K : PySem.W.Frag} {mg : Str → Option Value} {base : Heap} {x : Str} {st : Stmt} {N ps : List Str} {k : Nat} {sp : Sp} (F : Df K mg x st ps) (S : FnScope N ps (defScope st))
    (len : ∀ vs H Q E, sp vs H Q E → vs.length = ps.length)
    (hbody : ∀ (f : Addr) (cdv : Value) (A : Around) (outer : List Env) (s : Shared) (H : Hp) (vs : List V) (Q : VK) (E : XK), Room k (A.deeper (envOfC x (defScope st) s.heap.objs.size f cdv)) → sp vs H Q E →
      ∃ (t : TS) (σ : St), PSs (cxOf CX0 P w K mg base N x (defScope st) f cdv A outer s H E).nox (defBody st) t ∧ start N vs = σ ∧ t { nx := fun _ H' => Q .non H', rt := Q } σ H) : Dn P w K mg base (k + 1) x ps sp := by
  obtain ⟨f, fd, F1, b, m⟩ := F.ex
  refine ⟨f, fd, F1.ok S len fun cdv A outer s H vs Q E hr h => ?_, b, F1.kp, m⟩
  obtain ⟨t, σ, h1, rfl, h2⟩ := hbody f cdv A outer s H vs Q E hr h
  exact ⟨t, h1, h2⟩
structure Gc (mg : Str → Option Value) (x : Str) (v : V) : Prop where
  ex : ∃ u, mg x = some u ∧ RelV v u
mutual
def Dt (K : PySem.W.Frag) (t : Addr) (H : Hp) : PyData → V → Prop
  | .none, v => v = .non
  | .bool b, v => v = .bl b
  | .int i, v => v = .int i
  | .str x, v => v = .str x ∧ PyData.strOk x = true
  | .tuple ds, v => ∃ a xs, v = .ref a ∧ SqT K H a xs ∧ DtL K t H ds xs
  | .list ds, v => ∃ a xs, v = .ref a ∧ a ≠ t ∧ SqL K H a xs ∧ DtL K t H ds xs
  | .dict _, _ => False
def DtL (K : PySem.W.Frag) (t : Addr) (H : Hp) : List PyData → List V → Prop
  | [], vs => vs = []
  | d :: ds, vs => ∃ v r, vs = v :: r ∧ Dt K t H d v ∧ DtL K t H ds r
end
mutual
theorem Dt.lay {K : PySem.W.Frag} {t : Addr} {H : Hp} : ∀ (d : PyData) (v : V), Dt K t H d v → d.canLay0 = true
  | .none, _, _ => by simp [PyData.canLay0]
  | .bool _, _, _ => by simp [PyData.canLay0]
  | .int _, _, _ => by simp [PyData.canLay0]
  | .str x, _, h => by
    simp only [Dt] at h
    simpa [PyData.canLay0] using h.2
  | .tuple ds, v, h => by
    simp only [Dt] at h
    obtain ⟨a, xs, _, _, q⟩ := h
    simpa [PyData.canLay0] using DtL.lay ds xs q
  | .list ds, v, h => by
    simp only [Dt] at h
    obtain ⟨a, xs, _, _, _, q⟩ := h
    simpa [PyData.canLay0] using DtL.lay ds xs q
  | .dict _, _, h => by simp [Dt] at h
theorem DtL.lay {K : PySem.W.Frag} {t : Addr} {H : Hp} : ∀ (ds : List PyData) (vs : List V), DtL K t H ds vs → PyData.canLayAll0 ds = true
  | [], _, _ => by simp [PyData.canLayAll0]
  | d :: ds, vs, h => by
    simp only [DtL] at h
    obtain ⟨v, r, _, h1, h2⟩ := h
    simp [PyData.canLayAll0, Dt.lay d v h1, DtL.lay ds r h2]
end
mutual
theorem Dt.reads {X : Cx} {pins : List (Addr × Obj)} {σ : St} {H : Hp} {s : Shared} {t : Addr} (I : Inv X pins σ H s) : ∀ (d : PyData) (v : V) (u : Value), Dt X.K t H d v → RelV v u → ∃ as, Reads s.heap u d as
  | .none, v, u, h, r => by simp only [Dt] at h; subst h; cases r; exact ⟨_, .none⟩
  | .bool b, v, u, h, r => by simp only [Dt] at h; subst h; cases r; exact ⟨_, .bool b⟩
  | .int i, v, u, h, r => by simp only [Dt] at h; subst h; obtain ⟨tk, rfl⟩ := r; exact ⟨_, .int i tk⟩
  | .str x, v, u, h, r => by simp only [Dt] at h; obtain ⟨h, _⟩ := h; subst h; obtain ⟨tk, rfl⟩ := r; exact ⟨_, .str x tk⟩
  | .tuple ds, v, u, h, r => by
    simp only [Dt] at h
    obtain ⟨a, xs, rfl, hs, q⟩ := h
    cases r
    obtain ⟨its, rv, ⟨o, ho, hc, n, hd⟩, _⟩ := I.tuple hs
    obtain ⟨as, ra⟩ := DtL.reads I ds xs its q rv
    exact ⟨as, .tuple ho hc hd (by simpa using ra)⟩
  | .list ds, v, u, h, r => by
    simp only [Dt] at h
    obtain ⟨a, xs, rfl, _, hs, q⟩ := h
    cases r
    obtain ⟨its, rv, ⟨o, n, ho, hc, _, hd⟩, _⟩ := I.list hs
    obtain ⟨as, ra⟩ := DtL.reads I ds xs its q rv
    exact ⟨_, .list ho hc hd (by simpa using ra)⟩
  | .dict _, _, _, h, _ => by simp [Dt] at h
theorem DtL.reads {X : Cx} {pins : List (Addr × Obj)} {σ : St} {H : Hp} {s : Shared} {t : Addr} (I : Inv X pins σ H s) : ∀ (ds : List PyData) (vs : List V) (us : List Value), DtL X.K t H ds vs → Vals vs us → ∃ as, ReadsAll s.heap us ds as
  | [], vs, us, h, r => by simp only [DtL] at h; subst h; cases r; exact ⟨_, .nil⟩
  | d :: ds, vs, us, h, r => by
    simp only [DtL] at h
    obtain ⟨v, vr, rfl, h1, h2⟩ := h
    cases r with
    | cons r1 r2 =>
      obtain ⟨as, a1⟩ := Dt.reads I d v _ h1 r1
      obtain ⟨bs, a2⟩ := DtL.reads I ds vr _ h2 r2
      exact ⟨_, .cons a1 a2⟩
end
def rEqD (K : PySem.W.Frag) (n : Bool) : R2 := fun x y H Q => ∃ t d e, Dt K t H d x ∧ Dt K t H e y ∧ min d.depth e.depth ≤ 100 ∧ Q (.bl (if n then !PyData.eqv d e else PyData.eqv d e)) H
theorem op_eqD {X : Cx} {k : Nat} (hr : Room k X.A) : OpR X (compareOp .Eq) (rEqD X.K false) := by
  intro pins s σ H x y v u Q I rx ry h
  obtain ⟨t, d, e, hd, he, hm, q⟩ := h
  obtain ⟨as, r1⟩ := Dt.reads I d x v hd rx
  obtain ⟨bs, r2⟩ := Dt.reads I e y u he ry
  exact PySem.SeqAt.compareEq_reads r1 r2 (Dt.lay d x hd) (Dt.lay e y he) (by have := hr.un; omega) ⟨.bl _, H, I, rfl, q⟩
def tyD : PyData → String
  | .none => "NoneType"
  | .bool _ => "bool"
  | .int _ => "int"
  | .str _ => "str"
  | .tuple _ => "tuple"
  | .list _ => "list"
  | .dict _ => "dict"
def isiD (d : PyData) (T : String) : Bool := match d with
  | .none => false
  | .bool _ => T == "bool" || T == "int"
  | .int _ => T == "int"
  | .str _ => T == "str"
  | .tuple _ => T == "tuple"
  | .list _ => T == "list"
  | .dict _ => T == "dict"
def isiTs : List String := ["int", "bool", "str", "tuple", "list"]
theorem kit_isi {K : PySem.W.Frag} (d : PyData) {T : String} (h : T ∈ isiTs) : PySem.W.kitOne K (.type (tyD d)) (.type T) = some (isiD d T) := by
  simp only [isiTs, List.mem_cons, List.not_mem_nil, or_false] at h
  rcases h with rfl | rfl | rfl | rfl | rfl <;> cases d <;> with_unfolding_all rfl
theorem isi_dt {X : Cx} {pins : List (Addr × Obj)} {σ : St} {H : Hp} {s : Shared} {A : Around} {E : Value → Shared → Prop} {Q : Value → Shared → Prop} {t : Addr} {d : PyData} {x : V} {u : Value} {T : String}
    (I : Inv X pins σ H s) (rx : RelV x u) (hd : Dt X.K t H d x) (hT : T ∈ isiTs) (h : ∀ tk, Q (.bool (isiD d T)) { s with toks := tk }) : wpAny (model X.prog X.w) A (call (.builtin "isinstance") [u, .type T]) Q E s := by
  have e := kit_isi (K := X.K) d hT
  cases d with
  | none => simp only [Dt] at hd; subst hd; cases rx; exact PySem.W.kia_one PySem.W.kitx_none I.kIn True.intro e (fun z => nomatch z) h
  | bool b => simp only [Dt] at hd; subst hd; cases rx; exact PySem.W.kia_one PySem.W.kitx_bool I.kIn True.intro e (fun z => nomatch z) h
  | int i => simp only [Dt] at hd; subst hd; obtain ⟨tk, rfl⟩ := rx; exact PySem.W.kia_one PySem.W.kitx_int I.kIn True.intro e (fun z => nomatch z) h
  | str y => simp only [Dt] at hd; obtain ⟨hd, _⟩ := hd; subst hd; obtain ⟨tk, rfl⟩ := rx; exact PySem.W.kia_one PySem.W.kitx_str I.kIn True.intro e (fun z => nomatch z) h
  | tuple ds =>
    simp only [Dt] at hd
    obtain ⟨a, xs, rfl, hs, _⟩ := hd
    cases rx
    obtain ⟨its, _, ⟨o, ho, hc, _⟩, _⟩ := I.tuple hs
    exact PySem.W.kia_one PySem.W.kitx_tuple I.kIn ⟨o, ho, hc⟩ e (fun z => nomatch z) h
  | list ds =>
    simp only [Dt] at hd
    obtain ⟨a, xs, rfl, _, hs, _⟩ := hd
    cases rx
    obtain ⟨its, _, ⟨o, n, ho, hc, _⟩, _⟩ := I.list hs
    exact PySem.W.kia_one PySem.W.kitx_list I.kIn ⟨o, ho, hc⟩ e (fun z => nomatch z) h
  | dict _ => simp [Dt] at hd
def rIsi (K : PySem.W.Frag) : List V → Hp → VK → Prop := fun xs H Q => ∃ x T t d, xs = [x, .ty T] ∧ T ∈ isiTs ∧ Dt K t H d x ∧ Q (.bl (isiD d T)) H
theorem call_isi {X : Cx} : CallR X (.builtin "isinstance") (rIsi X.K) := by
  intro pins s σ H xs us Q I r h
  obtain ⟨x, T, t, d, rfl, hT, hd, q⟩ := h
  cases r with
  | cons r1 r2 =>
    cases r2 with
    | cons r3 r4 =>
      cases r4
      cases r3
      exact isi_dt I r1 hd hT fun tk => ⟨.bl _, H, I.tok _, rfl, q⟩
theorem bt_isinstance : bootBuiltins "isinstance" = some (.builtin "isinstance") := by decide +kernel
theorem bt_max : bootBuiltins "max" = some (.builtin "max") := by decide +kernel
theorem bt_list : bootBuiltins "list" = some (.type "list") := by decide +kernel
theorem bt_int : bootBuiltins "int" = some (.type "int") := by decide +kernel
theorem bt_bool : bootBuiltins "bool" = some (.type "bool") := by decide +kernel
theorem bt_str : bootBuiltins "str" = some (.type "str") := by decide +kernel
theorem bt_tuple : bootBuiltins "tuple" = some (.type "tuple") := by decide +kernel
def Ext (t : Addr) (H H' : Hp) : Prop := ∀ b o, (b = t → ∀ xs, o ≠ .lst xs) → H b = some o → H' b = some o
theorem Ext.refl {t : Addr} (H : Hp) : Ext t H H := fun _ _ _ h => h
theorem Ext.trans {t : Addr} {H H1 H2 : Hp} (a : Ext t H H1) (b : Ext t H1 H2) : Ext t H H2 := fun c o n h => b c o n (a c o n h)
theorem Ext.new {t p : Addr} {H : Hp} (h : H p = none) (o : HO) : Ext t H (upd H p o) := fun b u _ q => by rw [upd_ne (ne_of_none q h)]; exact q
theorem Ext.at {t : Addr} {H : Hp} {xs : List V} (h : H t = some (.lst xs)) (o : HO) : Ext t H (upd H t o) := fun b u n q => by
  by_cases e : b = t
  · subst e; rw [h] at q; cases q; exact absurd rfl (n rfl xs)
  · rw [upd_ne e]; exact q
theorem Same.ext {t : Addr} {H H' : Hp} (h : Same H H') : Ext t H H' := fun b o _ q => h b o q
theorem Ext.sqT {K : PySem.W.Frag} {t a : Addr} {H H' : Hp} {xs : List V} (e : Ext t H H') (h : SqT K H a xs) : SqT K H' a xs := by
  rcases h with (h | ⟨o, h⟩) | h
  · exact .inl (.inl (e _ _ (fun _ _ z => nomatch z) h))
  · exact .inl (.inr ⟨o, e _ _ (fun _ _ z => nomatch z) h⟩)
  · exact .inr h
theorem Ext.sqL {K : PySem.W.Frag} {t a : Addr} {H H' : Hp} {xs : List V} (e : Ext t H H') (hn : a ≠ t) (h : SqL K H a xs) : SqL K H' a xs := by
  rcases h with (h | ⟨o, h⟩) | h
  · exact .inl (.inl (e _ _ (fun z => absurd z hn) h))
  · exact .inl (.inr ⟨o, e _ _ (fun z => absurd z hn) h⟩)
  · exact .inr h
mutual
theorem Dt.ext {K : PySem.W.Frag} {t : Addr} {H H' : Hp} (e : Ext t H H') : ∀ (d : PyData) (v : V), Dt K t H d v → Dt K t H' d v
  | .none, _, h => by simp only [Dt] at h ⊢; exact h
  | .bool _, _, h => by simp only [Dt] at h ⊢; exact h
  | .int _, _, h => by simp only [Dt] at h ⊢; exact h
  | .str _, _, h => by simp only [Dt] at h ⊢; exact h
  | .tuple ds, v, h => by
    simp only [Dt] at h ⊢
    obtain ⟨a, xs, h1, h2, h3⟩ := h
    exact ⟨a, xs, h1, e.sqT h2, DtL.ext e ds xs h3⟩
  | .list ds, v, h => by
    simp only [Dt] at h ⊢
    obtain ⟨a, xs, h1, h2, h3, h4⟩ := h
    exact ⟨a, xs, h1, h2, e.sqL h2 h3, DtL.ext e ds xs h4⟩
  | .dict _, _, h => by simp [Dt] at h
theorem DtL.ext {K : PySem.W.Frag} {t : Addr} {H H' : Hp} (e : Ext t H H') : ∀ (ds : List PyData) (vs : List V), DtL K t H ds vs → DtL K t H' ds vs
  | [], _, h => by simp only [DtL] at h ⊢; exact h
  | d :: ds, vs, h => by
    simp only [DtL] at h ⊢
    obtain ⟨v, r, h1, h2, h3⟩ := h
    exact ⟨v, r, h1, Dt.ext e d v h2, DtL.ext e ds r h3⟩
end
theorem Dt.on {K : PySem.W.Frag} {t : Addr} {H H' : Hp} {d : PyData} {v : V} (h : Dt K t H d v) (e : Ext t H H') : Dt K t H' d v := Dt.ext e d v h
theorem DtL.on {K : PySem.W.Frag} {t : Addr} {H H' : Hp} {d : List PyData} {v : List V} (h : DtL K t H d v) (e : Ext t H H') : DtL K t H' d v := DtL.ext e d v h
section
variable {K : PySem.W.Frag} {t p : Addr} {H : Hp}
theorem Dt.non : Dt K t H .none .non := by simp [Dt]
theorem Dt.bl (b : Bool) : Dt K t H (.bool b) (.bl b) := by simp [Dt]
theorem Dt.int (i : Int) : Dt K t H (.int i) (.int i) := by simp [Dt]
theorem Dt.str {x : Str} (h : PyData.strOk x = true) : Dt K t H (.str x) (.str x) := by simp [Dt, h]
theorem DtL.nil : DtL K t H [] [] := by simp [DtL]
theorem DtL.cons {d : PyData} {v : V} {ds : List PyData} {vs : List V} (h : Dt K t H d v) (q : DtL K t H ds vs) : DtL K t H (d :: ds) (v :: vs) := by
  simp only [DtL]
  exact ⟨v, vs, rfl, h, q⟩
theorem Dt.tup {a : Addr} {xs : List V} {ds : List PyData} (h : SqT K H a xs) (q : DtL K t H ds xs) : Dt K t H (.tuple ds) (.ref a) := by
  simp only [Dt]
  exact ⟨a, xs, rfl, h, q⟩
theorem Dt.lst {a : Addr} {xs : List V} {ds : List PyData} (hn : a ≠ t) (h : SqL K H a xs) (q : DtL K t H ds xs) : Dt K t H (.list ds) (.ref a) := by
  simp only [Dt]
  exact ⟨a, xs, rfl, hn, h, q⟩
theorem Dt.newT {xs : List V} {ds : List PyData} (hp : H p = none) (q : DtL K t H ds xs) : Dt K t (upd H p (.tup xs)) (.tuple ds) (.ref p) :=
  .tup (.of upd_same) (q.on (.new hp _))
theorem Dt.newL {xs : List V} {ds : List PyData} (hp : H p = none) (hn : p ≠ t) (q : DtL K t H ds xs) : Dt K t (upd H p (.lst xs)) (.list ds) (.ref p) :=
  .lst hn (.of upd_same) (q.on (.new hp _))
theorem Dt.tup_inv {ds : List PyData} {v : V} (h : Dt K t H (.tuple ds) v) : ∃ a xs, v = .ref a ∧ SqT K H a xs ∧ DtL K t H ds xs := by simpa only [Dt] using h
end
def ScL (K : PySem.W.Frag) (t : Addr) (H : Hp) (a : Addr) (xs : List V) : Prop := (a ≠ t ∧ SqL K H a xs) ∨ ∀ H', SqL K H' a xs
theorem ScL.sq {K : PySem.W.Frag} {t : Addr} {H : Hp} {a : Addr} {xs : List V} (h : ScL K t H a xs) : SqL K H a xs := h.elim (fun z => z.2) fun z => z H
theorem ScL.on {K : PySem.W.Frag} {t : Addr} {H H' : Hp} {a : Addr} {xs : List V} (h : ScL K t H a xs) (e : Ext t H H') : ScL K t H' a xs := h.elim (fun z => .inl ⟨z.1, e.sqL z.1 z.2⟩) .inr
theorem ScL.of {K : PySem.W.Frag} {t : Addr} {H : Hp} {a : Addr} {xs : List V} (h : SqL K H a xs) (hp : H t = none) (o : HO) : ScL K t (upd H t o) a xs := by
  rcases h with (h | ⟨u, h⟩) | h
  · exact .inl ⟨ne_of_none h hp, .inl (.inl (by rw [upd_ne (ne_of_none h hp)]; exact h))⟩
  · exact .inl ⟨ne_of_none h hp, .inl (.inr ⟨u, by rw [upd_ne (ne_of_none h hp)]; exact h⟩)⟩
  · exact .inr fun _ => .inr h
def Tape (K : PySem.W.Frag) (ns : List Int) (t : Addr) (H : Hp) : Prop :=
  ∃ (sc : Addr) (sp cr wy : Int), H t = some (.lst [.ref sc, .int sp, .int cr, .int wy]) ∧ ScL K t H sc (ns.map V.int)
structure Cur (K : PySem.W.Frag) (ns : List Int) (t : Addr) (H₀ H : Hp) : Prop where
  tape : Tape K ns t H
  ext : Ext t H₀ H
section
variable {K : PySem.W.Frag} {ns : List Int} {t p : Addr} {H₀ H H' : Hp}
theorem Tape.ne (h : Tape K ns t H) (hp : H p = none) : p ≠ t := by
  obtain ⟨_, _, _, _, e, _⟩ := h
  exact (ne_of_none e hp).symm
theorem Tape.new (h : Tape K ns t H) (hp : H p = none) (o : HO) : Tape K ns t (upd H p o) := by
  have n := h.ne hp
  obtain ⟨sc, sp, cr, wy, e, l⟩ := h
  exact ⟨sc, sp, cr, wy, by rw [upd_ne n.symm]; exact e, l.on (.new hp o)⟩
theorem Tape.same (h : Tape K ns t H) (e : Same H H') : Tape K ns t H' := by
  obtain ⟨sc, sp, cr, wy, e1, l⟩ := h
  exact ⟨sc, sp, cr, wy, e _ _ e1, l.on e.ext⟩
theorem Cur.same (c : Cur K ns t H₀ H) (e : Same H H') : Cur K ns t H₀ H' := ⟨c.tape.same e, c.ext.trans e.ext⟩
theorem Cur.new (c : Cur K ns t H₀ H) (hp : H p = none) (o : HO) : Cur K ns t H₀ (upd H p o) := ⟨c.tape.new hp o, c.ext.trans (.new hp o)⟩
theorem Cur.then (c : Cur K ns t H₀ H) (d : Cur K ns t H H') : Cur K ns t H₀ H' := ⟨d.tape, c.ext.trans d.ext⟩
theorem Cur.ne (c : Cur K ns t H₀ H) (hp : H p = none) : p ≠ t := c.tape.ne hp
end
end L2
namespace L2
open PySem PySem.Spec PyProof.Rows
theorem Df.void {P : Program} {w : World} {K : PySem.W.Frag} {mg : Str → Option Value} {base : Heap} {x : Str} {st : Stmt} {ps : List Str} {k : Nat} {sp : Sp} (F : Df K mg x st ps) (no : ∀ vs H Q E, ¬ sp vs H Q E) : Dn P w K mg base k x ps sp := by
  obtain ⟨f, fd, F1, b, m⟩ := F.ex
  exact ⟨f, fd, ⟨fun vs H Q E h => absurd h (no vs H Q E), fun A outer s H args us vs Q E _ _ _ _ h => absurd h (no vs H Q E)⟩, b, F1.kp, m⟩
end L2
namespace L2
open PySem PySem.Spec PyProof.Rows
theorem r_K {CX : CXT} {P : Program} {w : World} {K : PySem.W.Frag} {mg : Str → Option Value} {base : Heap} {N : List Str} {qual : Str} {scope : Scope} {f : Addr} {cd : Value} {A : Around} {outer : List Env} {s : Shared} {H : Hp} {E : XK} :
    (cxOf CX P w K mg base N qual scope f cd A outer s H E).K = K := rfl
def rLenS (K : PySem.W.Frag) : List V → Hp → VK → Prop := fun xs H Q => ∃ p ys, xs = [.ref p] ∧ (SqL K H p ys ∨ SqT K H p ys) ∧ Q (.int ys.length) H
theorem call_lenS {X : Cx} : CallR X (.builtin "len") (rLenS X.K) := call_len_seq
def rMin2 : List V → Hp → VK → Prop := fun xs H Q => ∃ i j, xs = [.int i, .int j] ∧ Q (.int (if j < i then j else i)) H
def rMax2 : List V → Hp → VK → Prop := fun xs H Q => ∃ i j, xs = [.int i, .int j] ∧ Q (.int (if j > i then j else i)) H
theorem call_maxS {X : Cx} (hc : X.calm = true) : CallR X (.builtin "max") rMax2 := call_max2 hc
def rIsNn (n : Bool) : R2 := fun x y H Q => y = .non ∧ Q (.bl (if n then !decide (x = .non) else decide (x = .non))) H
theorem op_isNS {X : Cx} : OpR X (compareOp .Is) (rIsNn false) := op_isN
def rListOf (K : PySem.W.Frag) : List V → Hp → VK → Prop := fun xs H Q => ∃ p ys, xs = [.ref p] ∧ (SqL K H p ys ∨ SqT K H p ys) ∧ ∀ l, H l = none → Q (.ref l) (upd H l (.lst ys))
end L2
namespace L2
open PySem PySem.Spec PyProof.Rows
def tCut (t u : TS) : TS := fun D σ H => ∃ M : St → Hp → Prop, t { D with nx := M } σ H ∧ ∀ σ' H', M σ' H' → u D σ' H'
theorem pss_cut {X : Cx} {st : Stmt} {rest : List Stmt} {t u : TS} (h1 : PS X st t) (h2 : PSs X rest u) : PSs X (st :: rest) (tCut t u) := by
  intro pins s σ H D I h
  obtain ⟨M, a, b⟩ := h
  refine wpAny_execs_cons (thn (h1 pins s σ H _ I a) fun f s1 q => ?_)
  cases f with
  | next => obtain ⟨σ1, H1, I1, q1⟩ := q; exact h2 pins s1 σ1 H1 D I1 (b _ _ q1)
  | brk => exact q
  | cont => exact q
  | ret v => exact q
theorem r_cut {D : Ends} {σ : St} {H : Hp} {t u : TS} (M : St → Hp → Prop) (a : ∀ M' : St → Hp → Prop, (∀ σ H, M σ H → M' σ H) → t { D with nx := M' } σ H) (b : ∀ σ' H', M σ' H' → u D σ' H') : tCut t u D σ H := ⟨M, a M fun _ _ h => h, b⟩
end L2
namespace L2
open PySem PySem.Spec PyProof.Rows
theorem Fun.okS {P : Program} {w : World} {K : PySem.W.Frag} {mg : Str → Option Value} {base : Heap} {x qual : Str} {st : Stmt} {f : Addr} {fd : FuncData} {N ps : List Str} {k : Nat} {sp : Sp} (F : Fun K x qual st f fd) (S : FnScope N ps (defScope st)) (len : ∀ vs H Q E, sp vs H Q E → vs.length = ps.length)
    (hbody : ∀ (cdv : Value) (A : Around) (outer : List Env) (s : Shared) (H : Hp) (vs : List V) (Q : VK) (E : XK), Room k (A.deeper (envOfC qual (defScope st) s.heap.objs.size f cdv)) → sp vs H Q E →
      ∃ (t : TS) (σ : St), PSs (cxOf CX0 P w K mg base N qual (defScope st) f cdv A outer s H E).nox (defBody st) t ∧ start N vs = σ ∧ t { nx := fun _ H' => Q .non H', rt := Q } σ H) : FnOk P w K mg base CX0 (k + 1) f fd ps sp :=
  F.ok S len fun cdv A outer s H vs Q E hr h => by
    obtain ⟨t, σ, h1, rfl, h2⟩ := hbody cdv A outer s H vs Q E hr h
    exact ⟨t, h1, h2⟩
end L2
namespace L2
open PySem PySem.Spec PyProof.Rows
section
variable {D : Ends} {σ : St} {H : Hp} {K : PySem.W.Frag} {ta tb tc te : TE} {t u : TS} {tt uu : TT} {tr : TA} {g : TG} {Q : VK} {B : Bool → Hp → Prop} {L : List V → Hp → Prop} {x y v : V} {r r' : R2} {G : St → Hp → Prop} {S : Hp → Prop}
theorem r_seq : tSeq t u D σ H = t { D with nx := u D } σ H := rfl
theorem r_next : tNext D σ H = D.nx σ H := rfl
theorem r_asg : tAsg te g D σ H = te σ H fun x H1 => g x σ H1 D.nx := rfl
theorem r_ret : tRet te D σ H = te σ H D.rt := rfl
theorem r_retN : tRetN D σ H = D.rt .non H := rfl
theorem r_drop : tDrop te D σ H = te σ H fun _ H1 => D.nx σ H1 := rfl
theorem r_ifS : tIfS tt t u D σ H = tt σ H fun b H1 => if b = true then t D σ H1 else u D σ H1 := rfl
theorem r_name {i : Nat} : gName i v σ H G = G (σ.set i (some v)) H := rfl
theorem r_sub {ts : TSet} : gSub ta tb ts v σ H G = ta σ H fun o H1 => tb σ H1 fun i H2 => ts o i v H2 fun H3 => G σ H3 := rfl
theorem r_var {i : Nat} : tVar i σ H Q = ∃ v, σ[i]? = some (some v) ∧ Q v H := rfl
theorem r_c : tC v σ H Q = Q v H := rfl
theorem r_op : tOp r ta tb σ H Q = ta σ H fun x H1 => tb σ H1 fun y H2 => r x y H2 Q := rfl
theorem r_un {p : V → Hp → VK → Prop} : tUn p ta σ H Q = ta σ H fun x H1 => p x H1 Q := rfl
theorem r_test : tTest te σ H B = te σ H fun x H' => ∃ k, x = .bl k ∧ B k H' := rfl
theorem r_tB : tB te σ H B = te σ H fun x H' => ∃ k, x = .bl k ∧ B k H' := rfl
theorem r_and : tAnd tt uu σ H B = tt σ H fun c H1 => if c = true then uu σ H1 B else B false H1 := rfl
theorem r_or : tOr tt uu σ H B = tt σ H fun c H1 => if c = true then B true H1 else uu σ H1 B := rfl
theorem r_not : tNot tt σ H B = tt σ H fun c H1 => B (!c) H1 := rfl
theorem r_andV : tAndV ta tb σ H Q = ta σ H fun x H1 => ∃ c, x = .bl c ∧ if c = true then tb σ H1 Q else Q (.bl false) H1 := rfl
theorem r_orV : tOrV ta tb σ H Q = ta σ H fun x H1 => ∃ c, x = .bl c ∧ if c = true then Q (.bl true) H1 else tb σ H1 Q := rfl
theorem r_notV : tNotV ta σ H Q = ta σ H fun x H1 => ∃ c, x = .bl c ∧ Q (.bl (!c)) H1 := rfl
theorem r_ifE : tIf tt ta tb σ H Q = tt σ H fun c H1 => if c = true then ta σ H1 Q else tb σ H1 Q := rfl
theorem r_chain : tChain r r' ta tb tc σ H Q = ta σ H fun x H1 => tb σ H1 fun y H2 => r x y H2 fun z H3 => ∃ k, z = .bl k ∧ (if k = true then tc σ H3 fun w' H4 => r' y w' H4 Q else Q (.bl false) H3) := rfl
theorem r_nil : tNil σ H L = L [] H := rfl
theorem r_cons : tCons ta tr σ H L = ta σ H fun x H1 => tr σ H1 fun xs H2 => L (x :: xs) H2 := rfl
theorem r_tup : tTup tr σ H Q = tr σ H fun xs H1 => xs.length ≤ sizeLine ∧ ∀ p, H1 p = none → Q (.ref p) (upd H1 p (.tup xs)) := rfl
theorem r_lst : tLst tr σ H Q = tr σ H fun xs H1 => xs.length ≤ sizeLine ∧ ∀ p, H1 p = none → Q (.ref p) (upd H1 p (.lst xs)) := rfl
theorem r_call {sp : Sp} {dvs : List V} {E : XK} : tCall sp dvs E tr σ H Q = tr σ H fun vs H1 => sp (vs ++ dvs) H1 Q E := rfl
theorem r_cb {p : List V → Hp → VK → Prop} : tCB p tr σ H Q = tr σ H fun vs H1 => p vs H1 Q := rfl
theorem r_I {C : Int → Int → Prop} {f : Int → Int → V} {i j : Int} : rI C f (.int i) (.int j) H Q = (C i j ∧ Q (f i j) H) := by
  unfold rI
  exact propext ⟨fun ⟨a, b, h1, h2, h⟩ => by cases h1; cases h2; exact h, fun h => ⟨i, j, rfl, rfl, h⟩⟩
theorem r_I0 {f : Int → Int → V} {i j : Int} : rI0 f (.int i) (.int j) H Q = Q (f i j) H := by
  unfold rI0
  exact propext ⟨fun ⟨a, b, h1, h2, h⟩ => by cases h1; cases h2; exact h, fun h => ⟨i, j, rfl, rfl, h⟩⟩
theorem r_eqI {i j : Int} : rEq (.int i) (.int j) H Q = Q (.bl (decide (i = j))) H := by
  unfold rEq
  rw [show decide (V.int i = V.int j) = decide (i = j) from by simp]
  exact propext ⟨fun h => h.2, fun h => ⟨rfl, h⟩⟩
theorem r_neI {i j : Int} : rNe (.int i) (.int j) H Q = Q (.bl (!decide (i = j))) H := by
  unfold rNe
  rw [show decide (V.int i = V.int j) = decide (i = j) from by simp]
  exact propext ⟨fun h => h.2, fun h => ⟨rfl, h⟩⟩
theorem r_eqB {i j : Bool} : rEq (.bl i) (.bl j) H Q = Q (.bl (i == j)) H := by
  unfold rEq
  rw [dec_bl]
  exact propext ⟨fun h => h.2, fun h => ⟨rfl, h⟩⟩
theorem r_eqS {i j : Str} : rEq (.str i) (.str j) H Q = Q (.bl (decide (i = j))) H := by
  unfold rEq
  rw [show decide (V.str i = V.str j) = decide (i = j) from by simp]
  exact propext ⟨fun h => h.2, fun h => ⟨rfl, h⟩⟩
theorem r_neS {i j : Str} : rNe (.str i) (.str j) H Q = Q (.bl (!decide (i = j))) H := by
  unfold rNe
  rw [show decide (V.str i = V.str j) = decide (i = j) from by simp]
  exact propext ⟨fun h => h.2, fun h => ⟨rfl, h⟩⟩
theorem r_ixL {p : Addr} {i : Int} : rIxL K (.ref p) (.int i) H Q = ∃ xs, SqL K H p xs ∧ ∃ v, atI xs i = some v ∧ Q v H := by
  unfold rIxL
  exact propext ⟨fun ⟨a, xs, b, v, h1, h2, h3, h4, h⟩ => by cases h1; cases h2; exact ⟨xs, h3, v, h4, h⟩, fun ⟨xs, h3, v, h4, h⟩ => ⟨p, xs, i, v, rfl, rfl, h3, h4, h⟩⟩
theorem r_ixT {p : Addr} {i : Int} : rIxT K (.ref p) (.int i) H Q = ∃ xs, SqT K H p xs ∧ ∃ v, atI xs i = some v ∧ Q v H := by
  unfold rIxT
  exact propext ⟨fun ⟨a, xs, b, v, h1, h2, h3, h4, h⟩ => by cases h1; cases h2; exact ⟨xs, h3, v, h4, h⟩, fun ⟨xs, h3, v, h4, h⟩ => ⟨p, xs, i, v, rfl, rfl, h3, h4, h⟩⟩
theorem r_setL {p : Addr} {i : Int} : rSetL (.ref p) (.int i) v H S = ∃ xs, H p = some (.lst xs) ∧ ∃ j, ixN xs.length i = some j ∧ S (upd H p (.lst (xs.set j v))) := by
  unfold rSetL
  exact propext ⟨fun ⟨a, xs, b, j, h1, h2, h3, h4, h⟩ => by cases h1; cases h2; exact ⟨xs, h3, j, h4, h⟩, fun ⟨xs, h3, j, h4, h⟩ => ⟨p, xs, i, j, rfl, rfl, h3, h4, h⟩⟩
theorem r_sl {rs : V → Option Int → Option Int → Hp → VK → Prop} {tl th : TO} : tSl rs te tl th σ H Q = te σ H fun x H1 => tl σ H1 fun l H2 => th σ H2 fun u H3 => rs x l u H3 Q := rfl
theorem r_noP {O : Option Int → Hp → Prop} : tNoPart σ H O = O none H := rfl
theorem r_part {O : Option Int → Hp → Prop} : tPart te σ H O = te σ H fun x H1 => ∃ i, x = .int i ∧ O (some i) H1 := rfl
theorem r_bm {T : String} {rr : V → List V → Hp → VK → Prop} : tBM K T rr te tr σ H Q = te σ H fun x H1 => tyV K T x H1 ∧ tr σ H1 fun xs H2 => rr x xs H2 Q := rfl
def ForR (g : TG) (t : TS) (D : Ends) (σ : St) (J : It) (H1 : Hp) : Prop := ∃ W : Nat → Nat → St → Hp → Prop, (∃ m, W 0 m σ H1) ∧ ∀ i m σ H, W i m σ H →
  (J.stop i H ∧ D.nx σ H) ∨ (J.go i H ∧ ∃ N : St → Hp → Prop, (∀ σ' H', N σ' H' → ∃ m', m' < m ∧ W (i + 1) m' σ' H') ∧ ∀ x H', J.yld i H x H' → g x σ H' fun σ2 H2 => t { D with nx := N, ct := N, bk := D.nx } σ2 H2)
theorem r_for {wi : TI} : tFor wi g t D σ H = wi σ H fun J H1 => ForR g t D σ J H1 := rfl
theorem r_rng1 {R : It → Hp → Prop} : iRng1 tr σ H R = tr σ H fun vs H1 => ∃ j : Int, vs = [.int j] ∧ -(2 ^ 62) ≤ j ∧ j < 2 ^ 62 ∧ R (Itr 0 j.toNat) H1 := rfl
theorem r_iL {R : It → Hp → Prop} : iList K te σ H R = te σ H fun x H1 => ∃ a, x = .ref a ∧ (∃ xs, SqL K H1 a xs) ∧ R (Itl K a) H1 := rfl
theorem r_iT {R : It → Hp → Prop} : iTup K te σ H R = te σ H fun x H1 => ∃ a, x = .ref a ∧ (∃ xs, SqT K H1 a xs) ∧ R (Itt K a) H1 := rfl
theorem rng_of {j : Int} (Pv : Nat → St → Hp → Prop) (h0 : Pv 0 σ H)
    (hs : ∀ (Pv' : Nat → St → Hp → Prop), (∀ i σ H, Pv i σ H → Pv' i σ H) → ∀ i σ H, i < j.toNat → Pv i σ H → g (.int (0 + i)) σ H fun σ2 H2 => t { D with nx := Pv' (i + 1), ct := Pv' (i + 1), bk := D.nx } σ2 H2) (hd : ∀ σ H, Pv j.toNat σ H → D.nx σ H) :
    ForR g t D σ (Itr 0 j.toNat) H := for_range Pv h0 (fun i σ H a b => hs Pv (fun _ _ _ z => z) i σ H a b) hd
end
end L2
namespace L2
open PySem PySem.Spec PyProof.Rows
section
variable {K : PySem.W.Frag} {H : Hp} {t : Addr} {Q : VK} {E : XK} {x y : V} {d e : PyData}
theorem isi_of {T : String} (hd : Dt K t H d x) (h : Q (.bl (isiD d T)) H) (hT : T ∈ isiTs := by decide) : rIsi K [x, .ty T] H Q := ⟨x, T, t, d, rfl, hT, hd, h⟩
theorem eqF_of (h1 : Dt K t H d x) (h2 : Dt K t H e y) (hm : min d.depth e.depth ≤ 100) (h : Q (.bl (PyData.eqv d e)) H) : rEqD K false x y H Q := ⟨t, d, e, h1, h2, hm, h⟩
theorem depR {d e : PyData} {n : Nat} (h : e.depth = n) (hn : n ≤ 100 := by decide) : min d.depth e.depth ≤ 100 := Nat.le_trans (Nat.min_le_right _ _) (by rw [h]; exact hn)
theorem len_of {p : Addr} {ys : List V} (h : SqL K H p ys) (q : Q (.int ys.length) H) : rLenS K [.ref p] H Q := ⟨p, ys, rfl, .inl h, q⟩
theorem r_min2 {i j : Int} : rMin2 [.int i, .int j] H Q = Q (.int (if j < i then j else i)) H := by
  unfold rMin2
  exact propext ⟨fun ⟨a, b, h1, h⟩ => by cases h1; exact h, fun h => ⟨i, j, rfl, h⟩⟩
theorem r_max2 {i j : Int} : rMax2 [.int i, .int j] H Q = Q (.int (if j > i then j else i)) H := by
  unfold rMax2
  exact propext ⟨fun ⟨a, b, h1, h⟩ => by cases h1; exact h, fun h => ⟨i, j, rfl, h⟩⟩
theorem r_isNf : rIsNn false x .non H Q = Q (.bl (decide (x = .non))) H := propext ⟨fun h => h.2, fun h => ⟨rfl, h⟩⟩
theorem r_isNt : rIsNn true x .non H Q = Q (.bl (!decide (x = .non))) H := propext ⟨fun h => h.2, fun h => ⟨rfl, h⟩⟩
theorem DtL.get : ∀ {ds : List PyData} {xs : List V} {i : Nat} {d : PyData}, DtL K t H ds xs → ds[i]? = some d → ∃ v, xs[i]? = some v ∧ Dt K t H d v
  | [], _, _, _, _, h => by simp at h
  | a :: r, xs, 0, d, q, h => by
    simp only [DtL] at q
    obtain ⟨v, s, rfl, h1, h2⟩ := q
    simp at h
    subst h
    exact ⟨v, rfl, h1⟩
  | a :: r, xs, i + 1, d, q, h => by
    simp only [DtL] at q
    obtain ⟨v, s, rfl, h1, h2⟩ := q
    obtain ⟨u, e1, e2⟩ := DtL.get (i := i) h2 (by simpa using h)
    exact ⟨u, by simpa using e1, e2⟩
theorem DtL.len {ds : List PyData} {xs : List V} (q : DtL K t H ds xs) : ds.length = xs.length := by
  induction ds generalizing xs with
  | nil => simp only [DtL] at q; subst q; rfl
  | cons a r ih =>
    simp only [DtL] at q
    obtain ⟨v, s, rfl, h1, h2⟩ := q
    simp [ih h2]
end
end L2
namespace L2
open PySem PySem.Spec PyProof.Rows
@[irreducible] def QA (X : Cx) (es : List Expr) (t : TA) : Prop := PA X es t
@[irreducible] def QS (X : Cx) (ss : List Stmt) (t : TS) : Prop := PSs X ss t
theorem QA.pa {X : Cx} {es : List Expr} {t : TA} (h : QA X es t) : PA X es t := by unfold QA at h; exact h
end L2
namespace L2
open PySem PySem.Spec PyProof.Rows
theorem comp_loop {prog : Program} {w : World} {A : Around} {R : Result → Shared → Prop} {s : Shared} {elt target iter : Expr} {ifs : List Expr} {scope : Scope} {pos : Pos} {it acc : Value} {env : Env} (I : Nat → Shared → Prop)
    (turn : ∀ n s, I n s → wpAny (model prog w) A (pyNext it) (fun r s₁ => match r with
      | none => R (.ok .next) s₁
      | some v => wpAny (model prog w) A (letOwnedTupleGo target it v) (fun _ s₁' => wpAny (model prog w) A (assign target env v) (fun _ s₂ =>
          wpAny (model prog w) A (forIn ifs true fun c r => if r = true then do let ok ← isTrue c env (eval c env); pure (ForInStep.yield ok) else pure (ForInStep.yield r)) (fun ok s₃ =>
            if ok = true then wpAny (model prog w) A (eval elt env) (fun x s₄ =>
              wpAny (model prog w) A (call (.builtin "list.append") [acc, x]) (fun _ s₅ => ∃ m, m < n ∧ I m s₅) (fun _ _ => False) s₄) (fun _ _ => False) s₃
            else ∃ m, m < n ∧ I m s₃) (fun _ _ => False) s₂) (fun _ _ => False) s₁') (fun _ _ => False) s₁) (fun _ _ => False) s)
    (n : Nat) (h : I n s) :
    codeAny (model prog w) A (.compLoop (.ListComp elt [⟨target, iter, ifs, 0⟩] scope pos) 0 it acc env) R s := by
  refine codeAny_loop rfl I (fun n s hI => ?_) n h
  show wpAny _ A ((compTurn (.ListComp elt [⟨target, iter, ifs, 0⟩] scope pos) 0 it acc env).onRaise (fun x => do noteFrame x env; theTreesLotGoes x)) _ _ s
  refine wpAny_noted ?_
  rw [compTurn_list]
  have nf : ∀ {α : Type} {t : Sem α} {Q : α → Shared → Prop} {E : Value → Shared → Prop} {s : Shared}, wpAny (model prog w) A t Q (fun _ _ => False) s → wpAny (model prog w) A t Q E s := fun h => wpAny_mono h (fun _ _ q => q) fun _ _ f => f.elim
  refine wpAny_bind (wpAny_standAt (wpAny_bind (wpAny_mono (turn n s hI) (fun r s₁ h₁ => ?_) fun _ _ h' => h'.elim)))
  cases r with
  | none => exact wpAny_pure h₁
  | some v =>
    refine wpAny_bind (wpAny_mono h₁ (fun _ s₁' h₁' => ?_) fun _ _ h' => h'.elim)
    refine wpAny_bind (wpAny_mono h₁' (fun _ s₂ h₂ => wpAny_bind (wpAny_mono h₂ (fun ok s₃ h₃ => ?_) fun _ _ h' => h'.elim)) fun _ _ h' => h'.elim)
    cases ok with
    | false => exact wpAny_pure ⟨rfl, h₃⟩
    | true =>
      exact wpAny_bind (wpAny_bind (wpAny_mono h₃ (fun x s₄ h₄ => wpAny_bind (wpAny_mono h₄ (fun _ s₅ h₅ => wpAny_pure (wpAny_pure ⟨rfl, h₅⟩)) fun _ _ h' => h'.elim)) fun _ _ h' => h'.elim))
def compCx (X : Cx) (N : List Str) (x : Str) (scope : Scope) (cl : List (Str × Addr)) (C : Addr) (s : Shared) (H : Hp) (fp : List Addr) : Cx :=
  { X with N := N, s₀ := s, H₀ := H, env := compEnvC scope cl C X.env, outer := X.stack, ex := fp, fn := fun y => decide (y = x), pn := [], xe := fun _ _ => False }
structure CompScope (X : Cx) (N : List Str) (x : Str) (scope : Scope) (cl : List (Str × Addr)) : Prop where
  clos : closureFor scope X.env = pure cl
  nocell : ∀ y ∈ scope.names, y.2 ≠ .cell
  kind : scope.kind = .function
  names : ∀ y ∈ scope.names, y.2 = .local → scope.names.lookup y.1 = some .local
  loc : scope.names.lookup x = some .local
  nd : N.Nodup
  hd : N[0]? = some x
  len : N.length = X.N.length + 1
  tl : ∀ j y, N[j + 1]? = some y → Vis (relabel scope X.env) y → X.N[j]? = some y ∧ X.env.kindOf y = some .cell ∧ Vis X.env.scope y ∧ ((relabel scope X.env).names.lookup y = some .cell ∨ (relabel scope X.env).names.lookup y = some .free) ∧ cl.lookup y = X.env.cells.lookup y
  sub : ∀ y c, cl.lookup y = some c → X.env.cells.lookup y = some c
  has : ∀ y, ((relabel scope X.env).names.lookup y = some .cell ∨ (relabel scope X.env).names.lookup y = some .free) → ∃ c, cl.lookup y = some c
  nox : cl.lookup x = none
def PTs (X : Cx) (ifs : List Expr) (t : TT) : Prop :=
  ∀ (pins : List (Addr × Obj)) (s : Shared) (σ : St) (H : Hp) (Q : Bool → Hp → Prop), Inv X pins σ H s → t σ H Q →
    wpAny (model X.prog X.w) X.A (forIn ifs true fun c r => if r = true then do let ok ← isTrue c X.env (eval c X.env); pure (ForInStep.yield ok) else pure (ForInStep.yield r)) (TP X pins σ Q) X.xe s
def tTrue : TT := fun _ H Q => Q true H
theorem pts_nil {X : Cx} : PTs X [] tTrue := fun _ _ _ H _ I h => wpAny_tests_nil ⟨H, I, h⟩
theorem pts_one {X : Cx} {c : Expr} {t : TT} (h : PT X c t) : PTs X [c] t := fun pins s σ H Q I q => wpAny_tests_one (h pins s σ H Q I q)
def tComp (wi : TI) (tt : TT) (te : TE) : TE := fun σ H Q => wi σ H fun J H1 => ∀ D, H1 D = none → ∃ W : Nat → Nat → Hp → Prop, (∃ m, W 0 m (upd H1 D (.lst []))) ∧ ∀ i m H, W i m H →
  (J.stop i H ∧ Q (.ref D) H) ∨ (J.go i H ∧ ∀ x H', J.yld i H x H' → tt (some x :: σ) H' fun b H2 =>
    if b = true then te (some x :: σ) H2 fun y H3 => ∃ ys, H3 D = some (.lst ys) ∧ ys.length < sizeLine ∧ ∃ m', m' < m ∧ W (i + 1) m' (upd H3 D (.lst (ys ++ [y])))
    else ∃ m', m' < m ∧ W (i + 1) m' H2)
section
variable {X : Cx} {pins : List (Addr × Obj)} {σ : St} {H : Hp} {s : Shared} {N : List Str} {x : Str} {scope : Scope} {cl : List (Str × Addr)} {fp : List Addr} {it : Addr} {tn : Nat → Heap → Prop} {J : It} {px : Pos}
theorem compOk (S : CompScope X N x scope cl) (I : Inv X pins σ H s) (hf : ∀ b ∈ fp, FpOk X pins H b) (hb : ∀ b ∈ fp, b < s.heap.objs.size) : (compCx X N x scope cl s.heap.objs.size s H fp).Ok where
  mod := I.ok.mod
  kind := S.kind
  glob := I.ok.glob
  blt := I.ok.blt
  above := Nat.le_refl _
  inj := fun y z c h1 h2 => I.ok.inj y z c (S.sub y c h1) (S.sub z c h2)
  has := fun y hy => S.has y hy
  cab := fun y c h1 h2 => by
    have e : y = x := of_decide_eq_true h1
    subst e
    have q : cl.lookup y = some c := h2
    rw [S.nox] at q; cases q
  hd := I.ok.hd
  frames := I.ok.frames
  stk := .inl rfl
  exf := fun b hb' => ⟨Nat.ne_of_lt (hb b hb'), fun y c h => (hf b hb').2.2.2.2.1 y c (S.sub y c h)⟩
  bs := I.bs
  bsz := Nat.le_trans I.ok.bsz I.sz
  noex := fun b o e hb' => by
    rcases (hf b hb').2.2.2.1 with z | z
    · exact I.ok.noex b o e z
    · exact absurd (Nat.lt_of_lt_of_le (Heap.lt_size e) (Nat.le_trans I.ok.bsz z)) (Nat.lt_irrefl _)
  exfs := fun b hb' hs => by
    rcases List.mem_cons.mp (I.stkSub b hs) with z | z
    · exact (hf b hb').2.1 z
    · exact (hf b hb').2.2.1 z
  funs := I.stack
  frf := I.stkFree
theorem compInv (S : CompScope X N x scope cl) (I : Inv X pins σ H s) (hf : ∀ b ∈ fp, FpOk X pins H b) (hb : ∀ b ∈ fp, b < s.heap.objs.size) {h' : Heap} {m : Str → Option Value} {tk : Nat} (hn : h'.Ns s.heap.objs.size m)
    (k : ∀ b u, s.heap.get? b = some u → h'.get? b = some u) : Inv (compCx X N x scope cl s.heap.objs.size s H fp) [] (none :: σ) H { s with heap := h', toks := tk } where
  ok := compOk S I hf hb
  os := rfl
  bare := I.bare
  base := Un.kept k
  loc := ⟨m, hn, fun i y v e1 e2 e3 => by
    cases i with
    | zero => simp at e2
    | succ j =>
      obtain ⟨a1, a2, a3, a4, a5⟩ := S.tl j y e1 e3
      obtain ⟨m0, hn0, hl0⟩ := I.loc
      obtain ⟨u, r, l⟩ := hl0 j y v a1 (by simpa using e2) a3
      rcases l with ⟨hk, _⟩ | ⟨_, c, hc, ⟨o, ho, hd⟩⟩
      · rw [a2] at hk; cases hk
      · exact ⟨u, r, .inr ⟨a4, c, a5.trans hc, o, k _ _ ho, hd⟩⟩⟩
  cell := fun y c e => by
    obtain ⟨v, o, ho, hd⟩ := I.cell y c (S.sub y c e)
    exact ⟨v, o, k _ _ ho, hd⟩
  free := I.hok.fresh (Nat.le_refl _)
  freeC := fun y c e => I.freeC y c (S.sub y c e)
  pin := fun p hp => absurd (show p ∈ ([] : List (Addr × Obj)) from hp) (by simp)
  hok := I.hok.kept k
  len := by
    show (none :: σ).length = N.length
    rw [S.len, ← I.len, List.length_cons]
theorem comp_block {elt iter : Expr} {ifs : List Expr} {pos : Pos} {te : TE} {tt : TT} {Q : V → Hp → Prop} {RR : Value → Addr → Result → Shared → Prop} {E : Value → Shared → Prop} (hc : X.calm = true) (S : CompScope X N x scope cl) (T : Turn X.prog X.w X.K (.Name x px) J fp it tn)
    (hts : ∀ C s H fp, PTs (compCx X N x scope cl C s H fp) ifs tt) (helt : ∀ C s H fp, PE (compCx X N x scope cl C s H fp) elt te)
    (I : Inv X pins σ H s) (t0 : tn 0 s.heap) (hf : ∀ b ∈ fp, FpOk X pins H b)
    (hq : ∀ D, H D = none → ∃ W : Nat → Nat → Hp → Prop, (∃ m, W 0 m (upd H D (.lst []))) ∧ ∀ i m H, W i m H →
      (J.stop i H ∧ Q (.ref D) H) ∨ (J.go i H ∧ ∀ x H', J.yld i H x H' → tt (some x :: σ) H' fun b H2 =>
        if b = true then te (some x :: σ) H2 fun y H3 => ∃ ys, H3 D = some (.lst ys) ∧ ys.length < sizeLine ∧ ∃ m', m' < m ∧ W (i + 1) m' (upd H3 D (.lst (ys ++ [y])))
        else ∃ m', m' < m ∧ W (i + 1) m' H2))
    (hRR : ∀ D C H' s', Inv X pins σ H' s' → Q (.ref D) H' → (∃ m, s'.heap.Ns C m) → H' C = none → C ≠ X.env.locals → X.s₀.heap.objs.size ≤ C → (∀ y c, X.env.cells.lookup y = some c → c ≠ C) → (∀ p ∈ X.pn ++ pins, p.1 ≠ C) → RR (.ref D) C (.ok .next) s') :
    wpAny (model X.prog X.w) X.A (newList []) (fun acc s₃ => wpAny (model X.prog X.w) X.A (newFunctionEnv scope X.env.globals cl [] X.env.qual none .none (some X.env)) (fun cenv s₄ =>
      codeAny (model X.prog X.w) X.A (.compStart (.ListComp elt [⟨.Name x px, iter, ifs, 0⟩] scope pos) 0 (.ref it) acc { cenv with scope := relabel scope X.env }) (RR acc cenv.locals) s₄) E s₃) E s := by
  have hD : H s.heap.objs.size = none := I.hok.fresh (Nat.le_refl _)
  obtain ⟨W, ⟨m0, w0⟩, turn⟩ := hq _ hD
  refine wpAny_newObj_type (wpAny_newFunctionEnv S.nocell (by intro y hy; simp at hy) (fun h₁ hns₁ hsb₁ => ?_) S.kind)
  dsimp only at hns₁ hsb₁ ⊢
  have I3 : Inv X pins σ (upd H s.heap.objs.size (.lst [])) { s with heap := s.heap.push { cls := .type "list", data := .seq ([] : List Value).toArray }, toks := s.toks } := I.lnew .nil (Nat.zero_le _)
  have fpLt : ∀ b ∈ fp, b < s.heap.objs.size := fun b hb => by
    obtain ⟨o, ho, _⟩ := T.obj _ _ t0 b hb
    exact Heap.lt_size ho
  have hf3 : ∀ b ∈ fp, FpOk X pins (upd H s.heap.objs.size (.lst [])) b := fun b hb => by
    refine ⟨?_, (hf b hb).2⟩
    rw [upd_ne (Nat.ne_of_lt (fpLt b hb))]
    exact (hf b hb).1
  generalize hH2 : s.heap.push { cls := .type "list", dict := none, data := .seq ([] : List Value).toArray } = G at hns₁ hsb₁ I3 ⊢
  have hG : G.objs.size = s.heap.objs.size + 1 := by rw [← hH2, Heap.size_push]
  have kG : ∀ b o, G.get? b = some o → h₁.get? b = some o := fun b o e => hsb₁.extBut b o (Nat.ne_of_lt (Heap.lt_size e)) (Heap.get?_push_of_some _ e)
  have ks : ∀ b o, s.heap.get? b = some o → h₁.get? b = some o := fun b o e => kG b o (hH2 ▸ Heap.get?_push_of_some _ e)
  have fpLt3 : ∀ b ∈ fp, b < G.objs.size := fun b hb => by rw [hG]; exact Nat.lt_succ_of_lt (fpLt b hb)
  have t1 : tn 0 h₁ := T.keep _ _ _ t0 fun b _ o e => ks b o e
  have I4 := compInv (tk := s.toks + ([] : List (Str × Value)).length) S I3 hf3 fpLt3 hns₁ kG
  generalize hX' : compCx X N x scope cl G.objs.size { s with heap := G, toks := s.toks } (upd H s.heap.objs.size (.lst [])) fp = X' at I4
  have e1 : X'.prog = X.prog := by rw [← hX']; rfl
  have e2 : X'.w = X.w := by rw [← hX']; rfl
  have e3 : X'.A = X.A := by rw [← hX']; rfl
  have e4 : X'.env = compEnvC scope cl G.objs.size X.env := by rw [← hX']; rfl
  have e5 : X'.calm = true := by rw [← hX']; exact hc
  have e6 : X'.xe = fun _ _ => False := by rw [← hX']; rfl
  have e7 : X'.K = X.K := by rw [← hX']; rfl
  have helt' : PE X' elt te := hX' ▸ helt _ _ _ _
  have hts' : PTs X' ifs tt := hX' ▸ hts _ _ _ _
  have hfp : ∀ {H' : Hp}, (∀ b ∈ fp, H' b = none) → ∀ b ∈ fp, FpOk X' [] H' b := fun {H'} hn b hb => by
    obtain ⟨f0, f1, f2, f3, f4, f5⟩ := hf3 b hb
    refine ⟨hn b hb, ?_, ?_, ?_, ?_, ?_⟩
    · rw [e4]; exact Nat.ne_of_lt (fpLt3 b hb)
    · subst hX'
      intro z
      rcases List.mem_cons.mp (I3.stkSub b z) with q | q
      · exact f1 q
      · exact f2 q
    · subst hX'; exact .inl hb
    · rw [e4]; exact fun y c q => f4 y c (S.sub y c q)
    · subst hX'
      intro p hp
      exact absurd (show p ∈ ([] : List (Addr × Obj)) from hp) (by simp)
  have nd' : X'.N.Nodup := by subst hX'; exact S.nd
  have hi' : X'.N[0]? = some x := by subst hX'; exact S.hd
  have hx' : X'.env.scope.names.lookup x = some .local := by rw [e4]; exact lookup_relabel_local S.loc
  have loop : ∀ s₅ : Shared, s₅ = { s with heap := h₁, toks := s.toks + ([] : List (Str × Value)).length } →
      codeAny (model X.prog X.w) X.A (.compLoop (.ListComp elt [⟨.Name x px, iter, ifs, 0⟩] scope pos) 0 (.ref it) (.ref s.heap.objs.size) (compEnvC scope cl G.objs.size X.env)) (RR (.ref s.heap.objs.size) G.objs.size) s₅ := by
    rintro s₅ rfl
    refine comp_loop (fun n s' => ∃ i v0 H', Inv X' [] (v0 :: σ) H' s' ∧ tn i s'.heap ∧ (∀ b ∈ fp, H' b = none) ∧ W i n H') ?_ m0 ⟨0, none, _, I4, t1, fun b hb => (hf3 b hb).1, w0⟩
    rintro n s6 ⟨i, v0, H6, I6, st6, fr6, w6⟩
    rcases turn i n H6 w6 with ⟨stop, qn⟩ | ⟨go, step⟩
    · have dn := T.done X' e1 e2 e7 e5 i [] s6 (v0 :: σ) H6 (fun _ _ => False) I6 (hfp fr6) st6 stop
      rw [e3] at dn
      refine thn dn fun r s7 ⟨hr, I7⟩ => ?_
      subst hr
      have u7 := I7.base
      have J7 : Inv X pins σ H6 s7 := by
        refine I3.call' (ch := fp) ?_ (by subst hX'; exact u7) (by subst hX'; exact I7.hok) I7.bare fun b hb => ?_
        · have := I7.os; subst hX'; exact this
        · obtain ⟨_, f1, _, f3, f4, f5⟩ := hf3 b hb
          exact ⟨f3, f1, f4, f5⟩
      refine hRR _ _ H6 s7 J7 qn ?_ ?_ ?_ ?_ ?_ ?_
      · obtain ⟨m, hm, _⟩ := I7.loc
        rw [e4] at hm
        exact ⟨m, hm⟩
      · have := I7.free
        rw [e4] at this
        exact this
      · exact Nat.ne_of_gt I3.lt
      · exact I3.sz
      · intro y c q
        obtain ⟨v, hv⟩ := I3.cell y c q
        exact Nat.ne_of_lt hv.lt
      · intro p hp
        exact Nat.ne_of_lt (Heap.lt_size (I3.pin p hp).1)
    · have itm := T.item X' e1 e2 e7 e5 i [] s6 (v0 :: σ) H6 (fun _ _ => False) I6 (hfp fr6) st6 go
      rw [e3] at itm
      refine thn itm fun r s7 ⟨u, hr, h7⟩ => ?_
      subst hr
      refine thn h7 fun _ s8 ⟨xv, H8, I8, r8, y8, st8, fr8⟩ => ?_
      have I8' := I8.pinned (hfp fr8) (T.obj _ _ st8)
      have sto : wpAny (model X.prog X.w) X.A (assign (.Name x px) X'.env u) (fun _ s9 => Inv X' ([] ++ pinsAt fp s8.heap) ((v0 :: σ).set 0 (some xv)) H8 s9) (fun _ _ => False) s8 :=
        wpAny_assign_Name (store_ok I8' nd' hi' (.inl hx') r8 (fun s9 I9 => I9) (.inr hx'))
      rw [e4] at sto
      refine thn sto fun _ s9 I9 => ?_
      have I9' : Inv X' ([] ++ pinsAt fp s8.heap) (some xv :: σ) H8 s9 := I9
      have tst := hts' _ s9 (some xv :: σ) H8 _ I9' (step xv H8 y8)
      rw [e1, e2, e3, e4, e6] at tst
      refine thn tst fun ok s10 ⟨H10, I10, q10⟩ => ?_
      have again : ∀ {s11 : Shared} {H11 : Hp}, Inv X' ([] ++ pinsAt fp s8.heap) (some xv :: σ) H11 s11 → (∃ m', m' < n ∧ W (i + 1) m' H11) → ∃ m, m < n ∧ ∃ i v0 H', Inv X' [] (v0 :: σ) H' s11 ∧ tn i s11.heap ∧ (∀ b ∈ fp, H' b = none) ∧ W i m H' := fun {s11 H11} J ⟨m', hm, w11⟩ => by
        have pp : ∀ b ∈ fp, ∀ o, s8.heap.get? b = some o → s11.heap.get? b = some o ∧ H11 b = none := fun b hb o e => by
          have := J.pin (b, o) (List.mem_append_right _ (List.mem_append_right _ (mem_pinsAt hb e)))
          exact ⟨this.1, this.2.1⟩
        refine ⟨m', hm, i + 1, some xv, H11, J.unpinned, T.keep _ _ _ st8 fun b hb o e => (pp b hb o e).1, fun b hb => ?_, w11⟩
        obtain ⟨o, e, d⟩ := T.obj _ _ st8 b hb
        exact (pp b hb o e).2
      cases ok with
      | false =>
        rw [if_neg Bool.false_ne_true] at q10 ⊢
        exact again I10 q10
      | true =>
        rw [if_pos rfl] at q10 ⊢
        have ev := helt' _ s10 (some xv :: σ) H10 _ I10 q10
        rw [e1, e2, e3, e4, e6] at ev
        refine thn ev fun y s11 ⟨yv, H11, I11, r11, ys, hys, hz, q11⟩ => ?_
        have ap := mt_append (X := X') _ s11 (some xv :: σ) H11 (.ref s.heap.objs.size) [yv] (.ref s.heap.objs.size) [y] (fun _ H' => ∃ m', m' < n ∧ W (i + 1) m' H') I11 rfl (.cons r11 .nil) ⟨_, ys, yv, rfl, rfl, hys, hz, q11⟩
        rw [e1, e2, e3, e6] at ap
        exact thn ap fun _ s12 ⟨_, H12, I12, _, q12⟩ => again I12 q12
  exact codeAny_compStart_list (loop _ rfl) (T.self _ 0 _ _ _ t1 (loop _ rfl))
theorem sameBut_keeps {C : Addr} {h h' : Heap} (hs : Heap.SameBut C h h') : ∀ b o, b ≠ C → h.get? b = some o → h'.get? b = some o := fun b o n e => hs.extBut b o n e
theorem pe_comp {elt iter : Expr} {ifs : List Expr} {pos : Pos} {wi : TI} {te : TE} {tt : TT} (hc : X.calm = true) (S : CompScope X N x scope cl) (hi : PI X (.Name x px) iter wi)
    (hts : ∀ C s H fp, PTs (compCx X N x scope cl C s H fp) ifs tt) (helt : ∀ C s H fp, PE (compCx X N x scope cl C s H fp) elt te) (hs : ∀ v, foldedSetIterable iter X.env v = pure v := by intro _; rfl) :
    PE X (.ListComp elt [⟨.Name x px, iter, ifs, 0⟩] scope pos) (tComp wi tt te) := by
  intro pins s σ H Q I h
  rw [eval_ListComp]
  refine wpAny_comprehension_free (use := none) rfl hs S.clos S.kind S.names (thn (hi pins s σ H _ I h) fun v s1 h1 => thn h1 fun itv s2 h2 => ?_)
  obtain ⟨it, fp, tn, J, H2, rfl, I2, T, st2, f2, hq⟩ := h2
  refine comp_block (RR := fun acc C => compPost (model X.prog X.w) X.A X.xe none (EP X pins σ Q) acc C) hc S T hts helt I2 st2 f2 hq fun D C H' s' I' q ⟨m, hm⟩ h1 h2 h3 h4 h5 => ?_
  exact ⟨m, hm, fun h' sb => ⟨.ref D, H', I'.turned (it := C) (t' := s'.toks) (sameBut_keeps sb) h1 h2.symm.symm (.inr h3) h4 h5, rfl, q⟩⟩
theorem ps_setComp {elt iter : Expr} {ifs : List Expr} {pos spos py : Pos} {wi : TI} {te : TE} {tt : TT} {i : Nat} {y : Str} (hc : X.calm = true) (hN : X.N.Nodup) (hi' : X.N[i]? = some y) (hy : Loc X.env.scope y) (S : CompScope X N x scope cl) (hi : PI X (.Name x px) iter wi)
    (hts : ∀ C s H fp, PTs (compCx X N x scope cl C s H fp) ifs tt) (helt : ∀ C s H fp, PE (compCx X N x scope cl C s H fp) elt te)
    (hsw : swapsWith (.ListComp elt [⟨.Name x px, iter, ifs, 0⟩] scope pos) (some (.Name y py)) spos.line X.env = pure true := by rfl) (hs : ∀ v, foldedSetIterable iter X.env v = pure v := by intro _; rfl)
    (hfn : X.fn y = true ∨ X.env.scope.names.lookup y = some .local := by first | exact .inl rfl | exact .inr rfl | assumption) :
    PS X (.Assign [.Name y py] (.ListComp elt [⟨.Name x px, iter, ifs, 0⟩] scope pos) spos) (tAsg (tComp wi tt te) (gName i)) := by
  intro pins s σ H D' I h
  rw [exec_Assign_Name_used _ _ _ _ hsw]
  refine wpAny_bind (wpAny_standAt (wpAny_bind ?_))
  show wpAny _ X.A (do let _ ← comprehension (.ListComp elt [⟨.Name x px, iter, ifs, 0⟩] scope pos) scope X.env _ (newList []) false (eval iter X.env) (some (assign (.Name y py) X.env))) _ _ s
  refine wpAny_bind (wpAny_mono (wpAny_comprehension_free (use := some (assign (.Name y py) X.env)) (Q := fun _ s' => SP X pins D' .next s') rfl hs S.clos S.kind S.names (thn (hi pins s σ H _ I h) fun v s1 h1 => thn h1 fun itv s2 h2 => ?_))
    (fun _ s' hq => wpAny_pure (wpAny_pure hq)) fun _ _ e => e)
  obtain ⟨it, fp, tn, J, H2, rfl, I2, T, st2, f2, hq⟩ := h2
  refine comp_block (Q := fun x H1 => gName i x σ H1 D'.nx) (RR := fun acc C => compPost (model X.prog X.w) X.A X.xe (some (assign (.Name y py) X.env)) (fun _ s' => SP X pins D' .next s') acc C) hc S T hts helt I2 st2 f2 hq fun D C H' s' I' q ⟨m, hm⟩ h1 h2 h3 h4 h5 => ?_
  refine wpAny_assign_Name (store_ok2 I' hN hi' hy (v := .ref D) rfl (fun s'' I'' ⟨a, sa, ha⟩ => ?_) hfn)
  have nC : C ≠ a := by
    rcases ha with z | z
    · rw [z]; exact h2
    · exact (h4 _ _ z).symm
  refine ⟨m, hm.sameBut sa nC, fun h' sb => ⟨_, H', I''.turned (it := C) (t' := s''.toks) (sameBut_keeps sb) h1 h2 (.inr h3) h4 h5, q⟩⟩
end
end L2
namespace M
open PySem
inductive Rl where
  | pt
  | un (to lead : Int) (cap : Option Int) (inner : Rl)
  | ul (to lead cap : Int) (inner last : Rl)
def capD : Option Int → PyData
  | none => .none
  | some c => .int c
abbrev pointD : PyData := .tuple [.str "point"]
abbrev unitD (to lead cap inner last : PyData) : PyData := .tuple [.str "unit", to, lead, cap, inner, last]
def enc : Rl → PyData
  | .pt => pointD
  | .un to lead cap i => unitD (.int to) (.int lead) (capD cap) (enc i) .none
  | .ul to lead cap i l => unitD (.int to) (.int lead) (.int cap) (enc i) (enc l)
def Bd (least i : Int) : Prop := least ≤ i ∧ i ≤ 99
def capOk (to : Int) : Option Int → Prop
  | none => True
  | some c => Bd to c
def ok : Rl → Prop
  | .pt => True
  | .un to lead cap i => Bd 1 to ∧ Bd 1 lead ∧ capOk to cap ∧ ok i
  | .ul to lead cap i l => Bd 1 to ∧ Bd 1 lead ∧ Bd to cap ∧ ok i ∧ ok l
def size : Rl → Nat
  | .pt => 0
  | .un _ _ _ i => 1 + size i
  | .ul _ _ _ i l => 1 + size i + size l
def depth : Rl → Nat
  | .pt => 0
  | .un _ _ _ i => depth i + 1
  | .ul _ _ _ i l => max (depth i) (depth l) + 1
def bnd (d : PyData) (least : Int) : Bool := match d with
  | .int i => decide (least ≤ i) && decide (i ≤ 99)
  | _ => false
def isN : PyData → Bool
  | .none => true
  | _ => false
def intOf : PyData → Int
  | .int i => i
  | _ => 0
def form (d : PyData) : Bool := match d with
  | .tuple [wd, to, lead, cap, _, last] =>
    PyData.eqv wd (.str "unit") && (bnd to 1 && (bnd lead 1 && (if isN cap then isN last else bnd cap (intOf to))))
  | _ => false
def unitsOf : Nat → PyData → Option Nat
  | room, d => if PyData.eqv d pointD then some 0 else match room with
    | 0 => none
    | r + 1 => if form d then (match d with
        | .tuple [_, _, _, _, i, l] => match unitsOf r i, (if isN l then some 0 else unitsOf r l) with
          | some a, some b => some (1 + a + b)
          | _, _ => none
        | _ => none) else none
def isRule (d : PyData) : Bool := match unitsOf 4 d with
  | some n => decide (n ≤ 10)
  | none => false
theorem isN_enc (r : Rl) : isN (enc r) = false := by cases r <;> rfl
def Bad (d : PyData) : Prop := ∀ room, unitsOf room d = none
def U : Nat → Nat → Nat
  | 0, _ => 0
  | d + 1, th => 1 + U d th + (if d ≤ th then U d th else 2 ^ th - 1)
end M
namespace M
open PySem
def subs : Rl → List Rl
  | .pt => [.pt]
  | .un a b c i => .un a b c i :: subs i
  | .ul a b c i l => .ul a b c i l :: (subs i ++ subs l)
def isPt : Rl → Bool
  | .pt => true
  | _ => false
def gNp (r : Rl) : Option Rl := if isPt r then none else some r
def inn : Rl → Option Rl
  | .pt => none
  | .un _ _ _ i => some i
  | .ul _ _ _ i _ => some i
def lst : Rl → Option Rl
  | .ul _ _ _ _ l => some l
  | _ => none
def mxd : List Rl → Nat
  | [] => 0
  | r :: rs => max (depth r) (mxd rs)
def szs : List Rl → Nat
  | [] => 0
  | r :: rs => size r + szs rs
def np (rs : List Rl) : List Rl := rs.filterMap gNp
def nxt (rs : List Rl) : List Rl := (np rs).filterMap inn ++ (np rs).filterMap lst
end M
namespace M
open PySem
def glue (c : Nat) : List (List Nat) → List Nat
  | [] => []
  | [x] => x
  | x :: r => x ++ c :: glue c r
end M
namespace M
open PySem
def numS (i : Int) : Str := Str.ofString (toString i)
def numOk (i : Int) (x : Str) : Bool := (x.length == 1 || x.length == 2) && x.cps.all (fun c => 48 ≤ c && c ≤ 57) && (x.cps.getD 0 0 != 48) && (PySem.intText? x == some i)
end M
namespace M
open PySem
def wPoint : Str := Str.ofString "point"
def wUnit : Str := Str.ofString "unit"
def wDash : Str := Str.ofString "-"
def capS : Option Int → Str
  | none => wDash
  | some c => numS c
def words : Rl → List Str
  | .pt => [wPoint]
  | .un to lead cap i => [wUnit, numS to, numS lead, capS cap] ++ words i ++ [wDash]
  | .ul to lead cap i l => [wUnit, numS to, numS lead, numS cap] ++ words i ++ words l
theorem Bd.one {to c : Int} (h1 : 1 ≤ to) (h : Bd to c) : Bd 1 c := ⟨by have := h.1; omega, h.2⟩
def blank : Str := ⟨#[32]⟩
def text (r : Rl) : Str := Str.join blank (words r)
end M
namespace M
open PySem
end M
namespace M
open PySem
def lastD : Option Rl → PyData
  | none => .none
  | some l => enc l
def lastW : Option Rl → List Str
  | none => [wDash]
  | some l => words l
def lastT : Option Rl → Str
  | none => wDash
  | some l => text l
def lastDp : Option Rl → Nat
  | none => 0
  | some l => depth l
def lastSz : Option Rl → Nat
  | none => 0
  | some l => size l
structure Vw (rl : Rl) (to lead : Int) (cap : Option Int) (i : Rl) (l : Option Rl) : Prop where
  enc : enc rl = unitD (.int to) (.int lead) (capD cap) (enc i) (lastD l)
  words : words rl = [wUnit, numS to, numS lead, capS cap] ++ words i ++ lastW l
  text : text rl = Str.join blank [wUnit, numS to, numS lead, capS cap, text i, lastT l]
  hto : Bd 1 to
  hlead : Bd 1 lead
  hcap : capOk to cap
  hi : ok i
  hl : ∀ r, l = some r → ok r
  cl : cap = none → l = none
  depth : depth rl = max (depth i) (lastDp l) + 1
  size : size rl = 1 + size i + lastSz l
end M
namespace M
inductive Sd where
  | nil
  | cn (z o : Int) (w : Sd)
deriving DecidableEq
def toR : Rl → Int
  | .pt => 1
  | .un t _ _ _ => t
  | .ul t _ _ _ _ => t
def leadR : Rl → Int
  | .pt => 1
  | .un _ t _ _ => t
  | .ul _ t _ _ _ => t
def capR : Rl → Option Int
  | .pt => none
  | .un _ _ c _ => c
  | .ul _ _ c _ _ => some c
def innR : Rl → Rl
  | .pt => .pt
  | .un _ _ _ i => i
  | .ul _ _ _ i _ => i
def lastR : Rl → Option Rl
  | .pt => none
  | .un _ _ _ _ => none
  | .ul _ _ _ _ l => some l
def atCap (c : Option Int) (z o : Int) : Bool := decide (c = some (z + 1)) && decide (c = some (o + 1))
def now (r : Rl) (z o : Int) : Rl := match lastR r with
  | none => innR r
  | some l => if atCap (capR r) z o then l else innR r
def won (r : Rl) (z o : Int) : Bool := decide (capR r = some (max z o)) || (decide (toR r ≤ max z o) && (decide (leadR r ≤ z - o) || decide (leadR r ≤ o - z)))
def begn : Rl → Sd
  | .pt => .nil
  | .un _ _ _ i => .cn 0 0 (begn i)
  | .ul _ _ c i l => .cn 0 0 (if atCap (some c) 0 0 then begn l else begn i)
def bumpZ (z : Int) (b : Bool) : Int := if b then z else z + 1
def bumpO (o : Int) (b : Bool) : Int := if b then o + 1 else o
def stepU (r : Rl) (z o : Int) (res : Sd × Bool) (b : Bool) : Sd × Bool :=
  if res.2 then (if won r (bumpZ z b) (bumpO o b) then (.cn (bumpZ z b) (bumpO o b) .nil, true) else (.cn (bumpZ z b) (bumpO o b) (begn (now r (bumpZ z b) (bumpO o b))), false)) else (.cn z o res.1, false)
def ral : Rl → Sd → Bool → Sd × Bool
  | .pt, _, _ => (.nil, true)
  | .un to lead cap i, .cn z o w, b => stepU (.un to lead cap i) z o (ral i w b) b
  | .ul to lead c i l, .cn z o w, b => stepU (.ul to lead c i l) z o (if atCap (some c) z o then ral l w b else ral i w b) b
  | _, .nil, _ => (.nil, false)
def off (r : Rl) (m : Int) : Int := if capR r = none then max 0 (m - (toR r - 1)) else 0
def cutS : Rl → Sd → Sd
  | _, .nil => .nil
  | r, .cn z o w => .cn (z - off r (min z o)) (o - off r (min z o)) (cutS (now r z o) w)
def stk : Rl → Sd → Bool → Nat
  | _, .nil, _ => 0
  | r, .cn z o w, b => stk (now r z o) w b + (if (ral r (.cn z o w) b).2 then 1 else 0)
def NotWon (r : Rl) (z o : Int) : Prop := (∀ c, capR r = some c → z < c ∧ o < c) ∧ ¬ (toR r ≤ z ∧ leadR r ≤ z - o) ∧ ¬ (toR r ≤ o ∧ leadR r ≤ o - z)
def Live : Rl → Sd → Prop
  | r, .nil => r = .pt
  | r, .cn z o w => r ≠ .pt ∧ 0 ≤ z ∧ 0 ≤ o ∧ NotWon r z o ∧ Live (now r z o) w
def lawWon (r : Rl) (own other : Int) : Bool := (match capR r with
  | none => false
  | some c => decide (c ≤ own)) || (decide (toR r ≤ own) && decide (leadR r ≤ own - other))
structure Out where
  sd : Sd
  side : Option Bool
  at_ : Nat
  ends : List Nat
def walk (r : Rl) : Nat → Sd → List Bool → Out
  | p, s, [] => ⟨s, none, p, []⟩
  | p, s, b :: row =>
    if (ral r s b).2 then ⟨(ral r s b).1, some b, p + 1, List.replicate (stk r s b) (p + 1)⟩
    else ⟨(walk r (p + 1) (ral r s b).1 row).sd, (walk r (p + 1) (ral r s b).1 row).side, (walk r (p + 1) (ral r s b).1 row).at_, List.replicate (stk r s b) (p + 1) ++ (walk r (p + 1) (ral r s b).1 row).ends⟩
theorem walk_nil (r : Rl) (p : Nat) (s : Sd) : walk r p s [] = ⟨s, none, p, []⟩ := rfl
theorem walk_won {r : Rl} {p : Nat} {s : Sd} {b : Bool} {row : List Bool} (h : (ral r s b).2 = true) : walk r p s (b :: row) = ⟨(ral r s b).1, some b, p + 1, List.replicate (stk r s b) (p + 1)⟩ := by
  rw [walk, if_pos h]
theorem walk_on {r : Rl} {p : Nat} {s : Sd} {b : Bool} {row : List Bool} (h : (ral r s b).2 = false) : walk r p s (b :: row) = ⟨(walk r (p + 1) (ral r s b).1 row).sd, (walk r (p + 1) (ral r s b).1 row).side, (walk r (p + 1) (ral r s b).1 row).at_, List.replicate (stk r s b) (p + 1) ++ (walk r (p + 1) (ral r s b).1 row).ends⟩ := by
  rw [walk, if_neg (by rw [h]; simp)]
theorem walk_at {r : Rl} : ∀ {row : List Bool} {p : Nat} {s : Sd}, p ≤ (walk r p s row).at_ ∧ (walk r p s row).at_ ≤ p + row.length ∧ ((walk r p s row).side = none → (walk r p s row).at_ = p + row.length) ∧ ((walk r p s row).side ≠ none → p < (walk r p s row).at_)
  | [], p, s => by simp [walk_nil]
  | b :: row, p, s => by
    cases e : (ral r s b).2 with
    | true => rw [walk_won e]; simp
    | false =>
      rw [walk_on e]
      have := walk_at (r := r) (row := row) (p := p + 1) (s := (ral r s b).1)
      simp only [List.length_cons]
      obtain ⟨h1, h2, h3, h4⟩ := this
      exact ⟨by omega, by omega, fun z => by have := h3 z; omega, fun z => by have := h4 z; omega⟩
end M
namespace M
def Shp : Rl → Sd → Prop
  | _, .nil => True
  | r, .cn z o w => r ≠ .pt ∧ 0 ≤ z ∧ 0 ≤ o ∧ Shp (now r z o) w
theorem Live.nil_iff {s : Sd} {r : Rl} (h : Live r s) : s = .nil ↔ r = .pt := by
  cases s with
  | nil => exact ⟨fun _ => h, fun _ => rfl⟩
  | cn z o w => exact ⟨fun e => (by cases e), fun e => absurd e h.1⟩
end M
namespace M
open PySem
structure Lr where
  d : Int
  b : Int
  u : Int
  n : Int
  a : Int
  x : Int
  t : Int
deriving DecidableEq
def earned (ball up : Int) : Int := if up > 0 then 0 else if ball = 1 then 2 else 1
def frameB (pins frames : Int) (r : Lr) (k : Int) : Lr :=
  if r.u - k > 0 ∧ r.b + 1 = 1 then ⟨r.d, r.b + 1, r.u - k, r.a, 0, 0, r.t + k * r.n + k⟩
  else if earned (r.b + 1) (r.u - k) > 0 ∧ r.d = frames - 1 then ⟨r.d, 0, pins, r.a + (if earned (r.b + 1) (r.u - k) > 0 then 1 else 0), (if earned (r.b + 1) (r.u - k) = 2 then 1 else 0), earned (r.b + 1) (r.u - k), r.t + k * r.n + k⟩
  else ⟨r.d + 1, 0, pins, r.a + (if earned (r.b + 1) (r.u - k) > 0 then 1 else 0), (if earned (r.b + 1) (r.u - k) = 2 then 1 else 0), 0, r.t + k * r.n + k⟩
def extraB (pins : Int) (r : Lr) (k : Int) : Lr :=
  if r.x - 1 = 0 then ⟨r.d + 1, r.b, pins, r.a, 0, 0, r.t + k * r.n⟩
  else ⟨r.d, r.b, if r.u - k = 0 then pins else r.u - k, r.a, 0, r.x - 1, r.t + k * r.n⟩
def ballB (pins frames : Int) (r : Lr) (k : Int) : Lr := if r.x = 0 then frameB pins frames r k else extraB pins r k
def rowsB (pins frames : Int) (rows : List Lr) (side : Nat) (k : Int) : List Lr := match rows[side]? with
  | none => rows
  | some r => rows.set side (ballB pins frames r k)
def sideB (pins frames : Int) (rows : List Lr) (side : Nat) (k : Int) : Nat := match rows[side]? with
  | none => side
  | some r => if (ballB pins frames r k).d > r.d then (side + 1) % rows.length else side
def overB (frames : Int) (rows : List Lr) : Bool := rows.all fun r => decide (r.d = frames)
def encR (r : Lr) : PyData := .tuple [.int r.d, .int r.b, .int r.u, .int r.n, .int r.a, .int r.x, .int r.t]
def encLs (rows : List Lr) (side : Nat) : PyData := .tuple [.tuple (rows.map encR), .int side]
def Up (pins : Int) (r : Lr) : Prop := 0 ≤ r.u ∧ r.u ≤ pins
theorem up_ball {pins frames : Int} {r : Lr} {k : Int} (hp : 0 ≤ pins) (h : Up pins r) (h0 : 0 ≤ k) (h1 : k ≤ r.u) : Up pins (ballB pins frames r k) := by
  obtain ⟨a, b⟩ := h
  unfold ballB
  split
  · unfold frameB
    split
    · exact ⟨by show 0 ≤ r.u - k; omega, by show r.u - k ≤ pins; omega⟩
    · split
      · exact ⟨hp, Int.le_refl _⟩
      · exact ⟨hp, Int.le_refl _⟩
  · unfold extraB
    split
    · exact ⟨hp, Int.le_refl _⟩
    · refine ⟨?_, ?_⟩
      · show 0 ≤ (if r.u - k = 0 then pins else r.u - k)
        split <;> omega
      · show (if r.u - k = 0 then pins else r.u - k) ≤ pins
        split <;> omega
end M
namespace M
open PySem
theorem rev_ind {α : Type} {P : List α → Prop} (h0 : P []) (h1 : ∀ l x, P l → P (l ++ [x])) : ∀ l, P l := by
  intro l
  have : ∀ m : List α, P m.reverse := by
    intro m
    induction m with
    | nil => exact h0
    | cons x m ih => rw [List.reverse_cons]; exact h1 _ _ ih
  have h := this l.reverse
  rwa [List.reverse_reverse] at h
def st0 (p : Int) : Lr := ⟨0, 0, p, 0, 0, 0, 0⟩
def runL (p f : Int) (bs : List Int) : Lr := bs.foldl (ballB p f) (st0 p)
theorem runL_app {p f : Int} {bs : List Int} {b : Int} : runL p f (bs ++ [b]) = ballB p f (runL p f bs) b := by
  unfold runL
  rw [List.foldl_append]
  rfl
inductive Vl (p f : Int) : List Int → Prop
  | nil : Vl p f []
  | snoc {bs : List Int} {b : Int} : Vl p f bs → (runL p f bs).d < f → 0 ≤ b → b ≤ (runL p f bs).u → Vl p f (bs ++ [b])
theorem Vl.inv {p f : Int} {bs : List Int} {b : Int} (h : Vl p f (bs ++ [b])) : Vl p f bs ∧ (runL p f bs).d < f ∧ 0 ≤ b ∧ b ≤ (runL p f bs).u := by
  generalize e : bs ++ [b] = l at h
  cases h with
  | nil => exact absurd e (by simp)
  | snoc h1 h2 h3 h4 =>
    obtain ⟨rfl, e2⟩ := List.append_inj' e rfl
    cases e2
    exact ⟨h1, h2, h3, h4⟩
def shf (D : Nat) (T : Int) (r : Lr) : Lr := ⟨r.d + 1, r.b, r.u, r.n + (if 1 ≤ D then 1 else 0), r.a + (if 2 ≤ D then 1 else 0), r.x, r.t + T⟩
theorem ball_raw {p f : Int} {d bb u n a x t b d' n' a' t' f' y2 yb T : Int} (hf : (d' = f' - 1) = (d = f - 1)) (hd : d' = d + 1) (hn : b * n' = b * n + yb) (ha : a' = a + y2) (ht : t' = t + T) :
    ballB p f' ⟨d', bb, u, n', a', x, t'⟩ b = ⟨(ballB p f ⟨d, bb, u, n, a, x, t⟩ b).d + 1, (ballB p f ⟨d, bb, u, n, a, x, t⟩ b).b, (ballB p f ⟨d, bb, u, n, a, x, t⟩ b).u, (ballB p f ⟨d, bb, u, n, a, x, t⟩ b).n + y2, (ballB p f ⟨d, bb, u, n, a, x, t⟩ b).a, (ballB p f ⟨d, bb, u, n, a, x, t⟩ b).x, (ballB p f ⟨d, bb, u, n, a, x, t⟩ b).t + (T + yb)⟩ := by
  subst hd ha ht
  by_cases hx : x = 0
  · have e1 : ballB p f' ⟨d + 1, bb, u, n', a + y2, x, t + T⟩ b = frameB p f' ⟨d + 1, bb, u, n', a + y2, x, t + T⟩ b := if_pos hx
    have e2 : ballB p f ⟨d, bb, u, n, a, x, t⟩ b = frameB p f ⟨d, bb, u, n, a, x, t⟩ b := if_pos hx
    rw [e1, e2]
    by_cases h1 : u - b > 0 ∧ bb + 1 = 1
    · rw [show frameB p f' ⟨d + 1, bb, u, n', a + y2, x, t + T⟩ b = ⟨d + 1, bb + 1, u - b, a + y2, 0, 0, t + T + b * n' + b⟩ from if_pos h1, show frameB p f ⟨d, bb, u, n, a, x, t⟩ b = ⟨d, bb + 1, u - b, a, 0, 0, t + b * n + b⟩ from if_pos h1, hn]
      simp only [Lr.mk.injEq, true_and]
      omega
    · by_cases h2 : earned (bb + 1) (u - b) > 0 ∧ d = f - 1
      · rw [show frameB p f' ⟨d + 1, bb, u, n', a + y2, x, t + T⟩ b = ⟨d + 1, 0, p, a + y2 + (if earned (bb + 1) (u - b) > 0 then 1 else 0), (if earned (bb + 1) (u - b) = 2 then 1 else 0), earned (bb + 1) (u - b), t + T + b * n' + b⟩ from (if_neg h1).trans (if_pos ⟨h2.1, hf.mpr h2.2⟩), show frameB p f ⟨d, bb, u, n, a, x, t⟩ b = ⟨d, 0, p, a + (if earned (bb + 1) (u - b) > 0 then 1 else 0), (if earned (bb + 1) (u - b) = 2 then 1 else 0), earned (bb + 1) (u - b), t + b * n + b⟩ from (if_neg h1).trans (if_pos h2), hn]
        simp only [Lr.mk.injEq, true_and]
        omega
      · rw [show frameB p f' ⟨d + 1, bb, u, n', a + y2, x, t + T⟩ b = ⟨d + 1 + 1, 0, p, a + y2 + (if earned (bb + 1) (u - b) > 0 then 1 else 0), (if earned (bb + 1) (u - b) = 2 then 1 else 0), 0, t + T + b * n' + b⟩ from (if_neg h1).trans (if_neg fun z => h2 ⟨z.1, hf.mp z.2⟩), show frameB p f ⟨d, bb, u, n, a, x, t⟩ b = ⟨d + 1, 0, p, a + (if earned (bb + 1) (u - b) > 0 then 1 else 0), (if earned (bb + 1) (u - b) = 2 then 1 else 0), 0, t + b * n + b⟩ from (if_neg h1).trans (if_neg h2), hn]
        simp only [Lr.mk.injEq, true_and]
        omega
  · have e1 : ballB p f' ⟨d + 1, bb, u, n', a + y2, x, t + T⟩ b = extraB p ⟨d + 1, bb, u, n', a + y2, x, t + T⟩ b := if_neg hx
    have e2 : ballB p f ⟨d, bb, u, n, a, x, t⟩ b = extraB p ⟨d, bb, u, n, a, x, t⟩ b := if_neg hx
    rw [e1, e2]
    by_cases h1 : x - 1 = 0
    · rw [show extraB p ⟨d + 1, bb, u, n', a + y2, x, t + T⟩ b = ⟨d + 1 + 1, bb, p, a + y2, 0, 0, t + T + b * n'⟩ from if_pos h1, show extraB p ⟨d, bb, u, n, a, x, t⟩ b = ⟨d + 1, bb, p, a, 0, 0, t + b * n⟩ from if_pos h1, hn]
      simp only [Lr.mk.injEq, true_and]
      omega
    · rw [show extraB p ⟨d + 1, bb, u, n', a + y2, x, t + T⟩ b = ⟨d + 1, bb, if u - b = 0 then p else u - b, a + y2, 0, x - 1, t + T + b * n'⟩ from if_neg h1, show extraB p ⟨d, bb, u, n, a, x, t⟩ b = ⟨d, bb, if u - b = 0 then p else u - b, a, 0, x - 1, t + b * n⟩ from if_neg h1, hn]
      simp only [Lr.mk.injEq, true_and]
      omega
theorem shf_ball {p f : Int} {D : Nat} {T b : Int} {r : Lr} (hD : D ≤ 2) : ballB p (f + 1) (shf D T r) b = shf (D - 1) (T + if 1 ≤ D then b else 0) (ballB p f r b) := by
  have hD3 : ¬ 2 ≤ D - 1 := by omega
  have e1 : (if 1 ≤ D - 1 then (1 : Int) else 0) = if 2 ≤ D then 1 else 0 := by
    by_cases z : 2 ≤ D
    · rw [if_pos z, if_pos (by omega)]
    · rw [if_neg z, if_neg (by omega)]
  have e2 : b * (r.n + if 1 ≤ D then 1 else 0) = b * r.n + if 1 ≤ D then b else 0 := by
    split
    · rw [Int.mul_add, Int.mul_one]
    · rw [Int.add_zero, Int.add_zero]
  have e3 : (r.d + 1 = f + 1 - 1) = (r.d = f - 1) := by apply propext; constructor <;> intro h <;> omega
  show ballB p (f + 1) ⟨r.d + 1, r.b, r.u, r.n + (if 1 ≤ D then 1 else 0), r.a + (if 2 ≤ D then 1 else 0), r.x, r.t + T⟩ b = ⟨(ballB p f r b).d + 1, (ballB p f r b).b, (ballB p f r b).u, (ballB p f r b).n + (if 1 ≤ D - 1 then 1 else 0), (ballB p f r b).a + (if 2 ≤ D - 1 then 1 else 0), (ballB p f r b).x, (ballB p f r b).t + (T + if 1 ≤ D then b else 0)⟩
  rw [e1, if_neg hD3, Int.add_zero]
  exact ball_raw (p := p) (x := r.x) (u := r.u) (bb := r.b) (d := r.d) (n := r.n) (a := r.a) (t := r.t) e3 rfl e2 rfl rfl
theorem shf_run {p f : Int} {D : Nat} {T : Int} {hd : List Int} (hD : D ≤ 2) (h0 : runL p (f + 1) hd = shf D T (st0 p)) : ∀ rest : List Int, runL p (f + 1) (hd ++ rest) = shf (D - rest.length) (T + (rest.take D).sum) (runL p f rest) := by
  refine rev_ind ?_ ?_
  · rw [List.append_nil, h0]
    simp only [List.length_nil, Nat.sub_zero, List.take_nil, List.sum_nil, Int.add_zero]
    rfl
  · intro rest b ih
    rw [← List.append_assoc, runL_app, ih, shf_ball (by omega), runL_app]
    have e1 : D - rest.length - 1 = D - (rest ++ [b]).length := by simp; omega
    have e2 : T + (rest.take D).sum + (if 1 ≤ D - rest.length then b else 0) = T + ((rest ++ [b]).take D).sum := by
      rw [List.take_append]
      by_cases z : 1 ≤ D - rest.length
      · rw [if_pos z, List.take_of_length_le (l := [b]) (by simpa using z), List.sum_append]
        simp
        omega
      · rw [if_neg z, show D - rest.length = 0 by omega]
        simp
    rw [e1, e2]
theorem Vl.pre {p f : Int} {a : List Int} : ∀ {b : List Int}, Vl p f (a ++ b) → Vl p f a := by
  intro b
  refine rev_ind (P := fun b => Vl p f (a ++ b) → Vl p f a) ?_ ?_ b
  · intro h; simpa using h
  · intro b x ih h
    rw [← List.append_assoc] at h
    exact ih h.inv.1
theorem Vl.rest {p f : Int} {D : Nat} {T : Int} {hd : List Int} (hD : D ≤ 2) (h0 : runL p (f + 1) hd = shf D T (st0 p)) : ∀ {rest : List Int}, Vl p (f + 1) (hd ++ rest) → Vl p f rest := by
  intro rest
  refine rev_ind (P := fun rest => Vl p (f + 1) (hd ++ rest) → Vl p f rest) ?_ ?_ rest
  · intro _; exact .nil
  · intro rest b ih h
    rw [← List.append_assoc] at h
    obtain ⟨h1, h2, h3, h4⟩ := h.inv
    rw [shf_run hD h0] at h2 h4
    replace h2 : (runL p f rest).d + 1 < f + 1 := h2
    exact .snoc (ih h1) (by omega) h3 h4
theorem Vl.hd {p f x : Int} {rest : List Int} (h : Vl p f (x :: rest)) : 0 ≤ x ∧ x ≤ p := by
  have h1 : Vl p f ([] ++ [x]) := Vl.pre (b := rest) h
  obtain ⟨_, _, h3, h4⟩ := h1.inv
  exact ⟨h3, h4⟩
structure Fr where
  b : Nat
  e : Nat
  r : Option Nat
  sl : List Int
  bh : List Int
def parse (p : Int) : Nat → Nat → List Int → List Fr
  | 0, _, _ => []
  | _ + 1, _, [] => []
  | c + 1, i, x :: rest => if x = p then ⟨i, i + 1, some 2, [x], rest⟩ :: parse p c (i + 1) rest
    else match rest with
      | [] => [⟨i, i + 1, none, [x], []⟩]
      | y :: rest' => ⟨i, i + 2, some (if x + y = p then 1 else 0), [x, y], rest'⟩ :: parse p c (i + 2) rest'
def fT (q : Fr) : Int := q.sl.sum + (q.bh.take (q.r.getD 0)).sum
def fC (j : Nat) (q : Fr) : Int := if q.r.getD 0 - q.bh.length > j then 1 else 0
def rowF (p : Int) (f : Nat) (F : List Fr) : Lr := match F.getLast? with
  | none => st0 p
  | some q => match q.r with
    | none => ⟨(F.length : Int) - 1, 1, p - q.sl.headD 0, (F.map (fC 0)).sum, (F.map (fC 1)).sum, 0, (F.map fT).sum⟩
    | some k =>
      let x : Int := if F.length = f then (k : Int) - q.bh.length else 0
      ⟨(F.length : Int) - (if x > 0 then 1 else 0), 0, if x > 0 ∧ q.bh.length > 0 ∧ q.bh.getLastD 0 < p then p - q.bh.getLastD 0 else p, (F.map (fC 0)).sum, (F.map (fC 1)).sum, x, (F.map fT).sum⟩
theorem rowF_cons {p : Int} {c k : Nat} {q : Fr} {F : List Fr} (hq : q.r = some k) (hk : k ≤ 2) (hF : F = [] → 1 ≤ c) : rowF p (c + 1) (q :: F) = shf (k - q.bh.length) (fT q) (rowF p c F) := by
  have c0 : fC 0 q = if 1 ≤ k - q.bh.length then 1 else 0 := by
    unfold fC
    rw [hq]
    show (if k - q.bh.length > 0 then (1 : Int) else 0) = _
    by_cases z : 1 ≤ k - q.bh.length
    · rw [if_pos z, if_pos (by omega)]
    · rw [if_neg z, if_neg (by omega)]
  have c1 : fC 1 q = if 2 ≤ k - q.bh.length then 1 else 0 := by
    unfold fC
    rw [hq]
    show (if k - q.bh.length > 1 then (1 : Int) else 0) = _
    by_cases z : 2 ≤ k - q.bh.length
    · rw [if_pos z, if_pos (by omega)]
    · rw [if_neg z, if_neg (by omega)]
  cases F with
  | nil =>
    have hc := hF rfl
    have hx : ¬ ([q].length = c + 1) := by simp; omega
    simp only [rowF, List.getLast?_singleton, List.getLast?_nil, hq, if_neg hx, List.map_cons, List.map_nil, List.sum_cons, List.sum_nil, c0, c1, shf, st0]
    simp
  | cons q2 F =>
    obtain ⟨ql, hl⟩ : ∃ ql, (q2 :: F).getLast? = some ql := ⟨_, List.getLast?_eq_some_getLast (by simp)⟩
    have hl2 : (q :: q2 :: F).getLast? = some ql := by rw [List.getLast?_cons_cons]; exact hl
    have hn : (q :: q2 :: F).length = (q2 :: F).length + 1 := rfl
    unfold rowF
    rw [hl, hl2]
    generalize q2 :: F = G at *
    have he : ((q :: G).length = c + 1) = (G.length = c) := by apply propext; rw [hn]; constructor <;> intro h <;> omega
    cases hr : ql.r with
    | none =>
      simp only [hr, List.map_cons, List.sum_cons, c0, c1, shf, Lr.mk.injEq, true_and, hn]
      refine ⟨by omega, ?_, ?_, ?_⟩ <;> omega
    | some m =>
      simp only [hr, List.map_cons, List.sum_cons, c0, c1, shf, Lr.mk.injEq, true_and, hn, Nat.add_right_cancel_iff]
      refine ⟨?_, ?_, ?_, ?_⟩ <;> omega
theorem ball_strike {p : Int} {c : Nat} (hc : 1 ≤ c) : runL p ((c : Int) + 1) [p] = shf 2 p (st0 p) := by
  show ballB p ((c : Int) + 1) (st0 p) p = _
  have h1 : ¬ (p - p > 0 ∧ (0 : Int) + 1 = 1) := by omega
  have h2 : ¬ (earned (0 + 1) (p - p) > 0 ∧ (0 : Int) = (c : Int) + 1 - 1) := by omega
  have he : earned (0 + 1) (p - p) = 2 := by unfold earned; rw [if_neg (by omega)]; exact if_pos (by decide)
  have : ballB p ((c : Int) + 1) (st0 p) p = ⟨0 + 1, 0, p, 0 + (if earned (0 + 1) (p - p) > 0 then 1 else 0), (if earned (0 + 1) (p - p) = 2 then 1 else 0), 0, 0 + p * 0 + p⟩ := (if_pos rfl).trans ((if_neg h1).trans (if_neg h2))
  rw [this, he]
  simp [shf, st0]
theorem ball_one {p f x : Int} (hx : x < p) : runL p f [x] = ⟨0, 1, p - x, 0, 0, 0, x⟩ := by
  show ballB p f (st0 p) x = _
  have : ballB p f (st0 p) x = ⟨0, 0 + 1, p - x, 0, 0, 0, 0 + x * 0 + x⟩ := (if_pos rfl).trans (if_pos ⟨by show p - x > 0; omega, rfl⟩)
  rw [this]
  simp
theorem ball_two {p f x y : Int} (hx : x < p) (hy : y ≤ p - x) : runL p f [x, y] = if x + y = p ∧ f = 1 then ⟨0, 0, p, 1, 0, 1, x + y⟩ else ⟨1, 0, p, if x + y = p then 1 else 0, 0, 0, x + y⟩ := by
  show ballB p f (runL p f [x]) y = _
  rw [ball_one hx]
  have h1 : ¬ (p - x - y > 0 ∧ (1 : Int) + 1 = 1) := by omega
  by_cases z : x + y = p
  · have he : earned (1 + 1) (p - x - y) = 1 := by unfold earned; rw [if_neg (by omega), if_neg (by decide)]
    by_cases w : f = 1
    · have : ballB p f ⟨0, 1, p - x, 0, 0, 0, x⟩ y = ⟨0, 0, p, 0 + (if earned (1 + 1) (p - x - y) > 0 then 1 else 0), (if earned (1 + 1) (p - x - y) = 2 then 1 else 0), earned (1 + 1) (p - x - y), x + y * 0 + y⟩ := (if_pos rfl).trans ((if_neg h1).trans (if_pos ⟨by show earned (1 + 1) (p - x - y) > 0; rw [he]; decide, by show (0 : Int) = f - 1; omega⟩))
      rw [if_pos (show x + y = p ∧ f = 1 from ⟨z, w⟩), this, he]
      simp
    · have : ballB p f ⟨0, 1, p - x, 0, 0, 0, x⟩ y = ⟨0 + 1, 0, p, 0 + (if earned (1 + 1) (p - x - y) > 0 then 1 else 0), (if earned (1 + 1) (p - x - y) = 2 then 1 else 0), 0, x + y * 0 + y⟩ := (if_pos rfl).trans ((if_neg h1).trans (if_neg fun q => w (by have : (0 : Int) = f - 1 := q.2; omega)))
      rw [if_neg (show ¬ (x + y = p ∧ f = 1) from fun q => w q.2), if_pos z, this, he]
      simp
  · have he : earned (1 + 1) (p - x - y) = 0 := by unfold earned; rw [if_pos (by omega)]
    have : ballB p f ⟨0, 1, p - x, 0, 0, 0, x⟩ y = ⟨0 + 1, 0, p, 0 + (if earned (1 + 1) (p - x - y) > 0 then 1 else 0), (if earned (1 + 1) (p - x - y) = 2 then 1 else 0), 0, x + y * 0 + y⟩ := (if_pos rfl).trans ((if_neg h1).trans (if_neg fun q => by have : earned (1 + 1) (p - x - y) > 0 := q.1; rw [he] at this; omega))
    rw [if_neg (show ¬ (x + y = p ∧ f = 1) from fun q => z q.1), if_neg z, this, he]
    simp
theorem ball_last {p : Int} : runL p 1 [p] = ⟨0, 0, p, 1, 1, 2, p⟩ := by
  show ballB p 1 (st0 p) p = _
  have h1 : ¬ (p - p > 0 ∧ (0 : Int) + 1 = 1) := by omega
  have he : earned (0 + 1) (p - p) = 2 := by unfold earned; rw [if_neg (by omega)]; exact if_pos (by decide)
  have : ballB p 1 (st0 p) p = ⟨0, 0, p, 0 + (if earned (0 + 1) (p - p) > 0 then 1 else 0), (if earned (0 + 1) (p - p) = 2 then 1 else 0), earned (0 + 1) (p - p), 0 + p * 0 + p⟩ := (if_pos rfl).trans ((if_neg h1).trans (if_pos ⟨by show earned (0 + 1) (p - p) > 0; rw [he]; decide, rfl⟩))
  rw [this, he]
  simp
theorem two_shf {p : Int} {c : Nat} {x y : Int} (hc : 1 ≤ c) (hx : x < p) (hy : y ≤ p - x) : runL p ((c : Int) + 1) [x, y] = shf (if x + y = p then 1 else 0) (x + y) (st0 p) := by
  rw [ball_two hx hy, if_neg (fun q => by have := q.2; omega)]
  by_cases z : x + y = p
  · rw [if_pos z, if_pos z]
    simp [shf, st0]
  · rw [if_neg z, if_neg z]
    simp [shf, st0]
theorem rowF_run {p : Int} : ∀ {c : Nat} {bs : List Int} {i : Nat}, 1 ≤ c → Vl p c bs → rowF p c (parse p c i bs) = runL p c bs
  | 0, _, _, h, _ => absurd h (by decide)
  | c + 1, [], i, _, _ => rfl
  | 1, x :: rest, i, _, h => by
    obtain ⟨x0, x1⟩ := h.hd
    by_cases hxp : x = p
    · subst hxp
      have e : parse x 1 i (x :: rest) = [⟨i, i + 1, some 2, [x], rest⟩] := by simp [parse]
      rw [e]
      match rest, h with
      | [], _ =>
        show _ = runL x 1 [x]
        rw [ball_last]
        simp [rowF, fC, fT]
      | [k], h =>
        obtain ⟨h1, h2, h3, h4⟩ := (show Vl x 1 ([x] ++ [k]) from h).inv
        rw [ball_last] at h4
        replace h4 : k ≤ x := h4
        show _ = ballB x 1 (runL x 1 [x]) k
        rw [ball_last]
        have : ballB x 1 ⟨0, 0, x, 1, 1, 2, x⟩ k = ⟨0, 0, if x - k = 0 then x else x - k, 1, 0, 2 - 1, x + k * 1⟩ := (if_neg (show ¬ ((2 : Int) = 0) by decide)).trans (if_neg (show ¬ ((2 : Int) - 1 = 0) by decide))
        rw [this]
        simp [rowF, fC, fT]
        split <;> split <;> omega
      | [k, l], h =>
        show _ = ballB x 1 (ballB x 1 (runL x 1 [x]) k) l
        rw [ball_last]
        have : ballB x 1 ⟨0, 0, x, 1, 1, 2, x⟩ k = ⟨0, 0, if x - k = 0 then x else x - k, 1, 0, 2 - 1, x + k * 1⟩ := (if_neg (show ¬ ((2 : Int) = 0) by decide)).trans (if_neg (show ¬ ((2 : Int) - 1 = 0) by decide))
        rw [this]
        have e2 : ballB x 1 ⟨0, 0, if x - k = 0 then x else x - k, 1, 0, 2 - 1, x + k * 1⟩ l = ⟨0 + 1, 0, x, 0, 0, 0, x + k * 1 + l * 1⟩ := (if_neg (show ¬ ((2 : Int) - 1 = 0) by decide)).trans (if_pos (show (2 : Int) - 1 - 1 = 0 by decide))
        rw [e2]
        simp [rowF, fC, fT]
        omega
      | k :: l :: m :: rest, h =>
        exfalso
        obtain ⟨_, h2, _⟩ := (Vl.pre (a := [x, k, l] ++ [m]) (b := rest) (by simpa using h)).inv
        have e1 : runL x 1 [x, k, l] = ballB x 1 (ballB x 1 (runL x 1 [x]) k) l := rfl
        rw [e1, ball_last] at h2
        have : ballB x 1 ⟨0, 0, x, 1, 1, 2, x⟩ k = ⟨0, 0, if x - k = 0 then x else x - k, 1, 0, 2 - 1, x + k * 1⟩ := (if_neg (show ¬ ((2 : Int) = 0) by decide)).trans (if_neg (show ¬ ((2 : Int) - 1 = 0) by decide))
        rw [this] at h2
        have e2 : ballB x 1 ⟨0, 0, if x - k = 0 then x else x - k, 1, 0, 2 - 1, x + k * 1⟩ l = ⟨0 + 1, 0, x, 0, 0, 0, x + k * 1 + l * 1⟩ := (if_neg (show ¬ ((2 : Int) - 1 = 0) by decide)).trans (if_pos (show (2 : Int) - 1 - 1 = 0 by decide))
        rw [e2] at h2
        exact absurd h2 (show ¬ ((1 : Int) < 1) by decide)
    · have hxl : x < p := by omega
      match rest, h with
      | [], _ =>
        show _ = runL p 1 [x]
        rw [ball_one hxl]
        simp [parse, if_neg hxp, rowF, fC, fT]
      | y :: rest, h =>
        have hy : 0 ≤ y ∧ y ≤ p - x := by
          obtain ⟨_, _, h3, h4⟩ := (Vl.pre (a := [x] ++ [y]) (b := rest) (by simpa using h)).inv
          rw [ball_one hxl] at h4
          exact ⟨h3, h4⟩
        have e : parse p 1 i (x :: y :: rest) = [⟨i, i + 2, some (if x + y = p then 1 else 0), [x, y], rest⟩] := by simp [parse, if_neg hxp]
        rw [e]
        have b2 := ball_two (f := 1) hxl hy.2
        match rest, h with
        | [], _ =>
          show _ = runL p 1 [x, y]
          rw [b2]
          by_cases z : x + y = p
          · simp [z, rowF, fC, fT]
          · simp [z, rowF, fC, fT]
        | k :: rest, h =>
          by_cases z : x + y = p
          · rw [if_pos ⟨z, rfl⟩] at b2
            have e3 : runL p 1 [x, y, k] = ⟨0 + 1, 0, p, 0, 0, 0, x + y + k * 1⟩ := by
              show ballB p 1 (runL p 1 [x, y]) k = _
              rw [b2]
              exact (if_neg (show ¬ ((1 : Int) = 0) by decide)).trans (if_pos (show (1 : Int) - 1 = 0 by decide))
            match rest, h with
            | [], _ =>
              show _ = runL p 1 [x, y, k]
              rw [e3]
              simp [z, rowF, fC, fT]
            | l :: rest, h =>
              exfalso
              obtain ⟨_, h2, _⟩ := (Vl.pre (a := [x, y, k] ++ [l]) (b := rest) (by simpa using h)).inv
              rw [e3] at h2
              exact absurd h2 (show ¬ ((1 : Int) < 1) by decide)
          · exfalso
            obtain ⟨_, h2, _⟩ := (Vl.pre (a := [x, y] ++ [k]) (b := rest) (by simpa using h)).inv
            rw [b2, if_neg (fun q => z q.1)] at h2
            exact absurd h2 (show ¬ ((1 : Int) < 1) by decide)
  | c + 2, x :: rest, i, _, h => by
    obtain ⟨x0, x1⟩ := h.hd
    have hcc : ((c + 2 : Nat) : Int) = ((c + 1 : Nat) : Int) + 1 := by omega
    rw [hcc] at h ⊢
    by_cases hxp : x = p
    · subst hxp
      have h0 := ball_strike (p := x) (c := c + 1) (by omega)
      have e : parse x (c + 2) i (x :: rest) = ⟨i, i + 1, some 2, [x], rest⟩ :: parse x (c + 1) (i + 1) rest := by simp [parse]
      have hv : Vl x ((c + 1 : Nat) : Int) rest := Vl.rest (hd := [x]) (by decide) h0 h
      rw [e, rowF_cons (k := 2) rfl (by decide) (fun _ => by omega), rowF_run (by omega) hv]
      have := shf_run (by decide) h0 rest
      rw [show x :: rest = [x] ++ rest from rfl, this]
      simp [fT]
    · have hxl : x < p := by omega
      match rest, h with
      | [], _ =>
        show _ = runL p _ [x]
        rw [ball_one hxl]
        simp [parse, if_neg hxp, rowF, fC, fT]
      | y :: rest, h =>
        have hy : 0 ≤ y ∧ y ≤ p - x := by
          obtain ⟨_, _, h3, h4⟩ := (Vl.pre (a := [x] ++ [y]) (b := rest) (by simpa using h)).inv
          rw [ball_one hxl] at h4
          exact ⟨h3, h4⟩
        have h0 := two_shf (p := p) (c := c + 1) (by omega) hxl hy.2
        have hk : (if x + y = p then 1 else 0) ≤ 2 := by split <;> decide
        have e : parse p (c + 2) i (x :: y :: rest) = ⟨i, i + 2, some (if x + y = p then 1 else 0), [x, y], rest⟩ :: parse p (c + 1) (i + 2) rest := by simp [parse, if_neg hxp]
        have hv : Vl p ((c + 1 : Nat) : Int) rest := Vl.rest (hd := [x, y]) hk h0 h
        rw [e, rowF_cons (k := if x + y = p then 1 else 0) rfl hk (fun _ => by omega), rowF_run (by omega) hv]
        have := shf_run hk h0 rest
        rw [show x :: y :: rest = [x, y] ++ rest from rfl, this]
        simp [fT]
end M
namespace M
open PySem
def pos (p : Int) : Nat → List Int → Nat → Option (List Int × Nat)
  | 0, bs, m => some (bs, m)
  | _ + 1, [], _ => none
  | c + 1, x :: rest, _ => if x = p then pos p c rest 2 else match rest with
    | [] => none
    | y :: rest' => pos p c rest' (if x + y = p then 1 else 0)
theorem parse_len {p : Int} : ∀ {c : Nat} {bs : List Int} {i : Nat}, (parse p c i bs).length ≤ c
  | 0, _, _ => by simp [parse]
  | c + 1, [], _ => by simp [parse]
  | c + 1, x :: rest, i => by
    by_cases h : x = p
    · have : parse p (c + 1) i (x :: rest) = ⟨i, i + 1, some 2, [x], rest⟩ :: parse p c (i + 1) rest := by simp [parse, h]
      rw [this, List.length_cons]
      have := parse_len (p := p) (c := c) (bs := rest) (i := i + 1)
      omega
    · cases rest with
      | nil => simp [parse, h]
      | cons y rest =>
        have : parse p (c + 1) i (x :: y :: rest) = ⟨i, i + 2, some (if x + y = p then 1 else 0), [x, y], rest⟩ :: parse p c (i + 2) rest := by simp [parse, h]
        rw [this, List.length_cons]
        have := parse_len (p := p) (c := c) (bs := rest) (i := i + 2)
        omega
theorem pos_parse {p : Int} : ∀ {c : Nat} {bs : List Int} {i m : Nat}, match pos p (c + 1) bs m with
    | some (bh, k) => ∃ F0 q, parse p (c + 1) i bs = F0 ++ [q] ∧ F0.length = c ∧ q.r = some k ∧ q.bh = bh
    | none => (parse p (c + 1) i bs).length < c + 1 ∨ ∃ F0 q, parse p (c + 1) i bs = F0 ++ [q] ∧ q.r = none
  | c, [], i, m => by simp [pos, parse]
  | c, x :: rest, i, m => by
    by_cases h : x = p
    · have e : parse p (c + 1) i (x :: rest) = ⟨i, i + 1, some 2, [x], rest⟩ :: parse p c (i + 1) rest := by simp [parse, h]
      have e2 : pos p (c + 1) (x :: rest) m = pos p c rest 2 := by simp [pos, h]
      rw [e, e2]
      cases c with
      | zero => exact ⟨[], _, rfl, rfl, rfl, rfl⟩
      | succ c =>
        have ih := pos_parse (p := p) (c := c) (bs := rest) (i := i + 1) (m := 2)
        revert ih
        cases pos p (c + 1) rest 2 with
        | none =>
          rintro (z | ⟨F0, q, h1, h2⟩)
          · exact .inl (by rw [List.length_cons]; omega)
          · exact .inr ⟨_ :: F0, q, by rw [h1]; rfl, h2⟩
        | some r =>
          rintro ⟨F0, q, h1, h2, h3, h4⟩
          exact ⟨_ :: F0, q, by rw [h1]; rfl, by rw [List.length_cons, h2], h3, h4⟩
    · cases rest with
      | nil =>
        have e : parse p (c + 1) i [x] = [⟨i, i + 1, none, [x], []⟩] := by simp [parse, h]
        have e2 : pos p (c + 1) [x] m = none := by simp [pos, h]
        rw [e, e2]
        exact .inr ⟨[], _, rfl, rfl⟩
      | cons y rest =>
        have e : parse p (c + 1) i (x :: y :: rest) = ⟨i, i + 2, some (if x + y = p then 1 else 0), [x, y], rest⟩ :: parse p c (i + 2) rest := by simp [parse, h]
        have e2 : pos p (c + 1) (x :: y :: rest) m = pos p c rest (if x + y = p then 1 else 0) := by simp [pos, h]
        rw [e, e2]
        cases c with
        | zero => exact ⟨[], _, rfl, rfl, rfl, rfl⟩
        | succ c =>
          have ih := pos_parse (p := p) (c := c) (bs := rest) (i := i + 2) (m := if x + y = p then 1 else 0)
          revert ih
          cases pos p (c + 1) rest (if x + y = p then 1 else 0) with
          | none =>
            rintro (z | ⟨F0, q, h1, h2⟩)
            · exact .inl (by rw [List.length_cons]; omega)
            · exact .inr ⟨_ :: F0, q, by rw [h1]; rfl, h2⟩
          | some r =>
            rintro ⟨F0, q, h1, h2, h3, h4⟩
            exact ⟨_ :: F0, q, by rw [h1]; rfl, by rw [List.length_cons, h2], h3, h4⟩
def fullB (p : Int) (c : Nat) (bs : List Int) : Bool := match pos p c bs 0 with
  | none => false
  | some (bh, k) => decide (k ≤ bh.length)
theorem done_iff {p : Int} {c : Nat} {bs : List Int} (h : Vl p ((c + 1 : Nat) : Int) bs) : ((runL p ((c + 1 : Nat) : Int) bs).d ≤ ((c + 1 : Nat) : Int)) ∧ ((runL p ((c + 1 : Nat) : Int) bs).d = ((c + 1 : Nat) : Int) ↔ fullB p (c + 1) bs = true) := by
  have hr := rowF_run (i := 0) (by omega) h
  rw [← hr]
  have hp := pos_parse (p := p) (c := c) (bs := bs) (i := 0) (m := 0)
  have hl := parse_len (p := p) (c := c + 1) (bs := bs) (i := 0)
  unfold fullB
  revert hp
  cases pos p (c + 1) bs 0 with
  | none =>
    rintro (z | ⟨F0, q, h1, h2⟩)
    · generalize parse p (c + 1) 0 bs = F at z hl
      unfold rowF
      cases hF : F.getLast? with
      | none => exact ⟨by show (0 : Int) ≤ _; omega, ⟨fun z => by have : (0 : Int) = ((c + 1 : Nat) : Int) := z; omega, fun z => nomatch z⟩⟩
      | some q =>
        cases hq : q.r with
        | none =>
          simp only [hq]
          exact ⟨by omega, ⟨fun z => by omega, fun z => nomatch z⟩⟩
        | some k =>
          simp only [hq, if_neg (show ¬ F.length = c + 1 by omega), if_neg (show ¬ ((0 : Int) > 0) by decide)]
          exact ⟨by omega, ⟨fun z => by omega, fun z => nomatch z⟩⟩
    · rw [h1] at hl ⊢
      unfold rowF
      rw [List.getLast?_concat]
      simp only [h2, List.length_append, List.length_cons, List.length_nil]
      rw [List.length_append] at hl
      simp only [List.length_cons, List.length_nil] at hl
      exact ⟨by omega, ⟨fun z => by omega, fun z => nomatch z⟩⟩
  | some r =>
    obtain ⟨bh, k⟩ := r
    rintro ⟨F0, q, h1, h2, h3, h4⟩
    rw [h1]
    unfold rowF
    rw [List.getLast?_concat]
    have hn : (F0 ++ [q]).length = c + 1 := by rw [List.length_append, h2]; rfl
    simp only [h3, h4, hn, if_true, decide_eq_true_eq]
    by_cases z : (k : Int) - bh.length > 0
    · rw [if_pos z]
      exact ⟨by omega, ⟨fun w => by omega, fun w => by omega⟩⟩
    · rw [if_neg z]
      exact ⟨by omega, ⟨fun w => by omega, fun w => by omega⟩⟩
theorem tot_run {p : Int} {c i : Nat} {bs : List Int} (h : Vl p ((c + 1 : Nat) : Int) bs) : (runL p ((c + 1 : Nat) : Int) bs).t = ((parse p (c + 1) i bs).map fT).sum := by
  rw [← rowF_run (i := i) (by omega) h]
  generalize parse p (c + 1) i bs = F
  unfold rowF
  cases hF : F.getLast? with
  | none =>
    rw [List.getLast?_eq_none_iff.mp hF]
    rfl
  | some q =>
    cases hq : q.r with
    | none => simp only [hq]
    | some k => simp only [hq]
theorem len_open {p : Int} : ∀ {c : Nat} {bs : List Int} {m : Nat}, (∀ bh k, pos p (c + 1) bs m = some (bh, k) → bh.length < k) → bs.length ≤ 2 * (c + 1)
  | c, [], m, _ => by simp
  | c, x :: rest, m, h => by
    by_cases hx : x = p
    · have e2 : pos p (c + 1) (x :: rest) m = pos p c rest 2 := by simp [pos, hx]
      rw [e2] at h
      cases c with
      | zero =>
        have := h rest 2 rfl
        simp only [List.length_cons]
        omega
      | succ c =>
        have := len_open (p := p) (c := c) (bs := rest) (m := 2) h
        simp only [List.length_cons]
        omega
    · cases rest with
      | nil => simp only [List.length_cons, List.length_nil]; omega
      | cons y rest =>
        have e2 : pos p (c + 1) (x :: y :: rest) m = pos p c rest (if x + y = p then 1 else 0) := by simp [pos, hx]
        rw [e2] at h
        cases c with
        | zero =>
          have := h rest _ rfl
          simp only [List.length_cons]
          split at this <;> omega
        | succ c =>
          have := len_open (p := p) (c := c) (bs := rest) (m := if x + y = p then 1 else 0) h
          simp only [List.length_cons]
          omega
theorem len_run {p : Int} {c : Nat} {bs : List Int} (h : Vl p ((c + 1 : Nat) : Int) bs) (hd : (runL p ((c + 1 : Nat) : Int) bs).d < ((c + 1 : Nat) : Int)) : bs.length ≤ 2 * (c + 1) := by
  refine len_open (p := p) (m := 0) fun bh k e => ?_
  have := (done_iff h).2
  unfold fullB at this
  rw [e] at this
  simp only [decide_eq_true_eq] at this
  by_cases z : bh.length < k
  · exact z
  · have := this.mpr (by omega)
    omega
theorem len_all {p : Int} {c : Nat} {bs : List Int} (h : Vl p ((c + 1 : Nat) : Int) bs) : bs.length ≤ 2 * (c + 1) + 1 := by
  cases h with
  | nil => simp
  | snoc h1 h2 h3 h4 =>
    have := len_run h1 h2
    rw [List.length_append]
    simp only [List.length_cons, List.length_nil]
    omega
theorem up_run {p f : Int} (hp : 0 ≤ p) {bs : List Int} (h : Vl p f bs) : Up p (runL p f bs) := by
  induction h with
  | nil => exact ⟨hp, Int.le_refl _⟩
  | snoc h1 h2 h3 h4 ih =>
    rw [runL_app]
    exact up_ball hp ih h3 h4
theorem balls_le {p f : Int} (hp : 0 ≤ p) {bs : List Int} (h : Vl p f bs) : ∀ b ∈ bs, 0 ≤ b ∧ b ≤ p := by
  induction h with
  | nil => intro b hb; cases hb
  | snoc h1 h2 h3 h4 ih =>
    intro b hb
    rcases List.mem_append.mp hb with z | z
    · exact ih b z
    · rw [List.mem_singleton.mp z]
      have := (up_run hp h1).2
      exact ⟨h3, by omega⟩
theorem sum_le {p : Int} : ∀ {l : List Int} {n : Nat}, (∀ b ∈ l, 0 ≤ b ∧ b ≤ p) → l.length ≤ n → 0 ≤ p → l.sum ≤ n * p
  | [], n, _, _, hp => by simp; exact Int.mul_nonneg (by omega) hp
  | b :: l, n, h, hn, hp => by
    obtain ⟨n, rfl⟩ : ∃ m, n = m + 1 := ⟨n - 1, by simp at hn; omega⟩
    have h1 := sum_le (l := l) (n := n) (fun x hx => h x (List.mem_cons_of_mem _ hx)) (by simp at hn; omega) hp
    have h2 := (h b (List.mem_cons_self ..)).2
    rw [List.sum_cons]
    have : ((n + 1 : Nat) : Int) * p = n * p + p := by rw [Int.natCast_add, Int.add_mul]; simp
    omega
theorem tot_le {p : Int} (hp : 0 ≤ p) : ∀ {c : Nat} {bs : List Int} {i : Nat}, (∀ b ∈ bs, 0 ≤ b ∧ b ≤ p) → ((parse p c i bs).map fT).sum ≤ 3 * p * c
  | 0, _, _, _ => by simp [parse]
  | c + 1, [], i, _ => by
    simp only [parse, List.map_nil, List.sum_nil]
    exact Int.mul_nonneg (by omega) (by omega)
  | c + 1, x :: rest, i, h => by
    have hx := h x (List.mem_cons_self ..)
    have e3 : 3 * p * ((c + 1 : Nat) : Int) = 3 * p * c + 3 * p := by rw [Int.natCast_add, Int.mul_add]; simp
    by_cases hxp : x = p
    · have e : parse p (c + 1) i (x :: rest) = ⟨i, i + 1, some 2, [x], rest⟩ :: parse p c (i + 1) rest := by simp [parse, hxp]
      have ih := tot_le hp (c := c) (bs := rest) (i := i + 1) fun b hb => h b (List.mem_cons_of_mem _ hb)
      have h2 := sum_le (l := rest.take 2) (n := 2) (fun b hb => h b (List.mem_cons_of_mem _ (List.mem_of_mem_take hb))) (by rw [List.length_take]; omega) hp
      rw [e, List.map_cons, List.sum_cons, e3]
      have : fT ⟨i, i + 1, some 2, [x], rest⟩ = x + (rest.take 2).sum := by simp [fT]
      omega
    · cases rest with
      | nil =>
        have e : parse p (c + 1) i [x] = [⟨i, i + 1, none, [x], []⟩] := by simp [parse, hxp]
        rw [e, e3]
        have : 0 ≤ 3 * p * (c : Int) := Int.mul_nonneg (by omega) (by omega)
        simp [fT]
        omega
      | cons y rest =>
        have hy := h y (List.mem_cons_of_mem _ (List.mem_cons_self ..))
        have hr : ∀ b ∈ rest, 0 ≤ b ∧ b ≤ p := fun b hb => h b (List.mem_cons_of_mem _ (List.mem_cons_of_mem _ hb))
        have e : parse p (c + 1) i (x :: y :: rest) = ⟨i, i + 2, some (if x + y = p then 1 else 0), [x, y], rest⟩ :: parse p c (i + 2) rest := by simp [parse, hxp]
        have ih := tot_le hp (c := c) (bs := rest) (i := i + 2) hr
        have h2 := sum_le (l := rest.take (if x + y = p then 1 else 0)) (n := 1) (fun b hb => hr b (List.mem_of_mem_take hb)) (by rw [List.length_take]; split <;> omega) hp
        rw [e, List.map_cons, List.sum_cons, e3]
        have : fT ⟨i, i + 2, some (if x + y = p then 1 else 0), [x, y], rest⟩ = x + y + (rest.take (if x + y = p then 1 else 0)).sum := by simp [fT]
        rw [show ((1 : Nat) : Int) * p = p by simp] at h2
        omega
end M
namespace M
open PySem
structure Th where
  nm : Str
  wo : Int
  en : Bool
structure Sn where
  cs : List Int
  sd : Nat
  tn : Int
  hd : Int
def encT (t : Th) : PyData := .tuple [.str t.nm, .int t.wo, .bool t.en]
def encI (cs : List Int) : PyData := .tuple (cs.map PyData.int)
def encSn (s : Sn) : PyData := .tuple [encI s.cs, .int s.sd, .int s.tn, .int s.hd]
def encThr (s : Sn) (b : Bool) : PyData := .tuple [encSn s, .bool b]
def turnE (cs : List Int) (sd : Nat) : Sn := ⟨cs, (sd + 1) % cs.length, 0, cs.getD ((sd + 1) % cs.length) 0⟩
def throwD (turn : Int) (s : Sn) (th : Th) : Sn × Bool :=
  if s.cs.getD s.sd 0 - th.wo = 0 ∧ th.en = true then (⟨s.cs.set s.sd 0, s.sd, s.tn + 1, s.hd⟩, true)
  else if s.cs.getD s.sd 0 - th.wo ≤ 0 then (turnE (s.cs.set s.sd s.hd) s.sd, false)
  else if s.tn + 1 = turn then (turnE (s.cs.set s.sd (s.cs.getD s.sd 0 - th.wo)) s.sd, false)
  else (⟨s.cs.set s.sd (s.cs.getD s.sd 0 - th.wo), s.sd, s.tn + 1, s.hd⟩, false)
structure SnOk (n : Nat) (turn : Int) (s : Sn) : Prop where
  len : s.cs.length = n
  sd : s.sd < n
  t0 : 0 ≤ s.tn
  t1 : s.tn < turn
def begD (n : Nat) (b : Int) : Sn := ⟨List.replicate n b, 0, 0, b⟩
end M
namespace L2
open PySem PySem.Spec PyProof.Rows M
def Tk (K : PySem.W.Frag) (H H' : Hp) : Prop := ∀ a xs, SqT K H a xs → SqT K H' a xs
theorem Tk.refl {K : PySem.W.Frag} (H : Hp) : Tk K H H := fun _ _ h => h
theorem Tk.trans {K : PySem.W.Frag} {H H1 H2 : Hp} (a : Tk K H H1) (b : Tk K H1 H2) : Tk K H H2 := fun c xs h => b c xs (a c xs h)
theorem Ext.tk {K : PySem.W.Frag} {t : Addr} {H H' : Hp} (e : Ext t H H') : Tk K H H' := fun _ _ h => e.sqT h
theorem Same.tk {K : PySem.W.Frag} {H H' : Hp} (e : Same H H') : Tk K H H' := (Same.ext (t := 0) e).tk
theorem Tk.upd {K : PySem.W.Frag} {H : Hp} {a : Addr} {o : HO} (h : ∀ xs, ¬ Rd H a (.tup xs)) : Tk K H (upd H a o) := fun b xs q => by
  by_cases e : b = a
  · subst e
    rcases q with q | q
    · exact absurd q (h xs)
    · exact .inr q
  · rcases q with (q | ⟨u, q⟩) | q
    · exact .inl (.inl (by rw [upd_ne e]; exact q))
    · exact .inl (.inr ⟨u, by rw [upd_ne e]; exact q⟩)
    · exact .inr q
theorem Tk.updL {K : PySem.W.Frag} {H : Hp} {a : Addr} {ys : List V} {o : HO} (h : H a = some (.lst ys)) : Tk K H (L2.upd H a o) := Tk.upd fun xs q => by
  rcases q with q | ⟨u, q⟩
  · rw [h] at q; cases q
  · rw [h] at q; cases q
theorem Tk.new {K : PySem.W.Frag} {H : Hp} {a : Addr} {o : HO} (h : H a = none) : Tk K H (L2.upd H a o) := Tk.upd fun xs q => by
  rcases q with q | ⟨u, q⟩
  · rw [h] at q; cases q
  · rw [h] at q; cases q
mutual
def noL : PyData → Bool
  | .list _ => false
  | .dict _ => false
  | .tuple ds => noLs ds
  | _ => true
def noLs : List PyData → Bool
  | [] => true
  | d :: ds => noL d && noLs ds
end
mutual
theorem Dt.tk {K : PySem.W.Frag} {t t' : Addr} {H H' : Hp} (e : Tk K H H') : ∀ (d : PyData) (v : V), noL d = true → Dt K t H d v → Dt K t' H' d v
  | .none, _, _, h => by simp only [Dt] at h ⊢; exact h
  | .bool _, _, _, h => by simp only [Dt] at h ⊢; exact h
  | .int _, _, _, h => by simp only [Dt] at h ⊢; exact h
  | .str _, _, _, h => by simp only [Dt] at h ⊢; exact h
  | .tuple ds, v, n, h => by
    simp only [noL] at n
    simp only [Dt] at h ⊢
    obtain ⟨a, xs, h1, h2, h3⟩ := h
    exact ⟨a, xs, h1, e _ _ h2, DtL.tk e ds xs n h3⟩
  | .list ds, v, n, h => by simp [noL] at n
  | .dict _, _, n, h => by simp [noL] at n
theorem DtL.tk {K : PySem.W.Frag} {t t' : Addr} {H H' : Hp} (e : Tk K H H') : ∀ (ds : List PyData) (vs : List V), noLs ds = true → DtL K t H ds vs → DtL K t' H' ds vs
  | [], _, _, h => by simp only [DtL] at h ⊢; exact h
  | d :: ds, vs, n, h => by
    simp only [noLs, Bool.and_eq_true] at n
    simp only [DtL] at h ⊢
    obtain ⟨v, r, h1, h2, h3⟩ := h
    exact ⟨v, r, h1, Dt.tk e d v n.1 h2, DtL.tk e ds r n.2 h3⟩
end
theorem noL_cap (c : Option Int) : noL (capD c) = true := by cases c <;> rfl
theorem noL_enc : ∀ r : Rl, noL (enc r) = true
  | .pt => rfl
  | .un to lead cap i => by simp only [enc, noL, noLs, noL_enc i, noL_cap]; rfl
  | .ul to lead cap i l => by simp only [enc, noL, noLs, noL_enc i, noL_enc l]; rfl
theorem noLs_enc : ∀ rs : List Rl, noLs (rs.map enc) = true
  | [] => rfl
  | r :: rs => by simp only [List.map_cons, noLs, noL_enc r, noLs_enc rs]; rfl
def RlV (K : PySem.W.Frag) (H : Hp) (r : Rl) (v : V) : Prop := Dt K 0 H (enc r) v
def RlL (K : PySem.W.Frag) (H : Hp) (rs : List Rl) (vs : List V) : Prop := DtL K 0 H (rs.map enc) vs
section
variable {K : PySem.W.Frag} {H H' : Hp} {r : Rl} {rs qs : List Rl} {v : V} {vs us : List V} {t : Addr}
theorem RlV.of (h : Dt K t H (enc r) v) : RlV K H r v := Dt.tk (.refl H) _ _ (noL_enc r) h
theorem RlV.dt (h : RlV K H r v) : Dt K t H (enc r) v := Dt.tk (.refl H) _ _ (noL_enc r) h
theorem RlV.tk (h : RlV K H r v) (e : Tk K H H') : RlV K H' r v := Dt.tk e _ _ (noL_enc r) h
theorem RlV.same (h : RlV K H r v) (e : Same H H') : RlV K H' r v := h.tk e.tk
theorem RlL.of (h : DtL K t H (rs.map enc) vs) : RlL K H rs vs := DtL.tk (.refl H) _ _ (noLs_enc rs) h
theorem RlL.dt (h : RlL K H rs vs) : DtL K t H (rs.map enc) vs := DtL.tk (.refl H) _ _ (noLs_enc rs) h
theorem RlL.tk (h : RlL K H rs vs) (e : Tk K H H') : RlL K H' rs vs := DtL.tk e _ _ (noLs_enc rs) h
theorem RlL.same (h : RlL K H rs vs) (e : Same H H') : RlL K H' rs vs := h.tk e.tk
theorem RlL.nil : RlL K H [] [] := by simp [RlL, DtL]
theorem RlL.one (h : RlV K H r v) : RlL K H [r] [v] := by
  simp only [RlL, List.map_cons, List.map_nil, DtL]
  exact ⟨v, [], rfl, h, rfl⟩
theorem RlL.len (h : RlL K H rs vs) : rs.length = vs.length := by
  have := DtL.len h
  rwa [List.length_map] at this
theorem RlL.get {i : Nat} (h : RlL K H rs vs) (e : vs[i]? = some v) : ∃ r, rs[i]? = some r ∧ RlV K H r v := by
  have hi : i < rs.length := by rw [h.len]; exact (List.getElem?_eq_some_iff.mp e).1
  have e1 : rs[i]? = some rs[i] := List.getElem?_eq_getElem hi
  obtain ⟨u, e2, d⟩ := DtL.get (i := i) h (by rw [List.getElem?_map, e1]; rfl)
  rw [e] at e2
  cases e2
  exact ⟨_, e1, d⟩
theorem RlL.mem (h : RlL K H rs vs) (e : v ∈ vs) : ∃ r, r ∈ rs ∧ RlV K H r v := by
  obtain ⟨i, hi⟩ := List.mem_iff_getElem?.mp e
  obtain ⟨r, e1, d⟩ := h.get hi
  exact ⟨r, List.mem_of_getElem? e1, d⟩
end
def plainComp (N : List Str) (x : Str) (scope : Scope) : Bool :=
  decide (scope.kind = .function) && scope.names.all (fun p => decide (p.2 = .local) || decide (p.2 = .globalImplicit))
    && scope.names.all (fun p => !decide (p.2 = .local) || decide (scope.names.lookup p.1 = some .local))
    && decide (scope.names.lookup x = some .local) && decide ((x :: N).Nodup)
    && N.all (fun y => decide (scope.names.lookup y = none) || decide (scope.names.lookup y = some .globalImplicit))
theorem relabel_plain {scope : Scope} {env : Env} (h : ∀ p ∈ scope.names, p.2 ≠ .free) : (relabel scope env).names = scope.names := by
  unfold relabel
  show scope.names.map _ = _
  have : ∀ l : List (Str × NameKind), (∀ p ∈ l, p.2 ≠ .free) → l.map (fun (n, k) => if (k == .free && env.scope.kind == .function && env.kindOf n == some .cell) then (n, NameKind.cell) else (n, k)) = l := by
    intro l
    induction l with
    | nil => intro _; rfl
    | cons p l ih =>
      intro hl
      obtain ⟨n, k⟩ := p
      have hk : k ≠ .free := hl _ (List.mem_cons_self ..)
      rw [List.map_cons, ih fun p hp => hl p (List.mem_cons_of_mem _ hp)]
      have : (k == NameKind.free) = false := by simpa using hk
      simp [this]
  exact this _ h
theorem compPlain {X : Cx} {N : List Str} {x : Str} {scope : Scope} (hN : X.N = N) (h : plainComp N x scope = true) (hc : closureFor scope X.env = pure []) : CompScope X (x :: N) x scope [] := by
  simp only [plainComp, Bool.and_eq_true, decide_eq_true_eq, List.all_eq_true, Bool.or_eq_true, Bool.not_eq_true', decide_eq_false_iff_not] at h
  obtain ⟨⟨⟨⟨⟨h1, h2⟩, h3⟩, h4⟩, h5⟩, h6⟩ := h
  have nf : ∀ p ∈ scope.names, p.2 ≠ .free := fun p hp z => by rcases h2 p hp with e | e <;> rw [z] at e <;> cases e
  have rl := relabel_plain (env := X.env) nf
  have lk : ∀ (l : List (Str × NameKind)), (∀ p ∈ l, p.2 = .local ∨ p.2 = .globalImplicit) → ∀ y k, l.lookup y = some k → k = .local ∨ k = .globalImplicit := by
    intro l
    induction l with
    | nil => intro _ y k e; cases e
    | cons p l ih =>
      intro hl y k e
      obtain ⟨n, kk⟩ := p
      rw [List.lookup_cons] at e
      split at e
      · cases e; exact hl _ (List.mem_cons_self ..)
      · exact ih (fun p hp => hl p (List.mem_cons_of_mem _ hp)) y k e
  refine ⟨hc, fun y hy z => ?_, h1, fun y hy e => ?_, h4, h5, rfl, by rw [hN]; rfl, fun j y e v => ?_, fun y c e => (by cases e), fun y e => ?_, rfl⟩
  · rcases h2 y hy with e | e <;> rw [z] at e <;> cases e
  · rcases h3 y hy with q | q
    · exact absurd e q
    · exact q
  · exfalso
    have hy : y ∈ N := List.mem_of_getElem? (by simpa using e)
    have q := h6 y hy
    unfold Vis at v
    rw [rl] at v
    rcases q with q | q <;> rw [q] at v <;> rcases v with v | v | v <;> cases v
  · exfalso
    rw [rl] at e
    rcases e with e | e <;> rcases lk _ h2 y _ e with z | z <;> cases z
def capComp (N fr : List Str) (x : Str) (scope osc : Scope) : Bool :=
  decide (scope.kind = .function) && decide (osc.kind = .function)
    && scope.names.all (fun p => decide (p.2 = .local) || decide (p.2 = .globalImplicit) || (decide (p.2 = .free) && decide (p.1 ∈ fr) && decide (osc.names.lookup p.1 = some .cell)))
    && scope.names.all (fun p => !decide (p.2 = .local) || decide (scope.names.lookup p.1 = some .local))
    && decide (scope.names.lookup x = some .local) && decide ((x :: N).Nodup) && decide (x ∉ fr)
    && N.all (fun y => !decide (scope.names.lookup y = some .local))
theorem relabel_lookup {scope : Scope} {env : Env} (y : Str) : (relabel scope env).names.lookup y = (scope.names.lookup y).map fun k => if (k == NameKind.free && env.scope.kind == .function && env.kindOf y == some .cell) = true then NameKind.cell else k := by
  unfold relabel
  show List.lookup y (scope.names.map _) = _
  induction scope.names with
  | nil => rfl
  | cons p l ih =>
    obtain ⟨n, k⟩ := p
    by_cases e : y = n
    · subst e
      have h1 : (y == y) = true := beq_self_eq_true y
      rw [List.map_cons, List.lookup_cons, List.lookup_cons, h1]
      by_cases c : (k == NameKind.free && env.scope.kind == .function && env.kindOf y == some .cell) = true
      · rw [if_pos c]; simp only [h1, Option.map_some]; rw [if_pos c]
      · rw [if_neg c]; simp only [h1, Option.map_some]; rw [if_neg c]
    · have h1 : (y == n) = false := beq_eq_false_iff_ne.mpr e
      rw [List.map_cons, List.lookup_cons, List.lookup_cons, h1]
      by_cases c : (k == NameKind.free && env.scope.kind == .function && env.kindOf n == some .cell) = true
      · rw [if_pos c]; simp only [h1]; exact ih
      · rw [if_neg c]; simp only [h1]; exact ih
theorem lookup_mem {α : Type} : ∀ {l : List (Str × α)} {y : Str} {c : α}, l.lookup y = some c → (y, c) ∈ l
  | [], _, _, h => by cases h
  | (n, k) :: l, y, c, h => by
    rw [List.lookup_cons] at h
    split at h
    · rename_i e
      cases h
      have : y = n := by simpa using e
      subst this
      exact List.mem_cons_self ..
    · exact List.mem_cons_of_mem _ (lookup_mem h)
theorem mem_lookup {α : Type} : ∀ {l : List (Str × α)} {y : Str}, y ∈ l.map (·.1) → ∃ c, l.lookup y = some c
  | [], _, h => by simp at h
  | (n, k) :: l, y, h => by
    rw [List.lookup_cons]
    split
    · exact ⟨k, rfl⟩
    · rename_i e
      have : y ≠ n := by simpa using e
      simp only [List.map_cons, List.mem_cons] at h
      rcases h with h | h
      · exact absurd h this
      · exact mem_lookup h
theorem compCap {X : Cx} {N fr : List Str} {x : Str} {scope osc : Scope} {cl : List (Str × Addr)} (hN : X.N = N) (ho : X.env.scope = osc) (h : capComp N fr x scope osc = true) (hc : closureFor scope X.env = pure cl)
    (hf : cl.map (·.1) = fr) (hcl : ∀ p ∈ cl, X.env.cells.lookup p.1 = some p.2) : CompScope X (x :: N) x scope cl := by
  simp only [capComp, Bool.and_eq_true, decide_eq_true_eq, List.all_eq_true, Bool.or_eq_true, Bool.not_eq_true', decide_eq_false_iff_not] at h
  obtain ⟨⟨⟨⟨⟨⟨⟨h1, h0⟩, h2⟩, h3⟩, h4⟩, h5⟩, h7⟩, h6⟩ := h
  subst ho
  have rl := relabel_lookup (scope := scope) (env := X.env)
  have fr_of : ∀ y, scope.names.lookup y = some .free → y ∈ fr ∧ X.env.kindOf y = some .cell := fun y e => by
    rcases h2 _ (lookup_mem e) with (z | z) | z
    · cases z
    · cases z
    · exact ⟨z.1.2, z.2⟩
  have vis : ∀ y k, (relabel scope X.env).names.lookup y = some k → (k = .local ∧ scope.names.lookup y = some .local) ∨ (k = .globalImplicit) ∨ (k = .cell ∧ scope.names.lookup y = some .free) := fun y k e => by
    rw [rl y] at e
    cases e0 : scope.names.lookup y with
    | none => rw [e0] at e; cases e
    | some k0 =>
      rw [e0] at e
      simp only [Option.map_some, Option.some.injEq] at e
      rcases h2 _ (lookup_mem e0) with (z | z) | z
      · have z' : k0 = .local := z
        subst z'
        left
        exact ⟨by rw [← e]; rfl, rfl⟩
      · have z' : k0 = .globalImplicit := z
        subst z'
        right; left
        rw [← e]; rfl
      · have z' : k0 = .free := z.1.1
        subst z'
        right; right
        refine ⟨?_, rfl⟩
        rw [← e, if_pos]
        have hk : X.env.kindOf y = some .cell := z.2
        rw [hk, h0]
        rfl
  refine ⟨hc, fun y hy z => ?_, h1, fun y hy e => ?_, h4, h5, rfl, by rw [hN]; rfl, fun j y e v => ?_, fun y c e => hcl _ (lookup_mem e), fun y e => ?_, ?_⟩
  · rcases h2 y hy with (e | e) | e
    · rw [z] at e; cases e
    · rw [z] at e; cases e
    · rw [z] at e; cases e.1.1
  · rcases h3 y hy with q | q
    · exact absurd e q
    · exact q
  · have e' : N[j]? = some y := by simpa using e
    have hy : y ∈ N := List.mem_of_getElem? e'
    have key : scope.names.lookup y = some .free ∧ (relabel scope X.env).names.lookup y = some .cell := by
      rcases v with v | v | v <;> rcases vis y _ v with z | z | z
      · exact absurd z.2 (h6 y hy)
      · cases z
      · cases z.1
      · cases z.1
      · cases z
      · exact ⟨z.2, v⟩
      · cases z.1
      · cases z
      · cases z.1
    obtain ⟨k1, k2⟩ := key
    obtain ⟨f1, f2⟩ := fr_of y k1
    obtain ⟨c, hcc⟩ := mem_lookup (l := cl) (y := y) (by rw [hf]; exact f1)
    exact ⟨by rw [hN]; exact e', f2, .inr (.inl f2), .inl k2, hcc.trans (hcl _ (lookup_mem hcc)).symm⟩
  · have : scope.names.lookup y = some .free := by
      rcases e with e | e <;> rcases vis y _ e with z | z | z
      · cases z.1
      · cases z
      · exact z.2
      · cases z.1
      · cases z
      · cases z.1
    exact mem_lookup (by rw [hf]; exact (fr_of y this).1)
  · cases e : cl.lookup x with
    | none => rfl
    | some c => exact absurd (by rw [← hf]; exact List.mem_map_of_mem (lookup_mem e)) h7
end L2
namespace L2
open PySem PySem.Spec PyProof.Rows M
section
variable (K : PySem.W.Frag) (ns : List Int)
def spTape : Sp := fun vs H Q _ => ∃ a, vs = [.ref a] ∧ SqL K H a (ns.map V.int) ∧ ∀ t H', Tape K ns t H' → Q (.ref t) H'
def spDraw : Sp := fun vs H Q _ => ∃ t m, vs = [.ref t, .int m] ∧ 0 < m ∧ m < 1073741824 ∧ Tape K ns t H ∧ ∀ (r : Int) (H' : Hp), 0 ≤ r → r < m → Cur K ns t H H' → Q (.int r) H'
def spRule (n : Nat) : Sp := fun vs H Q _ => ∃ t dp th, vs = [.ref t, .int dp, .int th] ∧ 0 ≤ dp ∧ dp < n ∧ 0 ≤ th ∧ Tape K ns t H ∧ ∀ rl r H', ok rl → depth rl ≤ dp.toNat → size rl ≤ U dp.toNat th.toNat → Cur K ns t H H' → Dt K t H' (enc rl) r → Q r H'
def spUnit (n : Nat) : Sp := fun vs H Q _ => ∃ t dp th, vs = [.ref t, .int dp, .int th] ∧ 0 < dp ∧ dp < n ∧ 0 ≤ th ∧ Tape K ns t H ∧ ∀ rl r H', ok rl → depth rl ≤ dp.toNat → size rl ≤ U dp.toNat th.toNat → Cur K ns t H H' → Dt K t H' (enc rl) r → Q r H'
def spAny : Sp := fun vs H Q _ => ∃ t, vs = [.ref t] ∧ Tape K ns t H ∧ ∀ rl r H', ok rl → depth rl ≤ 4 → size rl ≤ 7 → Cur K ns t H H' → Dt K t H' (enc rl) r → Q r H'
def spLaw : Sp := fun vs H Q _ => ∃ (a : Addr) (ns : List Int), vs = [.ref a] ∧ SqL K H a (ns.map V.int) ∧ ns.length ≤ 63 ∧ ∀ H', Q (.bl true) H'
end
section
variable {K : PySem.W.Frag} {ns : List Int} {t : Addr} {H : Hp} {Q : VK} {E : XK}
end
theorem at0 {ns : List Int} (h : 0 < (ns.map V.int).length) : ∃ n : Int, atI (ns.map V.int) 0 = some (.int n) := by
  cases ns with
  | nil => simp at h
  | cons n r => exact ⟨n, atI_nat (j := 0) rfl⟩
theorem atMod {ns : List Int} (i : Int) (h : 0 < (ns.map V.int).length) : ∃ n : Int, atI (ns.map V.int) (i % ((ns.map V.int).length : Nat)) = some (.int n) := by
  have h1 := Int.emod_nonneg i (show (((ns.map V.int).length : Nat) : Int) ≠ 0 by omega)
  have h2 := Int.emod_lt_of_pos i (show (0 : Int) < ((ns.map V.int).length : Nat) by omega)
  generalize i % (((ns.map V.int).length : Nat) : Int) = j at h1 h2
  rw [List.length_map] at h2
  have hj : j.toNat < ns.length := by omega
  have e : (ns.map V.int)[j.toNat]? = some (.int ns[j.toNat]) := by rw [List.getElem?_map, List.getElem?_eq_getElem hj]; rfl
  have z := atI_nat e
  rw [show ((j.toNat : Nat) : Int) = j by omega] at z
  exact ⟨_, z⟩
theorem small6 {xs : List V} (h : xs.length ≤ 1000) : xs.length ≤ sizeLine := Nat.le_of_lt (small1000 h)
theorem smallA {xs ys : List V} (h : xs.length + ys.length ≤ 1000) : xs.length + ys.length ≤ sizeLine := Nat.le_of_lt (small1000 h)
theorem cmul_l {i j : Int} (h1 : -1000000 ≤ i) (h2 : i ≤ 10000000) : CMul i j := .inl ⟨by omega, by omega⟩
theorem dt_non {K : PySem.W.Frag} {t : Addr} {H : Hp} {d : PyData} {v : V} (h : Dt K t H d v) : decide (v = .non) = isN d := by
  cases d with
  | none => simp only [Dt] at h; subst h; rfl
  | bool b => simp only [Dt] at h; subst h; rfl
  | int b => simp only [Dt] at h; subst h; rfl
  | str b => simp only [Dt] at h; obtain ⟨h, _⟩ := h; subst h; rfl
  | tuple b => simp only [Dt] at h; obtain ⟨_, _, h, _⟩ := h; subst h; rfl
  | list b => simp only [Dt] at h; obtain ⟨_, _, h, _⟩ := h; subst h; rfl
  | dict b => simp [Dt] at h
theorem same_new {H : Hp} {p : Addr} (h : H p = none) (o : HO) : Same H (upd H p o) := fun b u q => by rw [upd_ne (ne_of_none q h)]; exact q
theorem Same.dt {K : PySem.W.Frag} {t : Addr} {H H' : Hp} {d : PyData} {v : V} (h : Dt K t H d v) (e : Same H H') : Dt K t H' d v := h.on e.ext
theorem Same.sqT {K : PySem.W.Frag} {H H' : Hp} {a : Addr} {xs : List V} (h : SqT K H a xs) (e : Same H H') : SqT K H' a xs := (Same.ext (t := 0) e).sqT h
theorem atMem {xs : List V} {i : Int} (h0 : 0 ≤ i) (h1 : i < xs.length) : ∃ v, atI xs i = some v ∧ v ∈ xs := by
  have hi : i.toNat < xs.length := by omega
  have z := atI_nat (List.getElem?_eq_getElem hi)
  rw [show ((i.toNat : Nat) : Int) = i by omega] at z
  exact ⟨_, z, List.getElem_mem hi⟩
def optI : Option Int → V
  | none => .non
  | some c => .int c
section
variable {X : Cx} {K : PySem.W.Frag} {k : Nat}
theorem ixK_tup (h : X.K = K) : IxR X (rIxT K) := h ▸ ix_tup
theorem ixK_list (h : X.K = K) : IxR X (rIxL K) := h ▸ ix_list
theorem ixK_seq (h : X.K = K) : IxR X (rIx K) := h ▸ ix_seq
end
end L2
namespace L2
open PySem PySem.Spec PyProof.Rows
def rLeS : R2 := fun x y H Q => ∃ a b, x = .str a ∧ y = .str b ∧ Q (.bl (!decide (b.cps.toList < a.cps.toList))) H
def strVs (us : List Value) : List (Str × Tok) := us.map fun u => match u with | .str x t => (x, t) | _ => (Str.empty, 0)
def rJoin (K : PySem.W.Frag) : V → List V → Hp → VK → Prop := fun x vs H Q => ∃ sep l ws, x = .str sep ∧ vs = [.ref l] ∧ SqL K H l (ws.map V.str) ∧ JoinOk sep ws = true ∧ Q (.str (Txt.join sep ws)) H
def rSplit : V → List V → Hp → VK → Prop := fun x vs H Q => ∃ a b, x = .str a ∧ vs = [.str b] ∧ (b.length == 0) = false ∧ a.length + 2 ≤ sizeLine ∧ ∀ l, H l = none → Q (.ref l) (upd H l (.lst ((Txt.split a b).map V.str)))
def rAllB (K : PySem.W.Frag) : List V → Hp → VK → Prop := fun xs H Q => ∃ (l : Addr) (bs : List Bool), xs = [.ref l] ∧ SqL K H l (bs.map V.bl) ∧ Q (.bl (bs.all id)) H
theorem vals_bools : ∀ {bs : List Bool} {us : List Value}, Vals (bs.map V.bl) us → us = bs.map Value.bool
  | [], us, r => by cases r; rfl
  | b :: bs, us, r => by
    cases r with
    | cons r1 r2 =>
      cases r1
      rw [vals_bools r2]
      rfl
theorem call_allB {X : Cx} (hc : X.calm = true) : CallR X (.builtin "all") (rAllB X.K) := by
  intro pins s σ H xs us Q I r h
  obtain ⟨l, bs, rfl, hl, q⟩ := h
  obtain ⟨u, rfl, ru⟩ := vals1 r
  cases ru
  obtain ⟨its, rv, pl, hz⟩ := I.list hl
  have e := vals_bools rv
  subst e
  have hI := pl.isList
  have hlt : l < s.heap.objs.size := by obtain ⟨_, e, _⟩ := hI; exact Heap.lt_size e
  refine call_all_walk (wpAny_pyIter_list hI ?_)
  refine ⟨s.heap.objs.size, [s.heap.objs.size, l], [s.heap.objs.size], (bs.map Value.bool).toArray.size, _, _, fun i => (bs[i]?).getD true, rfl, Walks.list (A := X.A.in1) (I.ok.hd hc) _ l (Nat.ne_of_lt hlt) (bs.map Value.bool).toArray,
    ⟨⟨_, Heap.get?_push_size _ rfl, rfl, rfl⟩, hI.push _⟩, fun i v s' Q' E' hP hQ => ?_, fun h' tk hk => ?_⟩
  · have hP' : (bs.map Value.bool)[i]? = some v := by simpa using hP
    rw [List.getElem?_map] at hP'
    cases e : bs[i]? with
    | none => rw [e] at hP'; cases hP'
    | some b =>
      rw [e] at hP'
      cases hP'
      simp only [e, Option.getD_some] at hQ
      exact wpAny_truthy_bool hQ
  · have e : ((List.range (bs.map Value.bool).toArray.size).all fun i => (bs[i]?).getD true) = bs.all id := by
      rw [List.size_toArray, List.length_map]
      exact PyProof.Rows.LSm.range_all bs
    rw [e]
    refine ⟨.bl _, H, I.kept (t' := tk) (fun b o q => hk b o (fun hm => ?_) (Heap.get?_push_of_some _ q)), rfl, q⟩
    rw [List.mem_singleton.mp hm] at q
    exact Nat.lt_irrefl _ (Heap.lt_size q)
def rIntT : List V → Hp → VK → Prop := fun xs H Q => ∃ x n, xs = [.str x] ∧ PySem.intText? x = some n ∧ x.length ≤ 640 ∧ Q (.int n) H
def Its (x : Str) : It := ⟨fun i _ => i < x.cps.size, fun i H v H' => H' = H ∧ ∃ c, x.cps[i]? = some c ∧ v = .str ⟨#[c]⟩, fun i _ => x.cps.size ≤ i⟩
def iStr (tl : TE) : TI := fun σ H R => tl σ H fun v H1 => ∃ x, v = .str x ∧ x.cps.all (· < 128) = true ∧ R (Its x) H1
def rStrI : List V → Hp → VK → Prop := fun xs H Q => ∃ i, xs = [.int i] ∧ i.natAbs.log2 < 1920 ∧ Q (.str (M.numS i)) H
theorem bt_all : bootBuiltins "all" = some (.builtin "all") := by decide +kernel
end L2
namespace M
open PySem
def encS : Sd → PyData
  | .nil => .tuple []
  | .cn z o w => .tuple [.int z, .int o, encS w]
def lastE : Option Rl → PyData
  | none => .none
  | some l => enc l
def sideI : Bool → Int
  | true => 1
  | false => 0
mutual
def fl (bb : Bool) : PyData → Bool
  | .int _ => true
  | .bool _ => bb
  | .tuple ds => decide (ds.length ≤ 100) && fls bb ds
  | _ => false
def fls (bb : Bool) : List PyData → Bool
  | [] => true
  | d :: ds => fl bb d && fls bb ds
end
def lenS : Sd → Nat
  | .nil => 0
  | .cn _ _ w => lenS w + 1
def wk (rl : Rl) (row : List Bool) (k : Nat) : Sd := (walk rl 0 (begn rl) (row.take k)).sd
def wks (rl : Rl) (row : List Bool) (n : Nat) : List Sd := (List.range n).map (wk rl row)
end M
namespace L2
open PySem PySem.Spec PyProof.Rows M
theorem noL_encS : ∀ s : Sd, noL (encS s) = true
  | .nil => rfl
  | .cn z o w => by simp only [encS, noL, noLs, noL_encS w]; rfl
def LastE (K : PySem.W.Frag) (H : Hp) : Option Rl → V → Prop
  | none, v => v = .non
  | some l, v => RlV K H l v
theorem LastE.tk {K : PySem.W.Frag} {H H' : Hp} {l : Option Rl} {v : V} (h : LastE K H l v) (e : Tk K H H') : LastE K H' l v := by
  cases l with
  | none => exact h
  | some l => exact RlV.tk (H := H) h e
theorem LastE.is {K : PySem.W.Frag} {H : Hp} {l : Option Rl} {v : V} (h : LastE K H l v) : decide (v = .non) = l.isNone := by
  cases l with
  | none => rw [show v = .non from h]; rfl
  | some l =>
    have := dt_non (show Dt K 0 H (enc l) v from h)
    rw [isN_enc] at this
    exact this
def StV (K : PySem.W.Frag) (H : Hp) (s : Sd) (v : V) : Prop := Dt K 0 H (encS s) v
section
variable {K : PySem.W.Frag} {H H' : Hp} {s w : Sd} {z o : Int} {v : V} {t a p : Addr} {rl : Rl}
theorem StV.of (h : Dt K t H (encS s) v) : StV K H s v := Dt.tk (.refl H) _ _ (noL_encS s) h
theorem StV.dt (h : StV K H s v) : Dt K t H (encS s) v := Dt.tk (.refl H) _ _ (noL_encS s) h
theorem StV.tk (h : StV K H s v) (e : Tk K H H') : StV K H' s v := Dt.tk e _ _ (noL_encS s) h
theorem StV.same (h : StV K H s v) (e : Same H H') : StV K H' s v := h.tk e.tk
theorem StV.inv (h : StV K H (.cn z o w) v) : ∃ a u, v = .ref a ∧ SqT K H a [.int z, .int o, u] ∧ StV K H w u := by
  unfold StV at h
  simp only [encS] at h
  obtain ⟨a, xs, rfl, hs, hx⟩ := h.tup_inv
  simp only [DtL] at hx
  obtain ⟨v0, r0, rfl, h0, v1, r1, rfl, h1, v2, r2, rfl, h2, rfl⟩ := hx
  simp only [Dt] at h0 h1
  subst h0 h1
  exact ⟨a, v2, rfl, hs, h2⟩
end
def rAbs : List V → Hp → VK → Prop := fun xs H Q => ∃ i, xs = [.int i] ∧ Q (.int (if i < 0 then -i else i)) H
section
variable {D : Ends} {σ : St} {H : Hp} {K : PySem.W.Frag} {ta te : TE} {g : TG} {gs : TGs} {Q : VK} {v : V} {vs : List V} {G : St → Hp → Prop} {n i : Nat} {ti : TIp}
theorem r_abs {j : Int} : rAbs [.int j] H Q = Q (.int (if j < 0 then -j else j)) H := by
  unfold rAbs
  exact propext ⟨fun ⟨a, h1, h⟩ => by cases h1; exact h, fun h => ⟨j, rfl, h⟩⟩
theorem r_neB {i j : Bool} : rNe (.bl i) (.bl j) H Q = Q (.bl (!(i == j))) H := by
  unfold rNe
  rw [dec_bl]
  exact propext ⟨fun h => h.2, fun h => ⟨rfl, h⟩⟩
theorem r_gtup : gTup K n gs v σ H G = ∃ a xs, v = .ref a ∧ SqT K H a xs ∧ xs.length = n ∧ gs xs σ H G := rfl
theorem r_gcons : gCons g gs (v :: vs) σ H G = g v σ H fun σ' H' => gs vs σ' H' G := by
  unfold gCons
  exact propext ⟨fun ⟨a, b, h1, h⟩ => by cases h1; exact h, fun h => ⟨v, vs, rfl, h⟩⟩
theorem r_gnil : gNil [] σ H G = G σ H := by
  unfold gNil
  exact propext ⟨fun h => h.2, fun h => ⟨rfl, h⟩⟩
theorem r_augN : tAug i te ti D σ H = ∃ x, σ[i]? = some (some x) ∧ te σ H fun y H1 => ti x y H1 fun z H2 => D.nx (σ.set i (some z)) H2 := rfl
theorem r_ipI {f : Int → Int → Int} {j l : Int} : ipI f (.int j) (.int l) H Q = Q (.int (f j l)) H := by
  unfold ipI
  exact propext ⟨fun ⟨a, b, h1, h2, h⟩ => by cases h1; cases h2; exact h, fun h => ⟨j, l, rfl, rfl, h⟩⟩
end
def capCompB (N N' fr : List Str) (x : Str) (scope osc : Scope) : Bool :=
  decide (scope.kind = .function) && decide (osc.kind = .function)
    && scope.names.all (fun p => decide (p.2 = .local) || decide (p.2 = .globalImplicit) || (decide (p.2 = .free) && decide (p.1 ∈ fr) && decide (osc.names.lookup p.1 = some .cell)))
    && scope.names.all (fun p => !decide (p.2 = .local) || decide (scope.names.lookup p.1 = some .local))
    && decide (scope.names.lookup x = some .local) && decide ((x :: N').Nodup) && decide (x ∉ fr)
    && N'.all (fun y => !decide (scope.names.lookup y = some .local)) && decide (N'.length = N.length)
    && (N'.zip N).all (fun p => decide (p.1 = p.2) || decide (scope.names.lookup p.1 = none))
theorem compCapB {X : Cx} {N N' fr : List Str} {x : Str} {scope osc : Scope} {cl : List (Str × Addr)} (hN : X.N = N) (ho : X.env.scope = osc) (h : capCompB N N' fr x scope osc = true) (hc : closureFor scope X.env = pure cl)
    (hf : cl.map (·.1) = fr) (hcl : ∀ p ∈ cl, X.env.cells.lookup p.1 = some p.2) : CompScope X (x :: N') x scope cl := by
  simp only [capCompB, Bool.and_eq_true, decide_eq_true_eq, List.all_eq_true, Bool.or_eq_true, Bool.not_eq_true', decide_eq_false_iff_not] at h
  obtain ⟨⟨⟨⟨⟨⟨⟨⟨⟨h1, h0⟩, h2⟩, h3⟩, h4⟩, h5⟩, h7⟩, h6⟩, h8⟩, h9⟩ := h
  subst ho
  have rl := relabel_lookup (scope := scope) (env := X.env)
  have fr_of : ∀ y, scope.names.lookup y = some .free → y ∈ fr ∧ X.env.kindOf y = some .cell := fun y e => by
    rcases h2 _ (lookup_mem e) with (z | z) | z
    · cases z
    · cases z
    · exact ⟨z.1.2, z.2⟩
  have vis : ∀ y k, (relabel scope X.env).names.lookup y = some k → (k = .local ∧ scope.names.lookup y = some .local) ∨ (k = .globalImplicit) ∨ (k = .cell ∧ scope.names.lookup y = some .free) := fun y k e => by
    rw [rl y] at e
    cases e0 : scope.names.lookup y with
    | none => rw [e0] at e; cases e
    | some k0 =>
      rw [e0] at e
      simp only [Option.map_some, Option.some.injEq] at e
      rcases h2 _ (lookup_mem e0) with (z | z) | z
      · have z' : k0 = .local := z
        subst z'
        left
        exact ⟨by rw [← e]; rfl, rfl⟩
      · have z' : k0 = .globalImplicit := z
        subst z'
        right; left
        rw [← e]; rfl
      · have z' : k0 = .free := z.1.1
        subst z'
        right; right
        refine ⟨?_, rfl⟩
        rw [← e, if_pos]
        have hk : X.env.kindOf y = some .cell := z.2
        rw [hk, h0]
        rfl
  refine ⟨hc, fun y hy z => ?_, h1, fun y hy e => ?_, h4, h5, rfl, by rw [hN, List.length_cons, h8], fun j y e v => ?_, fun y c e => hcl _ (lookup_mem e), fun y e => ?_, ?_⟩
  · rcases h2 y hy with (e | e) | e
    · rw [z] at e; cases e
    · rw [z] at e; cases e
    · rw [z] at e; cases e.1.1
  · rcases h3 y hy with q | q
    · exact absurd e q
    · exact q
  · have e' : N'[j]? = some y := by simpa using e
    have hy : y ∈ N' := List.mem_of_getElem? e'
    have key : scope.names.lookup y = some .free ∧ (relabel scope X.env).names.lookup y = some .cell := by
      rcases v with v | v | v <;> rcases vis y _ v with z | z | z
      · exact absurd z.2 (h6 y hy)
      · cases z
      · cases z.1
      · cases z.1
      · cases z
      · exact ⟨z.2, v⟩
      · cases z.1
      · cases z
      · cases z.1
    obtain ⟨k1, k2⟩ := key
    obtain ⟨f1, f2⟩ := fr_of y k1
    obtain ⟨c, hcc⟩ := mem_lookup (l := cl) (y := y) (by rw [hf]; exact f1)
    have hj : j < N.length := by rw [← h8]; exact (List.getElem?_eq_some_iff.mp e').1
    have hz : (N'.zip N)[j]? = some (y, N[j]) := by rw [List.getElem?_zip_eq_some]; exact ⟨e', List.getElem?_eq_getElem hj⟩
    have eN : N[j]? = some y := by
      rcases h9 _ (List.mem_of_getElem? hz) with q | q
      · rw [List.getElem?_eq_getElem hj]
        exact congrArg some (show y = N[j] from q).symm
      · have q' : scope.names.lookup y = none := q
        rw [k1] at q'
        cases q'
    exact ⟨by rw [hN]; exact eN, f2, .inr (.inl f2), .inl k2, hcc.trans (hcl _ (lookup_mem hcc)).symm⟩
  · have : scope.names.lookup y = some .free := by
      rcases e with e | e <;> rcases vis y _ e with z | z | z
      · cases z.1
      · cases z
      · exact z.2
      · cases z.1
      · cases z
      · cases z.1
    exact mem_lookup (by rw [hf]; exact (fr_of y this).1)
  · cases e : cl.lookup x with
    | none => rfl
    | some c => exact absurd (by rw [← hf]; exact List.mem_map_of_mem (lookup_mem e)) h7
def TapeS (K : PySem.W.Frag) (ns : List Int) (t sc : Addr) (H : Hp) : Prop := ∃ (sp cr wy : Int), H t = some (.lst [.ref sc, .int sp, .int cr, .int wy]) ∧ ScL K t H sc (ns.map V.int)
structure CurS (K : PySem.W.Frag) (ns : List Int) (t sc : Addr) (H₀ H : Hp) : Prop where
  tape : TapeS K ns t sc H
  ext : Ext t H₀ H
section
variable {K : PySem.W.Frag} {ns : List Int} {t sc p : Addr} {H₀ H H' : Hp}
theorem Tape.s (h : Tape K ns t H) : ∃ sc, TapeS K ns t sc H := h
theorem TapeS.tape (h : TapeS K ns t sc H) : Tape K ns t H := ⟨sc, h⟩
theorem TapeS.keep {o : HO} (h0 : TapeS K ns t sc H₀) (hp : H₀ p = none) (h : TapeS K ns t sc H) : TapeS K ns t sc (upd H p o) := by
  obtain ⟨_, _, _, e0, l0⟩ := h0
  have nt : p ≠ t := (ne_of_none e0 hp).symm
  obtain ⟨sp, cr, wy, e, l⟩ := h
  refine ⟨sp, cr, wy, by rw [upd_ne nt.symm]; exact e, ?_⟩
  have mv : sc ≠ p → ScL K t (upd H p o) sc (ns.map V.int) := fun ne => by
    rcases l with ⟨l1, l2⟩ | l
    · refine .inl ⟨l1, ?_⟩
      rcases l2 with (q | ⟨u, q⟩) | q
      · exact .inl (.inl (by rw [upd_ne ne]; exact q))
      · exact .inl (.inr ⟨u, by rw [upd_ne ne]; exact q⟩)
      · exact .inr q
    · exact .inr l
  rcases l0 with ⟨_, (q | ⟨u, q⟩) | q⟩ | l0
  · exact mv (ne_of_none q hp)
  · exact mv (ne_of_none q hp)
  · exact .inr fun _ => .inr q
  · exact .inr l0
theorem CurS.keep {o : HO} (h0 : TapeS K ns t sc H₀) (hp : H₀ p = none) (c : CurS K ns t sc H₀ H) : CurS K ns t sc H₀ (upd H p o) :=
  ⟨TapeS.keep h0 hp c.tape, fun b u n q => by rw [upd_ne (ne_of_none q hp)]; exact c.ext b u n q⟩
theorem CurS.then (c : CurS K ns t sc H₀ H) (d : CurS K ns t sc H H') : CurS K ns t sc H₀ H' := ⟨d.tape, c.ext.trans d.ext⟩
end
section
variable (K : PySem.W.Frag) (ns : List Int)
def spDrawS : Sp := fun vs H Q _ => ∃ t sc m, vs = [.ref t, .int m] ∧ 0 < m ∧ m < 1073741824 ∧ TapeS K ns t sc H ∧ ∀ (r : Int) (H' : Hp), 0 ≤ r → r < m → CurS K ns t sc H H' → Q (.int r) H'
def spNow : Sp := fun vs H Q _ => ∃ rl v z o, vs = [v, .int z, .int o] ∧ RlV K H rl v ∧ rl ≠ .pt ∧ ∀ v', RlV K H (now rl z o) v' → Q v' H
def spBegun (n : Nat) : Sp := fun vs H Q _ => ∃ rl v, vs = [v] ∧ RlV K H rl v ∧ depth rl < n ∧ ∀ r H', Same H H' → StV K H' (begn rl) r → Q r H'
def spBegunIn (n : Nat) : Sp := fun vs H Q _ => ∃ rl v z o, vs = [v, .int z, .int o] ∧ RlV K H rl v ∧ rl ≠ .pt ∧ depth rl < n ∧ ∀ r H', Same H H' → StV K H' (.cn z o (begn (now rl z o))) r → Q r H'
def spIsWon : Sp := fun vs H Q _ => ∃ rl v z o, vs = [v, .int z, .int o] ∧ RlV K H rl v ∧ rl ≠ .pt ∧ Q (.bl (won rl z o)) H
def spRal (n : Nat) : Sp := fun vs H Q _ => ∃ rl v s sv b, vs = [v, sv, .int (sideI b)] ∧ RlV K H rl v ∧ StV K H s sv ∧ ok rl ∧ Live rl s ∧ depth rl < n ∧ ∀ p sv' H', Same H H' → SqT K H' p [sv', .bl (ral rl s b).2] → StV K H' (ral rl s b).1 sv' → Q (.ref p) H'
def spCutOff : Sp := fun vs H Q _ => ∃ rl v m, vs = [v, .int m] ∧ RlV K H rl v ∧ rl ≠ .pt ∧ Q (.int (off rl m)) H
def spCut (n : Nat) : Sp := fun vs H Q _ => ∃ rl v s sv, vs = [v, sv] ∧ RlV K H rl v ∧ StV K H s sv ∧ Shp rl s ∧ depth rl < n ∧ ∀ r H', Same H H' → StV K H' (cutS rl s) r → Q r H'
def spStk (n : Nat) : Sp := fun vs H Q _ => ∃ rl v s sv b, vs = [v, sv, .int (sideI b)] ∧ RlV K H rl v ∧ StV K H s sv ∧ ok rl ∧ Live rl s ∧ depth rl < n ∧ ∀ H', Same H H' → Q (.int (stk rl s b)) H'
def spLawWon : Sp := fun vs H Q _ => ∃ rl v x y, vs = [v, .int x, .int y] ∧ RlV K H rl v ∧ rl ≠ .pt ∧ Q (.bl (lawWon rl x y)) H
def sideV (b : Bool) : V := .int (sideI b)
def optB : Option Bool → V
  | none => .non
  | some b => .int (sideI b)
def natV (n : Nat) : V := .int n
def spPlayed (n : Nat) : Sp := fun vs H Q _ => ∃ rl v a e, ∃ (row : List Bool), ∃ (at0 : Nat), ∃ (es : List V), vs = [v, .ref a, .int at0, .ref e] ∧ RlV K H rl v ∧ ok rl ∧ depth rl < n ∧ a ≠ e ∧ SqL K H a (row.map sideV) ∧ at0 ≤ row.length ∧ row.length ≤ 100 ∧ H e = some (.lst es) ∧ es.length + depth rl * (row.length - at0) ≤ 900 ∧
  ∀ p sv H' o, o = walk rl at0 (begn rl) (row.drop at0) → Ext e H H' → SqT K H' p [optB o.side, sv, .int o.at_] → StV K H' o.sd sv → H' e = some (.lst (es ++ o.ends.map natV)) → Q (.ref p) H'
def spRow : Sp := fun vs H Q _ => ∃ t m, vs = [.ref t, .int m] ∧ 0 ≤ m ∧ m ≤ 60 ∧ Tape K ns t H ∧ ∀ a (row : List Bool) H', (row.length : Int) = m → Cur K ns t H H' → H a = none → H' a = some (.lst (row.map sideV)) → Q (.ref a) H'
def spAlk (bb : Bool) (n : Nat) : Sp := fun vs H Q _ => ∃ t d x y, vs = [x, y] ∧ Dt K t H d x ∧ Dt K t H d y ∧ fl bb d = true ∧ d.depth < n ∧ ∀ H', Same H H' → Q (.bl true) H'
end
theorem drawS_of {K : PySem.W.Frag} {ns : List Int} {t sc : Addr} {H : Hp} {Q : VK} {E : XK} {m : Int} (T : TapeS K ns t sc H) (h : ∀ (r : Int) (H' : Hp), 0 ≤ r → r < m → CurS K ns t sc H H' → Q (.int r) H') (h0 : 0 < m := by decide) (h1 : m < 1073741824 := by decide) : spDrawS K ns [.ref t, .int m] H Q E := ⟨t, sc, m, rfl, h0, h1, T, h⟩
theorem cutV_take {xs : List V} {k : Nat} : cutV xs none (some (k : Int)) = xs.take k := by
  unfold cutV
  have h1 : HT.sIx xs.length 0 none = 0 := rfl
  have h2 : HT.sIx xs.length xs.length (some (k : Int)) = min k xs.length := by
    show (if ((k : Nat) : Int) < 0 then (((k : Nat) : Int) + (xs.length : Int)).toNat else min ((k : Nat) : Int).toNat xs.length) = _
    rw [if_neg (by omega)]
    simp
  rw [h1, h2, List.drop_zero, Nat.sub_zero]
  rcases Nat.le_total k xs.length with h | h
  · rw [Nat.min_eq_left h]
  · rw [Nat.min_eq_right h, List.take_of_length_le h, List.take_of_length_le (Nat.le_refl _)]
def StL (K : PySem.W.Frag) (H : Hp) (ss : List Sd) (vs : List V) : Prop := DtL K 0 H (ss.map encS) vs
section
variable {K : PySem.W.Frag} {H H' : Hp} {ss qs : List Sd} {s : Sd} {v : V} {vs us : List V} {t : Addr}
theorem noLs_encS : ∀ rs : List Sd, noLs (rs.map encS) = true
  | [] => rfl
  | r :: rs => by simp only [List.map_cons, noLs, noL_encS r, noLs_encS rs]; rfl
theorem StL.dt (h : StL K H ss vs) : DtL K t H (ss.map encS) vs := DtL.tk (.refl H) _ _ (noLs_encS ss) h
theorem StL.tk (h : StL K H ss vs) (e : Tk K H H') : StL K H' ss vs := DtL.tk e _ _ (noLs_encS ss) h
theorem StL.same (h : StL K H ss vs) (e : Same H H') : StL K H' ss vs := h.tk e.tk
theorem StL.nil : StL K H [] [] := by simp [StL, DtL]
theorem StL.one (h : StV K H s v) : StL K H [s] [v] := by
  simp only [StL, List.map_cons, List.map_nil, DtL]
  exact ⟨v, [], rfl, h, rfl⟩
theorem StL.len (h : StL K H ss vs) : ss.length = vs.length := by
  have := DtL.len h
  rwa [List.length_map] at this
theorem StL.at {i : Nat} (h : StL K H ss vs) (e : ss[i]? = some s) : ∃ v, vs[i]? = some v ∧ StV K H s v := DtL.get (i := i) h (by rw [List.getElem?_map, e]; rfl)
end
end L2
namespace L2
open PySem PySem.Spec PySem.Calls PyProof.Rows
def CX1 (P : Program) (w : World) : CXT := fun outer H s E e s' => ∃ (ea t C : Addr) (B : Heap) (H' : Hp), e = .ref ea ∧ s'.os = s.os ∧ AllBare s'.gens ∧ Heap.FlyingW B outer ea (.ref C) (.ref t) s'.heap ∧
  (∀ h : Heap, B.StaysIn h → s'.heap.UpToSlots h → Un (frs outer) [] H H' s.heap h ∧ HOk P w H' h ∧ h.FunFrames B outer) ∧ (∀ b o, H' b = some o → ∃ u, B.get? b = some u) ∧ (∀ b o, s.heap.get? b = some o → b ∈ frs outer ∨ ∃ u, B.get? b = some u) ∧ E (.ref C) none H'
section
variable {P : Program} {w : World} {K : PySem.W.Frag} {mg : Str → Option Value} {base : Heap} {N : List Str} {qual : Str} {scope : Scope} {f : Addr} {cd : Value} {A : Around} {outer : List Env} {s0 : Shared} {H0 : Hp} {E : XK}
end
end L2
namespace L2
open PySem PySem.Spec PySem.Calls PyProof.Rows
abbrev veTail : List Value := [.type "ValueError", .type "Exception", .type "BaseException", .type "object"]
def OwnE (K : PySem.W.Frag) (C : Addr) : Prop := ∀ h : Heap, K.In h → ∃ (bm : List Value) (N : Addr) (nm qn : Str) (bs : List Value) (hdct : Bool) (sn : List Str) (sub : List Value) (ab : Bool) (col : Option Bool) (dd : Option Addr) (k0 k1 k2 k3 k5 : Option Value) (mN : Str → Option Value),
  h.get? C = some (excClassObj nm qn C N bs bm hdct sn sub ab col dd k0 k1 k2 k3 k5 "ValueError.__new__") ∧ h.Ns N mN ∧ mN "__init__" = none ∧ OwnTail h veTail bm
def tRaise (t : TA) (R : Hp → Prop) : TS := fun _ σ H => t σ H fun vs H1 => vs.length ≤ sizeLine ∧ R H1
structure Dx (P : Program) (w : World) (K : PySem.W.Frag) (mg : Str → Option Value) (base : Heap) (k : Nat) (x : Str) (ps : List Str) (sp : Sp) : Prop where
  ex : ∃ (f : Addr) (fd : FuncData), FnOk P w K mg base (CX1 P w) k f fd ps sp ∧ Binds K fd ps [] ∧ PySem.W.keepIn K (.ref f) = true ∧ mg x = some (.ref f)
theorem Dx.mono {P : Program} {w : World} {K : PySem.W.Frag} {mg : Str → Option Value} {base : Heap} {j k : Nat} {x : Str} {ps : List Str} {sp : Sp} (D : Dx P w K mg base j x ps sp) (h : j ≤ k) : Dx P w K mg base k x ps sp := by
  obtain ⟨f, fd, a, b, c, d⟩ := D.ex
  exact ⟨f, fd, a.mono h, b, c, d⟩
theorem Dn.dx {P : Program} {w : World} {K : PySem.W.Frag} {mg : Str → Option Value} {base : Heap} {k : Nat} {x : Str} {ps : List Str} {sp : Sp} (D : Dn P w K mg base k x ps sp) : Dx P w K mg base k x ps sp := by
  obtain ⟨f, fd, a, b, c, d⟩ := D.ex
  refine ⟨f, fd, ⟨a.len, fun A outer s H args us vs Q E hr he hb hv hs => codeAny_mono (a.run A outer s H args us vs Q E hr he hb hv hs) fun r s' hq => ?_⟩, b, c, d⟩
  cases r with
  | error e => exact False.elim hq
  | ok fl => cases fl <;> exact hq
section
variable {X : Cx} {k : Nat} {x : Str} {ps : List Str} {sp : Sp} {e : Expr} {es : List Expr} {t : TA} {p pos : Pos}
def Xt (X : Cx) (pn : List (Addr × Obj)) (Ef : St → XK) : Cx := ({ X with pn := pn } : Cx).wish fun ev s' => ∃ pins σ H s, Inv { X with pn := pn } pins σ H s ∧ CX1 X.prog X.w X.stack H s (Ef σ) ev s'
def tCallX (sp : Sp) (Ef : St → XK) (t : TA) : TE := fun σ H Q => t σ H fun vs H1 => sp vs H1 Q (Ef σ)
end
end L2
namespace L2
open PySem PySem.Spec PySem.Calls PyProof.Rows
def excO (a C : Addr) : HO := .ext fun h => ∃ oe vs, h.get? a = some oe ∧ oe.cls = .ref C ∧ oe.data = .fields vs
theorem inv_track {X : Cx} {pins : List (Addr × Obj)} {σ : St} {H : Hp} {s : Shared} {a : Addr} {o : HO} (I : Inv X pins σ H s) (hn : H a = none) (h0 : X.s₀.heap.get? a = none) (hL : a ≠ X.env.locals)
    (hc : ∀ x c, X.env.cells.lookup x = some c → c ≠ a) (hp : ∀ p ∈ X.pn ++ pins, p.1 ≠ a) (new : ObjOk X.prog X.w (upd H a o) s.heap a o) : Inv X pins σ (upd H a o) s := by
  have ne : ∀ b u, H b = some u → b ≠ a := fun b u e => ne_of_none e hn
  have ne0 : ∀ b u, X.s₀.heap.get? b = some u → b ≠ a := fun b u e z => by rw [z, h0] at e; cases e
  have u := I.base
  refine ⟨I.ok, I.os, I.bare, ⟨u.keep, u.slot, fun b ob e n hx => by rw [upd_ne (ne0 b ob e)]; exact u.free b ob e n hx, u.there, fun b xs e => ?_, fun b ob v e => ?_, fun b ps e => ?_⟩, I.loc, I.cell, by rw [upd_ne hL.symm]; exact I.free,
    fun x c e => by rw [upd_ne (hc x c e)]; exact I.freeC x c e, fun p hp' => ?_, fun b v e => ?_, I.len⟩
  · have := u.tups b xs e
    rw [upd_ne (ne b _ this)]; exact this
  · have := u.frzs b ob v e
    rw [upd_ne (ne b _ this)]; exact this
  · obtain ⟨m, this⟩ := u.tbls b ps e
    exact ⟨m, by rw [upd_ne (ne b _ this)]; exact this⟩
  · obtain ⟨q1, q2, q3⟩ := I.pin p hp'
    exact ⟨q1, by rw [upd_ne (hp p hp')]; exact q2, q3⟩
  · by_cases z : b = a
    · subst z
      rw [upd_same] at e
      cases e
      exact new
    · rw [upd_ne z] at e
      exact (I.hok b v e).stay (fun _ _ _ q => q) (fun c q => by rw [upd_ne (ne c _ q)]; exact q) fun c xs q => by rw [upd_ne (ne c _ q)]; exact q
end L2
namespace L2
open PySem PySem.Spec PySem.Calls PyProof.Rows
def Xh (X : Cx) (pn : List (Addr × Obj)) (ea : Addr) : Cx := { X with A := X.A.mark (some (.ref ea)), calm := false, pn := pn, xe := fun _ _ => False }
def tTry (Sub : Addr → Prop) (i : Nat) (tb : (St → XK) → TS) (ts : TS) : TS := fun D σ H =>
  tb (fun σ' cls _ H' => ∃ C, cls = .ref C ∧ Sub C ∧ ∀ ea, H' ea = none → ts { D with nx := fun σ2 H2 => D.nx (σ2.set i none) H2, bk := fun σ2 H2 => D.bk (σ2.set i none) H2, ct := fun σ2 H2 => D.ct (σ2.set i none) H2 } (σ'.set i (some (.ref ea))) (upd H' ea (excO ea C))) D σ H
end L2
namespace L2
open PySem PySem.Spec PySem.Calls PyProof.Rows PySem.W
section
variable {prog : Program} {w : World} {A : Around} {E : Value → Shared → Prop} {h : Heap} {g : Array GenState} {d : Drawn} {t : Nat} {os : OsState} {a C : Addr} {o : Obj} {K : Frag}
structure ErrC (K : Frag) (C : Addr) : Prop where
  ga : findIn K (.ref C) "__getattribute__" = some (some (.builtin "BaseException.__getattribute__"))
  gt : findIn K (.ref C) "__getattr__" = some none
  cl : findIn K (.ref C) "__class__" = some (some (.builtin "object.__class__"))
  ob : mroIn K C (.type "object") = some true
  sb : subIn K (.ref C) (.type "BaseException") = some true
  lk : (clsIn K C).isSome = true
def excAt (a C : Addr) (h : Heap) : Prop := ∃ oe vs, h.get? a = some oe ∧ oe.cls = .ref C ∧ oe.data = .fields vs
end
def rIsE (K : PySem.W.Frag) : List V → Hp → VK → Prop := fun xs H Q => ∃ a C c cv b, xs = [.ref a, c] ∧ H a = some (excO a C) ∧ ErrC K C ∧ RelV c cv ∧ (∀ cv', RelV c cv' → cv' = cv) ∧ PySem.W.kitOne K (.ref C) cv = some b ∧ Q (.bl b) H
end L2
namespace L2
open PySem PySem.Spec PySem.Calls PyProof.Rows
section
variable {X : Cx}
def rCount : V → List V → Hp → VK → Prop := fun x vs H Q => ∃ l, ∃ bs : List Bool, x = .ref l ∧ vs = [.bl true] ∧ H l = some (.lst (bs.map .bl)) ∧ Q (.int (bs.count true : Nat)) H
def rIndex : V → List V → Hp → VK → Prop := fun x vs H Q => ∃ l, ∃ bs : List Bool, ∃ j : Nat, x = .ref l ∧ vs = [.bl true] ∧ H l = some (.lst (bs.map .bl)) ∧ bs[j]? = some true ∧ (∀ m, m < j → bs[m]? = some false) ∧ j < 1000 ∧ Q (.int j) H
end
structure RoomH (k : Nat) (A : Around) : Prop where
  dp : A.depth + 3 * k + 5 < recursionLimit
  un : A.units + 16 * k + 200 < cLine
  gd : A.guards = some []
theorem Room.h {k : Nat} {A : Around} (r : Room k A) : RoomH k A := ⟨r.dp, r.un, r.gd⟩
theorem RoomH.r {k : Nat} {A : Around} (r : RoomH k A) : Room k { A with handled := none } := ⟨rfl, r.dp, r.un, r.gd⟩
def cxH (P : Program) (w : World) (K : PySem.W.Frag) (mg : Str → Option Value) (base : Heap) (N : List Str) (qual : Str) (scope : Scope) (f : Addr) (cd : Value) (A : Around) (outer : List Env) (s : Shared) (H : Hp) : Cx :=
  { cxOf CX0 P w K mg base N qual scope f cd A outer s H E0 with calm := false, xe := fun _ _ => False }
structure Dh (P : Program) (w : World) (K : PySem.W.Frag) (mg : Str → Option Value) (base : Heap) (k : Nat) (x : Str) (ps : List Str) (sp : Sp) : Prop where
  ex : ∃ (f : Addr) (fd : FuncData), (∀ vs H Q E, sp vs H Q E → vs.length = ps.length) ∧ (∀ (A : Around) (outer : List Env) (s : Shared) (H : Hp) (us : List Value) (vs : List V) (Q : VK), RoomH k A → Env0 P w K mg base A outer s H → BindsTo s fd ⟨us, []⟩ (ps.zip us) → Vals vs us → sp vs H Q E0 →
    codeAny (model P w) A (.call (.ref f) ⟨us, []⟩) (CR CX0 outer P w H s Q E0) s) ∧ Binds K fd ps [] ∧ PySem.W.keepIn K (.ref f) = true ∧ mg x = some (.ref f)
section
variable {D : Ends} {σ : St} {H : Hp} {K : PySem.W.Frag} {Q : VK} {t : TA}
theorem r_raise {R : Hp → Prop} : tRaise t R D σ H = t σ H fun vs H1 => vs.length ≤ sizeLine ∧ R H1 := rfl
theorem r_callX {sp : Sp} {Ef : St → XK} : tCallX sp Ef t σ H Q = t σ H fun vs H1 => sp vs H1 Q (Ef σ) := rfl
end
end L2
namespace L2
open PySem PySem.Spec PySem.Calls PyProof.Rows
section
variable {X : Cx}
def rCatA (K : PySem.W.Frag) : R2 := fun x y H Q => ∃ a b xs ys, x = .ref a ∧ y = .ref b ∧ SqT K H a xs ∧ SqT K H b ys ∧ xs.length + ys.length ≤ sizeLine ∧ ∀ p H', Same H H' → SqT K H' p (xs ++ ys) → Q (.ref p) H'
theorem op_catA : OpR X (binaryOp .Add) (rCatA X.K) := by
  intro pins s σ H x y v u Q I rx ry h
  obtain ⟨a, b, xs, ys, rfl, rfl, ha, hb, hz, q⟩ := h
  by_cases hx : xs = []
  · subst hx
    cases rx
    cases ry
    obtain ⟨its, r1, p1, _⟩ := I.tuple ha
    obtain ⟨its2, r2, p2, _⟩ := I.tuple hb
    cases r1
    obtain ⟨⟨cls, dd, data, sl⟩, ho, hc, n, hd⟩ := id p1
    obtain ⟨⟨cls2, dd2, data2, sl2⟩, ho2, hc2, n2, hd2⟩ := id p2
    simp only at hc hd hc2 hd2
    subst hc hd hc2 hd2
    exact concat_meets ⟨_, ho, rfl⟩ ⟨_, ho2, rfl⟩ noFill_tuple_add seq_tuple_add PySem.F.slot_tuple_add PySem.F.entry_tuple_add (PySem.F.args_tuple_add_2 _ _)
      (tuple_addW0 a b _ _ n n2 dd dd2 sl sl2 (by simp)) ⟨ho, ho2, ⟨.ref b, H, I, rfl, q b H (.refl H) (by simpa using hb)⟩⟩
  · exact op_catT pins s σ H _ _ v u Q I rx ry ⟨a, b, xs, ys, rfl, rfl, ha, hb, hx, hz, fun z => q a H (.refl H) (by rw [z, List.append_nil]; exact ha), fun z p hp => q p _ (fun b o e => by rw [upd_ne (ne_of_none e hp)]; exact e) (.of upd_same)⟩
end
theorem noFill_tuple_mul : fillsNumberSlot (.type "tuple") "mul" = pure false :=
  PySem.fillsNumberSlot_seq (id := "tuple.__mul__") (r := some (.builtin "tuple.__rmul__")) PySem.F.slot_tuple_mul.lookup (by decide +kernel) PySem.F.slot_tuple_rmul.lookup (by decide +kernel)
theorem repeat_tuple : seqRepeat? (.type "tuple") = pure (some (.builtin "tuple.__mul__")) := by
  unfold seqRepeat?
  rw [PySem.seqSlot_of (T := "tuple") (name := "__mul__") (id := "tuple.__mul__") PySem.F.slot_tuple_mul.lookup (by decide +kernel)]
  rw [PySem.seqSlot_of (T := "tuple") (name := "__rmul__") (id := "tuple.__rmul__") PySem.F.slot_tuple_rmul.lookup (by decide +kernel)]
  rfl
theorem rmul_tuple (a : Int) (t : Tok) (l : Addr) (items : Array Value) (n : Nat) (dd : Option Addr) (sl : Array (Option Value)) :
    Meets (Builtin.«int.__rmul__» ⟨[.int a t, .ref l], []⟩) (fun _ R s => s.heap.get? l = some { cls := .type "tuple", dict := dd, data := .seq items n, slots := sl } ∧ R (.ok (.ret Value.notImplemented)) s) :=
  .of_wp fun prog w A R s h => by
    obtain ⟨hp, g, d, tk, os⟩ := s
    obtain ⟨hl, h⟩ := h
    wp_walk
    exact ⟨_, rfl, h⟩
theorem mul_tuple1 (t : Tok) (l : Addr) (items : Array Value) (n : Nat) (dd : Option Addr) (sl : Array (Option Value)) :
    Meets (Builtin.«tuple.__mul__» ⟨[.ref l, .int 1 t], []⟩) (fun _ R s => s.heap.get? l = some { cls := .type "tuple", dict := dd, data := .seq items n, slots := sl } ∧ R (.ok (.ret (.ref l))) s) :=
  .of_wp fun prog w A R s h => by
    obtain ⟨hp, g, d, tk, os⟩ := s
    obtain ⟨hl, h⟩ := h
    have f1 := AutoSeq1.idx_int
    have f2 := AutoSeq1.sub_tuple_tuple
    wp_walk using wpAny_loadPart' hl
    exact ⟨_, rfl, h⟩
theorem mul_tuple2 (t : Tok) (l : Addr) (v : Value) (n : Nat) (dd : Option Addr) (sl : Array (Option Value)) :
    Meets (Builtin.«tuple.__mul__» ⟨[.ref l, .int 2 t], []⟩) (fun _ R s => s.heap.get? l = some { cls := .type "tuple", dict := dd, data := .seq #[v] n, slots := sl } ∧ R (.ok (.ret (.ref s.heap.objs.size))) { s with heap := s.heap.push { cls := .type "tuple", data := .seq #[v, v] } }) :=
  .of_wp fun prog w A R s h => by
    obtain ⟨hp, g, d, tk, os⟩ := s
    obtain ⟨hl, h⟩ := h
    have f1 := AutoSeq1.idx_int
    have f2 := AutoSeq1.sub_tuple_tuple
    wp_walk using wpAny_loadPart' hl
    exact ⟨_, rfl, h⟩
theorem mul_tuple3 (t : Tok) (l : Addr) (v : Value) (n : Nat) (dd : Option Addr) (sl : Array (Option Value)) :
    Meets (Builtin.«tuple.__mul__» ⟨[.ref l, .int 3 t], []⟩) (fun _ R s => s.heap.get? l = some { cls := .type "tuple", dict := dd, data := .seq #[v] n, slots := sl } ∧ R (.ok (.ret (.ref s.heap.objs.size))) { s with heap := s.heap.push { cls := .type "tuple", data := .seq #[v, v, v] } }) :=
  .of_wp fun prog w A R s h => by
    obtain ⟨hp, g, d, tk, os⟩ := s
    obtain ⟨hl, h⟩ := h
    have f1 := AutoSeq1.idx_int
    have f2 := AutoSeq1.sub_tuple_tuple
    wp_walk using wpAny_loadPart' hl
    exact ⟨_, rfl, h⟩
def rRepT (K : PySem.W.Frag) : R2 := fun x y H Q => ∃ a, ∃ v : V, ∃ k : Nat, x = .ref a ∧ y = .int k ∧ 1 ≤ k ∧ k ≤ 3 ∧ SqT K H a [v] ∧ ∀ p H', Same H H' → SqT K H' p (List.replicate k v) → Q (.ref p) H'
theorem op_repT {X : Cx} : OpR X (binaryOp .Mult) (rRepT X.K) := by
  intro pins s σ H x y v u Q I rx ry h
  obtain ⟨a, vv, k, rfl, rfl, h1, h3, ha, q⟩ := h
  cases rx
  obtain ⟨t, rfl⟩ := ry
  obtain ⟨its, r, p1, _⟩ := I.tuple ha
  cases r with
  | cons r0 rr =>
  cases rr
  rename_i w0
  obtain ⟨⟨cls, dd, data, sl⟩, ho, hc, n, hd⟩ := id p1
  simp only at hc hd
  subst hc hd
  refine wpAny_binaryOp_repeat_ref (T := "tuple") (U := "int") (by decide) ⟨_, ho, rfl⟩ (fun s' => typeIs_int s' k t) noFill_tuple_mul PySem.F.fills_int_mul PySem.F.slot_int_rmul repeat_tuple PySem.F.slot_int_index.lookup
    (call_meets PySem.F.slot_int_rmul (typeIs_int s k t) PySem.F.entry_int_rmul (PySem.F.args_int_rmul_2 _ _) (rmul_tuple k t a _ n dd sl) ⟨ho, rfl, ⟨_, ho, rfl⟩, ?_⟩)
  have cs : k = 1 ∨ k = 2 ∨ k = 3 := by omega
  rcases cs with rfl | rfl | rfl
  · exact call_meets PySem.F.slot_tuple_mul ⟨_, ho, rfl⟩ PySem.F.entry_tuple_mul (PySem.F.args_tuple_mul_2 _ _) (mul_tuple1 t a _ n dd sl) ⟨ho, ⟨.ref a, H, I, rfl, q a H (.refl H) ha⟩⟩
  · refine call_meets PySem.F.slot_tuple_mul ⟨_, ho, rfl⟩ PySem.F.entry_tuple_mul (PySem.F.args_tuple_mul_2 _ _) (mul_tuple2 t a w0 n dd sl) ⟨ho, ?_⟩
    have hf : H s.heap.objs.size = none := I.hok.fresh (Nat.le_refl _)
    refine ⟨.ref s.heap.objs.size, upd H s.heap.objs.size (.tup [vv, vv]), I.laid (t' := s.toks) (fun b u e => Heap.get?_push_of_some _ e) (Nat.le_refl _) ⟨(by show 2 ≤ sizeLine; decide), [w0, w0], .cons r0 (.cons r0 .nil), IsTup.new _ _⟩, rfl, q _ _ (fun b o e => by rw [upd_ne (ne_of_none e hf)]; exact e) (.of upd_same)⟩
  · refine call_meets PySem.F.slot_tuple_mul ⟨_, ho, rfl⟩ PySem.F.entry_tuple_mul (PySem.F.args_tuple_mul_2 _ _) (mul_tuple3 t a w0 n dd sl) ⟨ho, ?_⟩
    have hf : H s.heap.objs.size = none := I.hok.fresh (Nat.le_refl _)
    refine ⟨.ref s.heap.objs.size, upd H s.heap.objs.size (.tup [vv, vv, vv]), I.laid (t' := s.toks) (fun b u e => Heap.get?_push_of_some _ e) (Nat.le_refl _) ⟨(by show 3 ≤ sizeLine; decide), [w0, w0, w0], .cons r0 (.cons r0 (.cons r0 .nil)), IsTup.new _ _⟩, rfl, q _ _ (fun b o e => by rw [upd_ne (ne_of_none e hf)]; exact e) (.of upd_same)⟩
theorem comp_tp {K : PySem.W.Frag} {σ : St} {H : Hp} {Q : VK} {te ta : TE} {a : Addr} {xs : List V} (f : Nat → V) (hta : ∀ R : VK, R (.ref a) H → ta σ H R) (hs : SqT K H a xs) (hz : xs.length ≤ 1000)
    (elt : ∀ i x H', xs[i]? = some x → Same H H' → ∀ Q' : VK, (∀ H'', Same H' H'' → Q' (f i) H'') → te (some x :: σ) H' Q')
    (q : ∀ D H', Same H H' → H D = none → H' D = some (.lst ((List.range xs.length).map f)) → Q (.ref D) H') : tComp (iTup K ta) tTrue te σ H Q := by
  unfold tComp iTup
  refine hta _ ⟨a, rfl, ⟨xs, hs⟩, fun D hD => ⟨fun i m H' => m = xs.length - i ∧ i ≤ xs.length ∧ Same H H' ∧ H' D = some (.lst ((List.range i).map f)),
    ⟨_, rfl, Nat.zero_le _, fun b o h => by rw [upd_ne (ne_of_none h hD)]; exact h, upd_same⟩, ?_⟩⟩
  rintro i m H' ⟨rfl, hi, S, hD'⟩
  have hs' : SqT K H' a xs := (Same.ext (t := 0) S).sqT hs
  by_cases c : i = xs.length
  · subst c
    exact .inl ⟨⟨xs, hs', Nat.le_refl _⟩, q D H' S hD hD'⟩
  · have hx : xs[i]? = some xs[i] := List.getElem?_eq_getElem (by omega)
    refine .inr ⟨⟨xs, _, hs', hx⟩, ?_⟩
    rintro x' H'' ⟨rfl, hx'⟩
    have e := hx' xs hs'
    unfold tTrue
    dsimp only
    rw [if_pos rfl]
    refine elt i x' H'' e S _ fun H3 S3 => ?_
    have h3 := S3 _ _ hD'
    refine ⟨_, h3, small1000 (by rw [List.length_map, List.length_range]; omega), _, by omega, rfl, by omega, fun b o h => ?_, ?_⟩
    · rw [upd_ne (ne_of_none h hD)]
      exact S3 _ _ (S _ _ h)
    · rw [upd_same, List.range_succ, List.map_append]
      rfl
end L2
namespace L2
open PySem PySem.Spec PyProof.Rows M
theorem noL_encR (r : Lr) : noL (encR r) = true := rfl
theorem noLs_encR : ∀ rows : List Lr, noLs (rows.map encR) = true
  | [] => rfl
  | r :: rs => by simp only [List.map_cons, noLs, noL_encR r, noLs_encR rs]; rfl
theorem noL_encLs (rows : List Lr) (side : Nat) : noL (encLs rows side) = true := by simp only [encLs, noL, noLs, noLs_encR rows]; rfl
def RwV (K : PySem.W.Frag) (H : Hp) (r : Lr) (v : V) : Prop := Dt K 0 H (encR r) v
def LsV (K : PySem.W.Frag) (H : Hp) (rows : List Lr) (side : Nat) (v : V) : Prop := Dt K 0 H (encLs rows side) v
def RwL (K : PySem.W.Frag) (H : Hp) (rows : List Lr) (vs : List V) : Prop := DtL K 0 H (rows.map encR) vs
section
variable {K : PySem.W.Frag} {H H' : Hp} {r : Lr} {rows : List Lr} {side : Nat} {v : V} {vs : List V}
theorem RwV.tk (h : RwV K H r v) (e : Tk K H H') : RwV K H' r v := Dt.tk e _ _ (noL_encR r) h
theorem RwV.same (h : RwV K H r v) (e : Same H H') : RwV K H' r v := h.tk e.tk
theorem LsV.tk (h : LsV K H rows side v) (e : Tk K H H') : LsV K H' rows side v := Dt.tk e _ _ (noL_encLs rows side) h
theorem LsV.same (h : LsV K H rows side v) (e : Same H H') : LsV K H' rows side v := h.tk e.tk
theorem RwL.tk (h : RwL K H rows vs) (e : Tk K H H') : RwL K H' rows vs := DtL.tk e _ _ (noLs_encR rows) h
theorem RwL.same (h : RwL K H rows vs) (e : Same H H') : RwL K H' rows vs := h.tk e.tk
theorem rw_inv (h : RwV K H r v) : ∃ a, v = .ref a ∧ SqT K H a [.int r.d, .int r.b, .int r.u, .int r.n, .int r.a, .int r.x, .int r.t] := by
  unfold RwV encR at h
  obtain ⟨a, xs, rfl, hs, hx⟩ := h.tup_inv
  simp only [DtL, Dt] at hx
  obtain ⟨_, _, rfl, rfl, _, _, rfl, rfl, _, _, rfl, rfl, _, _, rfl, rfl, _, _, rfl, rfl, _, _, rfl, rfl, _, _, rfl, rfl, rfl⟩ := hx
  exact ⟨a, rfl, hs⟩
theorem rw_mk {a : Addr} (h : SqT K H a [.int r.d, .int r.b, .int r.u, .int r.n, .int r.a, .int r.x, .int r.t]) : RwV K H r (.ref a) :=
  .tup h (.cons (.int _) (.cons (.int _) (.cons (.int _) (.cons (.int _) (.cons (.int _) (.cons (.int _) (.cons (.int _) .nil)))))))
theorem ls_inv (h : LsV K H rows side v) : ∃ a ra vs, v = .ref a ∧ SqT K H a [.ref ra, .int side] ∧ SqT K H ra vs ∧ RwL K H rows vs := by
  unfold LsV encLs at h
  obtain ⟨a, xs, rfl, hs, hx⟩ := h.tup_inv
  simp only [DtL] at hx
  obtain ⟨v0, r0, rfl, h0, v1, r1, rfl, h1, rfl⟩ := hx
  simp only [Dt] at h1
  subst h1
  obtain ⟨ra, vs, rfl, h2, h3⟩ := Dt.tup_inv h0
  exact ⟨a, ra, vs, rfl, hs, h2, h3⟩
theorem ls_mk {a ra : Addr} (h : SqT K H a [.ref ra, .int side]) (h2 : SqT K H ra vs) (h3 : RwL K H rows vs) : LsV K H rows side (.ref a) := .tup h (.cons (.tup h2 h3) (.cons (.int _) .nil))
theorem RwL.len (h : RwL K H rows vs) : rows.length = vs.length := by
  have := DtL.len h
  rwa [List.length_map] at this
theorem RwL.at {i : Nat} (h : RwL K H rows vs) (e : rows[i]? = some r) : ∃ v, vs[i]? = some v ∧ RwV K H r v := DtL.get (i := i) h (by rw [List.getElem?_map, e]; rfl)
theorem RwL.set {i : Nat} (h : RwL K H rows vs) (hv : RwV K H r v) : RwL K H (rows.set i r) (vs.set i v) := by
  induction rows generalizing vs i with
  | nil =>
    simp only [RwL, List.map_nil, DtL] at h
    subst h
    simp [RwL, DtL]
  | cons q rows ih =>
    simp only [RwL, List.map_cons, DtL] at h
    obtain ⟨w, ws, rfl, h1, h2⟩ := h
    cases i with
    | zero => exact .cons hv h2
    | succ i => exact .cons h1 (ih (i := i) h2)
theorem RwL.rep {n : Nat} (hv : RwV K H r v) : RwL K H (List.replicate n r) (List.replicate n v) := by
  induction n with
  | zero => simp [RwL, DtL]
  | succ n ih => exact .cons hv ih
theorem set_parts {i : Nat} (h : i < vs.length) : vs.take i ++ [v] ++ vs.drop (i + 1) = vs.set i v := by
  rw [List.set_eq_take_append_cons_drop, if_pos h, List.append_assoc]
  rfl
theorem cutV_drop {i : Nat} (h : i ≤ vs.length) : cutV vs (some (i : Int)) none = vs.drop i := by
  unfold cutV
  have h1 : HT.sIx vs.length 0 (some (i : Int)) = i := by
    show (if ((i : Nat) : Int) < 0 then (((i : Nat) : Int) + (vs.length : Int)).toNat else min ((i : Nat) : Int).toNat vs.length) = _
    rw [if_neg (by omega)]
    omega
  have h2 : HT.sIx vs.length vs.length none = vs.length := rfl
  rw [h1, h2, List.take_of_length_le (by rw [List.length_drop]; omega)]
end
end L2
namespace L2
open PySem PySem.Spec PyProof.Rows
section
variable {P : Program} {w : World} {K : PySem.W.Frag} {mg : Str → Option Value} {base : Heap} {N : List Str} {qual : Str} {scope : Scope} {f : Addr} {cd : Value} {A : Around} {outer : List Env} {s : Shared} {H : Hp} {X : Cx}
theorem r_KH : (cxH P w K mg base N qual scope f cd A outer s H).K = K := rfl
theorem r_Kt {pn : List (Addr × Obj)} {Ef : St → XK} : (Xt X pn Ef).K = X.K := rfl
theorem r_Kh {pn : List (Addr × Obj)} {ea : Addr} : (Xh X pn ea).K = X.K := rfl
theorem r_Kn {g : Value → Shared → Prop} : (X.wish g).K = X.K := rfl
theorem r_try {D : Ends} {σ : St} {Sub : Addr → Prop} {i : Nat} {tb : (St → XK) → TS} {ts : TS} : tTry Sub i tb ts D σ H =
  tb (fun σ' cls _ H' => ∃ C, cls = .ref C ∧ Sub C ∧ ∀ ea, H' ea = none → ts { D with nx := fun σ2 H2 => D.nx (σ2.set i none) H2, bk := fun σ2 H2 => D.bk (σ2.set i none) H2, ct := fun σ2 H2 => D.ct (σ2.set i none) H2 } (σ'.set i (some (.ref ea))) (upd H' ea (excO ea C))) D σ H := rfl
end
end L2
namespace L2
open PySem PySem.Spec PySem.Calls PyProof.Rows
section
variable {X : Cx}
def rSlS : V → Option Int → Option Int → Hp → VK → Prop := fun x lo hi H Q => ∃ z, x = .str z ∧ z.length ≤ sizeLine ∧ Q (.str (Txt.slice z lo hi)) H
def rUpper : V → List V → Hp → VK → Prop := fun x vs H Q => ∃ a, x = .str a ∧ vs = [] ∧ Builtin.Str.tooLong (Txt.upper a).length = false ∧ Q (.str (Txt.upper a)) H
def eqTx (d : PyData) (u : Value) : Bool := match u with
  | .str z _ => PyData.eqv (.str z) d
  | _ => false
def rInS (K : PySem.W.Frag) : R2 := fun x y H Q => ∃ t d p, ∃ ws : List Str, y = .ref p ∧ SqL K H p (ws.map V.str) ∧ (∀ z ∈ ws, PyData.strOk z = true) ∧ Dt K t H d x ∧ Q (.bl (ws.any fun z => PyData.eqv (.str z) d)) H
end
section
variable {H : Hp} {Q : VK}
theorem r_ixS {z : Str} {i : Int} : rIxS (.str z) (.int i) H Q = ∃ c, z.length ≤ sizeLine ∧ atI z.cps.toList i = some c ∧ Q (.str ⟨#[c]⟩) H := by
  unfold rIxS
  exact propext ⟨fun ⟨a, b, c, h1, h2, h⟩ => by cases h1; cases h2; exact ⟨c, h⟩, fun ⟨c, h⟩ => ⟨z, i, c, rfl, rfl, h⟩⟩
theorem r_slS {z : Str} {lo hi : Option Int} : rSlS (.str z) lo hi H Q = (z.length ≤ sizeLine ∧ Q (.str (Txt.slice z lo hi)) H) := by
  unfold rSlS
  exact propext ⟨fun ⟨a, h1, h⟩ => by cases h1; exact h, fun h => ⟨z, rfl, h⟩⟩
def rAddS : R2 := fun x y H Q => ∃ i j, x = .str i ∧ y = .str j ∧ i.length + j.length ≤ sizeLine ∧ Q (.str (i ++ j)) H
theorem r_addS {i j : Str} : rAddS (.str i) (.str j) H Q = (i.length + j.length ≤ sizeLine ∧ Q (.str (i ++ j)) H) := by
  unfold rAddS
  exact propext ⟨fun ⟨a, b, h1, h2, h⟩ => by cases h1; cases h2; exact h, fun h => ⟨i, j, rfl, rfl, h⟩⟩
end
section
variable {K : PySem.W.Frag} {σ : St} {H : Hp} {Q : VK} {te : TE} {ta : TA}
theorem r_bm0 {T : String} {rr : V → List V → Hp → VK → Prop} : tBM0 K T rr te σ H Q = te σ H fun x H1 => tyV K T x H1 ∧ rr x [] H1 Q := rfl
theorem r_rng2 {R : It → Hp → Prop} : iRng2 ta σ H R = ta σ H fun vs H1 => ∃ i j : Int, vs = [.int i, .int j] ∧ (-(2 ^ 62) ≤ i ∧ i < 2 ^ 62 ∧ -(2 ^ 62) ≤ j ∧ j < 2 ^ 62) ∧ R (Itr i (j - i).toNat) H1 := rfl
end
section
variable {X : Cx}
def rRange2 : List V → Hp → VK → Prop := fun xs H Q => ∃ i j, xs = [.int i, .int j] ∧ ∀ r, H r = none → Q (.ref r) (upd H r (.rng i j))
def rRange1 : List V → Hp → VK → Prop := fun xs H Q => ∃ j, xs = [.int j] ∧ ∀ r, H r = none → Q (.ref r) (upd H r (.rng 0 j))
def rngV (lo : Int) (n : Nat) : List V := (List.range n).map fun (i : Nat) => V.int (lo + (i : Int))
def rListRng : List V → Hp → VK → Prop := fun xs H Q => ∃ r lo hi, xs = [.ref r] ∧ H r = some (.rng lo hi) ∧ -(2 ^ 62) ≤ lo ∧ lo < 2 ^ 62 ∧ -(2 ^ 62) ≤ hi ∧ hi < 2 ^ 62 ∧ (hi - lo).toNat ≤ 1000 ∧ ∀ l, H l = none → Q (.ref l) (upd H l (.lst (rngV lo (hi - lo).toNat)))
end
end L2
namespace L2
open PySem PySem.Spec PyProof.Rows
def All2 {α β : Type} (P : α → β → Prop) : List α → List β → Prop
  | [], [] => True
  | a :: as, b :: bs => P a b ∧ All2 P as bs
  | _, _ => False
theorem All2.imp {α β : Type} {P R : α → β → Prop} (h : ∀ a b, P a b → R a b) : ∀ {as : List α} {bs : List β}, All2 P as bs → All2 R as bs
  | [], [], _ => trivial
  | a :: as, b :: bs, ⟨h1, h2⟩ => ⟨h a b h1, All2.imp h h2⟩
  | [], _ :: _, z => z.elim
  | _ :: _, [], z => z.elim
theorem All2.snoc {α β : Type} {P : α → β → Prop} {a : α} {b : β} (hp : P a b) : ∀ {as : List α} {bs : List β}, All2 P as bs → All2 P (as ++ [a]) (bs ++ [b])
  | [], [], _ => ⟨hp, trivial⟩
  | _ :: as, _ :: bs, ⟨h1, h2⟩ => ⟨h1, All2.snoc hp h2⟩
  | [], _ :: _, z => z.elim
  | _ :: _, [], z => z.elim
theorem All2.len {α β : Type} {P : α → β → Prop} : ∀ {as : List α} {bs : List β}, All2 P as bs → as.length = bs.length
  | [], [], _ => rfl
  | _ :: as, _ :: bs, ⟨_, h2⟩ => by rw [List.length_cons, List.length_cons, All2.len h2]
  | [], _ :: _, z => z.elim
  | _ :: _, [], z => z.elim
theorem All2.eq {α β : Type} {f : α → β} : ∀ {as : List α} {bs : List β}, All2 (fun a b => b = f a) as bs → bs = as.map f
  | [], [], _ => rfl
  | a :: as, b :: bs, ⟨h1, h2⟩ => by rw [h1, All2.eq h2]; rfl
  | [], _ :: _, z => z.elim
  | _ :: _, [], z => z.elim
theorem small16 {n : Nat} (h : n ≤ 1000000) : n < sizeLine := by rw [sizeLine_eq]; omega
theorem comp_gen {K : PySem.W.Frag} {σ : St} {H : Hp} {Q : VK} {te : TE} {tt : TT} {wi : TI} {J : It} {n : Nat} (val : Nat → V) (f : Nat → Bool) (Pr : Nat → V → Hp → Prop)
    (hwi : ∀ R : It → Hp → Prop, R J H → wi σ H R) (hst : ∀ H', Same H H' → J.stop n H')
    (hgo : ∀ i H', i < n → Same H H' → J.go i H' ∧ ∀ x H'', J.yld i H' x H'' → x = val i ∧ H'' = H') (hz : n ≤ 1000000)
    (mono : ∀ i y H1 H2, Tk K H1 H2 → Pr i y H1 → Pr i y H2)
    (test : ∀ i H', i < n → Same H H' → ∀ Q' : Bool → Hp → Prop, (∀ H'', Same H' H'' → Q' (f i) H'') → tt (some (val i) :: σ) H' Q')
    (elt : ∀ i H', i < n → f i = true → Same H H' → ∀ Q' : VK, (∀ y H'', Same H' H'' → Pr i y H'' → Q' y H'') → te (some (val i) :: σ) H' Q')
    (q : ∀ D ys H', Same H H' → H D = none → H' D = some (.lst ys) → All2 (fun i y => Pr i y H') ((List.range n).filter f) ys → Q (.ref D) H') : tComp wi tt te σ H Q := by
  unfold tComp
  refine hwi _ fun D hD => ⟨fun i m H' => m = n - i ∧ i ≤ n ∧ Same H H' ∧ ∃ ys, H' D = some (.lst ys) ∧ All2 (fun i y => Pr i y H') ((List.range i).filter f) ys, ⟨_, rfl, Nat.zero_le _, fun b o h => by rw [upd_ne (ne_of_none h hD)]; exact h, [], upd_same, trivial⟩, ?_⟩
  rintro i m H1 ⟨rfl, hi, S, ys, hys, ha⟩
  by_cases c : i = n
  · subst c
    exact .inl ⟨hst _ S, q D ys H1 S hD hys ha⟩
  · obtain ⟨g1, g2⟩ := hgo i H1 (by omega) S
    refine .inr ⟨g1, fun x H2 hx => ?_⟩
    obtain ⟨rfl, eH⟩ := g2 x H2 hx
    rw [eH]
    refine test i H1 (by omega) S _ fun H3 S3 => ?_
    have hr : (List.range (i + 1)).filter f = (List.range i).filter f ++ (if f i = true then [i] else []) := by
      rw [List.range_succ, List.filter_append]
      congr 1
      simp only [List.filter_cons, List.filter_nil]
    cases hf : f i with
    | false =>
      rw [if_neg (by simp)]
      rw [hf, if_neg (by simp), List.append_nil] at hr
      exact ⟨_, by omega, rfl, by omega, S.trans S3, ys, S3 _ _ hys, by rw [hr]; exact ha.imp fun i y h => mono i y _ _ S3.tk h⟩
    | true =>
      rw [if_pos rfl]
      rw [hf, if_pos rfl] at hr
      refine elt i H3 (by omega) hf (S.trans S3) _ fun y H4 S4 hy => ?_
      have h4 := S4 _ _ (S3 _ _ hys)
      have hlen : ys.length ≤ i := by
        have := ha.len
        rw [← this]
        exact Nat.le_trans (List.length_filter_le _ _) (by rw [List.length_range]; exact Nat.le_refl _)
      have tku : Tk K H4 (upd H4 D (.lst (ys ++ [y]))) := Tk.updL h4
      refine ⟨ys, h4, small16 (by omega), _, by omega, rfl, by omega, fun b o h => ?_, _, upd_same, ?_⟩
      · rw [upd_ne (ne_of_none h hD)]
        exact S4 _ _ (S3 _ _ (S _ _ h))
      · rw [hr]
        exact All2.snoc (P := fun i z => Pr i z (upd H4 D (.lst (ys ++ [y])))) (mono _ _ _ _ tku hy) (ha.imp fun i y h => mono i y _ _ ((S3.tk.trans S4.tk).trans tku) h)
section
variable {K : PySem.W.Frag} {σ : St} {H : Hp} {Q : VK} {te : TE} {tt : TT}
theorem comp_tG {ta : TE} {a : Addr} {xs : List V} (f : Nat → Bool) (Pr : Nat → V → Hp → Prop) (hta : ∀ R : VK, R (.ref a) H → ta σ H R) (hs : SqT K H a xs) (hz : xs.length ≤ 1000000)
    (mono : ∀ i y H1 H2, Tk K H1 H2 → Pr i y H1 → Pr i y H2)
    (test : ∀ i x H', xs[i]? = some x → Same H H' → ∀ Q' : Bool → Hp → Prop, (∀ H'', Same H' H'' → Q' (f i) H'') → tt (some x :: σ) H' Q')
    (elt : ∀ i x H', xs[i]? = some x → f i = true → Same H H' → ∀ Q' : VK, (∀ y H'', Same H' H'' → Pr i y H'' → Q' y H'') → te (some x :: σ) H' Q')
    (q : ∀ D ys H', Same H H' → H D = none → H' D = some (.lst ys) → All2 (fun i y => Pr i y H') ((List.range xs.length).filter f) ys → Q (.ref D) H') : tComp (iTup K ta) tt te σ H Q := by
  have get : ∀ i, i < xs.length → xs[i]? = some (xs.getD i .non) := fun i hi => by rw [List.getD_eq_getElem?_getD, List.getElem?_eq_getElem hi]; rfl
  refine comp_gen (K := K) (J := Itt K a) (n := xs.length) (fun i => xs.getD i .non) f Pr (fun R h => hta _ ⟨a, rfl, ⟨xs, hs⟩, h⟩) (fun H' S => ⟨xs, Same.sqT hs S, Nat.le_refl _⟩) (fun i H' hi S => ?_) hz mono (fun i H' hi S Q' hq => test i _ H' (get i hi) S Q' hq) (fun i H' hi hf S Q' hq => elt i _ H' (get i hi) hf S Q' hq) q
  refine ⟨⟨xs, _, Same.sqT hs S, get i hi⟩, fun x H'' ⟨h1, h2⟩ => ?_⟩
  have e := h2 xs (Same.sqT hs S)
  rw [get i hi] at e
  exact ⟨(Option.some.inj e).symm, h1⟩
theorem comp_lG {ta : TE} {a : Addr} {xs : List V} (f : Nat → Bool) (Pr : Nat → V → Hp → Prop) (hta : ∀ R : VK, R (.ref a) H → ta σ H R) (hs : SqL K H a xs) (hz : xs.length ≤ 1000000)
    (mono : ∀ i y H1 H2, Tk K H1 H2 → Pr i y H1 → Pr i y H2)
    (test : ∀ i x H', xs[i]? = some x → Same H H' → ∀ Q' : Bool → Hp → Prop, (∀ H'', Same H' H'' → Q' (f i) H'') → tt (some x :: σ) H' Q')
    (elt : ∀ i x H', xs[i]? = some x → f i = true → Same H H' → ∀ Q' : VK, (∀ y H'', Same H' H'' → Pr i y H'' → Q' y H'') → te (some x :: σ) H' Q')
    (q : ∀ D ys H', Same H H' → H D = none → H' D = some (.lst ys) → All2 (fun i y => Pr i y H') ((List.range xs.length).filter f) ys → Q (.ref D) H') : tComp (iList K ta) tt te σ H Q := by
  have get : ∀ i, i < xs.length → xs[i]? = some (xs.getD i .non) := fun i hi => by rw [List.getD_eq_getElem?_getD, List.getElem?_eq_getElem hi]; rfl
  refine comp_gen (K := K) (J := Itl K a) (n := xs.length) (fun i => xs.getD i .non) f Pr (fun R h => hta _ ⟨a, rfl, ⟨xs, hs⟩, h⟩) (fun H' S => ⟨xs, S.seq hs, Nat.le_refl _⟩) (fun i H' hi S => ?_) hz mono (fun i H' hi S Q' hq => test i _ H' (get i hi) S Q' hq) (fun i H' hi hf S Q' hq => elt i _ H' (get i hi) hf S Q' hq) q
  refine ⟨⟨xs, _, S.seq hs, get i hi⟩, fun x H'' ⟨h1, h2⟩ => ?_⟩
  have e := h2 xs (S.seq hs)
  rw [get i hi] at e
  exact ⟨(Option.some.inj e).symm, h1⟩
theorem comp_rG {ta : TA} {m : Nat} (f : Nat → Bool) (Pr : Nat → V → Hp → Prop) (hta : ∀ R : List V → Hp → Prop, R [.int m] H → ta σ H R) (hz : m ≤ 1000000)
    (mono : ∀ i y H1 H2, Tk K H1 H2 → Pr i y H1 → Pr i y H2)
    (test : ∀ i H', i < m → Same H H' → ∀ Q' : Bool → Hp → Prop, (∀ H'', Same H' H'' → Q' (f i) H'') → tt (some (.int ((i : Nat) : Int)) :: σ) H' Q')
    (elt : ∀ i H', i < m → f i = true → Same H H' → ∀ Q' : VK, (∀ y H'', Same H' H'' → Pr i y H'' → Q' y H'') → te (some (.int ((i : Nat) : Int)) :: σ) H' Q')
    (q : ∀ D ys H', Same H H' → H D = none → H' D = some (.lst ys) → All2 (fun i y => Pr i y H') ((List.range m).filter f) ys → Q (.ref D) H') : tComp (iRng1 ta) tt te σ H Q := by
  refine comp_gen (K := K) (J := Itr 0 m) (n := m) (fun i => .int ((i : Nat) : Int)) f Pr (fun R h => hta _ ⟨m, rfl, by omega, by omega, by rw [Int.toNat_natCast]; exact h⟩) (fun H' S => ?_) (fun i H' hi S => ?_) hz mono test elt q
  · exact Nat.le_refl _
  · refine ⟨hi, fun x H'' h => ?_⟩
    obtain ⟨h1, h2⟩ := h
    exact ⟨by rw [h2]; congr 1; omega, h1⟩
end
section
variable {K : PySem.W.Frag} {ns : List Int} {t sc p : Addr} {H₀ H H' : Hp}
theorem TapeS.same (h : TapeS K ns t sc H) (e : Same H H') : TapeS K ns t sc H' := by
  obtain ⟨sp, cr, wy, e1, l⟩ := h
  exact ⟨sp, cr, wy, e _ _ e1, l.on e.ext⟩
theorem CurS.same (c : CurS K ns t sc H₀ H) (e : Same H H') : CurS K ns t sc H₀ H' := ⟨c.tape.same e, c.ext.trans e.ext⟩
theorem CurS.new {o : HO} (c : CurS K ns t sc H₀ H) (hp : H p = none) : CurS K ns t sc H₀ (upd H p o) := c.same (same_new hp o)
theorem CurS.free (c : CurS K ns t sc H₀ H) (hp : H p = none) : H₀ p = none ∨ p = t := by
  by_cases z : p = t
  · exact .inr z
  · left
    cases q : H₀ p with
    | none => rfl
    | some o =>
      have := c.ext _ _ (fun z' => absurd z' z) q
      rw [hp] at this; cases this
theorem TapeS.ne (h : TapeS K ns t sc H) (hp : H p = none) : p ≠ t := fun z => by
  obtain ⟨_, _, _, e, _⟩ := h
  rw [z, e] at hp; cases hp
theorem CurS.free' (c : CurS K ns t sc H₀ H) (hp : H p = none) : H₀ p = none := (c.free hp).elim id fun z => absurd z (c.tape.ne hp)
end
theorem comp_preT {K : PySem.W.Frag} {σ : St} {H : Hp} {Q : VK} {te : TE} {tt : TT} {ta : TE} (h : ta σ H fun x H1 => tComp (iTup K (tC x)) tt te σ H1 Q) : tComp (iTup K ta) tt te σ H Q := h
end L2
namespace L2
open PySem PySem.Spec PyProof.Rows
def GetsD (K : PySem.W.Frag) (t : Addr) (H0 : Hp) (σ : St) (ta : TE) (d : PyData) : Prop := ∀ (H : Hp) (Q : VK), Same H0 H → (∀ v H', Same H H' → Dt K t H' d v → Q v H') → ta σ H Q
def GetsL (K : PySem.W.Frag) (t : Addr) (H0 : Hp) (σ : St) (tr : TA) (ds : List PyData) : Prop := ∀ (H : Hp) (L : List V → Hp → Prop), Same H0 H → (∀ vs H', Same H H' → DtL K t H' ds vs → L vs H') → tr σ H L
section
variable {K : PySem.W.Frag} {t : Addr} {H0 : Hp} {σ : St} {d : PyData} {ds : List PyData} {ta : TE} {tr : TA}
theorem gd_non : GetsD K t H0 σ (tC .non) .none := fun H Q _ q => q _ _ (.refl _) .non
theorem gd_bl {b : Bool} : GetsD K t H0 σ (tC (.bl b)) (.bool b) := fun H Q _ q => q _ _ (.refl _) (.bl b)
theorem gd_int {i : Int} : GetsD K t H0 σ (tC (.int i)) (.int i) := fun H Q _ q => q _ _ (.refl _) (.int i)
theorem gd_str {x : Str} (h : PyData.strOk x = true := by decide +kernel) : GetsD K t H0 σ (tC (.str x)) (.str x) := fun H Q _ q => q _ _ (.refl _) (.str h)
theorem gd_var {i : Nat} {v : V} (hi : σ[i]? = some (some v)) (hd : Dt K t H0 d v) : GetsD K t H0 σ (tVar i) d := fun H Q S q => by
  rw [r_var]
  exact ⟨v, hi, q _ _ (.refl _) (Same.dt hd S)⟩
theorem gd_neg {i : Int} : GetsD K t H0 σ (tUn (rU fun i => V.int (-i)) (tC (.int i))) (.int (-i)) := fun H Q _ q => by
  rw [r_un, r_c]
  exact ⟨i, rfl, q _ _ (.refl _) (.int _)⟩
theorem gd_pow {i j : Int} (h : CPow i j) : GetsD K t H0 σ (tOp (rI CPow fun i j => V.int (i ^ j.toNat)) (tC (.int i)) (tC (.int j))) (.int (i ^ j.toNat)) := fun H Q _ q => ⟨i, j, rfl, rfl, h, q _ _ (.refl _) (.int _)⟩
theorem gd_nil : GetsL K t H0 σ tNil [] := fun H L _ q => q _ _ (.refl _) .nil
theorem gd_cons (h1 : GetsD K t H0 σ ta d) (h2 : GetsL K t H0 σ tr ds) : GetsL K t H0 σ (tCons ta tr) (d :: ds) := fun H L S q => by
  rw [r_cons]
  refine h1 H _ S fun v H1 S1 hv => h2 H1 _ (S.trans S1) fun vs H2 S2 hvs => q _ _ (S1.trans S2) (.cons (Same.dt hv S2) hvs)
theorem gd_tup (h : GetsL K t H0 σ tr ds) (hz : ds.length ≤ 1000 := by simp) : GetsD K t H0 σ (tTup tr) (.tuple ds) := fun H Q S q => by
  rw [r_tup]
  refine h H _ S fun vs H1 S1 hvs => ⟨small6 (by rw [← hvs.len]; exact hz), fun p hp => ?_⟩
  exact q _ _ (S1.trans (same_new hp _)) (Dt.newT hp hvs)
theorem gd_lst (ht : H0 t ≠ none) (h : GetsL K t H0 σ tr ds) (hz : ds.length ≤ 1000 := by simp) : GetsD K t H0 σ (tLst tr) (.list ds) := fun H Q S q => by
  rw [r_lst]
  refine h H _ S fun vs H1 S1 hvs => ⟨small6 (by rw [← hvs.len]; exact hz), fun p hp => ?_⟩
  refine q _ _ (S1.trans (same_new hp _)) (Dt.newL hp (fun z => ?_) hvs)
  subst z
  exact ht ((S.trans S1).free hp)
end
end L2
namespace L2
open PySem PySem.Spec PyProof.Rows M
theorem noL_encI (cs : List Int) : noL (encI cs) = true := by
  unfold encI
  simp only [noL]
  induction cs with
  | nil => rfl
  | cons c cs ih => simp only [List.map_cons, noLs, noL, ih]; rfl
theorem noL_encT (t : Th) : noL (encT t) = true := rfl
theorem noLs_encT : ∀ ts : List Th, noLs (ts.map encT) = true
  | [] => rfl
  | t :: ts => by simp only [List.map_cons, noLs, noL_encT t, noLs_encT ts]; rfl
theorem noL_encSn (s : Sn) : noL (encSn s) = true := by simp only [encSn, noL, noLs, noL_encI]; rfl
def ThV (K : PySem.W.Frag) (H : Hp) (t : Th) (v : V) : Prop := Dt K 0 H (encT t) v
def ThL (K : PySem.W.Frag) (H : Hp) (ts : List Th) (vs : List V) : Prop := DtL K 0 H (ts.map encT) vs
def SnV (K : PySem.W.Frag) (H : Hp) (s : Sn) (v : V) : Prop := Dt K 0 H (encSn s) v
def DwV (K : PySem.W.Frag) (H : Hp) (n : Nat) (b t : Int) (ts : List Th) (a : Addr) : Prop := ∃ ta vs, SqT K H a [.int n, .int b, .int t, .ref ta] ∧ SqT K H ta vs ∧ ThL K H ts vs
section
variable {K : PySem.W.Frag} {H H' : Hp} {t : Th} {ts : List Th} {s : Sn} {v : V} {vs : List V} {n : Nat} {b tr : Int} {a : Addr}
theorem ThV.tk (h : ThV K H t v) (e : Tk K H H') : ThV K H' t v := Dt.tk e _ _ (noL_encT t) h
theorem ThV.same (h : ThV K H t v) (e : Same H H') : ThV K H' t v := h.tk e.tk
theorem ThL.tk (h : ThL K H ts vs) (e : Tk K H H') : ThL K H' ts vs := DtL.tk e _ _ (noLs_encT ts) h
theorem ThL.same (h : ThL K H ts vs) (e : Same H H') : ThL K H' ts vs := h.tk e.tk
theorem SnV.tk (h : SnV K H s v) (e : Tk K H H') : SnV K H' s v := Dt.tk e _ _ (noL_encSn s) h
theorem SnV.same (h : SnV K H s v) (e : Same H H') : SnV K H' s v := h.tk e.tk
theorem SnV.dt {q : Addr} (h : SnV K H s v) : Dt K q H (encSn s) v := Dt.tk (.refl H) _ _ (noL_encSn s) h
theorem DwV.tk (h : DwV K H n b tr ts a) (e : Tk K H H') : DwV K H' n b tr ts a := by
  obtain ⟨ta, vs, h1, h2, h3⟩ := h
  exact ⟨ta, vs, e _ _ h1, e _ _ h2, h3.tk e⟩
theorem DwV.same (h : DwV K H n b tr ts a) (e : Same H H') : DwV K H' n b tr ts a := h.tk e.tk
theorem ThL.len (h : ThL K H ts vs) : ts.length = vs.length := by
  have := DtL.len h
  rwa [List.length_map] at this
theorem ThL.at {i : Nat} (h : ThL K H ts vs) (e : ts[i]? = some t) : ∃ v, vs[i]? = some v ∧ ThV K H t v := DtL.get (i := i) h (by rw [List.getElem?_map, e]; rfl)
theorem ThL.nil : ThL K H [] [] := by simp [ThL, DtL]
theorem ThL.snoc (h : ThL K H ts vs) (q : ThV K H t v) : ThL K H (ts ++ [t]) (vs ++ [v]) := by
  induction ts generalizing vs with
  | nil =>
    simp only [ThL, List.map_nil, DtL] at h
    subst h
    exact .cons q .nil
  | cons u ts ih =>
    simp only [ThL, List.map_cons, DtL] at h
    obtain ⟨w, ws, rfl, h1, h2⟩ := h
    exact .cons h1 (ih h2)
theorem ints_dtl (q : Addr) : ∀ cs : List Int, DtL K q H (cs.map PyData.int) (cs.map V.int)
  | [] => .nil
  | c :: cs => .cons (.int c) (ints_dtl q cs)
theorem map_set {cs : List Int} {i : Nat} {c : Int} : (cs.set i c).map V.int = (cs.map V.int).set i (.int c) := by rw [List.map_set]
theorem map_getD {cs : List Int} {i : Nat} (h : i < cs.length) : (cs.map V.int)[i]? = some (.int (cs.getD i 0)) := by rw [List.getElem?_map, List.getD_eq_getElem?_getD, List.getElem?_eq_getElem h]; rfl
end
end L2
namespace L2
open PySem PySem.Spec PyProof.Rows
def compCx2 (X : Cx) (N : List Str) (x z : Str) (scope : Scope) (cl : List (Str × Addr)) (C : Addr) (s : Shared) (H : Hp) (fp : List Addr) : Cx :=
  { X with N := N, s₀ := s, H₀ := H, env := compEnvC scope cl C X.env, outer := X.stack, ex := fp, fn := fun y => decide (y = x ∨ y = z), pn := [], xe := fun _ _ => False }
structure CompScope2 (X : Cx) (N : List Str) (x z : Str) (scope : Scope) (cl : List (Str × Addr)) : Prop where
  clos : closureFor scope X.env = pure cl
  nocell : ∀ y ∈ scope.names, y.2 ≠ .cell
  kind : scope.kind = .function
  names : ∀ y ∈ scope.names, y.2 = .local → scope.names.lookup y.1 = some .local
  loc : scope.names.lookup x = some .local
  loc2 : scope.names.lookup z = some .local
  nd : N.Nodup
  hd : N[0]? = some x
  hd2 : N[1]? = some z
  len : N.length = X.N.length + 2
  tl : ∀ j y, N[j + 2]? = some y → Vis (relabel scope X.env) y → X.N[j]? = some y ∧ X.env.kindOf y = some .cell ∧ Vis X.env.scope y ∧ ((relabel scope X.env).names.lookup y = some .cell ∨ (relabel scope X.env).names.lookup y = some .free) ∧ cl.lookup y = X.env.cells.lookup y
  sub : ∀ y c, cl.lookup y = some c → X.env.cells.lookup y = some c
  has : ∀ y, ((relabel scope X.env).names.lookup y = some .cell ∨ (relabel scope X.env).names.lookup y = some .free) → ∃ c, cl.lookup y = some c
  nox : cl.lookup x = none
  nox2 : cl.lookup z = none
def tComp2 (K : PySem.W.Frag) (wi : TI) (tt : TT) (te : TE) : TE := fun σ H Q => wi σ H fun J H1 => ∀ D, H1 D = none → ∃ W : Nat → Nat → Hp → Prop, (∃ m, W 0 m (upd H1 D (.lst []))) ∧ ∀ i m H, W i m H →
  (J.stop i H ∧ Q (.ref D) H) ∨ (J.go i H ∧ ∀ x H', J.yld i H x H' → ∃ a u v, x = .ref a ∧ SqT K H' a [u, v] ∧ tt (some u :: some v :: σ) H' fun b H2 =>
    if b = true then te (some u :: some v :: σ) H2 fun y H3 => ∃ ys, H3 D = some (.lst ys) ∧ ys.length < sizeLine ∧ ∃ m', m' < m ∧ W (i + 1) m' (upd H3 D (.lst (ys ++ [y])))
    else ∃ m', m' < m ∧ W (i + 1) m' H2)
section
variable {X : Cx} {pins : List (Addr × Obj)} {σ : St} {H : Hp} {s : Shared} {N : List Str} {x z : Str} {scope : Scope} {cl : List (Str × Addr)} {fp : List Addr} {it : Addr} {tn : Nat → Heap → Prop} {J : It} {px pz pt : Pos} {kt : Nat}
theorem compOk2 (S : CompScope2 X N x z scope cl) (I : Inv X pins σ H s) (hf : ∀ b ∈ fp, FpOk X pins H b) (hb : ∀ b ∈ fp, b < s.heap.objs.size) : (compCx2 X N x z scope cl s.heap.objs.size s H fp).Ok where
  mod := I.ok.mod
  kind := S.kind
  glob := I.ok.glob
  blt := I.ok.blt
  above := Nat.le_refl _
  inj := fun y z c h1 h2 => I.ok.inj y z c (S.sub y c h1) (S.sub z c h2)
  has := fun y hy => S.has y hy
  cab := fun y c h1 h2 => by
    have q : cl.lookup y = some c := h2
    rcases (of_decide_eq_true h1 : y = x ∨ y = z) with e | e
    · subst e; rw [S.nox] at q; cases q
    · subst e; rw [S.nox2] at q; cases q
  hd := I.ok.hd
  frames := I.ok.frames
  stk := .inl rfl
  exf := fun b hb' => ⟨Nat.ne_of_lt (hb b hb'), fun y c h => (hf b hb').2.2.2.2.1 y c (S.sub y c h)⟩
  bs := I.bs
  bsz := Nat.le_trans I.ok.bsz I.sz
  noex := fun b o e hb' => by
    rcases (hf b hb').2.2.2.1 with z | z
    · exact I.ok.noex b o e z
    · exact absurd (Nat.lt_of_lt_of_le (Heap.lt_size e) (Nat.le_trans I.ok.bsz z)) (Nat.lt_irrefl _)
  exfs := fun b hb' hs => by
    rcases List.mem_cons.mp (I.stkSub b hs) with z | z
    · exact (hf b hb').2.1 z
    · exact (hf b hb').2.2.1 z
  funs := I.stack
  frf := I.stkFree
theorem compInv2 (S : CompScope2 X N x z scope cl) (I : Inv X pins σ H s) (hf : ∀ b ∈ fp, FpOk X pins H b) (hb : ∀ b ∈ fp, b < s.heap.objs.size) {h' : Heap} {m : Str → Option Value} {tk : Nat} (hn : h'.Ns s.heap.objs.size m)
    (k : ∀ b u, s.heap.get? b = some u → h'.get? b = some u) : Inv (compCx2 X N x z scope cl s.heap.objs.size s H fp) [] (none :: none :: σ) H { s with heap := h', toks := tk } where
  ok := compOk2 S I hf hb
  os := rfl
  bare := I.bare
  base := Un.kept k
  loc := ⟨m, hn, fun i y v e1 e2 e3 => by
    match i, e1, e2 with
    | 0, _, e2 => simp at e2
    | 1, _, e2 => simp at e2
    | j + 2, e1, e2 =>
      obtain ⟨a1, a2, a3, a4, a5⟩ := S.tl j y e1 e3
      obtain ⟨m0, hn0, hl0⟩ := I.loc
      obtain ⟨u, r, l⟩ := hl0 j y v a1 (by simpa using e2) a3
      rcases l with ⟨hk, _⟩ | ⟨_, c, hc, ⟨o, ho, hd⟩⟩
      · rw [a2] at hk; cases hk
      · exact ⟨u, r, .inr ⟨a4, c, a5.trans hc, o, k _ _ ho, hd⟩⟩⟩
  cell := fun y c e => by
    obtain ⟨v, o, ho, hd⟩ := I.cell y c (S.sub y c e)
    exact ⟨v, o, k _ _ ho, hd⟩
  free := I.hok.fresh (Nat.le_refl _)
  freeC := fun y c e => I.freeC y c (S.sub y c e)
  pin := fun p hp => absurd (show p ∈ ([] : List (Addr × Obj)) from hp) (by simp)
  hok := I.hok.kept k
  len := by
    show (none :: none :: σ).length = N.length
    rw [S.len, ← I.len, List.length_cons, List.length_cons]
theorem comp_block2 {elt iter : Expr} {ifs : List Expr} {pos : Pos} {te : TE} {tt : TT} {Q : V → Hp → Prop} {RR : Value → Addr → Result → Shared → Prop} {E : Value → Shared → Prop} (hc : X.calm = true) (S : CompScope2 X N x z scope cl) (T : Turn X.prog X.w X.K (.Tuple [.Name x px, .Name z pz] kt pt) J fp it tn)
    (hts : ∀ C s H fp, PTs (compCx2 X N x z scope cl C s H fp) ifs tt) (helt : ∀ C s H fp, PE (compCx2 X N x z scope cl C s H fp) elt te)
    (I : Inv X pins σ H s) (t0 : tn 0 s.heap) (hf : ∀ b ∈ fp, FpOk X pins H b)
    (hq : ∀ D, H D = none → ∃ W : Nat → Nat → Hp → Prop, (∃ m, W 0 m (upd H D (.lst []))) ∧ ∀ i m H, W i m H →
      (J.stop i H ∧ Q (.ref D) H) ∨ (J.go i H ∧ ∀ x H', J.yld i H x H' → ∃ a u v, x = .ref a ∧ SqT X.K H' a [u, v] ∧ tt (some u :: some v :: σ) H' fun b H2 =>
        if b = true then te (some u :: some v :: σ) H2 fun y H3 => ∃ ys, H3 D = some (.lst ys) ∧ ys.length < sizeLine ∧ ∃ m', m' < m ∧ W (i + 1) m' (upd H3 D (.lst (ys ++ [y])))
        else ∃ m', m' < m ∧ W (i + 1) m' H2))
    (hRR : ∀ D C H' s', Inv X pins σ H' s' → Q (.ref D) H' → (∃ m, s'.heap.Ns C m) → H' C = none → C ≠ X.env.locals → X.s₀.heap.objs.size ≤ C → (∀ y c, X.env.cells.lookup y = some c → c ≠ C) → (∀ p ∈ X.pn ++ pins, p.1 ≠ C) → RR (.ref D) C (.ok .next) s') :
    wpAny (model X.prog X.w) X.A (newList []) (fun acc s₃ => wpAny (model X.prog X.w) X.A (newFunctionEnv scope X.env.globals cl [] X.env.qual none .none (some X.env)) (fun cenv s₄ =>
      codeAny (model X.prog X.w) X.A (.compStart (.ListComp elt [⟨.Tuple [.Name x px, .Name z pz] kt pt, iter, ifs, 0⟩] scope pos) 0 (.ref it) acc { cenv with scope := relabel scope X.env }) (RR acc cenv.locals) s₄) E s₃) E s := by
  have hD : H s.heap.objs.size = none := I.hok.fresh (Nat.le_refl _)
  obtain ⟨W, ⟨m0, w0⟩, turn⟩ := hq _ hD
  refine wpAny_newObj_type (wpAny_newFunctionEnv S.nocell (by intro y hy; simp at hy) (fun h₁ hns₁ hsb₁ => ?_) S.kind)
  dsimp only at hns₁ hsb₁ ⊢
  have I3 : Inv X pins σ (upd H s.heap.objs.size (.lst [])) { s with heap := s.heap.push { cls := .type "list", data := .seq ([] : List Value).toArray }, toks := s.toks } := I.lnew .nil (Nat.zero_le _)
  have fpLt : ∀ b ∈ fp, b < s.heap.objs.size := fun b hb => by
    obtain ⟨o, ho, _⟩ := T.obj _ _ t0 b hb
    exact Heap.lt_size ho
  have hf3 : ∀ b ∈ fp, FpOk X pins (upd H s.heap.objs.size (.lst [])) b := fun b hb => by
    refine ⟨?_, (hf b hb).2⟩
    rw [upd_ne (Nat.ne_of_lt (fpLt b hb))]
    exact (hf b hb).1
  generalize hH2 : s.heap.push { cls := .type "list", dict := none, data := .seq ([] : List Value).toArray } = G at hns₁ hsb₁ I3 ⊢
  have hG : G.objs.size = s.heap.objs.size + 1 := by rw [← hH2, Heap.size_push]
  have kG : ∀ b o, G.get? b = some o → h₁.get? b = some o := fun b o e => hsb₁.extBut b o (Nat.ne_of_lt (Heap.lt_size e)) (Heap.get?_push_of_some _ e)
  have ks : ∀ b o, s.heap.get? b = some o → h₁.get? b = some o := fun b o e => kG b o (hH2 ▸ Heap.get?_push_of_some _ e)
  have fpLt3 : ∀ b ∈ fp, b < G.objs.size := fun b hb => by rw [hG]; exact Nat.lt_succ_of_lt (fpLt b hb)
  have t1 : tn 0 h₁ := T.keep _ _ _ t0 fun b _ o e => ks b o e
  have I4 := compInv2 (tk := s.toks + ([] : List (Str × Value)).length) S I3 hf3 fpLt3 hns₁ kG
  generalize hX' : compCx2 X N x z scope cl G.objs.size { s with heap := G, toks := s.toks } (upd H s.heap.objs.size (.lst [])) fp = X' at I4
  have e1 : X'.prog = X.prog := by rw [← hX']; rfl
  have e2 : X'.w = X.w := by rw [← hX']; rfl
  have e3 : X'.A = X.A := by rw [← hX']; rfl
  have e4 : X'.env = compEnvC scope cl G.objs.size X.env := by rw [← hX']; rfl
  have e5 : X'.calm = true := by rw [← hX']; exact hc
  have e6 : X'.xe = fun _ _ => False := by rw [← hX']; rfl
  have e7 : X'.K = X.K := by rw [← hX']; rfl
  have helt' : PE X' elt te := hX' ▸ helt _ _ _ _
  have hts' : PTs X' ifs tt := hX' ▸ hts _ _ _ _
  have hfp : ∀ {H' : Hp}, (∀ b ∈ fp, H' b = none) → ∀ b ∈ fp, FpOk X' [] H' b := fun {H'} hn b hb => by
    obtain ⟨f0, f1, f2, f3, f4, f5⟩ := hf3 b hb
    refine ⟨hn b hb, ?_, ?_, ?_, ?_, ?_⟩
    · rw [e4]; exact Nat.ne_of_lt (fpLt3 b hb)
    · subst hX'
      intro z
      rcases List.mem_cons.mp (I3.stkSub b z) with q | q
      · exact f1 q
      · exact f2 q
    · subst hX'; exact .inl hb
    · rw [e4]; exact fun y c q => f4 y c (S.sub y c q)
    · subst hX'
      intro p hp
      exact absurd (show p ∈ ([] : List (Addr × Obj)) from hp) (by simp)
  have nd' : X'.N.Nodup := by subst hX'; exact S.nd
  have hi' : X'.N[0]? = some x := by subst hX'; exact S.hd
  have hi2' : X'.N[1]? = some z := by subst hX'; exact S.hd2
  have hx' : X'.env.scope.names.lookup x = some .local := by rw [e4]; exact lookup_relabel_local S.loc
  have hz' : X'.env.scope.names.lookup z = some .local := by rw [e4]; exact lookup_relabel_local S.loc2
  have pg : PG X' (.Tuple [.Name x px, .Name z pz] kt pt) (gTup X'.K 2 (gCons (gName 0) (gCons (gName 1) gNil))) :=
    pg_tup e5 (pgs_cons (pg_name nd' hi' (.inl hx') (.inr hx')) (pgs_cons (pg_name nd' hi2' (.inl hz') (.inr hz')) pgs_nil))
  have loop : ∀ s₅ : Shared, s₅ = { s with heap := h₁, toks := s.toks + ([] : List (Str × Value)).length } →
      codeAny (model X.prog X.w) X.A (.compLoop (.ListComp elt [⟨.Tuple [.Name x px, .Name z pz] kt pt, iter, ifs, 0⟩] scope pos) 0 (.ref it) (.ref s.heap.objs.size) (compEnvC scope cl G.objs.size X.env)) (RR (.ref s.heap.objs.size) G.objs.size) s₅ := by
    rintro s₅ rfl
    refine comp_loop (fun n s' => ∃ i v0 v1 H', Inv X' [] (v0 :: v1 :: σ) H' s' ∧ tn i s'.heap ∧ (∀ b ∈ fp, H' b = none) ∧ W i n H') ?_ m0 ⟨0, none, none, _, I4, t1, fun b hb => (hf3 b hb).1, w0⟩
    rintro n s6 ⟨i, v0, v1, H6, I6, st6, fr6, w6⟩
    rcases turn i n H6 w6 with ⟨stop, qn⟩ | ⟨go, step⟩
    · have dn := T.done X' e1 e2 e7 e5 i [] s6 (v0 :: v1 :: σ) H6 (fun _ _ => False) I6 (hfp fr6) st6 stop
      rw [e3] at dn
      refine thn dn fun r s7 ⟨hr, I7⟩ => ?_
      subst hr
      have u7 := I7.base
      have J7 : Inv X pins σ H6 s7 := by
        refine I3.call' (ch := fp) ?_ (by subst hX'; exact u7) (by subst hX'; exact I7.hok) I7.bare fun b hb => ?_
        · have := I7.os; subst hX'; exact this
        · obtain ⟨_, f1, _, f3, f4, f5⟩ := hf3 b hb
          exact ⟨f3, f1, f4, f5⟩
      refine hRR _ _ H6 s7 J7 qn ?_ ?_ ?_ ?_ ?_ ?_
      · obtain ⟨m, hm, _⟩ := I7.loc
        rw [e4] at hm
        exact ⟨m, hm⟩
      · have := I7.free
        rw [e4] at this
        exact this
      · exact Nat.ne_of_gt I3.lt
      · exact I3.sz
      · intro y c q
        obtain ⟨v, hv⟩ := I3.cell y c q
        exact Nat.ne_of_lt hv.lt
      · intro p hp
        exact Nat.ne_of_lt (Heap.lt_size (I3.pin p hp).1)
    · have itm := T.item X' e1 e2 e7 e5 i [] s6 (v0 :: v1 :: σ) H6 (fun _ _ => False) I6 (hfp fr6) st6 go
      rw [e3] at itm
      refine thn itm fun r s7 ⟨u, hr, h7⟩ => ?_
      subst hr
      refine thn h7 fun _ s8 ⟨xv, H8, I8, r8, y8, st8, fr8⟩ => ?_
      have I8' := I8.pinned (hfp fr8) (T.obj _ _ st8)
      obtain ⟨ta, tu, tv, ext, hsq, hstep⟩ := step xv H8 y8
      have sto := pg _ s8 (v0 :: v1 :: σ) H8 xv u (fun σ' H' => σ' = some tu :: some tv :: σ ∧ H' = H8) I8' r8 ⟨ta, [tu, tv], ext, by rw [e7]; exact hsq, rfl, tu, [tv], rfl, tv, [], rfl, rfl, rfl, rfl⟩
      rw [e1, e2, e3, e4, e6] at sto
      refine thn sto fun _ s9 ⟨σ9, H9, I9, eσ, eH⟩ => ?_
      subst eσ
      subst eH
      have tst := hts' _ s9 (some tu :: some tv :: σ) H9 _ I9 hstep
      rw [e1, e2, e3, e4, e6] at tst
      refine thn tst fun ok s10 ⟨H10, I10, q10⟩ => ?_
      have again : ∀ {s11 : Shared} {H11 : Hp}, Inv X' ([] ++ pinsAt fp s8.heap) (some tu :: some tv :: σ) H11 s11 → (∃ m', m' < n ∧ W (i + 1) m' H11) → ∃ m, m < n ∧ ∃ i v0 v1 H', Inv X' [] (v0 :: v1 :: σ) H' s11 ∧ tn i s11.heap ∧ (∀ b ∈ fp, H' b = none) ∧ W i m H' := fun {s11 H11} J ⟨m', hm, w11⟩ => by
        have pp : ∀ b ∈ fp, ∀ o, s8.heap.get? b = some o → s11.heap.get? b = some o ∧ H11 b = none := fun b hb o e => by
          have := J.pin (b, o) (List.mem_append_right _ (List.mem_append_right _ (mem_pinsAt hb e)))
          exact ⟨this.1, this.2.1⟩
        refine ⟨m', hm, i + 1, some tu, some tv, H11, J.unpinned, T.keep _ _ _ st8 fun b hb o e => (pp b hb o e).1, fun b hb => ?_, w11⟩
        obtain ⟨o, e, d⟩ := T.obj _ _ st8 b hb
        exact (pp b hb o e).2
      cases ok with
      | false =>
        rw [if_neg Bool.false_ne_true] at q10 ⊢
        exact again I10 q10
      | true =>
        rw [if_pos rfl] at q10 ⊢
        have ev := helt' _ s10 (some tu :: some tv :: σ) H10 _ I10 q10
        rw [e1, e2, e3, e4, e6] at ev
        refine thn ev fun y s11 ⟨yv, H11, I11, r11, ys, hys, hz, q11⟩ => ?_
        have ap := mt_append (X := X') _ s11 (some tu :: some tv :: σ) H11 (.ref s.heap.objs.size) [yv] (.ref s.heap.objs.size) [y] (fun _ H' => ∃ m', m' < n ∧ W (i + 1) m' H') I11 rfl (.cons r11 .nil) ⟨_, ys, yv, rfl, rfl, hys, hz, q11⟩
        rw [e1, e2, e3, e6] at ap
        exact thn ap fun _ s12 ⟨_, H12, I12, _, q12⟩ => again I12 q12
  exact codeAny_compStart_list (loop _ rfl) (T.self _ 0 _ _ _ t1 (loop _ rfl))
theorem pe_comp2 {elt iter : Expr} {ifs : List Expr} {pos : Pos} {wi : TI} {te : TE} {tt : TT} (hc : X.calm = true) (S : CompScope2 X N x z scope cl) (hi : PI X (.Tuple [.Name x px, .Name z pz] kt pt) iter wi)
    (hts : ∀ C s H fp, PTs (compCx2 X N x z scope cl C s H fp) ifs tt) (helt : ∀ C s H fp, PE (compCx2 X N x z scope cl C s H fp) elt te) (hs : ∀ v, foldedSetIterable iter X.env v = pure v := by intro _; rfl) :
    PE X (.ListComp elt [⟨.Tuple [.Name x px, .Name z pz] kt pt, iter, ifs, 0⟩] scope pos) (tComp2 X.K wi tt te) := by
  intro pins s σ H Q I h
  rw [eval_ListComp]
  refine wpAny_comprehension_free (use := none) rfl hs S.clos S.kind S.names (thn (hi pins s σ H _ I h) fun v s1 h1 => thn h1 fun itv s2 h2 => ?_)
  obtain ⟨it, fp, tn, J, H2, rfl, I2, T, st2, f2, hq⟩ := h2
  refine comp_block2 (RR := fun acc C => compPost (model X.prog X.w) X.A X.xe none (EP X pins σ Q) acc C) hc S T hts helt I2 st2 f2 hq fun D C H' s' I' q ⟨m, hm⟩ h1 h2 h3 h4 h5 => ?_
  exact ⟨m, hm, fun h' sb => ⟨.ref D, H', I'.turned (it := C) (t' := s'.toks) (sameBut_keeps sb) h1 h2.symm.symm (.inr h3) h4 h5, rfl, q⟩⟩
end
def capComp2 (N N' fr : List Str) (x z : Str) (scope osc : Scope) : Bool :=
  decide (scope.kind = .function) && decide (osc.kind = .function)
    && scope.names.all (fun p => decide (p.2 = .local) || decide (p.2 = .globalImplicit) || (decide (p.2 = .free) && decide (p.1 ∈ fr) && decide (osc.names.lookup p.1 = some .cell)))
    && scope.names.all (fun p => !decide (p.2 = .local) || decide (scope.names.lookup p.1 = some .local))
    && decide (scope.names.lookup x = some .local) && decide ((x :: z :: N').Nodup) && decide (x ∉ fr)
    && N'.all (fun y => !decide (scope.names.lookup y = some .local)) && decide (N'.length = N.length)
    && (N'.zip N).all (fun p => decide (p.1 = p.2) || decide (scope.names.lookup p.1 = none)) && decide (scope.names.lookup z = some .local) && decide (z ∉ fr)
theorem compCap2 {X : Cx} {N N' fr : List Str} {x z : Str} {scope osc : Scope} {cl : List (Str × Addr)} (hN : X.N = N) (ho : X.env.scope = osc) (h : capComp2 N N' fr x z scope osc = true) (hc : closureFor scope X.env = pure cl)
    (hf : cl.map (·.1) = fr) (hcl : ∀ p ∈ cl, X.env.cells.lookup p.1 = some p.2) : CompScope2 X (x :: z :: N') x z scope cl := by
  simp only [capComp2, Bool.and_eq_true, decide_eq_true_eq, List.all_eq_true, Bool.or_eq_true, Bool.not_eq_true', decide_eq_false_iff_not] at h
  obtain ⟨⟨⟨⟨⟨⟨⟨⟨⟨⟨⟨h1, h0⟩, h2⟩, h3⟩, h4⟩, h5⟩, h7⟩, h6⟩, h8⟩, h9⟩, h10⟩, h11⟩ := h
  subst ho
  have rl := relabel_lookup (scope := scope) (env := X.env)
  have fr_of : ∀ y, scope.names.lookup y = some .free → y ∈ fr ∧ X.env.kindOf y = some .cell := fun y e => by
    rcases h2 _ (lookup_mem e) with (z | z) | z
    · cases z
    · cases z
    · exact ⟨z.1.2, z.2⟩
  have vis : ∀ y k, (relabel scope X.env).names.lookup y = some k → (k = .local ∧ scope.names.lookup y = some .local) ∨ (k = .globalImplicit) ∨ (k = .cell ∧ scope.names.lookup y = some .free) := fun y k e => by
    rw [rl y] at e
    cases e0 : scope.names.lookup y with
    | none => rw [e0] at e; cases e
    | some k0 =>
      rw [e0] at e
      simp only [Option.map_some, Option.some.injEq] at e
      rcases h2 _ (lookup_mem e0) with (z | z) | z
      · have z' : k0 = .local := z
        subst z'
        left
        exact ⟨by rw [← e]; rfl, rfl⟩
      · have z' : k0 = .globalImplicit := z
        subst z'
        right; left
        rw [← e]; rfl
      · have z' : k0 = .free := z.1.1
        subst z'
        right; right
        refine ⟨?_, rfl⟩
        rw [← e, if_pos]
        have hk : X.env.kindOf y = some .cell := z.2
        rw [hk, h0]
        rfl
  refine ⟨hc, fun y hy z => ?_, h1, fun y hy e => ?_, h4, h10, h5, rfl, rfl, by rw [hN, List.length_cons, List.length_cons, h8], fun j y e v => ?_, fun y c e => hcl _ (lookup_mem e), fun y e => ?_, ?_, ?_⟩
  · rcases h2 y hy with (e | e) | e
    · rw [z] at e; cases e
    · rw [z] at e; cases e
    · rw [z] at e; cases e.1.1
  · rcases h3 y hy with q | q
    · exact absurd e q
    · exact q
  · have e' : N'[j]? = some y := by simpa using e
    have hy : y ∈ N' := List.mem_of_getElem? e'
    have key : scope.names.lookup y = some .free ∧ (relabel scope X.env).names.lookup y = some .cell := by
      rcases v with v | v | v <;> rcases vis y _ v with z | z | z
      · exact absurd z.2 (h6 y hy)
      · cases z
      · cases z.1
      · cases z.1
      · cases z
      · exact ⟨z.2, v⟩
      · cases z.1
      · cases z
      · cases z.1
    obtain ⟨k1, k2⟩ := key
    obtain ⟨f1, f2⟩ := fr_of y k1
    obtain ⟨c, hcc⟩ := mem_lookup (l := cl) (y := y) (by rw [hf]; exact f1)
    have hj : j < N.length := by rw [← h8]; exact (List.getElem?_eq_some_iff.mp e').1
    have hz : (N'.zip N)[j]? = some (y, N[j]) := by rw [List.getElem?_zip_eq_some]; exact ⟨e', List.getElem?_eq_getElem hj⟩
    have eN : N[j]? = some y := by
      rcases h9 _ (List.mem_of_getElem? hz) with q | q
      · rw [List.getElem?_eq_getElem hj]
        exact congrArg some (show y = N[j] from q).symm
      · have q' : scope.names.lookup y = none := q
        rw [k1] at q'
        cases q'
    exact ⟨by rw [hN]; exact eN, f2, .inr (.inl f2), .inl k2, hcc.trans (hcl _ (lookup_mem hcc)).symm⟩
  · have : scope.names.lookup y = some .free := by
      rcases e with e | e <;> rcases vis y _ e with z | z | z
      · cases z.1
      · cases z
      · exact z.2
      · cases z.1
      · cases z
      · cases z.1
    exact mem_lookup (by rw [hf]; exact (fr_of y this).1)
  · cases e : cl.lookup x with
    | none => rfl
    | some c => exact absurd (by rw [← hf]; exact List.mem_map_of_mem (lookup_mem e)) h7
  · cases e : cl.lookup z with
    | none => rfl
    | some c => exact absurd (by rw [← hf]; exact List.mem_map_of_mem (lookup_mem e)) h11
end L2
namespace L2
open PySem PySem.Spec PyProof.Rows
structure NxOk (prog : Program) (w : World) (it : Addr) (fp : List Addr) (get : Nat → Option Value) (st : Nat → Heap → Prop) : Prop where
  item : ∀ (A : Around) (E : Value → Shared → Prop) (s : Shared) (k : Nat) (x : Value) (Q : Value → Shared → Prop), st k s.heap → get k = some x →
    (∀ h', st (k + 1) h' → Heap.SameBut it s.heap h' → Q x { s with heap := h' }) → wpAny (model prog w) A (Builtin.SmallTypes.nextOf (.ref it)) Q E s
  stop : ∀ (A : Around) (E : Value → Shared → Prop) (s : Shared) (k : Nat) (Q : Value → Shared → Prop), A.handled = none → st k s.heap → get k = none →
    (∀ h' e, Heap.ExtBut it s.heap h' → (∃ o, h'.get? e = some o ∧ o.cls = .type "StopIteration") → E (.ref e) { s with heap := h' }) → wpAny (model prog w) A (Builtin.SmallTypes.nextOf (.ref it)) Q E s
  keep : ∀ k h h', st k h → (∀ b ∈ it :: fp, ∀ o, h.get? b = some o → h'.get? b = some o) → st k h'
  got : ∀ k h, st k h → ∃ o, h.get? it = some o ∧ ∀ v, o.data ≠ .cell v
section
variable {prog : Program} {w : World} {A : Around} {E : Value → Shared → Prop} {s : Shared} {z TI TO i1 i2 : Addr} {f1 f2 : List Addr} {g1 g2 : Nat → Option Value} {s1 s2 : Nat → Heap → Prop} {k : Nat} {x y a b : Value}
structure ZApart (z TI TO i1 i2 : Addr) (f1 f2 : List Addr) : Prop where
  TIz : TI ≠ z
  TOz : TO ≠ z
  TITO : TI ≠ TO
  TIi1 : TI ≠ i1
  TIi2 : TI ≠ i2
  z1 : z ∉ i1 :: f1
  z2 : z ∉ i2 :: f2
  o1 : TO ∉ i1 :: f1
  o2 : TO ∉ i2 :: f2
  i12 : i1 ∉ i2 :: f2
  i21 : i2 ∉ i1 :: f1
end
abbrev tz1 (h : Heap) (l1 : Addr) : Heap := h.push { cls := .type "tuple_iterator", data := .fields #[.ref l1, .int 0 0] }
abbrev tz2 (h : Heap) (l1 l2 : Addr) : Heap := (tz1 h l1).push { cls := .type "tuple_iterator", data := .fields #[.ref l2, .int 0 0] }
abbrev tz3 (h : Heap) (l1 l2 : Addr) : Heap := (tz2 h l1 l2).push { cls := .type "tuple", data := .seq #[.ref h.objs.size, .ref (tz1 h l1).objs.size] }
abbrev tz4 (h : Heap) (l1 l2 : Addr) : Heap := (tz3 h l1 l2).push { cls := .type "tuple", data := .seq #[.none, .none] }
abbrev tz5 (h : Heap) (l1 l2 : Addr) : Heap := (tz4 h l1 l2).push { cls := .type "zip", data := .fields #[.none, .bool false, .bool false, .ref (tz2 h l1 l2).objs.size, .ref (tz3 h l1 l2).objs.size] }
end L2
namespace L2
open PySem PySem.Spec PyProof.Rows
section
variable {X : Cx} {pins : List (Addr × Obj)} {σ : St} {H : Hp} {s : Shared}
theorem inv_turnedL {h' : Heap} {t' : Nat} {ch : List Addr} (I : Inv X pins σ H s) (k : ∀ b o, b ∉ ch → s.heap.get? b = some o → h'.get? b = some o) (hf : ∀ b ∈ ch, FpOk X pins H b) : Inv X pins σ H { s with heap := h', toks := t' } := by
  refine I.step (g' := s.gens) (d' := s.drawn) (ch := ch) (fun b hb => ?_) (fun b o _ _ hc e _ => k b o hc e) (fun b o _ _ hc e _ => ⟨o.slots, k b o hc e⟩) (fun _ _ _ _ n => n)
    (fun b o hc e => ⟨o, k b o hc e⟩) (fun _ _ e => e) (fun _ _ _ e => e) (fun b ps e => ⟨#[], by rw [e]; simp⟩) (fun m hm => ?_) (fun b u e => ?_) I.bare
  · obtain ⟨_, f1, _, f3, f4, f5⟩ := hf b hb
    exact ⟨f3, f1, f4, f5⟩
  · obtain ⟨o, es, ep, ho, r⟩ := hm
    exact ⟨o, es, ep, k _ o (fun z => (hf _ z).2.1 rfl) ho, r⟩
  · refine (I.hok b u e).stay (fun c v hc q => k c v (fun z => ?_) q) (fun _ q => q) fun _ _ q => q
    have hn := (hf c z).1
    rcases hc with y | y
    · rw [y, e] at hn; cases hn
    · rw [y] at hn; cases hn
theorem inv_trackN {a : Addr} {o : HO} {s' : Shared} (I0 : Inv X pins σ H s) (I : Inv X pins σ H s') (ha : s.heap.objs.size ≤ a) (new : ObjOk X.prog X.w (upd H a o) s'.heap a o) : Inv X pins σ (upd H a o) s' := by
  refine inv_track I (I0.hok.fresh ha) ?_ (Nat.ne_of_gt (Nat.lt_of_lt_of_le I0.lt ha)) (fun x c e => ?_) (fun p hp => ?_) new
  · cases e : X.s₀.heap.get? a with
    | none => rfl
    | some o => exact absurd (Nat.lt_of_lt_of_le (Heap.lt_size e) (Nat.le_trans I0.sz ha)) (Nat.lt_irrefl _)
  · obtain ⟨v, q⟩ := I0.cell x c e
    exact Nat.ne_of_lt (Nat.lt_of_lt_of_le q.lt ha)
  · exact Nat.ne_of_lt (Nat.lt_of_lt_of_le (Heap.lt_size (I0.pin p hp).1) ha)
end
def Itz (K : PySem.W.Frag) (a b : Addr) : It where
  go i H := ∃ xs ys x y, SqT K H a xs ∧ SqT K H b ys ∧ xs[i]? = some x ∧ ys[i]? = some y
  yld i H v H' := ∃ p x y, v = .ref p ∧ H p = none ∧ H' = upd H p (.tup [x, y]) ∧ (∀ xs, SqT K H a xs → xs[i]? = some x) ∧ (∀ ys, SqT K H b ys → ys[i]? = some y)
  stop i H := ∃ xs ys, SqT K H a xs ∧ SqT K H b ys ∧ (xs.length ≤ i ∨ ys.length ≤ i)
theorem addr_ne {n i j : Nat} (h : i ≠ j) : n + i ≠ n + j := by omega
def iZip (K : PySem.W.Frag) (ta : TA) : TI := fun σ H R => ta σ H fun vs H1 => ∃ a b, vs = [.ref a, .ref b] ∧ (∃ xs, SqT K H1 a xs) ∧ (∃ ys, SqT K H1 b ys) ∧ R (Itz K a b) H1
end L2
namespace L2
open PySem PySem.Spec PyProof.Rows
def Ite (K : PySem.W.Frag) (a : Addr) : It where
  go i H := ∃ xs x, SqL K H a xs ∧ xs[i]? = some x
  yld i H v H' := ∃ p x, v = .ref p ∧ H p = none ∧ H' = upd H p (.tup [.int i, x]) ∧ (∀ xs, SqL K H a xs → xs[i]? = some x)
  stop i H := ∃ xs, SqL K H a xs ∧ xs.length ≤ i
theorem turn_enum {P : Program} {w : World} {K : PySem.W.Frag} {es : List Expr} {kt : Nat} {pt : Pos} {a e it : Addr} (hne : e ≠ it) :
    Turn P w K (.Tuple es kt pt) (Ite K a) [e, it] e (fun i h => (∃ old, IsEnum h e it i old) ∧ h.IsListIter it a i) where
  mem := by simp
  obj := fun i h ⟨⟨old, he⟩, ⟨o1, e1, c1, d1⟩⟩ bb hb => by
    simp only [List.mem_cons, List.not_mem_nil, or_false] at hb
    rcases hb with rfl | rfl
    · exact ⟨_, he, fun v z => by cases z⟩
    · exact ⟨o1, e1, fun v z => by rw [d1] at z; cases z⟩
  keep := fun i h h' ⟨⟨old, he⟩, ⟨o1, e1, c1, d1⟩⟩ k => ⟨⟨old, k e (by simp) _ he⟩, ⟨o1, k it (by simp) _ e1, c1, d1⟩⟩
  item := by
    intro X hP hw hK hc i pins s σ H E I hf st hg
    subst hP hw hK
    obtain ⟨⟨old, he⟩, hit⟩ := st
    obtain ⟨xs, x, hq, hx⟩ := hg
    obtain ⟨its, rv, p, hz⟩ := I.list hq
    obtain ⟨u, hu, ru⟩ := rv.get hx
    refine wpAny_pyNext_enum_item he hit p.isList (x := u) (by simpa using hu) hne fun h' he' hit' hT' hsz hk => ?_
    refine ⟨_, rfl, wpAny_letOwnedTupleGo_enum he' fun h'' he'' sb => ?_⟩
    have lt : ∀ bb ∈ [e, it], bb < s.heap.objs.size := fun bb hb => by
      obtain ⟨o1, e1, c1, d1⟩ := hit
      simp only [List.mem_cons, List.not_mem_nil, or_false] at hb
      rcases hb with rfl | rfl
      · exact Heap.lt_size he
      · exact Heap.lt_size e1
    have I1 : Inv X pins σ H { s with heap := h'', toks := s.toks + 1 } := inv_turnedL (t' := s.toks + 1) (ch := [e, it]) I (fun c o hc ee => by
      simp only [List.mem_cons, List.not_mem_nil, or_false, not_or] at hc
      exact sb.extBut _ _ hc.1 (hk c o hc.1 hc.2 ee)) hf
    have hpe : s.heap.objs.size ≠ e := Nat.ne_of_gt (lt e (by simp))
    have hpn : H s.heap.objs.size = none := I.hok.fresh (Nat.le_refl _)
    refine ⟨.ref s.heap.objs.size, upd H s.heap.objs.size (.tup [.int i, x]), inv_trackN I I1 (Nat.le_refl _) ⟨small6 (by simp), [.int i s.toks, u], .cons ⟨_, rfl⟩ (.cons ru .nil), ⟨_, sb.extBut _ _ hpe hT', rfl, _, rfl⟩⟩, rfl, ⟨_, x, rfl, hpn, rfl, fun xs' hq' => by rw [I.list_inj hq' hq]; exact hx⟩, ⟨⟨u, ?_⟩, ?_⟩, fun bb hb => ?_⟩
    · have := he''
      rwa [show ((i : Int) + 1) = ((i + 1 : Nat) : Int) by omega] at this
    · obtain ⟨o, ee, c, d⟩ := hit'
      exact ⟨o, sb.extBut _ _ hne.symm ee, c, d⟩
    · rw [upd_ne (Nat.ne_of_lt (lt bb hb))]
      exact (hf bb hb).1
  done := by
    intro X hP hw hK hc i pins s σ H E I hf st hg
    subst hP hw hK
    obtain ⟨⟨old, he⟩, hit⟩ := st
    obtain ⟨xs, hq, hl⟩ := hg
    obtain ⟨its, rv, p, hz⟩ := I.list hq
    have la := rv.length
    refine wpAny_pyNext_enum_end (I.ok.hd hc) he hit p.isList (by simp; omega) fun h' hk => ⟨rfl, ?_⟩
    exact inv_turnedL (t' := s.toks) (ch := [e, it]) I (fun c o hc ee => by
      simp only [List.mem_cons, List.not_mem_nil, or_false, not_or] at hc
      exact hk c o hc.2 ee) hf
  self := fun _ _ _ _ _ st h => by
    obtain ⟨⟨old, he⟩, _⟩ := st
    exact wpAny_pyIter_enum he h
theorem bt_enumerate : bootBuiltins "enumerate" = some (.type "enumerate") := by decide +kernel
def iEnum (K : PySem.W.Frag) (ta : TA) : TI := fun σ H R => ta σ H fun vs H1 => ∃ a, vs = [.ref a] ∧ (∃ xs, SqL K H1 a xs) ∧ R (Ite K a) H1
theorem pi_enum {X : Cx} {es : List Expr} {kt : Nat} {pt : Pos} {a : Expr} {ta : TA} {p pos : Pos} (hg : Gl X "enumerate") (hm : X.mg "enumerate" = none) (ha : PA X [a] ta) (hs : starEach [a] X.env = [(false, eval a X.env)] := by rfl) :
    PI X (.Tuple es kt pt) (.Call (.Name "enumerate" p) [a] [] pos) (iEnum X.K ta) := by
  intro pins s σ H R I h
  refine Call_ (ld_blt I hg hm bt_enumerate (PyProof.Rows.callWith_type1 (thn (ha pos pins s σ H _ I h) fun us s1 ⟨vs, H1, I1, r1, q1⟩ => ?_) hs rfl))
  obtain ⟨a, e, ⟨xs, hq⟩, q⟩ := q1
  subst e
  cases r1 with
  | cons r rr =>
    cases rr
    cases r
    obtain ⟨its, rv, p, hz⟩ := I1.list hq
    refine call_enumerate_list p.isList fun h' a1 a2 _ k => ?_
    refine wpAny_pyIter_enum a1 ?_
    refine ⟨s1.heap.objs.size + 1, [s1.heap.objs.size + 1, s1.heap.objs.size], _, _, H1, rfl, I1.kept (t' := s1.toks) k, turn_enum (a := a) (addr_ne (j := 0) (by decide)), ⟨⟨_, a1⟩, a2⟩, fun bb hb => ?_, q⟩
    simp only [List.mem_cons, List.not_mem_nil, or_false] at hb
    have hbb : s1.heap.objs.size ≤ bb := by rcases hb with rfl | rfl <;> first | exact Nat.le_refl _ | exact Nat.le_add_right _ _
    exact I1.fpOk hbb (I1.hok.fresh hbb)
theorem comp_enum {K : PySem.W.Frag} {σ : St} {H : Hp} {Q : VK} {te : TE} {tt : TT} {ta : TA} {a : Addr} {xs : List V} (f : Nat → Bool) (Pr : Nat → V → Hp → Prop)
    (hta : ∀ R : List V → Hp → Prop, R [.ref a] H → ta σ H R) (hsa : SqL K H a xs) (hz : xs.length ≤ 1000000)
    (mono : ∀ i y H1 H2, Tk K H1 H2 → Pr i y H1 → Pr i y H2)
    (test : ∀ i x H', xs[i]? = some x → Same H H' → ∀ Q' : Bool → Hp → Prop, (∀ H'', Same H' H'' → Q' (f i) H'') → tt (some (.int i) :: some x :: σ) H' Q')
    (elt : ∀ i x H', xs[i]? = some x → f i = true → Same H H' → ∀ Q' : VK, (∀ y H'', Same H' H'' → Pr i y H'' → Q' y H'') → te (some (.int i) :: some x :: σ) H' Q')
    (q : ∀ D zs H', Same H H' → H D = none → H' D = some (.lst zs) → All2 (fun i y => Pr i y H') ((List.range xs.length).filter f) zs → Q (.ref D) H') : tComp2 K (iEnum K ta) tt te σ H Q := by
  unfold tComp2 iEnum
  refine hta _ ⟨a, rfl, ⟨xs, hsa⟩, fun D hD => ⟨fun i m H' => m = xs.length - i ∧ i ≤ xs.length ∧ Same H H' ∧ ∃ zs, H' D = some (.lst zs) ∧ All2 (fun i y => Pr i y H') ((List.range i).filter f) zs, ⟨_, rfl, Nat.zero_le _, fun b o h => by rw [upd_ne (ne_of_none h hD)]; exact h, [], upd_same, trivial⟩, ?_⟩⟩
  rintro i m H1 ⟨rfl, hi, S, zs, hzs, ha⟩
  by_cases c : i = xs.length
  · subst c
    exact .inl ⟨⟨xs, S.seq hsa, Nat.le_refl _⟩, q D zs H1 S hD hzs ha⟩
  · have hx : xs[i]? = some xs[i] := List.getElem?_eq_getElem (by omega)
    refine .inr ⟨⟨xs, _, S.seq hsa, hx⟩, ?_⟩
    rintro v H2 ⟨p, x, rfl, hp, rfl, ex⟩
    have ex' := ex xs (S.seq hsa)
    have S2 := same_new hp (.tup [.int i, x])
    refine ⟨p, .int i, x, rfl, .of upd_same, ?_⟩
    generalize upd H1 p (.tup [.int i, x]) = H2 at S2
    have ha2 := ha.imp fun i y h => mono i y _ _ S2.tk h
    have hzs2 := S2 _ _ hzs
    replace S := S.trans S2
    clear S2 ha hzs
    refine test i x H2 ex' S _ fun H3 S3 => ?_
    have hr : (List.range (i + 1)).filter f = (List.range i).filter f ++ (if f i = true then [i] else []) := by
      rw [List.range_succ, List.filter_append]
      congr 1
      simp only [List.filter_cons, List.filter_nil]
    cases hf : f i with
    | false =>
      rw [if_neg (by simp)]
      rw [hf, if_neg (by simp), List.append_nil] at hr
      exact ⟨_, by omega, rfl, by omega, S.trans S3, zs, S3 _ _ hzs2, by rw [hr]; exact ha2.imp fun i y h => mono i y _ _ S3.tk h⟩
    | true =>
      rw [if_pos rfl]
      rw [hf, if_pos rfl] at hr
      refine elt i x H3 ex' hf (S.trans S3) _ fun u H4 S4 hu => ?_
      have h4 := S4 _ _ (S3 _ _ hzs2)
      have hlen : zs.length ≤ i := by
        have := ha2.len
        rw [← this]
        exact Nat.le_trans (List.length_filter_le _ _) (by rw [List.length_range]; exact Nat.le_refl _)
      have tku : Tk K H4 (upd H4 D (.lst (zs ++ [u]))) := Tk.updL h4
      refine ⟨zs, h4, small16 (by omega), _, by omega, rfl, by omega, fun b o h => ?_, _, upd_same, ?_⟩
      · rw [upd_ne (ne_of_none h hD)]
        exact S4 _ _ (S3 _ _ (S _ _ h))
      · rw [hr]
        exact All2.snoc (P := fun i z => Pr i z (upd H4 D (.lst (zs ++ [u])))) (mono _ _ _ _ tku hu) (ha2.imp fun i y h => mono i y _ _ ((S3.tk.trans S4.tk).trans tku) h)
def rMaxL (K : PySem.W.Frag) : List V → Hp → VK → Prop := fun xs H Q => ∃ (l : Addr) (ns : List Int), xs = [.ref l] ∧ SqL K H l (ns.map V.int) ∧ 0 < ns.length ∧ ∀ M, M ∈ ns → (∀ a ∈ ns, a ≤ M) → Q (.int M) H
def rMinL (K : PySem.W.Frag) : List V → Hp → VK → Prop := fun xs H Q => ∃ (l : Addr) (ns : List Int), xs = [.ref l] ∧ SqL K H l (ns.map V.int) ∧ 0 < ns.length ∧ ∀ M, M ∈ ns → (∀ a ∈ ns, M ≤ a) → Q (.int M) H
def rSumL (K : PySem.W.Frag) : List V → Hp → VK → Prop := fun xs H Q => ∃ (l : Addr) (ns : List Int), xs = [.ref l] ∧ SqL K H l (ns.map V.int) ∧ Q (.int ns.sum) H
theorem call_maxL {X : Cx} (hc : X.calm = true) : CallR X (.builtin "max") (rMaxL X.K) := by
  intro pins s σ H xs us Q I r h
  obtain ⟨l, ns, rfl, hq, hne, q⟩ := h
  obtain ⟨u, rfl, ru⟩ := vals1 r
  cases ru
  obtain ⟨its, rv, p, hz⟩ := I.list hq
  have hi := intsAre_of rv
  obtain ⟨ys, e⟩ := hi.allInts.items
  have hns : ns = ys.toList.map (·.1) := by rw [← hi.numsOf, ← nums_intItems, ← e]
  have hsz : 0 < ys.size := by
    have h3 := hne
    rw [hns, List.length_map, Array.length_toList] at h3
    exact h3
  have hl := p.isList
  rw [e] at hl
  refine max_intList (I.ok.hd hc) hl hsz fun v h' tk hv hk => ?_
  obtain ⟨t, rfl⟩ := intItems_at hv
  obtain ⟨h1, h2⟩ := argBest_gt (numAt ys) (ys.size - 1)
  refine ⟨.int _, H, I.kept (t' := tk) hk, ⟨_, rfl⟩, q _ ?_ fun a ha => ?_⟩
  · rw [hns, numAt_eq]; exact getD_mem (by rw [List.length_map, Array.length_toList]; omega)
  · rw [hns] at ha
    obtain ⟨j, hj, rfl⟩ := mem_getD ha
    rw [List.length_map, Array.length_toList] at hj
    rw [← numAt_eq]; exact h2 j (by omega)
theorem call_sumL {X : Cx} (hc : X.calm = true) : CallR X (.builtin "sum") (rSumL X.K) := by
  intro pins s σ H xs us Q I r h
  obtain ⟨l, ns, rfl, hq, q⟩ := h
  obtain ⟨u, rfl, ru⟩ := vals1 r
  cases ru
  obtain ⟨its, rv, p, hz⟩ := I.list hq
  have hi := intsAre_of rv
  obtain ⟨ys, e⟩ := hi.allInts.items
  have hns : ns = ys.toList.map (·.1) := by rw [← hi.numsOf, ← nums_intItems, ← e]
  have hl := p.isList
  rw [e] at hl
  refine call_sum_walkG (iter_intList hl fun s₂ e st hfp hlI => ?_)
  subst e
  refine ⟨_, _, _, _, _, _, numAt ys, rfl, Walks.list (A := X.A.in1) (I.ok.hd hc) _ l hlI (intItems ys), st, hfp, (fun _ _ => intItems_at), fun h' tk t' hk => ?_⟩
  have hsum : preSum (numAt ys) ys.size = ns.sum := by rw [preSum_eq, hns, List.take_of_length_le (by simp)]
  have hsz : (intItems ys).size = ys.size := by simp [intItems]
  rw [hsz, hsum]
  exact ⟨.int _, H, I.kept (t' := tk) (old_kept hk), ⟨_, rfl⟩, q⟩
theorem callK_maxL {X : Cx} {K : PySem.W.Frag} (h : X.K = K) (hc : X.calm = true) : CallR X (.builtin "max") (rMaxL K) := h ▸ call_maxL hc
theorem bt_sum : bootBuiltins "sum" = some (.builtin "sum") := by decide +kernel
end L2
local macro_rules | `(tactic| walk_at "rd") => `(tactic| try simp only [L2.r_next, L2.r_asg, L2.r_ret, L2.r_retN, L2.r_drop, L2.r_ifS, L2.r_name, L2.r_sub, L2.r_var, L2.r_c, L2.r_op, L2.r_un, L2.r_test, L2.r_tB, L2.r_and, L2.r_or, L2.r_not, L2.r_andV, L2.r_orV, L2.r_notV, L2.r_ifE, L2.r_chain, L2.r_nil, L2.r_cons, L2.r_tup, L2.r_lst, L2.r_call, L2.r_cb, L2.r_I, L2.r_I0, L2.r_eqI, L2.r_neI, L2.r_eqB, L2.r_ixL, L2.r_ixT, L2.r_setL, L2.r_sl, L2.r_noP, L2.r_bm, L2.r_part, L2.r_for, L2.r_rng1, L2.r_iL, L2.r_iT, L2.rU, L2.r_K, L2.r_min2, L2.r_max2, L2.r_neB, L2.r_eqS, L2.r_neS, L2.r_raise, L2.r_callX, L2.r_try, L2.r_ixS, L2.r_slS, L2.r_addS, L2.r_bm0, L2.r_rng2, L2.r_KH, L2.r_Kt, L2.r_Kh, L2.r_Kn, L2.r_abs, L2.r_gtup, L2.r_gcons, L2.r_gnil, L2.r_augN, L2.r_ipI, L2.r_isNf, L2.r_isNt,
  List.getElem?_cons_zero, List.getElem?_cons_succ, List.set_cons_zero, List.set_cons_succ, Option.some.injEq, exists_eq_left', L2.V.int.injEq, L2.V.str.injEq, L2.V.bl.injEq, L2.V.ref.injEq, true_and, decide_eq_true_eq, List.cons_append, List.nil_append, List.append_nil, Bool.not_eq_true', decide_eq_false_iff_not, if_true, if_false, Bool.false_eq_true, Bool.true_eq_false, Bool.not_true, Bool.not_false, not_true_eq_false, not_false_eq_true])
local macro_rules | `(tactic| walk_at "st") => `(tactic| (walk_at "rd"; rw [L2.r_seq]; walk_at "rd"))
local macro_rules | `(tactic| walk_at "cl") => `(tactic| try simp only [L2.r_K, L2.r_KH, L2.r_Kt, L2.r_Kh, L2.r_Kn])
local macro_rules | `(tactic| walk_at "T") => `(tactic| rw [if_pos (by first | rfl | trivial)])
local macro_rules | `(tactic| walk_at "F") => `(tactic| rw [if_neg (by intro h; cases h)])
local macro_rules | `(tactic| walk_at "gd") => `(tactic| repeat' first | exact L2.gd_nil | exact L2.gd_non | exact L2.gd_bl | exact L2.gd_int | exact L2.gd_str | exact L2.gd_neg | exact L2.gd_pow ⟨by decide, by decide, by decide⟩ | exact L2.gd_var rfl (by assumption) | refine L2.gd_cons ?_ ?_ | refine L2.gd_tup ?_ | refine L2.gd_lst (by assumption) ?_)
namespace My
open PySem L2 M
def top (i : Nat) : Stmt := PySem.Challenge.pw_tally_k46_whole_a_lane_bowled_out.main.body.getD i (.Pass ⟨0, 0, 0, 0⟩)
abbrev s_is_whole : Stmt := top 4
theorem sc_is_whole : FnScope ["thing", "least", "most"] ["thing", "least", "most"] (defScope s_is_whole) := ⟨rfl, rfl, rfl, by decide +kernel, rfl, by decide +kernel, by decide +kernel⟩
abbrev s_lane_begun : Stmt := top 6
theorem sc_lane_begun : FnScope ["lane", "row"] ["lane"] (defScope s_lane_begun) := ⟨rfl, rfl, rfl, by decide +kernel, rfl, by decide +kernel, by decide +kernel⟩
abbrev s_lane_bowled : Stmt := top 7
theorem sc_lane_bowled : FnScope ["lane", "stand", "pins", "rows", "side", "row", "bowled"] ["lane", "stand", "pins"] (defScope s_lane_bowled) := ⟨rfl, rfl, rfl, by decide +kernel, rfl, by decide +kernel, by decide +kernel⟩
abbrev s_best_of : Stmt := top 8
theorem sc_best_of : FnScope ["stand", "totals", "best"] ["stand"] (defScope s_best_of) := ⟨rfl, rfl, rfl, by decide +kernel, rfl, by decide +kernel, by decide +kernel⟩
abbrev s_frame_ball : Stmt := top 9
theorem sc_frame_ball : FnScope ["lane", "row", "pins", "done", "ball", "up", "total", "earned", "next_times", "after_times"] ["lane", "row", "pins"] (defScope s_frame_ball) := ⟨rfl, rfl, rfl, by decide +kernel, rfl, by decide +kernel, by decide +kernel⟩
abbrev s_earned_by : Stmt := top 10
theorem sc_earned_by : FnScope ["ball", "up"] ["ball", "up"] (defScope s_earned_by) := ⟨rfl, rfl, rfl, by decide +kernel, rfl, by decide +kernel, by decide +kernel⟩
abbrev s_extra_ball : Stmt := top 11
theorem sc_extra_ball : FnScope ["lane", "row", "pins", "extra", "total", "up"] ["lane", "row", "pins"] (defScope s_extra_ball) := ⟨rfl, rfl, rfl, by decide +kernel, rfl, by decide +kernel, by decide +kernel⟩
abbrev s_is_over : Stmt := top 12
theorem sc_is_over : FnScope ["lane", "rows"] ["lane", "rows"] (defScope s_is_over) := ⟨rfl, rfl, rfl, by decide +kernel, rfl, by decide +kernel, by decide +kernel⟩
abbrev s_law_tape : Stmt := top 14
theorem sc_law_tape : FnScope ["_law_script", "_law_way"] ["_law_script"] (defScope s_law_tape) := ⟨rfl, rfl, rfl, by decide +kernel, rfl, by decide +kernel, by decide +kernel⟩
abbrev s_law_draw : Stmt := top 15
theorem sc_law_draw : FnScope ["_law_tape_here", "_law_many", "_law_script", "_law_spot", "_law_cell", "_law_left_here", "_law_mixed"] ["_law_tape_here", "_law_many"] (defScope s_law_draw) := ⟨rfl, rfl, rfl, by decide +kernel, rfl, by decide +kernel, by decide +kernel⟩
abbrev s_law_alike : Stmt := top 16
theorem sc_law_alike : FnScope ["_law_due", "_law_found"] ["_law_due", "_law_found"] (defScope s_law_alike) := ⟨rfl, rfl, rfl, by decide +kernel, rfl, by decide +kernel, by decide +kernel⟩
abbrev s_law_lane : Stmt := top 17
theorem sc_law_lane : FnScope ["_law_tape_here", "_law_pins", "_law_frames"] ["_law_tape_here"] (defScope s_law_lane) := ⟨rfl, rfl, rfl, by decide +kernel, rfl, by decide +kernel, by decide +kernel⟩
abbrev s_law_ball : Stmt := top 18
theorem sc_law_ball : FnScope ["_law_tape_here", "_law_up"] ["_law_tape_here", "_law_up"] (defScope s_law_ball) := ⟨rfl, rfl, rfl, by decide +kernel, rfl, by decide +kernel, by decide +kernel⟩
abbrev s_law_left : Stmt := top 19
theorem sc_law_left : FnScope ["_law_lane_here", "_law_balls", "_law_at", "_law_frame", "_law_more"] ["_law_lane_here", "_law_balls"] (defScope s_law_left) := ⟨rfl, rfl, rfl, by decide +kernel, rfl, by decide +kernel, by decide +kernel⟩
abbrev s_law_total : Stmt := top 20
theorem sc_law_total : FnScope ["_law_lane_here", "_law_balls", "_law_total_here", "_law_at", "_law_frame"] ["_law_lane_here", "_law_balls"] (defScope s_law_total) := ⟨rfl, rfl, rfl, by decide +kernel, rfl, by decide +kernel, by decide +kernel⟩
abbrev s_law : Stmt := top 21
theorem sc_law : FnScope ["_law_script", "_law_tape_here", "_law_lane_here", "_law_sheets", "_law_stand", "_law_over", "_law_k", "_law_side", "_law_ball_here", "_law_due", "_law_totals", "_law_best"] ["_law_script"] (defScope s_law) := ⟨rfl, rfl, rfl, by decide +kernel, rfl, by decide +kernel, by decide +kernel⟩
section
variable {P : Program} {w : World} {K : PySem.W.Frag} {mg : Str → Option Value} {base : Heap} {ns : List Int} {k : Nat}
theorem ok_law_tape (F : Df K mg "_law_tape" s_law_tape ["_law_script"]) (m_len : mg "len" = none) : Dn P w K mg base (k + 1) "_law_tape" ["_law_script"] (spTape K ns) := by
  refine F.ok sc_law_tape (fun vs H Q E h => ?_) (fun f cdv A outer s H vs Q E hr h => ?_)
  · obtain ⟨a, rfl, _⟩ := h; rfl
  obtain ⟨a, rfl, hs, q⟩ := h
  refine ⟨_, [some _, none], 
      (@pss_cons _ _ _ _ _ (@ps_set _ _ 1 _ _ _ _ sc_law_tape.nd rfl (Or.inl rfl) (@pe_int _ _ _ _) (by rfl) (by first | exact .inl rfl | exact .inr rfl | assumption)) 
      (@pss_cut _ _ _ _ _ (@ps_if _ _ _ _ _ _ _ _ (@pt_cmpR _ _ _ _ _ _ _ _ op_gt (@pe_callBu _ _ _ _ _ _ _ _ _ call_lenS rfl m_len PySem.boot_len (@pa_u _ _ _ _ _ (@pv _ 0 _ _ (by rfl) (by first | exact Or.inl rfl | exact Or.inr (Or.inl rfl) | exact Or.inr (Or.inr rfl)) (by decide) (by decide)) (@pa_nil _) (by rfl)) (by rfl) (by decide) (by decide)) (@pe_int _ _ _ _) (nomark _)) (@pss_one _ _ _ (@ps_set _ _ 1 _ _ _ _ sc_law_tape.nd rfl (Or.inl rfl) (@pe_op _ _ _ _ _ _ _ _ op_mod (@pe_ix _ _ _ _ _ _ _ ix_list (@pv _ 0 _ _ (by rfl) (by first | exact Or.inl rfl | exact Or.inr (Or.inl rfl) | exact Or.inr (Or.inr rfl)) (by decide) (by decide)) (@pe_int _ _ _ _) (fun _ _ => rfl)) (@pe_int _ _ _ _)) (by rfl) (by first | exact .inl rfl | exact .inr rfl | assumption))) (@pss_nil _)) (@pss_one _ _ _ (@ps_ret _ _ _ _ (@pe_lst _ _ _ _ (@pa_u _ _ _ _ _ (@pv _ 0 _ _ (by rfl) (by first | exact Or.inl rfl | exact Or.inr (Or.inl rfl) | exact Or.inr (Or.inr rfl)) (by decide) (by decide)) (@pa_u _ _ _ _ _ (@pe_int _ _ _ _) (@pa_u _ _ _ _ _ (@pe_int _ _ _ _) (@pa_u _ _ _ _ _ (@pv _ 1 _ _ (by rfl) (by first | exact Or.inl rfl | exact Or.inr (Or.inl rfl) | exact Or.inr (Or.inr rfl)) (by decide) (by decide)) (@pa_nil _) (by rfl)) (by rfl)) (by rfl)) (by rfl))))))), rfl, ?_⟩
  walk_at "cl"
  walk_at "st"
  refine r_cut (fun σ' H' => ∃ c : Int, σ' = [some (.ref a), some (.int c)] ∧ H' = H) (fun M hM => ?_) ?_
  · walk_at "rd"
    refine len_of hs ?_
    walk_at "rd"
    refine ite2 (fun c => ?_) (fun c => hM _ _ ⟨_, rfl, rfl⟩)
    obtain ⟨n, hn⟩ := at0 (ns := ns) (by omega)
    refine ⟨_, hs, _, hn, ?_⟩
    walk_at "rd"
    exact ⟨by decide, hM _ _ ⟨_, rfl, rfl⟩⟩
  · rintro _ _ ⟨c, rfl, rfl⟩
    walk_at "rd"
    exact ⟨small6 (by simp), fun p hp => q p _ ⟨a, 0, 0, c, upd_same, .of hs hp _⟩⟩
theorem ok_law_drawS (F : Df K mg "_law_draw" s_law_draw ["_law_tape_here", "_law_many"]) (m_len : mg "len" = none) : Dn P w K mg base (k + 1) "_law_draw" ["_law_tape_here", "_law_many"] (spDrawS K ns) := by
  refine F.ok sc_law_draw (fun vs H Q E h => ?_) (fun f cdv A outer s H vs Q E hr h => ?_)
  · obtain ⟨t, sc, m, rfl, _⟩ := h; rfl
  obtain ⟨t, sc, m, rfl, m0, m1, ⟨sp, cr, wy, ht, hc⟩, q⟩ := h
  refine ⟨_, [some _, some _, none, none, none, none, none], 
      (@pss_cons _ _ _ _ _ (@ps_set _ _ 2 _ _ _ _ sc_law_draw.nd rfl (Or.inl rfl) (@pe_ix _ _ _ _ _ _ _ ix_list (@pv _ 0 _ _ (by rfl) (by first | exact Or.inl rfl | exact Or.inr (Or.inl rfl) | exact Or.inr (Or.inr rfl)) (by decide) (by decide)) (@pe_int _ _ _ _) (fun _ _ => rfl)) (by rfl) (by first | exact .inl rfl | exact .inr rfl | assumption)) 
      (@pss_cons _ _ _ _ _ (@ps_set _ _ 3 _ _ _ _ sc_law_draw.nd rfl (Or.inl rfl) (@pe_ix _ _ _ _ _ _ _ ix_list (@pv _ 0 _ _ (by rfl) (by first | exact Or.inl rfl | exact Or.inr (Or.inl rfl) | exact Or.inr (Or.inr rfl)) (by decide) (by decide)) (@pe_int _ _ _ _) (fun _ _ => rfl)) (by rfl) (by first | exact .inl rfl | exact .inr rfl | assumption)) 
      (@pss_cons _ _ _ _ _ (@ps_asg _ _ _ _ _ _ (@pe_op _ _ _ _ _ _ _ _ op_add (@pv _ 3 _ _ (by rfl) (by first | exact Or.inl rfl | exact Or.inr (Or.inl rfl) | exact Or.inr (Or.inr rfl)) (by decide) (by decide)) (@pe_int _ _ _ _)) (@pg_sub _ _ _ _ _ _ _ (@pv _ 0 _ _ (by rfl) (by first | exact Or.inl rfl | exact Or.inr (Or.inl rfl) | exact Or.inr (Or.inr rfl)) (by decide) (by decide)) (@pe_int _ _ _ _) set_list (by intro _; rfl)) (by rfl) (by rfl) (by rfl)) 
      (@pss_cons _ _ _ _ _ (@ps_set _ _ 4 _ _ _ _ sc_law_draw.nd rfl (Or.inl rfl) (@pe_int _ _ _ _) (by rfl) (by first | exact .inl rfl | exact .inr rfl | assumption)) 
      (@pss_cut _ _ _ _ _ (@ps_if _ _ _ _ _ _ _ _ (@pt_cmpR _ _ _ _ _ _ _ _ op_gt (@pe_callBu _ _ _ _ _ _ _ _ _ call_lenS rfl m_len PySem.boot_len (@pa_u _ _ _ _ _ (@pv _ 2 _ _ (by rfl) (by first | exact Or.inl rfl | exact Or.inr (Or.inl rfl) | exact Or.inr (Or.inr rfl)) (by decide) (by decide)) (@pa_nil _) (by rfl)) (by rfl) (by decide) (by decide)) (@pe_int _ _ _ _) (nomark _)) (@pss_one _ _ _ (@ps_set _ _ 4 _ _ _ _ sc_law_draw.nd rfl (Or.inl rfl) (@pe_ix _ _ _ _ _ _ _ ix_list (@pv _ 2 _ _ (by rfl) (by first | exact Or.inl rfl | exact Or.inr (Or.inl rfl) | exact Or.inr (Or.inr rfl)) (by decide) (by decide)) (@pe_op _ _ _ _ _ _ _ _ op_mod (@pe_ifExp _ _ _ _ _ _ _ _ (@pt_cmpR _ _ _ _ _ _ _ _ op_eq (@pe_ix _ _ _ _ _ _ _ ix_list (@pv _ 0 _ _ (by rfl) (by first | exact Or.inl rfl | exact Or.inr (Or.inl rfl) | exact Or.inr (Or.inr rfl)) (by decide) (by decide)) (@pe_int _ _ _ _) (fun _ _ => rfl)) (@pe_int _ _ _ _) (nomark _)) (@pe_op _ _ _ _ _ _ _ _ op_fdiv (@pv _ 3 _ _ (by rfl) (by first | exact Or.inl rfl | exact Or.inr (Or.inl rfl) | exact Or.inr (Or.inr rfl)) (by decide) (by decide)) (@pe_int _ _ _ _)) (@pv _ 3 _ _ (by rfl) (by first | exact Or.inl rfl | exact Or.inr (Or.inl rfl) | exact Or.inr (Or.inr rfl)) (by decide) (by decide))) (@pe_callBu _ _ _ _ _ _ _ _ _ call_lenS rfl m_len PySem.boot_len (@pa_u _ _ _ _ _ (@pv _ 2 _ _ (by rfl) (by first | exact Or.inl rfl | exact Or.inr (Or.inl rfl) | exact Or.inr (Or.inr rfl)) (by decide) (by decide)) (@pa_nil _) (by rfl)) (by rfl) (by decide) (by decide))) (fun _ _ => rfl)) (by rfl) (by first | exact .inl rfl | exact .inr rfl | assumption))) (@pss_nil _)) 
      (@pss_cons _ _ _ _ _ (@ps_if _ _ _ _ _ _ _ _ (@pt_cmpR _ _ _ _ _ _ _ _ op_eq (@pe_ix _ _ _ _ _ _ _ ix_list (@pv _ 0 _ _ (by rfl) (by first | exact Or.inl rfl | exact Or.inr (Or.inl rfl) | exact Or.inr (Or.inr rfl)) (by decide) (by decide)) (@pe_int _ _ _ _) (fun _ _ => rfl)) (@pe_int _ _ _ _) (nomark _)) 
      (@pss_cut _ _ _ _ _ (@ps_if _ _ _ _ _ _ _ _ (@pt_cmpR _ _ _ _ _ _ _ _ op_eq (@pe_op _ _ _ _ _ _ _ _ op_mod (@pv _ 3 _ _ (by rfl) (by first | exact Or.inl rfl | exact Or.inr (Or.inl rfl) | exact Or.inr (Or.inr rfl)) (by decide) (by decide)) (@pe_int _ _ _ _)) (@pe_int _ _ _ _) (nomark _)) (@pss_one _ _ _ (@ps_asg _ _ _ _ _ _ (@pe_op _ _ _ _ _ _ _ _ op_fdiv (@pv _ 4 _ _ (by rfl) (by first | exact Or.inl rfl | exact Or.inr (Or.inl rfl) | exact Or.inr (Or.inr rfl)) (by decide) (by decide)) (@pe_int _ _ _ _)) (@pg_sub _ _ _ _ _ _ _ (@pv _ 0 _ _ (by rfl) (by first | exact Or.inl rfl | exact Or.inr (Or.inl rfl) | exact Or.inr (Or.inr rfl)) (by decide) (by decide)) (@pe_int _ _ _ _) set_list (by intro _; rfl)) (by rfl) (by rfl) (by rfl))) (@pss_nil _)) 
      (@pss_cons _ _ _ _ _ (@ps_set _ _ 5 _ _ _ _ sc_law_draw.nd rfl (Or.inl rfl) (@pe_ix _ _ _ _ _ _ _ ix_list (@pv _ 0 _ _ (by rfl) (by first | exact Or.inl rfl | exact Or.inr (Or.inl rfl) | exact Or.inr (Or.inr rfl)) (by decide) (by decide)) (@pe_int _ _ _ _) (fun _ _ => rfl)) (by rfl) (by first | exact .inl rfl | exact .inr rfl | assumption)) 
      (@pss_cons _ _ _ _ _ (@ps_asg _ _ _ _ _ _ (@pe_op _ _ _ _ _ _ _ _ op_fdiv (@pv _ 5 _ _ (by rfl) (by first | exact Or.inl rfl | exact Or.inr (Or.inl rfl) | exact Or.inr (Or.inr rfl)) (by decide) (by decide)) (@pv _ 1 _ _ (by rfl) (by first | exact Or.inl rfl | exact Or.inr (Or.inl rfl) | exact Or.inr (Or.inr rfl)) (by decide) (by decide))) (@pg_sub _ _ _ _ _ _ _ (@pv _ 0 _ _ (by rfl) (by first | exact Or.inl rfl | exact Or.inr (Or.inl rfl) | exact Or.inr (Or.inr rfl)) (by decide) (by decide)) (@pe_int _ _ _ _) set_list (by intro _; rfl)) (by rfl) (by rfl) (by rfl)) (@pss_one _ _ _ (@ps_ret _ _ _ _ (@pe_op _ _ _ _ _ _ _ _ op_mod (@pv _ 5 _ _ (by rfl) (by first | exact Or.inl rfl | exact Or.inr (Or.inl rfl) | exact Or.inr (Or.inr rfl)) (by decide) (by decide)) (@pv _ 1 _ _ (by rfl) (by first | exact Or.inl rfl | exact Or.inr (Or.inl rfl) | exact Or.inr (Or.inr rfl)) (by decide) (by decide)))))))) (@pss_nil _)) 
      (@pss_cons _ _ _ _ _ (@ps_set _ _ 6 _ _ _ _ sc_law_draw.nd rfl (Or.inl rfl) (@pe_op _ _ _ _ _ _ _ _ op_mod (@pe_op _ _ _ _ _ _ _ _ op_mul (@pe_op _ _ _ _ _ _ _ _ op_add (@pe_op _ _ _ _ _ _ _ _ op_mod (@pv _ 4 _ _ (by rfl) (by first | exact Or.inl rfl | exact Or.inr (Or.inl rfl) | exact Or.inr (Or.inr rfl)) (by decide) (by decide)) (@pe_int _ _ _ _)) (@pe_int _ _ _ _)) (@pe_op _ _ _ _ _ _ _ _ op_add (@pe_op _ _ _ _ _ _ _ _ op_add (@pe_op _ _ _ _ _ _ _ _ op_mul (@pe_op _ _ _ _ _ _ _ _ op_mod (@pv _ 3 _ _ (by rfl) (by first | exact Or.inl rfl | exact Or.inr (Or.inl rfl) | exact Or.inr (Or.inr rfl)) (by decide) (by decide)) (@pe_int _ _ _ _)) (@pe_int _ _ _ _)) (@pe_int _ _ _ _)) (@pv _ 3 _ _ (by rfl) (by first | exact Or.inl rfl | exact Or.inr (Or.inl rfl) | exact Or.inr (Or.inr rfl)) (by decide) (by decide)))) (@pe_int _ _ _ _)) (by rfl) (by first | exact .inl rfl | exact .inr rfl | assumption)) 
      (@pss_cons _ _ _ _ _ (@ps_set _ _ 6 _ _ _ _ sc_law_draw.nd rfl (Or.inl rfl) (@pe_op _ _ _ _ _ _ _ _ op_mod (@pe_op _ _ _ _ _ _ _ _ op_add (@pe_op _ _ _ _ _ _ _ _ op_add (@pe_op _ _ _ _ _ _ _ _ op_mul (@pv _ 6 _ _ (by rfl) (by first | exact Or.inl rfl | exact Or.inr (Or.inl rfl) | exact Or.inr (Or.inr rfl)) (by decide) (by decide)) (@pv _ 6 _ _ (by rfl) (by first | exact Or.inl rfl | exact Or.inr (Or.inl rfl) | exact Or.inr (Or.inr rfl)) (by decide) (by decide))) (@pe_op _ _ _ _ _ _ _ _ op_mul (@pe_int _ _ _ _) (@pv _ 6 _ _ (by rfl) (by first | exact Or.inl rfl | exact Or.inr (Or.inl rfl) | exact Or.inr (Or.inr rfl)) (by decide) (by decide)))) (@pv _ 3 _ _ (by rfl) (by first | exact Or.inl rfl | exact Or.inr (Or.inl rfl) | exact Or.inr (Or.inr rfl)) (by decide) (by decide))) (@pe_int _ _ _ _)) (by rfl) (by first | exact .inl rfl | exact .inr rfl | assumption)) (@pss_one _ _ _ (@ps_ret _ _ _ _ (@pe_op _ _ _ _ _ _ _ _ op_mod (@pe_op _ _ _ _ _ _ _ _ op_mod (@pe_op _ _ _ _ _ _ _ _ op_mul (@pv _ 6 _ _ (by rfl) (by first | exact Or.inl rfl | exact Or.inr (Or.inl rfl) | exact Or.inr (Or.inr rfl)) (by decide) (by decide)) (@pe_int _ _ _ _)) (@pe_int _ _ _ _)) (@pv _ 1 _ _ (by rfl) (by first | exact Or.inl rfl | exact Or.inr (Or.inl rfl) | exact Or.inr (Or.inr rfl)) (by decide) (by decide))))))))))))), rfl, ?_⟩
  walk_at "cl"
  walk_at "st"
  refine ⟨_, .of ht, _, rfl, ?_⟩
  walk_at "st"
  refine ⟨_, .of ht, _, rfl, ?_⟩
  walk_at "st"
  refine ⟨_, ht, _, rfl, ?_⟩
  have e1 : Ext t H (upd H t (HO.lst ([V.ref sc, V.int sp, V.int cr, V.int wy].set (Int.toNat 1) (V.int (sp + 1))))) := .at ht _
  have ht1 : (upd H t (HO.lst ([V.ref sc, V.int sp, V.int cr, V.int wy].set (Int.toNat 1) (V.int (sp + 1))))) t = some (HO.lst [V.ref sc, V.int (sp + 1), V.int cr, V.int wy]) := upd_same
  have hs1 := (hc.on e1).sq
  generalize upd H t (HO.lst ([V.ref sc, V.int sp, V.int cr, V.int wy].set (Int.toNat 1) (V.int (sp + 1)))) = H1 at e1 ht1 hs1 ⊢
  walk_at "st"
  refine r_cut (fun σ' H' => ∃ c : Int, σ' = [some (V.ref t), some (V.int m), some (V.ref sc), some (V.int sp), some (V.int c), none, none] ∧ H' = H1) (fun M hM => ?_) ?_
  · walk_at "rd"
    refine len_of hs1 ?_
    walk_at "rd"
    refine ite2 (fun c => ?_) (fun c => hM _ _ ⟨_, rfl, rfl⟩)
    refine ⟨_, .of ht1, _, rfl, ?_⟩
    walk_at "rd"
    refine ite2 (fun c1 => ⟨⟨by decide, by decide⟩, len_of hs1 ?_⟩) (fun c1 => len_of hs1 ?_)
    · walk_at "rd"
      obtain ⟨n, hn⟩ := atMod (ns := ns) (sp / 60) (by omega)
      exact ⟨by omega, _, hs1, _, hn, hM _ _ ⟨_, rfl, rfl⟩⟩
    · walk_at "rd"
      obtain ⟨n, hn⟩ := atMod (ns := ns) sp (by omega)
      exact ⟨by omega, _, hs1, _, hn, hM _ _ ⟨_, rfl, rfl⟩⟩
  · rintro _ _ ⟨c, rfl, rfl⟩
    walk_at "st"
    refine ⟨_, .of ht1, _, rfl, ?_⟩
    walk_at "rd"
    refine ite2 (fun c1 => ?_) (fun c1 => ?_)
    · refine r_cut (fun σ' H' => ∃ z : Int, σ' = [some (V.ref t), some (V.int m), some (V.ref sc), some (V.int sp), some (V.int c), none, none] ∧ H' t = some (HO.lst [V.ref sc, V.int (sp + 1), V.int z, V.int wy]) ∧ Ext t H H') (fun M hM => ?_) ?_
      · walk_at "rd"
        refine ⟨by decide, ite2 (fun c2 => ?_) (fun c2 => hM _ _ ⟨cr, rfl, ht1, e1⟩)⟩
        exact ⟨⟨by decide, by decide⟩, _, ht1, _, rfl, hM _ _ ⟨_, rfl, upd_same, e1.trans (.at ht1 _)⟩⟩
      · rintro _ H2 ⟨z, rfl, ht2, e2⟩
        walk_at "st"
        refine ⟨_, .of ht2, _, rfl, ?_⟩
        walk_at "st"
        refine ⟨⟨m0, m1⟩, _, ht2, _, rfl, m0, ?_⟩
        exact q _ _ (Int.emod_nonneg _ (by omega)) (Int.emod_lt_of_pos _ m0) ⟨⟨_, _, _, upd_same, hc.on (e2.trans (.at ht2 _))⟩, e2.trans (.at ht2 _)⟩
    · walk_at "st"
      have b1 := Int.emod_nonneg sp (show (997 : Int) ≠ 0 by decide)
      have b2 := Int.emod_lt_of_pos sp (show (0 : Int) < 997 by decide)
      have b3 := Int.emod_nonneg c (show (1000003 : Int) ≠ 0 by decide)
      have b4 := Int.emod_lt_of_pos c (show (0 : Int) < 1000003 by decide)
      refine ⟨by decide, by decide, cmul_l (by omega) (by omega), cmul_l (by omega) (by omega), by decide, ?_⟩
      generalize hx : (c % 1000003 + 1) * (sp % 997 * 7919 + 104729 + sp) % 1000033 = x
      have b5 : 0 ≤ x := by rw [← hx]; exact Int.emod_nonneg _ (by decide)
      have b6 : x < 1000033 := by rw [← hx]; exact Int.emod_lt_of_pos _ (by decide)
      walk_at "st"
      refine ⟨cmul_l (by omega) (by omega), cmul_l (by omega) (by omega), by decide, ?_⟩
      generalize hy : (x * x + 3 * x + sp) % 999983 = y
      have b7 : 0 ≤ y := by rw [← hy]; exact Int.emod_nonneg _ (by decide)
      have b8 : y < 999983 := by rw [← hy]; exact Int.emod_lt_of_pos _ (by decide)
      refine ⟨cmul_l (by omega) (by omega), by decide, m0, ?_⟩
      exact q _ _ (Int.emod_nonneg _ (by omega)) (Int.emod_lt_of_pos _ m0) ⟨⟨_, _, _, ht1, hc.on e1⟩, e1⟩
end
end My
namespace My
open PySem L2 M
section
variable (K : PySem.W.Frag)
def whl (d : PyData) (lo hi : Int) : Bool := match d with
  | .int i => decide (lo ≤ i) && decide (i ≤ hi)
  | _ => false
def spWhole : Sp := fun vs H Q _ => ∃ t d v lo hi, vs = [v, .int lo, .int hi] ∧ Dt K t H d v ∧ Q (.bl (whl d lo hi)) H
def spEarned : Sp := fun vs H Q _ => ∃ b u, vs = [.int b, .int u] ∧ Q (.int (earned b u)) H
def spFrame : Sp := fun vs H Q _ => ∃ la s p f r rv k, vs = [.ref la, rv, .int k] ∧ SqT K H la [.int s, .int p, .int f] ∧ RwV K H r rv ∧ 0 ≤ k ∧ k ≤ 1000 ∧ ∀ a H', Same H H' → RwV K H' (frameB p f r k) (.ref a) → Q (.ref a) H'
def spExtra : Sp := fun vs H Q _ => ∃ la s p f r rv k, vs = [.ref la, rv, .int k] ∧ SqT K H la [.int s, .int p, .int f] ∧ RwV K H r rv ∧ 0 ≤ k ∧ k ≤ 1000 ∧ ∀ a H', Same H H' → RwV K H' (extraB p r k) (.ref a) → Q (.ref a) H'
def spOver : Sp := fun vs H Q _ => ∃ la ra s p f rows us, vs = [.ref la, .ref ra] ∧ SqT K H la [.int s, .int p, .int f] ∧ SqT K H ra us ∧ RwL K H rows us ∧ rows.length ≤ 3 ∧ ∀ H', Same H H' → Q (.bl (overB f rows)) H'
def spLBegun : Sp := fun vs H Q _ => ∃ (la : Addr) (s : Nat) (p f : Int), vs = [.ref la] ∧ SqT K H la [.int s, .int p, .int f] ∧ 1 ≤ s ∧ s ≤ 3 ∧ ∀ a H', Same H H' → LsV K H' (List.replicate s ⟨0, 0, p, 0, 0, 0, 0⟩) 0 (.ref a) → Q (.ref a) H'
def spBowl : Sp := fun vs H Q _ => ∃ (la : Addr) (s : Nat) (p f : Int) (rows : List Lr) (side : Nat) (r : Lr) (sv : V) (k : Int), vs = [.ref la, sv, .int k] ∧ SqT K H la [.int s, .int p, .int f] ∧ LsV K H rows side sv ∧ rows.length = s ∧ s ≤ 3 ∧ rows[side]? = some r ∧ 0 ≤ k ∧ k ≤ r.u ∧ k ≤ 1000 ∧
  ∀ a sv' H', Same H H' → SqT K H' a [sv', .bl (overB f (rowsB p f rows side k))] → LsV K H' (rowsB p f rows side k) (sideB p f rows side k) sv' → Q (.ref a) H'
def spBad (C : Addr) : Sp := fun vs H _ E => ∃ (la : Addr) (s : Nat) (p f : Int) (rows : List Lr) (side : Nat) (r : Lr) (sv v : V) (t : Addr) (d : PyData), vs = [.ref la, sv, v] ∧ SqT K H la [.int s, .int p, .int f] ∧ LsV K H rows side sv ∧ rows[side]? = some r ∧ Dt K t H d v ∧ whl d 0 r.u = false ∧ ∀ H', Same H H' → E (.ref C) none H'
end
section
variable {P : Program} {w : World} {K : PySem.W.Frag} {mg : Str → Option Value} {base : Heap} {ns : List Int} {k : Nat}
theorem iteA {a b X Y : Prop} [Decidable a] [Decidable b] (h1 : a ∧ b → X) (h2 : ¬ (a ∧ b) → Y) : if a then (if b then X else Y) else Y :=
  ite2 (fun ca => ite2 (fun cb => h1 ⟨ca, cb⟩) fun cb => h2 fun z => cb z.2) fun ca => h2 fun z => ca z.1
theorem ok_is_whole (F : Df K mg "is_whole" s_is_whole ["thing", "least", "most"]) (m_isinstance : mg "isinstance" = none) (m_int : mg "int" = none) (m_bool : mg "bool" = none) : Dn P w K mg base (k + 1) "is_whole" ["thing", "least", "most"] (spWhole K) := by
  refine F.ok sc_is_whole (fun vs H Q E h => ?_) (fun f cdv A outer s H vs Q E hr h => ?_)
  · obtain ⟨t, d, v, lo, hi, rfl, _⟩ := h; rfl
  obtain ⟨t, d, v, lo, hi, rfl, hd, q⟩ := h
  refine ⟨_, [some _, some _, some _], (@pss_one _ _ _ (@ps_ret _ _ _ _ (@pe_and _ _ _ _ _ _ _ (@pe_callBu _ _ _ _ _ _ _ _ _ call_isi rfl m_isinstance bt_isinstance (@pa_u _ _ _ _ _ (@pv _ 0 _ _ (by rfl) (by first | exact Or.inl rfl | exact Or.inr (Or.inl rfl) | exact Or.inr (Or.inr rfl)) (by decide) (by decide)) (@pa_u _ _ _ _ _ (@pe_bltn _ _ (.ty "int") _ _ rfl m_int bt_int rfl (by decide) (by decide)) (@pa_nil _) (by rfl)) (by rfl)) (by rfl) (by decide) (by decide)) (@pe_and _ _ _ _ _ _ _ (@pe_not _ _ _ _ (@pe_callBu _ _ _ _ _ _ _ _ _ call_isi rfl m_isinstance bt_isinstance (@pa_u _ _ _ _ _ (@pv _ 0 _ _ (by rfl) (by first | exact Or.inl rfl | exact Or.inr (Or.inl rfl) | exact Or.inr (Or.inr rfl)) (by decide) (by decide)) (@pa_u _ _ _ _ _ (@pe_bltn _ _ (.ty "bool") _ _ rfl m_bool bt_bool rfl (by decide) (by decide)) (@pa_nil _) (by rfl)) (by rfl)) (by rfl) (by decide) (by decide))) (@pe_one _ _ _ _ _ (@pe_chain _ _ _ _ _ _ _ _ _ _ _ _ op_le op_le (@pv _ 1 _ _ (by rfl) (by first | exact Or.inl rfl | exact Or.inr (Or.inl rfl) | exact Or.inr (Or.inr rfl)) (by decide) (by decide)) (@pv _ 0 _ _ (by rfl) (by first | exact Or.inl rfl | exact Or.inr (Or.inl rfl) | exact Or.inr (Or.inr rfl)) (by decide) (by decide)) (@pv _ 2 _ _ (by rfl) (by first | exact Or.inl rfl | exact Or.inr (Or.inl rfl) | exact Or.inr (Or.inr rfl)) (by decide) (by decide)) (by with_unfolding_all rfl))))))), rfl, ?_⟩
  walk_at "cl"
  walk_at "rd"
  refine isi_of hd ⟨_, rfl, ?_⟩
  cases d with
  | int i =>
    simp only [Dt] at hd
    subst hd
    walk_at "T"
    refine isi_of (t := t) (d := .int i) (.int i) ?_
    walk_at "rd"
    walk_at "T"
    simp only [whl] at q
    refine ite2 (fun c => ?_) (fun c => ?_)
    · rw [decide_eq_true c, Bool.true_and] at q
      exact q
    · rw [decide_eq_false c, Bool.false_and] at q
      exact q
  | bool b =>
    walk_at "T"
    refine isi_of hd ?_
    walk_at "rd"
    walk_at "F"
    exact q
  | none => exact iteF q
  | str x => exact iteF q
  | list x => exact iteF q
  | tuple x => exact iteF q
  | dict x => exact iteF q
theorem ok_earned_by (F : Df K mg "earned_by" s_earned_by ["ball", "up"]) : Dn P w K mg base (k + 1) "earned_by" ["ball", "up"] (spEarned) := by
  refine F.ok sc_earned_by (fun vs H Q E h => ?_) (fun f cdv A outer s H vs Q E hr h => ?_)
  · obtain ⟨b, u, rfl, _⟩ := h; rfl
  obtain ⟨b, u, rfl, q⟩ := h
  refine ⟨_, [some _, some _], 
      (@pss_cons _ _ _ _ _ (@ps_if _ _ _ _ _ _ _ _ (@pt_cmpR _ _ _ _ _ _ _ _ op_gt (@pv _ 1 _ _ (by rfl) (by first | exact Or.inl rfl | exact Or.inr (Or.inl rfl) | exact Or.inr (Or.inr rfl)) (by decide) (by decide)) (@pe_int _ _ _ _) (nomark _)) (@pss_one _ _ _ (@ps_ret _ _ _ _ (@pe_int _ _ _ _))) (@pss_nil _)) (@pss_one _ _ _ (@ps_ret _ _ _ _ (@pe_ifExp _ _ _ _ _ _ _ _ (@pt_cmpR _ _ _ _ _ _ _ _ op_eq (@pv _ 0 _ _ (by rfl) (by first | exact Or.inl rfl | exact Or.inr (Or.inl rfl) | exact Or.inr (Or.inr rfl)) (by decide) (by decide)) (@pe_int _ _ _ _) (nomark _)) (@pe_int _ _ _ _) (@pe_int _ _ _ _))))), rfl, ?_⟩
  walk_at "cl"
  unfold earned at q
  walk_at "st"
  refine ite2 (fun c => ?_) (fun c => ?_)
  · rw [if_pos c] at q
    exact q
  · rw [if_neg c] at q
    walk_at "rd"
    refine ite2 (fun c => ?_) (fun c => ?_)
    · rw [if_pos c] at q
      exact q
    · rw [if_neg c] at q
      exact q
theorem ok_frame_ball (F : Df K mg "frame_ball" s_frame_ball ["lane", "row", "pins"]) (d_earned_by : Dn P w K mg base k "earned_by" ["ball", "up"] (spEarned)) : Dn P w K mg base (k + 1) "frame_ball" ["lane", "row", "pins"] (spFrame K) := by
  refine F.ok sc_frame_ball (fun vs H Q E h => ?_) (fun f cdv A outer s H vs Q E hr h => ?_)
  · obtain ⟨la, s, p, f, r, rv, k, rfl, _⟩ := h; rfl
  obtain ⟨la, sd, p, f, r, rv, kk, rfl, hl, hr', k0, k1, q⟩ := h
  refine ⟨_, [some _, some _, some _, none, none, none, none, none, none, none], 
      (@pss_cons _ _ _ _ _ (@ps_set _ _ 3 _ _ _ _ sc_frame_ball.nd rfl (Or.inl rfl) (@pe_ix _ _ _ _ _ _ _ ix_tup (@pv _ 1 _ _ (by rfl) (by first | exact Or.inl rfl | exact Or.inr (Or.inl rfl) | exact Or.inr (Or.inr rfl)) (by decide) (by decide)) (@pe_int _ _ _ _) (fun _ _ => rfl)) (by rfl) (by first | exact .inl rfl | exact .inr rfl | assumption)) 
      (@pss_cons _ _ _ _ _ (@ps_set _ _ 4 _ _ _ _ sc_frame_ball.nd rfl (Or.inl rfl) (@pe_op _ _ _ _ _ _ _ _ op_add (@pe_ix _ _ _ _ _ _ _ ix_tup (@pv _ 1 _ _ (by rfl) (by first | exact Or.inl rfl | exact Or.inr (Or.inl rfl) | exact Or.inr (Or.inr rfl)) (by decide) (by decide)) (@pe_int _ _ _ _) (fun _ _ => rfl)) (@pe_int _ _ _ _)) (by rfl) (by first | exact .inl rfl | exact .inr rfl | assumption)) 
      (@pss_cons _ _ _ _ _ (@ps_set _ _ 5 _ _ _ _ sc_frame_ball.nd rfl (Or.inl rfl) (@pe_op _ _ _ _ _ _ _ _ op_sub (@pe_ix _ _ _ _ _ _ _ ix_tup (@pv _ 1 _ _ (by rfl) (by first | exact Or.inl rfl | exact Or.inr (Or.inl rfl) | exact Or.inr (Or.inr rfl)) (by decide) (by decide)) (@pe_int _ _ _ _) (fun _ _ => rfl)) (@pv _ 2 _ _ (by rfl) (by first | exact Or.inl rfl | exact Or.inr (Or.inl rfl) | exact Or.inr (Or.inr rfl)) (by decide) (by decide))) (by rfl) (by first | exact .inl rfl | exact .inr rfl | assumption)) 
      (@pss_cons _ _ _ _ _ (@ps_set _ _ 6 _ _ _ _ sc_frame_ball.nd rfl (Or.inl rfl) (@pe_op _ _ _ _ _ _ _ _ op_add (@pe_op _ _ _ _ _ _ _ _ op_add (@pe_ix _ _ _ _ _ _ _ ix_tup (@pv _ 1 _ _ (by rfl) (by first | exact Or.inl rfl | exact Or.inr (Or.inl rfl) | exact Or.inr (Or.inr rfl)) (by decide) (by decide)) (@pe_int _ _ _ _) (fun _ _ => rfl)) (@pe_op _ _ _ _ _ _ _ _ op_mul (@pv _ 2 _ _ (by rfl) (by first | exact Or.inl rfl | exact Or.inr (Or.inl rfl) | exact Or.inr (Or.inr rfl)) (by decide) (by decide)) (@pe_ix _ _ _ _ _ _ _ ix_tup (@pv _ 1 _ _ (by rfl) (by first | exact Or.inl rfl | exact Or.inr (Or.inl rfl) | exact Or.inr (Or.inr rfl)) (by decide) (by decide)) (@pe_int _ _ _ _) (fun _ _ => rfl)))) (@pv _ 2 _ _ (by rfl) (by first | exact Or.inl rfl | exact Or.inr (Or.inl rfl) | exact Or.inr (Or.inr rfl)) (by decide) (by decide))) (by rfl) (by first | exact .inl rfl | exact .inr rfl | assumption)) 
      (@pss_cons _ _ _ _ _ (@ps_if _ _ _ _ _ _ _ _ (@PW.pt _ _ _ (@pw_and _ _ _ _ _ _ _ (@pt_cmpR _ _ _ _ _ _ _ _ op_gt (@pv _ 5 _ _ (by rfl) (by first | exact Or.inl rfl | exact Or.inr (Or.inl rfl) | exact Or.inr (Or.inr rfl)) (by decide) (by decide)) (@pe_int _ _ _ _) (nomark _)) (@pw_and1 _ _ _ _ (@pt_cmpR _ _ _ _ _ _ _ _ op_eq (@pv _ 4 _ _ (by rfl) (by first | exact Or.inl rfl | exact Or.inr (Or.inl rfl) | exact Or.inr (Or.inr rfl)) (by decide) (by decide)) (@pe_int _ _ _ _) (nomark _))))) (@pss_one _ _ _ (@ps_ret _ _ _ _ (@pe_tup _ _ _ _ _ (@pa_u _ _ _ _ _ (@pv _ 3 _ _ (by rfl) (by first | exact Or.inl rfl | exact Or.inr (Or.inl rfl) | exact Or.inr (Or.inr rfl)) (by decide) (by decide)) (@pa_u _ _ _ _ _ (@pv _ 4 _ _ (by rfl) (by first | exact Or.inl rfl | exact Or.inr (Or.inl rfl) | exact Or.inr (Or.inr rfl)) (by decide) (by decide)) (@pa_u _ _ _ _ _ (@pv _ 5 _ _ (by rfl) (by first | exact Or.inl rfl | exact Or.inr (Or.inl rfl) | exact Or.inr (Or.inr rfl)) (by decide) (by decide)) (@pa_u _ _ _ _ _ (@pe_ix _ _ _ _ _ _ _ ix_tup (@pv _ 1 _ _ (by rfl) (by first | exact Or.inl rfl | exact Or.inr (Or.inl rfl) | exact Or.inr (Or.inr rfl)) (by decide) (by decide)) (@pe_int _ _ _ _) (fun _ _ => rfl)) (@pa_u _ _ _ _ _ (@pe_int _ _ _ _) (@pa_u _ _ _ _ _ (@pe_int _ _ _ _) (@pa_u _ _ _ _ _ (@pv _ 6 _ _ (by rfl) (by first | exact Or.inl rfl | exact Or.inr (Or.inl rfl) | exact Or.inr (Or.inr rfl)) (by decide) (by decide)) (@pa_nil _) (by rfl)) (by rfl)) (by rfl)) (by rfl)) (by rfl)) (by rfl)) (by rfl))))) (@pss_nil _)) 
      (@pss_cons _ _ _ _ _ (@ps_set _ _ 7 _ _ _ _ sc_frame_ball.nd rfl (Or.inl rfl) (@pe_callD _ _ _ _ _ _ _ _ _ _ d_earned_by hr rfl (@pa_u _ _ _ _ _ (@pv _ 4 _ _ (by rfl) (by first | exact Or.inl rfl | exact Or.inr (Or.inl rfl) | exact Or.inr (Or.inr rfl)) (by decide) (by decide)) (@pa_u _ _ _ _ _ (@pv _ 5 _ _ (by rfl) (by first | exact Or.inl rfl | exact Or.inr (Or.inl rfl) | exact Or.inr (Or.inr rfl)) (by decide) (by decide)) (@pa_nil _) (by rfl)) (by rfl)) (by rfl) (by decide)) (by rfl) (by first | exact .inl rfl | exact .inr rfl | assumption)) 
      (@pss_cut _ _ _ _ _ (@ps_set _ _ 8 _ _ _ _ sc_frame_ball.nd rfl (Or.inl rfl) (@pe_op _ _ _ _ _ _ _ _ op_add (@pe_ix _ _ _ _ _ _ _ ix_tup (@pv _ 1 _ _ (by rfl) (by first | exact Or.inl rfl | exact Or.inr (Or.inl rfl) | exact Or.inr (Or.inr rfl)) (by decide) (by decide)) (@pe_int _ _ _ _) (fun _ _ => rfl)) (@pe_ifExp _ _ _ _ _ _ _ _ (@pt_cmpR _ _ _ _ _ _ _ _ op_gt (@pv _ 7 _ _ (by rfl) (by first | exact Or.inl rfl | exact Or.inr (Or.inl rfl) | exact Or.inr (Or.inr rfl)) (by decide) (by decide)) (@pe_int _ _ _ _) (nomark _)) (@pe_int _ _ _ _) (@pe_int _ _ _ _))) (by rfl) (by first | exact .inl rfl | exact .inr rfl | assumption)) 
      (@pss_cut _ _ _ _ _ (@ps_set _ _ 9 _ _ _ _ sc_frame_ball.nd rfl (Or.inl rfl) (@pe_ifExp _ _ _ _ _ _ _ _ (@pt_cmpR _ _ _ _ _ _ _ _ op_eq (@pv _ 7 _ _ (by rfl) (by first | exact Or.inl rfl | exact Or.inr (Or.inl rfl) | exact Or.inr (Or.inr rfl)) (by decide) (by decide)) (@pe_int _ _ _ _) (nomark _)) (@pe_int _ _ _ _) (@pe_int _ _ _ _)) (by rfl) (by first | exact .inl rfl | exact .inr rfl | assumption)) 
      (@pss_cons _ _ _ _ _ (@ps_if _ _ _ _ _ _ _ _ (@PW.pt _ _ _ (@pw_and _ _ _ _ _ _ _ (@pt_cmpR _ _ _ _ _ _ _ _ op_gt (@pv _ 7 _ _ (by rfl) (by first | exact Or.inl rfl | exact Or.inr (Or.inl rfl) | exact Or.inr (Or.inr rfl)) (by decide) (by decide)) (@pe_int _ _ _ _) (nomark _)) (@pw_and1 _ _ _ _ (@pt_cmpR _ _ _ _ _ _ _ _ op_eq (@pv _ 3 _ _ (by rfl) (by first | exact Or.inl rfl | exact Or.inr (Or.inl rfl) | exact Or.inr (Or.inr rfl)) (by decide) (by decide)) (@pe_op _ _ _ _ _ _ _ _ op_sub (@pe_ix _ _ _ _ _ _ _ ix_tup (@pv _ 0 _ _ (by rfl) (by first | exact Or.inl rfl | exact Or.inr (Or.inl rfl) | exact Or.inr (Or.inr rfl)) (by decide) (by decide)) (@pe_int _ _ _ _) (fun _ _ => rfl)) (@pe_int _ _ _ _)) (nomark _))))) (@pss_one _ _ _ (@ps_ret _ _ _ _ (@pe_tup _ _ _ _ _ (@pa_u _ _ _ _ _ (@pv _ 3 _ _ (by rfl) (by first | exact Or.inl rfl | exact Or.inr (Or.inl rfl) | exact Or.inr (Or.inr rfl)) (by decide) (by decide)) (@pa_u _ _ _ _ _ (@pe_int _ _ _ _) (@pa_u _ _ _ _ _ (@pe_ix _ _ _ _ _ _ _ ix_tup (@pv _ 0 _ _ (by rfl) (by first | exact Or.inl rfl | exact Or.inr (Or.inl rfl) | exact Or.inr (Or.inr rfl)) (by decide) (by decide)) (@pe_int _ _ _ _) (fun _ _ => rfl)) (@pa_u _ _ _ _ _ (@pv _ 8 _ _ (by rfl) (by first | exact Or.inl rfl | exact Or.inr (Or.inl rfl) | exact Or.inr (Or.inr rfl)) (by decide) (by decide)) (@pa_u _ _ _ _ _ (@pv _ 9 _ _ (by rfl) (by first | exact Or.inl rfl | exact Or.inr (Or.inl rfl) | exact Or.inr (Or.inr rfl)) (by decide) (by decide)) (@pa_u _ _ _ _ _ (@pv _ 7 _ _ (by rfl) (by first | exact Or.inl rfl | exact Or.inr (Or.inl rfl) | exact Or.inr (Or.inr rfl)) (by decide) (by decide)) (@pa_u _ _ _ _ _ (@pv _ 6 _ _ (by rfl) (by first | exact Or.inl rfl | exact Or.inr (Or.inl rfl) | exact Or.inr (Or.inr rfl)) (by decide) (by decide)) (@pa_nil _) (by rfl)) (by rfl)) (by rfl)) (by rfl)) (by rfl)) (by rfl)) (by rfl))))) (@pss_nil _)) (@pss_one _ _ _ (@ps_ret _ _ _ _ (@pe_tup _ _ _ _ _ (@pa_u _ _ _ _ _ (@pe_op _ _ _ _ _ _ _ _ op_add (@pv _ 3 _ _ (by rfl) (by first | exact Or.inl rfl | exact Or.inr (Or.inl rfl) | exact Or.inr (Or.inr rfl)) (by decide) (by decide)) (@pe_int _ _ _ _)) (@pa_u _ _ _ _ _ (@pe_int _ _ _ _) (@pa_u _ _ _ _ _ (@pe_ix _ _ _ _ _ _ _ ix_tup (@pv _ 0 _ _ (by rfl) (by first | exact Or.inl rfl | exact Or.inr (Or.inl rfl) | exact Or.inr (Or.inr rfl)) (by decide) (by decide)) (@pe_int _ _ _ _) (fun _ _ => rfl)) (@pa_u _ _ _ _ _ (@pv _ 8 _ _ (by rfl) (by first | exact Or.inl rfl | exact Or.inr (Or.inl rfl) | exact Or.inr (Or.inr rfl)) (by decide) (by decide)) (@pa_u _ _ _ _ _ (@pv _ 9 _ _ (by rfl) (by first | exact Or.inl rfl | exact Or.inr (Or.inl rfl) | exact Or.inr (Or.inr rfl)) (by decide) (by decide)) (@pa_u _ _ _ _ _ (@pe_int _ _ _ _) (@pa_u _ _ _ _ _ (@pv _ 6 _ _ (by rfl) (by first | exact Or.inl rfl | exact Or.inr (Or.inl rfl) | exact Or.inr (Or.inr rfl)) (by decide) (by decide)) (@pa_nil _) (by rfl)) (by rfl)) (by rfl)) (by rfl)) (by rfl)) (by rfl)) (by rfl)))))))))))))), rfl, ?_⟩
  walk_at "cl"
  obtain ⟨ra, rfl, hs⟩ := rw_inv hr'
  unfold frameB at q
  walk_at "st"
  refine ⟨_, hs, _, rfl, ?_⟩
  walk_at "st"
  refine ⟨_, hs, _, rfl, ?_⟩
  walk_at "st"
  refine ⟨_, hs, _, rfl, ?_⟩
  walk_at "st"
  refine ⟨_, hs, _, rfl, ?_⟩
  walk_at "rd"
  refine ⟨_, hs, _, rfl, ?_⟩
  walk_at "rd"
  refine ⟨cmul_l (by omega) (by omega), ?_⟩
  walk_at "st"
  have fin : ∀ (x : Lr), (∀ a H', Same H H' → RwV K H' x (.ref a) → Q (.ref a) H') → ([V.int x.d, .int x.b, .int x.u, .int x.n, .int x.a, .int x.x, .int x.t] : List V).length ≤ sizeLine ∧ ∀ p, H p = none → Q (.ref p) (upd H p (.tup [V.int x.d, .int x.b, .int x.u, .int x.n, .int x.a, .int x.x, .int x.t])) := fun x hq =>
    ⟨small6 (by simp), fun p hp => hq _ _ (same_new hp _) (rw_mk (.of upd_same))⟩
  refine iteA (fun c => ?_) (fun c => ?_)
  · rw [if_pos c] at q
    refine ⟨_, hs, _, rfl, ?_⟩
    exact fin _ q
  rw [if_neg c] at q
  walk_at "st"
  refine ⟨_, _, rfl, ?_⟩
  generalize earned (r.b + 1) (r.u - kk) = en at q ⊢
  walk_at "rd"
  refine r_cut (fun σ' H' => σ' = [some (.ref la), some (.ref ra), some (.int kk), some (.int r.d), some (.int (r.b + 1)), some (.int (r.u - kk)), some (.int (r.t + kk * r.n + kk)), some (.int en), some (.int (r.a + if en > 0 then 1 else 0)), none] ∧ H' = H) (fun M hM => ?_) ?_
  · walk_at "rd"
    refine ⟨_, hs, _, rfl, ?_⟩
    walk_at "rd"
    refine ite2 (fun c => ?_) (fun c => ?_)
    · exact hM _ _ ⟨by rw [if_pos c], rfl⟩
    · exact hM _ _ ⟨by rw [if_neg c], rfl⟩
  rintro _ Hx ⟨rfl, eHx⟩
  rw [eHx]
  clear eHx Hx
  generalize (r.a + if en > 0 then 1 else 0) = nt at q ⊢
  walk_at "rd"
  refine r_cut (fun σ' H' => σ' = [some (.ref la), some (.ref ra), some (.int kk), some (.int r.d), some (.int (r.b + 1)), some (.int (r.u - kk)), some (.int (r.t + kk * r.n + kk)), some (.int en), some (.int nt), some (.int (if en = 2 then 1 else 0))] ∧ H' = H) (fun M hM => ?_) ?_
  · walk_at "rd"
    refine ite2 (fun c => ?_) (fun c => ?_)
    · exact hM _ _ ⟨by rw [if_pos c], rfl⟩
    · exact hM _ _ ⟨by rw [if_neg c], rfl⟩
  rintro _ Hx ⟨rfl, eHx⟩
  rw [eHx]
  clear eHx Hx
  generalize (if en = 2 then (1 : Int) else 0) = at' at q ⊢
  walk_at "st"
  refine ite2 (fun c1 => ?_) (fun c1 => ?_)
  · refine ⟨_, hl, _, rfl, ?_⟩
    walk_at "rd"
    refine ite2 (fun c2 => ?_) (fun c2 => ?_)
    · rw [if_pos ⟨c1, c2⟩] at q
      refine ⟨_, hl, _, rfl, ?_⟩
      exact fin _ q
    · rw [if_neg (fun z => c2 z.2)] at q
      walk_at "rd"
      refine ⟨_, hl, _, rfl, ?_⟩
      exact fin _ q
  · rw [if_neg (fun z => c1 z.1)] at q
    walk_at "rd"
    refine ⟨_, hl, _, rfl, ?_⟩
    exact fin _ q
theorem ok_extra_ball (F : Df K mg "extra_ball" s_extra_ball ["lane", "row", "pins"]) : Dn P w K mg base (k + 1) "extra_ball" ["lane", "row", "pins"] (spExtra K) := by
  refine F.ok sc_extra_ball (fun vs H Q E h => ?_) (fun f cdv A outer s H vs Q E hr h => ?_)
  · obtain ⟨la, s, p, f, r, rv, k, rfl, _⟩ := h; rfl
  obtain ⟨la, sd, p, f, r, rv, kk, rfl, hl, hr', k0, k1, q⟩ := h
  refine ⟨_, [some _, some _, some _, none, none, none], 
      (@pss_cons _ _ _ _ _ (@ps_set _ _ 3 _ _ _ _ sc_extra_ball.nd rfl (Or.inl rfl) (@pe_op _ _ _ _ _ _ _ _ op_sub (@pe_ix _ _ _ _ _ _ _ ix_tup (@pv _ 1 _ _ (by rfl) (by first | exact Or.inl rfl | exact Or.inr (Or.inl rfl) | exact Or.inr (Or.inr rfl)) (by decide) (by decide)) (@pe_int _ _ _ _) (fun _ _ => rfl)) (@pe_int _ _ _ _)) (by rfl) (by first | exact .inl rfl | exact .inr rfl | assumption)) 
      (@pss_cons _ _ _ _ _ (@ps_set _ _ 4 _ _ _ _ sc_extra_ball.nd rfl (Or.inl rfl) (@pe_op _ _ _ _ _ _ _ _ op_add (@pe_ix _ _ _ _ _ _ _ ix_tup (@pv _ 1 _ _ (by rfl) (by first | exact Or.inl rfl | exact Or.inr (Or.inl rfl) | exact Or.inr (Or.inr rfl)) (by decide) (by decide)) (@pe_int _ _ _ _) (fun _ _ => rfl)) (@pe_op _ _ _ _ _ _ _ _ op_mul (@pv _ 2 _ _ (by rfl) (by first | exact Or.inl rfl | exact Or.inr (Or.inl rfl) | exact Or.inr (Or.inr rfl)) (by decide) (by decide)) (@pe_ix _ _ _ _ _ _ _ ix_tup (@pv _ 1 _ _ (by rfl) (by first | exact Or.inl rfl | exact Or.inr (Or.inl rfl) | exact Or.inr (Or.inr rfl)) (by decide) (by decide)) (@pe_int _ _ _ _) (fun _ _ => rfl)))) (by rfl) (by first | exact .inl rfl | exact .inr rfl | assumption)) 
      (@pss_cons _ _ _ _ _ (@ps_if _ _ _ _ _ _ _ _ (@pt_cmpR _ _ _ _ _ _ _ _ op_eq (@pv _ 3 _ _ (by rfl) (by first | exact Or.inl rfl | exact Or.inr (Or.inl rfl) | exact Or.inr (Or.inr rfl)) (by decide) (by decide)) (@pe_int _ _ _ _) (nomark _)) (@pss_one _ _ _ (@ps_ret _ _ _ _ (@pe_tup _ _ _ _ _ (@pa_u _ _ _ _ _ (@pe_op _ _ _ _ _ _ _ _ op_add (@pe_ix _ _ _ _ _ _ _ ix_tup (@pv _ 1 _ _ (by rfl) (by first | exact Or.inl rfl | exact Or.inr (Or.inl rfl) | exact Or.inr (Or.inr rfl)) (by decide) (by decide)) (@pe_int _ _ _ _) (fun _ _ => rfl)) (@pe_int _ _ _ _)) (@pa_u _ _ _ _ _ (@pe_ix _ _ _ _ _ _ _ ix_tup (@pv _ 1 _ _ (by rfl) (by first | exact Or.inl rfl | exact Or.inr (Or.inl rfl) | exact Or.inr (Or.inr rfl)) (by decide) (by decide)) (@pe_int _ _ _ _) (fun _ _ => rfl)) (@pa_u _ _ _ _ _ (@pe_ix _ _ _ _ _ _ _ ix_tup (@pv _ 0 _ _ (by rfl) (by first | exact Or.inl rfl | exact Or.inr (Or.inl rfl) | exact Or.inr (Or.inr rfl)) (by decide) (by decide)) (@pe_int _ _ _ _) (fun _ _ => rfl)) (@pa_u _ _ _ _ _ (@pe_ix _ _ _ _ _ _ _ ix_tup (@pv _ 1 _ _ (by rfl) (by first | exact Or.inl rfl | exact Or.inr (Or.inl rfl) | exact Or.inr (Or.inr rfl)) (by decide) (by decide)) (@pe_int _ _ _ _) (fun _ _ => rfl)) (@pa_u _ _ _ _ _ (@pe_int _ _ _ _) (@pa_u _ _ _ _ _ (@pe_int _ _ _ _) (@pa_u _ _ _ _ _ (@pv _ 4 _ _ (by rfl) (by first | exact Or.inl rfl | exact Or.inr (Or.inl rfl) | exact Or.inr (Or.inr rfl)) (by decide) (by decide)) (@pa_nil _) (by rfl)) (by rfl)) (by rfl)) (by rfl)) (by rfl)) (by rfl)) (by rfl))))) (@pss_nil _)) 
      (@pss_cons _ _ _ _ _ (@ps_set _ _ 5 _ _ _ _ sc_extra_ball.nd rfl (Or.inl rfl) (@pe_op _ _ _ _ _ _ _ _ op_sub (@pe_ix _ _ _ _ _ _ _ ix_tup (@pv _ 1 _ _ (by rfl) (by first | exact Or.inl rfl | exact Or.inr (Or.inl rfl) | exact Or.inr (Or.inr rfl)) (by decide) (by decide)) (@pe_int _ _ _ _) (fun _ _ => rfl)) (@pv _ 2 _ _ (by rfl) (by first | exact Or.inl rfl | exact Or.inr (Or.inl rfl) | exact Or.inr (Or.inr rfl)) (by decide) (by decide))) (by rfl) (by first | exact .inl rfl | exact .inr rfl | assumption)) 
      (@pss_cut _ _ _ _ _ (@ps_if _ _ _ _ _ _ _ _ (@pt_cmpR _ _ _ _ _ _ _ _ op_eq (@pv _ 5 _ _ (by rfl) (by first | exact Or.inl rfl | exact Or.inr (Or.inl rfl) | exact Or.inr (Or.inr rfl)) (by decide) (by decide)) (@pe_int _ _ _ _) (nomark _)) (@pss_one _ _ _ (@ps_set _ _ 5 _ _ _ _ sc_extra_ball.nd rfl (Or.inl rfl) (@pe_ix _ _ _ _ _ _ _ ix_tup (@pv _ 0 _ _ (by rfl) (by first | exact Or.inl rfl | exact Or.inr (Or.inl rfl) | exact Or.inr (Or.inr rfl)) (by decide) (by decide)) (@pe_int _ _ _ _) (fun _ _ => rfl)) (by rfl) (by first | exact .inl rfl | exact .inr rfl | assumption))) (@pss_nil _)) (@pss_one _ _ _ (@ps_ret _ _ _ _ (@pe_tup _ _ _ _ _ (@pa_u _ _ _ _ _ (@pe_ix _ _ _ _ _ _ _ ix_tup (@pv _ 1 _ _ (by rfl) (by first | exact Or.inl rfl | exact Or.inr (Or.inl rfl) | exact Or.inr (Or.inr rfl)) (by decide) (by decide)) (@pe_int _ _ _ _) (fun _ _ => rfl)) (@pa_u _ _ _ _ _ (@pe_ix _ _ _ _ _ _ _ ix_tup (@pv _ 1 _ _ (by rfl) (by first | exact Or.inl rfl | exact Or.inr (Or.inl rfl) | exact Or.inr (Or.inr rfl)) (by decide) (by decide)) (@pe_int _ _ _ _) (fun _ _ => rfl)) (@pa_u _ _ _ _ _ (@pv _ 5 _ _ (by rfl) (by first | exact Or.inl rfl | exact Or.inr (Or.inl rfl) | exact Or.inr (Or.inr rfl)) (by decide) (by decide)) (@pa_u _ _ _ _ _ (@pe_ix _ _ _ _ _ _ _ ix_tup (@pv _ 1 _ _ (by rfl) (by first | exact Or.inl rfl | exact Or.inr (Or.inl rfl) | exact Or.inr (Or.inr rfl)) (by decide) (by decide)) (@pe_int _ _ _ _) (fun _ _ => rfl)) (@pa_u _ _ _ _ _ (@pe_int _ _ _ _) (@pa_u _ _ _ _ _ (@pv _ 3 _ _ (by rfl) (by first | exact Or.inl rfl | exact Or.inr (Or.inl rfl) | exact Or.inr (Or.inr rfl)) (by decide) (by decide)) (@pa_u _ _ _ _ _ (@pv _ 4 _ _ (by rfl) (by first | exact Or.inl rfl | exact Or.inr (Or.inl rfl) | exact Or.inr (Or.inr rfl)) (by decide) (by decide)) (@pa_nil _) (by rfl)) (by rfl)) (by rfl)) (by rfl)) (by rfl)) (by rfl)) (by rfl)))))))))), rfl, ?_⟩
  walk_at "cl"
  obtain ⟨ra, rfl, hs⟩ := rw_inv hr'
  unfold extraB at q
  walk_at "st"
  refine ⟨_, hs, _, rfl, ?_⟩
  walk_at "st"
  refine ⟨_, hs, _, rfl, ?_⟩
  walk_at "rd"
  refine ⟨_, hs, _, rfl, ?_⟩
  walk_at "rd"
  refine ⟨cmul_l (by omega) (by omega), ?_⟩
  walk_at "st"
  have fin : ∀ (x : Lr), (∀ a H', Same H H' → RwV K H' x (.ref a) → Q (.ref a) H') → ([V.int x.d, .int x.b, .int x.u, .int x.n, .int x.a, .int x.x, .int x.t] : List V).length ≤ sizeLine ∧ ∀ p, H p = none → Q (.ref p) (upd H p (.tup [V.int x.d, .int x.b, .int x.u, .int x.n, .int x.a, .int x.x, .int x.t])) := fun x hq =>
    ⟨small6 (by simp), fun p hp => hq _ _ (same_new hp _) (rw_mk (.of upd_same))⟩
  refine ite2 (fun c => ?_) (fun c => ?_)
  · rw [if_pos c] at q
    refine ⟨_, hs, _, rfl, ?_⟩
    walk_at "rd"
    refine ⟨_, hs, _, rfl, _, hl, _, rfl, _, hs, _, rfl, ?_⟩
    exact fin _ q
  · rw [if_neg c] at q
    walk_at "st"
    refine ⟨_, hs, _, rfl, ?_⟩
    walk_at "rd"
    refine r_cut (fun σ' H' => σ' = [some (.ref la), some (.ref ra), some (.int kk), some (.int (r.x - 1)), some (.int (r.t + kk * r.n)), some (.int (if r.u - kk = 0 then p else r.u - kk))] ∧ H' = H) (fun M hM => ?_) ?_
    · walk_at "rd"
      refine ite2 (fun c => ?_) (fun c => ?_)
      · refine ⟨_, hl, _, rfl, ?_⟩
        exact hM _ _ ⟨by rw [if_pos c], rfl⟩
      · exact hM _ _ ⟨by rw [if_neg c], rfl⟩
    rintro _ Hx ⟨rfl, eHx⟩
    rw [eHx]
    clear eHx Hx
    walk_at "rd"
    refine ⟨_, hs, _, rfl, _, hs, _, rfl, _, hs, _, rfl, ?_⟩
    exact fin _ q
theorem ok_is_over (F : Df K mg "is_over" s_is_over ["lane", "rows"]) (m_all : mg "all" = none) : Dn P w K mg base (k + 1) "is_over" ["lane", "rows"] (spOver K) := by
  refine F.ok sc_is_over (fun vs H Q E h => ?_) (fun f cdv A outer s H vs Q E hr h => ?_)
  · obtain ⟨la, ra, s, p, f, rows, us, rfl, _⟩ := h; rfl
  obtain ⟨la, ra, sd, p, f, rows, us, rfl, hl, hra, hrl, h3, q⟩ := h
  refine ⟨_, [some _, some _], (@pss_one _ _ _ (@ps_ret _ _ _ _ (@pe_callBu _ _ _ _ _ _ _ _ _ (call_allB rfl) rfl m_all bt_all (@pa_u _ _ _ _ _ (@pe_comp _ _ _ _ _ _ _ _ _ _ _ _ _ rfl (compCap (N := ["lane", "rows"]) (fr := ["lane"]) (osc := defScope s_is_over) rfl rfl (by decide +kernel) rfl rfl (by intro p hp; simp only [List.mem_cons, List.not_mem_nil, or_false] at hp; rcases hp with rfl <;> rfl)) (@pi_tup _ _ _ _ (@pv _ 1 _ _ (by rfl) (by first | exact Or.inl rfl | exact Or.inr (Or.inl rfl) | exact Or.inr (Or.inr rfl)) (by decide) (by decide))) (fun _ _ _ _ => (@pts_nil _)) (fun _ _ _ _ => (@pe_cmpR _ _ _ _ _ _ _ _ op_eq (@pe_ix _ _ _ _ _ _ _ (ixK_tup (K := K) rfl) (@pv _ 0 _ _ (by rfl) (by first | exact Or.inl rfl | exact Or.inr (Or.inl rfl) | exact Or.inr (Or.inr rfl)) (by decide) (by decide)) (@pe_int _ _ _ _) (fun _ _ => rfl)) (@pe_ix _ _ _ _ _ _ _ (ixK_tup (K := K) rfl) (@pv _ 1 _ _ (by rfl) (by first | exact Or.inl rfl | exact Or.inr (Or.inl rfl) | exact Or.inr (Or.inr rfl)) (by decide) (by decide)) (@pe_int _ _ _ _) (fun _ _ => rfl)) (nomark _))) (by intro _; rfl)) (@pa_nil _) (by rfl)) (by rfl) (by decide) (by decide)))), rfl, ?_⟩
  walk_at "cl"
  walk_at "rd"
  refine comp_tp (a := ra) (xs := us) (fun i => V.bl (match rows[i]? with | some r => decide (r.d = f) | none => true)) (fun R h => ⟨_, rfl, h⟩) hra (by have := hrl.len; omega) (fun i x H1 hx S1 Q' hq => ?_) (fun D H1 S1 hD hD' => ?_)
  · obtain ⟨hi, _⟩ := List.getElem?_eq_some_iff.mp hx
    have hi' : i < rows.length := by rw [hrl.len]; exact hi
    have hri : rows[i]? = some rows[i] := List.getElem?_eq_getElem hi'
    obtain ⟨v, hv, rv⟩ := hrl.at hri
    rw [hx] at hv
    cases hv
    obtain ⟨a, rfl, hs⟩ := rw_inv (rv.same S1)
    walk_at "rd"
    refine ⟨_, hs, _, rfl, _, Same.sqT hl S1, _, rfl, ?_⟩
    walk_at "rd"
    have := hq _ (.refl _)
    rw [hri] at this
    exact this
  · refine ⟨D, (List.range us.length).map (fun i => match rows[i]? with | some r => decide (r.d = f) | none => true), rfl, .of (by rw [hD', List.map_map]; rfl), ?_⟩
    have e : ((List.range us.length).map (fun i => match rows[i]? with | some r => decide (r.d = f) | none => true)) = rows.map fun r => decide (r.d = f) := by
      rw [← hrl.len]
      refine List.ext_getElem (by simp) fun i h1 h2 => ?_
      simp only [List.length_map] at h2
      simp [h2]
    rw [e, List.all_map]
    exact q _ S1
theorem ok_lane_begun (F : Df K mg "lane_begun" s_lane_begun ["lane"]) : Dn P w K mg base (k + 1) "lane_begun" ["lane"] (spLBegun K) := by
  refine F.ok sc_lane_begun (fun vs H Q E h => ?_) (fun f cdv A outer s H vs Q E hr h => ?_)
  · obtain ⟨la, s, p, f, rfl, _⟩ := h; rfl
  obtain ⟨la, sd, p, f, rfl, hl, h1, h3, q⟩ := h
  refine ⟨_, [some _, none], 
      (@pss_cons _ _ _ _ _ (@ps_set _ _ 1 _ _ _ _ sc_lane_begun.nd rfl (Or.inl rfl) (@pe_tup _ _ _ _ _ (@pa_u _ _ _ _ _ (@pe_int _ _ _ _) (@pa_u _ _ _ _ _ (@pe_int _ _ _ _) (@pa_u _ _ _ _ _ (@pe_ix _ _ _ _ _ _ _ ix_tup (@pv _ 0 _ _ (by rfl) (by first | exact Or.inl rfl | exact Or.inr (Or.inl rfl) | exact Or.inr (Or.inr rfl)) (by decide) (by decide)) (@pe_int _ _ _ _) (fun _ _ => rfl)) (@pa_u _ _ _ _ _ (@pe_int _ _ _ _) (@pa_u _ _ _ _ _ (@pe_int _ _ _ _) (@pa_u _ _ _ _ _ (@pe_int _ _ _ _) (@pa_u _ _ _ _ _ (@pe_int _ _ _ _) (@pa_nil _) (by rfl)) (by rfl)) (by rfl)) (by rfl)) (by rfl)) (by rfl)) (by rfl))) (by rfl) (by first | exact .inl rfl | exact .inr rfl | assumption)) (@pss_one _ _ _ (@ps_ret _ _ _ _ (@pe_tup _ _ _ _ _ (@pa_u _ _ _ _ _ (@pe_op _ _ _ _ _ _ _ _ op_repT (@pe_tup _ _ _ _ _ (@pa_u _ _ _ _ _ (@pv _ 1 _ _ (by rfl) (by first | exact Or.inl rfl | exact Or.inr (Or.inl rfl) | exact Or.inr (Or.inr rfl)) (by decide) (by decide)) (@pa_nil _) (by rfl))) (@pe_ix _ _ _ _ _ _ _ ix_tup (@pv _ 0 _ _ (by rfl) (by first | exact Or.inl rfl | exact Or.inr (Or.inl rfl) | exact Or.inr (Or.inr rfl)) (by decide) (by decide)) (@pe_int _ _ _ _) (fun _ _ => rfl))) (@pa_u _ _ _ _ _ (@pe_int _ _ _ _) (@pa_nil _) (by rfl)) (by rfl)))))), rfl, ?_⟩
  walk_at "cl"
  walk_at "st"
  refine ⟨_, hl, _, rfl, small6 (by simp), fun p1 hp1 => ?_⟩
  walk_at "rd"
  refine ⟨small6 (by simp), fun p2 hp2 => ?_⟩
  have s1 := same_new hp1 (.tup [V.int 0, V.int 0, V.int p, V.int 0, V.int 0, V.int 0, V.int 0])
  have s2 := same_new hp2 (.tup [V.ref p1])
  have r1 : RwV K (upd H p1 (HO.tup [V.int 0, V.int 0, V.int p, V.int 0, V.int 0, V.int 0, V.int 0])) ⟨0, 0, p, 0, 0, 0, 0⟩ (.ref p1) := rw_mk (.of upd_same)
  refine ⟨_, Same.sqT (Same.sqT hl s1) s2, _, rfl, p2, .ref p1, sd, rfl, rfl, h1, h3, .of upd_same, fun p3 H3 S3 h3' => ?_⟩
  refine ⟨small6 (by simp), fun p4 hp4 => ?_⟩
  have s4 := same_new hp4 (.tup [V.ref p3, V.int 0])
  exact q _ _ (((s1.trans s2).trans S3).trans s4) (ls_mk (.of upd_same) (Same.sqT h3' s4) (RwL.rep ((r1.same (s2.trans S3)).same s4)))
theorem ok_lane_bowled (F : Df K mg "lane_bowled" s_lane_bowled ["lane", "stand", "pins"]) (d_is_whole : Dn P w K mg base k "is_whole" ["thing", "least", "most"] (spWhole K)) (d_frame_ball : Dn P w K mg base k "frame_ball" ["lane", "row", "pins"] (spFrame K)) (d_extra_ball : Dn P w K mg base k "extra_ball" ["lane", "row", "pins"] (spExtra K)) (d_is_over : Dn P w K mg base k "is_over" ["lane", "rows"] (spOver K)) : Dn P w K mg base (k + 1) "lane_bowled" ["lane", "stand", "pins"] (spBowl K) := by
  refine F.ok sc_lane_bowled (fun vs H Q E h => ?_) (fun f cdv A outer s H vs Q E hr h => ?_)
  · obtain ⟨la, s, p, f, rows, side, r, sv, k, rfl, _⟩ := h; rfl
  obtain ⟨la, sd, p, f, rows, side, r, sv, kk, rfl, hl, hst, hrl, hs3, hrow, k0, k1, k2, q⟩ := h
  refine ⟨_, [some _, some _, some _, none, none, none, none], 
      (@pss_cons _ _ _ _ _ (@ps_set _ _ 3 _ _ _ _ sc_lane_bowled.nd rfl (Or.inl rfl) (@pe_ix _ _ _ _ _ _ _ ix_tup (@pv _ 1 _ _ (by rfl) (by first | exact Or.inl rfl | exact Or.inr (Or.inl rfl) | exact Or.inr (Or.inr rfl)) (by decide) (by decide)) (@pe_int _ _ _ _) (fun _ _ => rfl)) (by rfl) (by first | exact .inl rfl | exact .inr rfl | assumption)) 
      (@pss_cons _ _ _ _ _ (@ps_set _ _ 4 _ _ _ _ sc_lane_bowled.nd rfl (Or.inl rfl) (@pe_ix _ _ _ _ _ _ _ ix_tup (@pv _ 1 _ _ (by rfl) (by first | exact Or.inl rfl | exact Or.inr (Or.inl rfl) | exact Or.inr (Or.inr rfl)) (by decide) (by decide)) (@pe_int _ _ _ _) (fun _ _ => rfl)) (by rfl) (by first | exact .inl rfl | exact .inr rfl | assumption)) 
      (@pss_cons _ _ _ _ _ (@ps_set _ _ 5 _ _ _ _ sc_lane_bowled.nd rfl (Or.inl rfl) (@pe_ix _ _ _ _ _ _ _ ix_tup (@pv _ 3 _ _ (by rfl) (by first | exact Or.inl rfl | exact Or.inr (Or.inl rfl) | exact Or.inr (Or.inr rfl)) (by decide) (by decide)) (@pv _ 4 _ _ (by rfl) (by first | exact Or.inl rfl | exact Or.inr (Or.inl rfl) | exact Or.inr (Or.inr rfl)) (by decide) (by decide)) (fun _ _ => rfl)) (by rfl) (by first | exact .inl rfl | exact .inr rfl | assumption)) 
      (@pss_cons _ _ _ _ _ (@ps_if _ _ _ _ _ _ _ _ (@pt_not _ _ _ _ (@pt_val _ _ _ (@pe_callD _ _ _ _ _ _ _ _ _ _ d_is_whole hr rfl (@pa_u _ _ _ _ _ (@pv _ 2 _ _ (by rfl) (by first | exact Or.inl rfl | exact Or.inr (Or.inl rfl) | exact Or.inr (Or.inr rfl)) (by decide) (by decide)) (@pa_u _ _ _ _ _ (@pe_int _ _ _ _) (@pa_u _ _ _ _ _ (@pe_ix _ _ _ _ _ _ _ ix_tup (@pv _ 5 _ _ (by rfl) (by first | exact Or.inl rfl | exact Or.inr (Or.inl rfl) | exact Or.inr (Or.inr rfl)) (by decide) (by decide)) (@pe_int _ _ _ _) (fun _ _ => rfl)) (@pa_nil _) (by rfl)) (by rfl)) (by rfl)) (by rfl) (by decide)) (by intro _; rfl))) (@pss_one _ _ _ (@ps_never _ _)) (@pss_nil _)) 
      (@pss_cut _ _ _ _ _ (@ps_set _ _ 6 _ _ _ _ sc_lane_bowled.nd rfl (Or.inl rfl) (@pe_ifExp _ _ _ _ _ _ _ _ (@pt_cmpR _ _ _ _ _ _ _ _ op_eq (@pe_ix _ _ _ _ _ _ _ ix_tup (@pv _ 5 _ _ (by rfl) (by first | exact Or.inl rfl | exact Or.inr (Or.inl rfl) | exact Or.inr (Or.inr rfl)) (by decide) (by decide)) (@pe_int _ _ _ _) (fun _ _ => rfl)) (@pe_int _ _ _ _) (nomark _)) (@pe_callD _ _ _ _ _ _ _ _ _ _ d_frame_ball hr rfl (@pa_u _ _ _ _ _ (@pv _ 0 _ _ (by rfl) (by first | exact Or.inl rfl | exact Or.inr (Or.inl rfl) | exact Or.inr (Or.inr rfl)) (by decide) (by decide)) (@pa_u _ _ _ _ _ (@pv _ 5 _ _ (by rfl) (by first | exact Or.inl rfl | exact Or.inr (Or.inl rfl) | exact Or.inr (Or.inr rfl)) (by decide) (by decide)) (@pa_u _ _ _ _ _ (@pv _ 2 _ _ (by rfl) (by first | exact Or.inl rfl | exact Or.inr (Or.inl rfl) | exact Or.inr (Or.inr rfl)) (by decide) (by decide)) (@pa_nil _) (by rfl)) (by rfl)) (by rfl)) (by rfl) (by decide)) (@pe_callD _ _ _ _ _ _ _ _ _ _ d_extra_ball hr rfl (@pa_u _ _ _ _ _ (@pv _ 0 _ _ (by rfl) (by first | exact Or.inl rfl | exact Or.inr (Or.inl rfl) | exact Or.inr (Or.inr rfl)) (by decide) (by decide)) (@pa_u _ _ _ _ _ (@pv _ 5 _ _ (by rfl) (by first | exact Or.inl rfl | exact Or.inr (Or.inl rfl) | exact Or.inr (Or.inr rfl)) (by decide) (by decide)) (@pa_u _ _ _ _ _ (@pv _ 2 _ _ (by rfl) (by first | exact Or.inl rfl | exact Or.inr (Or.inl rfl) | exact Or.inr (Or.inr rfl)) (by decide) (by decide)) (@pa_nil _) (by rfl)) (by rfl)) (by rfl)) (by rfl) (by decide))) (by rfl) (by first | exact .inl rfl | exact .inr rfl | assumption)) 
      (@pss_cons _ _ _ _ _ (@ps_set _ _ 3 _ _ _ _ sc_lane_bowled.nd rfl (Or.inl rfl) (@pe_op _ _ _ _ _ _ _ _ op_catA (@pe_op _ _ _ _ _ _ _ _ op_catA (@pe_slice _ _ _ _ _ _ _ _ _ _ sl_tup (@pv _ 3 _ _ (by rfl) (by first | exact Or.inl rfl | exact Or.inr (Or.inl rfl) | exact Or.inr (Or.inr rfl)) (by decide) (by decide)) (@po_none _) (@po_some _ _ _ (@pv _ 4 _ _ (by rfl) (by first | exact Or.inl rfl | exact Or.inr (Or.inl rfl) | exact Or.inr (Or.inr rfl)) (by decide) (by decide)))) (@pe_tup _ _ _ _ _ (@pa_u _ _ _ _ _ (@pv _ 6 _ _ (by rfl) (by first | exact Or.inl rfl | exact Or.inr (Or.inl rfl) | exact Or.inr (Or.inr rfl)) (by decide) (by decide)) (@pa_nil _) (by rfl)))) (@pe_slice _ _ _ _ _ _ _ _ _ _ sl_tup (@pv _ 3 _ _ (by rfl) (by first | exact Or.inl rfl | exact Or.inr (Or.inl rfl) | exact Or.inr (Or.inr rfl)) (by decide) (by decide)) (@po_some _ _ _ (@pe_op _ _ _ _ _ _ _ _ op_add (@pv _ 4 _ _ (by rfl) (by first | exact Or.inl rfl | exact Or.inr (Or.inl rfl) | exact Or.inr (Or.inr rfl)) (by decide) (by decide)) (@pe_int _ _ _ _))) (@po_none _))) (by rfl) (by first | exact .inl rfl | exact .inr rfl | assumption)) 
      (@pss_cut _ _ _ _ _ (@ps_if _ _ _ _ _ _ _ _ (@pt_cmpR _ _ _ _ _ _ _ _ op_gt (@pe_ix _ _ _ _ _ _ _ ix_tup (@pv _ 6 _ _ (by rfl) (by first | exact Or.inl rfl | exact Or.inr (Or.inl rfl) | exact Or.inr (Or.inr rfl)) (by decide) (by decide)) (@pe_int _ _ _ _) (fun _ _ => rfl)) (@pe_ix _ _ _ _ _ _ _ ix_tup (@pv _ 5 _ _ (by rfl) (by first | exact Or.inl rfl | exact Or.inr (Or.inl rfl) | exact Or.inr (Or.inr rfl)) (by decide) (by decide)) (@pe_int _ _ _ _) (fun _ _ => rfl)) (nomark _)) (@pss_one _ _ _ (@ps_set _ _ 4 _ _ _ _ sc_lane_bowled.nd rfl (Or.inl rfl) (@pe_op _ _ _ _ _ _ _ _ op_mod (@pe_op _ _ _ _ _ _ _ _ op_add (@pv _ 4 _ _ (by rfl) (by first | exact Or.inl rfl | exact Or.inr (Or.inl rfl) | exact Or.inr (Or.inr rfl)) (by decide) (by decide)) (@pe_int _ _ _ _)) (@pe_ix _ _ _ _ _ _ _ ix_tup (@pv _ 0 _ _ (by rfl) (by first | exact Or.inl rfl | exact Or.inr (Or.inl rfl) | exact Or.inr (Or.inr rfl)) (by decide) (by decide)) (@pe_int _ _ _ _) (fun _ _ => rfl))) (by rfl) (by first | exact .inl rfl | exact .inr rfl | assumption))) (@pss_nil _)) (@pss_one _ _ _ (@ps_ret _ _ _ _ (@pe_tup _ _ _ _ _ (@pa_u _ _ _ _ _ (@pe_tup _ _ _ _ _ (@pa_u _ _ _ _ _ (@pv _ 3 _ _ (by rfl) (by first | exact Or.inl rfl | exact Or.inr (Or.inl rfl) | exact Or.inr (Or.inr rfl)) (by decide) (by decide)) (@pa_u _ _ _ _ _ (@pv _ 4 _ _ (by rfl) (by first | exact Or.inl rfl | exact Or.inr (Or.inl rfl) | exact Or.inr (Or.inr rfl)) (by decide) (by decide)) (@pa_nil _) (by rfl)) (by rfl))) (@pa_u _ _ _ _ _ (@pe_callD _ _ _ _ _ _ _ _ _ _ d_is_over hr rfl (@pa_u _ _ _ _ _ (@pv _ 0 _ _ (by rfl) (by first | exact Or.inl rfl | exact Or.inr (Or.inl rfl) | exact Or.inr (Or.inr rfl)) (by decide) (by decide)) (@pa_u _ _ _ _ _ (@pv _ 3 _ _ (by rfl) (by first | exact Or.inl rfl | exact Or.inr (Or.inl rfl) | exact Or.inr (Or.inr rfl)) (by decide) (by decide)) (@pa_nil _) (by rfl)) (by rfl)) (by rfl) (by decide)) (@pa_nil _) (by rfl)) (by rfl)))))))))))), rfl, ?_⟩
  walk_at "cl"
  obtain ⟨a, ra, us, rfl, hsa, hra, hru⟩ := ls_inv hst
  obtain ⟨rv, hrv, hrr⟩ := hru.at hrow
  obtain ⟨pa, rfl, hpa⟩ := rw_inv hrr
  walk_at "st"
  refine ⟨_, hsa, _, rfl, ?_⟩
  walk_at "st"
  refine ⟨_, hsa, _, rfl, ?_⟩
  walk_at "st"
  refine ⟨_, hra, _, atI_nat hrv, ?_⟩
  walk_at "st"
  refine ⟨_, hpa, _, rfl, ?_⟩
  refine ⟨0, .int kk, _, _, _, rfl, .int _, _, rfl, ?_⟩
  rw [if_neg (by simp [whl, k0, k1])]
  have hrs : rowsB p f rows side kk = rows.set side (ballB p f r kk) := by unfold rowsB; rw [hrow]
  have hsb : sideB p f rows side kk = if (ballB p f r kk).d > r.d then (side + 1) % rows.length else side := by unfold sideB; rw [hrow]
  have hsl : side < rows.length := (List.getElem?_eq_some_iff.mp hrow).1
  have hul := hru.len
  refine r_cut (fun σ' H' => ∃ b, σ' = [some (.ref la), some (.ref a), some (.int kk), some (.ref ra), some (.int side), some (.ref pa), some (.ref b)] ∧ Same H H' ∧ RwV K H' (ballB p f r kk) (.ref b)) (fun M hM => ?_) ?_
  · walk_at "rd"
    refine ⟨_, hpa, _, rfl, ?_⟩
    walk_at "rd"
    refine ite2 (fun c => ?_) (fun c => ?_)
    · refine ⟨la, _, p, f, r, _, kk, rfl, hl, hrr, k0, k2, fun b H' S' h' => hM _ _ ⟨b, rfl, S', ?_⟩⟩
      unfold ballB
      rw [if_pos c]
      exact h'
    · refine ⟨la, _, p, f, r, _, kk, rfl, hl, hrr, k0, k2, fun b H' S' h' => hM _ _ ⟨b, rfl, S', ?_⟩⟩
      unfold ballB
      rw [if_neg c]
      exact h'
  rintro _ H1 ⟨b, rfl, S1, hb⟩
  generalize ballB p f r kk = r' at hb hrs hsb
  rw [hrs, hsb] at q
  clear hrs hsb
  walk_at "st"
  refine ⟨ra, us, rfl, Same.sqT hra S1, ?_, fun p1 hp1 => ?_⟩
  · rintro ⟨_, z⟩
    replace z : (if ((side : Nat) : Int) < 0 then (((side : Nat) : Int) + (us.length : Int)).toNat else min ((side : Nat) : Int).toNat us.length) = us.length := z
    rw [if_neg (by omega)] at z
    omega
  rw [cutV_take]
  have s1 := same_new hp1 (.tup (us.take side))
  refine ⟨small6 (by simp), fun p2 hp2 => ?_⟩
  have s2 := same_new hp2 (.tup [V.ref b])
  have hlt : (us.take side).length ≤ 3 := by rw [List.length_take]; omega
  have hld : (us.drop (side + 1)).length ≤ 3 := by rw [List.length_drop]; omega
  refine ⟨p1, p2, us.take side, [.ref b], rfl, rfl, Same.sqT (.of upd_same) s2, .of upd_same, smallA (by simp; omega), fun p3 H3 S3 h3 => ?_⟩
  have SS3 := ((S1.trans s1).trans s2).trans S3
  refine ⟨ra, us, rfl, Same.sqT hra SS3, ?_, fun p4 hp4 => ?_⟩
  · rintro ⟨z, _⟩
    replace z : (if (((side : Nat) : Int) + 1) < 0 then ((((side : Nat) : Int) + 1) + (us.length : Int)).toNat else min (((side : Nat) : Int) + 1).toNat us.length) = 0 := z
    rw [if_neg (by omega)] at z
    omega
  rw [show ((side : Nat) : Int) + 1 = ((side + 1 : Nat) : Int) by omega, cutV_drop (by omega)]
  have s4 := same_new hp4 (.tup (us.drop (side + 1)))
  refine ⟨p3, p4, us.take side ++ [.ref b], us.drop (side + 1), rfl, rfl, Same.sqT h3 s4, .of upd_same, smallA (by rw [List.length_append]; simp only [List.length_cons, List.length_nil]; omega), fun p5 H5 S5 h5 => ?_⟩
  rw [set_parts (by omega)] at h5
  have SS5 := (SS3.trans s4).trans S5
  have hb5 : RwV K H5 r' (.ref b) := (((((hb.same s1).same s2).same S3).same s4).same S5)
  have hru5 : RwL K H5 (rows.set side r') (us.set side (.ref b)) := (hru.same SS5).set hb5
  obtain ⟨b', eb, hsb⟩ := rw_inv hb5
  cases eb
  walk_at "rd"
  refine r_cut (fun σ' H' => σ' = [some (.ref la), some (.ref a), some (.int kk), some (.ref p5), some (.int ((if r'.d > r.d then (side + 1) % rows.length else side : Nat) : Int)), some (.ref pa), some (.ref b)] ∧ H' = H5) (fun M hM => ?_) ?_
  · walk_at "rd"
    refine ⟨_, hsb, _, rfl, _, Same.sqT hpa SS5, _, rfl, ?_⟩
    walk_at "rd"
    refine ite2 (fun c => ?_) (fun c => ?_)
    · refine ⟨_, Same.sqT hl SS5, _, rfl, ?_⟩
      walk_at "rd"
      refine ⟨by omega, hM _ _ ⟨?_, rfl⟩⟩
      rw [if_pos c, hrl]
      rw [show ((((side + 1) % sd : Nat)) : Int) = ((side : Int) + 1) % (sd : Int) by rw [Int.natCast_emod]; rfl]
    · exact hM _ _ ⟨by rw [if_neg c], rfl⟩
  rintro _ Hx ⟨rfl, eHx⟩
  rw [eHx]
  clear eHx Hx
  generalize (if r'.d > r.d then (side + 1) % rows.length else side) = sn at q ⊢
  walk_at "rd"
  refine ⟨small6 (by simp), fun p6 hp6 => ?_⟩
  have s6 := same_new hp6 (.tup [V.ref p5, V.int (sn : Int)])
  refine ⟨la, p5, _, p, f, rows.set side r', _, rfl, Same.sqT (Same.sqT hl SS5) s6, Same.sqT h5 s6, hru5.same s6, by rw [List.length_set]; omega, fun H7 S7 => ?_⟩
  refine ⟨small6 (by simp), fun p8 hp8 => ?_⟩
  have s8 := same_new hp8 (.tup [V.ref p6, V.bl (overB f (rows.set side r'))])
  exact q _ (.ref p6) _ (((SS5.trans s6).trans S7).trans s8) (.of upd_same) (ls_mk (Same.sqT (Same.sqT (.of upd_same) S7) s8) (Same.sqT (Same.sqT (Same.sqT h5 s6) S7) s8) (((hru5.same s6).same S7).same s8))
end
end My
namespace My
open PySem L2 M
section
variable (K : PySem.W.Frag) (ns : List Int)
def spLane : Sp := fun vs H Q _ => ∃ t sc, vs = [.ref t] ∧ TapeS K ns t sc H ∧ ∀ (la : Addr) (s : Nat) (p f : Int) H', 1 ≤ s → s ≤ 3 → 1 ≤ p → p ≤ 20 → 1 ≤ f → f ≤ 12 → CurS K ns t sc H H' → SqT K H' la [.int s, .int p, .int f] → Q (.ref la) H'
def spBall : Sp := fun vs H Q _ => ∃ t sc up, vs = [.ref t, .int up] ∧ TapeS K ns t sc H ∧ 0 ≤ up ∧ up ≤ 20 ∧ ∀ k H', 0 ≤ k → k ≤ up → CurS K ns t sc H H' → Q (.int k) H'
end
section
variable {P : Program} {w : World} {K : PySem.W.Frag} {mg : Str → Option Value} {base : Heap} {ns : List Int} {k : Nat}
theorem ok_law_lane (F : Df K mg "_law_lane" s_law_lane ["_law_tape_here"]) (d_law_draw : Dn P w K mg base k "_law_draw" ["_law_tape_here", "_law_many"] (spDrawS K ns)) : Dn P w K mg base (k + 1) "_law_lane" ["_law_tape_here"] (spLane K ns) := by
  refine F.ok sc_law_lane (fun vs H Q E h => ?_) (fun f cdv A outer s H vs Q E hr h => ?_)
  · obtain ⟨t, sc, rfl, _⟩ := h; rfl
  obtain ⟨t, sc, rfl, T, q⟩ := h
  refine ⟨_, [some _, none, none], 
      (@pss_cons _ _ _ _ _ (@ps_set _ _ 1 _ _ _ _ sc_law_lane.nd rfl (Or.inl rfl) (@pe_ix _ _ _ _ _ _ _ ix_list (@pe_lst _ _ _ _ (@pa_u _ _ _ _ _ (@pe_op _ _ _ _ _ _ _ _ op_add (@pe_int _ _ _ _) (@pe_callD _ _ _ _ _ _ _ _ _ _ d_law_draw hr rfl (@pa_u _ _ _ _ _ (@pv _ 0 _ _ (by rfl) (by first | exact Or.inl rfl | exact Or.inr (Or.inl rfl) | exact Or.inr (Or.inr rfl)) (by decide) (by decide)) (@pa_u _ _ _ _ _ (@pe_int _ _ _ _) (@pa_nil _) (by rfl)) (by rfl)) (by rfl) (by decide))) (@pa_u _ _ _ _ _ (@pe_int _ _ _ _) (@pa_u _ _ _ _ _ (@pe_op _ _ _ _ _ _ _ _ op_add (@pe_int _ _ _ _) (@pe_callD _ _ _ _ _ _ _ _ _ _ d_law_draw hr rfl (@pa_u _ _ _ _ _ (@pv _ 0 _ _ (by rfl) (by first | exact Or.inl rfl | exact Or.inr (Or.inl rfl) | exact Or.inr (Or.inr rfl)) (by decide) (by decide)) (@pa_u _ _ _ _ _ (@pe_int _ _ _ _) (@pa_nil _) (by rfl)) (by rfl)) (by rfl) (by decide))) (@pa_nil _) (by rfl)) (by rfl)) (by rfl))) (@pe_callD _ _ _ _ _ _ _ _ _ _ d_law_draw hr rfl (@pa_u _ _ _ _ _ (@pv _ 0 _ _ (by rfl) (by first | exact Or.inl rfl | exact Or.inr (Or.inl rfl) | exact Or.inr (Or.inr rfl)) (by decide) (by decide)) (@pa_u _ _ _ _ _ (@pe_int _ _ _ _) (@pa_nil _) (by rfl)) (by rfl)) (by rfl) (by decide)) (fun _ _ => rfl)) (by rfl) (by first | exact .inl rfl | exact .inr rfl | assumption)) 
      (@pss_cons _ _ _ _ _ (@ps_set _ _ 2 _ _ _ _ sc_law_lane.nd rfl (Or.inl rfl) (@pe_ix _ _ _ _ _ _ _ ix_list (@pe_lst _ _ _ _ (@pa_u _ _ _ _ _ (@pe_op _ _ _ _ _ _ _ _ op_add (@pe_int _ _ _ _) (@pe_callD _ _ _ _ _ _ _ _ _ _ d_law_draw hr rfl (@pa_u _ _ _ _ _ (@pv _ 0 _ _ (by rfl) (by first | exact Or.inl rfl | exact Or.inr (Or.inl rfl) | exact Or.inr (Or.inr rfl)) (by decide) (by decide)) (@pa_u _ _ _ _ _ (@pe_int _ _ _ _) (@pa_nil _) (by rfl)) (by rfl)) (by rfl) (by decide))) (@pa_u _ _ _ _ _ (@pe_op _ _ _ _ _ _ _ _ op_add (@pe_int _ _ _ _) (@pe_callD _ _ _ _ _ _ _ _ _ _ d_law_draw hr rfl (@pa_u _ _ _ _ _ (@pv _ 0 _ _ (by rfl) (by first | exact Or.inl rfl | exact Or.inr (Or.inl rfl) | exact Or.inr (Or.inr rfl)) (by decide) (by decide)) (@pa_u _ _ _ _ _ (@pe_int _ _ _ _) (@pa_nil _) (by rfl)) (by rfl)) (by rfl) (by decide))) (@pa_nil _) (by rfl)) (by rfl))) (@pe_callD _ _ _ _ _ _ _ _ _ _ d_law_draw hr rfl (@pa_u _ _ _ _ _ (@pv _ 0 _ _ (by rfl) (by first | exact Or.inl rfl | exact Or.inr (Or.inl rfl) | exact Or.inr (Or.inr rfl)) (by decide) (by decide)) (@pa_u _ _ _ _ _ (@pe_int _ _ _ _) (@pa_nil _) (by rfl)) (by rfl)) (by rfl) (by decide)) (fun _ _ => rfl)) (by rfl) (by first | exact .inl rfl | exact .inr rfl | assumption)) (@pss_one _ _ _ (@ps_ret _ _ _ _ (@pe_tup _ _ _ _ _ (@pa_u _ _ _ _ _ (@pe_op _ _ _ _ _ _ _ _ op_add (@pe_int _ _ _ _) (@pe_callD _ _ _ _ _ _ _ _ _ _ d_law_draw hr rfl (@pa_u _ _ _ _ _ (@pv _ 0 _ _ (by rfl) (by first | exact Or.inl rfl | exact Or.inr (Or.inl rfl) | exact Or.inr (Or.inr rfl)) (by decide) (by decide)) (@pa_u _ _ _ _ _ (@pe_int _ _ _ _) (@pa_nil _) (by rfl)) (by rfl)) (by rfl) (by decide))) (@pa_u _ _ _ _ _ (@pv _ 1 _ _ (by rfl) (by first | exact Or.inl rfl | exact Or.inr (Or.inl rfl) | exact Or.inr (Or.inr rfl)) (by decide) (by decide)) (@pa_u _ _ _ _ _ (@pv _ 2 _ _ (by rfl) (by first | exact Or.inl rfl | exact Or.inr (Or.inl rfl) | exact Or.inr (Or.inr rfl)) (by decide) (by decide)) (@pa_nil _) (by rfl)) (by rfl)) (by rfl))))))), rfl, ?_⟩
  walk_at "cl"
  walk_at "st"
  refine drawS_of T fun r1 H1 r10 r11 c1 => ?_
  walk_at "rd"
  refine drawS_of c1.tape fun r2 H2 r20 r21 c2 => ?_
  walk_at "rd"
  have C2 := c1.then c2
  refine ⟨small6 (by simp), fun p1 hp1 => drawS_of (C2.tape.same (same_new hp1 _)) fun r3 H3 r30 r31 c3 => ?_⟩
  have s3 : SqL K H3 p1 [V.int (1 + r1), V.int 10, V.int (1 + r2)] := c3.ext.sqL (C2.tape.ne hp1) (.of upd_same)
  have C3 : CurS K ns t sc H H3 := (C2.new hp1).then c3
  walk_at "rd"
  obtain ⟨v3, hv3, m3⟩ := atMem (xs := [V.int (1 + r1), V.int 10, V.int (1 + r2)]) (i := r3) (by omega) (by simp; omega)
  obtain ⟨pn, rfl, pn0, pn1⟩ : ∃ k : Int, v3 = .int k ∧ 1 ≤ k ∧ k ≤ 20 := by
    simp at m3
    rcases m3 with rfl | rfl | rfl
    · exact ⟨_, rfl, by omega, by omega⟩
    · exact ⟨_, rfl, by decide, by decide⟩
    · exact ⟨_, rfl, by omega, by omega⟩
  refine ⟨_, s3, _, hv3, ?_⟩
  walk_at "st"
  refine drawS_of C3.tape fun r4 H4 r40 r41 c4 => ?_
  walk_at "rd"
  refine drawS_of c4.tape fun r5 H5 r50 r51 c5 => ?_
  walk_at "rd"
  have C5 := (C3.then c4).then c5
  refine ⟨small6 (by simp), fun p2 hp2 => drawS_of (C5.tape.same (same_new hp2 _)) fun r6 H6 r60 r61 c6 => ?_⟩
  have s6 : SqL K H6 p2 [V.int (1 + r4), V.int (1 + r5)] := c6.ext.sqL (C5.tape.ne hp2) (.of upd_same)
  have C6 : CurS K ns t sc H H6 := (C5.new hp2).then c6
  walk_at "rd"
  obtain ⟨v6, hv6, m6⟩ := atMem (xs := [V.int (1 + r4), V.int (1 + r5)]) (i := r6) (by omega) (by simp; omega)
  obtain ⟨fr, rfl, fr0, fr1⟩ : ∃ k : Int, v6 = .int k ∧ 1 ≤ k ∧ k ≤ 12 := by
    simp at m6
    rcases m6 with rfl | rfl
    · exact ⟨_, rfl, by omega, by omega⟩
    · exact ⟨_, rfl, by omega, by omega⟩
  refine ⟨_, s6, _, hv6, ?_⟩
  walk_at "rd"
  refine drawS_of C6.tape fun r7 H7 r70 r71 c7 => ?_
  walk_at "rd"
  have C7 := C6.then c7
  refine ⟨small6 (by simp), fun p3 hp3 => ?_⟩
  have e : (1 : Int) + r7 = ((1 + r7.toNat : Nat) : Int) := by omega
  rw [e]
  exact q p3 (1 + r7.toNat) pn fr _ (by omega) (by omega) pn0 pn1 fr0 fr1 (C7.new hp3) (.of upd_same)
theorem ok_law_ball (F : Df K mg "_law_ball" s_law_ball ["_law_tape_here", "_law_up"]) (m_max : mg "max" = none) (d_law_draw : Dn P w K mg base k "_law_draw" ["_law_tape_here", "_law_many"] (spDrawS K ns)) : Dn P w K mg base (k + 1) "_law_ball" ["_law_tape_here", "_law_up"] (spBall K ns) := by
  refine F.ok sc_law_ball (fun vs H Q E h => ?_) (fun f cdv A outer s H vs Q E hr h => ?_)
  · obtain ⟨t, sc, up, rfl, _⟩ := h; rfl
  obtain ⟨t, sc, up, rfl, T, u0, u1, q⟩ := h
  refine ⟨_, [some _, some _], (@pss_one _ _ _ (@ps_ret _ _ _ _ (@pe_ix _ _ _ _ _ _ _ ix_list (@pe_lst _ _ _ _ (@pa_u _ _ _ _ _ (@pv _ 1 _ _ (by rfl) (by first | exact Or.inl rfl | exact Or.inr (Or.inl rfl) | exact Or.inr (Or.inr rfl)) (by decide) (by decide)) (@pa_u _ _ _ _ _ (@pv _ 1 _ _ (by rfl) (by first | exact Or.inl rfl | exact Or.inr (Or.inl rfl) | exact Or.inr (Or.inr rfl)) (by decide) (by decide)) (@pa_u _ _ _ _ _ (@pe_callD _ _ _ _ _ _ _ _ _ _ d_law_draw hr rfl (@pa_u _ _ _ _ _ (@pv _ 0 _ _ (by rfl) (by first | exact Or.inl rfl | exact Or.inr (Or.inl rfl) | exact Or.inr (Or.inr rfl)) (by decide) (by decide)) (@pa_u _ _ _ _ _ (@pe_op _ _ _ _ _ _ _ _ op_add (@pv _ 1 _ _ (by rfl) (by first | exact Or.inl rfl | exact Or.inr (Or.inl rfl) | exact Or.inr (Or.inr rfl)) (by decide) (by decide)) (@pe_int _ _ _ _)) (@pa_nil _) (by rfl)) (by rfl)) (by rfl) (by decide)) (@pa_u _ _ _ _ _ (@pe_callBu _ _ _ _ _ _ _ _ _ (call_maxS rfl) rfl m_max bt_max (@pa_u _ _ _ _ _ (@pe_int _ _ _ _) (@pa_u _ _ _ _ _ (@pe_op _ _ _ _ _ _ _ _ op_sub (@pv _ 1 _ _ (by rfl) (by first | exact Or.inl rfl | exact Or.inr (Or.inl rfl) | exact Or.inr (Or.inr rfl)) (by decide) (by decide)) (@pe_int _ _ _ _)) (@pa_nil _) (by rfl)) (by rfl)) (by rfl) (by decide) (by decide)) (@pa_u _ _ _ _ _ (@pe_int _ _ _ _) (@pa_nil _) (by rfl)) (by rfl)) (by rfl)) (by rfl)) (by rfl))) (@pe_callD _ _ _ _ _ _ _ _ _ _ d_law_draw hr rfl (@pa_u _ _ _ _ _ (@pv _ 0 _ _ (by rfl) (by first | exact Or.inl rfl | exact Or.inr (Or.inl rfl) | exact Or.inr (Or.inr rfl)) (by decide) (by decide)) (@pa_u _ _ _ _ _ (@pe_int _ _ _ _) (@pa_nil _) (by rfl)) (by rfl)) (by rfl) (by decide)) (fun _ _ => rfl)))), rfl, ?_⟩
  walk_at "cl"
  walk_at "rd"
  refine drawS_of T (fun r1 H1 r10 r11 c1 => ?_) (by omega) (by omega)
  walk_at "rd"
  generalize hm : (if up - 1 > 0 then up - 1 else 0) = mx
  have hm' : 0 ≤ mx ∧ mx ≤ up := by rw [← hm]; split <;> omega
  refine ⟨small6 (by simp), fun p1 hp1 => drawS_of (c1.tape.same (same_new hp1 _)) fun r3 H3 r30 r31 c3 => ?_⟩
  have s3 : SqL K H3 p1 [V.int up, V.int up, V.int r1, V.int mx, V.int 0] := c3.ext.sqL (c1.tape.ne hp1) (.of upd_same)
  have C3 : CurS K ns t sc H H3 := (c1.new hp1).then c3
  walk_at "rd"
  obtain ⟨v3, hv3, m3⟩ := atMem (xs := [V.int up, V.int up, V.int r1, V.int mx, V.int 0]) (i := r3) (by omega) (by simp; omega)
  obtain ⟨pn, rfl, pn0, pn1⟩ : ∃ k : Int, v3 = .int k ∧ 0 ≤ k ∧ k ≤ up := by
    simp at m3
    rcases m3 with rfl | rfl | rfl | rfl
    · exact ⟨_, rfl, by omega, by omega⟩
    · exact ⟨_, rfl, by omega, by omega⟩
    · exact ⟨_, rfl, by omega, by omega⟩
    · exact ⟨_, rfl, by omega, by omega⟩
  exact ⟨_, s3, _, hv3, q _ _ pn0 pn1 C3⟩
end
end My
namespace My
open PySem L2 M
section
mutual
def fl2 : PyData → Bool
  | .none => true
  | .bool _ => true
  | .int _ => true
  | .str _ => true
  | .tuple ds => decide (ds.length ≤ 100000) && fls2 ds
  | .list ds => decide (ds.length ≤ 100000) && fls2 ds
  | _ => false
def fls2 : List PyData → Bool
  | [] => true
  | d :: ds => fl2 d && fls2 ds
end
theorem fls2_mem : ∀ {ds : List PyData} {d : PyData}, fls2 ds = true → d ∈ ds → fl2 d = true
  | e :: ds, d, h, hm => by
    simp only [fls2, Bool.and_eq_true] at h
    rcases List.mem_cons.mp hm with rfl | hm
    · exact h.1
    · exact fls2_mem h.2 hm
theorem depAll_mem2 : ∀ {ds : List PyData} {d : PyData}, d ∈ ds → d.depth ≤ PyData.depthAll ds
  | e :: ds, d, hm => by
    simp only [PyData.depthAll]
    rcases List.mem_cons.mp hm with rfl | hm
    · omega
    · have := depAll_mem2 hm
      omega
variable (K : PySem.W.Frag)
def spAl2 (n : Nat) : Sp := fun vs H Q _ => ∃ t d x y, vs = [x, y] ∧ Dt K t H d x ∧ Dt K t H d y ∧ fl2 d = true ∧ d.depth < n ∧ n ≤ 100 ∧ ∀ H', Same H H' → Q (.bl true) H'
end
section
variable {P : Program} {w : World} {K : PySem.W.Frag} {mg : Str → Option Value} {base : Heap} {ns : List Int} {k : Nat}
theorem ok_law_al2 {n : Nat} (F : Df K mg "_law_alike" s_law_alike ["_law_due", "_law_found"]) (m_isinstance : mg "isinstance" = none) (m_tuple : mg "tuple" = none) (m_list : mg "list" = none) (m_str : mg "str" = none) (m_len : mg "len" = none) (m_range : mg "range" = none) (m_int : mg "int" = none) (m_bool : mg "bool" = none) (m_all : mg "all" = none)
    (d_law_alike : Dn P w K mg base k "_law_alike" ["_law_due", "_law_found"] (spAl2 K n)) : Dn P w K mg base (k + 1) "_law_alike" ["_law_due", "_law_found"] (spAl2 K (n + 1)) := by
  refine F.ok sc_law_alike (fun vs H Q E h => ?_) (fun f cdv A outer s H vs Q E hr h => ?_)
  · obtain ⟨t, d, x, y, rfl, _⟩ := h; rfl
  obtain ⟨t, d, x, y, rfl, hx, hy, hf, hn, hn1, q⟩ := h
  refine ⟨_, [some _, some _], 
      (@pss_cons _ _ _ _ _ (@ps_if _ _ _ _ _ _ _ _ (@PW.pt _ _ _ (@pw_or _ _ _ _ _ _ _ (@pt_val _ _ _ (@pe_callBu _ _ _ _ _ _ _ _ _ call_isi rfl m_isinstance bt_isinstance (@pa_u _ _ _ _ _ (@pv _ 0 _ _ (by rfl) (by first | exact Or.inl rfl | exact Or.inr (Or.inl rfl) | exact Or.inr (Or.inr rfl)) (by decide) (by decide)) (@pa_u _ _ _ _ _ (@pe_bltn _ _ (.ty "tuple") _ _ rfl m_tuple bt_tuple rfl (by decide) (by decide)) (@pa_nil _) (by rfl)) (by rfl)) (by rfl) (by decide) (by decide)) (by intro _; rfl)) (@pw_or1 _ _ _ _ (@pt_val _ _ _ (@pe_callBu _ _ _ _ _ _ _ _ _ call_isi rfl m_isinstance bt_isinstance (@pa_u _ _ _ _ _ (@pv _ 0 _ _ (by rfl) (by first | exact Or.inl rfl | exact Or.inr (Or.inl rfl) | exact Or.inr (Or.inr rfl)) (by decide) (by decide)) (@pa_u _ _ _ _ _ (@pe_bltn _ _ (.ty "list") _ _ rfl m_list bt_list rfl (by decide) (by decide)) (@pa_nil _) (by rfl)) (by rfl)) (by rfl) (by decide) (by decide)) (by intro _; rfl))))) 
      (@pss_cons _ _ _ _ _ (@ps_if _ _ _ _ _ _ _ _ (@PW.pt _ _ _ (@pw_or _ _ _ _ _ _ _ (@pt_cmpR _ _ _ _ _ _ _ _ op_ne (@pe_callBu _ _ _ _ _ _ _ _ _ call_isi rfl m_isinstance bt_isinstance (@pa_u _ _ _ _ _ (@pv _ 0 _ _ (by rfl) (by first | exact Or.inl rfl | exact Or.inr (Or.inl rfl) | exact Or.inr (Or.inr rfl)) (by decide) (by decide)) (@pa_u _ _ _ _ _ (@pe_bltn _ _ (.ty "tuple") _ _ rfl m_tuple bt_tuple rfl (by decide) (by decide)) (@pa_nil _) (by rfl)) (by rfl)) (by rfl) (by decide) (by decide)) (@pe_callBu _ _ _ _ _ _ _ _ _ call_isi rfl m_isinstance bt_isinstance (@pa_u _ _ _ _ _ (@pv _ 1 _ _ (by rfl) (by first | exact Or.inl rfl | exact Or.inr (Or.inl rfl) | exact Or.inr (Or.inr rfl)) (by decide) (by decide)) (@pa_u _ _ _ _ _ (@pe_bltn _ _ (.ty "tuple") _ _ rfl m_tuple bt_tuple rfl (by decide) (by decide)) (@pa_nil _) (by rfl)) (by rfl)) (by rfl) (by decide) (by decide)) (nomark _)) (@pw_or1 _ _ _ _ (@pt_cmpR _ _ _ _ _ _ _ _ op_ne (@pe_callBu _ _ _ _ _ _ _ _ _ call_isi rfl m_isinstance bt_isinstance (@pa_u _ _ _ _ _ (@pv _ 0 _ _ (by rfl) (by first | exact Or.inl rfl | exact Or.inr (Or.inl rfl) | exact Or.inr (Or.inr rfl)) (by decide) (by decide)) (@pa_u _ _ _ _ _ (@pe_bltn _ _ (.ty "list") _ _ rfl m_list bt_list rfl (by decide) (by decide)) (@pa_nil _) (by rfl)) (by rfl)) (by rfl) (by decide) (by decide)) (@pe_callBu _ _ _ _ _ _ _ _ _ call_isi rfl m_isinstance bt_isinstance (@pa_u _ _ _ _ _ (@pv _ 1 _ _ (by rfl) (by first | exact Or.inl rfl | exact Or.inr (Or.inl rfl) | exact Or.inr (Or.inr rfl)) (by decide) (by decide)) (@pa_u _ _ _ _ _ (@pe_bltn _ _ (.ty "list") _ _ rfl m_list bt_list rfl (by decide) (by decide)) (@pa_nil _) (by rfl)) (by rfl)) (by rfl) (by decide) (by decide)) (nomark _))))) (@pss_one _ _ _ (@ps_ret _ _ _ _ (@pe_bl _ _ _ _))) (@pss_nil _)) (@pss_one _ _ _ (@ps_ret _ _ _ _ (@pe_and _ _ _ _ _ _ _ (@pe_cmpR _ _ _ _ _ _ _ _ op_eq (@pe_callBu _ _ _ _ _ _ _ _ _ call_lenS rfl m_len PySem.boot_len (@pa_u _ _ _ _ _ (@pv _ 0 _ _ (by rfl) (by first | exact Or.inl rfl | exact Or.inr (Or.inl rfl) | exact Or.inr (Or.inr rfl)) (by decide) (by decide)) (@pa_nil _) (by rfl)) (by rfl) (by decide) (by decide)) (@pe_callBu _ _ _ _ _ _ _ _ _ call_lenS rfl m_len PySem.boot_len (@pa_u _ _ _ _ _ (@pv _ 1 _ _ (by rfl) (by first | exact Or.inl rfl | exact Or.inr (Or.inl rfl) | exact Or.inr (Or.inr rfl)) (by decide) (by decide)) (@pa_nil _) (by rfl)) (by rfl) (by decide) (by decide)) (nomark _)) (@pe_one _ _ _ _ _ (@pe_callBu _ _ _ _ _ _ _ _ _ (call_allB rfl) rfl m_all bt_all (@pa_u _ _ _ _ _ (@pe_comp _ _ _ _ _ _ _ _ _ _ _ _ _ rfl (compCap (N := ["_law_due", "_law_found"]) (fr := ["_law_found", "_law_due"]) (osc := defScope s_law_alike) rfl rfl (by decide +kernel) rfl rfl (by intro p hp; simp only [List.mem_cons, List.not_mem_nil, or_false] at hp; rcases hp with rfl | rfl <;> rfl)) (@pi_range1 _ _ _ _ _ _ rfl m_range (@pa_u _ _ _ _ _ (@pe_callBu _ _ _ _ _ _ _ _ _ call_lenS rfl m_len PySem.boot_len (@pa_u _ _ _ _ _ (@pv _ 0 _ _ (by rfl) (by first | exact Or.inl rfl | exact Or.inr (Or.inl rfl) | exact Or.inr (Or.inr rfl)) (by decide) (by decide)) (@pa_nil _) (by rfl)) (by rfl) (by decide) (by decide)) (@pa_nil _) (by rfl)) (by rfl)) (fun _ _ _ _ => (@pts_nil _)) (fun _ _ _ _ => (@pe_callD _ _ _ _ _ _ _ _ _ _ d_law_alike hr rfl (@pa_u _ _ _ _ _ (@pe_ix _ _ _ _ _ _ _ (ixK_seq (K := K) rfl) (@pv _ 1 _ _ (by rfl) (by first | exact Or.inl rfl | exact Or.inr (Or.inl rfl) | exact Or.inr (Or.inr rfl)) (by decide) (by decide)) (@pv _ 0 _ _ (by rfl) (by first | exact Or.inl rfl | exact Or.inr (Or.inl rfl) | exact Or.inr (Or.inr rfl)) (by decide) (by decide)) (fun _ _ => rfl)) (@pa_u _ _ _ _ _ (@pe_ix _ _ _ _ _ _ _ (ixK_seq (K := K) rfl) (@pv _ 2 _ _ (by rfl) (by first | exact Or.inl rfl | exact Or.inr (Or.inl rfl) | exact Or.inr (Or.inr rfl)) (by decide) (by decide)) (@pv _ 0 _ _ (by rfl) (by first | exact Or.inl rfl | exact Or.inr (Or.inl rfl) | exact Or.inr (Or.inr rfl)) (by decide) (by decide)) (fun _ _ => rfl)) (@pa_nil _) (by rfl)) (by rfl)) (by rfl) (by decide))) (by intro _; rfl)) (@pa_nil _) (by rfl)) (by rfl) (by decide) (by decide))))))) (@pss_nil _)) 
      (@pss_cons _ _ _ _ _ (@ps_if _ _ _ _ _ _ _ _ (@pt_cmpR _ _ _ _ _ _ _ _ op_isNS (@pv _ 0 _ _ (by rfl) (by first | exact Or.inl rfl | exact Or.inr (Or.inl rfl) | exact Or.inr (Or.inr rfl)) (by decide) (by decide)) (@pe_non _ _ _) (nomark _)) (@pss_one _ _ _ (@ps_ret _ _ _ _ (@pe_cmpR _ _ _ _ _ _ _ _ op_isNS (@pv _ 1 _ _ (by rfl) (by first | exact Or.inl rfl | exact Or.inr (Or.inl rfl) | exact Or.inr (Or.inr rfl)) (by decide) (by decide)) (@pe_non _ _ _) (nomark _)))) (@pss_nil _)) 
      (@pss_cons _ _ _ _ _ (@ps_if _ _ _ _ _ _ _ _ (@pt_val _ _ _ (@pe_callBu _ _ _ _ _ _ _ _ _ call_isi rfl m_isinstance bt_isinstance (@pa_u _ _ _ _ _ (@pv _ 0 _ _ (by rfl) (by first | exact Or.inl rfl | exact Or.inr (Or.inl rfl) | exact Or.inr (Or.inr rfl)) (by decide) (by decide)) (@pa_u _ _ _ _ _ (@pe_bltn _ _ (.ty "str") _ _ rfl m_str bt_str rfl (by decide) (by decide)) (@pa_nil _) (by rfl)) (by rfl)) (by rfl) (by decide) (by decide)) (by intro _; rfl)) (@pss_one _ _ _ (@ps_ret _ _ _ _ (@pe_and _ _ _ _ _ _ _ (@pe_callBu _ _ _ _ _ _ _ _ _ call_isi rfl m_isinstance bt_isinstance (@pa_u _ _ _ _ _ (@pv _ 1 _ _ (by rfl) (by first | exact Or.inl rfl | exact Or.inr (Or.inl rfl) | exact Or.inr (Or.inr rfl)) (by decide) (by decide)) (@pa_u _ _ _ _ _ (@pe_bltn _ _ (.ty "str") _ _ rfl m_str bt_str rfl (by decide) (by decide)) (@pa_nil _) (by rfl)) (by rfl)) (by rfl) (by decide) (by decide)) (@pe_one _ _ _ _ _ (@pe_cmpR _ _ _ _ _ _ _ _ (op_eqD hr) (@pv _ 1 _ _ (by rfl) (by first | exact Or.inl rfl | exact Or.inr (Or.inl rfl) | exact Or.inr (Or.inr rfl)) (by decide) (by decide)) (@pv _ 0 _ _ (by rfl) (by first | exact Or.inl rfl | exact Or.inr (Or.inl rfl) | exact Or.inr (Or.inr rfl)) (by decide) (by decide)) (nomark _)))))) (@pss_nil _)) 
      (@pss_cons _ _ _ _ _ (@ps_if _ _ _ _ _ _ _ _ (@pt_val _ _ _ (@pe_callBu _ _ _ _ _ _ _ _ _ call_isi rfl m_isinstance bt_isinstance (@pa_u _ _ _ _ _ (@pv _ 0 _ _ (by rfl) (by first | exact Or.inl rfl | exact Or.inr (Or.inl rfl) | exact Or.inr (Or.inr rfl)) (by decide) (by decide)) (@pa_u _ _ _ _ _ (@pe_bltn _ _ (.ty "bool") _ _ rfl m_bool bt_bool rfl (by decide) (by decide)) (@pa_nil _) (by rfl)) (by rfl)) (by rfl) (by decide) (by decide)) (by intro _; rfl)) (@pss_one _ _ _ (@ps_ret _ _ _ _ (@pe_and _ _ _ _ _ _ _ (@pe_callBu _ _ _ _ _ _ _ _ _ call_isi rfl m_isinstance bt_isinstance (@pa_u _ _ _ _ _ (@pv _ 1 _ _ (by rfl) (by first | exact Or.inl rfl | exact Or.inr (Or.inl rfl) | exact Or.inr (Or.inr rfl)) (by decide) (by decide)) (@pa_u _ _ _ _ _ (@pe_bltn _ _ (.ty "bool") _ _ rfl m_bool bt_bool rfl (by decide) (by decide)) (@pa_nil _) (by rfl)) (by rfl)) (by rfl) (by decide) (by decide)) (@pe_one _ _ _ _ _ (@pe_cmpR _ _ _ _ _ _ _ _ (op_eqD hr) (@pv _ 1 _ _ (by rfl) (by first | exact Or.inl rfl | exact Or.inr (Or.inl rfl) | exact Or.inr (Or.inr rfl)) (by decide) (by decide)) (@pv _ 0 _ _ (by rfl) (by first | exact Or.inl rfl | exact Or.inr (Or.inl rfl) | exact Or.inr (Or.inr rfl)) (by decide) (by decide)) (nomark _)))))) (@pss_nil _)) (@pss_one _ _ _ (@ps_ret _ _ _ _ (@pe_and _ _ _ _ _ _ _ (@pe_callBu _ _ _ _ _ _ _ _ _ call_isi rfl m_isinstance bt_isinstance (@pa_u _ _ _ _ _ (@pv _ 1 _ _ (by rfl) (by first | exact Or.inl rfl | exact Or.inr (Or.inl rfl) | exact Or.inr (Or.inr rfl)) (by decide) (by decide)) (@pa_u _ _ _ _ _ (@pe_bltn _ _ (.ty "int") _ _ rfl m_int bt_int rfl (by decide) (by decide)) (@pa_nil _) (by rfl)) (by rfl)) (by rfl) (by decide) (by decide)) (@pe_and _ _ _ _ _ _ _ (@pe_not _ _ _ _ (@pe_callBu _ _ _ _ _ _ _ _ _ call_isi rfl m_isinstance bt_isinstance (@pa_u _ _ _ _ _ (@pv _ 1 _ _ (by rfl) (by first | exact Or.inl rfl | exact Or.inr (Or.inl rfl) | exact Or.inr (Or.inr rfl)) (by decide) (by decide)) (@pa_u _ _ _ _ _ (@pe_bltn _ _ (.ty "bool") _ _ rfl m_bool bt_bool rfl (by decide) (by decide)) (@pa_nil _) (by rfl)) (by rfl)) (by rfl) (by decide) (by decide))) (@pe_one _ _ _ _ _ (@pe_cmpR _ _ _ _ _ _ _ _ (op_eqD hr) (@pv _ 1 _ _ (by rfl) (by first | exact Or.inl rfl | exact Or.inr (Or.inl rfl) | exact Or.inr (Or.inr rfl)) (by decide) (by decide)) (@pv _ 0 _ _ (by rfl) (by first | exact Or.inl rfl | exact Or.inr (Or.inl rfl) | exact Or.inr (Or.inr rfl)) (by decide) (by decide)) (nomark _))))))))))), rfl, ?_⟩
  walk_at "cl"
  have seq : ∀ (ds : List PyData) (xs ys : List V) (a b : Addr), (∀ H1, Same H H1 → (SqL K H1 a xs ∨ SqT K H1 a xs)) → (∀ H1, Same H H1 → (SqL K H1 b ys ∨ SqT K H1 b ys)) → DtL K t H ds xs → DtL K t H ds ys → fls2 ds = true → ds.length ≤ 100000 → PyData.depthAll ds + 1 < n + 1 →
      rLenS K [.ref a] H fun x H1 => rLenS K [.ref b] H1 fun y H2 => rEq x y H2 fun x H1 => ∃ c, x = .bl c ∧ if c = true then tComp (iRng1 (tCons (tCB (rLenS K) (tCons (tVar 0) tNil)) tNil)) tTrue (tCall (spAl2 K n) [] E0 (tCons (tOp (rIx K) (tVar 1) (tVar 0)) (tCons (tOp (rIx K) (tVar 2) (tVar 0)) tNil))) [some (.ref a), some (.ref b)] H1 fun x H1 => rAllB K [x] H1 Q else Q (.bl false) H1 := by
    intro ds xs ys a b ha hb hxs hys hfs hln hdp
    have el := hxs.len
    have el2 := hys.len
    refine ⟨a, xs, rfl, ha _ (.refl _), b, ys, rfl, hb _ (.refl _), ?_⟩
    walk_at "rd"
    rw [if_pos (by omega)]
    refine comp_rG (K := K) (m := xs.length) (fun _ => true) (fun _ y _ => y = V.bl true) (fun R h => ?_) (by omega) (fun _ _ _ _ _ h => h) (fun i H1 hi S1 Q' hq => hq _ (.refl _)) (fun i H1 hi _ S1 Q' hq => ?_) (fun Dl zs H1 S1 hD1 hD1' hall => ?_)
    · walk_at "rd"
      exact ⟨a, xs, rfl, ha _ (.refl _), h⟩
    · have hdi : ds[i]? = some ds[i] := List.getElem?_eq_getElem (by omega)
      obtain ⟨vx, ex, dx⟩ := hxs.get hdi
      obtain ⟨vy, ey, dy⟩ := hys.get hdi
      have ixx : ∀ (a : Addr) (us : List V) (v : V) (H2 : Hp) (Qx : VK), (SqL K H2 a us ∨ SqT K H2 a us) → us[i]? = some v → Qx v H2 → rIx K (.ref a) (.int ((i : Nat) : Int)) H2 Qx := fun a us v H2 Qx hs e hq => by
        rcases hs with z | z
        · exact .inl (by rw [r_ixL]; exact ⟨_, z, _, atI_nat e, hq⟩)
        · exact .inr (.inl (by rw [r_ixT]; exact ⟨_, z, _, atI_nat e, hq⟩))
      walk_at "rd"
      refine ixx a xs vx H1 _ (ha _ S1) ex ?_
      walk_at "rd"
      refine ixx b ys vy H1 _ (hb _ S1) ey ?_
      walk_at "rd"
      refine ⟨t, ds[i], vx, vy, rfl, Same.dt dx S1, Same.dt dy S1, fls2_mem hfs (List.getElem_mem _), ?_, by omega, fun H2 S2 => hq _ _ S2 rfl⟩
      have := depAll_mem2 (ds := ds) (List.getElem_mem (h := (by omega : i < ds.length)))
      omega
    · have e : zs = ((List.range xs.length).map fun _ => true).map V.bl := by
        have := All2.eq (f := fun _ => V.bl true) hall
        rw [this, List.filter_eq_self.mpr (by simp), List.map_map]
        rfl
      refine ⟨Dl, (List.range xs.length).map fun _ => true, rfl, .of (by rw [hD1', e]), ?_⟩
      rw [show ((List.range xs.length).map fun _ => true).all id = true by simp]
      exact q _ S1
  walk_at "st"
  refine isi_of hx ?_
  cases d with
  | tuple ds =>
    refine ⟨_, rfl, ?_⟩
    walk_at "T"
    simp only [fl2, Bool.and_eq_true, decide_eq_true_eq] at hf
    obtain ⟨a, xs, rfl, hxs, hxd⟩ := hx.tup_inv
    obtain ⟨b, ys, rfl, hys, hyd⟩ := hy.tup_inv
    walk_at "st"
    refine isi_of hx ?_
    walk_at "rd"
    refine isi_of hy ?_
    walk_at "rd"
    rw [if_neg (by simp [isiD])]
    refine isi_of hx ?_
    walk_at "rd"
    refine isi_of hy ?_
    walk_at "rd"
    rw [if_neg (by simp [isiD])]
    exact seq ds xs ys a b (fun H1 S1 => .inr (Same.sqT hxs S1)) (fun H1 S1 => .inr (Same.sqT hys S1)) hxd hyd hf.2 hf.1 (by simp only [PyData.depth] at hn; omega)
  | list ds =>
    refine ⟨_, rfl, ?_⟩
    walk_at "F"
    refine isi_of hx ⟨_, rfl, ?_⟩
    walk_at "T"
    simp only [fl2, Bool.and_eq_true, decide_eq_true_eq] at hf
    have hx' := hx
    have hy' := hy
    simp only [Dt] at hx' hy'
    obtain ⟨a, xs, rfl, hna, hxs, hxd⟩ := hx'
    obtain ⟨b, ys, rfl, hnb, hys, hyd⟩ := hy'
    walk_at "st"
    refine isi_of hx ?_
    walk_at "rd"
    refine isi_of hy ?_
    walk_at "rd"
    rw [if_neg (by simp [isiD])]
    refine isi_of hx ?_
    walk_at "rd"
    refine isi_of hy ?_
    walk_at "rd"
    rw [if_neg (by simp [isiD])]
    exact seq ds xs ys a b (fun H1 S1 => .inl (S1.seq hxs)) (fun H1 S1 => .inl (S1.seq hys)) hxd hyd hf.2 hf.1 (by simp only [PyData.depth] at hn; omega)
  | none =>
    refine ⟨_, rfl, ?_⟩
    walk_at "F"
    refine isi_of hx ⟨_, rfl, ?_⟩
    walk_at "F"
    simp only [Dt] at hx hy
    subst hx hy
    walk_at "st"
    exact q _ (.refl _)
  | str b =>
    refine ⟨_, rfl, ?_⟩
    walk_at "F"
    refine isi_of hx ⟨_, rfl, ?_⟩
    walk_at "F"
    have hx' := hx
    simp only [Dt] at hx'
    obtain ⟨rfl, hok⟩ := hx'
    walk_at "st"
    rw [if_neg (by simp)]
    walk_at "st"
    refine isi_of hx ⟨_, rfl, ?_⟩
    walk_at "T"
    walk_at "rd"
    refine isi_of hy ⟨_, rfl, ?_⟩
    walk_at "T"
    refine eqF_of hy hx (depR (n := 0) (by simp [PyData.depth])) ?_
    rw [show PyData.eqv (.str b) (.str b) = true by simp [PyData.eqv]]
    exact q _ (.refl _)
  | bool b =>
    refine ⟨_, rfl, ?_⟩
    walk_at "F"
    refine isi_of hx ⟨_, rfl, ?_⟩
    walk_at "F"
    have hx' := hx
    simp only [Dt] at hx'
    subst hx'
    walk_at "st"
    rw [if_neg (by simp)]
    walk_at "st"
    refine isi_of hx ⟨_, rfl, ?_⟩
    walk_at "F"
    walk_at "st"
    refine isi_of hx ⟨_, rfl, ?_⟩
    walk_at "T"
    walk_at "rd"
    refine isi_of hy ⟨_, rfl, ?_⟩
    walk_at "T"
    refine eqF_of hy hx (depR (n := 0) (by simp [PyData.depth])) ?_
    rw [show PyData.eqv (.bool b) (.bool b) = true by simp [PyData.eqv]]
    exact q _ (.refl _)
  | int b =>
    refine ⟨_, rfl, ?_⟩
    walk_at "F"
    refine isi_of hx ⟨_, rfl, ?_⟩
    walk_at "F"
    have hx' := hx
    simp only [Dt] at hx'
    subst hx'
    walk_at "st"
    rw [if_neg (by simp)]
    walk_at "st"
    refine isi_of hx ⟨_, rfl, ?_⟩
    walk_at "F"
    walk_at "st"
    refine isi_of hx ⟨_, rfl, ?_⟩
    walk_at "F"
    walk_at "rd"
    refine isi_of hy ⟨_, rfl, ?_⟩
    walk_at "T"
    refine isi_of hy ?_
    walk_at "rd"
    walk_at "T"
    refine eqF_of hy hx (depR (n := 0) (by simp [PyData.depth])) ?_
    rw [show PyData.eqv (.int b) (.int b) = true by simp [PyData.eqv]]
    exact q _ (.refl _)
  | dict b => simp [fl2] at hf
theorem all_law_al2 {n : Nat} (F : Df K mg "_law_alike" s_law_alike ["_law_due", "_law_found"]) (m_isinstance : mg "isinstance" = none) (m_tuple : mg "tuple" = none) (m_list : mg "list" = none) (m_str : mg "str" = none) (m_len : mg "len" = none) (m_range : mg "range" = none) (m_int : mg "int" = none) (m_bool : mg "bool" = none) (m_all : mg "all" = none) : Dn P w K mg base (k + n) "_law_alike" ["_law_due", "_law_found"] (spAl2 K n) := by
  induction n with
  | zero => exact F.void fun vs H Q E ⟨_, _, _, _, _, _, _, _, h, _⟩ => by omega
  | succ n ih => exact ok_law_al2 F m_isinstance m_tuple m_list m_str m_len m_range m_int m_bool m_all ih
end
end My
namespace My
open PySem L2 M
def leftI (p : Int) (f : Nat) (bs : List Int) : Int := match pos p f bs 0 with
  | none => 1
  | some (bh, k) => if (k : Int) - bh.length > 0 then (k : Int) - bh.length else 0
def bestI (ts : List Int) (M : Int) : List Int := ((List.range ts.length).filter fun i => decide (ts.getD i 0 = M)).map fun (i : Nat) => (i : Int)
section
variable (K : PySem.W.Frag)
def spBest : Sp := fun vs H Q _ => ∃ (rows : List Lr) (side : Nat) (sv : V), vs = [sv] ∧ LsV K H rows side sv ∧ 1 ≤ rows.length ∧ rows.length ≤ 3 ∧ ∀ a M H', Same H H' → M ∈ rows.map (·.t) → (∀ x ∈ rows.map (·.t), x ≤ M) → SqT K H' a ((bestI (rows.map (·.t)) M).map V.int) → Q (.ref a) H'
def spLeft : Sp := fun vs H Q _ => ∃ (la ba : Addr) (s p : Int) (f : Nat) (bs : List Int), vs = [.ref la, .ref ba] ∧ SqT K H la [.int s, .int p, .int f] ∧ H ba = some (.lst (bs.map V.int)) ∧ 1 ≤ f ∧ f ≤ 12 ∧ bs.length ≤ 1000 ∧ Q (.int (leftI p f bs)) H
def spTotal : Sp := fun vs H Q _ => ∃ (la ba : Addr) (s p : Int) (f : Nat) (bs : List Int), vs = [.ref la, .ref ba] ∧ SqT K H la [.int s, .int p, .int f] ∧ H ba = some (.lst (bs.map V.int)) ∧ 1 ≤ f ∧ f ≤ 12 ∧ bs.length ≤ 1000 ∧ fullB p f bs = true ∧ ∀ H', Same H H' → Q (.int ((parse p f 0 bs).map fT).sum) H'
end
section
variable {P : Program} {w : World} {K : PySem.W.Frag} {mg : Str → Option Value} {base : Heap} {ns : List Int} {k : Nat}
theorem ok_best_of (F : Df K mg "best_of" s_best_of ["stand"]) (m_max : mg "max" = none) (m_tuple : mg "tuple" = none) (m_enumerate : mg "enumerate" = none) : Dn P w K mg base (k + 1) "best_of" ["stand"] (spBest K) := by
  refine F.ok sc_best_of (fun vs H Q E h => ?_) (fun f cdv A outer s H vs Q E hr h => ?_)
  · obtain ⟨rows, side, sv, rfl, _⟩ := h; rfl
  obtain ⟨rows, side, sv, rfl, hst, h1, h3, q⟩ := h
  refine ⟨_, [some _, none, none], 
      (@pss_cons _ _ _ _ _ (@ps_setComp _ _ _ _ _ _ _ _ _ _ _ _ _ _ _ 1 _ rfl sc_best_of.nd rfl (Or.inl rfl) (compPlain (N := ["stand", "totals", "best"]) rfl (by decide +kernel) rfl) (@pi_tup _ _ _ _ (@pe_ix _ _ _ _ _ _ _ ix_tup (@pv _ 0 _ _ (by rfl) (by first | exact Or.inl rfl | exact Or.inr (Or.inl rfl) | exact Or.inr (Or.inr rfl)) (by decide) (by decide)) (@pe_int _ _ _ _) (fun _ _ => rfl))) (fun _ _ _ _ => (@pts_nil _)) (fun _ _ _ _ => (@pe_ix _ _ _ _ _ _ _ (ixK_tup (K := K) rfl) (@pv _ 0 _ _ (by rfl) (by first | exact Or.inl rfl | exact Or.inr (Or.inl rfl) | exact Or.inr (Or.inr rfl)) (by decide) (by decide)) (@pe_int _ _ _ _) (fun _ _ => rfl))) (by rfl) (by intro _; rfl) (by first | exact .inl rfl | exact .inr rfl | assumption)) 
      (@pss_cons _ _ _ _ _ (@ps_set _ _ 2 _ _ _ _ sc_best_of.nd rfl (Or.inr rfl) (@pe_callBu _ _ _ _ _ _ _ _ _ (call_maxL rfl) rfl m_max bt_max (@pa_u _ _ _ _ _ (@pv _ 1 _ _ (by rfl) (by first | exact Or.inl rfl | exact Or.inr (Or.inl rfl) | exact Or.inr (Or.inr rfl)) (by decide) (by decide)) (@pa_nil _) (by rfl)) (by rfl) (by decide) (by decide)) (by rfl) (by first | exact .inl rfl | exact .inr rfl | assumption)) (@pss_one _ _ _ (@ps_ret _ _ _ _ (@pe_callTu _ _ _ _ _ _ _ _ _ call_tuple_of rfl m_tuple bt_tuple (@pa_u _ _ _ _ _ (@pe_comp2 _ _ _ _ _ _ _ _ _ _ _ _ _ _ _ _ _ rfl (compCap2 (N := ["stand", "totals", "best"]) (N' := ["stand", "totals", "best"]) (fr := ["best"]) (osc := defScope s_best_of) rfl rfl (by decide +kernel) rfl rfl (by intro p hp; simp only [List.mem_cons, List.not_mem_nil, or_false] at hp; rcases hp with rfl <;> rfl)) (@pi_enum _ _ _ _ _ _ _ _ rfl m_enumerate (@pa_u _ _ _ _ _ (@pv _ 1 _ _ (by rfl) (by first | exact Or.inl rfl | exact Or.inr (Or.inl rfl) | exact Or.inr (Or.inr rfl)) (by decide) (by decide)) (@pa_nil _) (by rfl)) (by rfl)) (fun _ _ _ _ => (@pts_one _ _ _ (@pt_cmpR _ _ _ _ _ _ _ _ op_eq (@pv _ 1 _ _ (by rfl) (by first | exact Or.inl rfl | exact Or.inr (Or.inl rfl) | exact Or.inr (Or.inr rfl)) (by decide) (by decide)) (@pv _ 4 _ _ (by rfl) (by first | exact Or.inl rfl | exact Or.inr (Or.inl rfl) | exact Or.inr (Or.inr rfl)) (by decide) (by decide)) (nomark _)))) (fun _ _ _ _ => (@pv _ 0 _ _ (by rfl) (by first | exact Or.inl rfl | exact Or.inr (Or.inl rfl) | exact Or.inr (Or.inr rfl)) (by decide) (by decide))) (by intro _; rfl)) (@pa_nil _) (by rfl)) (by rfl) (by decide) (by decide)))))), rfl, ?_⟩
  walk_at "cl"
  obtain ⟨sa, ra, us, rfl, hsa, hra, hrl⟩ := ls_inv hst
  have hul := hrl.len
  walk_at "st"
  refine comp_preT ?_
  walk_at "rd"
  refine ⟨_, hsa, _, rfl, ?_⟩
  refine comp_tG (a := ra) (xs := us) (fun _ => true) (fun j y _ => ∃ r, rows[j]? = some r ∧ y = .int r.t) (fun R h => h) hra (by omega) (fun _ _ _ _ _ h => h) (fun j x H' hx S' Q' hq => hq _ (.refl _)) (fun j x H' hx _ S' Q' hq => ?_) (fun D1 ys H1 S1 hD1 hD1' hall => ?_)
  · have hjl : j < rows.length := by rw [hul]; exact (List.getElem?_eq_some_iff.mp hx).1
    have hjt : rows[j]? = some rows[j] := List.getElem?_eq_getElem hjl
    obtain ⟨v, hv, hvt⟩ := hrl.at hjt
    rw [hx] at hv
    cases hv
    obtain ⟨a, rfl, hs⟩ := rw_inv hvt
    walk_at "rd"
    exact ⟨_, Same.sqT hs S', _, rfl, hq _ _ (.refl _) ⟨_, hjt, rfl⟩⟩
  have hys : ys = (rows.map (·.t)).map V.int := by
    rw [List.filter_eq_self.mpr (by simp), ← hul] at hall
    have e : ∀ (as : List Nat) (bs : List V), All2 (fun j y => ∃ r, rows[j]? = some r ∧ y = V.int r.t) as bs → bs = as.map fun j => V.int ((rows[j]?.map (·.t)).getD 0) := by
      intro as
      induction as with
      | nil => intro bs h; cases bs with | nil => rfl | cons _ _ => exact h.elim
      | cons j as ih =>
        intro bs h
        cases bs with
        | nil => exact h.elim
        | cons y bs =>
          obtain ⟨⟨u, hu, rfl⟩, h2⟩ := h
          rw [ih bs h2, List.map_cons, hu]
          rfl
    rw [e _ _ hall]
    refine List.ext_getElem (by simp) fun j h1 h2 => ?_
    simp only [List.length_map] at h2
    simp [h2]
  subst hys
  have htl : (rows.map (·.t)).length = rows.length := List.length_map ..
  generalize rows.map (·.t) = ts at hD1' q htl
  walk_at "st"
  refine ⟨D1, ts, rfl, .of hD1', by omega, fun M hM hMx => ?_⟩
  walk_at "rd"
  refine comp_enum (K := K) (a := D1) (xs := ts.map V.int) (fun i => decide (ts.getD i 0 = M)) (fun i y _ => y = V.int (i : Nat)) (fun R h => ?_) (.of hD1') (by rw [List.length_map]; omega) (fun _ _ _ _ _ h => h) (fun i x H' hx S' Q' hq => ?_) (fun i x H' hx _ S' Q' hq => ?_) (fun D2 zs H2 S2 hD2 hD2' hall2 => ?_)
  · walk_at "rd"
    exact h
  · have hil : i < ts.length := by have := (List.getElem?_eq_some_iff.mp hx).1; rwa [List.length_map] at this
    rw [map_getD hil] at hx
    cases hx
    walk_at "rd"
    exact hq _ (.refl _)
  · walk_at "rd"
    exact hq _ _ (.refl _) rfl
  rw [List.length_map] at hall2
  have ez := All2.eq (f := fun (i : Nat) => V.int (i : Nat)) hall2
  refine ⟨D2, _, rfl, .inl ⟨.of hD2', fun p3 hp3 => ?_⟩⟩
  have s3 := same_new hp3 (.tup zs)
  refine q p3 M _ ((S1.trans S2).trans s3) hM hMx ?_
  rw [show (bestI ts M).map V.int = zs by rw [ez]; unfold bestI; rw [List.map_map]; rfl]
  exact .of upd_same
theorem drop_get {bs : List Int} {i : Nat} (h : i < bs.length) : ∃ x, bs[i]? = some x ∧ bs.drop i = x :: bs.drop (i + 1) := ⟨bs[i], List.getElem?_eq_getElem h, List.drop_eq_getElem_cons h⟩
theorem int_at {bs : List Int} {i : Nat} {x : Int} (h : bs[i]? = some x) : atI (bs.map V.int) (i : Int) = some (.int x) := atI_nat (by rw [List.getElem?_map, h]; rfl)
theorem ok_law_left (F : Df K mg "_law_left" s_law_left ["_law_lane_here", "_law_balls"]) (m_range : mg "range" = none) (m_len : mg "len" = none) (m_int : mg "int" = none) (m_max : mg "max" = none) : Dn P w K mg base (k + 1) "_law_left" ["_law_lane_here", "_law_balls"] (spLeft K) := by
  refine F.ok sc_law_left (fun vs H Q E h => ?_) (fun f cdv A outer s H vs Q E hr h => ?_)
  · obtain ⟨la, ba, s, p, f, bs, rfl, _⟩ := h; rfl
  obtain ⟨la, ba, s, p, f, bs, rfl, hla, hba, hf1, hf12, hbl, q⟩ := h
  refine ⟨_, [some _, some _, none, none, none], 
      (@pss_cons _ _ _ _ _ (@ps_set _ _ 2 _ _ _ _ sc_law_left.nd rfl (Or.inl rfl) (@pe_int _ _ _ _) (by rfl) (by first | exact .inl rfl | exact .inr rfl | assumption)) 
      (@pss_cons _ _ _ _ _ (@ps_for _ _ _ _ _ _ _ _ PassesOwn.never rfl (@pi_range1 _ _ _ _ _ _ rfl m_range (@pa_u _ _ _ _ _ (@pe_ix _ _ _ _ _ _ _ ix_tup (@pv _ 0 _ _ (by rfl) (by first | exact Or.inl rfl | exact Or.inr (Or.inl rfl) | exact Or.inr (Or.inr rfl)) (by decide) (by decide)) (@pe_int _ _ _ _) (fun _ _ => rfl)) (@pa_nil _) (by rfl)) (by rfl)) (@pg_name _ _ 3 _ sc_law_left.nd rfl (Or.inl rfl) (by first | exact .inl rfl | exact .inr rfl | assumption)) 
      (@pss_cons _ _ _ _ _ (@ps_if _ _ _ _ _ _ _ _ (@pt_cmpR _ _ _ _ _ _ _ _ op_ge (@pv _ 2 _ _ (by rfl) (by first | exact Or.inl rfl | exact Or.inr (Or.inl rfl) | exact Or.inr (Or.inr rfl)) (by decide) (by decide)) (@pe_callBu _ _ _ _ _ _ _ _ _ call_lenS rfl m_len PySem.boot_len (@pa_u _ _ _ _ _ (@pv _ 1 _ _ (by rfl) (by first | exact Or.inl rfl | exact Or.inr (Or.inl rfl) | exact Or.inr (Or.inr rfl)) (by decide) (by decide)) (@pa_nil _) (by rfl)) (by rfl) (by decide) (by decide)) (nomark _)) (@pss_one _ _ _ (@ps_ret _ _ _ _ (@pe_int _ _ _ _))) (@pss_nil _)) (@pss_one _ _ _ (@ps_if _ _ _ _ _ _ _ _ (@pt_cmpR _ _ _ _ _ _ _ _ op_eq (@pe_ix _ _ _ _ _ _ _ ix_list (@pv _ 1 _ _ (by rfl) (by first | exact Or.inl rfl | exact Or.inr (Or.inl rfl) | exact Or.inr (Or.inr rfl)) (by decide) (by decide)) (@pv _ 2 _ _ (by rfl) (by first | exact Or.inl rfl | exact Or.inr (Or.inl rfl) | exact Or.inr (Or.inr rfl)) (by decide) (by decide)) (fun _ _ => rfl)) (@pe_ix _ _ _ _ _ _ _ ix_tup (@pv _ 0 _ _ (by rfl) (by first | exact Or.inl rfl | exact Or.inr (Or.inl rfl) | exact Or.inr (Or.inr rfl)) (by decide) (by decide)) (@pe_int _ _ _ _) (fun _ _ => rfl)) (nomark _)) 
      (@pss_cons _ _ _ _ _ (@ps_set _ _ 2 _ _ _ _ sc_law_left.nd rfl (Or.inl rfl) (@pe_op _ _ _ _ _ _ _ _ op_add (@pv _ 2 _ _ (by rfl) (by first | exact Or.inl rfl | exact Or.inr (Or.inl rfl) | exact Or.inr (Or.inr rfl)) (by decide) (by decide)) (@pe_int _ _ _ _)) (by rfl) (by first | exact .inl rfl | exact .inr rfl | assumption)) (@pss_one _ _ _ (@ps_set _ _ 4 _ _ _ _ sc_law_left.nd rfl (Or.inl rfl) (@pe_int _ _ _ _) (by rfl) (by first | exact .inl rfl | exact .inr rfl | assumption)))) (@pss_one _ _ _ (@ps_if _ _ _ _ _ _ _ _ (@pt_cmpR _ _ _ _ _ _ _ _ op_eq (@pe_op _ _ _ _ _ _ _ _ op_add (@pv _ 2 _ _ (by rfl) (by first | exact Or.inl rfl | exact Or.inr (Or.inl rfl) | exact Or.inr (Or.inr rfl)) (by decide) (by decide)) (@pe_int _ _ _ _)) (@pe_callBu _ _ _ _ _ _ _ _ _ call_lenS rfl m_len PySem.boot_len (@pa_u _ _ _ _ _ (@pv _ 1 _ _ (by rfl) (by first | exact Or.inl rfl | exact Or.inr (Or.inl rfl) | exact Or.inr (Or.inr rfl)) (by decide) (by decide)) (@pa_nil _) (by rfl)) (by rfl) (by decide) (by decide)) (nomark _)) (@pss_one _ _ _ (@ps_ret _ _ _ _ (@pe_int _ _ _ _))) 
      (@pss_cons _ _ _ _ _ (@ps_set _ _ 4 _ _ _ _ sc_law_left.nd rfl (Or.inl rfl) (@pe_callTu _ _ _ _ _ _ _ _ _ call_int1 rfl m_int bt_int (@pa_u _ _ _ _ _ (@pe_cmpR _ _ _ _ _ _ _ _ op_eq (@pe_op _ _ _ _ _ _ _ _ op_add (@pe_ix _ _ _ _ _ _ _ ix_list (@pv _ 1 _ _ (by rfl) (by first | exact Or.inl rfl | exact Or.inr (Or.inl rfl) | exact Or.inr (Or.inr rfl)) (by decide) (by decide)) (@pv _ 2 _ _ (by rfl) (by first | exact Or.inl rfl | exact Or.inr (Or.inl rfl) | exact Or.inr (Or.inr rfl)) (by decide) (by decide)) (fun _ _ => rfl)) (@pe_ix _ _ _ _ _ _ _ ix_list (@pv _ 1 _ _ (by rfl) (by first | exact Or.inl rfl | exact Or.inr (Or.inl rfl) | exact Or.inr (Or.inr rfl)) (by decide) (by decide)) (@pe_op _ _ _ _ _ _ _ _ op_add (@pv _ 2 _ _ (by rfl) (by first | exact Or.inl rfl | exact Or.inr (Or.inl rfl) | exact Or.inr (Or.inr rfl)) (by decide) (by decide)) (@pe_int _ _ _ _)) (fun _ _ => rfl))) (@pe_ix _ _ _ _ _ _ _ ix_tup (@pv _ 0 _ _ (by rfl) (by first | exact Or.inl rfl | exact Or.inr (Or.inl rfl) | exact Or.inr (Or.inr rfl)) (by decide) (by decide)) (@pe_int _ _ _ _) (fun _ _ => rfl)) (nomark _)) (@pa_nil _) (by rfl)) (by rfl) (by decide) (by decide)) (by rfl) (by first | exact .inl rfl | exact .inr rfl | assumption)) (@pss_one _ _ _ (@ps_set _ _ 2 _ _ _ _ sc_law_left.nd rfl (Or.inl rfl) (@pe_op _ _ _ _ _ _ _ _ op_add (@pv _ 2 _ _ (by rfl) (by first | exact Or.inl rfl | exact Or.inr (Or.inl rfl) | exact Or.inr (Or.inr rfl)) (by decide) (by decide)) (@pe_int _ _ _ _)) (by rfl) (by first | exact .inl rfl | exact .inr rfl | assumption))))))))) (by intro _; rfl)) (@pss_one _ _ _ (@ps_ret _ _ _ _ (@pe_callBu _ _ _ _ _ _ _ _ _ (call_maxS rfl) rfl m_max bt_max (@pa_u _ _ _ _ _ (@pe_int _ _ _ _) (@pa_u _ _ _ _ _ (@pe_op _ _ _ _ _ _ _ _ op_sub (@pe_op _ _ _ _ _ _ _ _ op_add (@pv _ 2 _ _ (by rfl) (by first | exact Or.inl rfl | exact Or.inr (Or.inl rfl) | exact Or.inr (Or.inr rfl)) (by decide) (by decide)) (@pv _ 4 _ _ (by rfl) (by first | exact Or.inl rfl | exact Or.inr (Or.inl rfl) | exact Or.inr (Or.inr rfl)) (by decide) (by decide))) (@pe_callBu _ _ _ _ _ _ _ _ _ call_lenS rfl m_len PySem.boot_len (@pa_u _ _ _ _ _ (@pv _ 1 _ _ (by rfl) (by first | exact Or.inl rfl | exact Or.inr (Or.inl rfl) | exact Or.inr (Or.inr rfl)) (by decide) (by decide)) (@pa_nil _) (by rfl)) (by rfl) (by decide) (by decide))) (@pa_nil _) (by rfl)) (by rfl)) (by rfl) (by decide) (by decide)))))), rfl, ?_⟩
  walk_at "cl"
  have hlm : (bs.map V.int).length = bs.length := List.length_map ..
  have one : pos p f bs 0 = none → Q (.int 1) H := fun e => by
    unfold leftI at q
    rw [e] at q
    exact q
  walk_at "st"
  walk_at "st"
  refine ⟨_, hla, _, rfl, _, rfl, by omega, by omega, rng_of (fun i σ' H' => ∃ (j m : Nat) (x3 x4 : Option V), σ' = [some (.ref la), some (.ref ba), some (.int j), x3, x4] ∧ H' = H ∧ j ≤ bs.length ∧ pos p f bs 0 = pos p (f - i) (bs.drop j) m ∧ (i = 0 ∨ x4 = some (.int m))) ⟨0, 0, none, none, rfl, rfl, Nat.zero_le _, rfl, .inl rfl⟩ ?_ ?_⟩
  · rintro Pv hP i _ Hx hi ⟨j, m, x3, x4, rfl, eHx, hj, hp, _⟩
    rw [eHx]
    clear eHx Hx
    rw [Int.toNat_natCast] at hi
    obtain ⟨c, hc⟩ : ∃ c, f - i = c + 1 := ⟨f - i - 1, by omega⟩
    have hc2 : f - (i + 1) = c := by omega
    rw [hc] at hp
    walk_at "st"
    refine len_of (.of hba) ?_
    rw [hlm]
    walk_at "rd"
    refine ite2 (fun c1 => ?_) (fun c1 => ?_)
    · refine one ?_
      rw [hp, List.drop_eq_nil_of_le (by omega)]
      rfl
    obtain ⟨x, hx, hdx⟩ := drop_get (bs := bs) (i := j) (by omega)
    rw [hdx] at hp
    walk_at "rd"
    refine ⟨_, .of hba, _, int_at hx, ?_⟩
    refine ⟨_, hla, _, rfl, ?_⟩
    walk_at "rd"
    refine ite2 (fun c2 => ?_) (fun c2 => ?_)
    · walk_at "st"
      walk_at "rd"
      refine hP _ _ _ ⟨j + 1, 2, _, _, rfl, rfl, by omega, ?_, .inr rfl⟩
      rw [hp, hc2]
      simp [pos, c2]
    · refine len_of (.of hba) ?_
      rw [hlm]
      walk_at "rd"
      refine ite2 (fun c3 => ?_) (fun c3 => ?_)
      · refine one ?_
        rw [hp, List.drop_eq_nil_of_le (by omega)]
        simp [pos, c2]
      · obtain ⟨y, hy, hdy⟩ := drop_get (bs := bs) (i := j + 1) (by omega)
        rw [hdy] at hp
        walk_at "st"
        refine ⟨_, .of hba, _, int_at hx, ?_⟩
        walk_at "rd"
        refine ⟨_, .of hba, _, int_at (i := j + 1) hy, ?_⟩
        walk_at "rd"
        refine ⟨_, hla, _, rfl, ?_⟩
        walk_at "rd"
        refine .inr ⟨_, rfl, ?_⟩
        walk_at "rd"
        refine hP _ _ _ ⟨j + 2, if x + y = p then 1 else 0, some (.int (0 + (i : Int))), some (.int ((if x + y = p then 1 else 0 : Nat) : Int)), ?_, rfl, by omega, ?_, .inr rfl⟩
        · by_cases z : x + y = p <;> simp [z] <;> rfl
        · rw [hp, hc2]
          simp [pos, c2]
  · rintro _ Hx ⟨j, m, x3, x4, rfl, eHx, hj, hp, hm⟩
    rw [eHx]
    clear eHx Hx
    rw [Int.toNat_natCast] at hp hm
    rcases hm with hm | rfl
    · omega
    rw [Nat.sub_self] at hp
    replace hp : pos p f bs 0 = some (bs.drop j, m) := hp
    walk_at "rd"
    refine len_of (.of hba) ?_
    rw [hlm]
    walk_at "rd"
    unfold leftI at q
    rw [hp] at q
    simp only [List.length_drop] at q
    rw [show (m : Int) - ((bs.length - j : Nat) : Int) = (j : Int) + m - bs.length by omega] at q
    exact q
theorem cutV_mid {xs : List V} {i n : Nat} (h : i ≤ xs.length) : cutV xs (some (i : Int)) (some ((i : Int) + (n : Int))) = (xs.drop i).take n := by
  unfold cutV
  have e1 : HT.sIx xs.length 0 (some (i : Int)) = i := by
    show (if (i : Int) < 0 then ((i : Int) + (xs.length : Int)).toNat else min (i : Int).toNat xs.length) = i
    rw [if_neg (by omega)]
    omega
  have e2 : HT.sIx xs.length xs.length (some ((i : Int) + (n : Int))) = min (i + n) xs.length := by
    show (if (i : Int) + (n : Int) < 0 then ((i : Int) + (n : Int) + (xs.length : Int)).toNat else min ((i : Int) + (n : Int)).toNat xs.length) = _
    rw [if_neg (by omega)]
    omega
  rw [e1, e2]
  by_cases z : i + n ≤ xs.length
  · congr 1
    omega
  · rw [List.take_of_length_le (by rw [List.length_drop]; omega), List.take_of_length_le (by rw [List.length_drop]; omega)]
theorem ok_law_total (F : Df K mg "_law_total" s_law_total ["_law_lane_here", "_law_balls"]) (m_range : mg "range" = none) (m_sum : mg "sum" = none) : Dn P w K mg base (k + 1) "_law_total" ["_law_lane_here", "_law_balls"] (spTotal K) := by
  refine F.ok sc_law_total (fun vs H Q E h => ?_) (fun f cdv A outer s H vs Q E hr h => ?_)
  · obtain ⟨la, ba, s, p, f, bs, rfl, _⟩ := h; rfl
  obtain ⟨la, ba, s, p, f, bs, rfl, hla, hba, hf1, hf12, hbl, hfull, q⟩ := h
  refine ⟨_, [some _, some _, none, none, none], 
      (@pss_cons _ _ _ _ _ (@ps_set _ _ 2 _ _ _ _ sc_law_total.nd rfl (Or.inl rfl) (@pe_int _ _ _ _) (by rfl) (by first | exact .inl rfl | exact .inr rfl | assumption)) 
      (@pss_cons _ _ _ _ _ (@ps_set _ _ 3 _ _ _ _ sc_law_total.nd rfl (Or.inl rfl) (@pe_int _ _ _ _) (by rfl) (by first | exact .inl rfl | exact .inr rfl | assumption)) 
      (@pss_cons _ _ _ _ _ (@ps_for _ _ _ _ _ _ _ _ PassesOwn.never rfl (@pi_range1 _ _ _ _ _ _ rfl m_range (@pa_u _ _ _ _ _ (@pe_ix _ _ _ _ _ _ _ ix_tup (@pv _ 0 _ _ (by rfl) (by first | exact Or.inl rfl | exact Or.inr (Or.inl rfl) | exact Or.inr (Or.inr rfl)) (by decide) (by decide)) (@pe_int _ _ _ _) (fun _ _ => rfl)) (@pa_nil _) (by rfl)) (by rfl)) (@pg_name _ _ 4 _ sc_law_total.nd rfl (Or.inl rfl) (by first | exact .inl rfl | exact .inr rfl | assumption)) (@pss_one _ _ _ (@ps_if _ _ _ _ _ _ _ _ (@pt_cmpR _ _ _ _ _ _ _ _ op_eq (@pe_ix _ _ _ _ _ _ _ ix_list (@pv _ 1 _ _ (by rfl) (by first | exact Or.inl rfl | exact Or.inr (Or.inl rfl) | exact Or.inr (Or.inr rfl)) (by decide) (by decide)) (@pv _ 3 _ _ (by rfl) (by first | exact Or.inl rfl | exact Or.inr (Or.inl rfl) | exact Or.inr (Or.inr rfl)) (by decide) (by decide)) (fun _ _ => rfl)) (@pe_ix _ _ _ _ _ _ _ ix_tup (@pv _ 0 _ _ (by rfl) (by first | exact Or.inl rfl | exact Or.inr (Or.inl rfl) | exact Or.inr (Or.inr rfl)) (by decide) (by decide)) (@pe_int _ _ _ _) (fun _ _ => rfl)) (nomark _)) 
      (@pss_cons _ _ _ _ _ (@ps_set _ _ 2 _ _ _ _ sc_law_total.nd rfl (Or.inl rfl) (@pe_op _ _ _ _ _ _ _ _ op_add (@pv _ 2 _ _ (by rfl) (by first | exact Or.inl rfl | exact Or.inr (Or.inl rfl) | exact Or.inr (Or.inr rfl)) (by decide) (by decide)) (@pe_callBu _ _ _ _ _ _ _ _ _ (call_sumL rfl) rfl m_sum bt_sum (@pa_u _ _ _ _ _ (@pe_slice _ _ _ _ _ _ _ _ _ _ sl_list (@pv _ 1 _ _ (by rfl) (by first | exact Or.inl rfl | exact Or.inr (Or.inl rfl) | exact Or.inr (Or.inr rfl)) (by decide) (by decide)) (@po_some _ _ _ (@pv _ 3 _ _ (by rfl) (by first | exact Or.inl rfl | exact Or.inr (Or.inl rfl) | exact Or.inr (Or.inr rfl)) (by decide) (by decide))) (@po_some _ _ _ (@pe_op _ _ _ _ _ _ _ _ op_add (@pv _ 3 _ _ (by rfl) (by first | exact Or.inl rfl | exact Or.inr (Or.inl rfl) | exact Or.inr (Or.inr rfl)) (by decide) (by decide)) (@pe_int _ _ _ _)))) (@pa_nil _) (by rfl)) (by rfl) (by decide) (by decide))) (by rfl) (by first | exact .inl rfl | exact .inr rfl | assumption)) (@pss_one _ _ _ (@ps_set _ _ 3 _ _ _ _ sc_law_total.nd rfl (Or.inl rfl) (@pe_op _ _ _ _ _ _ _ _ op_add (@pv _ 3 _ _ (by rfl) (by first | exact Or.inl rfl | exact Or.inr (Or.inl rfl) | exact Or.inr (Or.inr rfl)) (by decide) (by decide)) (@pe_int _ _ _ _)) (by rfl) (by first | exact .inl rfl | exact .inr rfl | assumption)))) 
      (@pss_cons _ _ _ _ _ (@ps_set _ _ 2 _ _ _ _ sc_law_total.nd rfl (Or.inl rfl) (@pe_op _ _ _ _ _ _ _ _ op_add (@pe_op _ _ _ _ _ _ _ _ op_add (@pv _ 2 _ _ (by rfl) (by first | exact Or.inl rfl | exact Or.inr (Or.inl rfl) | exact Or.inr (Or.inr rfl)) (by decide) (by decide)) (@pe_ix _ _ _ _ _ _ _ ix_list (@pv _ 1 _ _ (by rfl) (by first | exact Or.inl rfl | exact Or.inr (Or.inl rfl) | exact Or.inr (Or.inr rfl)) (by decide) (by decide)) (@pv _ 3 _ _ (by rfl) (by first | exact Or.inl rfl | exact Or.inr (Or.inl rfl) | exact Or.inr (Or.inr rfl)) (by decide) (by decide)) (fun _ _ => rfl))) (@pe_ix _ _ _ _ _ _ _ ix_list (@pv _ 1 _ _ (by rfl) (by first | exact Or.inl rfl | exact Or.inr (Or.inl rfl) | exact Or.inr (Or.inr rfl)) (by decide) (by decide)) (@pe_op _ _ _ _ _ _ _ _ op_add (@pv _ 3 _ _ (by rfl) (by first | exact Or.inl rfl | exact Or.inr (Or.inl rfl) | exact Or.inr (Or.inr rfl)) (by decide) (by decide)) (@pe_int _ _ _ _)) (fun _ _ => rfl))) (by rfl) (by first | exact .inl rfl | exact .inr rfl | assumption)) 
      (@pss_cut _ _ _ _ _ (@ps_if _ _ _ _ _ _ _ _ (@pt_cmpR _ _ _ _ _ _ _ _ op_eq (@pe_op _ _ _ _ _ _ _ _ op_add (@pe_ix _ _ _ _ _ _ _ ix_list (@pv _ 1 _ _ (by rfl) (by first | exact Or.inl rfl | exact Or.inr (Or.inl rfl) | exact Or.inr (Or.inr rfl)) (by decide) (by decide)) (@pv _ 3 _ _ (by rfl) (by first | exact Or.inl rfl | exact Or.inr (Or.inl rfl) | exact Or.inr (Or.inr rfl)) (by decide) (by decide)) (fun _ _ => rfl)) (@pe_ix _ _ _ _ _ _ _ ix_list (@pv _ 1 _ _ (by rfl) (by first | exact Or.inl rfl | exact Or.inr (Or.inl rfl) | exact Or.inr (Or.inr rfl)) (by decide) (by decide)) (@pe_op _ _ _ _ _ _ _ _ op_add (@pv _ 3 _ _ (by rfl) (by first | exact Or.inl rfl | exact Or.inr (Or.inl rfl) | exact Or.inr (Or.inr rfl)) (by decide) (by decide)) (@pe_int _ _ _ _)) (fun _ _ => rfl))) (@pe_ix _ _ _ _ _ _ _ ix_tup (@pv _ 0 _ _ (by rfl) (by first | exact Or.inl rfl | exact Or.inr (Or.inl rfl) | exact Or.inr (Or.inr rfl)) (by decide) (by decide)) (@pe_int _ _ _ _) (fun _ _ => rfl)) (nomark _)) (@pss_one _ _ _ (@ps_set _ _ 2 _ _ _ _ sc_law_total.nd rfl (Or.inl rfl) (@pe_op _ _ _ _ _ _ _ _ op_add (@pv _ 2 _ _ (by rfl) (by first | exact Or.inl rfl | exact Or.inr (Or.inl rfl) | exact Or.inr (Or.inr rfl)) (by decide) (by decide)) (@pe_ix _ _ _ _ _ _ _ ix_list (@pv _ 1 _ _ (by rfl) (by first | exact Or.inl rfl | exact Or.inr (Or.inl rfl) | exact Or.inr (Or.inr rfl)) (by decide) (by decide)) (@pe_op _ _ _ _ _ _ _ _ op_add (@pv _ 3 _ _ (by rfl) (by first | exact Or.inl rfl | exact Or.inr (Or.inl rfl) | exact Or.inr (Or.inr rfl)) (by decide) (by decide)) (@pe_int _ _ _ _)) (fun _ _ => rfl))) (by rfl) (by first | exact .inl rfl | exact .inr rfl | assumption))) (@pss_nil _)) (@pss_one _ _ _ (@ps_set _ _ 3 _ _ _ _ sc_law_total.nd rfl (Or.inl rfl) (@pe_op _ _ _ _ _ _ _ _ op_add (@pv _ 3 _ _ (by rfl) (by first | exact Or.inl rfl | exact Or.inr (Or.inl rfl) | exact Or.inr (Or.inr rfl)) (by decide) (by decide)) (@pe_int _ _ _ _)) (by rfl) (by first | exact .inl rfl | exact .inr rfl | assumption))))))) (by intro _; rfl)) (@pss_one _ _ _ (@ps_ret _ _ _ _ (@pv _ 2 _ _ (by rfl) (by first | exact Or.inl rfl | exact Or.inr (Or.inl rfl) | exact Or.inr (Or.inr rfl)) (by decide) (by decide))))))), rfl, ?_⟩
  walk_at "cl"
  have hlm : (bs.map V.int).length = bs.length := List.length_map ..
  unfold fullB at hfull
  obtain ⟨bh, kk, hpos, hkk⟩ : ∃ bh kk, pos p f bs 0 = some (bh, kk) ∧ kk ≤ bh.length := by
    cases e : pos p f bs 0 with
    | none => rw [e] at hfull; cases hfull
    | some r =>
      obtain ⟨bh, kk⟩ := r
      rw [e] at hfull
      exact ⟨bh, kk, rfl, of_decide_eq_true hfull⟩
  clear hfull
  walk_at "st"
  walk_at "st"
  walk_at "st"
  refine ⟨_, hla, _, rfl, _, rfl, by omega, by omega, rng_of (fun i σ' H' => ∃ (j m : Nat) (tt : Int) (x4 : Option V), σ' = [some (.ref la), some (.ref ba), some (.int tt), some (.int j), x4] ∧ Same H H' ∧ j ≤ bs.length ∧ pos p (f - i) (bs.drop j) m = some (bh, kk) ∧ tt + ((parse p (f - i) j (bs.drop j)).map fT).sum = ((parse p f 0 bs).map fT).sum) ⟨0, 0, 0, none, rfl, .refl _, Nat.zero_le _, hpos, by rw [Int.zero_add]; rfl⟩ ?_ ?_⟩
  · rintro Pv hP i _ H1 hi ⟨j, m, tt, x4, rfl, S1, hj, hp, htt⟩
    rw [Int.toNat_natCast] at hi
    obtain ⟨c, hc⟩ : ∃ c, f - i = c + 1 := ⟨f - i - 1, by omega⟩
    have hc2 : f - (i + 1) = c := by omega
    rw [hc] at hp htt
    have hba1 := S1 _ _ hba
    have hla1 := Same.sqT hla S1
    have hjl : j < bs.length := by
      by_cases z : j < bs.length
      · exact z
      · rw [List.drop_eq_nil_of_le (by omega)] at hp
        cases hp
    obtain ⟨x, hx, hdx⟩ := drop_get hjl
    rw [hdx] at hp htt
    walk_at "rd"
    refine ⟨_, .of hba1, _, int_at hx, ?_⟩
    refine ⟨_, hla1, _, rfl, ?_⟩
    walk_at "rd"
    refine ite2 (fun c2 => ?_) (fun c2 => ?_)
    · have hp2 : pos p c (bs.drop (j + 1)) 2 = some (bh, kk) := by simpa [pos, c2] using hp
      have ht2 : tt + (x + ((bs.drop (j + 1)).take 2).sum + ((parse p c (j + 1) (bs.drop (j + 1))).map fT).sum) = ((parse p f 0 bs).map fT).sum := by simpa [parse, c2, fT] using htt
      walk_at "st"
      refine ⟨ba, _, rfl, .of hba1, fun p5 hp5 => ?_⟩
      have s5 := same_new hp5 (.lst (cutV (bs.map V.int) (some (j : Int)) (some ((j : Int) + 3))))
      refine ⟨p5, (bs.drop j).take 3, rfl, .of (by rw [upd_same, show (3 : Int) = ((3 : Nat) : Int) from rfl, cutV_mid (by omega), List.map_take, List.map_drop]), ?_⟩
      walk_at "rd"
      refine hP _ _ _ ⟨j + 1, 2, _, _, rfl, S1.trans s5, by omega, by rw [hc2]; exact hp2, ?_⟩
      rw [hc2, ← ht2, hdx]
      simp only [List.take_succ_cons, List.sum_cons]
      omega
    · have hjl2 : j + 1 < bs.length := by
        by_cases z : j + 1 < bs.length
        · exact z
        · rw [List.drop_eq_nil_of_le (show bs.length ≤ j + 1 by omega)] at hp
          simp [pos, c2] at hp
      obtain ⟨y, hy, hdy⟩ := drop_get hjl2
      rw [hdy] at hp htt
      have hp2 : pos p c (bs.drop (j + 2)) (if x + y = p then 1 else 0) = some (bh, kk) := by simpa [pos, c2] using hp
      have ht2 : tt + (x + y + ((bs.drop (j + 2)).take (if x + y = p then 1 else 0)).sum + ((parse p c (j + 2) (bs.drop (j + 2))).map fT).sum) = ((parse p f 0 bs).map fT).sum := by
        have e : parse p (c + 1) j (x :: y :: bs.drop (j + 1 + 1)) = ⟨j, j + 2, some (if x + y = p then 1 else 0), [x, y], bs.drop (j + 2)⟩ :: parse p c (j + 2) (bs.drop (j + 2)) := by simp [parse, if_neg c2]
        rw [e, List.map_cons, List.sum_cons] at htt
        rw [← htt]
        simp [fT]
      walk_at "st"
      refine ⟨_, .of hba1, _, int_at hx, ?_⟩
      walk_at "rd"
      refine ⟨_, .of hba1, _, int_at (i := j + 1) hy, ?_⟩
      walk_at "rd"
      refine r_cut (fun σ' H' => σ' = [some (.ref la), some (.ref ba), some (.int (tt + x + y + ((bs.drop (j + 2)).take (if x + y = p then 1 else 0)).sum)), some (.int j), some (.int (0 + (i : Int)))] ∧ H' = H1) (fun M hM => ?_) ?_
      · walk_at "rd"
        refine ⟨_, .of hba1, _, int_at hx, ?_⟩
        walk_at "rd"
        refine ⟨_, .of hba1, _, int_at (i := j + 1) hy, ?_⟩
        walk_at "rd"
        refine ⟨_, hla1, _, rfl, ?_⟩
        walk_at "rd"
        refine ite2 (fun c3 => ?_) (fun c3 => ?_)
        · rw [if_pos c3] at hp2
          have hjl3 : j + 2 < bs.length := by
            by_cases z : j + 2 < bs.length
            · exact z
            · rw [List.drop_eq_nil_of_le (show bs.length ≤ j + 2 by omega)] at hp2
              cases c with
              | zero =>
                cases hp2
                simp at hkk
              | succ c => cases hp2
          obtain ⟨z, hz, hdz⟩ := drop_get hjl3
          refine ⟨_, .of hba1, _, int_at (i := j + 2) hz, ?_⟩
          walk_at "rd"
          refine hM _ _ ⟨?_, rfl⟩
          rw [if_pos c3, hdz]
          simp
        · refine hM _ _ ⟨?_, rfl⟩
          rw [if_neg c3]
          simp
      rintro _ Hx ⟨rfl, eHx⟩
      rw [eHx]
      clear eHx Hx
      walk_at "rd"
      refine hP _ _ _ ⟨j + 2, _, _, _, rfl, S1, by omega, by rw [hc2]; exact hp2, ?_⟩
      rw [hc2, ← ht2]
      omega
  · rintro _ H1 ⟨j, m, tt, x4, rfl, S1, hj, hp, htt⟩
    rw [Int.toNat_natCast, Nat.sub_self] at htt
    simp only [parse, List.map_nil, List.sum_nil, Int.add_zero] at htt
    walk_at "rd"
    rw [htt]
    exact q _ S1
end
end My
namespace My
open PySem L2 M
structure LnI (p : Int) (f : Nat) (sh : List (List Int)) (side : Nat) : Prop where
  vl : ∀ bs ∈ sh, Vl p f bs
  sd : side < sh.length
  kk : ∃ k : Int, ∀ j bs, sh[j]? = some bs → (runL p f bs).d = if j < side then k + 1 else k
theorem ball_d {p f : Int} {r : Lr} {b : Int} : (ballB p f r b).d = r.d ∨ (ballB p f r b).d = r.d + 1 := by
  unfold ballB
  split
  · unfold frameB
    split
    · exact .inl rfl
    · split
      · exact .inl rfl
      · exact .inr rfl
  · unfold extraB
    split
    · exact .inr rfl
    · exact .inl rfl
theorem lnI_step {p : Int} {f : Nat} {sh : List (List Int)} {side : Nat} {bs : List Int} {b : Int} (h : LnI p f sh side) (hs : sh[side]? = some bs) (hd : (runL p f bs).d < f) (h0 : 0 ≤ b) (h1 : b ≤ (runL p f bs).u) :
    LnI p f (sh.set side (bs ++ [b])) (sideB p f (sh.map (runL p f)) side b) := by
  have hsd := h.sd
  obtain ⟨k, hk⟩ := h.kk
  have hks := hk side bs hs
  rw [if_neg (Nat.lt_irrefl _)] at hks
  have hrow : (sh.map (runL p f))[side]? = some (runL p f bs) := by rw [List.getElem?_map, hs]; rfl
  have hn : ∀ j bs', (sh.set side (bs ++ [b]))[j]? = some bs' → (j = side ∧ bs' = bs ++ [b]) ∨ (j ≠ side ∧ sh[j]? = some bs') := fun j bs' e => by
    by_cases z : side = j
    · subst z
      rw [List.getElem?_set_self hsd] at e
      exact .inl ⟨rfl, (Option.some.inj e).symm⟩
    · rw [List.getElem?_set_ne z] at e
      exact .inr ⟨Ne.symm z, e⟩
  have hv : ∀ bs' ∈ sh.set side (bs ++ [b]), Vl p f bs' := fun bs' hb => by
    rcases List.mem_or_eq_of_mem_set hb with z | z
    · exact h.vl bs' z
    · rw [z]; exact .snoc (h.vl bs (List.mem_of_getElem? hs)) hd h0 h1
  have hlen : (sh.set side (bs ++ [b])).length = sh.length := List.length_set ..
  have hds : sideB p f (sh.map (runL p f)) side b = if (ballB p f (runL p f bs) b).d > (runL p f bs).d then (side + 1) % sh.length else side := by
    unfold sideB
    rw [hrow, List.length_map]
  rw [hds]
  rcases ball_d (p := p) (f := f) (r := runL p f bs) (b := b) with e | e
  · rw [if_neg (by omega)]
    refine ⟨hv, by rw [hlen]; exact hsd, k, fun j bs' hj => ?_⟩
    rcases hn j bs' hj with ⟨rfl, rfl⟩ | ⟨z, hj'⟩
    · rw [runL_app, e, if_neg (Nat.lt_irrefl _)]
      exact hks
    · exact hk j bs' hj'
  · rw [if_pos (by omega)]
    by_cases w : side + 1 < sh.length
    · rw [Nat.mod_eq_of_lt w]
      refine ⟨hv, by rw [hlen]; exact w, k, fun j bs' hj => ?_⟩
      rcases hn j bs' hj with ⟨rfl, rfl⟩ | ⟨z, hj'⟩
      · rw [runL_app, e, if_pos (Nat.lt_succ_self _), hks]
      · rw [hk j bs' hj']
        by_cases y : j < side
        · rw [if_pos y, if_pos (by omega)]
        · rw [if_neg y, if_neg (by omega)]
    · rw [show side + 1 = sh.length by omega, Nat.mod_self]
      refine ⟨hv, by rw [hlen]; omega, k + 1, fun j bs' hj => ?_⟩
      have hjl : j < sh.length := by have := (List.getElem?_eq_some_iff.mp hj).1; rwa [hlen] at this
      rw [if_neg (Nat.not_lt_zero _)]
      rcases hn j bs' hj with ⟨rfl, rfl⟩ | ⟨z, hj'⟩
      · rw [runL_app, e, hks]
      · rw [hk j bs' hj', if_pos (by omega)]
theorem lnI_open {p : Int} {c : Nat} {sh : List (List Int)} {side : Nat} {bs : List Int} (h : LnI p (c + 1) sh side) (hs : sh[side]? = some bs) (ho : overB ((c + 1 : Nat) : Int) (sh.map (runL p ((c + 1 : Nat) : Int))) = false) : (runL p ((c + 1 : Nat) : Int) bs).d < ((c + 1 : Nat) : Int) := by
  obtain ⟨k, hk⟩ := h.kk
  have hks := hk side bs hs
  rw [if_neg (Nat.lt_irrefl _)] at hks
  have hle := (done_iff (h.vl bs (List.mem_of_getElem? hs))).1
  by_cases z : (runL p ((c + 1 : Nat) : Int) bs).d < ((c + 1 : Nat) : Int)
  · exact z
  · exfalso
    have ek : k = ((c + 1 : Nat) : Int) := by omega
    have : overB ((c + 1 : Nat) : Int) (sh.map (runL p ((c + 1 : Nat) : Int))) = true := by
      unfold overB
      rw [List.all_eq_true]
      intro r hr
      obtain ⟨bs', hb, rfl⟩ := List.mem_map.mp hr
      obtain ⟨j, hj, ej⟩ := List.mem_iff_getElem.mp hb
      have e := hk j bs' (by rw [List.getElem?_eq_getElem hj, ej])
      have l := (done_iff (h.vl bs' hb)).1
      refine decide_eq_true ?_
      split at e <;> omega
    rw [ho] at this
    cases this
theorem left_nn {p : Int} {f : Nat} {bs : List Int} : 0 ≤ leftI p f bs ∧ (leftI p f bs = 0 ↔ fullB p f bs = true) := by
  unfold leftI fullB
  cases pos p f bs 0 with
  | none => simp
  | some r =>
    obtain ⟨bh, k⟩ := r
    simp only [decide_eq_true_eq]
    split
    · exact ⟨by omega, ⟨fun z => by omega, fun z => by omega⟩⟩
    · exact ⟨by omega, ⟨fun z => by omega, fun z => rfl⟩⟩
theorem over_left {p : Int} {c : Nat} {sh : List (List Int)} {M : Int} (hv : ∀ bs ∈ sh, Vl p ((c + 1 : Nat) : Int) bs) (h1 : M ∈ sh.map (leftI p (c + 1))) (h2 : ∀ a ∈ sh.map (leftI p (c + 1)), a ≤ M) : decide (M = 0) = overB ((c + 1 : Nat) : Int) (sh.map (runL p ((c + 1 : Nat) : Int))) := by
  have key : ∀ bs ∈ sh, ((runL p ((c + 1 : Nat) : Int) bs).d = ((c + 1 : Nat) : Int) ↔ leftI p (c + 1) bs = 0) := fun bs hb => (done_iff (hv bs hb)).2.trans left_nn.2.symm
  obtain ⟨b0, hb0, e0⟩ := List.mem_map.mp h1
  by_cases z : M = 0
  · rw [decide_eq_true z]
    symm
    unfold overB
    rw [List.all_eq_true]
    intro r hr
    obtain ⟨bs, hb, rfl⟩ := List.mem_map.mp hr
    refine decide_eq_true ((key bs hb).mpr ?_)
    have l1 := h2 _ (List.mem_map_of_mem hb)
    have l2 := (left_nn (p := p) (f := c + 1) (bs := bs)).1
    omega
  · rw [decide_eq_false z]
    symm
    unfold overB
    rw [List.all_eq_false]
    refine ⟨_, List.mem_map_of_mem hb0, ?_⟩
    simp only [decide_eq_true_eq]
    intro e
    have := (key b0 hb0).mp e
    omega
theorem over_full {p : Int} {c : Nat} {sh : List (List Int)} (hv : ∀ bs ∈ sh, Vl p ((c + 1 : Nat) : Int) bs) (ho : overB ((c + 1 : Nat) : Int) (sh.map (runL p ((c + 1 : Nat) : Int))) = true) : ∀ bs ∈ sh, fullB p (c + 1) bs = true := fun bs hb => by
  unfold overB at ho
  rw [List.all_eq_true] at ho
  exact (done_iff (hv bs hb)).2.mp (of_decide_eq_true (ho _ (List.mem_map_of_mem hb)))
theorem sum_lens {sh : List (List Int)} {B : Nat} : (∀ bs ∈ sh, bs.length ≤ B) → ∀ {j : Nat} {bs : List Int}, sh[j]? = some bs → bs.length < B → (sh.map List.length).sum < sh.length * B := by
  induction sh with
  | nil => intro _ j bs h; cases j <;> cases h
  | cons x sh ih =>
    intro h j bs hj hb
    have hx := h x (List.mem_cons_self ..)
    have hr : ∀ bs ∈ sh, bs.length ≤ B := fun b hb => h b (List.mem_cons_of_mem _ hb)
    have all : ∀ {l : List (List Int)}, (∀ bs ∈ l, bs.length ≤ B) → (l.map List.length).sum ≤ l.length * B := by
      intro l
      induction l with
      | nil => intro _; simp
      | cons y l ih =>
        intro h
        have h1 := h y (List.mem_cons_self ..)
        have h2 := ih fun b hb => h b (List.mem_cons_of_mem _ hb)
        simp only [List.map_cons, List.sum_cons, List.length_cons, Nat.succ_mul]
        omega
    simp only [List.map_cons, List.sum_cons, List.length_cons, Nat.succ_mul]
    cases j with
    | zero =>
      cases hj
      have := all hr
      omega
    | succ j =>
      have := ih hr (j := j) hj hb
      omega
theorem sum_set {sh : List (List Int)} {b : Int} : ∀ {j : Nat} {bs : List Int}, sh[j]? = some bs → ((sh.set j (bs ++ [b])).map List.length).sum = (sh.map List.length).sum + 1 := by
  induction sh with
  | nil => intro j bs h; cases j <;> cases h
  | cons x sh ih =>
    intro j bs h
    cases j with
    | zero =>
      cases h
      simp
      omega
    | succ j =>
      have := ih (j := j) h
      simp only [List.set_cons_succ, List.map_cons, List.sum_cons, this]
      omega
structure ShL (H0 : Hp) (H : Hp) (t D : Addr) (as : List Addr) (sh : List (List Int)) : Prop where
  len : as.length = sh.length
  nd : as.Nodup
  hd : H D = some (.lst (as.map V.ref))
  dt : D ≠ t
  d0 : H0 D = none
  at' : ∀ (j : Nat) (a : Addr) (bs : List Int), as[j]? = some a → sh[j]? = some bs → H a = some (.lst (bs.map V.int)) ∧ a ≠ t ∧ a ≠ D ∧ H0 a = none
theorem ShL.same {H0 H H' : Hp} {t D : Addr} {as : List Addr} {sh : List (List Int)} (h : ShL H0 H t D as sh) (e : Same H H') : ShL H0 H' t D as sh :=
  ⟨h.len, h.nd, e _ _ h.hd, h.dt, h.d0, fun j a bs h1 h2 => by obtain ⟨a1, a2⟩ := h.at' j a bs h1 h2; exact ⟨e _ _ a1, a2⟩⟩
theorem ShL.ext {H0 H H' : Hp} {t D : Addr} {as : List Addr} {sh : List (List Int)} (h : ShL H0 H t D as sh) (e : Ext t H H') : ShL H0 H' t D as sh :=
  ⟨h.len, h.nd, e _ _ (fun z => absurd z h.dt) h.hd, h.dt, h.d0, fun j a bs h1 h2 => by obtain ⟨a1, a2, a3⟩ := h.at' j a bs h1 h2; exact ⟨e _ _ (fun z => absurd z a2) a1, a2, a3⟩⟩
theorem ShL.add {H0 H : Hp} {t D : Addr} {as : List Addr} {sh : List (List Int)} {j : Nat} {a : Addr} {bs : List Int} {b : Int} (h : ShL H0 H t D as sh) (ha : as[j]? = some a) (hs : sh[j]? = some bs) : ShL H0 (upd H a (.lst (bs.map V.int ++ [V.int b]))) t D as (sh.set j (bs ++ [b])) := by
  obtain ⟨h1, h2, h3, h4⟩ := h.at' j a bs ha hs
  refine ⟨by rw [List.length_set]; exact h.len, h.nd, by rw [upd_ne h3.symm]; exact h.hd, h.dt, h.d0, fun i a' bs' e1 e2 => ?_⟩
  by_cases z : j = i
  · subst z
    rw [ha] at e1
    cases e1
    rw [List.getElem?_set_self (List.getElem?_eq_some_iff.mp hs).1] at e2
    cases e2
    exact ⟨by rw [upd_same, List.map_append]; rfl, h2, h3, h4⟩
  · rw [List.getElem?_set_ne z] at e2
    obtain ⟨b1, b2⟩ := h.at' i a' bs' e1 e2
    have hne : a' ≠ a := fun e => by
      rw [e] at e1
      exact z ((List.getElem?_inj (List.getElem?_eq_some_iff.mp ha).1 h.nd).mp (ha.trans e1.symm))
    exact ⟨by rw [upd_ne hne]; exact b1, b2⟩
theorem comp_lists {σ : St} {H : Hp} {Q : VK} {ta : TA} {m : Nat} (hta : ∀ R : List V → Hp → Prop, R [.int m] H → ta σ H R) (hz : m ≤ 1000)
    (q : ∀ (D : Addr) (as : List Addr) H', Same H H' → H D = none → H' D = some (.lst (as.map V.ref)) → as.length = m → as.Nodup → (∀ a ∈ as, H a = none ∧ a ≠ D ∧ H' a = some (.lst [])) → Q (.ref D) H') : tComp (iRng1 ta) tTrue (tLst tNil) σ H Q := by
  unfold tComp
  refine hta _ ⟨m, rfl, by omega, by omega, ?_⟩
  rw [Int.toNat_natCast]
  intro D hD
  refine ⟨fun i k H' => k = m - i ∧ i ≤ m ∧ Same H H' ∧ ∃ as : List Addr, H' D = some (.lst (as.map V.ref)) ∧ as.length = i ∧ as.Nodup ∧ ∀ a ∈ as, H a = none ∧ a ≠ D ∧ H' a = some (.lst []), ⟨_, rfl, Nat.zero_le _, fun b o h => by rw [upd_ne (ne_of_none h hD)]; exact h, [], upd_same, rfl, .nil, fun a ha => nomatch ha⟩, ?_⟩
  rintro i k H1 ⟨rfl, hi, S, as, hd, hl, hn, ha⟩
  by_cases c : i = m
  · subst c
    exact .inl ⟨Nat.le_refl _, q D as H1 S hD hd hl hn ha⟩
  · refine .inr ⟨(by show i < m; omega), ?_⟩
    rintro x H2 ⟨rfl, rfl⟩
    unfold tTrue
    dsimp only
    rw [if_pos rfl]
    refine ⟨small6 (by simp), fun p hp => ?_⟩
    have s2 := same_new hp (.lst [])
    have hpD : p ≠ D := (ne_of_none hd hp).symm
    refine ⟨as.map V.ref, s2 _ _ hd, small1000 (by rw [List.length_map]; omega), _, by omega, rfl, by omega, fun b o h => ?_, as ++ [p], ?_, by rw [List.length_append, hl]; rfl, ?_, fun a ha' => ?_⟩
    · rw [upd_ne (ne_of_none h hD)]
      exact s2 _ _ (S _ _ h)
    · rw [upd_same, List.map_append]
      rfl
    · rw [List.nodup_append]
      refine ⟨hn, by simp, fun a h1 b h2 e => ?_⟩
      rw [List.mem_singleton.mp h2] at e
      have := (ha a h1).2.2
      rw [e, hp] at this
      cases this
    · rcases List.mem_append.mp ha' with z | z
      · obtain ⟨b1, b2, b3⟩ := ha a z
        exact ⟨b1, b2, by rw [upd_ne b2]; exact s2 _ _ b3⟩
      · rw [List.mem_singleton.mp z]
        exact ⟨S.free hp, hpD, by rw [upd_ne hpD]; exact upd_same⟩
section
variable {P : Program} {w : World} {K : PySem.W.Frag} {mg : Str → Option Value} {base : Heap} {ns : List Int} {k : Nat}
theorem fl2_ints : ∀ cs : List Int, fls2 (cs.map PyData.int) = true
  | [] => rfl
  | c :: cs => by simp only [List.map_cons, fls2, fl2, fl2_ints cs]; rfl
theorem depAll_ints : ∀ cs : List Int, PyData.depthAll (cs.map PyData.int) = 0
  | [] => by simp [PyData.depthAll]
  | c :: cs => by simp only [List.map_cons, PyData.depthAll, PyData.depth, depAll_ints cs]; rfl
theorem rowsB_set {p f : Int} {sh : List (List Int)} {side : Nat} {bs : List Int} {b : Int} (h : sh[side]? = some bs) : rowsB p f (sh.map (runL p f)) side b = (sh.set side (bs ++ [b])).map (runL p f) := by
  unfold rowsB
  rw [List.getElem?_map, h]
  show (sh.map (runL p f)).set side (ballB p f (runL p f bs) b) = _
  rw [List.map_set, runL_app]
theorem lefts_of {α : Type} {sh : List α} {g : α → Int} {ys : List V} (h : All2 (fun j y => ∃ bs, sh[j]? = some bs ∧ y = V.int (g bs)) (List.range sh.length) ys) : ys = (sh.map g).map V.int := by
  have e : ∀ (as : List Nat) (ys : List V), All2 (fun j y => ∃ bs, sh[j]? = some bs ∧ y = V.int (g bs)) as ys → ys = as.map fun j => V.int ((sh[j]?.map g).getD 0) := by
    intro as
    induction as with
    | nil => intro ys h; cases ys with | nil => rfl | cons _ _ => exact h.elim
    | cons j as ih =>
      intro ys h
      cases ys with
      | nil => exact h.elim
      | cons y ys =>
        obtain ⟨⟨u, hu, rfl⟩, h2⟩ := h
        rw [ih ys h2, List.map_cons, hu]
        rfl
  rw [e _ _ h]
  refine List.ext_getElem (by simp) fun j h1 h2 => ?_
  simp only [List.length_map] at h2
  simp [h2]
theorem ok_law {fa : Addr} {fd : FuncData} (F : Fun K "law" "law" s_law fa fd) (m_range : mg "range" = none) (m_max : mg "max" = none) (m_tuple : mg "tuple" = none) (d_law_tape : ∀ ns, Dn P w K mg base k "_law_tape" ["_law_script"] (spTape K ns)) (d_law_lane : ∀ ns, Dn P w K mg base k "_law_lane" ["_law_tape_here"] (spLane K ns)) (d_law_ball : ∀ ns, Dn P w K mg base k "_law_ball" ["_law_tape_here", "_law_up"] (spBall K ns))
    (d_lane_begun : Dn P w K mg base k "lane_begun" ["lane"] (spLBegun K)) (d_lane_bowled : Dn P w K mg base k "lane_bowled" ["lane", "stand", "pins"] (spBowl K)) (d_law_left : Dn P w K mg base k "_law_left" ["_law_lane_here", "_law_balls"] (spLeft K)) (d_law_total : Dn P w K mg base k "_law_total" ["_law_lane_here", "_law_balls"] (spTotal K)) (d_best_of : Dn P w K mg base k "best_of" ["stand"] (spBest K)) (d_law_alike : Dn P w K mg base k "_law_alike" ["_law_due", "_law_found"] (spAl2 K 4)) : FnOk P w K mg base CX0 (k + 1) fa fd ["_law_script"] (spLaw K) := by
  refine F.okS sc_law (fun vs H Q E h => ?_) (fun cdv A outer s H vs Q E hr h => ?_)
  · obtain ⟨a, ns, rfl, _⟩ := h; rfl
  obtain ⟨a, ns, rfl, hs, _, q⟩ := h
  replace d_law_tape := d_law_tape ns
  replace d_law_lane := d_law_lane ns
  replace d_law_ball := d_law_ball ns
  refine ⟨_, [some _, none, none, none, none, none, none, none, none, none, none, none], 
      (@pss_cons _ _ _ _ _ (@ps_set _ _ 1 _ _ _ _ sc_law.nd rfl (Or.inl rfl) (@pe_callD _ _ _ _ _ _ _ _ _ _ d_law_tape hr rfl (@pa_u _ _ _ _ _ (@pv _ 0 _ _ (by rfl) (by first | exact Or.inl rfl | exact Or.inr (Or.inl rfl) | exact Or.inr (Or.inr rfl)) (by decide) (by decide)) (@pa_nil _) (by rfl)) (by rfl) (by decide)) (by rfl) (by first | exact .inl rfl | exact .inr rfl | assumption)) 
      (@pss_cons _ _ _ _ _ (@ps_set _ _ 2 _ _ _ _ sc_law.nd rfl (Or.inr rfl) (@pe_callD _ _ _ _ _ _ _ _ _ _ d_law_lane hr rfl (@pa_u _ _ _ _ _ (@pv _ 1 _ _ (by rfl) (by first | exact Or.inl rfl | exact Or.inr (Or.inl rfl) | exact Or.inr (Or.inr rfl)) (by decide) (by decide)) (@pa_nil _) (by rfl)) (by rfl) (by decide)) (by rfl) (by first | exact .inl rfl | exact .inr rfl | assumption)) 
      (@pss_cons _ _ _ _ _ (@ps_setComp _ _ _ _ _ _ _ _ _ _ _ _ _ _ _ 3 _ rfl sc_law.nd rfl (Or.inl rfl) (compCapB (N := ["_law_script", "_law_tape_here", "_law_lane_here", "_law_sheets", "_law_stand", "_law_over", "_law_k", "_law_side", "_law_ball_here", "_law_due", "_law_totals", "_law_best"]) (N' := ["_law_script", "_law_tape_here", "_law_lane_here", "_law_sheets", "_law_stand", "_law_over", "?", "_law_side", "_law_ball_here", "_law_due", "_law_totals", "_law_best"]) (fr := []) (osc := defScope s_law) rfl rfl (by decide +kernel) rfl rfl (fun p hp => (nomatch hp))) (@pi_range1 _ _ _ _ _ _ rfl m_range (@pa_u _ _ _ _ _ (@pe_ix _ _ _ _ _ _ _ ix_tup (@pv _ 2 _ _ (by rfl) (by first | exact Or.inl rfl | exact Or.inr (Or.inl rfl) | exact Or.inr (Or.inr rfl)) (by decide) (by decide)) (@pe_int _ _ _ _) (fun _ _ => rfl)) (@pa_nil _) (by rfl)) (by rfl)) (fun _ _ _ _ => (@pts_nil _)) (fun _ _ _ _ => (@pe_lst _ _ _ _ (@pa_nil _))) (by rfl) (by intro _; rfl) (by first | exact .inl rfl | exact .inr rfl | assumption)) 
      (@pss_cons _ _ _ _ _ (@ps_set _ _ 4 _ _ _ _ sc_law.nd rfl (Or.inl rfl) (@pe_callD _ _ _ _ _ _ _ _ _ _ d_lane_begun hr rfl (@pa_u _ _ _ _ _ (@pv _ 2 _ _ (by rfl) (by first | exact Or.inl rfl | exact Or.inr (Or.inl rfl) | exact Or.inr (Or.inr rfl)) (by decide) (by decide)) (@pa_nil _) (by rfl)) (by rfl) (by decide)) (by rfl) (by first | exact .inl rfl | exact .inr rfl | assumption)) 
      (@pss_cons _ _ _ _ _ (@ps_set _ _ 5 _ _ _ _ sc_law.nd rfl (Or.inl rfl) (@pe_bl _ _ _ _) (by rfl) (by first | exact .inl rfl | exact .inr rfl | assumption)) 
      (@pss_cons _ _ _ _ _ (@ps_for _ _ _ _ _ _ _ _ PassesOwn.never rfl (@pi_range1 _ _ _ _ _ _ rfl m_range (@pa_u _ _ _ _ _ (@pe_op _ _ _ _ _ _ _ _ op_mul (@pe_ix _ _ _ _ _ _ _ ix_tup (@pv _ 2 _ _ (by rfl) (by first | exact Or.inl rfl | exact Or.inr (Or.inl rfl) | exact Or.inr (Or.inr rfl)) (by decide) (by decide)) (@pe_int _ _ _ _) (fun _ _ => rfl)) (@pe_op _ _ _ _ _ _ _ _ op_add (@pe_op _ _ _ _ _ _ _ _ op_mul (@pe_int _ _ _ _) (@pe_ix _ _ _ _ _ _ _ ix_tup (@pv _ 2 _ _ (by rfl) (by first | exact Or.inl rfl | exact Or.inr (Or.inl rfl) | exact Or.inr (Or.inr rfl)) (by decide) (by decide)) (@pe_int _ _ _ _) (fun _ _ => rfl))) (@pe_int _ _ _ _))) (@pa_nil _) (by rfl)) (by rfl)) (@pg_name _ _ 6 _ sc_law.nd rfl (Or.inl rfl) (by first | exact .inl rfl | exact .inr rfl | assumption)) (@pss_one _ _ _ (@ps_if _ _ _ _ _ _ _ _ (@pt_not _ _ _ _ (@pt_val _ _ _ (@pv _ 5 _ _ (by rfl) (by first | exact Or.inl rfl | exact Or.inr (Or.inl rfl) | exact Or.inr (Or.inr rfl)) (by decide) (by decide)) (by intro _; rfl))) 
      (@pss_cons _ _ _ _ _ (@ps_set _ _ 7 _ _ _ _ sc_law.nd rfl (Or.inl rfl) (@pe_ix _ _ _ _ _ _ _ ix_tup (@pv _ 4 _ _ (by rfl) (by first | exact Or.inl rfl | exact Or.inr (Or.inl rfl) | exact Or.inr (Or.inr rfl)) (by decide) (by decide)) (@pe_int _ _ _ _) (fun _ _ => rfl)) (by rfl) (by first | exact .inl rfl | exact .inr rfl | assumption)) 
      (@pss_cons _ _ _ _ _ (@ps_set _ _ 8 _ _ _ _ sc_law.nd rfl (Or.inl rfl) (@pe_callD _ _ _ _ _ _ _ _ _ _ d_law_ball hr rfl (@pa_u _ _ _ _ _ (@pv _ 1 _ _ (by rfl) (by first | exact Or.inl rfl | exact Or.inr (Or.inl rfl) | exact Or.inr (Or.inr rfl)) (by decide) (by decide)) (@pa_u _ _ _ _ _ (@pe_ix _ _ _ _ _ _ _ ix_tup (@pe_ix _ _ _ _ _ _ _ ix_tup (@pe_ix _ _ _ _ _ _ _ ix_tup (@pv _ 4 _ _ (by rfl) (by first | exact Or.inl rfl | exact Or.inr (Or.inl rfl) | exact Or.inr (Or.inr rfl)) (by decide) (by decide)) (@pe_int _ _ _ _) (fun _ _ => rfl)) (@pv _ 7 _ _ (by rfl) (by first | exact Or.inl rfl | exact Or.inr (Or.inl rfl) | exact Or.inr (Or.inr rfl)) (by decide) (by decide)) (fun _ _ => rfl)) (@pe_int _ _ _ _) (fun _ _ => rfl)) (@pa_nil _) (by rfl)) (by rfl)) (by rfl) (by decide)) (by rfl) (by first | exact .inl rfl | exact .inr rfl | assumption)) 
      (@pss_cons _ _ _ _ _ (@ps_expr _ _ _ _ (@pe_bm _ _ _ _ _ _ _ _ _ _ _ _ PySem.F.plainAttrs_list PySem.F.slot_list_append PySem.F.type_list_append mt_append (@pe_ix _ _ _ _ _ _ _ ix_list (@pv _ 3 _ _ (by rfl) (by first | exact Or.inl rfl | exact Or.inr (Or.inl rfl) | exact Or.inr (Or.inr rfl)) (by decide) (by decide)) (@pv _ 7 _ _ (by rfl) (by first | exact Or.inl rfl | exact Or.inr (Or.inl rfl) | exact Or.inr (Or.inr rfl)) (by decide) (by decide)) (fun _ _ => rfl)) (@pa_u _ _ _ _ _ (@pv _ 8 _ _ (by rfl) (by first | exact Or.inl rfl | exact Or.inr (Or.inl rfl) | exact Or.inr (Or.inr rfl)) (by decide) (by decide)) (@pa_nil _) (by rfl)) (by rfl) (by rfl) (by rfl) (by rfl) (by rfl)) (by rfl)) 
      (@pss_cons _ _ _ _ _ (@ps_asg _ _ _ _ _ _ (@pe_callD _ _ _ _ _ _ _ _ _ _ d_lane_bowled hr rfl (@pa_u _ _ _ _ _ (@pv _ 2 _ _ (by rfl) (by first | exact Or.inl rfl | exact Or.inr (Or.inl rfl) | exact Or.inr (Or.inr rfl)) (by decide) (by decide)) (@pa_u _ _ _ _ _ (@pv _ 4 _ _ (by rfl) (by first | exact Or.inl rfl | exact Or.inr (Or.inl rfl) | exact Or.inr (Or.inr rfl)) (by decide) (by decide)) (@pa_u _ _ _ _ _ (@pv _ 8 _ _ (by rfl) (by first | exact Or.inl rfl | exact Or.inr (Or.inl rfl) | exact Or.inr (Or.inr rfl)) (by decide) (by decide)) (@pa_nil _) (by rfl)) (by rfl)) (by rfl)) (by rfl) (by decide)) (@pg_tup _ _ _ _ _ _ rfl (@pgs_cons _ _ _ _ _ (@pg_name _ _ 4 _ sc_law.nd rfl (Or.inl rfl) (by first | exact .inl rfl | exact .inr rfl | assumption)) (@pgs_cons _ _ _ _ _ (@pg_name _ _ 5 _ sc_law.nd rfl (Or.inl rfl) (by first | exact .inl rfl | exact .inr rfl | assumption)) (@pgs_nil _) (by rfl)) (by rfl)) (by rfl) (by rfl)) (by rfl) (by rfl) (by rfl)) 
      (@pss_cons _ _ _ _ _ (@ps_set _ _ 9 _ _ _ _ sc_law.nd rfl (Or.inl rfl) (@pe_cmpR _ _ _ _ _ _ _ _ op_eq (@pe_callBu _ _ _ _ _ _ _ _ _ (call_maxL rfl) rfl m_max bt_max (@pa_u _ _ _ _ _ (@pe_comp _ _ _ _ _ _ _ _ _ _ _ _ _ rfl (compCap (N := ["_law_script", "_law_tape_here", "_law_lane_here", "_law_sheets", "_law_stand", "_law_over", "_law_k", "_law_side", "_law_ball_here", "_law_due", "_law_totals", "_law_best"]) (fr := ["_law_lane_here"]) (osc := defScope s_law) rfl rfl (by decide +kernel) rfl rfl (by intro p hp; simp only [List.mem_cons, List.not_mem_nil, or_false] at hp; rcases hp with rfl <;> rfl)) (@pi_list _ _ _ _ (@pv _ 3 _ _ (by rfl) (by first | exact Or.inl rfl | exact Or.inr (Or.inl rfl) | exact Or.inr (Or.inr rfl)) (by decide) (by decide))) (fun _ _ _ _ => (@pts_nil _)) (fun _ _ _ _ => (@pe_callD _ _ _ _ _ _ _ _ _ _ d_law_left hr rfl (@pa_u _ _ _ _ _ (@pv _ 3 _ _ (by rfl) (by first | exact Or.inl rfl | exact Or.inr (Or.inl rfl) | exact Or.inr (Or.inr rfl)) (by decide) (by decide)) (@pa_u _ _ _ _ _ (@pv _ 0 _ _ (by rfl) (by first | exact Or.inl rfl | exact Or.inr (Or.inl rfl) | exact Or.inr (Or.inr rfl)) (by decide) (by decide)) (@pa_nil _) (by rfl)) (by rfl)) (by rfl) (by decide))) (by intro _; rfl)) (@pa_nil _) (by rfl)) (by rfl) (by decide) (by decide)) (@pe_int _ _ _ _) (nomark _)) (by rfl) (by first | exact .inl rfl | exact .inr rfl | assumption)) (@pss_one _ _ _ (@ps_if _ _ _ _ _ _ _ _ (@pt_not _ _ _ _ (@pt_val _ _ _ (@pe_callD _ _ _ _ _ _ _ _ _ _ d_law_alike hr rfl (@pa_u _ _ _ _ _ (@pv _ 9 _ _ (by rfl) (by first | exact Or.inl rfl | exact Or.inr (Or.inl rfl) | exact Or.inr (Or.inr rfl)) (by decide) (by decide)) (@pa_u _ _ _ _ _ (@pv _ 5 _ _ (by rfl) (by first | exact Or.inl rfl | exact Or.inr (Or.inl rfl) | exact Or.inr (Or.inr rfl)) (by decide) (by decide)) (@pa_nil _) (by rfl)) (by rfl)) (by rfl) (by decide)) (by intro _; rfl))) (@pss_one _ _ _ (@ps_ret _ _ _ _ (@pe_bl _ _ _ _))) (@pss_nil _)))))))) (@pss_nil _))) (by intro _; rfl)) 
      (@pss_cons _ _ _ _ _ (@ps_if _ _ _ _ _ _ _ _ (@pt_not _ _ _ _ (@pt_val _ _ _ (@pv _ 5 _ _ (by rfl) (by first | exact Or.inl rfl | exact Or.inr (Or.inl rfl) | exact Or.inr (Or.inr rfl)) (by decide) (by decide)) (by intro _; rfl))) (@pss_one _ _ _ (@ps_ret _ _ _ _ (@pe_bl _ _ _ _))) (@pss_nil _)) 
      (@pss_cons _ _ _ _ _ (@ps_set _ _ 10 _ _ _ _ sc_law.nd rfl (Or.inr rfl) (@pe_comp _ _ _ _ _ _ _ _ _ _ _ _ _ rfl (compCap (N := ["_law_script", "_law_tape_here", "_law_lane_here", "_law_sheets", "_law_stand", "_law_over", "_law_k", "_law_side", "_law_ball_here", "_law_due", "_law_totals", "_law_best"]) (fr := ["_law_lane_here"]) (osc := defScope s_law) rfl rfl (by decide +kernel) rfl rfl (by intro p hp; simp only [List.mem_cons, List.not_mem_nil, or_false] at hp; rcases hp with rfl <;> rfl)) (@pi_list _ _ _ _ (@pv _ 3 _ _ (by rfl) (by first | exact Or.inl rfl | exact Or.inr (Or.inl rfl) | exact Or.inr (Or.inr rfl)) (by decide) (by decide))) (fun _ _ _ _ => (@pts_nil _)) (fun _ _ _ _ => (@pe_callD _ _ _ _ _ _ _ _ _ _ d_law_total hr rfl (@pa_u _ _ _ _ _ (@pv _ 3 _ _ (by rfl) (by first | exact Or.inl rfl | exact Or.inr (Or.inl rfl) | exact Or.inr (Or.inr rfl)) (by decide) (by decide)) (@pa_u _ _ _ _ _ (@pv _ 0 _ _ (by rfl) (by first | exact Or.inl rfl | exact Or.inr (Or.inl rfl) | exact Or.inr (Or.inr rfl)) (by decide) (by decide)) (@pa_nil _) (by rfl)) (by rfl)) (by rfl) (by decide))) (by intro _; rfl)) (by rfl) (by first | exact .inl rfl | exact .inr rfl | assumption)) 
      (@pss_cons _ _ _ _ _ (@ps_if _ _ _ _ _ _ _ _ (@PW.pt _ _ _ (@pw_or _ _ _ _ _ _ _ (@pt_not _ _ _ _ (@pt_val _ _ _ (@pe_callD _ _ _ _ _ _ _ _ _ _ d_law_alike hr rfl (@pa_u _ _ _ _ _ (@pv _ 10 _ _ (by rfl) (by first | exact Or.inl rfl | exact Or.inr (Or.inl rfl) | exact Or.inr (Or.inr rfl)) (by decide) (by decide)) (@pa_u _ _ _ _ _ (@pe_comp _ _ _ _ _ _ _ _ _ _ _ _ _ rfl (compPlain (N := ["_law_script", "_law_tape_here", "_law_lane_here", "_law_sheets", "_law_stand", "_law_over", "_law_k", "_law_side", "_law_ball_here", "_law_due", "_law_totals", "_law_best"]) rfl (by decide +kernel) rfl) (@pi_tup _ _ _ _ (@pe_ix _ _ _ _ _ _ _ ix_tup (@pv _ 4 _ _ (by rfl) (by first | exact Or.inl rfl | exact Or.inr (Or.inl rfl) | exact Or.inr (Or.inr rfl)) (by decide) (by decide)) (@pe_int _ _ _ _) (fun _ _ => rfl))) (fun _ _ _ _ => (@pts_nil _)) (fun _ _ _ _ => (@pe_ix _ _ _ _ _ _ _ (ixK_tup (K := K) rfl) (@pv _ 0 _ _ (by rfl) (by first | exact Or.inl rfl | exact Or.inr (Or.inl rfl) | exact Or.inr (Or.inr rfl)) (by decide) (by decide)) (@pe_int _ _ _ _) (fun _ _ => rfl))) (by intro _; rfl)) (@pa_nil _) (by rfl)) (by rfl)) (by rfl) (by decide)) (by intro _; rfl))) (@pw_or1 _ _ _ _ (@pt_cmpR _ _ _ _ _ _ _ _ op_gt (@pe_callBu _ _ _ _ _ _ _ _ _ (call_maxL rfl) rfl m_max bt_max (@pa_u _ _ _ _ _ (@pv _ 10 _ _ (by rfl) (by first | exact Or.inl rfl | exact Or.inr (Or.inl rfl) | exact Or.inr (Or.inr rfl)) (by decide) (by decide)) (@pa_nil _) (by rfl)) (by rfl) (by decide) (by decide)) (@pe_op _ _ _ _ _ _ _ _ op_mul (@pe_op _ _ _ _ _ _ _ _ op_mul (@pe_int _ _ _ _) (@pe_ix _ _ _ _ _ _ _ ix_tup (@pv _ 2 _ _ (by rfl) (by first | exact Or.inl rfl | exact Or.inr (Or.inl rfl) | exact Or.inr (Or.inr rfl)) (by decide) (by decide)) (@pe_int _ _ _ _) (fun _ _ => rfl))) (@pe_ix _ _ _ _ _ _ _ ix_tup (@pv _ 2 _ _ (by rfl) (by first | exact Or.inl rfl | exact Or.inr (Or.inl rfl) | exact Or.inr (Or.inr rfl)) (by decide) (by decide)) (@pe_int _ _ _ _) (fun _ _ => rfl))) (nomark _))))) (@pss_one _ _ _ (@ps_ret _ _ _ _ (@pe_bl _ _ _ _))) (@pss_nil _)) 
      (@pss_cons _ _ _ _ _ (@ps_set _ _ 11 _ _ _ _ sc_law.nd rfl (Or.inl rfl) (@pe_callTu _ _ _ _ _ _ _ _ _ call_tuple_of rfl m_tuple bt_tuple (@pa_u _ _ _ _ _ (@pe_comp _ _ _ _ _ _ _ _ _ _ _ _ _ rfl (compCapB (N := ["_law_script", "_law_tape_here", "_law_lane_here", "_law_sheets", "_law_stand", "_law_over", "_law_k", "_law_side", "_law_ball_here", "_law_due", "_law_totals", "_law_best"]) (N' := ["_law_script", "_law_tape_here", "_law_lane_here", "_law_sheets", "_law_stand", "_law_over", "?", "_law_side", "_law_ball_here", "_law_due", "_law_totals", "_law_best"]) (fr := ["_law_totals"]) (osc := defScope s_law) rfl rfl (by decide +kernel) rfl rfl (by intro p hp; simp only [List.mem_cons, List.not_mem_nil, or_false] at hp; rcases hp with rfl <;> rfl)) (@pi_range1 _ _ _ _ _ _ rfl m_range (@pa_u _ _ _ _ _ (@pe_ix _ _ _ _ _ _ _ ix_tup (@pv _ 2 _ _ (by rfl) (by first | exact Or.inl rfl | exact Or.inr (Or.inl rfl) | exact Or.inr (Or.inr rfl)) (by decide) (by decide)) (@pe_int _ _ _ _) (fun _ _ => rfl)) (@pa_nil _) (by rfl)) (by rfl)) (fun _ _ _ _ => (@pts_one _ _ _ (@pt_cmpR _ _ _ _ _ _ _ _ op_eq (@pe_ix _ _ _ _ _ _ _ (ixK_list (K := K) rfl) (@pv _ 11 _ _ (by rfl) (by first | exact Or.inl rfl | exact Or.inr (Or.inl rfl) | exact Or.inr (Or.inr rfl)) (by decide) (by decide)) (@pv _ 0 _ _ (by rfl) (by first | exact Or.inl rfl | exact Or.inr (Or.inl rfl) | exact Or.inr (Or.inr rfl)) (by decide) (by decide)) (fun _ _ => rfl)) (@pe_callBu _ _ _ _ _ _ _ _ _ (callK_maxL (K := K) rfl rfl) rfl m_max bt_max (@pa_u _ _ _ _ _ (@pv _ 11 _ _ (by rfl) (by first | exact Or.inl rfl | exact Or.inr (Or.inl rfl) | exact Or.inr (Or.inr rfl)) (by decide) (by decide)) (@pa_nil _) (by rfl)) (by rfl) (by decide) (by decide)) (nomark _)))) (fun _ _ _ _ => (@pv _ 0 _ _ (by rfl) (by first | exact Or.inl rfl | exact Or.inr (Or.inl rfl) | exact Or.inr (Or.inr rfl)) (by decide) (by decide))) (by intro _; rfl)) (@pa_nil _) (by rfl)) (by rfl) (by decide) (by decide)) (by rfl) (by first | exact .inl rfl | exact .inr rfl | assumption)) (@pss_one _ _ _ (@ps_ret _ _ _ _ (@pe_and _ _ _ _ _ _ _ (@pe_callD _ _ _ _ _ _ _ _ _ _ d_law_alike hr rfl (@pa_u _ _ _ _ _ (@pv _ 11 _ _ (by rfl) (by first | exact Or.inl rfl | exact Or.inr (Or.inl rfl) | exact Or.inr (Or.inr rfl)) (by decide) (by decide)) (@pa_u _ _ _ _ _ (@pe_callD _ _ _ _ _ _ _ _ _ _ d_best_of hr rfl (@pa_u _ _ _ _ _ (@pv _ 4 _ _ (by rfl) (by first | exact Or.inl rfl | exact Or.inr (Or.inl rfl) | exact Or.inr (Or.inr rfl)) (by decide) (by decide)) (@pa_nil _) (by rfl)) (by rfl) (by decide)) (@pa_nil _) (by rfl)) (by rfl)) (by rfl) (by decide)) (@pe_one _ _ _ _ _ (@pe_callD _ _ _ _ _ _ _ _ _ _ d_law_alike hr rfl (@pa_u _ _ _ _ _ (@pv _ 11 _ _ (by rfl) (by first | exact Or.inl rfl | exact Or.inr (Or.inl rfl) | exact Or.inr (Or.inr rfl)) (by decide) (by decide)) (@pa_u _ _ _ _ _ (@pe_callD _ _ _ _ _ _ _ _ _ _ d_best_of hr rfl (@pa_u _ _ _ _ _ (@pv _ 4 _ _ (by rfl) (by first | exact Or.inl rfl | exact Or.inr (Or.inl rfl) | exact Or.inr (Or.inr rfl)) (by decide) (by decide)) (@pa_nil _) (by rfl)) (by rfl) (by decide)) (@pa_nil _) (by rfl)) (by rfl)) (by rfl) (by decide)))))))))))))))), rfl, ?_⟩
  walk_at "cl"
  walk_at "st"
  refine ⟨a, rfl, hs, fun t H1 T => ?_⟩
  obtain ⟨sc, T⟩ := T.s
  walk_at "st"
  refine ⟨t, sc, rfl, T, fun la sn p f0 H2 s1 s3 p1 p20 f1 f12 c2 hla => ?_⟩
  obtain ⟨c, rfl⟩ : ∃ c : Nat, f0 = ((c + 1 : Nat) : Int) := ⟨f0.toNat - 1, by omega⟩
  walk_at "st"
  refine comp_lists (m := sn) (fun R h => ?_) (by omega) fun D as H3 S3 hD0 hD hasl hand has => ?_
  · walk_at "rd"
    exact ⟨_, hla, _, rfl, h⟩
  have c3 := c2.same S3
  have hDt : D ≠ t := c2.tape.ne hD0
  have hsh : ShL H1 H3 t D as (List.replicate sn []) := by
    refine ⟨by rw [hasl, List.length_replicate], hand, hD, hDt, c2.free' hD0, fun j a' bs h1 h2 => ?_⟩
    have hb : bs = [] := List.eq_of_mem_replicate (List.mem_of_getElem? h2)
    obtain ⟨b1, b2, b3⟩ := has a' (List.mem_of_getElem? h1)
    subst hb
    exact ⟨b3, c2.tape.ne b1, b2, c2.free' b1⟩
  have hla3 := Same.sqT hla S3
  walk_at "st"
  refine ⟨la, sn, p, _, rfl, hla3, s1, s3, fun sa H4 S4 hst4 => ?_⟩
  have c4 := c3.same S4
  have hla4 := Same.sqT hla3 S4
  have hsh4 := hsh.same S4
  clear hsh has hD hD0 S3 hla3 hla
  have hrep : List.replicate sn ⟨0, 0, p, 0, 0, 0, 0⟩ = (List.replicate sn ([] : List Int)).map (runL p ((c + 1 : Nat) : Int)) := by rw [List.map_replicate]; rfl
  rw [hrep] at hst4
  have hln : LnI p (c + 1) (List.replicate sn []) 0 := by
    refine ⟨fun bs hb => ?_, by rw [List.length_replicate]; omega, 0, fun j bs h => ?_⟩
    · rw [List.eq_of_mem_replicate hb]; exact .nil
    · rw [List.eq_of_mem_replicate (List.mem_of_getElem? h), if_neg (Nat.not_lt_zero _)]
      rfl
  have hov : overB ((c + 1 : Nat) : Int) ((List.replicate sn ([] : List Int)).map (runL p ((c + 1 : Nat) : Int))) = false := by
    unfold overB
    rw [List.all_eq_false]
    refine ⟨runL p ((c + 1 : Nat) : Int) [], List.mem_map_of_mem (List.mem_replicate.mpr ⟨by omega, rfl⟩), ?_⟩
    simp only [decide_eq_true_eq]
    intro z
    have : (0 : Int) = ((c + 1 : Nat) : Int) := z
    omega
  walk_at "st"
  walk_at "st"
  refine ⟨_, hla4, _, rfl, ?_⟩
  walk_at "rd"
  refine ⟨_, hla4, _, rfl, ?_⟩
  refine ⟨2, _, rfl, rfl, cmul_l (by omega) (by omega), ?_⟩
  walk_at "rd"
  obtain ⟨N, hN, hN2⟩ : ∃ N : Nat, (sn : Int) * (2 * ((c + 1 : Nat) : Int) + 1) = (N : Int) ∧ N = sn * (2 * (c + 1) + 1) := ⟨sn * (2 * (c + 1) + 1), by rw [Int.natCast_mul]; congr 1, rfl⟩
  have hNb : N ≤ 3 * 27 := by rw [hN2]; exact Nat.mul_le_mul s3 (by omega)
  refine ⟨cmul_l (by omega) (by omega), ?_⟩
  rw [hN]
  refine ⟨_, rfl, by omega, by omega, rng_of (fun i σ' H' => ∃ (sh : List (List Int)) (side : Nat) (sv : V) (ov : Bool) (x6 x7 x8 x9 : Option V), σ' = [some (.ref a), some (.ref t), some (.ref la), some (.ref D), some sv, some (.bl ov), x6, x7, x8, x9, none, none] ∧ CurS K ns t sc H1 H' ∧ SqT K H' la [.int sn, .int p, .int ((c + 1 : Nat) : Int)] ∧ ShL H1 H' t D as sh ∧ sh.length = sn ∧ LsV K H' (sh.map (runL p ((c + 1 : Nat) : Int))) side sv ∧ LnI p (c + 1) sh side ∧ ov = overB ((c + 1 : Nat) : Int) (sh.map (runL p ((c + 1 : Nat) : Int))) ∧ (ov = false → (sh.map List.length).sum = i)) ⟨_, 0, _, false, _, _, _, _, rfl, c4, hla4, hsh4, List.length_replicate .., hst4, hln, hov.symm, fun _ => by simp⟩ ?_ ?_⟩
  · rintro Pv hP i _ H5 hi ⟨sh, side, sv, ov, x6, x7, x8, x9, rfl, C5, hla5, hsh5, hshl, hst5, hln5, hov5, hsum⟩
    walk_at "rd"
    refine ite2 (fun c1 => ?_) (fun c1 => hP _ _ _ ⟨sh, side, sv, ov, _, _, _, _, rfl, C5, hla5, hsh5, hshl, hst5, hln5, hov5, fun z => absurd z c1⟩)
    subst c1
    have hsd := hln5.sd
    obtain ⟨bs, hbs⟩ : ∃ bs, sh[side]? = some bs := ⟨_, List.getElem?_eq_getElem hsd⟩
    have hdl := lnI_open hln5 hbs hov5.symm
    have hvb := hln5.vl bs (List.mem_of_getElem? hbs)
    have hup := up_run (by omega) hvb
    obtain ⟨ba, ra, us, rfl, hsa, hra, hru⟩ := ls_inv hst5
    have hrow : (sh.map (runL p ((c + 1 : Nat) : Int)))[side]? = some (runL p ((c + 1 : Nat) : Int) bs) := by rw [List.getElem?_map, hbs]; rfl
    obtain ⟨rv, hrv, hrr⟩ := hru.at hrow
    obtain ⟨pa, rfl, hpa⟩ := rw_inv hrr
    obtain ⟨u0, u1⟩ := hup
    obtain ⟨aj, haj⟩ : ∃ aj, as[side]? = some aj := ⟨_, List.getElem?_eq_getElem (by rw [hsh5.len]; exact hsd)⟩
    walk_at "st"
    refine ⟨_, hsa, _, rfl, ?_⟩
    walk_at "st"
    refine ⟨_, hsa, _, rfl, ?_⟩
    walk_at "rd"
    refine ⟨_, hra, _, atI_nat hrv, ?_⟩
    walk_at "rd"
    refine ⟨_, hpa, _, rfl, ?_⟩
    refine ⟨t, sc, _, rfl, C5.tape, u0, by omega, fun kk H6 k0 k1 c6 => ?_⟩
    have C6 := C5.then c6
    have hsh6 := hsh5.ext c6.ext
    obtain ⟨h6, _, _, h60⟩ := hsh6.at' side aj bs haj hbs
    have hsl := len_run hvb hdl
    walk_at "st"
    refine ⟨_, .of hsh6.hd, _, atI_nat (by rw [List.getElem?_map, haj]; rfl), ?_⟩
    refine ⟨.inl ⟨rfl, _, .of h6⟩, aj, _, _, rfl, rfl, h6, small1000 (by rw [List.length_map]; omega), ?_⟩
    have hsh7 := hsh6.add (b := kk) haj hbs
    have C7 : CurS K ns t sc H1 (upd H6 aj (.lst (bs.map V.int ++ [V.int kk]))) := CurS.keep T h60 C6
    have tk7 : Tk K H5 (upd H6 aj (.lst (bs.map V.int ++ [V.int kk]))) := c6.ext.tk.trans (Tk.updL h6)
    have hla7 := tk7 _ _ hla5
    have hst7 := hst5.tk tk7
    generalize upd H6 aj (.lst (bs.map V.int ++ [V.int kk])) = H7 at hsh7 C7 hla7 hst7 ⊢
    clear tk7 hsh6 C6 h6 c6
    walk_at "st"
    refine ⟨la, sn, p, _, _, side, _, _, kk, rfl, hla7, hst7, by rw [List.length_map]; exact hshl, s3, hrow, k0, k1, by omega, fun a8 sv8 H8 S8 h8 hs8 => ?_⟩
    rw [rowsB_set hbs] at h8 hs8
    have hln8 := lnI_step hln5 hbs hdl k0 k1
    have hsum8 := sum_set (b := kk) hbs
    have hshl8 : (sh.set side (bs ++ [kk])).length = sn := by rw [List.length_set]; exact hshl
    have hsh8 := hsh7.same S8
    have C8 := C7.same S8
    have hla8 := Same.sqT hla7 S8
    generalize sideB p ((c + 1 : Nat) : Int) (sh.map (runL p ((c + 1 : Nat) : Int))) side kk = side8 at hln8 hs8
    generalize sh.set side (bs ++ [kk]) = sh8 at hln8 hsum8 hshl8 hsh8 h8 hs8
    refine ⟨a8, _, rfl, h8, rfl, ?_⟩
    have hasn : (as.map V.ref).length = sh8.length := by rw [List.length_map, hsh8.len]
    have getA : ∀ (j : Nat) (x : V), (as.map V.ref)[j]? = some x → ∃ aj bs, x = .ref aj ∧ as[j]? = some aj ∧ sh8[j]? = some bs := fun j x hx => by
      have hjl : j < sh8.length := by rw [← hasn]; exact (List.getElem?_eq_some_iff.mp hx).1
      rw [List.getElem?_map] at hx
      cases e : as[j]? with
      | none => rw [e] at hx; cases hx
      | some aj => rw [e] at hx; cases hx; exact ⟨aj, _, rfl, rfl, List.getElem?_eq_getElem hjl⟩
    walk_at "st"
    refine comp_lG (a := D) (xs := as.map V.ref) (fun _ => true) (fun j y _ => ∃ bs, sh8[j]? = some bs ∧ y = .int (leftI p (c + 1) bs)) (fun R h => ⟨_, rfl, h⟩) (.of hsh8.hd) (by rw [hasn]; omega) (fun _ _ _ _ _ h => h) (fun j x H' hx S' Q' hq => hq _ (.refl _)) (fun j x H' hx _ S' Q' hq => ?_) (fun D9 ys H9 S9 hD9 hD9' hall => ?_)
    · obtain ⟨aj, bsj, rfl, h1, h2⟩ := getA j x hx
      have hb1 := S' _ _ (hsh8.at' j aj bsj h1 h2).1
      have hbl := len_all (hln8.vl bsj (List.mem_of_getElem? h2))
      walk_at "rd"
      exact ⟨la, aj, sn, p, c + 1, bsj, rfl, Same.sqT hla8 S', hb1, by omega, by omega, by omega, hq _ _ (.refl _) ⟨bsj, h2, rfl⟩⟩
    rw [List.filter_eq_self.mpr (by simp), hasn] at hall
    have hys := lefts_of hall
    subst hys
    walk_at "rd"
    refine ⟨D9, sh8.map (leftI p (c + 1)), rfl, .of hD9', by rw [List.length_map]; omega, fun M hM hMx => ?_⟩
    walk_at "rd"
    rw [over_left hln8.vl hM hMx]
    refine ⟨0, .bool _, _, _, rfl, .bl _, .bl _, rfl, by simp [PyData.depth], by decide, fun H10 S10 => ?_⟩
    have S810 := S9.trans S10
    walk_at "rd"
    refine hP _ _ _ ⟨sh8, side8, sv8, _, _, _, _, _, rfl, C8.same S810, Same.sqT hla8 S810, hsh8.same S810, hshl8, hs8.same S810, hln8, rfl, fun _ => ?_⟩
    rw [hsum8, hsum rfl]
  · rintro _ H5 ⟨sh, side, sv, ov, x6, x7, x8, x9, rfl, C5, hla5, hsh5, hshl, hst5, hln5, hov5, hsum⟩
    rw [Int.toNat_natCast] at hsum
    have hovt : ov = true := by
      cases ov with
      | true => rfl
      | false =>
        exfalso
        obtain ⟨bs, hbs⟩ : ∃ bs, sh[side]? = some bs := ⟨_, List.getElem?_eq_getElem hln5.sd⟩
        have hdl := lnI_open hln5 hbs hov5.symm
        have h1 := len_run (hln5.vl bs (List.mem_of_getElem? hbs)) hdl
        have h2 := sum_lens (B := 2 * (c + 1) + 1) (fun b hb => len_all (hln5.vl b hb)) hbs (by omega)
        rw [hsum rfl, hshl, ← hN2] at h2
        omega
    subst hovt
    have hfull := over_full hln5.vl hov5.symm
    have hasn : (as.map V.ref).length = sh.length := by rw [List.length_map, hsh5.len]
    have getA : ∀ (j : Nat) (x : V), (as.map V.ref)[j]? = some x → ∃ aj bs, x = .ref aj ∧ as[j]? = some aj ∧ sh[j]? = some bs := fun j x hx => by
      have hjl : j < sh.length := by rw [← hasn]; exact (List.getElem?_eq_some_iff.mp hx).1
      rw [List.getElem?_map] at hx
      cases e : as[j]? with
      | none => rw [e] at hx; cases hx
      | some aj => rw [e] at hx; cases hx; exact ⟨aj, _, rfl, rfl, List.getElem?_eq_getElem hjl⟩
    obtain ⟨ba, ra, us, rfl, hsa, hra, hru⟩ := ls_inv hst5
    have hul := hru.len
    rw [List.length_map] at hul
    walk_at "st"
    walk_at "st"
    refine comp_lG (K := K) (ta := tVar 3) (tt := tTrue) (a := D) (xs := as.map V.ref) (fun _ => true) (fun j y _ => ∃ bs, sh[j]? = some bs ∧ y = .int ((parse p (c + 1) 0 bs).map fT).sum) (fun R h => ⟨_, rfl, h⟩) (.of hsh5.hd) (by rw [hasn]; omega) (fun _ _ _ _ _ h => h) (fun j x H' hx S' Q' hq => hq _ (.refl _)) (fun j x H' hx _ S' Q' hq => ?_) (fun D6 ys H6 S6 hD6 hD6' hall => ?_)
    · obtain ⟨aj, bsj, rfl, h1, h2⟩ := getA j x hx
      have hb1 := S' _ _ (hsh5.at' j aj bsj h1 h2).1
      have hm := List.mem_of_getElem? h2
      have hbl := len_all (hln5.vl bsj hm)
      walk_at "rd"
      exact ⟨la, aj, sn, p, c + 1, bsj, rfl, Same.sqT hla5 S', hb1, by omega, by omega, by omega, hfull bsj hm, fun H'' S'' => hq _ _ S'' ⟨bsj, h2, rfl⟩⟩
    rw [List.filter_eq_self.mpr (by simp), hasn] at hall
    have hys := lefts_of (g := fun bs => ((parse p (c + 1) 0 bs).map fT).sum) hall
    subst hys
    have htot : sh.map (fun bs => ((parse p (c + 1) 0 bs).map fT).sum) = (sh.map (runL p ((c + 1 : Nat) : Int))).map (·.t) := by
      rw [List.map_map]
      refine List.map_congr_left fun bs hb => ?_
      exact (tot_run (hln5.vl bs hb)).symm
    have htle : ∀ x ∈ (sh.map (runL p ((c + 1 : Nat) : Int))).map (·.t), x ≤ 3 * p * ((c + 1 : Nat) : Int) := fun x hx => by
      rw [← htot] at hx
      obtain ⟨bs, hb, rfl⟩ := List.mem_map.mp hx
      exact tot_le (by omega) (balls_le (by omega) (hln5.vl bs hb))
    rw [htot] at hD6'
    have htl : ((sh.map (runL p ((c + 1 : Nat) : Int))).map (·.t)).length = sn := by rw [List.length_map, List.length_map]; exact hshl
    have hsa6 := Same.sqT hsa S6
    have hra6 := Same.sqT hra S6
    have hru6 := hru.same S6
    have hla6 := Same.sqT hla5 S6
    have hst6 := hst5.same S6
    have hD6t : D6 ≠ t := C5.tape.ne hD6
    have T6 := (C5.same S6).tape
    generalize hrows : sh.map (runL p ((c + 1 : Nat) : Int)) = rows at *
    have hrl : rows.length = sn := by rw [← hrows, List.length_map]; exact hshl
    walk_at "st"
    refine comp_preT ?_
    walk_at "rd"
    refine ⟨_, hsa6, _, rfl, ?_⟩
    refine comp_tG (a := ra) (xs := us) (fun _ => true) (fun j y _ => ∃ r, rows[j]? = some r ∧ y = .int r.t) (fun R h => h) hra6 (by omega) (fun _ _ _ _ _ h => h) (fun j x H' hx S' Q' hq => hq _ (.refl _)) (fun j x H' hx _ S' Q' hq => ?_) (fun D7 ys H7 S7 hD7 hD7' hall7 => ?_)
    · have hjl : j < rows.length := by rw [hru6.len]; exact (List.getElem?_eq_some_iff.mp hx).1
      have hjt : rows[j]? = some rows[j] := List.getElem?_eq_getElem hjl
      obtain ⟨v, hv, hvt⟩ := hru6.at hjt
      rw [hx] at hv
      cases hv
      obtain ⟨a, rfl, hs⟩ := rw_inv hvt
      walk_at "rd"
      exact ⟨_, Same.sqT hs S', _, rfl, hq _ _ (.refl _) ⟨_, hjt, rfl⟩⟩
    rw [List.filter_eq_self.mpr (by simp), ← hru6.len] at hall7
    have hys7 := lefts_of (g := fun r : Lr => r.t) hall7
    subst hys7
    have hD7t : D7 ≠ t := T6.ne hD7
    have hD67 := S7 _ _ hD6'
    generalize hts : rows.map (·.t) = ts at *
    have dt : ∀ {H' : Hp} {q : Addr}, q ≠ t → H' q = some (.lst (ts.map V.int)) → Dt K t H' (.list (ts.map PyData.int)) (.ref q) := fun h1 h2 => ⟨_, _, rfl, h1, .of h2, ints_dtl t ts⟩
    have hfl : fl2 (.list (ts.map PyData.int)) = true := by
      show (decide ((ts.map PyData.int).length ≤ 100000) && fls2 (ts.map PyData.int)) = true
      rw [fl2_ints, decide_eq_true (by rw [List.length_map]; omega)]
      rfl
    walk_at "rd"
    refine ⟨t, _, _, _, rfl, dt hD6t hD67, dt hD7t hD7', hfl, by simp [PyData.depth, depAll_ints], by decide, fun H8 S8 => ?_⟩
    have hD68 := S8 _ _ hD67
    have S68 := S7.trans S8
    have hla8 := Same.sqT hla6 S68
    have hst8 := hst6.same S68
    walk_at "rd"
    refine ⟨D6, ts, rfl, .of hD68, by omega, fun M hM hMx => ?_⟩
    have uniq : ∀ M', M' ∈ ts → (∀ a ∈ ts, a ≤ M') → M' = M := fun M' h1 h2 => by
      have := h2 M hM
      have := hMx M' h1
      omega
    have hMle := htle M hM
    walk_at "rd"
    refine ⟨_, hla8, _, rfl, ?_⟩
    refine ⟨3, p, rfl, rfl, cmul_l (by omega) (by omega), ?_⟩
    walk_at "rd"
    refine ⟨_, hla8, _, rfl, ?_⟩
    refine ⟨3 * p, _, rfl, rfl, cmul_l (by omega) (by omega), ?_⟩
    walk_at "rd"
    rw [if_neg (by omega)]
    walk_at "st"
    refine comp_rG (K := K) (m := sn) (fun i => decide (ts.getD i 0 = M)) (fun i y _ => y = V.int (i : Nat)) (fun R h => ?_) (by omega) (fun _ _ _ _ _ h => h) (fun i H' hi S' Q' hq => ?_) (fun i H' hi _ S' Q' hq => ?_) (fun D9 zs H9 S9 hD9 hD9' hall9 => ?_)
    · walk_at "rd"
      exact ⟨_, hla8, _, rfl, h⟩
    · have hit : i < ts.length := by omega
      walk_at "rd"
      refine ⟨_, .of (S' _ _ hD68), _, atI_nat (map_getD hit), D6, ts, rfl, .of (S' _ _ hD68), by omega, fun M' h1 h2 => ?_⟩
      rw [uniq M' h1 h2]
      walk_at "rd"
      exact hq _ (.refl _)
    · walk_at "rd"
      exact hq _ _ (.refl _) rfl
    have ez := All2.eq (f := fun (i : Nat) => V.int (i : Nat)) hall9
    have ezb : zs = (bestI ts M).map V.int := by rw [ez]; unfold bestI; rw [List.map_map, htl]; rfl
    subst ezb
    have hbl : (bestI ts M).length ≤ 3 := by
      unfold bestI
      rw [List.length_map]
      have := List.length_filter_le (fun i => decide (ts.getD i 0 = M)) (List.range ts.length)
      rw [List.length_range] at this
      omega
    refine ⟨D9, _, rfl, .inl ⟨.of hD9', fun p10 hp10 => ?_⟩⟩
    have s10 := same_new hp10 (.tup ((bestI ts M).map V.int))
    have h10 : SqT K (upd H9 p10 (.tup ((bestI ts M).map V.int))) p10 ((bestI ts M).map V.int) := .of upd_same
    have hst10 := (hst8.same S9).same s10
    generalize upd H9 p10 (.tup ((bestI ts M).map V.int)) = H10 at h10 hst10 ⊢
    have hfl2 : fl2 (.tuple ((bestI ts M).map PyData.int)) = true := by
      show (decide (((bestI ts M).map PyData.int).length ≤ 100000) && fls2 ((bestI ts M).map PyData.int)) = true
      rw [fl2_ints, decide_eq_true (by rw [List.length_map]; omega)]
      rfl
    have dt2 : ∀ {H' : Hp} {q : Addr}, SqT K H' q ((bestI ts M).map V.int) → Dt K 0 H' (.tuple ((bestI ts M).map PyData.int)) (.ref q) := fun h => .tup h (ints_dtl 0 _)
    walk_at "rd"
    refine ⟨rows, side, _, rfl, hst10, by omega, by omega, fun a11 M11 H11 S11 hM1 hM2 h11 => ?_⟩
    rw [hts] at hM1 hM2 h11
    rw [uniq M11 hM1 hM2] at h11
    walk_at "rd"
    refine ⟨0, _, _, _, rfl, dt2 (Same.sqT h10 S11), dt2 h11, hfl2, by simp [PyData.depth, depAll_ints], by decide, fun H12 S12 => ?_⟩
    have S1012 := S11.trans S12
    walk_at "rd"
    refine ⟨rows, side, _, rfl, hst10.same S1012, by omega, by omega, fun a13 M13 H13 S13 hM1 hM2 h13 => ?_⟩
    rw [hts] at hM1 hM2 h13
    rw [uniq M13 hM1 hM2] at h13
    walk_at "rd"
    refine ⟨0, _, _, _, rfl, dt2 (Same.sqT h10 (S1012.trans S13)), dt2 h13, hfl2, by simp [PyData.depth, depAll_ints], by decide, fun H14 S14 => ?_⟩
    exact q _
end
structure Txt (K : PySem.W.Frag) (mg : Str → Option Value) : Prop where
  F_is_whole : Df K mg "is_whole" s_is_whole ["thing", "least", "most"]
  F_lane_begun : Df K mg "lane_begun" s_lane_begun ["lane"]
  F_lane_bowled : Df K mg "lane_bowled" s_lane_bowled ["lane", "stand", "pins"]
  F_best_of : Df K mg "best_of" s_best_of ["stand"]
  F_frame_ball : Df K mg "frame_ball" s_frame_ball ["lane", "row", "pins"]
  F_earned_by : Df K mg "earned_by" s_earned_by ["ball", "up"]
  F_extra_ball : Df K mg "extra_ball" s_extra_ball ["lane", "row", "pins"]
  F_is_over : Df K mg "is_over" s_is_over ["lane", "rows"]
  F_law_tape : Df K mg "_law_tape" s_law_tape ["_law_script"]
  F_law_draw : Df K mg "_law_draw" s_law_draw ["_law_tape_here", "_law_many"]
  F_law_alike : Df K mg "_law_alike" s_law_alike ["_law_due", "_law_found"]
  F_law_lane : Df K mg "_law_lane" s_law_lane ["_law_tape_here"]
  F_law_ball : Df K mg "_law_ball" s_law_ball ["_law_tape_here", "_law_up"]
  F_law_left : Df K mg "_law_left" s_law_left ["_law_lane_here", "_law_balls"]
  F_law_total : Df K mg "_law_total" s_law_total ["_law_lane_here", "_law_balls"]
  m_all : mg "all" = none
  m_bool : mg "bool" = none
  m_enumerate : mg "enumerate" = none
  m_int : mg "int" = none
  m_isinstance : mg "isinstance" = none
  m_len : mg "len" = none
  m_list : mg "list" = none
  m_max : mg "max" = none
  m_range : mg "range" = none
  m_str : mg "str" = none
  m_sum : mg "sum" = none
  m_tuple : mg "tuple" = none
theorem txt_mk {K : PySem.W.Frag} {h : Heap} {mg : Str → Option Value} {fa : Addr} (X : K.In h) (G : h.Ns mainGlobals mg) (hfa : mg "law" = some (.ref fa))
    {f1 : Addr} {od1 an1 : Option Addr} {sl1 : Array (Option Value)} {oc1 kV1 dc1 pm1 cd1 ct1 : Value}
    {f2 : Addr} {od2 an2 : Option Addr} {sl2 : Array (Option Value)} {oc2 kV2 dc2 pm2 cd2 ct2 : Value}
    {f3 : Addr} {od3 an3 : Option Addr} {sl3 : Array (Option Value)} {oc3 kV3 dc3 pm3 cd3 ct3 : Value}
    {f4 : Addr} {od4 an4 : Option Addr} {sl4 : Array (Option Value)} {oc4 kV4 dc4 pm4 cd4 ct4 : Value}
    {f5 : Addr} {od5 an5 : Option Addr} {sl5 : Array (Option Value)} {oc5 kV5 dc5 pm5 cd5 ct5 : Value}
    {f6 : Addr} {od6 an6 : Option Addr} {sl6 : Array (Option Value)} {oc6 kV6 dc6 pm6 cd6 ct6 : Value}
    {f7 : Addr} {od7 an7 : Option Addr} {sl7 : Array (Option Value)} {oc7 kV7 dc7 pm7 cd7 ct7 : Value}
    {f8 : Addr} {od8 an8 : Option Addr} {sl8 : Array (Option Value)} {oc8 kV8 dc8 pm8 cd8 ct8 : Value}
    {f9 : Addr} {od9 an9 : Option Addr} {sl9 : Array (Option Value)} {oc9 kV9 dc9 pm9 cd9 ct9 : Value}
    {f10 : Addr} {od10 an10 : Option Addr} {sl10 : Array (Option Value)} {oc10 kV10 dc10 pm10 cd10 ct10 : Value}
    {f11 : Addr} {od11 an11 : Option Addr} {sl11 : Array (Option Value)} {oc11 kV11 dc11 pm11 cd11 ct11 : Value}
    {f12 : Addr} {od12 an12 : Option Addr} {sl12 : Array (Option Value)} {oc12 kV12 dc12 pm12 cd12 ct12 : Value}
    {f13 : Addr} {od13 an13 : Option Addr} {sl13 : Array (Option Value)} {oc13 kV13 dc13 pm13 cd13 ct13 : Value}
    {f14 : Addr} {od14 an14 : Option Addr} {sl14 : Array (Option Value)} {oc14 kV14 dc14 pm14 cd14 ct14 : Value}
    {f15 : Addr} {od15 an15 : Option Addr} {sl15 : Array (Option Value)} {oc15 kV15 dc15 pm15 cd15 ct15 : Value}
    {f16 : Addr} {od16 an16 : Option Addr} {sl16 : Array (Option Value)} {oc16 kV16 dc16 pm16 cd16 ct16 : Value}
    (a1 : PySem.W.nsIn K mainGlobals "is_whole" = some (some (.ref f1))) (l1 : K.lookup f1 = some ⟨oc1, od1, .func (PySem.W.fnOf "is_whole" "is_whole" (defArgs s_is_whole) (defBody s_is_whole) (defScope s_is_whole) .none kV1 dc1 pm1 an1 cd1 ct1), sl1⟩) (c1 : PySem.W.codeIn K cd1 "is_whole" = true) (k1 : PySem.W.keepIn K (.ref f1) = true)
    (a2 : PySem.W.nsIn K mainGlobals "lane_begun" = some (some (.ref f2))) (l2 : K.lookup f2 = some ⟨oc2, od2, .func (PySem.W.fnOf "lane_begun" "lane_begun" (defArgs s_lane_begun) (defBody s_lane_begun) (defScope s_lane_begun) .none kV2 dc2 pm2 an2 cd2 ct2), sl2⟩) (c2 : PySem.W.codeIn K cd2 "lane_begun" = true) (k2 : PySem.W.keepIn K (.ref f2) = true)
    (a3 : PySem.W.nsIn K mainGlobals "lane_bowled" = some (some (.ref f3))) (l3 : K.lookup f3 = some ⟨oc3, od3, .func (PySem.W.fnOf "lane_bowled" "lane_bowled" (defArgs s_lane_bowled) (defBody s_lane_bowled) (defScope s_lane_bowled) .none kV3 dc3 pm3 an3 cd3 ct3), sl3⟩) (c3 : PySem.W.codeIn K cd3 "lane_bowled" = true) (k3 : PySem.W.keepIn K (.ref f3) = true)
    (a4 : PySem.W.nsIn K mainGlobals "best_of" = some (some (.ref f4))) (l4 : K.lookup f4 = some ⟨oc4, od4, .func (PySem.W.fnOf "best_of" "best_of" (defArgs s_best_of) (defBody s_best_of) (defScope s_best_of) .none kV4 dc4 pm4 an4 cd4 ct4), sl4⟩) (c4 : PySem.W.codeIn K cd4 "best_of" = true) (k4 : PySem.W.keepIn K (.ref f4) = true)
    (a5 : PySem.W.nsIn K mainGlobals "frame_ball" = some (some (.ref f5))) (l5 : K.lookup f5 = some ⟨oc5, od5, .func (PySem.W.fnOf "frame_ball" "frame_ball" (defArgs s_frame_ball) (defBody s_frame_ball) (defScope s_frame_ball) .none kV5 dc5 pm5 an5 cd5 ct5), sl5⟩) (c5 : PySem.W.codeIn K cd5 "frame_ball" = true) (k5 : PySem.W.keepIn K (.ref f5) = true)
    (a6 : PySem.W.nsIn K mainGlobals "earned_by" = some (some (.ref f6))) (l6 : K.lookup f6 = some ⟨oc6, od6, .func (PySem.W.fnOf "earned_by" "earned_by" (defArgs s_earned_by) (defBody s_earned_by) (defScope s_earned_by) .none kV6 dc6 pm6 an6 cd6 ct6), sl6⟩) (c6 : PySem.W.codeIn K cd6 "earned_by" = true) (k6 : PySem.W.keepIn K (.ref f6) = true)
    (a7 : PySem.W.nsIn K mainGlobals "extra_ball" = some (some (.ref f7))) (l7 : K.lookup f7 = some ⟨oc7, od7, .func (PySem.W.fnOf "extra_ball" "extra_ball" (defArgs s_extra_ball) (defBody s_extra_ball) (defScope s_extra_ball) .none kV7 dc7 pm7 an7 cd7 ct7), sl7⟩) (c7 : PySem.W.codeIn K cd7 "extra_ball" = true) (k7 : PySem.W.keepIn K (.ref f7) = true)
    (a8 : PySem.W.nsIn K mainGlobals "is_over" = some (some (.ref f8))) (l8 : K.lookup f8 = some ⟨oc8, od8, .func (PySem.W.fnOf "is_over" "is_over" (defArgs s_is_over) (defBody s_is_over) (defScope s_is_over) .none kV8 dc8 pm8 an8 cd8 ct8), sl8⟩) (c8 : PySem.W.codeIn K cd8 "is_over" = true) (k8 : PySem.W.keepIn K (.ref f8) = true)
    (a9 : PySem.W.nsIn K mainGlobals "_law_tape" = some (some (.ref f9))) (l9 : K.lookup f9 = some ⟨oc9, od9, .func (PySem.W.fnOf "_law_tape" "_law_tape" (defArgs s_law_tape) (defBody s_law_tape) (defScope s_law_tape) .none kV9 dc9 pm9 an9 cd9 ct9), sl9⟩) (c9 : PySem.W.codeIn K cd9 "_law_tape" = true) (k9 : PySem.W.keepIn K (.ref f9) = true)
    (a10 : PySem.W.nsIn K mainGlobals "_law_draw" = some (some (.ref f10))) (l10 : K.lookup f10 = some ⟨oc10, od10, .func (PySem.W.fnOf "_law_draw" "_law_draw" (defArgs s_law_draw) (defBody s_law_draw) (defScope s_law_draw) .none kV10 dc10 pm10 an10 cd10 ct10), sl10⟩) (c10 : PySem.W.codeIn K cd10 "_law_draw" = true) (k10 : PySem.W.keepIn K (.ref f10) = true)
    (a11 : PySem.W.nsIn K mainGlobals "_law_alike" = some (some (.ref f11))) (l11 : K.lookup f11 = some ⟨oc11, od11, .func (PySem.W.fnOf "_law_alike" "_law_alike" (defArgs s_law_alike) (defBody s_law_alike) (defScope s_law_alike) .none kV11 dc11 pm11 an11 cd11 ct11), sl11⟩) (c11 : PySem.W.codeIn K cd11 "_law_alike" = true) (k11 : PySem.W.keepIn K (.ref f11) = true)
    (a12 : PySem.W.nsIn K mainGlobals "_law_lane" = some (some (.ref f12))) (l12 : K.lookup f12 = some ⟨oc12, od12, .func (PySem.W.fnOf "_law_lane" "_law_lane" (defArgs s_law_lane) (defBody s_law_lane) (defScope s_law_lane) .none kV12 dc12 pm12 an12 cd12 ct12), sl12⟩) (c12 : PySem.W.codeIn K cd12 "_law_lane" = true) (k12 : PySem.W.keepIn K (.ref f12) = true)
    (a13 : PySem.W.nsIn K mainGlobals "_law_ball" = some (some (.ref f13))) (l13 : K.lookup f13 = some ⟨oc13, od13, .func (PySem.W.fnOf "_law_ball" "_law_ball" (defArgs s_law_ball) (defBody s_law_ball) (defScope s_law_ball) .none kV13 dc13 pm13 an13 cd13 ct13), sl13⟩) (c13 : PySem.W.codeIn K cd13 "_law_ball" = true) (k13 : PySem.W.keepIn K (.ref f13) = true)
    (a14 : PySem.W.nsIn K mainGlobals "_law_left" = some (some (.ref f14))) (l14 : K.lookup f14 = some ⟨oc14, od14, .func (PySem.W.fnOf "_law_left" "_law_left" (defArgs s_law_left) (defBody s_law_left) (defScope s_law_left) .none kV14 dc14 pm14 an14 cd14 ct14), sl14⟩) (c14 : PySem.W.codeIn K cd14 "_law_left" = true) (k14 : PySem.W.keepIn K (.ref f14) = true)
    (a15 : PySem.W.nsIn K mainGlobals "_law_total" = some (some (.ref f15))) (l15 : K.lookup f15 = some ⟨oc15, od15, .func (PySem.W.fnOf "_law_total" "_law_total" (defArgs s_law_total) (defBody s_law_total) (defScope s_law_total) .none kV15 dc15 pm15 an15 cd15 ct15), sl15⟩) (c15 : PySem.W.codeIn K cd15 "_law_total" = true) (k15 : PySem.W.keepIn K (.ref f15) = true)
    (a16 : PySem.W.nsIn K mainGlobals "law" = some (some (.ref f16))) (l16 : K.lookup f16 = some ⟨oc16, od16, .func (PySem.W.fnOf "law" "law" (defArgs s_law) (defBody s_law) (defScope s_law) .none kV16 dc16 pm16 an16 cd16 ct16), sl16⟩) (c16 : PySem.W.codeIn K cd16 "law" = true) (k16 : PySem.W.keepIn K (.ref f16) = true)
    (z_all : PySem.W.nsIn K mainGlobals "all" = some none)
    (z_bool : PySem.W.nsIn K mainGlobals "bool" = some none)
    (z_enumerate : PySem.W.nsIn K mainGlobals "enumerate" = some none)
    (z_int : PySem.W.nsIn K mainGlobals "int" = some none)
    (z_isinstance : PySem.W.nsIn K mainGlobals "isinstance" = some none)
    (z_len : PySem.W.nsIn K mainGlobals "len" = some none)
    (z_list : PySem.W.nsIn K mainGlobals "list" = some none)
    (z_max : PySem.W.nsIn K mainGlobals "max" = some none)
    (z_range : PySem.W.nsIn K mainGlobals "range" = some none)
    (z_str : PySem.W.nsIn K mainGlobals "str" = some none)
    (z_sum : PySem.W.nsIn K mainGlobals "sum" = some none)
    (z_tuple : PySem.W.nsIn K mainGlobals "tuple" = some none) :
    ∃ (fd : FuncData), (∀ (s : Shared) (v : Value), BindsTo s fd ⟨[v], []⟩ [("_law_script", v)]) ∧ Fun K "law" "law" s_law fa fd ∧ Txt K mg := by
  have e := hfa.symm.trans (PySem.W.mg_of X G a16)
  cases e
  exact ⟨_, fun s v => .of_eq rfl, fun_mk (st := s_law) l16 c16 k16, ⟨⟨⟨f1, _, fun_mk (st := s_is_whole) l1 c1 k1, (fun_mk (st := s_is_whole) l1 c1 k1).binds (ps := ["thing", "least", "most"]) fun _ _ _ _ _ _ us hl => match us, hl with | [_, _, _], _ => rfl, PySem.W.mg_of X G a1⟩⟩,
    ⟨⟨f2, _, fun_mk (st := s_lane_begun) l2 c2 k2, (fun_mk (st := s_lane_begun) l2 c2 k2).binds (ps := ["lane"]) fun _ _ _ _ _ _ us hl => match us, hl with | [_], _ => rfl, PySem.W.mg_of X G a2⟩⟩,
    ⟨⟨f3, _, fun_mk (st := s_lane_bowled) l3 c3 k3, (fun_mk (st := s_lane_bowled) l3 c3 k3).binds (ps := ["lane", "stand", "pins"]) fun _ _ _ _ _ _ us hl => match us, hl with | [_, _, _], _ => rfl, PySem.W.mg_of X G a3⟩⟩,
    ⟨⟨f4, _, fun_mk (st := s_best_of) l4 c4 k4, (fun_mk (st := s_best_of) l4 c4 k4).binds (ps := ["stand"]) fun _ _ _ _ _ _ us hl => match us, hl with | [_], _ => rfl, PySem.W.mg_of X G a4⟩⟩,
    ⟨⟨f5, _, fun_mk (st := s_frame_ball) l5 c5 k5, (fun_mk (st := s_frame_ball) l5 c5 k5).binds (ps := ["lane", "row", "pins"]) fun _ _ _ _ _ _ us hl => match us, hl with | [_, _, _], _ => rfl, PySem.W.mg_of X G a5⟩⟩,
    ⟨⟨f6, _, fun_mk (st := s_earned_by) l6 c6 k6, (fun_mk (st := s_earned_by) l6 c6 k6).binds (ps := ["ball", "up"]) fun _ _ _ _ _ _ us hl => match us, hl with | [_, _], _ => rfl, PySem.W.mg_of X G a6⟩⟩,
    ⟨⟨f7, _, fun_mk (st := s_extra_ball) l7 c7 k7, (fun_mk (st := s_extra_ball) l7 c7 k7).binds (ps := ["lane", "row", "pins"]) fun _ _ _ _ _ _ us hl => match us, hl with | [_, _, _], _ => rfl, PySem.W.mg_of X G a7⟩⟩,
    ⟨⟨f8, _, fun_mk (st := s_is_over) l8 c8 k8, (fun_mk (st := s_is_over) l8 c8 k8).binds (ps := ["lane", "rows"]) fun _ _ _ _ _ _ us hl => match us, hl with | [_, _], _ => rfl, PySem.W.mg_of X G a8⟩⟩,
    ⟨⟨f9, _, fun_mk (st := s_law_tape) l9 c9 k9, (fun_mk (st := s_law_tape) l9 c9 k9).binds (ps := ["_law_script"]) fun _ _ _ _ _ _ us hl => match us, hl with | [_], _ => rfl, PySem.W.mg_of X G a9⟩⟩,
    ⟨⟨f10, _, fun_mk (st := s_law_draw) l10 c10 k10, (fun_mk (st := s_law_draw) l10 c10 k10).binds (ps := ["_law_tape_here", "_law_many"]) fun _ _ _ _ _ _ us hl => match us, hl with | [_, _], _ => rfl, PySem.W.mg_of X G a10⟩⟩,
    ⟨⟨f11, _, fun_mk (st := s_law_alike) l11 c11 k11, (fun_mk (st := s_law_alike) l11 c11 k11).binds (ps := ["_law_due", "_law_found"]) fun _ _ _ _ _ _ us hl => match us, hl with | [_, _], _ => rfl, PySem.W.mg_of X G a11⟩⟩,
    ⟨⟨f12, _, fun_mk (st := s_law_lane) l12 c12 k12, (fun_mk (st := s_law_lane) l12 c12 k12).binds (ps := ["_law_tape_here"]) fun _ _ _ _ _ _ us hl => match us, hl with | [_], _ => rfl, PySem.W.mg_of X G a12⟩⟩,
    ⟨⟨f13, _, fun_mk (st := s_law_ball) l13 c13 k13, (fun_mk (st := s_law_ball) l13 c13 k13).binds (ps := ["_law_tape_here", "_law_up"]) fun _ _ _ _ _ _ us hl => match us, hl with | [_, _], _ => rfl, PySem.W.mg_of X G a13⟩⟩,
    ⟨⟨f14, _, fun_mk (st := s_law_left) l14 c14 k14, (fun_mk (st := s_law_left) l14 c14 k14).binds (ps := ["_law_lane_here", "_law_balls"]) fun _ _ _ _ _ _ us hl => match us, hl with | [_, _], _ => rfl, PySem.W.mg_of X G a14⟩⟩,
    ⟨⟨f15, _, fun_mk (st := s_law_total) l15 c15 k15, (fun_mk (st := s_law_total) l15 c15 k15).binds (ps := ["_law_lane_here", "_law_balls"]) fun _ _ _ _ _ _ us hl => match us, hl with | [_, _], _ => rfl, PySem.W.mg_of X G a15⟩⟩,
    PySem.W.mg_none_of X G z_all,
    PySem.W.mg_none_of X G z_bool,
    PySem.W.mg_none_of X G z_enumerate,
    PySem.W.mg_none_of X G z_int,
    PySem.W.mg_none_of X G z_isinstance,
    PySem.W.mg_none_of X G z_len,
    PySem.W.mg_none_of X G z_list,
    PySem.W.mg_none_of X G z_max,
    PySem.W.mg_none_of X G z_range,
    PySem.W.mg_none_of X G z_str,
    PySem.W.mg_none_of X G z_sum,
    PySem.W.mg_none_of X G z_tuple⟩⟩
section
variable {P : Program} {w : World} {K : PySem.W.Frag} {mg : Str → Option Value} {base : Heap}
theorem law_all {fa : Addr} {fd : FuncData} (F : Fun K "law" "law" s_law fa fd) (T : Txt K mg) : FnOk P w K mg base CX0 40 fa fd ["_law_script"] (spLaw K) := by
  have ds : ∀ ns, Dn P w K mg base 1 "_law_draw" ["_law_tape_here", "_law_many"] (spDrawS K ns) := fun ns => ok_law_drawS T.F_law_draw T.m_len
  have dln : ∀ ns, Dn P w K mg base 2 "_law_lane" ["_law_tape_here"] (spLane K ns) := fun ns => ok_law_lane T.F_law_lane (ds ns)
  have dba : ∀ ns, Dn P w K mg base 2 "_law_ball" ["_law_tape_here", "_law_up"] (spBall K ns) := fun ns => ok_law_ball T.F_law_ball T.m_max (ds ns)
  have dw : Dn P w K mg base 2 "is_whole" ["thing", "least", "most"] (spWhole K) := ok_is_whole T.F_is_whole T.m_isinstance T.m_int T.m_bool
  have de : Dn P w K mg base 1 "earned_by" ["ball", "up"] spEarned := ok_earned_by T.F_earned_by
  have df : Dn P w K mg base 2 "frame_ball" ["lane", "row", "pins"] (spFrame K) := ok_frame_ball T.F_frame_ball de
  have dx : Dn P w K mg base 2 "extra_ball" ["lane", "row", "pins"] (spExtra K) := ok_extra_ball T.F_extra_ball
  have dov : Dn P w K mg base 2 "is_over" ["lane", "rows"] (spOver K) := ok_is_over T.F_is_over T.m_all
  have dbo : Dn P w K mg base 3 "lane_bowled" ["lane", "stand", "pins"] (spBowl K) := ok_lane_bowled T.F_lane_bowled dw df dx dov
  have dbg : Dn P w K mg base 3 "lane_begun" ["lane"] (spLBegun K) := ok_lane_begun T.F_lane_begun
  have dle : Dn P w K mg base 3 "_law_left" ["_law_lane_here", "_law_balls"] (spLeft K) := ok_law_left T.F_law_left T.m_range T.m_len T.m_int T.m_max
  have dto : Dn P w K mg base 3 "_law_total" ["_law_lane_here", "_law_balls"] (spTotal K) := ok_law_total T.F_law_total T.m_range T.m_sum
  have dbs : Dn P w K mg base 3 "best_of" ["stand"] (spBest K) := ok_best_of T.F_best_of T.m_max T.m_tuple T.m_enumerate
  have dal : Dn P w K mg base 4 "_law_alike" ["_law_due", "_law_found"] (spAl2 K 4) := all_law_al2 (k := 0) (n := 4) T.F_law_alike T.m_isinstance T.m_tuple T.m_list T.m_str T.m_len T.m_range T.m_int T.m_bool T.m_all
  exact ok_law (k := 39) F T.m_range T.m_max T.m_tuple (fun ns => (ok_law_tape T.F_law_tape T.m_len).mono (show 1 ≤ 39 by decide)) (fun ns => (dln ns).mono (by decide)) (fun ns => (dba ns).mono (by decide)) (dbg.mono (by decide)) (dbo.mono (by decide)) (dle.mono (by decide)) (dto.mono (by decide)) (dbs.mono (by decide)) (dal.mono (by decide))
end
theorem walk {l : PySem.W.OpenLaw} {q : Program} {loose : List Str} {XP : (Str → Option Value) → Heap → Prop} {YP : World → Heap → Prop} {d : DefRec} {K : Params → PySem.W.Frag} (hn : l.most = some 63) (hdf : d.params.defaults = [])
    (hY : ∀ (w : World) (h : Heap), YP w h → (K w.params).In h)
    (F : ∀ (w : World) (mg : Str → Option Value) (fa : Addr) (h : Heap), (K w.params).In h → h.Ns mainGlobals mg → mg d.name = some (.ref fa) →
      ∃ (fd : FuncData), (∀ (s : Shared) (v : Value), BindsTo s fd ⟨[v], []⟩ [("_law_script", v)]) ∧ Fun (K w.params) "law" "law" s_law fa fd ∧ Txt (K w.params) mg) :
    PySem.W.WalkO q loose XP YP l.row.toRowW d [] (fun f vs => PySem.call f vs) :=
  L2.walk_of (n := 63) (k := 40) (x := "_law_script") (CX := fun _ => CX0) (sp := fun w => spLaw (K w.params)) hn (by decide) hdf ⟨rfl, by decide, by decide, rfl⟩ hY (fun w mg fa h X G e => by
    obtain ⟨fd, b, Fl, T⟩ := F w mg fa h X G e
    exact ⟨fd, b, fun base _ _ => law_all Fl T⟩) (fun _ _ a ns hl _ hS => ⟨a, ns, rfl, hS, hl, fun _ => rfl⟩) fun _ _ _ _ _ z => z
end My
open PySem PySem.W PyProof.Rows
set_option maxRecDepth 100000 in
set_option maxHeartbeats 0 in
theorem PySem.Challenge.cw_tally_k46_whole_a_lane_bowled_out_holds : PySem.Challenge.rw_tally_k46_whole_a_lane_bowled_out.Holds := by
  w_on; o_law; k_head; (case hw => w_witness2)
  k_fill
  refine My.walk (l := PySem.Challenge.rw_tally_k46_whole_a_lane_bowled_out) rfl rfl (fun w h Y => PySem.W.kIn_of Y) ?F
  case F =>
    intro w mg fa h KX G hmg
    refine' My.txt_mk KX G hmg ?a1 ?l1 ?c1 ?k1 ?a2 ?l2 ?c2 ?k2 ?a3 ?l3 ?c3 ?k3 ?a4 ?l4 ?c4 ?k4 ?a5 ?l5 ?c5 ?k5 ?a6 ?l6 ?c6 ?k6 ?a7 ?l7 ?c7 ?k7 ?a8 ?l8 ?c8 ?k8 ?a9 ?l9 ?c9 ?k9 ?a10 ?l10 ?c10 ?k10 ?a11 ?l11 ?c11 ?k11 ?a12 ?l12 ?c12 ?k12 ?a13 ?l13 ?c13 ?k13 ?a14 ?l14 ?c14 ?k14 ?a15 ?l15 ?c15 ?k15 ?a16 ?l16 ?c16 ?k16 ?z_all ?z_bool ?z_enumerate ?z_int ?z_isinstance ?z_len ?z_list ?z_max ?z_range ?z_str ?z_sum ?z_tuple
    (case a1 => k_is)
    (case l1 => k_is)
    (case c1 => k_is)
    (case k1 => k_is)
    (case a2 => k_is)
    (case l2 => k_is)
    (case c2 => k_is)
    (case k2 => k_is)
    (case a3 => k_is)
    (case l3 => k_is)
    (case c3 => k_is)
    (case k3 => k_is)
    (case a4 => k_is)
    (case l4 => k_is)
    (case c4 => k_is)
    (case k4 => k_is)
    (case a5 => k_is)
    (case l5 => k_is)
    (case c5 => k_is)
    (case k5 => k_is)
    (case a6 => k_is)
    (case l6 => k_is)
    (case c6 => k_is)
    (case k6 => k_is)
    (case a7 => k_is)
    (case l7 => k_is)
    (case c7 => k_is)
    (case k7 => k_is)
    (case a8 => k_is)
    (case l8 => k_is)
    (case c8 => k_is)
    (case k8 => k_is)
    (case a9 => k_is)
    (case l9 => k_is)
    (case c9 => k_is)
    (case k9 => k_is)
    (case a10 => k_is)
    (case l10 => k_is)
    (case c10 => k_is)
    (case k10 => k_is)
    (case a11 => k_is)
    (case l11 => k_is)
    (case c11 => k_is)
    (case k11 => k_is)
    (case a12 => k_is)
    (case l12 => k_is)
    (case c12 => k_is)
    (case k12 => k_is)
    (case a13 => k_is)
    (case l13 => k_is)
    (case c13 => k_is)
    (case k13 => k_is)
    (case a14 => k_is)
    (case l14 => k_is)
    (case c14 => k_is)
    (case k14 => k_is)
    (case a15 => k_is)
    (case l15 => k_is)
    (case c15 => k_is)
    (case k15 => k_is)
    (case a16 => k_is)
    (case l16 => k_is)
    (case c16 => k_is)
    (case k16 => k_is)
    (case z_all => k_is)
    (case z_bool => k_is)
    (case z_enumerate => k_is)
    (case z_int => k_is)
    (case z_isinstance => k_is)
    (case z_len => k_is)
    (case z_list => k_is)
    (case z_max => k_is)
    (case z_range => k_is)
    (case z_str => k_is)
    (case z_sum => k_is)
    (case z_tuple => k_is)