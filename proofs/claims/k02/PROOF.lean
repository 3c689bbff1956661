import PyProof.Rows.All
import Wide.All
import OpenK.AllK
import Wide.FinOn
import Lean
import PyProof.EqAt
import PyProof.EqKinds
import PyProof.TupleCall
import PyProof.Rows.EqDataRows
import PyProof.Rows.InDataRows
import PyProof.StrLawsRepr
import PyProof.AutoListH
import PySem.Challenge.RW_hatchwaits_k02_fractions_reckoned
set_option Elab.async false
set_option linter.all false
set_option maxRecDepth 100000
namespace L2
open PySem PySem.Spec PyProof.Rows
abbrev Key := Sum Int Str
def keyIs : Key → Value → Bool
  | .inl k, v => Value.isInt k v
  | .inr x, v => Value.isStrOf x v
def keyH (w : World) : Key → Int
  | .inl k => hashInt k
  | .inr x => hashStr w x
theorem keyIs_shape : ∀ {k : Key} {v : Value}, keyIs k v = true → (∃ i t, k = Sum.inl i ∧ v = Value.int i t) ∨ (∃ x t, k = Sum.inr x ∧ v = Value.str x t)
  | .inl i, v, h => by
    obtain ⟨t, e⟩ := Value.isInt_shape (k := i) (v := v) h
    exact .inl ⟨i, t, rfl, e⟩
  | .inr x, v, h => by
    obtain ⟨t, e⟩ := Value.isStrOf_shape (x := x) (v := v) h
    exact .inr ⟨x, t, rfl, e⟩
theorem keyIs_int (i : Int) (t : Tok) : keyIs (.inl i) (.int i t) = true := by simp [keyIs, Value.isInt]
theorem keyIs_str (x : Str) (t : Tok) : keyIs (.inr x) (.str x t) = true := by simp [keyIs, Value.isStrOf]
theorem key_ll (a b : Int) : decide ((Sum.inl a : Key) = Sum.inl b) = (a == b) := by
  by_cases e : a = b
  · subst e; simp
  · have h : ¬ (Sum.inl a : Key) = Sum.inl b := fun q => e (Sum.inl.inj q)
    rw [decide_eq_false h]
    exact (beq_eq_false_iff_ne.mpr e).symm
theorem key_rr (a b : Str) : decide ((Sum.inr a : Key) = Sum.inr b) = decide (a = b) := by
  by_cases e : a = b
  · subst e; simp
  · have h : ¬ (Sum.inr a : Key) = Sum.inr b := fun q => e (Sum.inr.inj q)
    rw [decide_eq_false h, decide_eq_false e]
theorem key_lr (a : Int) (b : Str) : decide ((Sum.inl a : Key) = Sum.inr b) = false := decide_eq_false (fun q => nomatch q)
theorem key_rl (a : Str) (b : Int) : decide ((Sum.inr a : Key) = Sum.inl b) = false := decide_eq_false (fun q => nomatch q)
def mixKind (prog : Program) (w : World) : PySem.KeyKind prog w Key where
  is := keyIs
  hash := keyH w
  inj := fun v a b ha hb => by
    rcases keyIs_shape ha with ⟨i, t, rfl, rfl⟩ | ⟨x, t, rfl, rfl⟩
    · rcases keyIs_shape hb with ⟨j, u, rfl, e⟩ | ⟨y, u, rfl, e⟩
      · injection e with e1 _; rw [e1]
      · exact nomatch e
    · rcases keyIs_shape hb with ⟨j, u, rfl, e⟩ | ⟨y, u, rfl, e⟩
      · exact nomatch e
      · injection e with e1 _; rw [e1]
  byValue := fun k v h => by
    rcases keyIs_shape h with ⟨i, t, rfl, rfl⟩ | ⟨x, t, rfl, rfl⟩ <;> rfl
  pyHash := fun hv h => by
    rcases keyIs_shape hv with ⟨i, t, rfl, rfl⟩ | ⟨x, t, rfl, rfl⟩
    · exact wpAny_pyHash_int h
    · exact wpAny_pyHash_str h
  eqBool := fun hu hv h => by
    rcases keyIs_shape hu with ⟨i, t, rfl, rfl⟩ | ⟨x, t, rfl, rfl⟩
    · rcases keyIs_shape hv with ⟨j, u, rfl, rfl⟩ | ⟨y, u, rfl, rfl⟩
      · rw [key_ll] at h; exact wpAny_eqBool_int h
      · rw [key_lr] at h; exact SeqAt.EqAt.int_str i t y u _ _ _ _ h
    · rcases keyIs_shape hv with ⟨j, u, rfl, rfl⟩ | ⟨y, u, rfl, rfl⟩
      · rw [key_rl] at h; exact SeqAt.EqAt.str_int x t j u _ _ _ _ h
      · rw [key_rr] at h; exact wpAny_eqBool_str h
  «strs» := fun k x t v h => by
    rcases keyIs_shape h with ⟨i, u, rfl, e⟩ | ⟨y, u, rfl, e⟩
    · exact nomatch e
    · injection e with e1 _
      subst e1
      cases v <;> rfl
theorem mixKind_int (prog : Program) (w : World) (i : Int) (t : Tok) : (mixKind prog w).is (.inl i) (.int i t) = true := keyIs_int i t
theorem mixKind_str (prog : Program) (w : World) (x : Str) (t : Tok) : (mixKind prog w).is (.inr x) (.str x t) = true := keyIs_str x t
end L2
namespace L2
open PySem PySem.Spec PyProof.Rows
inductive V where
  | non | bl (b : Bool) | int (i : Int) | str (x : Str) | byt (b : Array UInt8) | flt (b : UInt64) | ref (a : Addr) | ty (n : String)
  deriving DecidableEq
def RelV : V → Value → Prop
  | .non, u => u = Value.none
  | .bl b, u => u = Value.bool b
  | .int i, u => ∃ t, u = Value.int i t
  | .str x, u => ∃ t, u = Value.str x t
  | .byt b, u => ∃ t, u = Value.bytes b t
  | .flt b, u => ∃ t, u = Value.float b t
  | .ref a, u => u = Value.ref a
  | .ty n, u => u = Value.type n
abbrev Vals : List V → List Value → Prop := Paired RelV
theorem Vals.length {xs : List V} {us : List Value} (r : Vals xs us) : xs.length = us.length := Paired.length r
theorem Vals.get : ∀ {xs : List V} {us : List Value} {i : Nat} {x : V}, Vals xs us → xs[i]? = some x → ∃ u, us[i]? = some u ∧ RelV x u
  | _, _, _, _, .nil, e => by simp at e
  | _, _, 0, _, .cons r _, e => by simp at e; subst e; exact ⟨_, rfl, r⟩
  | _, _, i + 1, x, .cons _ t, e => by
    obtain ⟨u, h1, h2⟩ := Vals.get (i := i) (x := x) t (by simpa using e)
    exact ⟨u, by simpa using h1, h2⟩
theorem Vals.append : ∀ {xs ys : List V} {us ws : List Value}, Vals xs us → Vals ys ws → Vals (xs ++ ys) (us ++ ws)
  | _, _, _, _, .nil, s => s
  | _, _, _, _, .cons r t, s => .cons r (Vals.append t s)
theorem Vals.take : ∀ {xs : List V} {us : List Value} (n : Nat), Vals xs us → Vals (xs.take n) (us.take n)
  | _, _, 0, _ => .nil
  | _, _, _ + 1, .nil => .nil
  | _, _, n + 1, .cons r t => .cons r (Vals.take n t)
theorem Vals.drop : ∀ {xs : List V} {us : List Value} (n : Nat), Vals xs us → Vals (xs.drop n) (us.drop n)
  | _, _, 0, r => r
  | _, _, _ + 1, .nil => .nil
  | _, _, n + 1, .cons _ t => Vals.drop n t
def RelO : Option V → Option Value → Prop
  | some v, some u => RelV v u
  | none, none => True
  | _, _ => False
def KV {κ : Type} : List (κ × V) → List (κ × Value) → Prop := Paired fun (p : κ × V) (q : κ × Value) => p.1 = q.1 ∧ RelV p.2 q.2
def kV : Key → V
  | .inl i => .int i
  | .inr x => .str x
inductive HO where
  /-- a list -/
  | lst (xs : List V)
  /-- a tuple (never changes) -/
  | tup (xs : List V)
  /-- a dict whose keys are ints and texts; one whose keys are tuples of ints and texts (the empty one is both) -/
  | dK (kvs : List (Key × V)) | dT (kvs : List (List Key × V))
  /-- a set of ints: its members, its size -/
  | set (S : Int → Bool) (n : Nat)
  /-- an instance of the class at C, its dict at dx, its attributes -/
  | ins (C dx : Addr) (fs : List (Str × V))
  /-- the dict of the instance at x -/
  | own (x : Addr)
  /-- the dict of an exception -/
  | xd (fs : List (Str × V))
  /-- a bound method, f of x -/
  | met (f x : Addr)
  /-- a range object lo, lo + 1, .. below hi -/
  | rng (lo hi : Int)
  /-- a thing that is known to the object (the script; a dict while a loop walks it): read, never written while it is so -/
  | frz (o : Obj) (u : HO)
  /-- a code object's table -/
  | tbl (ps : Array Value)
  /-- any other thing, by what is true of its one object (a def of one's own: SetO a S n := HO.ext fun h => ..) -/
  | ext (φ : Heap → Prop)
abbrev Hp := Addr → Option HO
def upd (H : Hp) (a : Addr) (o : HO) : Hp := fun b => if b = a then some o else H b
theorem upd_same {H : Hp} {a : Addr} {o : HO} : upd H a o a = some o := by unfold upd; rw [if_pos rfl]
theorem upd_ne {H : Hp} {a b : Addr} {o : HO} (h : b ≠ a) : upd H a o b = H b := by unfold upd; rw [if_neg h]
theorem ne_of {H : Hp} {a b : Addr} {o u : HO} (h : H a = some o) (h' : H b = some u) (d : o ≠ u) : a ≠ b := by
  intro e; subst e; rw [h] at h'; exact d (Option.some.inj h')
theorem ne_of_none {H : Hp} {a b : Addr} {o : HO} (h : H a = some o) (h' : H b = none) : a ≠ b := by
  intro e; subst e; rw [h] at h'; cases h'
section
variable (P : Program) (w : World)
def ObjOk (H : Hp) (h : Heap) (a : Addr) : HO → Prop
  | .lst xs => xs.length ≤ sizeLine ∧ ∃ (its : List Value) (n : Nat), Vals xs its ∧ h.get? a = some { cls := .type "list", data := .seq its.toArray n }
  | .tup xs => xs.length ≤ sizeLine ∧ ∃ its : List Value, Vals xs its ∧ IsTup h a its.toArray
  | .dK kvs => kvs.length ≤ sizeLine ∧ (a == sysModules) = false ∧ ∃ vs, KV kvs vs ∧ h.DictOf (mixKind P w) a vs
  | .dT kvs => kvs.length ≤ sizeLine ∧ (a == sysModules) = false ∧ ∃ xs : List (List Key × Addr × Value),
      Paired (fun (p : List Key × V) (q : List Key × Addr × Value) => p.1 = q.1 ∧ H q.2.1 = some (.tup (p.1.map kV)) ∧ RelV p.2 q.2.2) kvs xs ∧
      ∃ o es ep, h.get? a = some o ∧ o.ExactDict ∧ o.data = .dict es ep ∧ es.toList = xs.map (entryOfKey (tupleKind (mixKind P w))) ∧ (xs.map (·.1)).Nodup
  | .set S n => h.SetOf (intKind P w) a S n
  | .ins C dx fs => H dx = some (.own a) ∧ fs.length ≤ 1000 ∧ dx ≠ a ∧ h.get? a = some (PySem.W.instObj C dx) ∧
      ∃ mA, h.Ns1 dx mA ∧ (∀ f, RelO (fs.lookup f) (mA f)) ∧ PySem.Within mA (fs.map (·.1))
  | .own _ => ∃ o, h.get? a = some o
  | .xd fs => ∃ mA, h.Ns1 a mA ∧ ∀ f, RelO (fs.lookup f) (mA f)
  | .rng lo hi => ∃ t u v, h.get? a = some { cls := .type "range", data := .fields #[.int lo t, .int hi u, .int 1 v] }
  | .frz o u => h.get? a = some o ∧ ObjOk H h a u
  | .tbl ps => h.get? a = some { cls := .none, data := .fields ps }
  | .met f x => h.get? a = some (PySem.W.methodObj (.ref f) (.ref x))
  | .ext φ => φ h ∧ (∃ o, h.get? a = some o) ∧ ∀ h1 h2 : Heap, φ h1 → (∀ o, h1.get? a = some o → h2.get? a = some o) → φ h2
def HOk (H : Hp) (h : Heap) : Prop := ∀ a o, H a = some o → ObjOk P w H h a o
end
section
variable {P : Program} {w : World} {H H' : Hp} {h h' : Heap} {a : Addr} {o : HO}
theorem ObjOk.lt (x : ObjOk P w H h a o) : a < h.objs.size := by
  cases o with
  | lst xs => obtain ⟨_, _, _, _, e⟩ := x; exact Heap.lt_size e
  | tup xs => obtain ⟨_, _, _, p⟩ := x; exact p.lt
  | dK kvs => obtain ⟨_, _, _, _, o, _, _, e, _⟩ := x; exact Heap.lt_size e
  | dT kvs => obtain ⟨_, _, _, _, o, _, _, e, _⟩ := x; exact Heap.lt_size e
  | set S n => obtain ⟨o, _, _, _, e, _⟩ := x; exact Heap.lt_size e
  | ins C dx fs => obtain ⟨_, _, _, e, _⟩ := x; exact Heap.lt_size e
  | own y => obtain ⟨_, e⟩ := x; exact Heap.lt_size e
  | xd fs => obtain ⟨_, ⟨_, _, _, e, _⟩, _⟩ := x; exact Heap.lt_size e
  | rng lo hi => obtain ⟨_, _, _, e⟩ := x; exact Heap.lt_size e
  | frz ob u => obtain ⟨e, _⟩ := x; exact Heap.lt_size e
  | tbl ps => exact Heap.lt_size (show h.get? a = some _ from x)
  | met f y => exact Heap.lt_size (show h.get? a = some _ from x)
  | ext φ => obtain ⟨_, ⟨_, e⟩, _⟩ := x; exact Heap.lt_size e
theorem Paired.mapP {α β : Type} {F G : α → β → Prop} : ∀ {l₁ : List α} {l₂ : List β}, Paired F l₁ l₂ → (∀ a b, F a b → G a b) → Paired G l₁ l₂
  | _, _, .nil, _ => .nil
  | _, _, .cons r t, f => .cons (f _ _ r) (Paired.mapP t f)
theorem ObjOk.stay (x : ObjOk P w H h a o) (k : ∀ b u, (b = a ∨ H b = some (.own a)) → h.get? b = some u → h'.get? b = some u)
    (ho : ∀ b, H b = some (.own a) → H' b = some (.own a)) (ht : ∀ b xs, H b = some (.tup xs) → H' b = some (.tup xs)) : ObjOk P w H' h' a o := by
  induction o with
  | lst xs => obtain ⟨z, its, n, r, e⟩ := x; exact ⟨z, its, n, r, k _ _ (.inl rfl) e⟩
  | tup xs => obtain ⟨z, its, r, ob, e, c⟩ := x; exact ⟨z, its, r, ob, k _ _ (.inl rfl) e, c⟩
  | dK kvs => obtain ⟨z, y, vs, r, ob, es, ep, e, c⟩ := x; exact ⟨z, y, vs, r, ob, es, ep, k _ _ (.inl rfl) e, c⟩
  | dT kvs =>
    obtain ⟨z, y, xs, r, ob, es, ep, e, c⟩ := x
    exact ⟨z, y, xs, Paired.mapP r fun p q z => ⟨z.1, ht _ _ z.2.1, z.2.2⟩, ob, es, ep, k _ _ (.inl rfl) e, c⟩
  | set S n => obtain ⟨ob, es, ep, t, e, c⟩ := x; exact ⟨ob, es, ep, t, k _ _ (.inl rfl) e, c⟩
  | ins C dx fs =>
    obtain ⟨d, z, ne, e, mA, ⟨od, es, ep, e2, c⟩, r⟩ := x
    exact ⟨ho _ d, z, ne, k _ _ (.inl rfl) e, mA, ⟨od, es, ep, k _ _ (.inr d) e2, c⟩, r⟩
  | own y => obtain ⟨ob, e⟩ := x; exact ⟨ob, k _ _ (.inl rfl) e⟩
  | xd fs => obtain ⟨mA, ⟨od, es, ep, e, c⟩, r⟩ := x; exact ⟨mA, ⟨od, es, ep, k _ _ (.inl rfl) e, c⟩, r⟩
  | rng lo hi => obtain ⟨t, u, v, e⟩ := x; exact ⟨t, u, v, k _ _ (.inl rfl) e⟩
  | frz ob u ih => obtain ⟨e, q⟩ := x; exact ⟨k _ _ (.inl rfl) e, ih q⟩
  | tbl ps =>
    have e : h.get? a = some { cls := .none, data := .fields ps } := x
    show h'.get? a = some { cls := .none, data := .fields ps }
    exact k a _ (.inl rfl) e
  | met f y =>
    have e : h.get? a = some (PySem.W.methodObj (.ref f) (.ref y)) := x
    show h'.get? a = some (PySem.W.methodObj (.ref f) (.ref y))
    exact k a _ (.inl rfl) e
  | ext φ => obtain ⟨p, ⟨o, e⟩, st⟩ := x; exact ⟨st _ _ p fun o q => k _ _ (.inl rfl) q, ⟨o, k _ _ (.inl rfl) e⟩, st⟩
theorem HOk.lt (x : HOk P w H h) (e : H a = some o) : a < h.objs.size := (x a o e).lt
theorem HOk.fresh (x : HOk P w H h) (e : h.objs.size ≤ a) : H a = none := by
  cases q : H a with
  | none => rfl
  | some u => exact absurd (Nat.lt_of_lt_of_le (x.lt q) e) (Nat.lt_irrefl _)
theorem HOk.kept (x : HOk P w H h) (k : ∀ b u, h.get? b = some u → h'.get? b = some u) : HOk P w H h' := fun a o e =>
  (x a o e).stay (fun b u _ q => k b u q) (fun _ q => q) fun _ _ q => q
theorem HOk.laid (x : HOk P w H h) (k : ∀ b u, h.get? b = some u → h'.get? b = some u) (hp : h.objs.size ≤ a) (new : ObjOk P w (upd H a o) h' a o) : HOk P w (upd H a o) h' := fun b u e => by
  have hn := x.fresh hp
  by_cases hb : b = a
  · subst hb; rw [upd_same] at e; cases e; exact new
  · rw [upd_ne hb] at e
    exact (x b u e).stay (fun c v _ q => k c v q) (fun c q => by rw [upd_ne (ne_of_none q hn)]; exact q) fun c xs q => by rw [upd_ne (ne_of_none q hn)]; exact q
end
def Rd (H : Hp) (a : Addr) (u : HO) : Prop := H a = some u ∨ ∃ o, H a = some (.frz o u)
theorem Rd.ok {P : Program} {w : World} {H : Hp} {h : Heap} {a : Addr} {u : HO} (r : Rd H a u) (x : HOk P w H h) : ObjOk P w H h a u := by
  rcases r with r | ⟨o, r⟩
  · exact x a u r
  · obtain ⟨_, q⟩ := x a _ r
    exact q
def Mut : Option HO → Prop
  | some (.lst _) => True
  | some (.dK _) => True
  | some (.dT _) => True
  | some (.set _ _) => True
  | some (.ins _ _ _) => True
  | some (.ext _) => True
  | _ => False
section
variable {P : Program} {w : World} {H : Hp} {h h' : Heap} {x e : Addr} {o' : HO}
theorem HOk.write (ok : HOk P w H h) (mu : Mut (H x)) (he : e = x ∨ H e = some (.own x)) (k : ∀ b u, b ≠ e → h.get? b = some u → h'.get? b = some u) (heo : ∃ u, h'.get? e = some u)
    (new : ObjOk P w (upd H x o') h' x o') : HOk P w (upd H x o') h' := fun b u q => by
  have nown : ∀ c y, H c = some (.own y) → c ≠ x := fun c y r z => by subst z; rw [r] at mu; exact mu
  have ntup : ∀ c xs, H c = some (.tup xs) → c ≠ x := fun c xs r z => by subst z; rw [r] at mu; exact mu
  by_cases hb : b = x
  · subst hb; rw [upd_same] at q; cases q; exact new
  · rw [upd_ne hb] at q
    by_cases hbe : b = e
    · have q' : H b = some (.own x) := by
        rcases he with z | z
        · exact absurd (hbe.trans z) hb
        · rw [hbe]; exact z
      rw [q] at q'; cases q'
      obtain ⟨v, hv⟩ := heo
      exact ⟨v, by rw [hbe]; exact hv⟩
    · refine (ok b u q).stay (fun c v hc r => k c v ?_ r) (fun c r => by rw [upd_ne (nown c b r)]; exact r) fun c xs r => by rw [upd_ne (ntup c xs r)]; exact r
      rcases hc with rfl | hc
      · exact hbe
      · rintro rfl
        rcases he with z | z
        · exact nown c b hc z
        · rw [hc] at z; cases z; exact hb rfl
end
structure Un (fs ex : List Addr) (H H' : Hp) (h h' : Heap) : Prop where
  keep : ∀ b o, h.get? b = some o → H b = none → b ∉ fs → b ∉ ex → h'.get? b = some o
  slot : ∀ b o, h.get? b = some o → H b = none → b ∈ fs → b ∉ ex → ∃ sl, h'.get? b = some { o with slots := sl }
  free : ∀ b o, h.get? b = some o → H b = none → b ∉ ex → H' b = none
  there : ∀ b o, h.get? b = some o → b ∉ ex → ∃ o', h'.get? b = some o'
  tups : ∀ b xs, H b = some (.tup xs) → H' b = some (.tup xs)
  frzs : ∀ b o u, H b = some (.frz o u) → H' b = some (.frz o u)
  tbls : ∀ b ps, H b = some (.tbl ps) → ∃ more, H' b = some (.tbl (ps ++ more))
section
variable {fs fs' ex ex' : List Addr} {H H1 H2 : Hp} {h h1 h2 h' : Heap} {a x e : Addr} {o : HO}
theorem Un.any (u : Un fs ex H H1 h h1) {b : Addr} {ob : Obj} (q : h.get? b = some ob) (n : H b = none) (hx : b ∉ ex) : ∃ sl, h1.get? b = some { ob with slots := sl } := by
  by_cases hb : b ∈ fs
  · exact u.slot b ob q n hb hx
  · exact ⟨ob.slots, u.keep b ob q n hb hx⟩
theorem Un.kept (k : ∀ b u, h.get? b = some u → h'.get? b = some u) : Un fs ex H H h h' :=
  ⟨fun b ob q _ _ _ => k b ob q, fun b ob q _ _ _ => ⟨ob.slots, k b ob q⟩, fun _ _ _ n _ => n, fun b ob q _ => ⟨ob, k b ob q⟩, fun _ _ q => q, fun _ _ _ q => q, fun _ ps q => ⟨#[], by rw [q]; simp⟩⟩
theorem Un.refl : Un fs ex H H h h := Un.kept fun _ _ q => q
theorem Un.laid (k : ∀ b u, h.get? b = some u → h'.get? b = some u) (hp : h.objs.size ≤ a) (hn : H a = none) : Un fs ex H (upd H a o) h h' where
  keep := fun b u q _ _ _ => k b u q
  slot := fun b u q _ _ _ => ⟨u.slots, k b u q⟩
  free := fun b u q n _ => by rw [upd_ne (Nat.ne_of_lt (Nat.lt_of_lt_of_le (Heap.lt_size q) hp))]; exact n
  there := fun b u q _ => ⟨u, k b u q⟩
  tups := fun b xs q => by rw [upd_ne (ne_of_none q hn)]; exact q
  frzs := fun b u xs q => by rw [upd_ne (ne_of_none q hn)]; exact q
  tbls := fun b ps q => ⟨#[], by rw [upd_ne (ne_of_none q hn), q]; simp⟩
theorem Un.write (mu : Mut (H x)) (he : e = x ∨ H e = some (.own x)) (k : ∀ b u, b ≠ e → h.get? b = some u → h'.get? b = some u) (heo : ∃ u, h'.get? e = some u) : Un fs ex H (upd H x o) h h' := by
  have hx : ∀ b, H b = none → b ≠ x := fun b n z => by subst z; rw [n] at mu; exact mu
  have hb : ∀ b, H b = none → b ≠ e := fun b n z => by
    subst z
    rcases he with r | r
    · exact hx b n r
    · rw [n] at r; cases r
  have hm : ∀ b u, H b = some u → ¬ Mut (some u) → b ≠ x := fun b u q nm z => by subst z; rw [q] at mu; exact nm mu
  refine ⟨fun b u q n _ _ => k b u (hb b n) q, fun b u q n _ _ => ⟨u.slots, k b u (hb b n) q⟩, fun b u q n _ => by rw [upd_ne (hx b n)]; exact n, fun b u q _ => ?_,
    fun b xs q => by rw [upd_ne (hm b _ q fun z => z)]; exact q, fun b u xs q => by rw [upd_ne (hm b _ q fun z => z)]; exact q, fun b ps q => ⟨#[], by rw [upd_ne (hm b _ q fun z => z), q]; simp⟩⟩
  by_cases hbe : b = e
  · subst hbe; exact heo
  · exact ⟨u, k b u hbe q⟩
end
def trk (h : Heap) (H : Hp) : List Addr := (List.range h.objs.size).filter fun a => (H a).isSome
def hidT (h : Heap) (H : Hp) : Heap := PySem.W.hideAll h (trk h H)
theorem hidT_size (h : Heap) (H : Hp) : (hidT h H).objs.size = h.objs.size := PySem.W.hideAll_size _ _
theorem hidT_get {h : Heap} {H : Hp} {b : Addr} {o : Obj} (e : h.get? b = some o) (n : H b = none) : (hidT h H).get? b = some o :=
  PySem.W.hideAll_get _ e fun hm => by
    have q : (H b).isSome = true := (List.mem_filter.mp hm).2
    rw [n] at q; simp at q
theorem of_hidT {h : Heap} {H : Hp} {b : Addr} {o : Obj} (e : (hidT h H).get? b = some o) : h.get? b = some o ∧ H b = none := by
  have e' : h.get? b = some o := PySem.W.of_hideAll (trk h H) e
  refine ⟨e', ?_⟩
  cases q : H b with
  | none => rfl
  | some x =>
    have hm : b ∈ trk h H := List.mem_filter.mpr ⟨List.mem_range.mpr (Heap.lt_size e'), by simp [q]⟩
    have z : (hidT h H).get? b = none := PySem.W.hideAll_none (trk h H) hm
    rw [z] at e; cases e
end L2
namespace L2
open PySem PySem.Spec PyProof.Rows
structure Mod (K : PySem.W.Frag) (mg : Str → Option Value) (base : Heap) : Prop where
  kin : K.In base
  glob : base.Ns mainGlobals mg
  blt : ∃ mb, base.Ns builtinsNs mb ∧ ∀ x : Str, x ≠ "__name__" → mb x = bootBuiltins x
  nolimit : base.NoLimit
/-- the context: a def's body (or a comprehension's block) running. base: fixed through the whole law; s₀, H₀: the entry; outer: the frames whose slots others may change (a def's callers); stack: all frames that run;
   ex: iterators that were made ahead of the entry and are walked here (a comprehension's); fn: the names whose cells were made at the entry (a def: all; a comprehension's block: its own); calm: not within an except suite; pn: pins that every state bears; xe: what is wanted of an exception that leaves the code -/
structure Cx where
  prog : Program
  w : World
  K : PySem.W.Frag
  mg : Str → Option Value
  base : Heap
  A : Around
  N : List Str
  s₀ : Shared
  H₀ : Hp
  env : Env
  outer : List Env
  stack : List Env
  ex : List Addr
  fn : Str → Bool
  calm : Bool
  pn : List (Addr × Obj)
  xe : Value → Shared → Prop
def frs (l : List Env) : List Addr := l.filterMap (·.frame)
abbrev Cx.fs (X : Cx) : List Addr := frs X.outer
def Vis (sc : Scope) (x : Str) : Prop := sc.names.lookup x = some .local ∨ sc.names.lookup x = some .cell ∨ sc.names.lookup x = some .free
def Loc (sc : Scope) (x : Str) : Prop := sc.names.lookup x = some .local ∨ sc.names.lookup x = some .cell
def Look (env : Env) (h : Heap) (m : Str → Option Value) (x : Str) (u : Value) : Prop :=
  (env.kindOf x = some .local ∧ m x = some u) ∨ ((env.kindOf x = some .cell ∨ env.kindOf x = some .free) ∧ ∃ c, env.cells.lookup x = some c ∧ h.IsCell c (some u))
structure Cx.Ok (X : Cx) : Prop where
  mod : Mod X.K X.mg X.base
  kind : X.env.scope.kind = .function
  glob : X.env.globals = mainGlobals
  blt : X.env.builtins = builtinsNs
  above : X.s₀.heap.objs.size ≤ X.env.locals
  inj : ∀ x y c, X.env.cells.lookup x = some c → X.env.cells.lookup y = some c → x = y
  has : ∀ x, (X.env.kindOf x = some .cell ∨ X.env.kindOf x = some .free) → ∃ c, X.env.cells.lookup x = some c
  cab : ∀ x c, X.fn x = true → X.env.cells.lookup x = some c → X.s₀.heap.objs.size ≤ c
  hd : X.calm = true → X.A.handled = none
  frames : X.A.frames = some X.stack
  stk : X.stack = X.outer ∨ (X.stack = X.env :: X.outer ∧ X.env.frame = some X.env.locals)
  exf : ∀ b ∈ X.ex, b ≠ X.env.locals ∧ ∀ x c, X.env.cells.lookup x = some c → c ≠ b
  bs : ∀ b o, X.base.get? b = some o → X.s₀.heap.get? b = some o ∧ X.H₀ b = none
  bsz : X.base.objs.size ≤ X.s₀.heap.objs.size
  noex : ∀ b o, X.base.get? b = some o → b ∉ X.ex
  exfs : ∀ b ∈ X.ex, b ∉ X.fs
  funs : X.s₀.heap.FunFrames X.base X.outer
  frf : ∀ b ∈ X.fs, X.H₀ b = none
structure Inv (X : Cx) (pins : List (Addr × Obj)) (σ : List (Option V)) (H : Hp) (s : Shared) : Prop where
  ok : X.Ok
  os : s.os = X.s₀.os
  bare : AllBare s.gens
  base : Un X.fs X.ex X.H₀ H X.s₀.heap s.heap
  loc : ∃ m, s.heap.Ns X.env.locals m ∧ ∀ (i : Nat) (x : Str) (v : V), X.N[i]? = some x → σ[i]? = some (some v) → Vis X.env.scope x → ∃ u, RelV v u ∧ Look X.env s.heap m x u
  cell : ∀ x c, X.env.cells.lookup x = some c → ∃ v, s.heap.IsCell c v
  free : H X.env.locals = none
  freeC : ∀ x c, X.env.cells.lookup x = some c → H c = none
  pin : ∀ p ∈ X.pn ++ pins, s.heap.get? p.1 = some p.2 ∧ H p.1 = none ∧ p.1 ≠ X.env.locals ∧ p.1 ∉ X.fs ∧ ∀ v, p.2.data ≠ .cell v
  hok : HOk X.prog X.w H s.heap
  len : σ.length = X.N.length
section
variable {X : Cx} {pins : List (Addr × Obj)} {σ : List (Option V)} {H H' : Hp} {s : Shared} {h' : Heap}
theorem Cx.Ok.nofr (ok : X.Ok) {b : Addr} {o : Obj} (e : X.base.get? b = some o) : b ∉ X.fs := fun hb => by
  have := (ok.funs.mem hb).1
  rw [e] at this; cases this
theorem Inv.bs (I : Inv X pins σ H s) : ∀ b o, X.base.get? b = some o → s.heap.get? b = some o ∧ H b = none := fun b o e =>
  ⟨I.base.keep b o (I.ok.bs b o e).1 (I.ok.bs b o e).2 (I.ok.nofr e) (I.ok.noex b o e), I.base.free b o (I.ok.bs b o e).1 (I.ok.bs b o e).2 (I.ok.noex b o e)⟩
theorem Inv.bk (I : Inv X pins σ H s) : ∀ b o, X.base.get? b = some o → s.heap.get? b = some o := fun b o e => (I.bs b o e).1
theorem Inv.mod (I : Inv X pins σ H s) : Mod X.K X.mg X.base := I.ok.mod
theorem Inv.kIn (I : Inv X pins σ H s) : X.K.In s.heap := I.ok.mod.kin.keeps I.bk
theorem Inv.lt (I : Inv X pins σ H s) : X.env.locals < s.heap.objs.size := let ⟨_, hn, _⟩ := I.loc; hn.lt
theorem Inv.sz (I : Inv X pins σ H s) : X.s₀.heap.objs.size ≤ s.heap.objs.size := Nat.le_trans I.ok.above (Nat.le_of_lt I.lt)
theorem Inv.nofs (I : Inv X pins σ H s) {a : Addr} (h : s.heap.objs.size ≤ a) : a ∉ X.fs := fun hb => by
  obtain ⟨_, o, ho, _⟩ := I.ok.funs.mem hb
  exact absurd (Nat.lt_of_lt_of_le (Heap.lt_size ho) (Nat.le_trans I.sz h)) (Nat.lt_irrefl _)
theorem Inv.cne (I : Inv X pins σ H s) : ∀ x c, X.env.cells.lookup x = some c → c ≠ X.env.locals := fun x c e z => by
  obtain ⟨v, o, ho, hd⟩ := I.cell x c e
  obtain ⟨m, ⟨o', es, ep, ho', hd', _⟩, _⟩ := I.loc
  rw [z, ho'] at ho; cases ho; rw [hd'] at hd; cases hd
theorem Inv.funs (I : Inv X pins σ H s) : s.heap.FunFrames X.base X.outer := by
  have all : ∀ (l : List Env), (∀ b ∈ frs l, b ∈ X.fs) → X.s₀.heap.FunFrames X.base l → s.heap.FunFrames X.base l := by
    intro l
    induction l with
    | nil => intro _ _; trivial
    | cons env r ih =>
      intro hs hl
      obtain ⟨hk, ⟨L, o, hf, hn, ho, hd⟩, hr⟩ := hl
      have hL : L ∈ X.fs := hs L (by unfold frs; rw [List.filterMap_cons, hf]; exact List.mem_cons_self)
      obtain ⟨sl, e⟩ := I.base.slot L o ho (I.ok.frf L hL) hL fun z => I.ok.exfs L z hL
      exact ⟨hk, ⟨L, _, hf, hn, e, hd⟩, ih (fun b hb => hs b (by unfold frs; rw [List.filterMap_cons, hf]; exact List.mem_cons_of_mem _ hb)) hr⟩
  exact all X.outer (fun _ hb => hb) I.ok.funs
theorem Inv.stack (I : Inv X pins σ H s) : s.heap.FunFrames X.base X.stack := by
  rcases I.ok.stk with e | ⟨e, hf⟩
  · rw [e]; exact I.funs
  · rw [e]
    obtain ⟨m, hn, _⟩ := I.loc
    refine .cons (by rw [I.ok.kind]; decide) hf hn ?_ I.funs
    exact Heap.get?_none_of_le (Nat.le_trans I.ok.bsz I.ok.above)
theorem Inv.stkSub (I : Inv X pins σ H s) : ∀ b ∈ frs X.stack, b ∈ X.env.locals :: X.fs := fun b hb => by
  rcases I.ok.stk with e | ⟨e, hf⟩
  · rw [e] at hb; exact List.mem_cons_of_mem _ hb
  · rw [e] at hb
    unfold frs at hb
    rw [List.filterMap_cons, hf] at hb
    exact hb
theorem Inv.stkFree (I : Inv X pins σ H s) : ∀ b ∈ frs X.stack, H b = none := fun b hb => by
  rcases List.mem_cons.mp (I.stkSub b hb) with e | hb
  · rw [e]; exact I.free
  · obtain ⟨_, o, ho, _⟩ := I.ok.funs.mem hb
    exact I.base.free b o ho (I.ok.frf b hb) fun z => I.ok.exfs b z hb
theorem Inv.step {g' : Array GenState} {t' : Nat} {d' : Drawn} {ch : List Addr} (I : Inv X pins σ H s)
    (hch : ∀ b ∈ ch, (b ∈ X.ex ∨ X.s₀.heap.objs.size ≤ b) ∧ b ≠ X.env.locals ∧ (∀ x c, X.env.cells.lookup x = some c → c ≠ b) ∧ ∀ p ∈ X.pn ++ pins, p.1 ≠ b)
    (keep : ∀ b o, b ≠ X.env.locals → b ∉ X.fs → b ∉ ch → s.heap.get? b = some o → H b = none → h'.get? b = some o)
    (slot : ∀ b o, b ≠ X.env.locals → b ∈ X.fs → b ∉ ch → s.heap.get? b = some o → H b = none → ∃ sl, h'.get? b = some { o with slots := sl }) (free : ∀ b o, b ∉ ch → s.heap.get? b = some o → H b = none → H' b = none)
    (there : ∀ b o, b ∉ ch → s.heap.get? b = some o → ∃ o', h'.get? b = some o')
    (tups : ∀ b xs, H b = some (.tup xs) → H' b = some (.tup xs)) (frzs : ∀ b o u, H b = some (.frz o u) → H' b = some (.frz o u)) (tbls : ∀ b ps, H b = some (.tbl ps) → ∃ more, H' b = some (.tbl (ps ++ more)))
    (ns : ∀ m, s.heap.Ns X.env.locals m → h'.Ns X.env.locals m) (hok : HOk X.prog X.w H' h') (hg : AllBare g') :
    Inv X pins σ H' { s with heap := h', gens := g', drawn := d', toks := t' } := by
  have neL : ∀ b o, X.s₀.heap.get? b = some o → b ≠ X.env.locals := fun b o e => Nat.ne_of_lt (Nat.lt_of_lt_of_le (Heap.lt_size e) I.ok.above)
  have neC : ∀ b o, X.s₀.heap.get? b = some o → b ∉ X.ex → b ∉ ch := fun b o e hx hb => by
    rcases (hch b hb).1 with z | z
    · exact hx z
    · exact absurd (Nat.lt_of_lt_of_le (Heap.lt_size e) z) (Nat.lt_irrefl _)
  have cellK : ∀ x c, X.env.cells.lookup x = some c → ∀ v, s.heap.IsCell c v → h'.IsCell c v := fun x c e v ⟨o, ho, hd⟩ => by
    have nch : c ∉ ch := fun z => (hch c z).2.2.1 x c e rfl
    by_cases hc : c ∈ X.fs
    · obtain ⟨sl, q⟩ := slot c o (I.cne x c e) hc nch ho (I.freeC x c e)
      exact ⟨_, q, hd⟩
    · exact ⟨o, keep c o (I.cne x c e) hc nch ho (I.freeC x c e), hd⟩
  refine ⟨I.ok, I.os, hg, ⟨fun b o e n hb hx => ?_, fun b o e n hb hx => ?_, fun b o e n hx => ?_, fun b o e hx => ?_, fun b xs e => tups b xs (I.base.tups b xs e), fun b o xs e => frzs b o xs (I.base.frzs b o xs e), fun b ps e => ?_⟩, ?_, fun x c e => ?_, ?_, fun x c e => ?_, fun p hp => ?_, hok, I.len⟩
  · exact keep b o (neL b o e) hb (neC b o e hx) (I.base.keep b o e n hb hx) (I.base.free b o e n hx)
  · obtain ⟨sl, e1⟩ := I.base.slot b o e n hb hx
    obtain ⟨sl', e2⟩ := slot b _ (neL b o e) hb (neC b o e hx) e1 (I.base.free b o e n hx)
    exact ⟨sl', e2⟩
  · obtain ⟨o', e1⟩ := I.base.there b o e hx
    exact free b o' (neC b o e hx) e1 (I.base.free b o e n hx)
  · obtain ⟨o', e1⟩ := I.base.there b o e hx
    exact there b o' (neC b o e hx) e1
  · obtain ⟨m1, e1⟩ := I.base.tbls b ps e
    obtain ⟨m2, e2⟩ := tbls b _ e1
    exact ⟨m1 ++ m2, by rw [e2, Array.append_assoc]⟩
  · obtain ⟨m, hn, hl⟩ := I.loc
    refine ⟨m, ns m hn, fun i x v e1 e2 e3 => ?_⟩
    obtain ⟨u, r, l⟩ := hl i x v e1 e2 e3
    refine ⟨u, r, ?_⟩
    rcases l with l | ⟨k, c, e, z⟩
    · exact .inl l
    · exact .inr ⟨k, c, e, cellK x c e _ z⟩
  · obtain ⟨v, z⟩ := I.cell x c e
    exact ⟨v, cellK x c e v z⟩
  · obtain ⟨m, ⟨o, _, _, ho, _⟩, _⟩ := I.loc
    exact free _ o (fun z => (hch _ z).2.1 rfl) ho I.free
  · obtain ⟨v, o, ho, hd⟩ := I.cell x c e
    exact free c o (fun z => (hch c z).2.2.1 x c e rfl) ho (I.freeC x c e)
  · obtain ⟨e, n, ne, nf, d⟩ := I.pin p hp
    have nch : p.1 ∉ ch := fun z => (hch p.1 z).2.2.2 p hp rfl
    exact ⟨keep p.1 p.2 ne nf nch e n, free p.1 p.2 nch e n, ne, nf, d⟩
theorem Inv.un {t' : Nat} (I : Inv X pins σ H s) (u : Un X.fs [] H H' s.heap h') (hok : HOk X.prog X.w H' h') : Inv X pins σ H' { s with heap := h', toks := t' } := by
  obtain ⟨m, ⟨o, es, ep, ho, r⟩, _⟩ := id I.loc
  obtain ⟨sl, hL⟩ := u.any ho I.free (by simp)
  exact I.step (g' := s.gens) (d' := s.drawn) (ch := []) (fun _ z => nomatch z) (fun b o _ hb _ e n => u.keep b o e n hb (by simp)) (fun b o _ hb _ e n => u.slot b o e n hb (by simp)) (fun b o _ e n => u.free b o e n (by simp)) (fun b o _ e => u.there b o e (by simp)) u.tups u.frzs u.tbls (fun m' hm => by
    obtain ⟨o', es', ep', ho', r'⟩ := hm
    rw [ho] at ho'; cases ho'
    exact ⟨_, es', ep', hL, r'⟩) hok I.bare
theorem Inv.call {g' : Array GenState} {t' : Nat} {d' : Drawn} {ch : List Addr} (I : Inv X pins σ H s) (u : Un (frs X.stack) ch H H' s.heap h') (hok : HOk X.prog X.w H' h') (hg : AllBare g')
    (hch : ∀ b ∈ ch, (b ∈ X.ex ∨ X.s₀.heap.objs.size ≤ b) ∧ b ≠ X.env.locals ∧ (∀ x c, X.env.cells.lookup x = some c → c ≠ b) ∧ ∀ p ∈ X.pn ++ pins, p.1 ≠ b) :
    Inv X pins σ H' { s with heap := h', gens := g', drawn := d', toks := t' } := by
  obtain ⟨m, ⟨o, es, ep, ho, r⟩, _⟩ := id I.loc
  obtain ⟨sl, hL⟩ := u.any ho I.free fun z => (hch _ z).2.1 rfl
  exact I.step (ch := ch) hch (fun b o hL hb hc e n => u.keep b o e n (fun z => (List.mem_cons.mp (I.stkSub b z)).elim hL hb) hc) (fun b o _ _ hc e n => u.any e n hc) (fun b o hc e n => u.free b o e n hc) (fun b o hc e => u.there b o e hc) u.tups u.frzs u.tbls (fun m' hm => by
    obtain ⟨o', es', ep', ho', r'⟩ := hm
    rw [ho] at ho'; cases ho'
    exact ⟨_, es', ep', hL, r'⟩) hok hg
theorem Inv.turned {t' : Nat} {it : Addr} (I : Inv X pins σ H s) (k : ∀ b o, b ≠ it → s.heap.get? b = some o → h'.get? b = some o) (hn : H it = none) (hL : it ≠ X.env.locals)
    (h1 : it ∈ X.ex ∨ X.s₀.heap.objs.size ≤ it) (h2 : ∀ x c, X.env.cells.lookup x = some c → c ≠ it) (h3 : ∀ p ∈ X.pn ++ pins, p.1 ≠ it) : Inv X pins σ H { s with heap := h', toks := t' } := by
  have nit : ∀ b u, H b = some u → b ≠ it := fun b u e z => by rw [z, hn] at e; cases e
  refine I.step (g' := s.gens) (d' := s.drawn) (ch := [it]) (fun b hb => ?_) (fun b o _ _ hc e _ => k b o (fun z => hc (by simp [z])) e) (fun b o _ _ hc e _ => ⟨o.slots, k b o (fun z => hc (by simp [z])) e⟩) (fun _ _ _ _ n => n)
    (fun b o hc e => ⟨o, k b o (fun z => hc (by simp [z])) e⟩) (fun _ _ e => e) (fun _ _ _ e => e) (fun b ps e => ⟨#[], by rw [e]; simp⟩) (fun m hm => ?_) (fun b u e => ?_) I.bare
  · have e : b = it := by simpa using hb
    subst e
    exact ⟨h1, hL, h2, h3⟩
  · obtain ⟨o, es, ep, ho, r⟩ := hm
    exact ⟨o, es, ep, k _ o (Ne.symm hL) ho, r⟩
  · refine (I.hok b u e).stay (fun c v hc q => k c v ?_ q) (fun _ q => q) fun _ _ q => q
    rcases hc with z | z
    · rw [z]; exact nit b u e
    · exact nit c _ z
theorem Inv.tok (I : Inv X pins σ H s) (t : Nat) : Inv X pins σ H { s with toks := t } := I.un (h' := s.heap) (t' := t) Un.refl I.hok
theorem Inv.kept {t' : Nat} (I : Inv X pins σ H s) (k : ∀ b u, s.heap.get? b = some u → h'.get? b = some u) : Inv X pins σ H { s with heap := h', toks := t' } := I.un (Un.kept k) (I.hok.kept k)
theorem Inv.laid {a : Addr} {o : HO} {t' : Nat} (I : Inv X pins σ H s) (k : ∀ b u, s.heap.get? b = some u → h'.get? b = some u) (hp : s.heap.objs.size ≤ a) (new : ObjOk X.prog X.w (upd H a o) h' a o) :
    Inv X pins σ (upd H a o) { s with heap := h', toks := t' } := I.un (Un.laid k hp (I.hok.fresh hp)) (I.hok.laid k hp new)
theorem Inv.write {x e : Addr} {o : HO} {t' : Nat} (I : Inv X pins σ H s) (mu : Mut (H x)) (he : e = x ∨ H e = some (.own x)) (k : ∀ b u, b ≠ e → s.heap.get? b = some u → h'.get? b = some u) (heo : ∃ u, h'.get? e = some u)
    (new : ObjOk X.prog X.w (upd H x o) h' x o) : Inv X pins σ (upd H x o) { s with heap := h', toks := t' } := I.un (Un.write mu he k heo) (I.hok.write mu he k heo new)
theorem Inv.pins_of {pins' : List (Addr × Obj)} (I : Inv X pins σ H s) (h : ∀ p ∈ pins', s.heap.get? p.1 = some p.2 ∧ H p.1 = none ∧ p.1 ≠ X.env.locals ∧ p.1 ∉ X.fs ∧ ∀ v, p.2.data ≠ .cell v) : Inv X pins' σ H s :=
  ⟨I.ok, I.os, I.bare, I.base, I.loc, I.cell, I.free, I.freeC, fun p hp => (List.mem_append.mp hp).elim (fun z => I.pin p (List.mem_append_left _ z)) (h p), I.hok, I.len⟩
theorem nodup_ix {N : List Str} (hN : N.Nodup) {i j : Nat} {x : Str} (a : N[i]? = some x) (b : N[j]? = some x) : i = j := by
  obtain ⟨h1, e1⟩ := List.getElem?_eq_some_iff.mp a
  obtain ⟨h2, e2⟩ := List.getElem?_eq_some_iff.mp b
  exact (List.getElem_inj hN).mp (e1.trans e2.symm)
theorem store_ok2 {M : Model} {A : Around} {E : Value → Shared → Prop} {i : Nat} {x : Str} {v : V} {u : Value} {Q : Unit → Shared → Prop} (I : Inv X pins σ H s) (hN : X.N.Nodup) (hi : X.N[i]? = some x) (hx : Loc X.env.scope x) (r : RelV v u)
    (h : ∀ s', Inv X pins (σ.set i (some v)) H s' → (∃ a, Heap.SameBut a s.heap s'.heap ∧ (a = X.env.locals ∨ X.env.cells.lookup x = some a)) → Q () s') (hf : X.fn x = true ∨ X.env.scope.names.lookup x = some .local := by first | exact .inl rfl | exact .inr rfl | assumption) : wpAny M A (storeName X.env x u) Q E s := by
  obtain ⟨m, hn, hl⟩ := id I.loc
  have hcls : (X.env.scope.kind == .class || (X.env.scope.kind == .module && X.env.locals != X.env.globals)) = false := by rw [I.ok.kind]; rfl
  have hiσ : i < σ.length := by rw [I.len]; exact (List.getElem?_eq_some_iff.mp hi).1
  have cne := I.cne
  have tracked : ∀ {a : Addr} {h' : Heap}, (∃ o, s.heap.get? a = some o ∧ H a = none) → Heap.SameBut a s.heap h' → HOk X.prog X.w H h' := fun {a h'} ha hs b ob e => by
    obtain ⟨_, _, hfree⟩ := ha
    refine (I.hok b ob e).stay (fun c w' hc q => (hs.2 c ?_).trans q) (fun _ q => q) fun _ _ q => q
    rintro rfl
    rcases hc with rfl | hc
    · rw [hfree] at e; cases e
    · rw [hfree] at hc; cases hc
  rcases hx with hk | hk
  · refine wpAny_storeName_local hk hn (fun h' hn' hs => ?_) hcls
    obtain ⟨oL, _, _, hoL, _⟩ := id hn
    refine h _ ⟨I.ok, I.os, I.bare, ⟨fun b o e n hb hx => ?_, fun b o e n hb hx => ?_, I.base.free, fun b o e hx => ?_, I.base.tups, I.base.frzs, I.base.tbls⟩, ⟨_, hn', fun j y v' e1 e2 e3 => ?_⟩, fun y c e => ?_, I.free, I.freeC, fun p hp => ?_, tracked ⟨oL, hoL, I.free⟩ hs, by simpa using I.len⟩ ⟨_, hs, .inl rfl⟩
    · exact (hs.2 b (Nat.ne_of_lt (Nat.lt_of_lt_of_le (Heap.lt_size e) I.ok.above))).trans (I.base.keep b o e n hb hx)
    · obtain ⟨sl, e1⟩ := I.base.slot b o e n hb hx
      exact ⟨sl, (hs.2 b (Nat.ne_of_lt (Nat.lt_of_lt_of_le (Heap.lt_size e) I.ok.above))).trans e1⟩
    · obtain ⟨o', e1⟩ := I.base.there b o e hx
      exact ⟨o', (hs.2 b (Nat.ne_of_lt (Nat.lt_of_lt_of_le (Heap.lt_size e) I.ok.above))).trans e1⟩
    · by_cases hj : j = i
      · subst hj
        rw [hi] at e1; cases e1
        rw [List.getElem?_set_self hiσ] at e2
        cases e2
        exact ⟨u, r, .inl ⟨hk, by simp⟩⟩
      · rw [List.getElem?_set_ne (Ne.symm hj)] at e2
        obtain ⟨u', r', q⟩ := hl j y v' e1 e2 e3
        refine ⟨u', r', ?_⟩
        rcases q with ⟨k, e⟩ | ⟨k, c, e, z⟩
        · refine .inl ⟨k, ?_⟩
          have : y ≠ x := fun e => hj (nodup_ix hN e1 (e ▸ hi))
          simp [this, e]
        · exact .inr ⟨k, c, e, z.sameBut hs (cne y c e)⟩
    · obtain ⟨w', z⟩ := I.cell y c e
      exact ⟨w', z.sameBut hs (cne y c e)⟩
    · obtain ⟨e, n, ne, nf, d⟩ := I.pin p hp
      exact ⟨(hs.2 p.1 ne).trans e, n, ne, nf, d⟩
  · have hfn : X.fn x = true := by
      rcases hf with z | z
      · exact z
      · rw [z] at hk; cases hk
    obtain ⟨c, hc⟩ := I.ok.has x (.inl hk)
    obtain ⟨w', z⟩ := I.cell x c hc
    refine wpAny_storeName_cell I.ok.kind hk hc z (fun h' hc' hs => ?_)
    obtain ⟨oc, hoc, hocd⟩ := id z
    refine h { s with heap := h' } ⟨I.ok, I.os, I.bare, ⟨fun b o e n hb hx => ?_, fun b o e n hb hx => ?_, I.base.free, fun b o e hx => ?_, I.base.tups, I.base.frzs, I.base.tbls⟩, ⟨m, hn.sameBut hs (Ne.symm (cne x c hc)), fun j y v' e1 e2 e3 => ?_⟩, fun y c' e => ?_, I.free, I.freeC, fun p hp => ?_, tracked ⟨oc, hoc, I.freeC x c hc⟩ hs, by simpa using I.len⟩ ⟨c, hs, .inr hc⟩
    · exact (hs.2 b (Nat.ne_of_lt (Nat.lt_of_lt_of_le (Heap.lt_size e) (I.ok.cab x c hfn hc)))).trans (I.base.keep b o e n hb hx)
    · obtain ⟨sl, e1⟩ := I.base.slot b o e n hb hx
      exact ⟨sl, (hs.2 b (Nat.ne_of_lt (Nat.lt_of_lt_of_le (Heap.lt_size e) (I.ok.cab x c hfn hc)))).trans e1⟩
    · obtain ⟨o', e1⟩ := I.base.there b o e hx
      exact ⟨o', (hs.2 b (Nat.ne_of_lt (Nat.lt_of_lt_of_le (Heap.lt_size e) (I.ok.cab x c hfn hc)))).trans e1⟩
    · by_cases hj : j = i
      · subst hj
        rw [hi] at e1; cases e1
        rw [List.getElem?_set_self hiσ] at e2
        cases e2
        exact ⟨u, r, .inr ⟨.inl hk, c, hc, hc'⟩⟩
      · rw [List.getElem?_set_ne (Ne.symm hj)] at e2
        obtain ⟨u', r', q⟩ := hl j y v' e1 e2 e3
        refine ⟨u', r', ?_⟩
        rcases q with q | ⟨k, c', e, z'⟩
        · exact .inl q
        · refine .inr ⟨k, c', e, z'.sameBut hs ?_⟩
          rintro rfl
          exact hj (nodup_ix hN e1 (I.ok.inj _ _ _ e hc ▸ hi))
    · by_cases hcc : c' = c
      · subst hcc; exact ⟨_, hc'⟩
      · obtain ⟨w2, z2⟩ := I.cell y c' e
        exact ⟨w2, z2.sameBut hs hcc⟩
    · obtain ⟨e, n, ne, nf, d⟩ := I.pin p hp
      refine ⟨(hs.2 p.1 ?_).trans e, n, ne, nf, d⟩
      intro q
      rw [q, hoc] at e
      have q' : oc = p.2 := Option.some.inj e
      exact d w' (by rw [← q']; exact hocd)
theorem store_ok {M : Model} {A : Around} {E : Value → Shared → Prop} {i : Nat} {x : Str} {v : V} {u : Value} {Q : Unit → Shared → Prop} (I : Inv X pins σ H s) (hN : X.N.Nodup) (hi : X.N[i]? = some x) (hx : Loc X.env.scope x) (r : RelV v u)
    (h : ∀ s', Inv X pins (σ.set i (some v)) H s' → Q () s') (hf : X.fn x = true ∨ X.env.scope.names.lookup x = some .local := by first | exact .inl rfl | exact .inr rfl | assumption) : wpAny M A (storeName X.env x u) Q E s :=
  store_ok2 I hN hi hx r (fun s' I' _ => h s' I') hf
theorem Inv.call' {s' : Shared} {ch : List Addr} (I : Inv X pins σ H s) (ho : s'.os = s.os) (u : Un (frs X.stack) ch H H' s.heap s'.heap) (hok : HOk X.prog X.w H' s'.heap) (hg : AllBare s'.gens)
    (hch : ∀ b ∈ ch, (b ∈ X.ex ∨ X.s₀.heap.objs.size ≤ b) ∧ b ≠ X.env.locals ∧ (∀ x c, X.env.cells.lookup x = some c → c ≠ b) ∧ ∀ p ∈ X.pn ++ pins, p.1 ≠ b) : Inv X pins σ H' s' := by
  obtain ⟨h', g', d', t', o'⟩ := s'
  have e : o' = s.os := ho
  subst e
  exact I.call (g' := g') (t' := t') (d' := d') u hok hg hch
end
abbrev XK := Value → Option Addr → Hp → Prop
abbrev St := List (Option V)
abbrev VK := V → Hp → Prop
abbrev TE := St → Hp → VK → Prop
abbrev TT := St → Hp → (Bool → Hp → Prop) → Prop
abbrev TA := St → Hp → (List V → Hp → Prop) → Prop
structure Ends where
  nx : St → Hp → Prop
  rt : VK
  bk : St → Hp → Prop := fun _ _ => False
  ct : St → Hp → Prop := fun _ _ => False
abbrev TS := Ends → St → Hp → Prop
def EP (X : Cx) (pins : List (Addr × Obj)) (σ : St) (Q : VK) (u : Value) (s' : Shared) : Prop := ∃ v H', Inv X pins σ H' s' ∧ RelV v u ∧ Q v H'
def TP (X : Cx) (pins : List (Addr × Obj)) (σ : St) (Q : Bool → Hp → Prop) (b : Bool) (s' : Shared) : Prop := ∃ H', Inv X pins σ H' s' ∧ Q b H'
def AP (X : Cx) (pins : List (Addr × Obj)) (σ : St) (Q : List V → Hp → Prop) (us : List Value) (s' : Shared) : Prop := ∃ vs H', Inv X pins σ H' s' ∧ Vals vs us ∧ Q vs H'
def SP (X : Cx) (pins : List (Addr × Obj)) (D : Ends) (f : Flow) (s' : Shared) : Prop :=
  match f with
  | .next => ∃ σ' H', Inv X pins σ' H' s' ∧ D.nx σ' H'
  | .brk => ∃ σ' H', Inv X pins σ' H' s' ∧ D.bk σ' H'
  | .cont => ∃ σ' H', Inv X pins σ' H' s' ∧ D.ct σ' H'
  | .ret u => ∃ v σ' H', Inv X pins σ' H' s' ∧ RelV v u ∧ D.rt v H'
def PE (X : Cx) (e : Expr) (t : TE) : Prop :=
  ∀ (pins : List (Addr × Obj)) (s : Shared) (σ : St) (H : Hp) (Q : VK), Inv X pins σ H s → t σ H Q → wpAny (model X.prog X.w) X.A (eval e X.env) (EP X pins σ Q) X.xe s
def PT (X : Cx) (e : Expr) (t : TT) : Prop :=
  ∀ (pins : List (Addr × Obj)) (s : Shared) (σ : St) (H : Hp) (Q : Bool → Hp → Prop), Inv X pins σ H s → t σ H Q → wpAny (model X.prog X.w) X.A (isTrue e X.env (eval e X.env)) (TP X pins σ Q) X.xe s
def PW (X : Cx) (e : Expr) (t : TT) : Prop :=
  ∀ (whole : Sem Value) (pins : List (Addr × Obj)) (s : Shared) (σ : St) (H : Hp) (Q : Bool → Hp → Prop), Inv X pins σ H s → t σ H Q → wpAny (model X.prog X.w) X.A (isTrue e X.env whole) (TP X pins σ Q) X.xe s
theorem PW.pt {X : Cx} {e : Expr} {t : TT} (h : PW X e t) : PT X e t := h _
def PA (X : Cx) (es : List Expr) (t : TA) : Prop :=
  ∀ (pos : Pos) (pins : List (Addr × Obj)) (s : Shared) (σ : St) (H : Hp) (Q : List V → Hp → Prop), Inv X pins σ H s → t σ H Q → wpAny (model X.prog X.w) X.A (spliced (backTo pos (starEach es X.env))) (AP X pins σ Q) X.xe s
def PS (X : Cx) (st : Stmt) (t : TS) : Prop :=
  ∀ (pins : List (Addr × Obj)) (s : Shared) (σ : St) (H : Hp) (D : Ends), Inv X pins σ H s → t D σ H → wpAny (model X.prog X.w) X.A (exec st X.env) (SP X pins D) X.xe s
def PSs (X : Cx) (st : List Stmt) (t : TS) : Prop :=
  ∀ (pins : List (Addr × Obj)) (s : Shared) (σ : St) (H : Hp) (D : Ends), Inv X pins σ H s → t D σ H → wpAny (model X.prog X.w) X.A (execs st X.env) (SP X pins D) X.xe s
theorem thn {α : Type} {t : Sem α} {Q Q' : α → Shared → Prop} {M : Model} {A : Around} {E : Value → Shared → Prop} {s : Shared} (h : wpAny M A t Q E s) (hQ : ∀ a s, Q a s → Q' a s) : wpAny M A t Q' E s := wpAny_mono h hQ fun _ _ x => x
end L2
namespace L2
open PySem PySem.Spec PyProof.Rows
section
variable {X : Cx}
def tVar (i : Nat) : TE := fun σ H Q => ∃ v, σ[i]? = some (some v) ∧ Q v H
def tC (v : V) : TE := fun _ H Q => Q v H
theorem pe_var {i : Nat} {x : Str} {pos : Pos} (hN : X.N[i]? = some x) (hv : Vis X.env.scope x) (hd : (x == ("__debug__" : Str)) = false := by decide) (hcd : (x == ("__classdict__" : Str)) = false := by decide) : PE X (.Name x pos) (tVar i) := by
  intro pins s σ H Q I h
  obtain ⟨v, e, h⟩ := h
  obtain ⟨m, hn, hl⟩ := I.loc
  obtain ⟨u, r, l⟩ := hl i x v hN e hv
  have fin : EP X pins σ Q u s := ⟨v, H, I, r, h⟩
  rcases l with ⟨hk, hm⟩ | ⟨hk, c, hc, hcell⟩
  · exact wpAny_Name (wpAny_loadName_local I.ok.kind hk hn hm fin) hd
  · rcases hk with hk | hk
    · exact wpAny_Name (wpAny_loadName_cell I.ok.kind hk hc hcell fin) hd
    · exact wpAny_Name (wpAny_loadName_free I.ok.kind hk hc hcell fin hcd) hd
theorem pe_int {i j pos} : PE X (.Constant (.int i) j pos) (tC (.int i)) := fun _ _ _ H _ I h => wpAny_Constant_int ⟨.int i, H, I.tok _, ⟨_, rfl⟩, h⟩
theorem pe_bl {b j pos} : PE X (.Constant (.bool b) j pos) (tC (.bl b)) := fun _ _ _ H _ I h => Constant_bool ⟨.bl b, H, I, rfl, h⟩
theorem pe_non {j pos} : PE X (.Constant .none j pos) (tC .non) := fun _ _ _ H _ I h => Constant_none ⟨.non, H, I, rfl, h⟩
theorem pe_str {x j pos} : PE X (.Constant (.str x) j pos) (tC (.str x)) := fun _ _ _ H _ I h => Calls.Constant_str ⟨.str x, H, I.tok _, ⟨_, rfl⟩, h⟩
def Gl (X : Cx) (x : Str) : Prop := X.env.kindOf x = some .globalImplicit
theorem ld_glob {E : Value → Shared → Prop} {pins : List (Addr × Obj)} {s : Shared} {σ : St} {H : Hp} {x : Str} {u : Value} {pos : Pos} {Q : Value → Shared → Prop} (I : Inv X pins σ H s) (hg : Gl X x) (hm : X.mg x = some u) (h : Q u s)
    (hd : (x == ("__debug__" : Str)) = false := by decide) : wpAny (model X.prog X.w) X.A (eval (.Name x pos) X.env) Q E s :=
  Calls.Name_function_global I.ok.kind hg (Calls.loadGlobal_global (by rw [I.ok.glob]; exact I.mod.glob.keeps I.bk) hm h) hd
theorem ld_blt {E : Value → Shared → Prop} {pins : List (Addr × Obj)} {s : Shared} {σ : St} {H : Hp} {x : Str} {u : Value} {pos : Pos} {Q : Value → Shared → Prop} (I : Inv X pins σ H s) (hg : Gl X x) (hm : X.mg x = none) (hv : bootBuiltins x = some u) (h : Q u s)
    (hn : x ≠ "__name__" := by decide) (hd : (x == ("__debug__" : Str)) = false := by decide) : wpAny (model X.prog X.w) X.A (eval (.Name x pos) X.env) Q E s := by
  obtain ⟨mb, h1, h2⟩ := I.mod.blt
  exact Calls.Name_function_global I.ok.kind hg (Calls.loadGlobal_builtin (by rw [I.ok.glob]; exact I.mod.glob.keeps I.bk) hm (by rw [I.ok.blt]; exact h1.keeps I.bk) ((h2 x hn).trans hv) h) hd
theorem pe_bltn {x : Str} {v : V} {u : Value} {pos : Pos} (hg : Gl X x) (hm : X.mg x = none) (hv : bootBuiltins x = some u) (r : RelV v u) (hn : x ≠ "__name__" := by decide) (hd : (x == ("__debug__" : Str)) = false := by decide) : PE X (.Name x pos) (tC v) :=
  fun _ _ _ H _ I h => ld_blt I hg hm hv ⟨v, H, I, r, h⟩ hn hd
variable {a b : Expr} {ta tb : TE} {pos : Pos}
variable {tA tB' : TT} {rest : List Expr}
def tAnd (t u : TT) : TT := fun σ H Q => t σ H fun c H1 => if c = true then u σ H1 Q else Q false H1
def tOr (t u : TT) : TT := fun σ H Q => t σ H fun c H1 => if c = true then Q true H1 else u σ H1 Q
def tNot (t : TT) : TT := fun σ H Q => t σ H fun c H1 => Q (!c) H1
theorem pw_and1 (ha : PT X a tA) : PW X (.BoolOp .And [a] pos) tA := by
  intro wh pins s σ H Q I h
  refine isTrue_and (thn (ha pins s σ H Q I h) fun c s1 e => ?_)
  cases c with
  | true => exact isTrue_and_nil e
  | false => exact e
theorem pw_or1 (ha : PT X a tA) : PW X (.BoolOp .Or [a] pos) tA := by
  intro wh pins s σ H Q I h
  refine isTrue_or (thn (ha pins s σ H Q I h) fun c s1 e => ?_)
  cases c with
  | false => exact isTrue_or_nil e
  | true => exact e
theorem pw_and (ha : PT X a tA) (hb : PW X (.BoolOp .And (b :: rest) pos) tB') : PW X (.BoolOp .And (a :: b :: rest) pos) (tAnd tA tB') := by
  intro wh pins s σ H Q I h
  refine isTrue_and (thn (ha pins s σ H _ I h) fun c s1 ⟨H1, I1, q1⟩ => ?_)
  cases c with
  | true => exact hb wh pins s1 σ H1 Q I1 q1
  | false => exact ⟨H1, I1, q1⟩
theorem pw_or (ha : PT X a tA) (hb : PW X (.BoolOp .Or (b :: rest) pos) tB') : PW X (.BoolOp .Or (a :: b :: rest) pos) (tOr tA tB') := by
  intro wh pins s σ H Q I h
  refine isTrue_or (thn (ha pins s σ H _ I h) fun c s1 ⟨H1, I1, q1⟩ => ?_)
  cases c with
  | true => exact ⟨H1, I1, q1⟩
  | false => exact hb wh pins s1 σ H1 Q I1 q1
theorem pt_not (ha : PT X a tA) : PT X (.UnaryOp .Not a pos) (tNot tA) := by
  intro pins s σ H Q I h
  exact isTrue_not (ha pins s σ H (fun c H1 => Q (!c) H1) I h)
def tAndV (ta tb : TE) : TE := fun σ H Q => ta σ H fun x H1 => ∃ c, x = .bl c ∧ if c = true then tb σ H1 Q else Q (.bl false) H1
def tNotV (ta : TE) : TE := fun σ H Q => ta σ H fun x H1 => ∃ c, x = .bl c ∧ Q (.bl (!c)) H1
theorem pe_one {op} {t : TE} (h : PE X a t) : PE X (.BoolOp op [a] pos) t := fun pins s σ H Q I hw => BoolOp_one (h pins s σ H Q I hw)
theorem pe_and (ha : PE X a ta) (hb : PE X (.BoolOp .And (b :: rest) pos) tb) : PE X (.BoolOp .And (a :: b :: rest) pos) (tAndV ta tb) := by
  intro pins s σ H Q I h
  refine BoolOp_and (thn (ha pins s σ H _ I h) fun v s1 ⟨x, H1, I1, r1, q1⟩ => ?_)
  obtain ⟨c, rfl, q1⟩ := q1
  cases r1
  refine wpAny_truthy_bool ?_
  cases c with
  | true => exact hb pins s1 σ H1 Q I1 q1
  | false => exact ⟨.bl false, H1, I1, rfl, q1⟩
theorem pe_not (ha : PE X a ta) : PE X (.UnaryOp .Not a pos) (tNotV ta) := by
  intro pins s σ H Q I h
  refine UnaryOp_ (thn (ha pins s σ H _ I h) fun v s1 ⟨x, H1, I1, r1, q1⟩ => ?_)
  obtain ⟨c, rfl, q1⟩ := q1
  cases r1
  exact not_of (wpAny_truthy_bool ⟨.bl (!c), H1, I1, rfl, q1⟩)
def tIf (t : TT) (ta tb : TE) : TE := fun σ H Q => t σ H fun c H1 => if c = true then ta σ H1 Q else tb σ H1 Q
theorem pe_ifExp {c : Expr} (hc : PT X c tA) (ha : PE X a ta) (hb : PE X b tb) : PE X (.IfExp c a b pos) (tIf tA ta tb) := by
  intro pins s σ H Q I h
  refine wpAny_IfExp (thn (hc pins s σ H _ I h) fun d s1 ⟨H1, I1, q1⟩ => ?_)
  cases d with
  | true => exact ha pins s1 σ H1 Q I1 q1
  | false => exact hb pins s1 σ H1 Q I1 q1
end
end L2
namespace L2
open PySem PySem.Spec PyProof.Rows
def SqL (K : PySem.W.Frag) (H : Hp) (a : Addr) (xs : List V) : Prop :=
  Rd H a (.lst xs) ∨
    ∃ (o : Obj) (its : Array Value) (n : Nat), K.lookup a = some o ∧ o.cls = .type "list" ∧ o.dict = none ∧ o.data = .seq its n ∧ its.size ≤ sizeLine ∧ Vals xs its.toList
def SqT (K : PySem.W.Frag) (H : Hp) (a : Addr) (xs : List V) : Prop :=
  Rd H a (.tup xs) ∨
    ∃ (o : Obj) (its : Array Value) (n : Nat), K.lookup a = some o ∧ o.cls = .type "tuple" ∧ o.data = .seq its n ∧ its.size ≤ sizeLine ∧ Vals xs its.toList
def absV : Value → Option V
  | .none => some .non
  | .bool b => some (.bl b)
  | .int i _ => some (.int i)
  | .str x _ => some (.str x)
  | .bytes b _ => some (.byt b)
  | .float b _ => some (.flt b)
  | .ref a => some (.ref a)
  | .type n => some (.ty n)
  | _ => none
theorem RelV.abs {x : V} {u : Value} (r : RelV x u) : absV u = some x := by
  cases x with
  | non => cases r; rfl
  | bl _ => cases r; rfl
  | int _ => obtain ⟨t, rfl⟩ := r; rfl
  | str _ => obtain ⟨t, rfl⟩ := r; rfl
  | byt _ => obtain ⟨t, rfl⟩ := r; rfl
  | flt _ => obtain ⟨t, rfl⟩ := r; rfl
  | ref _ => cases r; rfl
  | ty _ => cases r; rfl
theorem RelV.inj {x y : V} {u : Value} (r : RelV x u) (q : RelV y u) : x = y := Option.some.inj (r.abs.symm.trans q.abs)
theorem Vals.inj : ∀ {xs ys : List V} {us : List Value}, Vals xs us → Vals ys us → xs = ys
  | _, _, _, .nil, .nil => rfl
  | _, _, _, .cons r t, .cons r' t' => by rw [r.inj r', Vals.inj t t']
section
variable {X : Cx} {pins : List (Addr × Obj)} {σ : St} {H : Hp} {s : Shared} {a : Addr} {xs ys : List V}
theorem SqL.of {K : PySem.W.Frag} (h : H a = some (.lst xs)) : SqL K H a xs := .inl (.inl h)
theorem SqT.of {K : PySem.W.Frag} (h : H a = some (.tup xs)) : SqT K H a xs := .inl (.inl h)
theorem Inv.list (I : Inv X pins σ H s) (h : SqL X.K H a xs) : ∃ its : List Value, Vals xs its ∧ PlainL s.heap a its.toArray ∧ xs.length ≤ sizeLine := by
  rcases h with h | ⟨o, its, n, hk, hc, hd, hs, hz, r⟩
  · obtain ⟨z, its, n, r, e⟩ := h.ok I.hok
    exact ⟨its, r, ⟨_, n, e, rfl, rfl, rfl⟩, z⟩
  · refine ⟨its.toList, r, ⟨o, n, I.kIn a o hk, hc, hd, by simpa using hs⟩, ?_⟩
    have e := r.length
    simp only [Array.length_toList] at e
    omega
theorem Inv.tuple (I : Inv X pins σ H s) (h : SqT X.K H a xs) : ∃ its : List Value, Vals xs its ∧ IsTup s.heap a its.toArray ∧ xs.length ≤ sizeLine := by
  rcases h with h | ⟨o, its, n, hk, hc, hs, hz, r⟩
  · obtain ⟨z, its, r, p⟩ := h.ok I.hok
    exact ⟨its, r, p, z⟩
  · refine ⟨its.toList, r, ⟨o, I.kIn a o hk, hc, n, by simpa using hs⟩, ?_⟩
    have e := r.length
    simp only [Array.length_toList] at e
    omega
theorem Inv.list_inj (I : Inv X pins σ H s) (h : SqL X.K H a xs) (h' : SqL X.K H a ys) : xs = ys := by
  obtain ⟨its, r, ⟨o, n, e, _, _, d⟩, _⟩ := I.list h
  obtain ⟨its', r', ⟨o', n', e', _, _, d'⟩, _⟩ := I.list h'
  rw [e] at e'; cases e'
  rw [d] at d'
  injection d' with d1 _
  have : its = its' := by simpa using congrArg Array.toList d1
  subst this
  exact r.inj r'
theorem Inv.tuple_inj (I : Inv X pins σ H s) (h : SqT X.K H a xs) (h' : SqT X.K H a ys) : xs = ys := by
  obtain ⟨its, r, ⟨o, e, _, n, d⟩, _⟩ := I.tuple h
  obtain ⟨its', r', ⟨o', e', _, n', d'⟩, _⟩ := I.tuple h'
  rw [e] at e'; cases e'
  rw [d] at d'
  injection d' with d1 _
  have : its = its' := by simpa using congrArg Array.toList d1
  subst this
  exact r.inj r'
end
abbrev Cx.wish (X : Cx) (E : Value → Shared → Prop) : Cx := { X with xe := E }
abbrev Cx.nox (X : Cx) : Cx := X.wish fun _ _ => False
theorem Cx.Ok.wish {X : Cx} (ok : X.Ok) (E : Value → Shared → Prop) : (X.wish E).Ok :=
  ⟨ok.mod, ok.kind, ok.glob, ok.blt, ok.above, ok.inj, ok.has, ok.cab, ok.hd, ok.frames, ok.stk, ok.exf, ok.bs, ok.bsz, ok.noex, ok.exfs, ok.funs, ok.frf⟩
theorem Cx.Ok.unwish {X : Cx} {E : Value → Shared → Prop} (ok : (X.wish E).Ok) : X.Ok :=
  ⟨ok.mod, ok.kind, ok.glob, ok.blt, ok.above, ok.inj, ok.has, ok.cab, ok.hd, ok.frames, ok.stk, ok.exf, ok.bs, ok.bsz, ok.noex, ok.exfs, ok.funs, ok.frf⟩
section
variable {X : Cx} {pins : List (Addr × Obj)} {σ : St} {H : Hp} {s : Shared} {E : Value → Shared → Prop}
theorem Inv.wish (I : Inv X pins σ H s) (E : Value → Shared → Prop) : Inv (X.wish E) pins σ H s := ⟨I.ok.wish E, I.os, I.bare, I.base, I.loc, I.cell, I.free, I.freeC, I.pin, I.hok, I.len⟩
theorem Inv.unwish (I : Inv (X.wish E) pins σ H s) : Inv X pins σ H s := ⟨I.ok.unwish, I.os, I.bare, I.base, I.loc, I.cell, I.free, I.freeC, I.pin, I.hok, I.len⟩
theorem SP.unwish {D : Ends} {f : Flow} {s' : Shared} (h : SP (X.wish E) pins D f s') : SP X pins D f s' := by
  cases f with
  | next => obtain ⟨σ', H', I, q⟩ := h; exact ⟨σ', H', I.unwish, q⟩
  | brk => obtain ⟨σ', H', I, q⟩ := h; exact ⟨σ', H', I.unwish, q⟩
  | cont => obtain ⟨σ', H', I, q⟩ := h; exact ⟨σ', H', I.unwish, q⟩
  | ret u => obtain ⟨v, σ', H', I, r, q⟩ := h; exact ⟨v, σ', H', I.unwish, r, q⟩
theorem PSs.nox {st : List Stmt} {t : TS} (h : PSs X.nox st t) : PSs X st t := fun pins s σ H D I hw =>
  wpAny_mono (h pins s σ H D (I.wish _) hw) (fun _ _ q => q.unwish) fun _ _ z => False.elim z
end
section
variable {X : Cx} {st : Stmt} {rest : List Stmt} {t u : TS} {e : Expr} {te : TE} {pos : Pos}
def tNext : TS := fun D σ H => D.nx σ H
def tSeq (t u : TS) : TS := fun D σ H => t { D with nx := u D } σ H
theorem pss_nil : PSs X [] tNext := fun _ _ σ H _ I h => wpAny_execs_nil ⟨σ, H, I, h⟩
theorem pss_cons (h1 : PS X st t) (h2 : PSs X rest u) : PSs X (st :: rest) (tSeq t u) := by
  intro pins s σ H D I h
  refine wpAny_execs_cons (thn (h1 pins s σ H { D with nx := u D } I h) fun f s1 q => ?_)
  cases f with
  | next =>
    obtain ⟨σ', H', I', q⟩ := q
    exact h2 pins s1 σ' H' D I' q
  | ret v => exact q
  | brk => exact q
  | cont => exact q
theorem pss_one (h1 : PS X st t) : PSs X [st] t := by
  intro pins s σ H D I h
  refine wpAny_execs_cons (thn (h1 pins s σ H D I h) fun f s1 q => ?_)
  cases f with
  | next => exact wpAny_execs_nil q
  | ret v => exact q
  | brk => exact q
  | cont => exact q
theorem Inv.quiet {pins : List (Addr × Obj)} {σ : St} {H : Hp} {s : Shared} (I : Inv X pins σ H s) : interactive X.env = false := by simp [interactive, I.ok.kind]
def tDrop (te : TE) : TS := fun D σ H => te σ H fun _ H1 => D.nx σ H1
theorem ps_expr (he : PE X e te) (hs : swapsWith e none pos.line X.env = pure false := by rfl) : PS X (.Expr e pos) (tDrop te) := by
  intro pins s σ H D I h
  exact wpAny_Expr_any (thn (he pins s σ H _ I h) fun v s1 ⟨x, H1, I1, r1, q1⟩ => ⟨σ, H1, I1, q1⟩) I.quiet hs
def tRet (te : TE) : TS := fun D σ H => te σ H D.rt
theorem ps_ret (he : PE X e te) : PS X (.Return (some e) pos) (tRet te) := by
  intro pins s σ H D I h
  exact wpAny_Return_some (thn (he pins s σ H _ I h) fun v s1 ⟨x, H1, I1, r1, q1⟩ => ⟨x, σ, H1, I1, r1, q1⟩)
def tIfS (c : TT) (t u : TS) : TS := fun D σ H => c σ H fun b H1 => if b = true then t D σ H1 else u D σ H1
theorem ps_if {c : Expr} {a b : List Stmt} {tc : TT} (hc : PT X c tc) (ha : PSs X a t) (hb : PSs X b u) : PS X (.If c a b pos) (tIfS tc t u) := by
  intro pins s σ H D I h
  refine wpAny_If (thn (hc pins s σ H _ I h) fun d s1 ⟨H1, I1, q1⟩ => ?_)
  cases d with
  | true => exact ha pins s1 σ H1 D I1 q1
  | false => exact hb pins s1 σ H1 D I1 q1
end
abbrev TG := V → St → Hp → (St → Hp → Prop) → Prop
abbrev TGs := List V → St → Hp → (St → Hp → Prop) → Prop
def PG (X : Cx) (target : Expr) (t : TG) : Prop :=
  ∀ (pins : List (Addr × Obj)) (s : Shared) (σ : St) (H : Hp) (v : V) (u : Value) (Q : St → Hp → Prop), Inv X pins σ H s → RelV v u → t v σ H Q →
    wpAny (model X.prog X.w) X.A (assign target X.env u) (fun _ s' => ∃ σ' H', Inv X pins σ' H' s' ∧ Q σ' H') X.xe s
def PGs (X : Cx) (ts : List Expr) (t : TGs) : Prop :=
  ∀ (pins : List (Addr × Obj)) (s : Shared) (σ : St) (H : Hp) (vs : List V) (us : List Value) (Q : St → Hp → Prop), Inv X pins σ H s → Vals vs us → t vs σ H Q →
    wpAny (model X.prog X.w) X.A (assignInOrder ((assignEach ts X.env).map (·.2)) us) (fun _ s' => ∃ σ' H', Inv X pins σ' H' s' ∧ Q σ' H') X.xe s
section
variable {X : Cx} {pos : Pos}
def gName (i : Nat) : TG := fun v σ H Q => Q (σ.set i (some v)) H
theorem pg_name {i : Nat} {x : Str} (hN : X.N.Nodup) (hi : X.N[i]? = some x) (hx : Loc X.env.scope x) (hf : X.fn x = true ∨ X.env.scope.names.lookup x = some .local := by first | exact .inl rfl | exact .inr rfl | assumption) : PG X (.Name x pos) (gName i) := by
  intro pins s σ H v u Q I r h
  exact wpAny_assign_Name (store_ok I hN hi hx r (fun s' I' => ⟨_, H, I', h⟩) hf)
def gNil : TGs := fun vs σ H Q => vs = [] ∧ Q σ H
def gCons (t : TG) (u : TGs) : TGs := fun vs σ H Q => ∃ v r, vs = v :: r ∧ t v σ H fun σ' H' => u r σ' H' Q
theorem pgs_nil : PGs X [] gNil := by
  intro pins s σ H vs us Q I r h
  obtain ⟨e, h⟩ := h
  subst e
  cases r
  exact assignInOrder_nil ⟨σ, H, I, h⟩
theorem pgs_cons {e : Expr} {es : List Expr} {t : TG} {u : TGs} (h1 : PG X e t) (h2 : PGs X es u)
    (hs : (assignEach (e :: es) X.env).map (·.2) = assign e X.env :: (assignEach es X.env).map (·.2) := by rfl) : PGs X (e :: es) (gCons t u) := by
  intro pins s σ H vs us Q I r h
  obtain ⟨v, vr, e1, h⟩ := h
  subst e1
  cases r with
  | cons r rr =>
    rw [hs]
    refine assignInOrder_cons (thn (h1 pins s σ H _ _ _ I r h) fun _ s1 ⟨σ1, H1, I1, q1⟩ => ?_)
    exact h2 pins s1 σ1 H1 _ _ Q I1 rr q1
def gTup (K : PySem.W.Frag) (n : Nat) (t : TGs) : TG := fun v σ H Q => ∃ a xs, v = .ref a ∧ SqT K H a xs ∧ xs.length = n ∧ t xs σ H Q
theorem pg_tup {es : List Expr} {k : Nat} {t : TGs} {n : Nat} (hc : X.calm = true) (h : PGs X es t)
    (hn : (assignEach es X.env).length = n := by rfl) (hst : (assignEach es X.env).findIdx? (·.1) = none := by rfl) : PG X (.Tuple es k pos) (gTup X.K n t) := by
  intro pins s σ H v u Q I r hw
  obtain ⟨a, xs, e1, hq, hl, hw⟩ := hw
  subst e1
  cases r
  obtain ⟨its, rv, ht, hz⟩ := I.tuple hq
  refine assign_Tuple_tuple (I.ok.hd hc) ht (by simp [hn, ← hl, rv.length]) hst fun h' hx => ?_
  have I1 : Inv X pins σ H { s with heap := h' } := I.kept (t' := s.toks) fun b o e => hx b o (Nat.ne_of_lt (Heap.lt_size e)) e
  exact h pins _ σ H xs _ Q I1 (by simpa using rv) hw
def tAsg (te : TE) (g : TG) : TS := fun D σ H => te σ H fun x H1 => g x σ H1 D.nx
theorem ps_asg {tg e : Expr} {te : TE} {g : TG} (he : PE X e te) (hg : PG X tg g) (hs : swapsWithSole [tg] e pos.line X.env = pure false := by rfl) (hw : swappedStores [tg] e X.env = pure none := by rfl)
    (h1 : (assignEach [tg] X.env).map (·.2) = [assign tg X.env] := by rfl) : PS X (.Assign [tg] e pos) (tAsg te g) := by
  intro pins s σ H D I h
  refine wpAny_Assign_stores (thn (he pins s σ H _ I h) fun v s1 ⟨x, H1, I1, r1, q1⟩ => ?_) hs hw
  rw [h1]
  exact thn (hg pins s1 σ H1 x v _ I1 r1 q1) fun _ s2 q => q
theorem ps_set {i : Nat} {x : Str} {e : Expr} {te : TE} {pos' : Pos} (hN : X.N.Nodup) (hi : X.N[i]? = some x) (hx : Loc X.env.scope x) (he : PE X e te) (hs : swapsWith e (some (.Name x pos')) pos.line X.env = pure false := by rfl) (hf : X.fn x = true ∨ X.env.scope.names.lookup x = some .local := by first | exact .inl rfl | exact .inr rfl | assumption) :
    PS X (.Assign [.Name x pos'] e pos) (tAsg te (gName i)) := by
  intro pins s σ H D I h
  refine wpAny_Assign_Name (thn (he pins s σ H _ I h) fun v s1 ⟨y, H1, I1, r1, q1⟩ => ?_) hs
  exact store_ok I1 hN hi hx r1 (fun s2 I2 => ⟨_, H1, I2, q1⟩) hf
def tPar (i j : Nat) (ta : TA) : TS := fun D σ H => ta σ H fun vs H1 => ∃ v w, vs = [v, w] ∧ D.nx ((σ.set i (some v)).set j (some w)) H1
theorem ps_par {i j : Nat} {x y : Str} {a b : Expr} {ta : TA} {px py pt : Pos} {kt k2 pt2} (hc : X.calm = true) (hN : X.N.Nodup) (hi : X.N[i]? = some x) (hj : X.N[j]? = some y) (hij : i ≠ j)
    (hx : X.env.scope.names.lookup x = some .local) (hy : X.env.scope.names.lookup y = some .local) (ha : PA X [a, b] ta)
    (hw : swappedStores [.Tuple [.Name x px, .Name y py] kt pt] (.Tuple [a, b] k2 pt2) X.env = pure (some [x, y]))
    (hs : swapsWithSole [.Tuple [.Name x px, .Name y py] kt pt] (.Tuple [a, b] k2 pt2) pos.line X.env = pure false := by rfl) :
    PS X (.Assign [.Tuple [.Name x px, .Name y py] kt pt] (.Tuple [a, b] k2 pt2) pos) (tPar i j ta) := by
  intro pins s σ H D I h
  rw [exec_Assign_arm]
  refine wpAny_bind (wpAny_standAt ?_)
  rw [hs]
  refine wpAny_bind (wpAny_pure ?_)
  rw [if_neg (by decide)]
  refine wpAny_bind (Tuple_ (thn (ha _ pins s σ H _ I h) fun us s1 ⟨vs, H1, I1, r1, q1⟩ => ?_))
  obtain ⟨v, w, e1, q1⟩ := q1
  subst e1
  obtain ⟨u1, u2, rfl, rv, rw'⟩ : ∃ u1 u2, us = [u1, u2] ∧ RelV v u1 ∧ RelV w u2 := by
    cases r1 with
    | cons p q =>
      cases q with
      | cons p' q' =>
        cases q'
        exact ⟨_, _, rfl, p, p'⟩
  refine wpAny_newObj_type ?_ (by show 2 ≤ sizeLine; decide)
  have I2 : Inv X pins σ H1 { s1 with heap := s1.heap.push { cls := .type "tuple", data := .seq [u1, u2].toArray } } := I1.kept (t' := s1.toks) fun b o e => Heap.get?_push_of_some _ e
  rw [hw]
  refine wpAny_bind (wpAny_pure ?_)
  show wpAny (model X.prog X.w) X.A (do rule "assign.swapped-stores"; let items ← unpackItems (.ref s1.heap.objs.size) 2 none; assignInOrder [fun v => bindName X.env y v, fun v => bindName X.env x v] items.reverse; pure Flow.next) _ _ _
  refine wpAny_bind (wpAny_rule (wpAny_bind (unpackItems_tuple (items := #[u1, u2]) (I.ok.hd hc) (IsTup.new s1.heap _) fun h' hx' => ?_)))
  have I3 := I2.kept (h' := h') (t' := s1.toks) fun b o e => hx' b o (Nat.ne_of_lt (Heap.lt_size e)) e
  show wpAny _ _ (assignInOrder [fun v => bindName X.env y v, fun v => bindName X.env x v] [u2, u1] >>= fun _ => pure Flow.next) _ _ _
  refine wpAny_bind (assignInOrder_cons (wpAny_bindName (store_ok I3 hN hj (.inl hy) rw' (fun s2 I4 => ?_) (.inr hy))))
  refine assignInOrder_cons (wpAny_bindName (store_ok I4 hN hi (.inl hx) rv (fun s3 I5 => assignInOrder_nil (wpAny_pure ?_)) (.inr hx)))
  rw [List.set_comm _ _ (Ne.symm hij)] at I5
  exact ⟨_, H1, I5, q1⟩
end
section
variable {X : Cx} {pos : Pos}
def tWhile (c : TT) (tb : TS) : TS := fun D σ H => ∃ W : Nat → St → Hp → Prop, (∃ m, W m σ H) ∧ ∀ m σ H, W m σ H →
  c σ H fun b H1 => if b = true then ∃ N : St → Hp → Prop, (∀ σ' H', N σ' H' → ∃ m', m' < m ∧ W m' σ' H') ∧ tb { D with nx := N, ct := N, bk := D.nx } σ H1 else D.nx σ H1
theorem ps_while {c : Expr} {body : List Stmt} {tc : TT} {tb : TS} (hp : PassesOwn (model X.prog X.w) X.A X.env X.xe) (hc : PT X c tc) (hb : PSs X body tb) : PS X (.While c body [] pos) (tWhile tc tb) := by
  intro pins s σ H D I h
  obtain ⟨W, ⟨m0, w0⟩, turn⟩ := h
  refine wpAny_While (codeAny_whileLoop (fun n s' => ∃ σ' H', Inv X pins σ' H' s' ∧ W n σ' H') ?_ m0 ⟨σ, H, I, w0⟩)
  rintro n s1 ⟨σ1, H1, I1, w1⟩
  refine wpAny_passesOwn hp (thn (hc pins s1 σ1 H1 _ I1 (turn n σ1 H1 w1)) fun b s2 ⟨H2, I2, q2⟩ => ?_)
  cases b with
  | true =>
    obtain ⟨N, hN, q2⟩ := q2
    rw [if_pos rfl]
    refine wpAny_passesOwn hp (thn (hb pins s2 σ1 H2 _ I2 q2) fun f s3 q3 => ?_)
    cases f with
    | next =>
      obtain ⟨σ3, H3, I3, n3⟩ := q3
      obtain ⟨m', hm, w3⟩ := hN σ3 H3 n3
      exact ⟨m', hm, σ3, H3, I3, w3⟩
    | cont =>
      obtain ⟨σ3, H3, I3, n3⟩ := q3
      obtain ⟨m', hm, w3⟩ := hN σ3 H3 n3
      exact ⟨m', hm, σ3, H3, I3, w3⟩
    | brk => exact q3
    | ret v => exact q3
  | false =>
    rw [if_neg Bool.false_ne_true]
    exact wpAny_execs_nil ⟨σ1, H2, I2, q2⟩
end
structure It where
  go : Nat → Hp → Prop
  yld : Nat → Hp → V → Hp → Prop
  stop : Nat → Hp → Prop
def FpOk (X : Cx) (pins : List (Addr × Obj)) (H : Hp) (b : Addr) : Prop :=
  H b = none ∧ b ≠ X.env.locals ∧ b ∉ X.fs ∧ (b ∈ X.ex ∨ X.s₀.heap.objs.size ≤ b) ∧ (∀ x c, X.env.cells.lookup x = some c → c ≠ b) ∧ ∀ p ∈ X.pn ++ pins, p.1 ≠ b
theorem Inv.fpOk {X : Cx} {pins : List (Addr × Obj)} {σ : St} {H H' : Hp} {s : Shared} {b : Addr} (I : Inv X pins σ H s) (hb : s.heap.objs.size ≤ b) (hn : H' b = none) : FpOk X pins H' b := by
  refine ⟨hn, Nat.ne_of_gt (Nat.lt_of_lt_of_le I.lt hb), I.nofs hb, .inr (Nat.le_trans I.sz hb), fun x c e z => ?_, fun p hp z => ?_⟩
  · obtain ⟨v, q⟩ := I.cell x c e
    exact absurd (Nat.lt_of_lt_of_le q.lt (by rw [z]; exact hb)) (Nat.lt_irrefl _)
  · exact absurd (Nat.lt_of_lt_of_le (Heap.lt_size (I.pin p hp).1) (by rw [z]; exact hb)) (Nat.lt_irrefl _)
structure Turn (P : Program) (w : World) (K : PySem.W.Frag) (tg : Expr) (J : It) (fp : List Addr) (it : Addr) (tn : Nat → Heap → Prop) : Prop where
  mem : it ∈ fp
  obj : ∀ i h, tn i h → ∀ b ∈ fp, ∃ o, h.get? b = some o ∧ ∀ v, o.data ≠ .cell v
  keep : ∀ i h h', tn i h → (∀ b ∈ fp, ∀ o, h.get? b = some o → h'.get? b = some o) → tn i h'
  item : ∀ (X : Cx), X.prog = P → X.w = w → X.K = K → X.calm = true → ∀ (i : Nat) (pins : List (Addr × Obj)) (s : Shared) (σ : St) (H : Hp) (E : Value → Shared → Prop), Inv X pins σ H s → (∀ b ∈ fp, FpOk X pins H b) → tn i s.heap → J.go i H →
    wpAny (model P w) X.A (pyNext (.ref it)) (fun r s1 => ∃ u, r = some u ∧
      wpAny (model P w) X.A (letOwnedTupleGo tg (.ref it) u) (fun _ s2 => ∃ x H', Inv X pins σ H' s2 ∧ RelV x u ∧ J.yld i H x H' ∧ tn (i + 1) s2.heap ∧ ∀ b ∈ fp, H' b = none) E s1) E s
  done : ∀ (X : Cx), X.prog = P → X.w = w → X.K = K → X.calm = true → ∀ (i : Nat) (pins : List (Addr × Obj)) (s : Shared) (σ : St) (H : Hp) (E : Value → Shared → Prop), Inv X pins σ H s → (∀ b ∈ fp, FpOk X pins H b) → tn i s.heap → J.stop i H →
    wpAny (model P w) X.A (pyNext (.ref it)) (fun r s1 => r = none ∧ Inv X pins σ H s1) E s
  self : ∀ (A : Around) (i : Nat) (s : Shared) (Q : Value → Shared → Prop) (E : Value → Shared → Prop), tn i s.heap → Q (.ref it) s → wpAny (model P w) A (pyIter (.ref it)) Q E s
abbrev TI := St → Hp → (It → Hp → Prop) → Prop
def PIE (X : Cx) (pins : List (Addr × Obj)) (σ : St) (tg : Expr) (R : It → Hp → Prop) (itv : Value) (s2 : Shared) : Prop :=
  ∃ (it : Addr) (fp : List Addr) (tn : Nat → Heap → Prop) (J : It) (H' : Hp), itv = .ref it ∧ Inv X pins σ H' s2 ∧ Turn X.prog X.w X.K tg J fp it tn ∧ tn 0 s2.heap ∧ (∀ b ∈ fp, FpOk X pins H' b) ∧ R J H'
def PI (X : Cx) (tg iter : Expr) (wi : TI) : Prop :=
  ∀ (pins : List (Addr × Obj)) (s : Shared) (σ : St) (H : Hp) (R : It → Hp → Prop), Inv X pins σ H s → wi σ H R →
    wpAny (model X.prog X.w) X.A (eval iter X.env) (fun v s1 => wpAny (model X.prog X.w) X.A (pyIter v) (PIE X pins σ tg R) X.xe s1) X.xe s
theorem go_of {M : Model} {A : Around} {E : Value → Shared → Prop} {s : Shared} {tg : Expr} {it : Addr} {u : Value} {o : Obj} {n : String} {vs : Array Value} {Q : Unit → Shared → Prop} (ho : s.heap.get? it = some o) (hc : o.cls = .type n) (hd : o.data = .fields vs)
    (hn : ["enumerate", "zip", "dict_itemiterator", "dict_reverseitemiterator", "odict_iterator", "itertools.zip_longest", "itertools.pairwise"].contains n = false) (hQ : Q () s) : wpAny M A (letOwnedTupleGo tg (.ref it) u) Q E s := by
  unfold letOwnedTupleGo
  cases tg <;> first
    | exact wpAny_pure hQ
    | (cases u <;> first
        | exact wpAny_pure hQ
        | (refine wpAny_bind (wpAny_load ho ?_)
           rw [hc, hd]
           show wpAny M A (if (["enumerate", "zip", "dict_itemiterator", "dict_reverseitemiterator", "odict_iterator", "itertools.zip_longest", "itertools.pairwise"].contains n && vs[0]? == some (rawInt _)) = true then _ else _) Q E s
           rw [if_neg (by intro h; rw [hn, Bool.false_and] at h; cases h)]
           exact wpAny_pure hQ))
def Itl (K : PySem.W.Frag) (a : Addr) : It :=
  ⟨fun i H => ∃ xs x, SqL K H a xs ∧ xs[i]? = some x, fun i H x H' => H' = H ∧ ∀ xs, SqL K H a xs → xs[i]? = some x, fun i H => ∃ xs, SqL K H a xs ∧ xs.length ≤ i⟩
def Itt (K : PySem.W.Frag) (a : Addr) : It :=
  ⟨fun i H => ∃ xs x, SqT K H a xs ∧ xs[i]? = some x, fun i H x H' => H' = H ∧ ∀ xs, SqT K H a xs → xs[i]? = some x, fun i H => ∃ xs, SqT K H a xs ∧ xs.length ≤ i⟩
def Itr (lo : Int) (n : Nat) : It := ⟨fun i _ => i < n, fun i H x H' => H' = H ∧ x = .int (lo + i), fun i _ => n ≤ i⟩
theorem turn_list {P : Program} {w : World} {K : PySem.W.Frag} {tg : Expr} (a it : Addr) : Turn P w K tg (Itl K a) [it] it (fun i h => h.IsListIter it a i) where
  mem := by simp
  obj := fun i h st b hb => by
    have e : b = it := by simpa using hb
    subst e
    obtain ⟨o, e, c, d⟩ := st
    exact ⟨o, e, fun v z => by rw [d] at z; cases z⟩
  keep := fun i h h' st k => st.at fun o e => k it (by simp) o e
  item := by
    intro X hP hw hK hc i pins s σ H E I hf st hg
    subst hP hw hK
    obtain ⟨xs, x, hq, hx⟩ := hg
    obtain ⟨its, rv, p, hz⟩ := I.list hq
    obtain ⟨u, hu, ru⟩ := rv.get hx
    obtain ⟨f0, f1, f2, f3, f4, f5⟩ := hf it (by simp)
    refine wpAny_pyNext_list_item st p.isList (x := u) (by simpa using hu) fun h' st' sb => ?_
    have I1 : Inv X pins σ H { s with heap := h' } := I.turned (t' := s.toks) (fun b o hb e => (sb.2 b hb).trans e) f0 f1 f3 f4 f5
    obtain ⟨o, e, c, d⟩ := id st'
    exact ⟨u, rfl, go_of (s := { s with heap := h' }) e c d (by decide) ⟨x, H, I1, ru, ⟨rfl, fun ys hy => by rw [I.list_inj hy hq]; exact hx⟩, st', fun b hb => (hf b hb).1⟩⟩
  done := by
    intro X hP hw hK hc i pins s σ H E I hf st hg
    subst hP hw hK
    obtain ⟨xs, hq, hx⟩ := hg
    obtain ⟨its, rv, p, hz⟩ := I.list hq
    obtain ⟨f0, f1, f2, f3, f4, f5⟩ := hf it (by simp)
    have hl := rv.length
    exact wpAny_pyNext_list_end (I.ok.hd hc) st p.isList (by simp; omega) fun h' eb => ⟨rfl, I.turned (t' := s.toks) (fun b o hb e => eb b o hb e) f0 f1 f3 f4 f5⟩
  self := fun _ _ _ _ _ st h => wpAny_pyIter_listiter st h
theorem turn_tuple {P : Program} {w : World} {K : PySem.W.Frag} {tg : Expr} (a it : Addr) : Turn P w K tg (Itt K a) [it] it (fun i h => h.IsTupleIter it a i) where
  mem := by simp
  obj := fun i h st b hb => by
    have e : b = it := by simpa using hb
    subst e
    obtain ⟨o, e, c, d⟩ := st
    exact ⟨o, e, fun v z => by rw [d] at z; cases z⟩
  keep := fun i h h' st k => st.at fun o e => k it (by simp) o e
  item := by
    intro X hP hw hK hc i pins s σ H E I hf st hg
    subst hP hw hK
    obtain ⟨xs, x, hq, hx⟩ := hg
    obtain ⟨its, rv, p, hz⟩ := I.tuple hq
    obtain ⟨u, hu, ru⟩ := rv.get hx
    obtain ⟨f0, f1, f2, f3, f4, f5⟩ := hf it (by simp)
    refine wpAny_pyNext_tuple_item st (show s.heap.IsTuple a its.toArray from p) (x := u) (by simpa using hu) fun h' st' sb => ?_
    have I1 : Inv X pins σ H { s with heap := h' } := I.turned (t' := s.toks) (fun b o hb e => (sb.2 b hb).trans e) f0 f1 f3 f4 f5
    obtain ⟨o, e, c, d⟩ := id st'
    exact ⟨u, rfl, go_of (s := { s with heap := h' }) e c d (by decide) ⟨x, H, I1, ru, ⟨rfl, fun ys hy => by rw [I.tuple_inj hy hq]; exact hx⟩, st', fun b hb => (hf b hb).1⟩⟩
  done := by
    intro X hP hw hK hc i pins s σ H E I hf st hg
    subst hP hw hK
    obtain ⟨xs, hq, hx⟩ := hg
    obtain ⟨its, rv, p, hz⟩ := I.tuple hq
    obtain ⟨f0, f1, f2, f3, f4, f5⟩ := hf it (by simp)
    have hl := rv.length
    exact wpAny_pyNext_tuple_end (I.ok.hd hc) st (show s.heap.IsTuple a its.toArray from p) (by simp; omega) fun h' eb => ⟨rfl, I.turned (t' := s.toks) (fun b o hb e => eb b o hb e) f0 f1 f3 f4 f5⟩
  self := fun _ _ _ _ _ st h => wpAny_pyIter_tupleiter st h
theorem turn_range {P : Program} {w : World} {K : PySem.W.Frag} {tg : Expr} (it : Addr) (lo : Int) (n : Nat) : Turn P w K tg (Itr lo n) [it] it (fun i h => IsRangeIter h it (lo + (i : Nat) * 1) ((n : Int) - (i : Nat)) 1) where
  mem := by simp
  obj := fun i h st b hb => by
    have e : b = it := by simpa using hb
    subst e
    exact ⟨_, st, fun v z => by
      have z' : Data.fields _ = Data.cell v := z
      cases z'⟩
  keep := fun i h h' st k => k it (by simp) _ st
  item := by
    intro X hP hw hK hc i pins s σ H E I hf st hg
    subst hP hw hK
    obtain ⟨f0, f1, f2, f3, f4, f5⟩ := hf it (by simp)
    have W := Walks.range (prog := X.prog) (w := X.w) (I.ok.hd hc) it lo 1 n
    refine W.item i s _ _ hg st fun v h' tk hv st' kk => ?_
    obtain ⟨t, rfl⟩ := hv
    have I1 : Inv X pins σ H { s with heap := h', toks := tk } := I.turned (fun b o hb e => kk b o (by simpa using hb) e) f0 f1 f3 f4 f5
    refine ⟨_, rfl, go_of (s := { s with heap := h', toks := tk }) (n := "range_iterator") st' rfl rfl (by decide) ⟨.int (lo + i), H, I1, ⟨t, ?_⟩, ⟨rfl, rfl⟩, st', fun b hb => (hf b hb).1⟩⟩
    rw [Int.mul_one]
  done := by
    intro X hP hw hK hc i pins s σ H E I hf st hg
    subst hP hw hK
    obtain ⟨f0, f1, f2, f3, f4, f5⟩ := hf it (by simp)
    exact wpAny_pyNext_range_end (I.ok.hd hc) st (by have : n ≤ i := hg; omega) fun h' eb => ⟨rfl, I.turned (t' := s.toks) (fun b o hb e => eb b o hb e) f0 f1 f3 f4 f5⟩
  self := fun _ _ _ _ _ st h => wpAny_pyIter_rangeiter st h
end L2
namespace L2
open PySem PySem.Spec PyProof.Rows
section
variable {X : Cx} {tg : Expr}
theorem range_it {pins : List (Addr × Obj)} {σ : St} {H : Hp} {s : Shared} {R : It → Hp → Prop} {E : Value → Shared → Prop} {lo hi : Int} {t u v : Tok} {tk : Nat} (I : Inv X pins σ H s) (h1 : -(2 ^ 62) ≤ lo) (h2 : lo < 2 ^ 62) (h3 : -(2 ^ 62) ≤ hi) (h4 : hi < 2 ^ 62)
    (q : R (Itr lo (hi - lo).toNat) H) : wpAny (model X.prog X.w) X.A (pyIter (.ref s.heap.objs.size)) (PIE X pins σ tg R) E { s with heap := s.heap.push { cls := .type "range", data := .fields #[.int lo t, .int hi u, .int 1 v] }, toks := tk } := by
  refine wpAny_pyIter_range (IsRange.new ..) (small_one h1 h2 h3 h4) ?_
  have I1 : Inv X pins σ H { s with heap := s.heap.push { cls := .type "range", data := .fields #[.int lo t, .int hi u, .int 1 v] }, toks := tk } := I.kept fun b o e => Heap.get?_push_of_some _ e
  refine ⟨(s.heap.push { cls := .type "range", data := .fields #[.int lo t, .int hi u, .int 1 v] }).objs.size, [(s.heap.push { cls := .type "range", data := .fields #[.int lo t, .int hi u, .int 1 v] }).objs.size], _, _, H, rfl,
    I1.kept (t' := tk) fun b o e => Heap.get?_push_of_some _ e, turn_range _ lo (hi - lo).toNat, ?_, fun b hb => ?_, q⟩
  · have e1 : lo + ((0 : Nat) : Int) * 1 = lo := by simp
    have e2 : (((hi - lo).toNat : Nat) : Int) - ((0 : Nat) : Int) = Builtin.Range.rangeSize lo hi 1 := by rw [rangeSize_one]; split <;> omega
    show IsRangeIter _ _ (lo + ((0 : Nat) : Int) * 1) ((((hi - lo).toNat : Nat) : Int) - ((0 : Nat) : Int)) 1
    rw [e1, e2]
    exact Heap.get?_push_size _ rfl
  · have e : b = (s.heap.push { cls := .type "range", data := .fields #[.int lo t, .int hi u, .int 1 v] }).objs.size := by simpa using hb
    subst e
    exact I1.fpOk (Nat.le_refl _) (I1.hok.fresh (Nat.le_refl _))
def iRng1 (ta : TA) : TI := fun σ H R => ta σ H fun vs H1 => ∃ j : Int, vs = [.int j] ∧ -(2 ^ 62) ≤ j ∧ j < 2 ^ 62 ∧ R (Itr 0 j.toNat) H1
theorem pi_range1 {a : Expr} {ta : TA} {p pos : Pos} (hg : Gl X "range") (hm : X.mg "range" = none) (ha : PA X [a] ta) (hs : starEach [a] X.env = [(false, eval a X.env)] := by rfl) : PI X tg (.Call (.Name "range" p) [a] [] pos) (iRng1 ta) := by
  intro pins s σ H R I h
  refine Call_ (ld_blt I hg hm boot_range (PyProof.Rows.callWith_type1 (thn (ha pos pins s σ H _ I h) fun us s1 ⟨vs, H1, I1, r1, q1⟩ => ?_) hs rfl))
  obtain ⟨j, e, q1, q2, q⟩ := q1
  subst e
  cases r1 with
  | cons r rr =>
    cases rr
    obtain ⟨t, rfl⟩ := r
    exact call_range_1 (range_it I1 (by omega) (by omega) q1 q2 (by simpa using q))
def tFor (wi : TI) (g : TG) (tb : TS) : TS := fun D σ H => wi σ H fun J H1 => ∃ W : Nat → Nat → St → Hp → Prop, (∃ m, W 0 m σ H1) ∧ ∀ i m σ H, W i m σ H →
  (J.stop i H ∧ D.nx σ H) ∨ (J.go i H ∧ ∃ N : St → Hp → Prop, (∀ σ' H', N σ' H' → ∃ m', m' < m ∧ W (i + 1) m' σ' H') ∧ ∀ x H', J.yld i H x H' → g x σ H' fun σ2 H2 => tb { D with nx := N, ct := N, bk := D.nx } σ2 H2)
def pinsAt (fp : List Addr) (h : Heap) : List (Addr × Obj) := fp.filterMap fun b => (h.get? b).map fun o => (b, o)
theorem mem_pinsAt {fp : List Addr} {h : Heap} {b : Addr} {o : Obj} (hb : b ∈ fp) (e : h.get? b = some o) : (b, o) ∈ pinsAt fp h := List.mem_filterMap.mpr ⟨b, hb, by rw [e]; rfl⟩
theorem of_pinsAt {fp : List Addr} {h : Heap} {p : Addr × Obj} (hp : p ∈ pinsAt fp h) : p.1 ∈ fp ∧ h.get? p.1 = some p.2 := by
  obtain ⟨b, hb, e⟩ := List.mem_filterMap.mp hp
  cases q : h.get? b with
  | none => rw [q] at e; cases e
  | some o =>
    rw [q] at e
    have e' : (b, o) = p := Option.some.inj e
    subst e'
    exact ⟨hb, q⟩
theorem Inv.pinned {pins : List (Addr × Obj)} {σ : St} {H : Hp} {s : Shared} {fp : List Addr} (I : Inv X pins σ H s) (hf : ∀ b ∈ fp, FpOk X pins H b) (ho : ∀ b ∈ fp, ∃ o, s.heap.get? b = some o ∧ ∀ v, o.data ≠ .cell v) : Inv X (pins ++ pinsAt fp s.heap) σ H s :=
  I.pins_of fun p hp => (List.mem_append.mp hp).elim (fun z => I.pin p (List.mem_append_right _ z)) fun z => by
    obtain ⟨hb, e⟩ := of_pinsAt z
    obtain ⟨f0, f1, f2, _⟩ := hf p.1 hb
    obtain ⟨o, e', d⟩ := ho p.1 hb
    rw [e] at e'; cases e'
    exact ⟨e, f0, f1, f2, d⟩
theorem Inv.unpinned {pins pl : List (Addr × Obj)} {σ : St} {H : Hp} {s : Shared} (I : Inv X (pins ++ pl) σ H s) : Inv X pins σ H s := I.pins_of fun p hp => I.pin p (List.mem_append_right _ (List.mem_append_left _ hp))
theorem ps_for {iter : Expr} {body : List Stmt} {wi : TI} {g : TG} {tb : TS} {pos : Pos} (hp : PassesOwn (model X.prog X.w) X.A X.env X.xe) (hc : X.calm = true) (hi : PI X tg iter wi) (hg : PG X tg g) (hb : PSs X body tb)
    (hs : ∀ x, foldedSetIterable iter X.env x = pure x := by intro _; rfl) : PS X (.For tg iter body [] pos) (tFor wi g tb) := by
  intro pins s σ H D I h
  refine wpAny_For (thn (hi pins s σ H _ I h) fun v s1 h1 => thn h1 fun itv s2 h2 => ?_) hs
  obtain ⟨it, fp, tn, J, H2, e, I2, T, st2, f2, W, ⟨m0, w0⟩, turn⟩ := h2
  subst e
  -- what stays true of the iterator's objects through the loop
  have stat : ∀ {H' : Hp}, (∀ b ∈ fp, H' b = none) → ∀ b ∈ fp, FpOk X pins H' b := fun hn b hb => ⟨hn b hb, (f2 b hb).2⟩
  refine codeAny_forLoop_any (fun n s' => ∃ i σ' H', Inv X pins σ' H' s' ∧ tn i s'.heap ∧ (∀ b ∈ fp, H' b = none) ∧ W i n σ' H') ?_ m0 ⟨0, σ, H2, I2, st2, fun b hb => (f2 b hb).1, w0⟩
  rintro n s3 ⟨i, σ3, H3, I3, st3, fr3, w3⟩
  rcases turn i n σ3 H3 w3 with ⟨stop, qn⟩ | ⟨go, N, hN, step⟩
  · refine wpAny_passesOwn hp (thn (T.done X rfl rfl rfl hc i pins s3 σ3 H3 X.xe I3 (stat fr3) st3 stop) fun r s4 ⟨hr, I4⟩ => ?_)
    subst hr
    exact wpAny_execs_nil ⟨σ3, H3, I4, qn⟩
  · refine wpAny_passesOwn hp (thn (T.item X rfl rfl rfl hc i pins s3 σ3 H3 X.xe I3 (stat fr3) st3 go) fun r s4 ⟨u, hr, h4⟩ => ?_)
    subst hr
    refine wpAny_passesOwn hp (thn h4 fun _ s5 ⟨x, H5, I5, r5, y5, st5, fr5⟩ => ?_)
    have I5' := I5.pinned (stat fr5) (T.obj _ _ st5)
    refine wpAny_passesOwn hp (thn (hg _ s5 σ3 H5 x u _ I5' r5 (step x H5 y5)) fun _ s6 ⟨σ6, H6, I6, q6⟩ => ?_)
    refine wpAny_passesOwn hp (thn (hb _ s6 σ6 H6 _ I6 q6) fun f s7 q7 => ?_)
    have again : ∀ {σ7 : St} {H7 : Hp}, Inv X (pins ++ pinsAt fp s5.heap) σ7 H7 s7 → N σ7 H7 → ∃ m, m < n ∧ ∃ i σ' H', Inv X pins σ' H' s7 ∧ tn i s7.heap ∧ (∀ b ∈ fp, H' b = none) ∧ W i m σ' H' := fun {σ7 H7} I7 n7 => by
      obtain ⟨m', hm, w7⟩ := hN σ7 H7 n7
      refine ⟨m', hm, i + 1, σ7, H7, I7.unpinned, T.keep _ _ _ st5 fun b hb o e => (I7.pin (b, o) (List.mem_append_right _ (List.mem_append_right _ (mem_pinsAt hb e)))).1, fun b hb => ?_, w7⟩
      obtain ⟨o, e, d⟩ := T.obj _ _ st5 b hb
      exact (I7.pin (b, o) (List.mem_append_right _ (List.mem_append_right _ (mem_pinsAt hb e)))).2.1
    cases f with
    | next => obtain ⟨σ7, H7, I7, n7⟩ := q7; exact again I7 n7
    | cont => obtain ⟨σ7, H7, I7, n7⟩ := q7; exact again I7 n7
    | brk => obtain ⟨σ7, H7, I7, q7⟩ := q7; exact ⟨σ7, H7, I7.unpinned, q7⟩
    | ret v => obtain ⟨x7, σ7, H7, I7, r7, q7⟩ := q7; exact ⟨x7, σ7, H7, I7.unpinned, r7, q7⟩
end
end L2
namespace L2
open PySem PySem.Spec PyProof.Rows
abbrev R2 := V → V → Hp → VK → Prop
def OpR (X : Cx) (f : Value → Value → Sem Value) (r : R2) : Prop :=
  ∀ (pins : List (Addr × Obj)) (s : Shared) (σ : St) (H : Hp) (x y : V) (v u : Value) (Q : VK), Inv X pins σ H s → RelV x v → RelV y u → r x y H Q →
    wpAny (model X.prog X.w) X.A (f v u) (EP X pins σ Q) X.xe s
def UnR (X : Cx) (f : Value → Sem Value) (r : V → Hp → VK → Prop) : Prop :=
  ∀ (pins : List (Addr × Obj)) (s : Shared) (σ : St) (H : Hp) (x : V) (v : Value) (Q : VK), Inv X pins σ H s → RelV x v → r x H Q →
    wpAny (model X.prog X.w) X.A (f v) (EP X pins σ Q) X.xe s
def CallR (X : Cx) (f : Value) (r : List V → Hp → VK → Prop) : Prop :=
  ∀ (pins : List (Addr × Obj)) (s : Shared) (σ : St) (H : Hp) (xs : List V) (us : List Value) (Q : VK), Inv X pins σ H s → Vals xs us → r xs H Q →
    wpAny (model X.prog X.w) X.A (call f us) (EP X pins σ Q) X.xe s
def TruR (X : Cx) (r : V → Hp → (Bool → Hp → Prop) → Prop) : Prop :=
  ∀ (pins : List (Addr × Obj)) (s : Shared) (σ : St) (H : Hp) (x : V) (v : Value) (Q : Bool → Hp → Prop), Inv X pins σ H s → RelV x v → r x H Q →
    wpAny (model X.prog X.w) X.A (truthy v) (TP X pins σ Q) X.xe s
def tOp (r : R2) (ta tb : TE) : TE := fun σ H Q => ta σ H fun x H1 => tb σ H1 fun y H2 => r x y H2 Q
def tUn (r : V → Hp → VK → Prop) (ta : TE) : TE := fun σ H Q => ta σ H fun x H1 => r x H1 Q
def rI (C : Int → Int → Prop) (g : Int → Int → V) : R2 := fun x y H Q => ∃ i j, x = .int i ∧ y = .int j ∧ C i j ∧ Q (g i j) H
def rI0 (g : Int → Int → V) : R2 := fun x y H Q => ∃ i j, x = .int i ∧ y = .int j ∧ Q (g i j) H
def rU (g : Int → V) : V → Hp → VK → Prop := fun x H Q => ∃ i, x = .int i ∧ Q (g i) H
section
variable {X : Cx} {a b c : Expr} {ta tb tc : TE} {pos : Pos}
theorem binT (ha : PE X a ta) (hb : PE X b tb) {pins : List (Addr × Obj)} {s : Shared} {σ : St} {H : Hp} {R : V → V → Hp → Prop} (I : Inv X pins σ H s)
    (h : ta σ H fun x H1 => tb σ H1 fun y H2 => R x y H2) {Q : Value → Shared → Prop} {f : Value → Value → Sem Value}
    (hf : ∀ v u s2 x y H2, Inv X pins σ H2 s2 → RelV x v → RelV y u → R x y H2 → wpAny (model X.prog X.w) X.A (f v u) Q X.xe s2) :
    wpAny (model X.prog X.w) X.A (eval a X.env) (fun v s₁ => wpAny (model X.prog X.w) X.A (eval b X.env) (fun u s₂ => wpAny (model X.prog X.w) X.A (f v u) Q X.xe s₂) X.xe s₁) X.xe s := by
  refine thn (ha pins s σ H _ I h) fun v s1 ⟨x, H1, I1, r1, q1⟩ => ?_
  refine thn (hb pins s1 σ H1 _ I1 q1) fun u s2 ⟨y, H2, I2, r2, q2⟩ => ?_
  exact hf v u s2 x y H2 I2 r1 r2 q2
theorem pe_op {op : Operator} {r : R2} (ho : OpR X (binaryOp op) r) (ha : PE X a ta) (hb : PE X b tb) : PE X (.BinOp a op b pos) (tOp r ta tb) := by
  intro pins s σ H Q I h
  exact wpAny_BinOp (binT ha hb I h fun v u s2 x y H2 I2 rx ry q => ho pins s2 σ H2 x y v u Q I2 rx ry q)
theorem pe_un {op : UnaryOp} {r : V → Hp → VK → Prop} (ho : UnR X (unaryOp op) r) (ha : PE X a ta) : PE X (.UnaryOp op a pos) (tUn r ta) := by
  intro pins s σ H Q I h
  exact UnaryOp_ (thn (ha pins s σ H _ I h) fun v s1 ⟨x, H1, I1, r1, q1⟩ => ho pins s1 σ H1 x v Q I1 r1 q1)
theorem opI {f : Value → Value → Sem Value} {C : Int → Int → Prop} {g : Int → Int → Int}
    (rule : ∀ (i j : Int) (t u : Tok) (s : Shared) (Q : Value → Shared → Prop) (E : Value → Shared → Prop), C i j → Q (.int (g i j) s.toks) { s with toks := s.toks + 1 } → wpAny (model X.prog X.w) X.A (f (.int i t) (.int j u)) Q E s) :
    OpR X f (rI C fun i j => .int (g i j)) := by
  intro pins s σ H x y v u Q I rx ry h
  obtain ⟨i, j, rfl, rfl, hc, q⟩ := h
  obtain ⟨t, rfl⟩ := rx
  obtain ⟨t', rfl⟩ := ry
  exact rule i j t t' s _ _ hc ⟨.int (g i j), H, I.tok _, ⟨_, rfl⟩, q⟩
theorem opI0 {f : Value → Value → Sem Value} {g : Int → Int → Int}
    (rule : ∀ (i j : Int) (t u : Tok) (s : Shared) (Q : Value → Shared → Prop) (E : Value → Shared → Prop), Q (.int (g i j) s.toks) { s with toks := s.toks + 1 } → wpAny (model X.prog X.w) X.A (f (.int i t) (.int j u)) Q E s) :
    OpR X f (rI0 fun i j => .int (g i j)) := by
  intro pins s σ H x y v u Q I rx ry h
  obtain ⟨i, j, rfl, rfl, q⟩ := h
  obtain ⟨t, rfl⟩ := rx
  obtain ⟨t', rfl⟩ := ry
  exact rule i j t t' s _ _ ⟨.int (g i j), H, I.tok _, ⟨_, rfl⟩, q⟩
theorem opB0 {f : Value → Value → Sem Value} {g : Int → Int → Bool}
    (rule : ∀ (i j : Int) (t u : Tok) (s : Shared) (Q : Value → Shared → Prop) (E : Value → Shared → Prop), Q (.bool (g i j)) s → wpAny (model X.prog X.w) X.A (f (.int i t) (.int j u)) Q E s) :
    OpR X f (rI0 fun i j => .bl (g i j)) := by
  intro pins s σ H x y v u Q I rx ry h
  obtain ⟨i, j, rfl, rfl, q⟩ := h
  obtain ⟨t, rfl⟩ := rx
  obtain ⟨t', rfl⟩ := ry
  exact rule i j t t' s _ _ ⟨.bl (g i j), H, I, rfl, q⟩
def CDiv (i j : Int) : Prop := 0 < j ∧ j < 1073741824
def CPow (i j : Int) : Prop := 0 ≤ j ∧ j ≤ 1000000 ∧ i.natAbs < 2 ^ 64
def CMul (i j : Int) : Prop := (-(2 ^ 64) < i ∧ i < 2 ^ 64) ∨ (-(2 ^ 64) < j ∧ j < 2 ^ 64)
theorem CMul.ok {i j : Int} (h : CMul i j) : IntMulOk i j := by
  rcases h with ⟨h1, h2⟩ | ⟨h1, h2⟩
  · exact .of_left (intBits_le_64 h1 h2)
  · exact .of_right (intBits_le_64 h1 h2)
theorem op_add : OpR X (binaryOp .Add) (rI0 fun i j => .int (i + j)) := opI0 fun _ _ _ _ _ _ _ q => add_int q
theorem op_sub : OpR X (binaryOp .Sub) (rI0 fun i j => .int (i - j)) := opI0 fun _ _ _ _ _ _ _ q => sub_int q
theorem op_mul : OpR X (binaryOp .Mult) (rI CMul fun i j => .int (i * j)) := opI fun _ _ _ _ _ _ _ hc q => mul_int q hc.ok
theorem op_fdiv : OpR X (binaryOp .FloorDiv) (rI CDiv fun i j => .int (i / j)) := opI fun i j _ _ _ _ _ hc q => by
  have h1 : (0 : Int) < j := hc.1
  have h2 : j < 1073741824 := hc.2
  exact floordiv_int (by omega) (by rw [Int.fdiv_eq_ediv_of_nonneg i (by omega)]; exact q) (.inl (PyProof.noPylong_small (by omega)))
theorem op_mod : OpR X (binaryOp .Mod) (rI (fun _ j => 0 < j) fun i j => .int (i % j)) := opI fun i j _ _ _ _ _ hc q => by
  have h1 : (0 : Int) < j := hc
  exact mod_int' (by omega) (by rw [Int.fmod_eq_emod_of_nonneg i (by omega)]; exact q)
theorem op_pow : OpR X (binaryOp .Pow) (rI CPow fun i j => .int (i ^ j.toNat)) := opI fun _ _ _ _ _ _ _ hc q => pow_int_small hc.1 hc.2.1 hc.2.2 q
theorem unI {f : Value → Sem Value} {g : Int → Int}
    (rule : ∀ (i : Int) (t : Tok) (s : Shared) (Q : Value → Shared → Prop) (E : Value → Shared → Prop), Q (.int (g i) s.toks) { s with toks := s.toks + 1 } → wpAny (model X.prog X.w) X.A (f (.int i t)) Q E s) :
    UnR X f (rU fun i => .int (g i)) := by
  intro pins s σ H x v Q I rx h
  obtain ⟨i, rfl, q⟩ := h
  obtain ⟨t, rfl⟩ := rx
  exact rule i t s _ _ ⟨.int (g i), H, I.tok _, ⟨_, rfl⟩, q⟩
theorem un_neg : UnR X (unaryOp .USub) (rU fun i => .int (-i)) := unI fun _ _ _ _ _ q => neg_int q
end
def scal : V → V → Bool
  | .non, .non => true | .non, .int _ => true | .int _, .non => true | .non, .bl _ => true | .bl _, .non => true | .non, .str _ => true | .str _, .non => true
  | .int _, .int _ => true | .bl _, .bl _ => true | .str _, .str _ => true | .byt _, .byt _ => true
  | .int _, .str _ => true | .str _, .int _ => true | .bl _, .str _ => true | .str _, .bl _ => true
  | _, _ => false
def rEq : R2 := fun x y H Q => scal x y = true ∧ Q (.bl (decide (x = y))) H
def rNe : R2 := fun x y H Q => scal x y = true ∧ Q (.bl (!decide (x = y))) H
theorem dec_int {i j : Int} : decide (V.int i = V.int j) = (i == j) := by
  rw [Bool.eq_iff_iff]
  simp
theorem dec_bl {i j : Bool} : decide (V.bl i = V.bl j) = (i == j) := by
  rw [Bool.eq_iff_iff]
  simp
theorem dec_str {i j : Str} : decide (V.str i = V.str j) = (i == j) := by
  rw [Bool.eq_iff_iff]
  simp
theorem dec_byt {i j : Array UInt8} : decide (V.byt i = V.byt j) = (i.toList == j.toList) := by
  rw [Bool.eq_iff_iff]
  cases i
  cases j
  simp
section
variable {X : Cx} {a b c : Expr} {ta tb tc : TE} {pos : Pos}
theorem fin_bl {pins : List (Addr × Obj)} {σ : St} {H : Hp} {s : Shared} {Q : VK} {k k' : Bool} (I : Inv X pins σ H s) (q : Q (.bl k) H) (e : k = k') : EP X pins σ Q (.bool k') s := by
  subst e
  exact ⟨.bl k, H, I, rfl, q⟩
theorem op_eq : OpR X (compareOp .Eq) rEq := by
  intro pins s σ H x y v u Q I rx ry h
  obtain ⟨hs, q⟩ := h
  cases x with
  | non =>
    cases rx
    cases y with
    | non => cases ry; exact PySem.EqNone.eq_none_none (fin_bl I q (by simp))
    | bl j => cases ry; exact PySem.EqNone.eq_none_bool (fin_bl I q (by simp))
    | int j => obtain ⟨t', rfl⟩ := ry; exact PySem.EqNone.eq_none_int (fin_bl I q (by simp))
    | str j => obtain ⟨t', rfl⟩ := ry; exact PySem.EqNone.eq_none_str (fin_bl I q (by simp))
    | _ => exact absurd (show false = true from hs) Bool.false_ne_true
  | bl i =>
    cases rx
    cases y with
    | non => cases ry; exact PySem.EqNone.eq_bool_none (fin_bl I q (by simp))
    | bl j => cases ry; exact eq_bool (fin_bl I q dec_bl)
    | str j => obtain ⟨t', rfl⟩ := ry; exact PySem.EqMixed.eq_bool_str (fin_bl I q (by simp))
    | _ => exact absurd (show false = true from hs) Bool.false_ne_true
  | int i =>
    obtain ⟨t, rfl⟩ := rx
    cases y with
    | non => cases ry; exact PySem.EqNone.eq_int_none (fin_bl I q (by simp))
    | int j => obtain ⟨t', rfl⟩ := ry; exact eq_int (fin_bl I q dec_int)
    | str j => obtain ⟨t', rfl⟩ := ry; exact PySem.EqMixed.eq_int_str (fin_bl I q (by simp))
    | _ => exact absurd (show false = true from hs) Bool.false_ne_true
  | str i =>
    obtain ⟨t, rfl⟩ := rx
    cases y with
    | non => cases ry; exact PySem.EqNone.eq_str_none (fin_bl I q (by simp))
    | bl j => cases ry; exact PySem.EqMixed.eq_str_bool (fin_bl I q (by simp))
    | int j => obtain ⟨t', rfl⟩ := ry; exact PySem.EqMixed.eq_str_int (fin_bl I q (by simp))
    | str j => obtain ⟨t', rfl⟩ := ry; exact eq_str (fin_bl I q dec_str)
    | _ => exact absurd (show false = true from hs) Bool.false_ne_true
  | byt i =>
    obtain ⟨t, rfl⟩ := rx
    cases y with
    | byt j => obtain ⟨t', rfl⟩ := ry; exact PySem.W.eq_bytes (fin_bl I q dec_byt)
    | _ => exact absurd (show false = true from hs) Bool.false_ne_true
  | _ => cases y <;> exact absurd (show false = true from hs) Bool.false_ne_true
theorem op_ne : OpR X (compareOp .NotEq) rNe := by
  intro pins s σ H x y v u Q I rx ry h
  obtain ⟨hs, q⟩ := h
  cases x with
  | non =>
    cases rx
    cases y with
    | non => cases ry; exact PySem.EqNone.ne_none_none (fin_bl I q (by simp))
    | bl j => cases ry; exact PySem.EqNone.ne_none_bool (fin_bl I q (by simp))
    | int j => obtain ⟨t', rfl⟩ := ry; exact PySem.EqNone.ne_none_int (fin_bl I q (by simp))
    | str j => obtain ⟨t', rfl⟩ := ry; exact PySem.EqNone.ne_none_str (fin_bl I q (by simp))
    | _ => exact absurd (show false = true from hs) Bool.false_ne_true
  | bl i =>
    cases rx
    cases y with
    | non => cases ry; exact PySem.EqNone.ne_bool_none (fin_bl I q (by simp))
    | bl j => cases ry; exact ne_bool (fin_bl I q (congrArg not dec_bl))
    | str j => obtain ⟨t', rfl⟩ := ry; exact PySem.EqMixed.ne_bool_str (fin_bl I q (by simp))
    | _ => exact absurd (show false = true from hs) Bool.false_ne_true
  | int i =>
    obtain ⟨t, rfl⟩ := rx
    cases y with
    | non => cases ry; exact PySem.EqNone.ne_int_none (fin_bl I q (by simp))
    | int j => obtain ⟨t', rfl⟩ := ry; exact ne_int (fin_bl I q (congrArg not dec_int))
    | str j => obtain ⟨t', rfl⟩ := ry; exact PySem.EqMixed.ne_int_str (fin_bl I q (by simp))
    | _ => exact absurd (show false = true from hs) Bool.false_ne_true
  | str i =>
    obtain ⟨t, rfl⟩ := rx
    cases y with
    | non => cases ry; exact PySem.EqNone.ne_str_none (fin_bl I q (by simp))
    | bl j => cases ry; exact PySem.EqMixed.ne_str_bool (fin_bl I q (by simp))
    | int j => obtain ⟨t', rfl⟩ := ry; exact PySem.EqMixed.ne_str_int (fin_bl I q (by simp))
    | str j => obtain ⟨t', rfl⟩ := ry; exact ne_str (fin_bl I q (congrArg not dec_str))
    | _ => exact absurd (show false = true from hs) Bool.false_ne_true
  | byt i =>
    obtain ⟨t, rfl⟩ := rx
    cases y with
    | byt j => obtain ⟨t', rfl⟩ := ry; exact PySem.W.ne_bytes (fin_bl I q (congrArg not dec_byt))
    | _ => exact absurd (show false = true from hs) Bool.false_ne_true
  | _ => cases y <;> exact absurd (show false = true from hs) Bool.false_ne_true
theorem op_lt : OpR X (compareOp .Lt) (rI0 fun i j => .bl (decide (i < j))) := opB0 fun _ _ _ _ _ _ _ q => lt_int q
theorem op_gt : OpR X (compareOp .Gt) (rI0 fun i j => .bl (decide (j < i))) := opB0 fun _ _ _ _ _ _ _ q => gt_int q
theorem op_ge : OpR X (compareOp .GtE) (rI0 fun i j => .bl (decide (j ≤ i))) := opB0 fun _ _ _ _ _ _ _ q => ge_int q
theorem nomark (b : Expr) {op : CmpOp} (h : op ≠ .In := by decide) (h2 : op ≠ .NotIn := by decide) : behindInMarks op b = false := by
  have e1 : (op == CmpOp.In) = false := by cases op <;> first | rfl | exact absurd rfl h
  have e2 : (op == CmpOp.NotIn) = false := by cases op <;> first | rfl | exact absurd rfl h2
  cases b <;> simp [behindInMarks, e1, e2]
theorem pe_cmpR {op : CmpOp} {r : R2} (ho : OpR X (compareOp op) r) (ha : PE X a ta) (hb : PE X b tb) (hm : behindInMarks op b = false) : PE X (.Compare a [op] [b] pos) (tOp r ta tb) := by
  intro pins s σ H Q I h
  exact wpAny_Compare1 (binT ha hb I h fun v u s2 x y H2 I2 rx ry q => ho pins s2 σ H2 x y v u Q I2 rx ry q) hm
def tTest (t : TE) : TT := fun σ H Q => t σ H fun x H' => ∃ k, x = .bl k ∧ Q k H'
theorem pt_cmpR {op : CmpOp} {r : R2} (ho : OpR X (compareOp op) r) (ha : PE X a ta) (hb : PE X b tb) (hm : behindInMarks op b = false) : PT X (.Compare a [op] [b] pos) (tTest (tOp r ta tb)) := by
  intro pins s σ H Q I h
  refine wpAny_isTrue_Compare1 (thn (ha pins s σ H _ I h) fun v s1 ⟨x, H1, I1, r1, q1⟩ => thn (hb pins s1 σ H1 _ I1 q1) fun u s2 ⟨y, H2, I2, r2, q2⟩ =>
    thn (ho pins s2 σ H2 x y v u _ I2 r1 r2 q2) fun c s3 ⟨z, H3, I3, r3, k, e, q3⟩ => ?_) hm
  subst e
  cases r3
  exact wpAny_truthy_bool ⟨H3, I3, q3⟩
def TruV (K : PySem.W.Frag) (x : V) (H : Hp) (k : Bool) : Prop :=
  match x with
  | .non => k = false
  | .bl b => k = b
  | .int i => k = (i != 0)
  | .str y => y.length ≤ sizeLine ∧ k = ((y.length : Int) != 0)
  | .byt y => y.size ≤ sizeLine ∧ k = ((y.size : Int) != 0)
  | .ref p => (∃ xs, SqL K H p xs ∧ k = !xs.isEmpty) ∨ (∃ xs, SqT K H p xs ∧ k = !xs.isEmpty) ∨ ∃ kvs, H p = some (.dK kvs) ∧ k = !kvs.isEmpty
  | _ => False
theorem isEmpty_kv {κ : Type} {kvs : List (κ × V)} {vs : List (κ × Value)} (r : KV kvs vs) : (!vs.isEmpty) = !kvs.isEmpty := by
  cases r <;> rfl
theorem isEmpty_of {xs : List V} {its : List Value} (r : Vals xs its) : (!its.toArray.isEmpty) = !xs.isEmpty := by
  cases r <;> simp
theorem line63 : (sizeLine : Nat) < 2 ^ 63 := by rw [sizeLine_eq]; decide
theorem tru_ok : TruR X (fun x H Q => ∃ k, TruV X.K x H k ∧ Q k H) := by
  intro pins s σ H x v Q I rx h
  obtain ⟨k, e, q⟩ := h
  have hl := line63
  have hs : sizeLine = 16777216 := sizeLine_eq
  cases x with
  | non =>
    cases rx
    have e' : k = false := e
    subst e'
    exact truthy_none ⟨H, I, q⟩
  | bl b =>
    cases rx
    have e' : k = b := e
    subst e'
    exact wpAny_truthy_bool ⟨H, I, q⟩
  | int i =>
    obtain ⟨t, rfl⟩ := rx
    have e' : k = (i != 0) := e
    subst e'
    exact PySem.P.truthy_int ⟨H, I, q⟩
  | str y =>
    obtain ⟨t, rfl⟩ := rx
    obtain ⟨hy, e'⟩ : y.length ≤ sizeLine ∧ k = ((y.length : Int) != 0) := e
    subst e'
    exact PySem.P.truthy_str (by omega) ⟨H, I.tok _, q⟩
  | byt y =>
    obtain ⟨t, rfl⟩ := rx
    obtain ⟨hy, e'⟩ : y.size ≤ sizeLine ∧ k = ((y.size : Int) != 0) := e
    subst e'
    exact PySem.W.truthy_bytes (by omega) ⟨H, I.tok _, q⟩
  | ref p =>
    cases rx
    have e' : (∃ xs, SqL X.K H p xs ∧ k = !xs.isEmpty) ∨ (∃ xs, SqT X.K H p xs ∧ k = !xs.isEmpty) ∨ ∃ kvs, H p = some (.dK kvs) ∧ k = !kvs.isEmpty := e
    rcases e' with ⟨xs, hx, e'⟩ | ⟨xs, hx, e'⟩ | ⟨kvs, hx, e'⟩
    · subst e'
      obtain ⟨its, r, pl, hz⟩ := I.list hx
      have hlen := r.length
      exact wpAny_truthy_list pl.isList (by simp only [List.size_toArray]; omega) ⟨H, I.tok _, by rw [isEmpty_of r]; exact q⟩
    · subst e'
      obtain ⟨its, r, pl, hz⟩ := I.tuple hx
      have hlen := r.length
      exact truthy_tuple pl (by simp only [List.size_toArray]; omega) ⟨H, I.tok _, by rw [isEmpty_of r]; exact q⟩
    · subst e'
      obtain ⟨hz, hS, vs, r, m⟩ : kvs.length ≤ sizeLine ∧ (p == sysModules) = false ∧ ∃ vs, KV kvs vs ∧ s.heap.DictOf (mixKind X.prog X.w) p vs := I.hok p _ hx
      have hlen : kvs.length = vs.length := Paired.length r
      exact wpAny_truthy_dict hS m (by omega) ⟨H, I.tok _, by rw [isEmpty_kv r]; exact q⟩
  | _ => exact (show False from e).elim
theorem pt_truth (ha : PE X a ta) (he : ∀ whole, isTrue a X.env whole = (do let v ← whole; standAt a.pos; holding [v] (truthy v))) :
    PT X a (fun σ H Q => ta σ H fun x H' => ∃ k, TruV X.K x H' k ∧ Q k H') := by
  intro pins s σ H Q I h
  exact isTrue_plain (thn (ha pins s σ H _ I h) fun v s1 ⟨x, H1, I1, r1, q1⟩ => tru_ok pins s1 σ H1 x v Q I1 r1 q1) (he _)
theorem op_add_str : OpR X (binaryOp .Add) (fun x y H Q => ∃ i j, x = .str i ∧ y = .str j ∧ i.length + j.length ≤ sizeLine ∧ Q (.str (i ++ j)) H) := by
  intro pins s σ H x y v u Q I rx ry h
  obtain ⟨i, j, rfl, rfl, hz, q⟩ := h
  obtain ⟨t, rfl⟩ := rx
  obtain ⟨t', rfl⟩ := ry
  exact add_str (fun t' tk => ⟨.str (i ++ j), H, I.tok _, ⟨_, rfl⟩, q⟩) hz
theorem vals1 {x : V} {us : List Value} (r : Vals [x] us) : ∃ u, us = [u] ∧ RelV x u := by
  cases r with
  | cons r1 r2 => cases r2; exact ⟨_, rfl, r1⟩
theorem vals2 {x y : V} {us : List Value} (r : Vals [x, y] us) : ∃ u w', us = [u, w'] ∧ RelV x u ∧ RelV y w' := by
  cases r with
  | cons r1 r2 =>
    cases r2 with
    | cons r3 r4 => cases r4; exact ⟨_, _, rfl, r1, r3⟩
theorem call_abs : CallR X (.builtin "abs") (fun xs H Q => ∃ i, xs = [.int i] ∧ Q (.int (if i < 0 then -i else i)) H) := by
  intro pins s σ H xs us Q I r h
  obtain ⟨i, rfl, q⟩ := h
  obtain ⟨u, rfl, t, rfl⟩ := vals1 r
  exact call_abs_int fun u tk => ⟨.int (if i < 0 then -i else i), H, I.tok _, ⟨_, rfl⟩, q⟩
theorem call_int1 : CallR X (.type "int") (fun xs H Q => (∃ i, xs = [.int i] ∧ Q (.int i) H) ∨ ∃ k, xs = [.bl k] ∧ Q (.int (if k then 1 else 0)) H) := by
  intro pins s σ H xs us Q I r h
  rcases h with ⟨i, rfl, q⟩ | ⟨k, rfl, q⟩
  · obtain ⟨u, rfl, t, rfl⟩ := vals1 r
    exact call_int_int ⟨.int i, H, I, ⟨_, rfl⟩, q⟩
  · obtain ⟨u, rfl, r1⟩ := vals1 r
    cases r1
    exact call_int_bool ⟨.int (if k then 1 else 0), H, I.tok _, ⟨_, rfl⟩, q⟩
end
end L2
namespace L2
open PySem PySem.Spec PyProof.Rows
structure ObjM (h : Heap) (x dx C : Addr) (mA : Str → Option Value) : Prop where
  obj : h.get? x = some (PySem.W.instObj C dx)
  ns : h.Ns1 dx mA
  ne : dx ≠ x
theorem lookIn_ns {h : Heap} {dx : Addr} {mA : Str → Option Value} (n : h.Ns1 dx mA) : ∃ od, h.get? dx = some od ∧ ∀ name, PySem.W.lookIn name od = some (mA name) := by
  obtain ⟨o, es, ep, ho, hd, hk, _, hm⟩ := n
  refine ⟨o, ho, fun name => ?_⟩
  have e := hm name
  unfold nsFind findBy at e
  rw [← Array.find?_toList] at e
  unfold PySem.W.lookIn
  rw [hd]
  dsimp only
  split
  · rename_i y q
    rw [q] at e
    exact congrArg some e
  · rename_i q
    rw [q] at e
    have a : es.toList.any (·.refKey) = false := by
      rw [List.any_eq_false]
      intro y hy
      obtain ⟨z, t, hkey⟩ := hk y (Array.mem_toList_iff.mp hy)
      simp [DictEntry.refKey, hkey]
    have a' : ¬ es.toList.any (·.refKey) = true := by rw [a]; exact Bool.false_ne_true
    rw [if_neg a']
    exact congrArg some e
theorem ObjM.look {h : Heap} {x dx C : Addr} {mA : Str → Option Value} (I : ObjM h x dx C mA) : ∃ od, PySem.W.InstAt h x (PySem.W.instObj C dx) C (some od) ∧ ∀ name, PySem.W.lookIn name od = some (mA name) :=
  let ⟨od, ho, hl⟩ := lookIn_ns I.ns
  ⟨od, ⟨I.obj, rfl, rfl, ho⟩, hl⟩
section
variable {prog : Program} {w : World} {A : Around} {E : Value → Shared → Prop} {s : Shared} {K : PySem.W.Frag} {x dx C f : Addr} {mA : Str → Option Value} {name : Str} {v : Value}
end
theorem RelO.some_of {v : V} {o : Option Value} (r : RelO (some v) o) : ∃ u, o = some u ∧ RelV v u := by
  cases o with
  | none => exact (show False from r).elim
  | some u => exact ⟨u, rfl, r⟩
section
variable {P : Program} {w : World} {H H' : Hp} {h h' : Heap} {a C dx : Addr} {fs fs' : List (Str × V)}
theorem ins_get (hok : HOk P w H h) (e : H a = some (.ins C dx fs)) : ∃ mA, ObjM h a dx C mA ∧ (∀ f, RelO (fs.lookup f) (mA f)) ∧ PySem.Within mA (fs.map (·.1)) ∧ fs.length ≤ 1000 ∧ H dx = some (.own a) := by
  obtain ⟨d, z, ne, ob, mA, n, r, q⟩ := (show ObjOk P w H h a (.ins C dx fs) from hok a _ e)
  exact ⟨mA, ⟨ob, n, ne⟩, r, q, z, d⟩
end
structure Cls (K : PySem.W.Frag) (C : Addr) : Prop where
  pg : PySem.W.plainGet K C Str.empty = true
  hd : PySem.W.hasDictIn K C = true
  po : PySem.W.plainOver K C = true
  sa : PySem.W.findIn K (.ref C) "__setattr__" = some (some (.builtin "object.__setattr__"))
theorem Cls.get {K : PySem.W.Frag} {C : Addr} (c : Cls K C) (f : Str) : PySem.W.plainGet K C f = true := c.pg
section
variable {X : Cx} {pins : List (Addr × Obj)} {σ : St} {H : Hp} {s : Shared} {a C dx : Addr} {fs : List (Str × V)} {f : Str} {v : V} {A : Around} {E : Value → Shared → Prop}
end
section
variable {X : Cx} {o e value : Expr} {f : Str} {pos pos' tpos : Pos} {ta tv : TE}
end
section
variable {X : Cx} {pins : List (Addr × Obj)} {σ : St} {H : Hp} {s : Shared} {A : Around} {E : Value → Shared → Prop} {Q : Value → Shared → Prop} {c : Value} {b : Bool}
inductive TyOf (K : PySem.W.Frag) (H : Hp) : V → Value → Prop where
  | non : TyOf K H .non (.type "NoneType")
  | bl (x : Bool) : TyOf K H (.bl x) (.type "bool")
  | int (i : Int) : TyOf K H (.int i) (.type "int")
  | str (x : Str) : TyOf K H (.str x) (.type "str")
  | flt (x : UInt64) : TyOf K H (.flt x) (.type "float")
  | lst {a : Addr} {xs : List V} (e : H a = some (.lst xs)) : TyOf K H (.ref a) (.type "list")
  | frz {a : Addr} {o : Obj} {xs : List V} (e : H a = some (.frz o (.lst xs))) : TyOf K H (.ref a) (.type "list")
  | tup {a : Addr} {xs : List V} (e : H a = some (.tup xs)) : TyOf K H (.ref a) (.type "tuple")
  | dK {a : Addr} {kvs : List (Key × V)} (e : H a = some (.dK kvs)) : TyOf K H (.ref a) (.type "dict")
  | dT {a : Addr} {kvs : List (List Key × V)} (e : H a = some (.dT kvs)) : TyOf K H (.ref a) (.type "dict")
  | ins {a C dx : Addr} {fs : List (Str × V)} (e : H a = some (.ins C dx fs)) (cl : Cls K C) (ha : PySem.W.findIn K (.ref C) "__class__" = some (some (.builtin "object.__class__")))
      (hn : PySem.W.specialIn K (.builtin "object.__class__") "__get__" = some (some (.builtin "getset_descriptor.__get__"))) (htk : PySem.W.takesIn K (.builtin "object.__class__") = some true)
      (hm : PySem.W.mroIn K C (.type "object") = some true) : TyOf K H (.ref a) (.ref C)
theorem isinst_ok {x : V} {u t : Value} (I : Inv X pins σ H s) (rx : RelV x u) (ty : TyOf X.K H x t) (e : PySem.W.kitOne X.K t c = some b) (h : ∀ tk, Q (.bool b) { s with toks := tk }) :
    wpAny (model X.prog X.w) A (call (.builtin "isinstance") [u, c]) Q E s := by
  cases ty with
  | non => cases (show u = Value.none from rx); exact PySem.W.kia_one PySem.W.kitx_none I.kIn True.intro e (fun z => nomatch z) h
  | bl y => cases (show u = Value.bool y from rx); exact PySem.W.kia_one PySem.W.kitx_bool I.kIn True.intro e (fun z => nomatch z) h
  | int i => obtain ⟨t, q⟩ := (show ∃ t, u = Value.int i t from rx); cases q; exact PySem.W.kia_one PySem.W.kitx_int I.kIn True.intro e (fun z => nomatch z) h
  | str y => obtain ⟨t, q⟩ := (show ∃ t, u = Value.str y t from rx); cases q; exact PySem.W.kia_one PySem.W.kitx_str I.kIn True.intro e (fun z => nomatch z) h
  | flt y => obtain ⟨t, q⟩ := (show ∃ t, u = Value.float y t from rx); cases q; exact PySem.W.kia_one PySem.W.kitx_float I.kIn True.intro e (fun z => nomatch z) h
  | @lst a xs ea =>
    cases (show u = Value.ref a from rx)
    obtain ⟨_, _, n, _, h1⟩ := (show ObjOk X.prog X.w H s.heap a (.lst xs) from I.hok a _ ea)
    exact PySem.W.kia_one PySem.W.kitx_list I.kIn ⟨_, h1, rfl⟩ e (fun z => nomatch z) h
  | @frz a ob xs ea =>
    cases (show u = Value.ref a from rx)
    obtain ⟨_, _, _, n, _, h1⟩ := (show ObjOk X.prog X.w H s.heap a (.frz ob (.lst xs)) from I.hok a _ ea)
    exact PySem.W.kia_one PySem.W.kitx_list I.kIn ⟨_, h1, rfl⟩ e (fun z => nomatch z) h
  | @tup a xs ea =>
    cases (show u = Value.ref a from rx)
    obtain ⟨_, _, _, p⟩ := (show ObjOk X.prog X.w H s.heap a (.tup xs) from I.hok a _ ea)
    obtain ⟨o, h1, h2, _⟩ := p
    exact PySem.W.kia_one PySem.W.kitx_tuple I.kIn ⟨o, h1, h2⟩ e (fun z => nomatch z) h
  | @dK a kvs ea =>
    cases (show u = Value.ref a from rx)
    obtain ⟨_, _, vs, _, p⟩ := (show ObjOk X.prog X.w H s.heap a (.dK kvs) from I.hok a _ ea)
    obtain ⟨o, es, ep, h1, h2, _⟩ := p
    exact PySem.W.kia_one PySem.W.kitx_dict I.kIn ⟨o, h1, h2.1⟩ e (fun z => nomatch z) h
  | @dT a kvs ea =>
    cases (show u = Value.ref a from rx)
    obtain ⟨_, _, xs, _, o, es, ep, h1, h2, _⟩ := (show ObjOk X.prog X.w H s.heap a (.dT kvs) from I.hok a _ ea)
    exact PySem.W.kia_one PySem.W.kitx_dict I.kIn ⟨o, h1, h2.1⟩ e (fun z => nomatch z) h
  | @ins a C dx fs ea cl ha hn htk hm =>
    cases (show u = Value.ref a from rx)
    obtain ⟨mA, O, _⟩ := ins_get I.hok ea
    obtain ⟨od, J, _⟩ := O.look
    exact PySem.W.kia_one (PySem.W.kitx_own (cl.get _) cl.hd ha hn htk hm) I.kIn J e (fun z => nomatch z) h
end
end L2
namespace L2
open PySem PySem.Spec PyProof.Rows
structure Room (k : Nat) (A : Around) : Prop where
  hd : A.handled = none
  dp : A.depth + 3 * k + 5 < recursionLimit
  un : A.units + 16 * k + 200 < cLine
  gd : A.guards = some []
theorem Room.mono {j k : Nat} {A : Around} (r : Room k A) (h : j ≤ k) : Room j A := ⟨r.hd, by have := r.dp; omega, by have := r.un; omega, r.gd⟩
theorem Room.deeper {k : Nat} {A : Around} (r : Room (k + 1) A) (env : Env) : Room k (A.deeper env) :=
  ⟨r.hd, by have := r.dp; show A.depth + 1 + 3 * k + 5 < _; omega, by have := r.un; show A.units + 3 + 16 * k + 200 < _; omega, r.gd⟩
theorem Room.depth {k : Nat} {A : Around} (r : Room k A) : A.depth < recursionLimit := by have := r.dp; omega
theorem Room.units {k : Nat} {A : Around} (r : Room k A) : A.units + 64 < cLine := by have := r.un; omega
theorem Room.units0 {k : Nat} {A : Around} (r : Room k A) : A.units < cLine := by have := r.un; omega
def tNil : TA := fun _ H Q => Q [] H
def tCons (ta : TE) (tr : TA) : TA := fun σ H Q => ta σ H fun x H1 => tr σ H1 fun xs H2 => Q (x :: xs) H2
section
variable {X : Cx} {e : Expr} {es : List Expr} {te : TE} {t : TA} {pos : Pos}
theorem pa_nil : PA X [] tNil := fun _ _ _ _ H Q I h => Calls.spliced_nil ⟨[], H, I, .nil, h⟩
theorem pa_cons (ha : PE X e te) (hr : PA X es t) (hs : starEach (e :: es) X.env = (false, eval e X.env) :: starEach es X.env := by rfl) : PA X (e :: es) (tCons te t) := by
  intro pos pins s σ H Q I h
  rw [hs]
  show wpAny _ _ (spliced ((false, eval e X.env) :: backTo pos (starEach es X.env))) _ _ s
  refine Calls.spliced_cons (thn (ha pins s σ H _ I h) fun u s1 ⟨x, H1, I1, r1, q1⟩ => ?_)
  exact thn (hr pos pins s1 σ H1 _ I1 q1) fun us s2 ⟨xs, H2, I2, r2, q2⟩ => ⟨x :: xs, H2, I2, .cons r1 r2, q2⟩
def tTup (t : TA) : TE := fun σ H Q => t σ H fun xs H1 => xs.length ≤ sizeLine ∧ ∀ p, H1 p = none → Q (.ref p) (upd H1 p (.tup xs))
def tLst (t : TA) : TE := fun σ H Q => t σ H fun xs H1 => xs.length ≤ sizeLine ∧ ∀ p, H1 p = none → Q (.ref p) (upd H1 p (.lst xs))
theorem pe_tup {x1} (h : PA X es t) : PE X (.Tuple es x1 pos) (tTup t) := by
  intro pins s σ H Q I hq
  refine wpAny_Tuple_spliced (thn (h pos pins s σ H _ I hq) fun us s1 ⟨xs, H1, I1, r, z, q⟩ => ⟨by rw [← r.length]; exact z, ?_⟩)
  have hf : H1 s1.heap.objs.size = none := I1.hok.fresh (Nat.le_refl _)
  refine ⟨.ref s1.heap.objs.size, upd H1 s1.heap.objs.size (.tup xs), I1.laid (t' := s1.toks) (fun b u e => Heap.get?_push_of_some _ e) (Nat.le_refl _) ?_, rfl, q _ hf⟩
  exact ⟨z, us, r, ⟨_, Heap.get?_push_size _ rfl, rfl, _, rfl⟩⟩
theorem pe_lst (h : PA X es t) : PE X (.List es pos) (tLst t) := by
  intro pins s σ H Q I hq
  refine wpAny_List_spliced (thn (h pos pins s σ H _ I hq) fun us s1 ⟨xs, H1, I1, r, z, q⟩ => ⟨by rw [← r.length]; exact z, ?_⟩)
  have hf : H1 s1.heap.objs.size = none := I1.hok.fresh (Nat.le_refl _)
  refine ⟨.ref s1.heap.objs.size, upd H1 s1.heap.objs.size (.lst xs), I1.laid (t' := s1.toks) (fun b u e => Heap.get?_push_of_some _ e) (Nat.le_refl _) ?_, rfl, q _ hf⟩
  exact ⟨z, us, 0, r, Heap.get?_push_size _ rfl⟩
end
abbrev Sp := List V → Hp → VK → XK → Prop
abbrev CXT := List Env → Hp → Shared → XK → Value → Shared → Prop
structure Env0 (P : Program) (w : World) (K : PySem.W.Frag) (mg : Str → Option Value) (base : Heap) (A : Around) (outer : List Env) (s : Shared) (H : Hp) : Prop where
  frames : A.frames = some outer
  mod : Mod K mg base
  bs : ∀ b o, base.get? b = some o → s.heap.get? b = some o ∧ H b = none
  bsz : base.objs.size ≤ s.heap.objs.size
  funs : s.heap.FunFrames base outer
  frf : ∀ b ∈ frs outer, H b = none
  hok : HOk P w H s.heap
  bare : AllBare s.gens
def CE (outer : List Env) (P : Program) (w : World) (H : Hp) (s : Shared) (Q : VK) (u : Value) (s' : Shared) : Prop :=
  ∃ v H', s'.os = s.os ∧ AllBare s'.gens ∧ Un (frs outer) [] H H' s.heap s'.heap ∧ HOk P w H' s'.heap ∧ RelV v u ∧ Q v H'
def CR (CX : CXT) (outer : List Env) (P : Program) (w : World) (H : Hp) (s : Shared) (Q : VK) (E : XK) (r : Result) (s' : Shared) : Prop :=
  match r with
  | .ok (.ret u) => CE outer P w H s Q u s'
  | .ok _ => False
  | .error e => CX outer H s E e s'
structure FnOk (P : Program) (w : World) (K : PySem.W.Frag) (mg : Str → Option Value) (base : Heap) (CX : CXT) (k : Nat) (f : Addr) (fd : FuncData) (ps : List Str) (sp : Sp) : Prop where
  len : ∀ vs H Q E, sp vs H Q E → vs.length = ps.length
  run : ∀ (A : Around) (outer : List Env) (s : Shared) (H : Hp) (args : Args) (us : List Value) (vs : List V) (Q : VK) (E : XK), Room k A → Env0 P w K mg base A outer s H → BindsTo s fd args (ps.zip us) → Vals vs us → sp vs H Q E →
    codeAny (model P w) A (.call (.ref f) args) (CR CX outer P w H s Q E) s
section
variable {X : Cx} {pins : List (Addr × Obj)} {σ : St} {H : Hp} {s s' : Shared}
theorem Inv.env0 (I : Inv X pins σ H s) : Env0 X.prog X.w X.K X.mg X.base X.A X.stack s H :=
  ⟨I.ok.frames, I.ok.mod, I.bs, Nat.le_trans I.ok.bsz I.sz, I.stack, I.stkFree, I.hok, I.bare⟩
theorem Inv.after {Q : VK} {u : Value} (I : Inv X pins σ H s) (h : CE X.stack X.prog X.w H s Q u s') : EP X pins σ Q u s' := by
  obtain ⟨v, H', os, bare, un, hok, r, q⟩ := h
  obtain ⟨hh, g, d, t, os'⟩ := s'
  obtain rfl : os' = s.os := os
  exact ⟨v, H', I.call (h' := hh) (g' := g) (d' := d) (t' := t) (ch := []) un hok bare (fun b z => absurd z (by simp)), r, q⟩
end
def tCall (sp : Sp) (dvs : List V) (E : XK) (t : TA) : TE := fun σ H Q => t σ H fun vs H1 => sp (vs ++ dvs) H1 Q E
def Binds (K : PySem.W.Frag) (fd : FuncData) (ps : List Str) (ds : List Value) : Prop :=
  ∀ (s : Shared) (us : List Value), K.In s.heap → (us ++ ds).length = ps.length → BindsTo s fd ⟨us, []⟩ (ps.zip (us ++ ds))
theorem Binds.all {K : PySem.W.Frag} {fd : FuncData} {ps : List Str} (h : ∀ us : List Value, us.length = ps.length → bindArgs fd ⟨us, []⟩ = pure (ps.zip us)) : Binds K fd ps [] := fun s us _ hl => by
  rw [List.append_nil] at hl ⊢
  exact .of_eq (h us hl)
def Passes (CX : CXT) (X : Cx) (E : XK) : Prop := ∀ (pins : List (Addr × Obj)) (σ : St) (H : Hp) (s : Shared) (e : Value) (s' : Shared), Inv X pins σ H s → CX X.stack H s E e s' → X.xe e s'
section
variable {X : Cx} {CX : CXT} {k : Nat} {f C : Addr} {fd : FuncData} {ps : List Str} {sp : Sp} {dvs : List V} {ds : List Value} {E : XK} {x m : Str} {p pos apos : Pos} {e o : Expr} {es : List Expr} {ta : TE} {t : TA}
theorem run_fn {pins : List (Addr × Obj)} {σ : St} {H : Hp} {s : Shared} {Q : VK} {us : List Value} {vs : List V} (F : FnOk X.prog X.w X.K X.mg X.base CX k f fd ps sp) (hr : Room k X.A) (hb : Binds X.K fd ps ds) (hd : Vals dvs ds) (hx : Passes CX X E)
    (I : Inv X pins σ H s) (r : Vals vs us) (h : sp (vs ++ dvs) H Q E) : wpAny (model X.prog X.w) X.A (call (.ref f) us) (EP X pins σ Q) X.xe s := by
  have r2 : Vals (vs ++ dvs) (us ++ ds) := r.append hd
  have hl : (us ++ ds).length = ps.length := by rw [← r2.length]; exact F.len _ _ _ _ h
  refine wpAny_call (codeAny_mono (F.run X.A X.stack s H ⟨us, []⟩ (us ++ ds) (vs ++ dvs) Q E hr I.env0 (hb s us I.kIn hl) r2 h) fun r s' hq => ?_)
  cases r with
  | error e => exact hx pins σ H s e s' I hq
  | ok fl =>
    cases fl with
    | ret u => exact I.after hq
    | next => exact False.elim hq
    | brk => exact False.elim hq
    | cont => exact False.elim hq
theorem pe_call (F : FnOk X.prog X.w X.K X.mg X.base CX k f fd ps sp) (hr : Room k X.A) (hg : Gl X x) (hm : X.mg x = some (.ref f)) (hk : PySem.W.keepIn X.K (.ref f) = true) (hb : Binds X.K fd ps ds) (hd : Vals dvs ds) (hx : Passes CX X E)
    (ha : PA X (e :: es) t) (hdb : (x == ("__debug__" : Str)) = false := by decide) (he : starEach (e :: es) X.env = (false, eval e X.env) :: starEach es X.env := by rfl) (hpl : (backTo pos (starEach es X.env)).any (·.1) = false := by rfl) :
    PE X (.Call (.Name x p) (e :: es) [] pos) (tCall sp dvs E t) := by
  intro pins s σ H Q I h
  refine wpAny_Call_Name_kw (ld_glob I hg hm ?_ hdb)
  refine PySem.W.callWith_K (h₀ := X.base) I.ok.mod.kin hk (thn (ha pos pins s σ H _ I h) fun us s1 ⟨vs, H1, I1, r, q⟩ => ⟨I1.kIn, ?_⟩) he hpl
  exact run_fn F hr hb hd hx I1 r q
theorem pe_call0 (F : FnOk X.prog X.w X.K X.mg X.base CX k f fd ps sp) (hr : Room k X.A) (hg : Gl X x) (hm : X.mg x = some (.ref f)) (hk : PySem.W.keepIn X.K (.ref f) = true) (hb : Binds X.K fd ps ds) (hd : Vals dvs ds) (hx : Passes CX X E)
    (hdb : (x == ("__debug__" : Str)) = false := by decide) : PE X (.Call (.Name x p) [] [] pos) (tCall sp dvs E tNil) := by
  intro pins s σ H Q I h
  refine wpAny_Call_Name_kw (ld_glob I hg hm ?_ hdb)
  exact PySem.W.callWith_K0 I.kIn hk (run_fn (us := []) F hr hb hd hx I .nil h)
end
section
variable {X : Cx} {CX : CXT} {k : Nat} {f C : Addr} {fd : FuncData} {ps ks : List Str} {sp : Sp} {E : XK} {x m : Str} {p pos apos kpos : Pos} {e o : Expr} {es : List Expr} {kws : List Keyword} {te ta : TE} {t tk : TA} {nm : Option Str}
variable {g : List Value → List Value → List Value} {gV : List V → List V → List V}
end
structure FnScope (N P : List Str) (sc : Scope) : Prop where
  kind : sc.kind = .function
  co : sc.isCoroutine = false
  gen : sc.isGenerator = false
  nd : N.Nodup
  pre : N.take P.length = P
  par : ∀ x ∈ P, sc.names.lookup x = some .local ∨ sc.names.lookup x = some .cell
  nofree : ∀ y ∈ sc.names, y.2 ≠ .free
theorem bindL_out {kindOf : Str → Option NameKind} {x : Str} : ∀ {binds : List (Str × Value)} {m : Str → Option Value}, (∀ v, (x, v) ∉ binds) → bindL kindOf binds m x = m x
  | [], _, _ => rfl
  | (n, v) :: r, m, h => by
    unfold bindL
    rw [bindL_out fun w hw => h w (List.mem_cons_of_mem _ hw)]
    split
    · have : x ≠ n := by rintro rfl; exact h v List.mem_cons_self
      simp [this]
    · rfl
theorem bindC_out {kindOf : Str → Option NameKind} {x : Str} : ∀ {binds : List (Str × Value)} {m : Str → Option Value}, (∀ v, (x, v) ∉ binds) → bindC kindOf binds m x = m x
  | [], _, _ => rfl
  | (n, v) :: r, m, h => by
    unfold bindC
    rw [bindC_out fun w hw => h w (List.mem_cons_of_mem _ hw)]
    split
    · rfl
    · have : x ≠ n := by rintro rfl; exact h v List.mem_cons_self
      simp [this]
theorem bindL_get {kindOf : Str → Option NameKind} {x : Str} {v : Value} : ∀ {P : List Str} {vs : List Value} {i : Nat} {m : Str → Option Value}, P.Nodup → P[i]? = some x → vs[i]? = some v → kindOf x = some .local →
    bindL kindOf (P.zip vs) m x = some v
  | [], _, _, _, _, h, _, _ => by simp at h
  | _ :: _, [], _, _, _, _, h, _ => by simp at h
  | p :: P, w :: vs, 0, m, nd, h1, h2, hk => by
    simp at h1 h2; subst h1; subst h2
    show bindL kindOf ((p, w) :: P.zip vs) m p = _
    unfold bindL
    rw [bindL_out fun v hv => (List.nodup_cons.mp nd).1 (List.of_mem_zip hv).1, if_pos hk]
    simp
  | p :: P, w :: vs, i + 1, m, nd, h1, h2, hk => by
    show bindL kindOf ((p, w) :: P.zip vs) m x = _
    unfold bindL
    exact bindL_get (i := i) (List.nodup_cons.mp nd).2 (by simpa using h1) (by simpa using h2) hk
theorem bindC_get {kindOf : Str → Option NameKind} {x : Str} {v : Value} : ∀ {P : List Str} {vs : List Value} {i : Nat} {m : Str → Option Value}, P.Nodup → P[i]? = some x → vs[i]? = some v → kindOf x ≠ some .local →
    bindC kindOf (P.zip vs) m x = some v
  | [], _, _, _, _, h, _, _ => by simp at h
  | _ :: _, [], _, _, _, _, h, _ => by simp at h
  | p :: P, w :: vs, 0, m, nd, h1, h2, hk => by
    simp at h1 h2; subst h1; subst h2
    show bindC kindOf ((p, w) :: P.zip vs) m p = _
    unfold bindC
    rw [bindC_out fun v hv => (List.nodup_cons.mp nd).1 (List.of_mem_zip hv).1, if_neg hk]
    simp
  | p :: P, w :: vs, i + 1, m, nd, h1, h2, hk => by
    show bindC kindOf ((p, w) :: P.zip vs) m x = _
    unfold bindC
    exact bindC_get (i := i) (List.nodup_cons.mp nd).2 (by simpa using h1) (by simpa using h2) hk
def start (N : List Str) (vs : List V) : St := vs.map some ++ List.replicate (N.length - vs.length) none
def cxOf (CX : CXT) (P : Program) (w : World) (K : PySem.W.Frag) (mg : Str → Option Value) (base : Heap) (N : List Str) (qual : Str) (scope : Scope) (f : Addr) (cd : Value) (A : Around) (outer : List Env) (s : Shared) (H : Hp) (E : XK) : Cx where
  prog := P
  w := w
  K := K
  mg := mg
  base := base
  A := A.deeper (envOfC qual scope s.heap.objs.size f cd)
  N := N
  s₀ := s
  H₀ := H
  env := envOfC qual scope s.heap.objs.size f cd
  outer := outer
  stack := envOfC qual scope s.heap.objs.size f cd :: outer
  ex := []
  calm := true
  fn := fun _ => true
  pn := []
  xe := fun e s' => wpAny (model P w) (A.deeper (envOfC qual scope s.heap.objs.size f cd)) (leaving (envOfC qual scope s.heap.objs.size f cd) e) (fun _ s'' => CX outer H s E e s'') (fun e' s'' => CX outer H s E e' s'') s'
theorem cell_has {sc : Scope} {n : Nat} {x : Str} (h : sc.names.lookup x = some .cell) : ∃ c, (cellsFrom n sc.names []).lookup x = some c := by
  have q := PySem.W.cellsFrom_some sc.names n [] (.inl h)
  exact Option.isSome_iff_exists.mp q
theorem inv_start {CX : CXT} {P : Program} {w : World} {K : PySem.W.Frag} {mg : Str → Option Value} {base : Heap} {N ps : List Str} {qual : Str} {scope : Scope} {f : Addr} {cd : Value} {A : Around} {outer : List Env} {s s1 : Shared} {H : Hp} {E : XK} {us : List Value} {vs : List V}
    (S : FnScope N ps scope) (hd : A.handled = none) (e0 : Env0 P w K mg base A outer s H) (hl : vs.length = ps.length) (r : Vals vs us)
    (x : InCallC s s.heap.objs.size (bindL (envOfC qual scope s.heap.objs.size f cd).kindOf (ps.zip us) fun _ => none) (cellsFrom (s.heap.objs.size + 1) scope.names []) (bindC (envOfC qual scope s.heap.objs.size f cd).kindOf (ps.zip us) fun _ => none) s1) :
    Inv (cxOf CX P w K mg base N qual scope f cd A outer s H E) [] (start N vs) H s1 := by
  have hpl : ps.length ≤ N.length := by have := congrArg List.length S.pre; rw [List.length_take] at this; omega
  obtain ⟨h1, tk, rfl, hk⟩ := x.done
  have noA : ∀ b : Addr, b ∉ (cxOf CX P w K mg base N qual scope f cd A outer s H E).ex := fun b z => absurd (show b ∈ ([] : List Addr) from z) (by simp)
  refine ⟨⟨e0.mod, S.kind, rfl, rfl, Nat.le_refl _, fun y z c h1 h2 => ?_, fun y hy => ?_, fun y c _ h => ?_, fun _ => hd, Around.frames_deeper e0.frames, .inr ⟨rfl, rfl⟩, fun b z => absurd z (noA b), e0.bs, e0.bsz, fun b _ _ => noA b, fun b z => absurd z (noA b), e0.funs, e0.frf⟩,
    rfl, e0.bare, Un.kept hk, ⟨_, x.toInCall.ns, fun i y v h1 h2 h3 => ?_⟩, fun y c h => ⟨_, x.cell y c h⟩, e0.hok.fresh (Nat.le_refl _), fun y c h => ?_, fun p hp => absurd (show p ∈ ([] : List (Addr × Obj)) from hp) (by simp), e0.hok.kept hk, ?_⟩
  · exact name_of_addr x.apart (PySem.mem_of_lookup h1) (PySem.mem_of_lookup h2)
  · have hy : scope.names.lookup y = some .cell ∨ scope.names.lookup y = some .free := hy
    rcases hy with hy | hy
    · exact cell_has hy
    · exact absurd rfl (S.nofree _ (PySem.mem_of_lookup hy))
  · exact Nat.le_of_lt (x.above y c (PySem.mem_of_lookup h))
  · have hi : i < vs.length := by
      unfold start at h2
      by_cases hi : i < vs.length
      · exact hi
      · rw [List.getElem?_append_right (by simpa using hi)] at h2
        rw [List.getElem?_replicate] at h2
        split at h2 <;> cases h2
    have ha : vs[i]? = some v := by
      unfold start at h2
      rw [List.getElem?_append_left (by simpa using hi), List.getElem?_map] at h2
      cases e : vs[i]? with
      | none => rw [e] at h2; cases h2
      | some a => rw [e] at h2; cases h2; rfl
    obtain ⟨u, hu, rv⟩ := r.get ha
    have hp : ps[i]? = some y := by
      rw [← S.pre, List.getElem?_take_of_lt (by omega)]; exact h1
    have ndP : ps.Nodup := by rw [← S.pre]; exact S.nd.sublist (List.take_sublist _ _)
    refine ⟨u, rv, ?_⟩
    rcases S.par y (List.mem_of_getElem? hp) with k | k
    · exact .inl ⟨k, bindL_get ndP hp hu k⟩
    · obtain ⟨c, e⟩ := cell_has (n := s.heap.objs.size + 1) k
      refine .inr ⟨.inl k, c, e, ?_⟩
      have q := x.cell y c e
      rw [bindC_get ndP hp hu (by show scope.names.lookup y ≠ _; rw [k]; decide)] at q
      exact q
  · exact e0.hok.fresh (Nat.le_of_lt (x.above y c (PySem.mem_of_lookup h)))
  · unfold start
    show _ = N.length
    rw [List.length_append, List.length_map, List.length_replicate]
    omega
theorem fn_of {CX : CXT} {P : Program} {w : World} {K : PySem.W.Frag} {mg : Str → Option Value} {base : Heap} {k : Nat} {f : Addr} {name qual : Str} {params : Arguments} {body : List Stmt} {scope : Scope} {dV kV doc pm cdv ct oc : Value} {an od : Option Addr}
    {osl : Array (Option Value)} {N ps : List Str} {sp : Sp} (lk : K.lookup f = some ⟨oc, od, .func (PySem.W.fnOf name qual params body scope dV kV doc pm an cdv ct), osl⟩) (hcd : PySem.W.codeIn K cdv qual = true) (S : FnScope N ps scope)
    (len : ∀ vs H Q E, sp vs H Q E → vs.length = ps.length)
    (hbody : ∀ (A : Around) (outer : List Env) (s : Shared) (H : Hp) (vs : List V) (Q : VK) (E : XK), Room k (A.deeper (envOfC qual scope s.heap.objs.size f cdv)) → sp vs H Q E →
      ∃ t, PSs (cxOf CX P w K mg base N qual scope f cdv A outer s H E) body t ∧ t { nx := fun _ H' => Q .non H', rt := Q } (start N vs) H) :
    FnOk P w K mg base CX (k + 1) f (PySem.W.fnOf name qual params body scope dV kV doc pm an cdv ct) ps sp := by
  refine ⟨len, fun A outer s H args us vs Q E hr e0 hb r hsp => ?_⟩
  have hl := len _ _ _ _ hsp
  have KX : K.In s.heap := e0.mod.kin.keeps fun b o e => (e0.bs b o e).1
  have lim : s.heap.NoLimit := e0.mod.nolimit.keeps fun b o e => (e0.bs b o e).1
  have hkind : ∀ y ∈ ps.zip us, scope.names.lookup y.1 = some .local ∨ (scope.names.lookup y.1 = some .cell ∧ ((cellsFrom (s.heap.objs.size + 1) scope.names []).lookup y.1).isSome = true) := fun ⟨n, v⟩ hy => by
    rcases S.par n (List.of_mem_zip hy).1 with q | q
    · exact .inl q
    · exact .inr ⟨q, PySem.W.cellsFrom_some _ _ _ (.inl q)⟩
  refine codeAny_call_function hr.depth (KX _ _ lk) rfl S.co S.gen rfl (PySem.W.codeRec_of KX hcd) (hb _ _ _ _ ?_)
  refine wpAny_newFunctionEnv_cells S.kind hkind fun env he s1 x => ?_
  subst he
  refine ⟨lim.keeps x.toInCall.keep, codeAny_func ?_⟩
  obtain ⟨t, ht, hq⟩ := hbody A outer s H vs Q E (hr.deeper _) hsp
  have I : Inv (cxOf CX P w K mg base N qual scope f cdv A outer s H E) [] (start N vs) H s1 := inv_start S hr.hd e0 hl r x
  refine wpAny_mono (ht [] s1 (start N vs) H _ I hq) (fun fl s' hs => ?_) fun e s' hs => hs
  have fin : ∀ {σ' : St} {H' : Hp} {v : V} {u : Value}, Inv (cxOf CX P w K mg base N qual scope f cdv A outer s H E) [] σ' H' s' → RelV v u → Q v H' → CE outer P w H s Q u s' :=
    fun {σ' H' v u} J rv q => ⟨v, H', J.os, J.bare, J.base, J.hok, rv, q⟩
  cases fl with
  | ret u =>
    obtain ⟨v, σ', H', J, rv, q⟩ := hs
    exact fin J rv q
  | next =>
    obtain ⟨σ', H', J, q⟩ := hs
    exact fin (v := V.non) (u := Value.none) J rfl q
  | brk =>
    obtain ⟨_, _, _, q⟩ := hs
    exact False.elim q
  | cont =>
    obtain ⟨_, _, _, q⟩ := hs
    exact False.elim q
end L2
namespace L2
open PySem PySem.Spec PyProof.Rows
section
variable {X : Cx} {x : Str} {p pos : Pos} {e : Expr} {es : List Expr} {t : TA} {id T : String} {r : List V → Hp → VK → Prop}
def tCB (r : List V → Hp → VK → Prop) (t : TA) : TE := fun σ H Q => t σ H fun vs H1 => r vs H1 Q
theorem pe_callB (hc : CallR X (.builtin id) r) (hg : Gl X x) (hm : X.mg x = none) (hv : bootBuiltins x = some (.builtin id)) (ha : PA X (e :: es) t) (hn : x ≠ "__name__" := by decide) (hdb : (x == ("__debug__" : Str)) = false := by decide)
    (he : starEach (e :: es) X.env = (false, eval e X.env) :: starEach es X.env := by rfl) (hpl : (backTo pos (starEach es X.env)).any (·.1) = false := by rfl) : PE X (.Call (.Name x p) (e :: es) [] pos) (tCB r t) := by
  intro pins s σ H Q I h
  refine wpAny_Call_Name_kw (ld_blt I hg hm hv ?_ hn hdb)
  exact PyProof.Rows.callWith_builtin1 (thn (ha pos pins s σ H _ I h) fun us s1 ⟨vs, H1, I1, r1, q1⟩ => hc pins s1 σ H1 vs us Q I1 r1 q1) he hpl
theorem pe_callTy (hc : CallR X (.type T) r) (hg : Gl X x) (hm : X.mg x = none) (hv : bootBuiltins x = some (.type T)) (ha : PA X (e :: es) t) (hn : x ≠ "__name__" := by decide) (hdb : (x == ("__debug__" : Str)) = false := by decide)
    (he : starEach (e :: es) X.env = (false, eval e X.env) :: starEach es X.env := by rfl) (hpl : (backTo pos (starEach es X.env)).any (·.1) = false := by rfl) : PE X (.Call (.Name x p) (e :: es) [] pos) (tCB r t) := by
  intro pins s σ H Q I h
  refine wpAny_Call_Name_kw (ld_blt I hg hm hv ?_ hn hdb)
  exact PyProof.Rows.callWith_type1 (thn (ha pos pins s σ H _ I h) fun us s1 ⟨vs, H1, I1, r1, q1⟩ => hc pins s1 σ H1 vs us Q I1 r1 q1) he hpl
end
end L2
namespace HT
open PySem PyProof.Rows
section
open PySem.SeqAt
open PySem.AutoSeq1 (wpAny_loadPart')
open PySem.MeetsSeq PySem.MeetsSeq2 PySem.MeetsSeq3
end
section
variable {prog : Program} {w : World} {A : Around} {E : Value → Shared → Prop} {s : Shared}
theorem cat_tup {t b : Addr} {vs ws : List Value} {Q : Value → Shared → Prop} (ht : IsTup s.heap t vs.toArray) (hb : IsTup s.heap b ws.toArray) (hv : vs ≠ [])
    (h1 : ws = [] → Q (.ref t) s) (h2 : ws ≠ [] → Q (.ref s.heap.objs.size) { s with heap := s.heap.push { cls := .type "tuple", data := .seq (vs ++ ws).toArray } })
    (hsz : vs.length + ws.length ≤ sizeLine) : wpAny (model prog w) A (binaryOp .Add (.ref t) (.ref b)) Q E s := by
  obtain ⟨⟨cls, dd, data, sl⟩, ho, hc, n, hd⟩ := id ht
  obtain ⟨⟨cls2, dd2, data2, sl2⟩, ho2, hc2, n2, hd2⟩ := id hb
  simp only at hc hd hc2 hd2
  subst hc hd hc2 hd2
  have e : vs.toArray ++ ws.toArray = (vs ++ ws).toArray := by simp
  by_cases hw : ws = []
  · exact concat_meets ⟨_, ho, rfl⟩ ⟨_, ho2, rfl⟩ noFill_tuple_add seq_tuple_add PySem.F.slot_tuple_add PySem.F.entry_tuple_add (PySem.F.args_tuple_add_2 _ _)
      (tuple_addW1 t b vs.toArray ws.toArray n n2 dd dd2 sl sl2 (by simpa using hv) (by simp [hw])) ⟨ho, ho2, h1 hw⟩
  · refine concat_meets ⟨_, ho, rfl⟩ ⟨_, ho2, rfl⟩ noFill_tuple_add seq_tuple_add PySem.F.slot_tuple_add PySem.F.entry_tuple_add (PySem.F.args_tuple_add_2 _ _)
      (tuple_addW2 t b vs.toArray ws.toArray n n2 dd dd2 sl sl2 (by simpa using hv) (by simpa using hw) (by rw [List.size_toArray, List.size_toArray]; exact hsz)) ⟨ho, ho2, ?_⟩
    rw [e]
    exact h2 hw
def sIx (n d : Nat) : Option Int → Nat
  | none => d
  | some v => if v < 0 then (v + (n : Int)).toNat else min v.toNat n
theorem sIx_none (n d : Nat) : sIx n d none = d := rfl
theorem sIx_nat (n d k : Nat) : sIx n d (some (k : Int)) = min k n := by
  show (if (k : Int) < 0 then ((k : Int) + (n : Int)).toNat else min (k : Int).toNat n) = min k n
  rw [if_neg (by omega), Int.toNat_natCast]
theorem sIx_le (n d : Nat) (hd : d ≤ n) (o : Option Int) : sIx n d o ≤ n := by
  cases o with
  | none => exact hd
  | some v =>
    show (if v < 0 then (v + (n : Int)).toNat else min v.toNat n) ≤ n
    by_cases hv : v < 0
    · rw [if_pos hv]; omega
    · rw [if_neg hv]; exact Nat.min_le_right _ _
theorem clip_eq (v : Int) (n d : Nat) : (if v < 0 then max (v + (n : Int)) 0 else min v (n : Int)) = ((sIx n d (some v) : Nat) : Int) := by
  show (if v < 0 then max (v + (n : Int)) 0 else min v (n : Int)) = (((if v < 0 then (v + (n : Int)).toNat else min v.toNat n) : Nat) : Int)
  by_cases hv : v < 0
  · simp only [if_pos hv]; omega
  · simp only [if_neg hv]; omega
theorem adjust_gen (lo hi : Option Int) (n : Nat) : Builtin.Slice.sliceAdjust lo hi 1 (n : Int) = (((sIx n 0 lo : Nat) : Int), ((sIx n n hi : Nat) : Int)) := by
  have h1 : ¬ ((1 : Int) < 0) := by omega
  unfold Builtin.Slice.sliceAdjust
  simp only [h1, if_false]
  refine Prod.ext ?_ ?_
  · cases lo with
    | none => rfl
    | some v => exact clip_eq v n 0
  · cases hi with
    | none => rfl
    | some v => exact clip_eq v n n
theorem places_gen (i j : Nat) : Builtin.Slice.slicePlaces (i : Int) (j : Int) 1 = j - i := by
  unfold Builtin.Slice.slicePlaces
  have h1 : (1 : Int) > 0 := by omega
  simp only [h1, if_true, Int.ediv_one]
  split <;> omega
theorem slicePart_ {v : Value} {o : Option Int} {Q : Option Int → Shared → Prop} (p : IsPart v o) (h : Q o s) : wpAny (model prog w) A (Builtin.Slice.slicePartIndex v) Q E s := by
  cases p with
  | none => exact slicePart_none h
  | int i t => exact slicePart_int h
theorem sliceApplied_gen {sl : Addr} {vl vu : Value} {lo hi : Option Int} {n : Nat} {Q : Int × Int × Nat → Shared → Prop} (hs : s.heap.IsSliceOf sl vl vu .none) (pl : IsPart vl lo) (pu : IsPart vu hi)
    (h : Q (((sIx n 0 lo : Nat) : Int), 1, sIx n n hi - sIx n 0 lo) s) : wpAny (model prog w) A (Builtin.Slice.sliceApplied (.ref sl) (pure (n : Int))) Q E s := by
  obtain ⟨os, hos, hcs, hds⟩ := id hs
  unfold Builtin.Slice.sliceApplied Builtin.Slice.sliceFields
  refine wpAny_bind (wpAny_bind (wpAny_field hos hds (x := vl) rfl (wpAny_bind (wpAny_field hos hds (x := vu) rfl (wpAny_bind (wpAny_field hos hds (x := .none) rfl (wpAny_pure ?_)))))))
  refine wpAny_bind (slicePart_none ?_)
  show wpAny _ _ (if ((1 : Int) == 0) = true then _ else _) _ _ s
  rw [if_neg (by decide)]
  refine wpAny_bind (slicePart_ pl (wpAny_bind (slicePart_ pu (wpAny_bind (wpAny_pure ?_)))))
  show wpAny _ _ (match Builtin.Slice.sliceAdjust lo hi 1 (n : Int) with | (lo, hi) => pure (lo, (1 : Int), Builtin.Slice.slicePlaces lo hi 1)) _ _ s
  rw [adjust_gen lo hi n]
  show wpAny _ _ (pure (((sIx n 0 lo : Nat) : Int), (1 : Int), Builtin.Slice.slicePlaces ((sIx n 0 lo : Nat) : Int) ((sIx n n hi : Nat) : Int) 1)) _ _ s
  rw [places_gen]
  exact wpAny_pure h
theorem pick_gen (xs : Array Value) (i k : Nat) : ((List.range k).filterMap fun (m : Nat) => xs[((i : Int) + (m : Int) * 1).toNat]?).toArray = ((xs.toList.drop i).take k).toArray := by
  have e : (fun (m : Nat) => xs[((i : Int) + (m : Int) * 1).toNat]?) = fun m => xs[i + m]? := by
    funext m
    have : ((i : Int) + (m : Int) * 1).toNat = i + m := by omega
    rw [this]
  rw [e]
  have := pick_run xs i k
  rw [List.filterMap_map] at this
  have e2 : ((fun x => xs[x]?) ∘ fun x => i + x) = fun m => xs[i + m]? := rfl
  rw [e2] at this
  rw [this]
theorem getItem_tuple_cut {t sl : Addr} {items : Array Value} {vl vu : Value} {lo hi : Option Int} {Q : Value → Shared → Prop} (ht : IsTup s.heap t items) (hs : s.heap.IsSliceOf sl vl vu .none) (pl : IsPart vl lo) (pu : IsPart vu hi)
    (hw : ¬ (sIx items.size 0 lo = 0 ∧ sIx items.size items.size hi = items.size))
    (h : Q (.ref s.heap.objs.size) { s with heap := s.heap.push { cls := .type "tuple", data := .seq ((items.toList.drop (sIx items.size 0 lo)).take (sIx items.size items.size hi - sIx items.size 0 lo)).toArray } })
    (hsz : items.size ≤ sizeLine) : wpAny (model prog w) A (getItem (.ref t) (.ref sl)) Q E s := by
  have htake : sizeOk (.seq ((items.toList.drop (sIx items.size 0 lo)).take (sIx items.size items.size hi - sIx items.size 0 lo)).toArray) := by
    show ((items.toList.drop (sIx items.size 0 lo)).take (sIx items.size items.size hi - sIx items.size 0 lo)).toArray.size ≤ sizeLine
    rw [List.size_toArray, List.length_take, List.length_drop, Array.length_toList]
    omega
  have hj : sIx items.size items.size hi ≤ items.size := sIx_le _ _ (Nat.le_refl _) hi
  obtain ⟨os, hos, hcs, hds⟩ := id hs
  have hTs : s.TypeIs (.ref sl) "slice" := ⟨os, hos, hcs⟩
  unfold getItem
  try with_reducible refine wpAny_holding ?_
  first | refine wpAny_bind (wpAny_pure ?_) | skip
  refine wpAny_bind (wpAny_sequenceKey ht.typeIs (by decide) ?_)
  refine wpAny_bind (wpAny_callSpecial?_slot (name := Str.ofString "__getitem__") ht.typeIs PyProof.Rows.slot_tuple_getitem
    (wpAny_call_entry PyProof.Rows.slot_tuple_getitem ht.typeIs entry_tuple_getitem ?_ (args_tuple_getitem _ _)))
  show wpAny _ _ (Builtin.Tuple.tupleItemsOf (.ref t) >>= _) _ _ s
  refine wpAny_bind (tupleItemsOf_ ht ?_)
  refine wpAny_bind (wpAny_typeOf hTs ?_)
  rw [if_pos (by decide)]
  refine wpAny_bind (sliceApplied_gen hs pl pu ?_)
  have hno : ¬ ((((sIx items.size 0 lo : Nat) : Int) == 0 && (1 : Int) == 1 && (sIx items.size items.size hi - sIx items.size 0 lo) == items.size) = true) := by
    intro q
    rw [Bool.and_eq_true, Bool.and_eq_true] at q
    have q1 : ((sIx items.size 0 lo : Nat) : Int) = 0 := eq_of_beq q.1.1
    have q2 : sIx items.size items.size hi - sIx items.size 0 lo = items.size := eq_of_beq q.2
    exact hw ⟨by omega, by omega⟩
  show wpAny _ _ (if (((sIx items.size 0 lo : Nat) : Int) == 0 && (1 : Int) == 1 && (sIx items.size items.size hi - sIx items.size 0 lo) == items.size) = true then _ else _) _ _ s
  rw [if_neg hno, pick_gen]
  first
    | exact wpAny_bind (m := Builtin.Tuple.tupleExact _) (wpAny_newObj_type (wpAny_pure ⟨_, rfl, wpAny_pure h⟩) htake)
    | exact wpAny_bind (m := Builtin.Tuple.tupleExact _) (wpAny_newObj_type (wpAny_bind (wpAny_pure (wpAny_pure ⟨_, rfl, wpAny_pure h⟩))) htake)
    | exact wpAny_bind (wpAny_bind (m := Builtin.Tuple.tupleExact _) (wpAny_newObj_type (wpAny_pure (wpAny_pure ⟨_, rfl, wpAny_pure h⟩)) htake))
    | exact wpAny_bind (wpAny_bind (m := Builtin.Tuple.tupleExact _) (wpAny_newObj_type (wpAny_pure ⟨_, rfl, wpAny_pure h⟩) htake))
end
end HT
namespace L2
open PySem PySem.Spec PyProof.Rows
abbrev TO := St → Hp → (Option Int → Hp → Prop) → Prop
def PO (X : Cx) (e : Option Expr) (t : TO) : Prop :=
  ∀ (pins : List (Addr × Obj)) (s : Shared) (σ : St) (H : Hp) (Q : Option Int → Hp → Prop), Inv X pins σ H s → t σ H Q →
    wpAny (model X.prog X.w) X.A (evalPart e X.env) (fun u s' => ∃ o H', Inv X pins σ H' s' ∧ IsPart u o ∧ Q o H') X.xe s
def tNoPart : TO := fun _ H Q => Q none H
def tPart (t : TE) : TO := fun σ H Q => t σ H fun x H1 => ∃ i, x = .int i ∧ Q (some i) H1
theorem intsAre_of {ns : List Int} : ∀ {us : List Value}, Vals (ns.map V.int) us → IntsAre us ns := by
  induction ns with
  | nil => intro us r; rw [List.map_nil] at r; cases r; exact .nil
  | cons n ns ih =>
    intro us r
    rw [List.map_cons] at r
    cases r with
    | cons r1 r2 =>
      obtain ⟨t, e⟩ := r1
      subst e
      exact .cons n t (ih r2)
section
variable {X : Cx} {e : Expr} {te : TE} {lo hi : Option Expr} {tl th : TO} {pos p2 : Pos}
theorem po_none : PO X none tNoPart := by
  intro pins s σ H Q I h
  rw [evalPart_none]
  exact wpAny_pure ⟨none, H, I, .none, h⟩
theorem po_some (h : PE X e te) : PO X (some e) (tPart te) := by
  intro pins s σ H Q I hw
  rw [evalPart_some]
  refine thn (h pins s σ H _ I hw) fun u s1 ⟨x, H1, I1, r1, q1⟩ => ?_
  obtain ⟨i, rfl, q⟩ := q1
  obtain ⟨t, rfl⟩ := r1
  exact ⟨some i, H1, I1, .int i t, q⟩
def SlR (X : Cx) (r : V → Option Int → Option Int → Hp → VK → Prop) : Prop :=
  ∀ (pins : List (Addr × Obj)) (s : Shared) (σ : St) (H : Hp) (x : V) (v vl vu : Value) (lo hi : Option Int) (sl : Addr) (Q : VK), Inv X pins σ H s → RelV x v → s.heap.IsSliceOf sl vl vu .none → IsPart vl lo → IsPart vu hi → r x lo hi H Q →
    ∃ T id, typeLookup (.type T) "__getitem__" = pure (some (.builtin id)) ∧ s.TypeIs v T ∧ wpAny (model X.prog X.w) X.A (getItem v (.ref sl)) (EP X pins σ Q) X.xe s
def tSl (r : V → Option Int → Option Int → Hp → VK → Prop) (te : TE) (tl th : TO) : TE := fun σ H Q => te σ H fun x H1 => tl σ H1 fun l H2 => th σ H2 fun u H3 => r x l u H3 Q
theorem pe_slice {r : V → Option Int → Option Int → Hp → VK → Prop} (hr : SlR X r) (he : PE X e te) (hl : PO X lo tl) (hu : PO X hi th) : PE X (.Subscript e (.Slice lo hi none p2) pos) (tSl r te tl th) := by
  intro pins s σ H Q I h
  refine Subscript_ (thn (he pins s σ H _ I h) fun v s1 ⟨x, H1, I1, r1, q1⟩ => ?_)
  refine wpAny_Slice (thn (hl pins s1 σ H1 _ I1 q1) fun vl s2 ⟨l, H2, I2, pl, q2⟩ => thn (hu pins s2 σ H2 _ I2 q2) fun vu s3 ⟨u, H3, I3, pu, q3⟩ => ?_)
  rw [evalPart_none]
  refine wpAny_pure ?_
  have I4 : Inv X pins σ H3 { s3 with heap := s3.heap.push { cls := .type "slice", data := .fields #[vl, vu, .none] } } := I3.kept (t' := s3.toks) fun b ob q => Heap.get?_push_of_some _ q
  obtain ⟨T, id, hT, ht, hg⟩ := hr pins { s3 with heap := s3.heap.push { cls := .type "slice", data := .fields #[vl, vu, .none] } } σ H3 x v vl vu l u s3.heap.objs.size Q I4 r1 (Heap.IsSliceOf.new ..) pl pu q3
  show wpAny (model X.prog X.w) X.A (subscriptTail e (.Slice lo hi none p2) v (.ref s3.heap.objs.size)) (EP X pins σ Q) X.xe { s3 with heap := s3.heap.push { cls := .type "slice", data := .fields #[vl, vu, .none] } }
  exact tail_any (ops := [.ref s3.heap.objs.size, v]) ht hT hg (by with_unfolding_all rfl)
def cutV (xs : List V) (lo hi : Option Int) : List V := (xs.drop (HT.sIx xs.length 0 lo)).take (HT.sIx xs.length xs.length hi - HT.sIx xs.length 0 lo)
theorem cutV_length (xs : List V) (lo hi : Option Int) : (cutV xs lo hi).length ≤ xs.length := by
  unfold cutV
  rw [List.length_take, List.length_drop]
  omega
def rSlT (K : PySem.W.Frag) : V → Option Int → Option Int → Hp → VK → Prop := fun x lo hi H Q => ∃ a xs, x = .ref a ∧ SqT K H a xs ∧
  ¬ (HT.sIx xs.length 0 lo = 0 ∧ HT.sIx xs.length xs.length hi = xs.length) ∧ ∀ p, H p = none → Q (.ref p) (upd H p (.tup (cutV xs lo hi)))
theorem sl_tup : SlR X (rSlT X.K) := by
  intro pins s σ H x v vl vu lo hi sl Q I rx hs pl pu h
  obtain ⟨a, xs, rfl, hx, hw, q⟩ := h
  cases rx
  obtain ⟨its, r, ht, hz⟩ := I.tuple hx
  have hlen : its.toArray.size = xs.length := by rw [List.size_toArray]; exact r.length.symm
  refine ⟨"tuple", _, PyProof.Rows.slot_tuple_getitem.lookup, ht.typeIs, ?_⟩
  refine HT.getItem_tuple_cut ht hs pl pu (by rw [hlen]; exact hw) ?_ (by rw [hlen]; exact hz)
  rw [hlen]
  refine ⟨.ref s.heap.objs.size, _, I.laid (t' := s.toks) (o := .tup (cutV xs lo hi)) (fun b ob q => Heap.get?_push_of_some _ q) (Nat.le_refl _) ?_, rfl, q _ (I.hok.fresh (Nat.le_refl _))⟩
  exact ⟨Nat.le_trans (cutV_length xs lo hi) hz, _, (r.drop (HT.sIx xs.length 0 lo)).take (HT.sIx xs.length xs.length hi - HT.sIx xs.length 0 lo), IsTup.new _ _⟩
def rCatT (K : PySem.W.Frag) : R2 := fun x y H Q => ∃ a b xs ys, x = .ref a ∧ y = .ref b ∧ SqT K H a xs ∧ SqT K H b ys ∧ xs ≠ [] ∧ xs.length + ys.length ≤ sizeLine ∧
  (ys = [] → Q (.ref a) H) ∧ (ys ≠ [] → ∀ p, H p = none → Q (.ref p) (upd H p (.tup (xs ++ ys))))
theorem Vals.nil_iff {xs : List V} {us : List Value} (r : Vals xs us) : us = [] ↔ xs = [] := by
  cases r with
  | nil => simp
  | cons _ _ => simp
theorem op_catT : OpR X (binaryOp .Add) (rCatT X.K) := by
  intro pins s σ H x y v u Q I rx ry h
  obtain ⟨a, b, xs, ys, rfl, rfl, ha, hb, hx, hz, q1, q2⟩ := h
  cases rx
  cases ry
  obtain ⟨its, r1, p1, _⟩ := I.tuple ha
  obtain ⟨its2, r2, p2, _⟩ := I.tuple hb
  refine HT.cat_tup p1 p2 (fun z => hx (r1.nil_iff.mp z)) (fun z => ⟨.ref a, H, I, rfl, q1 (r2.nil_iff.mp z)⟩) (fun z => ?_) (by rw [← r1.length, ← r2.length]; exact hz)
  refine ⟨.ref s.heap.objs.size, _, I.laid (t' := s.toks) (o := .tup (xs ++ ys)) (fun b ob q => Heap.get?_push_of_some _ q) (Nat.le_refl _) ?_, rfl, q2 (fun w => z (r2.nil_iff.mpr w)) _ (I.hok.fresh (Nat.le_refl _))⟩
  exact ⟨by rw [List.length_append]; exact hz, _, r1.append r2, IsTup.new _ _⟩
end
end L2
namespace L2
open PySem PySem.Spec PyProof.Rows
def ixN (n : Nat) (i : Int) : Option Nat := if 0 ≤ i then (if i < n then some i.toNat else none) else if -(n : Int) ≤ i then some (i + n).toNat else none
def atI {α : Type} (xs : List α) (i : Int) : Option α := (ixN xs.length i).bind fun j => xs[j]?
theorem ixN_seq {n : Nat} {i : Int} {j : Nat} (h : ixN n i = some j) : seqIndex? i n = some j ∧ j < n ∧ -(n : Int) ≤ i ∧ i < n := by
  unfold ixN at h
  by_cases h0 : 0 ≤ i
  · rw [if_pos h0] at h
    by_cases h1 : i < n
    · rw [if_pos h1] at h
      have e : i.toNat = j := Option.some.inj h
      exact ⟨by rw [seqIndex_of h0 h1, e], by omega, by omega, h1⟩
    · rw [if_neg h1] at h; cases h
  · rw [if_neg h0] at h
    by_cases h1 : -(n : Int) ≤ i
    · rw [if_pos h1] at h
      have e : (i + n).toNat = j := Option.some.inj h
      exact ⟨by rw [seqIndex_neg (by omega) h1, e], by omega, h1, by omega⟩
    · rw [if_neg h1] at h; cases h
theorem atI_get {α : Type} {xs : List α} {i : Int} {v : α} (h : atI xs i = some v) : ∃ j, seqIndex? i xs.length = some j ∧ xs[j]? = some v ∧ j < xs.length ∧ -(xs.length : Int) ≤ i ∧ i < xs.length := by
  unfold atI at h
  cases e : ixN xs.length i with
  | none => rw [e] at h; cases h
  | some j =>
    rw [e] at h
    obtain ⟨h1, h2, h3, h4⟩ := ixN_seq e
    exact ⟨j, h1, h, h2, h3, h4⟩
theorem atI_nat {α : Type} {xs : List α} {j : Nat} {v : α} (h : xs[j]? = some v) : atI xs (j : Int) = some v := by
  have hj : j < xs.length := (List.getElem?_eq_some_iff.mp h).1
  have e : ixN xs.length (j : Int) = some j := by
    unfold ixN
    rw [if_pos (by omega), if_pos (by omega)]; simp
  unfold atI; rw [e]; exact h
def PlainIx (b : Expr) : Prop := ∀ o i, subscripted b false o i = operate [o, i] (getItem o i)
def IxR (X : Cx) (r : R2) : Prop :=
  ∀ (value slice : Expr) (pins : List (Addr × Obj)) (s : Shared) (σ : St) (H : Hp) (x y : V) (v u : Value) (Q : VK), Inv X pins σ H s → RelV x v → RelV y u → r x y H Q →
    subscripted slice false v u = operate [v, u] (getItem v u) → wpAny (model X.prog X.w) X.A (subscriptTail value slice v u) (EP X pins σ Q) X.xe s
def MtR (X : Cx) (id : String) (r : V → List V → Hp → VK → Prop) : Prop :=
  ∀ (pins : List (Addr × Obj)) (s : Shared) (σ : St) (H : Hp) (x : V) (xs : List V) (v : Value) (us : List Value) (Q : VK), Inv X pins σ H s → RelV x v → Vals xs us → r x xs H Q →
    wpAny (model X.prog X.w) X.A (call (.builtin id) (v :: us)) (EP X pins σ Q) X.xe s
section
variable {X : Cx} {a b : Expr} {ta tb : TE} {pos : Pos}
theorem pe_ix {r : R2} (hr : IxR X r) (ha : PE X a ta) (hb : PE X b tb) (hs : PlainIx b) : PE X (.Subscript a b pos) (tOp r ta tb) := by
  intro pins s σ H Q I h
  exact Subscript_ (binT ha hb I h fun v u s2 x y H2 I2 rx ry q => hr a b pins s2 σ H2 x y v u Q I2 rx ry q (hs _ _))
def rIxL (K : PySem.W.Frag) : R2 := fun x y H Q => ∃ p xs i v, x = .ref p ∧ y = .int i ∧ SqL K H p xs ∧ atI xs i = some v ∧ Q v H
def rIxT (K : PySem.W.Frag) : R2 := fun x y H Q => ∃ p xs i v, x = .ref p ∧ y = .int i ∧ SqT K H p xs ∧ atI xs i = some v ∧ Q v H
def rIxS : R2 := fun x y H Q => ∃ z i c, x = .str z ∧ y = .int i ∧ z.length ≤ sizeLine ∧ atI z.cps.toList i = some c ∧ Q (.str ⟨#[c]⟩) H
theorem ix_list : IxR X (rIxL X.K) := by
  intro value slice pins s σ H x y v u Q I rx ry h hs
  obtain ⟨p, xs, i, z, rfl, rfl, hq, he, q⟩ := h
  cases rx
  obtain ⟨t, rfl⟩ := ry
  obtain ⟨its, r, pl, hz⟩ := I.list hq
  obtain ⟨j, h1, h2, h3, h4, h5⟩ := atI_get he
  obtain ⟨w, ew, rw'⟩ := r.get h2
  have hl := r.length
  have hn := line63
  have fin : EP X pins σ Q w s := ⟨z, H, I, rw', q⟩
  by_cases h0 : 0 ≤ i
  · have hj : i.toNat = j := by
      rw [seqIndex_of h0 h5] at h1
      exact Option.some.inj h1
    exact item_listR pl.isList h0 (by omega) (by rw [hj]; simpa using ew) fin hs
  · have hj : (i + (its.toArray.size : Int)).toNat = j := by
      rw [seqIndex_neg (by omega) h4] at h1
      rw [List.size_toArray, ← hl]
      exact Option.some.inj h1
    exact subscriptTail_builtinR (x := w) pl.isList.typeIs slot_list_getitem.lookup
      (wpAny_getItem_list_neg (Q := fun r s' => r = w ∧ EP X pins σ Q r s') pl.isList (by omega) (by rw [List.size_toArray] <;> omega) (by omega) (by rw [hj]; simpa using ew) ⟨rfl, fin⟩) hs
theorem ix_tup : IxR X (rIxT X.K) := by
  intro value slice pins s σ H x y v u Q I rx ry h hs
  obtain ⟨p, xs, i, z, rfl, rfl, hq, he, q⟩ := h
  cases rx
  obtain ⟨t, rfl⟩ := ry
  obtain ⟨its, r, pl, hz⟩ := I.tuple hq
  obtain ⟨j, h1, h2, h3, h4, h5⟩ := atI_get he
  obtain ⟨w, ew, rw'⟩ := r.get h2
  have hl := r.length
  have hn := line63
  have fin : EP X pins σ Q w s := ⟨z, H, I, rw', q⟩
  exact subscriptTail_builtinR (x := w) pl.typeIs slot_tuple_getitem.lookup
    (getItem_tuple (j := j) (Q := fun r s' => r = w ∧ EP X pins σ Q r s') pl (by omega) (by omega) (by rw [List.size_toArray, ← hl]; exact h1) (by simpa using ew) ⟨rfl, fin⟩) hs
theorem ix_str : IxR X rIxS := by
  intro value slice pins s σ H x y v u Q I rx ry h hs
  obtain ⟨z, i, c, rfl, rfl, hz, he, q⟩ := h
  obtain ⟨t, rfl⟩ := rx
  obtain ⟨t', rfl⟩ := ry
  obtain ⟨j, h1, h2, h3, h4, h5⟩ := atI_get he
  have hl : z.cps.toList.length = z.length := by simp [Str.length]
  rw [hl] at h1 h4 h5
  have hn := line63
  exact tail_any (typeIs_str s z t) slot_str_getitem.lookup (getItem_str (c := c) (by
    have e1 : decide (i < -(2 ^ 63 : Int)) = false := decide_eq_false (by omega)
    have e2 : decide (i ≥ 2 ^ 63) = false := decide_eq_false (by omega)
    rw [e1, e2, Bool.or_false]) (by rw [h1]; simpa using h2) ⟨.str ⟨#[c]⟩, H, I.tok _, ⟨_, rfl⟩, q⟩) hs
theorem slice_bounds (lo hi : Option Int) (n : Nat) : (sliceBounds lo hi none n).1 = ((HT.sIx n 0 lo : Nat) : Int) ∧ (sliceBounds lo hi none n).2.1 = ((HT.sIx n n hi : Nat) : Int) ∧ (sliceBounds lo hi none n).2.2 = 1 := by
  refine ⟨?_, ?_, rfl⟩
  · cases lo with
    | none => simp [sliceBounds, HT.sIx]
    | some i =>
      simp only [sliceBounds, HT.sIx, Option.getD_none, show (1 : Int) > 0 by decide, if_true]
      by_cases h : i < 0
      · simp only [h, if_true] <;> omega
      · simp only [h, if_false] <;> omega
  · cases hi with
    | none => simp [sliceBounds, HT.sIx]
    | some i =>
      simp only [sliceBounds, HT.sIx, Option.getD_none, show (1 : Int) > 0 by decide, if_true]
      by_cases h : i < 0
      · simp only [h, if_true] <;> omega
      · simp only [h, if_false] <;> omega
theorem slicePick_cut (its : List Value) (lo hi : Option Int) : slicePick its.toArray lo hi none = ((its.drop (HT.sIx its.length 0 lo)).take (HT.sIx its.length its.length hi - HT.sIx its.length 0 lo)).toArray := by
  obtain ⟨h1, h2, h3⟩ := slice_bounds lo hi its.toArray.size
  unfold slicePick
  rw [h1, h2, h3]
  simp only [sliceRange_one, pick_run, List.size_toArray] <;> rfl
def rSlL (K : PySem.W.Frag) : V → Option Int → Option Int → Hp → VK → Prop := fun x lo hi H Q => ∃ a xs, x = .ref a ∧ SqL K H a xs ∧ ∀ p, H p = none → Q (.ref p) (upd H p (.lst (cutV xs lo hi)))
theorem sl_list : SlR X (rSlL X.K) := by
  intro pins s σ H x v vl vu lo hi sl Q I rx hs pl pu h
  obtain ⟨a, xs, rfl, hx, q⟩ := h
  cases rx
  obtain ⟨its, r, ht, hz⟩ := I.list hx
  have hlen := r.length
  refine ⟨"list", _, slot_list_getitem.lookup, ht.isList.typeIs, ?_⟩
  refine wpAny_getItem_list_slice ht.isList hs pl pu .none (by simp) ?_ (by rw [List.size_toArray] <;> omega)
  rw [slicePick_cut, ← hlen]
  refine ⟨.ref s.heap.objs.size, _, I.laid (t' := s.toks) (o := .lst (cutV xs lo hi)) (fun b ob q => Heap.get?_push_of_some _ q) (Nat.le_refl _) ?_, rfl, q _ (I.hok.fresh (Nat.le_refl _))⟩
  exact ⟨Nat.le_trans (cutV_length xs lo hi) hz, _, 0, (r.drop (HT.sIx xs.length 0 lo)).take (HT.sIx xs.length xs.length hi - HT.sIx xs.length 0 lo), Heap.get?_push_size _ rfl⟩
theorem call_len_seq : CallR X (.builtin "len") (fun xs H Q => ∃ p ys, xs = [.ref p] ∧ (SqL X.K H p ys ∨ SqT X.K H p ys) ∧ Q (.int ys.length) H) := by
  intro pins s σ H xs us Q I r h
  obtain ⟨p, ys, rfl, hq, q⟩ := h
  obtain ⟨u, rfl, rx⟩ := vals1 r
  cases rx
  have hn := line63
  rcases hq with hq | hq
  · obtain ⟨its, r', pl, hz⟩ := I.list hq
    have hlen := r'.length
    exact Calls.call_len_list pl.isList (by simp only [List.size_toArray] <;> omega) ⟨.int ys.length, H, I.tok _, ⟨s.toks + 1, by rw [List.size_toArray, hlen]⟩, q⟩
  · obtain ⟨its, r', pl, hz⟩ := I.tuple hq
    have hlen := r'.length
    exact len_tuple pl (by simp only [List.size_toArray] <;> omega) ⟨.int ys.length, H, I.tok _, ⟨s.toks + 1, by rw [List.size_toArray, hlen]⟩, q⟩
theorem call_len_str : CallR X (.builtin "len") (fun xs H Q => ∃ z, xs = [.str z] ∧ z.length ≤ sizeLine ∧ Q (.int z.length) H) := by
  intro pins s σ H xs us Q I r h
  obtain ⟨z, rfl, hz, q⟩ := h
  obtain ⟨u, rfl, t, rfl⟩ := vals1 r
  have hn := line63
  exact len_str (by omega) ⟨.int z.length, H, I.tok _, ⟨_, rfl⟩, q⟩
theorem call_list_of : CallR X (.type "list") (fun xs H Q => ∃ p ys, xs = [.ref p] ∧ (SqL X.K H p ys ∨ SqT X.K H p ys) ∧ ∀ l, H l = none → Q (.ref l) (upd H l (.lst ys))) := by
  intro pins s σ H xs us Q I r h
  obtain ⟨p, ys, rfl, hq, q⟩ := h
  obtain ⟨u, rfl, rx⟩ := vals1 r
  cases rx
  have fin : ∀ (its : List Value), Vals ys its → ys.length ≤ sizeLine → ∀ (h' : Heap) (c' : Nat), (∀ b o', s.heap.get? b = some o' → h'.get? b = some o') →
      h'.get? s.heap.objs.size = some { cls := .type "list", dict := none, data := .seq its.toArray c', slots := #[] } → EP X pins σ Q (.ref s.heap.objs.size) { s with heap := h' } := fun its r' hz h' c' kp e =>
    ⟨.ref s.heap.objs.size, _, I.laid (t' := s.toks) kp (Nat.le_refl _) (show ObjOk X.prog X.w _ h' _ (.lst ys) from ⟨hz, its, c', r', e⟩), rfl, q _ (I.hok.fresh (Nat.le_refl _))⟩
  rcases hq with hq | hq
  · obtain ⟨its, r', pl, hz⟩ := I.list hq
    have hlen := r'.length
    obtain ⟨o, ho, hc, n, hd⟩ := pl.isList
    exact call_list_seq p (.inl rfl) ho hc hd (fun h' c' kp e => fin its r' hz h' c' kp e) (by simp only [List.size_toArray] <;> omega)
  · obtain ⟨its, r', pl, hz⟩ := I.tuple hq
    have hlen := r'.length
    obtain ⟨o, ho, hc, n, hd⟩ := pl
    exact call_list_seq p (.inr rfl) ho hc hd (fun h' c' kp e => fin its r' hz h' c' kp e) (by simp only [List.size_toArray] <;> omega)
theorem call_tuple_of : CallR X (.type "tuple") (fun xs H Q => ∃ p ys, xs = [.ref p] ∧ ((SqL X.K H p ys ∧ ∀ l, H l = none → Q (.ref l) (upd H l (.tup ys))) ∨ (SqT X.K H p ys ∧ Q (.ref p) H))) := by
  intro pins s σ H xs us Q I r h
  obtain ⟨p, ys, rfl, h⟩ := h
  obtain ⟨u, rfl, rx⟩ := vals1 r
  cases rx
  rcases h with ⟨hq, q⟩ | ⟨hq, q⟩
  · obtain ⟨its, r', pl, hz⟩ := I.list hq
    have hlen := r'.length
    refine call_tuple_list pl.isList (fun h' kp => ?_) (by simp only [List.size_toArray] <;> omega)
    have I1 : Inv X pins σ H { s with heap := h' } := I.kept (t' := s.toks) kp
    have I2 : Inv X pins σ (upd H h'.objs.size (.tup ys)) { s with heap := h'.push { cls := .type "tuple", data := .seq its.toArray } } :=
      I1.laid (t' := s.toks) (fun b o e => Heap.get?_push_of_some _ e) (Nat.le_refl _) (show ObjOk X.prog X.w _ _ _ (.tup ys) from ⟨hz, its, r', IsTup.new _ _⟩)
    exact ⟨.ref h'.objs.size, _, I2, rfl, q _ (I1.hok.fresh (Nat.le_refl _))⟩
  · obtain ⟨its, r', pl, hz⟩ := I.tuple hq
    exact call_tuple_same pl ⟨.ref p, H, I, rfl, q⟩
def tyV (K : PySem.W.Frag) (T : String) (x : V) (H : Hp) : Prop := match x with
  | .str _ => T = "str"
  | .int _ => T = "int"
  | .ref p => (T = "list" ∧ ∃ xs, SqL K H p xs) ∨ (T = "tuple" ∧ ∃ o, K.lookup p = some o ∧ o.cls = .type "tuple" ∧ o.dict = none) ∨
      (T = "dict" ∧ ((∃ kvs, H p = some (.dK kvs)) ∨ ∃ kvs, H p = some (.dT kvs))) ∨ (T = "set" ∧ ∃ S n, H p = some (.set S n))
  | _ => False
theorem tyV_is {pins : List (Addr × Obj)} {σ : St} {H : Hp} {s : Shared} {T : String} {x : V} {v : Value} (I : Inv X pins σ H s) (r : RelV x v) (ty : tyV X.K T x H) :
    s.TypeIs v T ∧ ∀ a, v = .ref a → ∃ ob, s.heap.get? a = some ob ∧ ob.dict = none := by
  cases x with
  | str z =>
    obtain ⟨t, rfl⟩ := r
    cases (show T = "str" from ty)
    exact ⟨typeIs_str s z t, fun _ e => nomatch e⟩
  | int i =>
    obtain ⟨t, rfl⟩ := r
    cases (show T = "int" from ty)
    exact ⟨typeIs_int s i t, fun _ e => nomatch e⟩
  | ref p =>
    cases r
    rcases ty with ⟨rfl, xs, hq⟩ | ⟨rfl, o, hk, hc, hd⟩ | ⟨rfl, hk⟩ | ⟨rfl, S, n, hk⟩
    · obtain ⟨its, _, pl, _⟩ := I.list hq
      refine ⟨pl.isList.typeIs, fun a e => ?_⟩
      cases e
      obtain ⟨o, n, e, c, hd, _⟩ := pl
      exact ⟨o, e, hd⟩
    · refine ⟨⟨o, I.kIn p o hk, hc⟩, fun a e => ?_⟩
      cases e
      exact ⟨o, I.kIn _ o hk, hd⟩
    · have z : ∃ o, s.heap.get? p = some o ∧ o.ExactDict := by
        rcases hk with ⟨kvs, hk⟩ | ⟨kvs, hk⟩
        · obtain ⟨_, _, _, _, o, _, _, e, ex, _⟩ := I.hok p _ hk
          exact ⟨o, e, ex⟩
        · obtain ⟨_, _, _, _, o, _, _, e, ex, _⟩ := I.hok p _ hk
          exact ⟨o, e, ex⟩
      obtain ⟨o, e, ex⟩ := z
      refine ⟨⟨o, e, ex.1⟩, fun a e2 => ?_⟩
      cases e2
      exact ⟨o, e, ex.2.1⟩
    · obtain ⟨o, _, _, _, e, ex, _⟩ := I.hok p _ hk
      refine ⟨⟨o, e, ex.1⟩, fun a e2 => ?_⟩
      cases e2
      exact ⟨o, e, ex.2.1⟩
  | _ => exact False.elim ty
def tBM (K : PySem.W.Frag) (T : String) (r : V → List V → Hp → VK → Prop) (to : TE) (t : TA) : TE := fun σ H Q => to σ H fun x H1 => tyV K T x H1 ∧ t σ H1 fun xs H2 => r x xs H2 Q
variable {o e : Expr} {es : List Expr} {to : TE} {t : TA} {name : Str} {apos cpos : Pos} {T id : String} {r : V → List V → Hp → VK → Prop}
theorem pe_bm (pa : PlainAttrs T) (slot : Slot T name id) (hty : typeOf (.builtin id) = pure (.type "method_descriptor")) (hm : MtR X id r) (ho : PE X o to) (ha : PA X (e :: es) t)
    (hbase : attributeBase o name X.env (eval o X.env) = eval o X.env := by rfl)
    (hfew : ((backTo cpos (starEach (e :: es) X.env)).all (fun x => !x.1) && (backToKw cpos (keywordEach [] X.env)).all (fun x => x.1.isSome)
      && decide ((e :: es).length + ([] : List Keyword).length + (if ([] : List Keyword).isEmpty then 0 else 1) < 30)) = true := by rfl)
    (hline : (apos.endLine == cpos.line) = true := by rfl) (hs : starEach (e :: es) X.env = (false, eval e X.env) :: starEach es X.env := by rfl) (hplain : (backTo cpos (starEach es X.env)).any (·.1) = false := by rfl) :
    PE X (.Call (.Attribute o name apos) (e :: es) [] cpos) (tBM X.K T r to t) := by
  intro pins s σ H Q I h
  refine wpAny_Call_method_late hbase hfew hline rfl (thn (ho pins s σ H _ I h) fun v s1 ⟨x, H1, I1, r1, ty, q1⟩ => ?_)
  obtain ⟨h1, h2⟩ := tyV_is I1 r1 ty
  refine ⟨T, id, pa, slot, hty, h1, h2, ?_⟩
  have hA := ha cpos pins s1 σ H1 _ I1 q1
  rw [hs] at hA ⊢
  refine Calls.callWith_builtin (by show (false || (backTo cpos (starEach es X.env)).any (·.1)) = false; rw [hplain] <;> rfl) (Calls.evalArgs_plain ?_)
  exact thn hA fun us s2 ⟨vs, H2, I2, r2, q2⟩ => hm pins s2 σ H2 x vs v us Q I2 r1 r2 q2
/- xs.append(e), list.index on a module's tuple .. are MtR facts of 06m -/
end
end L2
namespace L2
open PySem PySem.Spec PyProof.Rows
def MtM (X : Cx) (id : String) (r : V → List V → Hp → VK → Prop) : Prop :=
  ∀ (pins : List (Addr × Obj)) (s : Shared) (σ : St) (H : Hp) (x : V) (xs : List V) (v : Value) (us : List Value) (Q : VK), Inv X pins σ H s → RelV x v → Vals xs us → r x xs H Q →
    wpAny (model X.prog X.w) X.A (call (.builtin id) (v :: us)) (EP X pins σ Q) X.xe s
theorem Vals.one : ∀ {x : V} {us : List Value}, Vals [x] us → ∃ u, us = [u] ∧ RelV x u
  | _, _, .cons r .nil => ⟨_, rfl, r⟩
theorem Vals.rep {xs : List V} {us : List Value} (h : Vals xs us) : ∀ k : Nat, Vals (List.replicate k xs).flatten (List.replicate k us).flatten
  | 0 => .nil
  | k + 1 => by
    rw [List.replicate_succ, List.replicate_succ, List.flatten_cons, List.flatten_cons]
    exact Vals.append h (Vals.rep h k)
theorem foldl_rep (its : List Value) : ∀ (k : Nat) (acc : List Value),
    List.foldl (fun x1 x2 => x1 ++ x2) acc.toArray (List.replicate k its.toArray) = (acc ++ (List.replicate k its).flatten).toArray
  | 0, acc => by simp
  | k + 1, acc => by
    have e : acc.toArray ++ its.toArray = (acc ++ its).toArray := by simp
    have e2 : (acc ++ its) ++ (List.replicate k its).flatten = acc ++ (List.replicate (k + 1) its).flatten := by
      rw [List.replicate_succ, List.flatten_cons, List.append_assoc]
    rw [← e2, ← foldl_rep its k (acc ++ its), ← e, List.replicate_succ, List.foldl_cons]
section
variable {X : Cx} {pins : List (Addr × Obj)} {σ : St} {H : Hp} {s : Shared} {l b : Addr} {xs ys zs : List V}
theorem Inv.lset {its its' : List Value} {n : Nat} {f : Array Value → Array Value} {t' : Nat} (I : Inv X pins σ H s) (hH : H l = some (.lst xs))
    (e : s.heap.get? l = some { cls := .type "list", data := .seq its.toArray n }) (hf : f its.toArray = its'.toArray) (hv : Vals ys its') (hz : ys.length ≤ sizeLine) :
    Inv X pins σ (upd H l (.lst ys)) { s with heap := s.heap.update l (Obj.mapSeq f), toks := t' } := by
  have q := PySem.IsL.update e f
  rw [hf] at q
  refine I.write (x := l) (e := l) (by rw [hH]; exact trivial) (.inl rfl) (fun b' u hb hu => (Heap.get?_update_other s.heap (Obj.mapSeq f) (Ne.symm hb)).trans hu) ⟨_, q⟩ ?_
  exact ⟨hz, its', _, hv, q⟩
theorem Inv.lnew {its : List Value} {t' : Nat} (I : Inv X pins σ H s) (hv : Vals ys its) (hz : ys.length ≤ sizeLine) :
    Inv X pins σ (upd H s.heap.objs.size (.lst ys)) { s with heap := s.heap.push { cls := .type "list", data := .seq its.toArray }, toks := t' } :=
  I.laid (fun _ _ q => Heap.get?_push_of_some _ q) (Nat.le_refl _) ⟨hz, its, 0, hv, Heap.get?_push_size _ rfl⟩
theorem Inv.fresh (I : Inv X pins σ H s) : H s.heap.objs.size = none := I.hok.fresh (Nat.le_refl _)
theorem Inv.lstM (I : Inv X pins σ H s) (hH : H l = some (.lst xs)) : xs.length ≤ sizeLine ∧ ∃ (its : List Value) (n : Nat), Vals xs its ∧ xs.length = its.length ∧ s.heap.get? l = some { cls := .type "list", data := .seq its.toArray n } := by
  obtain ⟨z, its, n, r, e⟩ := I.hok l _ hH
  exact ⟨z, its, n, r, r.length, e⟩
theorem notLongL {n : Nat} (h : n ≤ sizeLine) : Builtin.List.listTooLong n = false := by
  unfold Builtin.List.listTooLong
  exact decide_eq_false (by omega)
end
section
variable {X : Cx}
def rAppend : V → List V → Hp → VK → Prop := fun x vs H Q => ∃ l xs y, x = .ref l ∧ vs = [y] ∧ H l = some (.lst xs) ∧ xs.length < sizeLine ∧ Q .non (upd H l (.lst (xs ++ [y])))
theorem mt_append : MtM X "list.append" rAppend := by
  intro pins s σ H x vs v us Q I rx rv h
  obtain ⟨l, xs, y, rfl, rfl, hH, hz, q⟩ := h
  cases rx
  obtain ⟨u, rfl, ru⟩ := rv.one
  obtain ⟨z, its, n, r, hl, e⟩ := I.lstM hH
  refine call_meets F.slot_list_append ⟨_, e, rfl⟩ F.entry_list_append (F.args_list_append_2 _ _) (PySem.list_append l its.toArray n u (by rw [List.size_toArray]; omega)) ⟨e, ?_⟩
  refine ⟨.non, _, I.lset (its' := its ++ [u]) hH e (by simp) (r.append (.cons ru .nil)) ?_, rfl, q⟩
  rw [List.length_append, List.length_singleton]
  omega
def rCat : R2 := fun x y H Q => ∃ l b xs zs, x = .ref l ∧ y = .ref b ∧ H l = some (.lst xs) ∧ H b = some (.lst zs) ∧ xs.length + zs.length ≤ sizeLine ∧ ∀ p, H p = none → Q (.ref p) (upd H p (.lst (xs ++ zs)))
theorem op_cat : OpR X (binaryOp .Add) rCat := by
  intro pins s σ H x y v u Q I rx ry h
  obtain ⟨l, b, xs, zs, rfl, rfl, hH, hB, hz, q⟩ := h
  cases rx
  cases ry
  obtain ⟨z, its, n, r, hl, e⟩ := I.lstM hH
  obtain ⟨z2, its2, n2, r2, hl2, e2⟩ := I.lstM hB
  refine PySem.P.add_list e e2 ?_ (by rw [List.size_toArray, List.size_toArray]; omega)
  have ea : its.toArray ++ its2.toArray = (its ++ its2).toArray := by simp
  rw [ea]
  exact ⟨.ref _, _, I.lnew (t' := s.toks) (r.append r2) (by rw [List.length_append]; omega), rfl, q _ I.fresh⟩
def rRep : R2 := fun x y H Q => ∃ l k xs, x = .ref l ∧ y = .int k ∧ H l = some (.lst xs) ∧ -(2 ^ 63) ≤ k ∧ k < 2 ^ 63 ∧ xs.length * k.toNat ≤ sizeLine ∧
  ∀ p, H p = none → Q (.ref p) (upd H p (.lst (List.replicate k.toNat xs).flatten))
theorem len_rep {α : Type} (xs : List α) (k : Nat) : (List.replicate k xs).flatten.length = k * xs.length := by
  induction k with
  | zero => simp
  | succ k ih => rw [List.replicate_succ, List.flatten_cons, List.length_append, ih, Nat.succ_mul, Nat.add_comm]
theorem op_rep : OpR X (binaryOp .Mult) rRep := by
  intro pins s σ H x y v u Q I rx ry h
  obtain ⟨l, k, xs, rfl, rfl, hH, h1, h2, hz, q⟩ := h
  cases rx
  obtain ⟨t, rfl⟩ := ry
  obtain ⟨z, its, n, r, hl, e⟩ := I.lstM hH
  have hlen : its.toArray.size * k.toNat ≤ sizeLine := by rw [List.size_toArray, ← hl]; exact hz
  have hcap : ¬ its.toArray.size * k.toNat > (2 ^ 63 - 1) / 8 := by
    have : (sizeLine : Nat) ≤ (2 ^ 63 - 1) / 8 := by decide
    omega
  have hfit : ¬ (!Builtin.List.listFitsIndex k) = true := by
    rw [fitsIndex_both h1 h2]
    exact Bool.false_ne_true
  have hlong : ¬ Builtin.List.listTooLong (its.toArray.size * k.toNat) = true := by
    rw [notLongL hlen]
    exact Bool.false_ne_true
  have hnew : List.foldl (fun x1 x2 => x1 ++ x2) #[] (List.replicate (if its.toArray.isEmpty = true then 0 else k.toNat) its.toArray) = (List.replicate k.toNat its).flatten.toArray := by
    have f0 : ∀ m : Nat, List.foldl (fun x1 x2 => x1 ++ x2) #[] (List.replicate m its.toArray) = (List.replicate m its).flatten.toArray := fun m => by
      have := foldl_rep its m []
      rw [List.nil_append] at this
      exact this
    rw [f0]
    cases its with
    | nil => simp
    | cons a r' => rw [if_neg (by simp)]
  refine wpAny_binaryOp_repeat_ref (T := "list") (U := "int") (by decide) ⟨_, e, rfl⟩ (fun s' => typeIs_int s' k t) noFill_list_mul F.fills_int_mul F.slot_int_rmul repeat_list F.slot_int_index.lookup
    (call_meets F.slot_int_rmul (typeIs_int s k t) F.entry_int_rmul (F.args_int_rmul_2 _ _) (int___rmul___int_list k t l its.toArray n)
      ⟨e, rfl, ⟨_, e, rfl⟩, call_meets F.slot_list_mul ⟨_, e, rfl⟩ F.entry_list_mul (F.args_list_mul_2 _ _) (AutoListH.list___mul___list_int_3 l its.toArray n k t hfit hcap hlong) ⟨e, ?_⟩⟩)
  rw [hnew]
  exact ⟨.ref _, _, I.lnew (t' := s.toks) (r.rep k.toNat) (by rw [len_rep, Nat.mul_comm]; exact hz), rfl, q _ I.fresh⟩
end
section
variable {prog : Program} {w : World} {A : Around} {E : Value → Shared → Prop} {s : Shared}
end
section
variable {X : Cx}
end
end L2
namespace L2
open PySem PySem.Spec PyProof.Rows
section
variable {κ : Type} [DecidableEq κ]
def valV (kvs : List (κ × V)) (k : κ) : Option V := (kvs.find? fun kv => decide (kv.1 = k)).map (·.2)
def putK (kvs : List (κ × V)) (k : κ) (v : V) : List (κ × V) :=
  if (kvs.any fun kv => decide (kv.1 = k)) = true then kvs.map (fun kv => if kv.1 = k then (kv.1, v) else kv) else kvs ++ [(k, v)]
theorem valV_pos {p : κ × V} {r : List (κ × V)} {k : κ} (e : p.1 = k) : valV (p :: r) k = some p.2 := by simp [valV, List.find?_cons, e]
theorem valV_neg {p : κ × V} {r : List (κ × V)} {k : κ} (e : ¬ p.1 = k) : valV (p :: r) k = valV r k := by simp [valV, List.find?_cons, e]
theorem valV_any (k : κ) : ∀ kvs : List (κ × V), (kvs.any fun kv => decide (kv.1 = k)) = (valV kvs k).isSome
  | [] => rfl
  | p :: r => by
    rw [List.any_cons]
    by_cases e : p.1 = k
    · simp only [valV_pos e, decide_eq_true e, Bool.true_or, Option.isSome_some]
    · rw [valV_neg e, decide_eq_false e, Bool.false_or]; exact valV_any k r
theorem length_putK (kvs : List (κ × V)) (k : κ) (v : V) : (putK kvs k v).length ≤ kvs.length + 1 := by
  unfold putK
  split
  · rw [List.length_map]; omega
  · rw [List.length_append, List.length_cons, List.length_nil]; omega
theorem putK_new {kvs : List (κ × V)} {k : κ} (v : V) (h : valV kvs k = none) : putK kvs k v = kvs ++ [(k, v)] := by
  unfold putK
  rw [valV_any, h]
  exact if_neg (by decide)
theorem RelO.isSome_eq {o : Option V} {u : Option Value} (r : RelO o u) : o.isSome = u.isSome := by
  cases o with
  | none => cases u with
    | none => rfl
    | some _ => exact (show False from r).elim
  | some _ => cases u with
    | none => exact (show False from r).elim
    | some _ => rfl
theorem KV.val {kvs : List (κ × V)} {vs : List (κ × Value)} (r : KV kvs vs) (k : κ) : RelO (valV kvs k) (valueAt vs k) := by
  unfold KV at r
  induction r with
  | nil => exact True.intro
  | @cons p q ps qs h t ih =>
    obtain ⟨h1, h2⟩ := h
    by_cases e : p.1 = k
    · have e' : q.1 = k := h1.symm.trans e
      have b : valueAt (q :: qs) k = some q.2 := by simp [valueAt, List.find?_cons, e']
      rw [valV_pos e, b]; exact h2
    · have e' : ¬ q.1 = k := fun z => e (h1.trans z)
      have b : valueAt (q :: qs) k = valueAt qs k := by simp [valueAt, List.find?_cons, e']
      rw [valV_neg e, b]; exact ih
theorem KV.any {kvs : List (κ × V)} {vs : List (κ × Value)} (r : KV kvs vs) (k : κ) : (kvs.any fun kv => decide (kv.1 = k)) = vs.any fun kv => decide (kv.1 = k) := by
  unfold KV at r
  induction r with
  | nil => rfl
  | cons h t ih => rw [List.any_cons, List.any_cons, ih, h.1]
theorem KV.repl {kvs : List (κ × V)} {vs : List (κ × Value)} (r : KV kvs vs) (k : κ) {y : V} {u : Value} (ry : RelV y u) :
    KV (kvs.map fun kv => if kv.1 = k then (kv.1, y) else kv) (vs.map fun kv => if kv.1 = k then (kv.1, u) else kv) := by
  unfold KV at r ⊢
  induction r with
  | nil => exact .nil
  | @cons p q ps qs h t ih =>
    rw [List.map_cons, List.map_cons]
    refine .cons ?_ ih
    obtain ⟨h1, h2⟩ := h
    by_cases e : p.1 = k
    · rw [if_pos e, if_pos (h1.symm.trans e)]; exact ⟨h1, ry⟩
    · rw [if_neg e, if_neg (fun z => e (h1.trans z))]; exact ⟨h1, h2⟩
theorem KV.put {kvs : List (κ × V)} {vs : List (κ × Value)} (r : KV kvs vs) (k : κ) {y : V} {u : Value} (ry : RelV y u) : KV (putK kvs k y) (stored vs k u) := by
  unfold putK stored
  rw [r.any k]
  by_cases e : (vs.any fun kv => decide (kv.1 = k)) = true
  · rw [if_pos e, if_pos e]; exact r.repl k ry
  · rw [if_neg e, if_neg e]; exact Paired.snoc r ⟨rfl, ry⟩
theorem KV.length {kvs : List (κ × V)} {vs : List (κ × Value)} (r : KV kvs vs) : kvs.length = vs.length := Paired.length r
end
theorem kV_is {P : Program} {w : World} {k : Key} {u : Value} (r : RelV (kV k) u) : (mixKind P w).is k u = true := by
  cases k with
  | inl i => obtain ⟨t, e⟩ := (show ∃ t, u = Value.int i t from r); subst e; exact mixKind_int P w i t
  | inr x => obtain ⟨t, e⟩ := (show ∃ t, u = Value.str x t from r); subst e; exact mixKind_str P w x t
theorem items_are {P : Program} {w : World} : ∀ {ks : List Key} {us : List Value}, Vals (ks.map kV) us → ItemsAre (mixKind P w) ks us
  | [], _, r => by rw [List.map_nil] at r; cases r; exact .nil
  | k :: ks, _, r => by
    rw [List.map_cons] at r
    cases r with
    | cons h t => exact .cons (kV_is h) (items_are t)
abbrev KT (H : Hp) : List (List Key × V) → List (List Key × Addr × Value) → Prop := Paired fun p q => p.1 = q.1 ∧ H q.2.1 = some (.tup (p.1.map kV)) ∧ RelV p.2 q.2.2
theorem KT.val {H : Hp} {kvs : List (List Key × V)} {xs : List (List Key × Addr × Value)} (r : KT H kvs xs) (k : List Key) : RelO (valV kvs k) ((atKey xs k).map (·.2)) := by
  induction r with
  | nil => exact True.intro
  | @cons p q ps qs h t ih =>
    obtain ⟨h1, _, h2⟩ := h
    by_cases e : p.1 = k
    · have e' : q.1 = k := h1.symm.trans e
      have b : atKey (q :: qs) k = some q.2 := by simp [atKey, List.find?_cons, e']
      rw [valV_pos e, b]; exact h2
    · have e' : ¬ q.1 = k := fun z => e (h1.trans z)
      have b : atKey (q :: qs) k = atKey qs k := by simp [atKey, List.find?_cons, e']
      rw [valV_neg e, b]; exact ih
theorem KT.repl {H : Hp} {kvs : List (List Key × V)} {xs : List (List Key × Addr × Value)} (r : KT H kvs xs) (k : List Key) {y : V} {u : Value} (ry : RelV y u) :
    KT H (kvs.map fun kv => if kv.1 = k then (kv.1, y) else kv) (xs.map (putAt k u)) := by
  induction r with
  | nil => exact .nil
  | @cons p q ps qs h t ih =>
    rw [List.map_cons, List.map_cons]
    refine .cons ?_ ih
    obtain ⟨h1, h2, h3⟩ := h
    unfold putAt
    by_cases e : p.1 = k
    · rw [if_pos e, if_pos (h1.symm.trans e)]; exact ⟨h1, h2, ry⟩
    · rw [if_neg e, if_neg (fun z => e (h1.trans z))]; exact ⟨h1, h2, h3⟩
theorem KT.put {H : Hp} {kvs : List (List Key × V)} {xs : List (List Key × Addr × Value)} (r : KT H kvs xs) (k : List Key) {b : Addr} {y : V} {u : Value} (hb : H b = some (.tup (k.map kV))) (ry : RelV y u) :
    KT H (putK kvs k y) (storedH xs k b u) := by
  have e : (kvs.any fun kv => decide (kv.1 = k)) = (atKey xs k).isSome := by
    rw [valV_any, (r.val k).isSome_eq, Option.isSome_map]
  unfold putK storedH
  rw [e]
  by_cases q : (atKey xs k).isSome = true
  · rw [if_pos q, if_pos q]; exact r.repl k ry
  · rw [if_neg q, if_neg q]; exact Paired.snoc r ⟨rfl, hb, ry⟩
theorem KT.keeps {H H' : Hp} {kvs : List (List Key × V)} {xs : List (List Key × Addr × Value)} (r : KT H kvs xs) (ht : ∀ b ys, H b = some (.tup ys) → H' b = some (.tup ys)) : KT H' kvs xs :=
  Paired.mapP r fun _ _ z => ⟨z.1, ht _ _ z.2.1, z.2.2⟩
section
variable {P : Program} {w : World} {H : Hp} {h : Heap} {a : Addr}
theorem rd_of {u : HO} (ok : HOk P w H h) (e : Rd H a u) : ObjOk P w H h a u := e.ok ok
theorem dk_rd {kvs : List (Key × V)} (ok : HOk P w H h) (e : Rd H a (.dK kvs)) : kvs.length ≤ sizeLine ∧ (a == sysModules) = false ∧ ∃ vs, KV kvs vs ∧ h.DictOf (mixKind P w) a vs :=
  show ObjOk P w H h a (.dK kvs) from rd_of ok e
theorem dk_of {kvs : List (Key × V)} (ok : HOk P w H h) (e : H a = some (.dK kvs)) : kvs.length ≤ sizeLine ∧ (a == sysModules) = false ∧ ∃ vs, KV kvs vs ∧ h.DictOf (mixKind P w) a vs := dk_rd ok (.inl e)
theorem key_of {ks : List Key} (ok : HOk P w H h) (e : H a = some (.tup (ks.map kV))) : (tupleKind (mixKind P w)).is h ks a := by
  obtain ⟨_, its, r, o, h1, h2, n, h3⟩ := (show ObjOk P w H h a (.tup (ks.map kV)) from ok a _ e)
  exact ⟨o, its.toArray, n, h1, h2, h3, by simpa using items_are r⟩
theorem dt_rd {kvs : List (List Key × V)} (ok : HOk P w H h) (e : Rd H a (.dT kvs)) : kvs.length ≤ sizeLine ∧ (a == sysModules) = false ∧
    ∃ xs, KT H kvs xs ∧ h.DictOfH (tupleKind (mixKind P w)) a xs := by
  obtain ⟨z, y, xs, r, o, es, ep, h1, h2, h3, h4, h5⟩ := (show ObjOk P w H h a (.dT kvs) from rd_of ok e)
  refine ⟨z, y, xs, r, o, es, ep, h1, h2, h3, h4, fun x hx => ?_, h5⟩
  have all : ∀ {l : List (List Key × V)} {m : List (List Key × Addr × Value)}, KT H l m → ∀ x ∈ m, (tupleKind (mixKind P w)).is h x.1 x.2.1 := by
    intro l m q
    induction q with
    | nil => intro x hx; exact nomatch hx
    | @cons p q ps qs hq t ih =>
      intro x hx
      rcases List.mem_cons.mp hx with e | hx
      · subst e
        exact key_of ok (by rw [← hq.1]; exact hq.2.1)
      · exact ih x hx
  exact all r x hx
theorem dt_of {kvs : List (List Key × V)} (ok : HOk P w H h) (e : H a = some (.dT kvs)) : kvs.length ≤ sizeLine ∧ (a == sysModules) = false ∧
    ∃ xs, KT H kvs xs ∧ h.DictOfH (tupleKind (mixKind P w)) a xs := dt_rd ok (.inl e)
end
def DGet (H : Hp) (a : Addr) (y : V) (r : Option V) : Prop :=
  (∃ kvs k, Rd H a (.dK kvs) ∧ y = kV k ∧ r = valV kvs k) ∨ ∃ kvs k b, Rd H a (.dT kvs) ∧ y = .ref b ∧ H b = some (.tup (k.map kV)) ∧ r = valV kvs k
def DPut (H : Hp) (a : Addr) (y v : V) (H' : Hp) : Prop :=
  (∃ kvs k, H a = some (.dK kvs) ∧ y = kV k ∧ kvs.length < sizeLine ∧ H' = upd H a (.dK (putK kvs k v))) ∨
  ∃ kvs k b, H a = some (.dT kvs) ∧ y = .ref b ∧ H b = some (.tup (k.map kV)) ∧ kvs.length < sizeLine ∧ H' = upd H a (.dT (putK kvs k v))
theorem DGet.k {H : Hp} {a : Addr} {kvs : List (Key × V)} {k : Key} (e : H a = some (.dK kvs)) : DGet H a (kV k) (valV kvs k) := .inl ⟨kvs, k, .inl e, rfl, rfl⟩
theorem DPut.k {H : Hp} {a : Addr} {kvs : List (Key × V)} {k : Key} {v : V} (e : H a = some (.dK kvs)) (hl : kvs.length < sizeLine) : DPut H a (kV k) v (upd H a (.dK (putK kvs k v))) := .inl ⟨kvs, k, e, rfl, hl, rfl⟩
section
variable {X : Cx} {pins : List (Addr × Obj)} {σ : St} {H : Hp} {s : Shared} {a : Addr} {y v : V} {u r : Value} {o : Option V} {A : Around} {E : Value → Shared → Prop}
theorem Inv.big (I : Inv X pins σ H s) : sysModules < s.heap.objs.size := by
  have h : mainGlobals < s.heap.objs.size := (I.mod.glob.keeps I.bk).lt
  exact Nat.lt_trans (by decide) h
theorem d_getItem {Q : Value → Shared → Prop} (hu : A.units + 1 < cLine) (I : Inv X pins σ H s) (g : DGet H a y (some v)) (ry : RelV y u) (h : ∀ w' s', Inv X pins σ H s' → RelV v w' → Q w' s') :
    wpAny (model X.prog X.w) A (getItem (.ref a) u) Q E s := by
  rcases g with ⟨kvs, k, e, ey, l⟩ | ⟨kvs, k, b, e, ey, eb, l⟩
  · subst ey
    obtain ⟨z, hd, vs, rel, dd⟩ := dk_rd I.hok e
    obtain ⟨w', hw, rw'⟩ := RelO.some_of (v := v) (o := valueAt vs k) (by rw [l]; exact rel.val k)
    exact wpAny_getItem_of (kV_is ry) dd.mapOf hw (h w' _ (I.tok _) rw')
  · subst ey
    cases (show u = Value.ref b from ry)
    obtain ⟨z, hd, xs, rel, dd⟩ := dt_rd I.hok e
    obtain ⟨w', hw, rw'⟩ := RelO.some_of (v := v) (o := (atKey xs k).map (·.2)) (by rw [l]; exact rel.val k)
    obtain ⟨p, hp, hp2⟩ := Option.map_eq_some_iff.mp hw
    refine wpAny_getItem_heap (tupleKind_room_in1 hu) (key_of I.hok eb) dd hp ?_
    rw [hp2]
    exact h w' _ (I.tok _) rw'
theorem d_write {h' : Heap} {t' : Nat} {ob : HO} (I : Inv X pins σ H s) (mu : Mut (H a)) (hs : Heap.SameBut a s.heap h') (he : ∃ q, h'.get? a = some q) (new : ObjOk X.prog X.w (upd H a ob) h' a ob) :
    Inv X pins σ (upd H a ob) { s with heap := h', toks := t' } :=
  I.write (x := a) (e := a) mu (.inl rfl) (fun b q hb z => (hs.2 b hb).trans z) he new
theorem dk_new {P : Program} {w : World} {H' : Hp} {h' : Heap} {kvs : List (Key × V)} {vs : List (Key × Value)} (z : kvs.length ≤ sizeLine) (hd : (a == sysModules) = false) (rel : KV kvs vs) (dd : h'.DictOf (mixKind P w) a vs) :
    ObjOk P w H' h' a (.dK kvs) := ⟨z, hd, vs, rel, dd⟩
theorem d_setItem {H' : Hp} {Q : Unit → Shared → Prop} (hu : A.units + 1 < cLine) (I : Inv X pins σ H s) (g : DPut H a y v H') (ry : RelV y u) (rv : RelV v r) (h : ∀ s', Inv X pins σ H' s' → Q () s') :
    wpAny (model X.prog X.w) A (setItem (.ref a) u r) Q E s := by
  rcases g with ⟨kvs, k, e, ey, l, eH⟩ | ⟨kvs, k, b, e, ey, eb, l, eH⟩
  · subst ey eH
    obtain ⟨z, hd, vs, rel, dd⟩ := dk_of I.hok e
    have hz : vs.length ≤ sizeLine := by rw [← rel.length]; exact z
    have hl : (putK kvs k v).length ≤ sizeLine := by have := length_putK kvs k v; omega
    refine wpAny_setItem_pairs (hsz := hz) (kV_is ry) dd fun h' dd' hs => h _ ?_
    have he : ∃ q, h'.get? a = some q := let ⟨q, _, _, hq, _⟩ := dd'; ⟨q, hq⟩
    exact d_write I (by rw [e]; exact True.intro) hs he (dk_new hl hd (rel.put k rv) dd')
  · subst ey eH
    cases (show u = Value.ref b from ry)
    obtain ⟨z, hd, xs, rel, dd⟩ := dt_of I.hok e
    have hz : xs.length ≤ sizeLine := by rw [← Paired.length rel]; exact z
    have hl : (putK kvs k v).length ≤ sizeLine := by have := length_putK kvs k v; omega
    refine wpAny_setItem_heap (hsz := hz) (tupleKind_room_in1 hu) (key_of I.hok eb) dd fun h' dd' hs => h _ ?_
    obtain ⟨q, es, ep, hq, h2, h3, h4, _, h5⟩ := dd'
    refine d_write I (by rw [e]; exact True.intro) hs ⟨q, hq⟩ ⟨hl, hd, _, (rel.put k eb rv).keeps fun c ys ec => ?_, q, es, ep, hq, h2, h3, h4, h5⟩
    rw [upd_ne (ne_of ec e (fun z => nomatch z))]
    exact ec
end
section
variable {X : Cx} {pins : List (Addr × Obj)} {σ : St} {H : Hp} {s : Shared} {a : Addr} {kvs : List (Key × V)} {k : Key} {u : Value} {A : Around} {E : Value → Shared → Prop}
end
def NoSl (i : Expr) : Prop := ∀ ov iv, subscripted i false ov iv = operate [ov, iv] (getItem ov iv)
theorem subD_of {prog : Program} {w : World} {A : Around} {E : Value → Shared → Prop} {s : Shared} {env : Env} {value slice : Expr} {pos : Pos} {T id : String} {Q : Value → Shared → Prop}
    (hl : typeLookup (.type T) "__getitem__" = pure (some (.builtin id))) (hs : NoSl slice)
    (h : wpAny (model prog w) A (eval value env) (fun o s₁ => wpAny (model prog w) A (eval slice env) (fun i s₂ => s₂.TypeIs o T ∧ wpAny (model prog w) A (getItem o i) Q E s₂) E s₁) E s) :
    wpAny (model prog w) A (eval (.Subscript value slice pos) env) Q E s := by
  refine Subscript_ (wpAny_mono h (fun o s₁ h₁ => wpAny_mono h₁ (fun i s₂ h₂ => ?_) fun _ _ x => x) fun _ _ x => x)
  obtain ⟨hT, h₂⟩ := h₂
  unfold subscriptTail
  refine wpAny_bind ?_
  rw [getitemInPython_of_ne hT.not_modules]
  refine wpAny_bind (wpAny_specialOf hT hl ?_)
  have fin : wpAny (model prog w) A (subscripted slice false o i) (fun r s₃ => wpAny (model prog w) A (letTemporaryGo value o r >>= fun _ => pure r) Q E s₃) E s₂ := by
    rw [hs o i]
    exact wpAny_operating (wpAny_mono h₂ (fun r s₃ h₃ => wpAny_bind (wpAny_letTemporaryGo (wpAny_pure h₃))) fun _ _ x => x)
  first
    | exact wpAny_pure (wpAny_bind fin)
    | exact wpAny_bind (wpAny_pure (wpAny_bind fin))
    | exact wpAny_bind fin
theorem dict_typeIs {X : Cx} {pins : List (Addr × Obj)} {σ : St} {H : Hp} {s : Shared} {a : Addr} {y : V} {o : Option V} (I : Inv X pins σ H s) (g : DGet H a y o) : s.TypeIs (.ref a) "dict" := by
  rcases g with ⟨kvs, k, e, _, _⟩ | ⟨kvs, k, b, e, _, _, _⟩
  · obtain ⟨_, _, vs, _, dd⟩ := dk_rd I.hok e
    exact dd.typeIs
  · obtain ⟨_, _, xs, _, dd⟩ := dt_rd I.hok e
    exact dd.typeIs
def tDGet (td ty : TE) : TE := fun σ H Q => td σ H fun x H1 => ty σ H1 fun y H2 => ∃ a v, x = .ref a ∧ DGet H2 a y (some v) ∧ Q v H2
def sDPut (td ty tv : TE) : TS := fun D σ H => tv σ H fun v H1 => td σ H1 fun x H2 => ty σ H2 fun y H3 => ∃ a H4, x = .ref a ∧ DPut H3 a y v H4 ∧ D.nx σ H4
section
variable {X : Cx} {o i e value : Expr} {pos pos' tpos : Pos} {td ty tv : TE}
theorem pe_dget (hu : X.A.units + 1 < cLine) (ho : PE X o td) (hi : PE X i ty) (hs : NoSl i) : PE X (.Subscript o i pos) (tDGet td ty) := by
  intro pins s σ H Q I h
  refine subD_of PySem.F.slot_dict_getitem.lookup hs (thn (ho pins s σ H _ I h) fun u s1 ⟨x, H1, I1, rx, q1⟩ => thn (hi pins s1 σ H1 _ I1 q1) fun iv s2 ⟨y, H2, I2, ry, a, v, ex, g, q2⟩ => ?_)
  subst ex
  obtain rfl : u = Value.ref a := rx
  exact ⟨dict_typeIs I2 g, d_getItem hu I2 g ry fun w' s3 I3 rw' => ⟨v, H2, I3, rw', q2⟩⟩
theorem ps_dput (hu : X.A.units + 1 < cLine) (ho : PE X o td) (hi : PE X i ty) (hv : PE X value tv) (hs : swapsWith value (some (.Subscript o i pos')) pos.line X.env = pure false) :
    PS X (.Assign [.Subscript o i pos'] value pos) (sDPut td ty tv) := by
  intro pins s σ H D I h
  refine wpAny_Assign_Subscript (thn (hv pins s σ H _ I h) fun r s1 ⟨v, H1, I1, rv, q1⟩ => thn (ho pins s1 σ H1 _ I1 q1) fun u s2 ⟨x, H2, I2, rx, q2⟩ => thn (hi pins s2 σ H2 _ I2 q2) fun iv s3 ⟨y, H3, I3, ry, a, H4, ex, g, q3⟩ => ?_) hs
  subst ex
  obtain rfl : u = Value.ref a := rx
  exact d_setItem hu I3 g ry rv fun s4 I4 => ⟨σ, H4, I4, q3⟩
end
theorem dk_empty {P : Program} {w : World} {H : Hp} (h : Heap) (hb : sysModules < h.objs.size) : ObjOk P w H (h.push { cls := .type "dict", data := .dict #[] }) h.objs.size (.dK []) :=
  ⟨Nat.zero_le _, beq_eq_false_iff_ne.mpr (Ne.symm (Nat.ne_of_lt hb)), [], .nil, Heap.DictOf.new h⟩
section
variable {X : Cx} {pos : Pos}
end
def tPairs : List (TE × TE) → St → Hp → (List (V × V) → Hp → Prop) → Prop
  | [], _, H, Q => Q [] H
  | (tk, tv) :: r, σ, H, Q => tk σ H fun x H1 => tv σ H1 fun y H2 => tPairs r σ H2 fun ps H3 => Q ((x, y) :: ps) H3
abbrev VV : List (V × V) → List (Value × Value) → Prop := Paired fun p q => RelV p.1 q.1 ∧ RelV p.2 q.2
def PPs (X : Cx) (pos : Pos) (keys : List (Option Expr)) (values : List Expr) (trs : List (TE × TE)) : Prop :=
  ∀ (pins : List (Addr × Obj)) (s : Shared) (σ : St) (H : Hp) (Q : List (V × V) → Hp → Prop), Inv X pins σ H s → tPairs trs σ H Q →
    wpAny (model X.prog X.w) X.A (evalPairs (pairTrees keys values X.env pos)) (fun vs s' => ∃ ps H', Inv X pins σ H' s' ∧ VV ps vs ∧ Q ps H') X.xe s
theorem pps_nil {X : Cx} {pos : Pos} : PPs X pos [] [] [] := fun pins s σ H Q I h => pairTrees_nil_walk ⟨[], H, I, .nil, h⟩
theorem pps_cons {X : Cx} {pos : Pos} {k v : Expr} {ks : List (Option Expr)} {vs : List Expr} {tk tv : TE} {trs : List (TE × TE)} (hk : PE X k tk) (hv : PE X v tv) (hr : PPs X pos ks vs trs) :
    PPs X pos (some k :: ks) (v :: vs) ((tk, tv) :: trs) := fun pins s σ H Q I h =>
  pairTrees_cons_walk (thn (hk pins s σ H _ I h) fun u s1 ⟨x, H1, I1, rx, q1⟩ => thn (hv pins s1 σ H1 _ I1 q1) fun w2 s2 ⟨y, H2, I2, ry, q2⟩ =>
    thn (hr pins s2 σ H2 _ I2 q2) fun ws s3 ⟨ps, H3, I3, rel, q3⟩ => ⟨(x, y) :: ps, H3, I3, .cons ⟨rx, ry⟩ rel, q3⟩)
def mergeK (kvs more : List (Key × V)) : List (Key × V) := more.foldl (fun acc kv => putK acc kv.1 kv.2) kvs
theorem KV.merge : ∀ {more : List (Key × V)} {rs : List (Key × Value)} {kvs : List (Key × V)} {vs : List (Key × Value)}, KV more rs → KV kvs vs → KV (mergeK kvs more) (merged vs rs) := by
  intro more rs kvs vs r
  unfold KV at r
  induction r generalizing kvs vs with
  | nil => intro q; exact q
  | @cons p q ps qs h t ih =>
    intro r0
    have e : KV (putK kvs p.1 p.2) (stored vs q.1 q.2) := by
      have := r0.put p.1 h.2
      rw [← h.1]; exact this
    exact ih e
theorem length_mergeK : ∀ (more kvs : List (Key × V)), (mergeK kvs more).length ≤ kvs.length + more.length
  | [], kvs => by show kvs.length ≤ kvs.length + 0; omega
  | p :: r, kvs => by
    have h1 := length_mergeK r (putK kvs p.1 p.2)
    have h2 := length_putK kvs p.1 p.2
    show (mergeK (putK kvs p.1 p.2) r).length ≤ _
    rw [List.length_cons]; omega
theorem carries_of {P : Program} {w : World} : ∀ {kvs : List (Key × V)} {ws : List (Value × Value)}, VV (kvs.map fun kv => (kV kv.1, kv.2)) ws → ∃ rs, Carries (mixKind P w) ws rs ∧ KV kvs rs
  | [], _, r => by rw [List.map_nil] at r; cases r; exact ⟨[], True.intro, .nil⟩
  | p :: kvs, _, r => by
    rw [List.map_cons] at r
    cases r with
    | @cons a b as bs h t =>
      obtain ⟨rs, c, q⟩ := carries_of (P := P) (w := w) t
      obtain ⟨b1, b2⟩ := b
      exact ⟨(p.1, b2) :: rs, ⟨kV_is h.1, rfl, c⟩, .cons ⟨rfl, h.2⟩ q⟩
def tDisp (trs : List (TE × TE)) : TE := fun σ H Q => ∀ p, H p = none → tPairs trs σ (upd H p (.dK [])) fun ps H2 => H2 p = some (.dK []) ∧ ∃ kvs : List (Key × V), ps = kvs.map (fun kv => (kV kv.1, kv.2)) ∧ kvs.length ≤ 15 ∧ Q (.ref p) (upd H2 p (.dK (mergeK [] kvs)))
theorem pe_disp {X : Cx} {pos : Pos} {keys : List (Option Expr)} {values : List Expr} {trs : List (TE × TE)} (h : PPs X pos keys values trs) (hall : keys.all (·.isSome) = true) (hl : keys.length = values.length) (h0 : keys ≠ [])
    (h15 : keys.length ≤ 15) : PE X (.Dict keys values pos) (tDisp trs) := by
  intro pins s σ H Q I q
  have hn := I.hok.fresh (Nat.le_refl s.heap.objs.size)
  have I1 := I.laid (a := s.heap.objs.size) (o := .dK []) (h' := s.heap.push { cls := .type "dict", data := .dict #[] }) (t' := s.toks) (fun _ _ q => Heap.get?_push_of_some _ q) (Nat.le_refl _) (dk_empty s.heap I.big)
  refine wpAny_Dict_walk (knd := mixKind X.prog X.w) hall hl h0 h15 (thn (h pins _ σ _ _ I1 (q _ hn)) fun ws s2 ⟨ps, H2, I2, rel, e, kvs, ep, lk, q2⟩ => ?_)
  subst ep
  obtain ⟨rs, c, rk⟩ := carries_of (P := X.prog) (w := X.w) rel
  obtain ⟨z, hd, vs0, r0, dd⟩ := dk_of I2.hok e
  cases r0
  refine ⟨rs, c, dd, fun h' dd' hs => ⟨.ref s.heap.objs.size, _, ?_, rfl, q2⟩⟩
  have hz : (mergeK [] kvs).length ≤ sizeLine := by
    have h1 := length_mergeK kvs []
    rw [List.length_nil] at h1
    rw [sizeLine_eq]; omega
  have he : ∃ q, h'.get? s.heap.objs.size = some q := let ⟨q, _, _, hq, _⟩ := dd'; ⟨q, hq⟩
  exact d_write I2 (by rw [e]; exact True.intro) hs he (dk_new hz hd (rk.merge .nil) dd')
section
variable {X : Cx} {pins : List (Addr × Obj)} {σ : St} {H : Hp} {s : Shared} {a : Addr} {y d : V} {u r : Value} {o : Option V} {A : Around} {E : Value → Shared → Prop}
end
section
variable {X : Cx} {o e f : Expr} {apos cpos : Pos} {td ty tx : TE}
end
section
variable {X : Cx} {pins : List (Addr × Obj)} {σ : St} {H : Hp} {s : Shared} {a : Addr} {kvs : List (Key × V)} {A : Around} {E : Value → Shared → Prop}
end
section
variable {X : Cx} {pins : List (Addr × Obj)} {σ : St} {H : Hp} {s : Shared} {a : Addr} {y : V} {u : Value} {A : Around} {E : Value → Shared → Prop}
end
end L2
namespace Att
open PySem PySem.W PySem.Calls PyProof.Rows
theorem ints_of_wellAll {P : Params} {h : Heap} : ∀ (ns : List Int) (vs : List Value), WellAll P h vs (ns.map WData.int) → IntsAre vs ns := by
  intro ns
  induction ns with
  | nil =>
    intro vs w
    rw [List.map_nil] at w
    cases w
    exact .nil
  | cons n ns ih =>
    intro vs w
    rw [List.map_cons] at w
    cases w with
    | cons a b =>
      cases a
      exact .cons _ _ (ih _ b)
theorem script_of {l : OpenLaw} {n : Nat} (hn : l.most = some n) {P : Params} {h : Heap} {args : List WData} {vals : List Value}
    (hpre : l.row.toRowW.claim.pre args = true) (hwl : WellAll P h vals args) :
    ∃ a vs ns, vals = [Value.ref a] ∧ args = [WData.list (ns.map WData.int)] ∧ h.get? a = some { cls := .type "list", data := .seq vs.toArray } ∧ IntsAre vs ns ∧ ns.length ≤ n := by
  have hsh : WShape.hasAll [] args [.list .int] = true := (pre_splitW hpre).1
  have hc : l.pre.holds [] { args := args } = true := (pre_splitW hpre).2
  obtain ⟨d, r, rfl, h1, h2⟩ := hasAllW_cons hsh
  obtain rfl := hasAllW_nil h2
  obtain ⟨xs, rfl, h3⟩ := hasW_list h1
  obtain ⟨ns, rfl⟩ := items_int h3
  have hlen : ns.length ≤ n := by
    unfold OpenLaw.pre at hc
    have h4 : (WTm.not (.lt (.lit (.int (n : Int))) (.len (.arg 0)))).holds [] { args := [.list (ns.map .int)] } = true := by
      have h4 := (holds_andW hc).1
      rw [hn] at h4
      exact h4
    have h5 := condW_of h4 (w_not (w_lt w_lit (w_len_list (w_arg rfl))))
    rw [List.length_map] at h5
    refine Nat.le_of_not_lt fun q => ?_
    have q' : (n : Int) < ((ns.length : Nat) : Int) := by omega
    first
      | (rw [decide_eq_true q'] at h5; exact absurd h5 (by decide))
      | (simp at h5; omega)
  cases hwl with
  | cons w1 w2 =>
    cases w2
    cases w1 with
    | list ho hall => exact ⟨_, _, ns, rfl, rfl, ho, ints_of_wellAll ns _ hall, hlen⟩
theorem post_true (l : OpenLaw) (args : List WData) : l.row.toRowW.claim.post args (.bool true) args = true :=
  postW_of (r := l.row.toRowW) (X := (true == true))
    (show WShape.has [] (.bool true) .bool = true by first | rfl | decide | simp [WShape.has, WShape.arms, WShape.armsAll])
    (show (WTm.eq .res (.lit (.bool true))).value [] { args := args, res := some (.bool true), after := args } = some (.bool (true == true)) from w_eq_bool (w_res rfl) w_lit) rfl
theorem attach_call {l : OpenLaw} {n : Nat} {q : Program} {loose : List Str} {XP : (Str → Option Value) → Heap → Prop} {YP : World → Heap → Prop} {d : DefRec}
    (hn : l.most = some n) (hdf : d.params.defaults = [])
    (call : ∀ (w : World) (s₀ s₁ : Shared) (mg mb : Str → Option Value) (fa : Addr) (o : Obj) (pm cd doc : Value) (a : Addr) (vs : List Value) (ns : List Int),
      Ground q loose [] XP w s₀ mg mb s₁.heap → YP w s₁.heap →
      s₁.heap.get? fa = some o → o.data = .func (docDef d.name d.params d.body d.scope pm cd doc) → s₁.heap.CodeRec cd d.name → mg d.name = some (.ref fa) →
      s₁.heap.get? a = some { cls := .type "list", data := .seq vs.toArray } → IntsAre vs ns → ns.length ≤ n → s₁.gens = #[] →
      codeAny (model l.prog w) callerA (.call (.ref fa) ⟨[.ref a], []⟩) (fun r s' => r = .ok (.ret (.bool true)) ∧ OldK s₁.heap s'.heap ∧ s'.os = s₁.os ∧ AllBare s'.gens) s₁) :
    WalkO q loose XP YP l.row.toRowW d [] (fun f vs => PySem.call f vs) := by
  intro w s₀ s₁ mg mb G Y fa o pm cd doc dV kV ho hd hcd hD hmg hg args vals as hpre hlay hrd hwl hlo
  obtain rfl : dV = .none := Dflts.none hD hdf
  obtain rfl : kV = .none := Dflts.noKw hD
  obtain ⟨a, vs, ns, rfl, rfl, hobj, hints, hlen⟩ := script_of hn hpre hwl
  refine enter_call (codeAny_mono (call w s₀ s₁ mg mb fa o pm cd doc a vs ns G Y ho (fd_plain hd) hcd hmg hobj hints hlen hg) fun r s' hq => ?_)
  obtain ⟨rfl, h2, h3, h4⟩ := hq
  exact ⟨.inl ⟨.bool true, .bool true, [], rfl, fun _ => rfl, .bool true, post_true l _, fun _ => ⟨List.Pairwise.nil, fun _ hm => (nomatch hm)⟩⟩, h2, h3, h4⟩
section
variable {prog : Program} {w : World} {A : Around} {E : Value → Shared → Prop} {s : Shared} {K : Frag}
end
end Att
namespace L2
open PySem PySem.Spec PyProof.Rows
theorem vals_ints : ∀ {vs : List Value} {ns : List Int}, IntsAre vs ns → Vals (ns.map V.int) vs
  | _, _, .nil => .nil
  | _, _, .cons n t h => .cons ⟨t, rfl⟩ (vals_ints h)
def Only (H : Hp) : Prop := ∀ b, H b = none ∨ ∃ o xs, H b = some (.frz o (.lst xs))
theorem law_call {P : Program} {w : World} {K : PySem.W.Frag} {mg mb : Str → Option Value} {CX : CXT} {k : Nat} {fa a : Addr} {fd : FuncData} {x : Str} {sp : Sp} {s₁ : Shared} {vs : List Value} {ns : List Int}
    (KX : K.In s₁.heap) (hns : s₁.heap.Ns mainGlobals mg) (hb : s₁.heap.Ns builtinsNs mb) (hbb : ∀ x : Str, x ≠ "__name__" → mb x = bootBuiltins x) (hlim : s₁.heap.NoLimit) (hg : s₁.gens = #[])
    (ha : s₁.heap.get? a = some { cls := .type "list", data := .seq vs.toArray }) (hi : IntsAre vs ns) (hl : ns.length ≤ sizeLine) (hr : Room k callerA)
    (F : ∀ base : Heap, K.In base → base.Ns mainGlobals mg → FnOk P w K mg base CX k fa fd [x] sp) (hbind : ∀ (s : Shared) (u : Value), BindsTo s fd ⟨[u], []⟩ [(x, u)])
    (hsp : ∀ H : Hp, Only H → SqL K H a (ns.map V.int) → sp [.ref a] H (fun v _ => v = .bl true) fun _ _ _ => False)
    (hCX : ∀ H e s', CX [] H s₁ (fun _ _ _ => False) e s' → False) :
    codeAny (model P w) callerA (.call (.ref fa) ⟨[.ref a], []⟩) (fun r s' => r = .ok (.ret (.bool true)) ∧ OldK s₁.heap s'.heap ∧ s'.os = s₁.os ∧ AllBare s'.gens) s₁ := by
  have rv := vals_ints hi
  have lenV := hi.length
  -- from an abstract heap in which nothing but the script may be tracked
  have core : ∀ H : Hp, Only H → SqL K H a (ns.map V.int) → HOk P w H s₁.heap → (∀ b, H b ≠ none → b = a) → (H a ≠ none → K.lookup a = none) →
      codeAny (model P w) callerA (.call (.ref fa) ⟨[.ref a], []⟩) (fun r s' => r = .ok (.ret (.bool true)) ∧ OldK s₁.heap s'.heap ∧ s'.os = s₁.os ∧ AllBare s'.gens) s₁ := by
    intro H hO hS hok hA hK
    have base_of : ∀ {b : Addr} {o : Obj}, s₁.heap.get? b = some o → H b = none → (hidT s₁.heap H).get? b = some o := fun e n => hidT_get e n
    have noA : ∀ {b : Addr} {o : Obj} {es : Array DictEntry} {ep : Nat}, s₁.heap.get? b = some o → o.data = .dict es ep → H b = none := fun {b o es ep} e d => by
      cases q : H b with
      | none => rfl
      | some u =>
        have e' : b = a := hA b (by rw [q]; simp)
        subst e'
        rw [ha] at e; cases e
        have d' : Data.seq vs.toArray _ = Data.dict es ep := d
        cases d'
    have nsK : ∀ {b : Addr} {m : Str → Option Value}, s₁.heap.Ns b m → (hidT s₁.heap H).Ns b m := fun {b m} ⟨o, es, ep, e, d, r⟩ => ⟨o, es, ep, base_of e (noA e d), d, r⟩
    have hKb : K.In (hidT s₁.heap H) := fun b o e => base_of (KX b o e) (by
      cases q : H b with
      | none => rfl
      | some u =>
        have e' : b = a := hA b (by rw [q]; simp)
        subst e'
        rw [hK (by rw [q]; simp)] at e; cases e)
    have hM : Mod K mg (hidT s₁.heap H) := ⟨hKb, nsK hns, ⟨mb, nsK hb, hbb⟩, let ⟨mc, h1, h2⟩ := hlim; ⟨mc, nsK h1, h2⟩⟩
    have e0 : Env0 P w K mg (hidT s₁.heap H) callerA [] s₁ H := ⟨rfl, hM, fun b o e => of_hidT e, Nat.le_of_eq (hidT_size _ _), trivial, fun b hb => absurd (show b ∈ ([] : List Addr) from hb) (by simp), hok, .of_eq hg⟩
    refine codeAny_mono ((F _ hKb (nsK hns)).run callerA [] s₁ H ⟨[.ref a], []⟩ [.ref a] [.ref a] _ _ hr e0 (hbind s₁ (.ref a)) (.cons rfl .nil) (hsp H hO hS)) fun r s' h => ?_
    cases r with
    | error e => exact (hCX H e s' h).elim
    | ok fl =>
      cases fl with
      | next => exact False.elim h
      | brk => exact False.elim h
      | cont => exact False.elim h
      | ret u =>
        obtain ⟨v, H', os, bare, un, hok', r', q⟩ := h
        have q' : v = .bl true := q
        subst q'
        obtain rfl : u = Value.bool true := r'
        refine ⟨rfl, OldK.of_keep fun b o e => ?_, os, bare⟩
        cases q : H b with
        | none => exact un.keep b o e q (by intro z; exact absurd (show b ∈ ([] : List Addr) from z) (by simp)) (by simp)
        | some u =>
          rcases hO b with z | ⟨ob, xs, z⟩
          · rw [q] at z; cases z
          · have z2 := un.frzs b ob _ z
            obtain ⟨e1, _⟩ := hok b _ z
            obtain ⟨e2, _⟩ := hok' b _ z2
            rw [e] at e1; cases e1
            exact e2
  cases hk : K.lookup a with
  | some o =>
    -- the script is one of the module's own objects
    have e := KX a o hk
    rw [ha] at e
    cases e
    refine core (fun _ => none) (fun _ => .inl rfl) (.inr ⟨_, vs.toArray, _, hk, rfl, rfl, rfl, by rw [List.size_toArray, lenV]; exact hl, by simpa using rv⟩) (fun b u z => by have z' : (none : Option HO) = some u := z; cases z') (fun b z => absurd rfl z) fun z => absurd rfl z
  | none =>
    refine core (fun b => if b = a then some (.frz { cls := .type "list", data := .seq vs.toArray } (.lst (ns.map V.int))) else none) (fun b => ?_) (.inl (.inr ⟨{ cls := .type "list", data := .seq vs.toArray }, if_pos rfl⟩)) (fun b u z => ?_) (fun b z => ?_) fun _ => hk
    · by_cases hb : b = a
      · exact .inr ⟨_, _, if_pos hb⟩
      · exact .inl (if_neg hb)
    · by_cases hb : b = a
      · have z' := (if_pos hb).symm.trans z
        cases z'
        subst hb
        exact ⟨ha, by rw [List.length_map]; exact hl, vs, _, rv, ha⟩
      · have z' := (if_neg hb).symm.trans z
        cases z'
    · by_cases hb : b = a
      · exact hb
      · exact absurd (if_neg hb) z
end L2
namespace L2
open PySem PySem.Spec PyProof.Rows
theorem walk_of {l : PySem.W.OpenLaw} {n k : Nat} {q : Program} {loose : List Str} {XP : (Str → Option Value) → Heap → Prop} {YP : World → Heap → Prop} {d : DefRec} {K : Params → PySem.W.Frag} {CX : World → CXT} {sp : World → Sp} {x : Str}
    (hn : l.most = some n) (hn2 : n ≤ sizeLine) (hdf : d.params.defaults = []) (hr : Room k callerA)
    (hY : ∀ (w : World) (h : Heap), YP w h → (K w.params).In h)
    (F : ∀ (w : World) (mg : Str → Option Value) (fa : Addr) (h : Heap), (K w.params).In h → h.Ns mainGlobals mg → mg d.name = some (.ref fa) →
      ∃ fd : FuncData, (∀ (s : Shared) (u : Value), BindsTo s fd ⟨[u], []⟩ [(x, u)]) ∧
        ∀ base : Heap, (K w.params).In base → base.Ns mainGlobals mg → FnOk l.prog w (K w.params) mg base (CX w) k fa fd [x] (sp w))
    (hsp : ∀ (w : World) (H : Hp) (a : Addr) (ns : List Int), ns.length ≤ n → Only H → SqL (K w.params) H a (ns.map V.int) → sp w [.ref a] H (fun v _ => v = .bl true) fun _ _ _ => False)
    (hCX : ∀ (w : World) (H : Hp) (s : Shared) (e : Value) (s' : Shared), CX w [] H s (fun _ _ _ => False) e s' → False) :
    PySem.W.WalkO q loose XP YP l.row.toRowW d [] (fun f vs => PySem.call f vs) := by
  refine Att.attach_call hn hdf fun w s₀ s₁ mg mb fa o pm cd doc a vs ns G Y ho hd hcd hmg hobj hints hlen hg => ?_
  have KX := hY w _ Y
  obtain ⟨fd, hb, hF⟩ := F w mg fa _ KX G.T.g hmg
  exact law_call KX G.T.g G.T.b G.T.builtins G.T.nolimit hg hobj hints (Nat.le_trans hlen hn2) hr hF hb (fun H hO hS => hsp w H a ns hlen hO hS) fun H e s' => hCX w H s₁ e s'
end L2
/- THE LAST THEOREM (shape; LID, My.* are yours):
   My.Adr: a structure of the addresses that your layer names (classes, functions); My.Txt K t: a structure (Prop) of the equations over K;
   My.txt_mk : {K} {implicit addresses ..} (e1 : nsIn K mainGlobals "law" = some (some (.ref f))) (e2 : K.lookup f = some ⟨oc, od, .func (fnOf "law" "law" params body scope dV kV doc pm an cdv ct), sl⟩) (e3 : codeIn K cdv "law" = true) .. : ∃ t, My.Txt K t
set_option maxRecDepth 100000 in
set_option maxHeartbeats 0 in
theorem PySem.Challenge.cw_LID_holds : PySem.Challenge.rw_LID.Holds := by
  w_on; o_law; k_head; (case hw => w_witness2)
  k_fill
  refine L2.walk_of (l := PySem.Challenge.rw_LID) (n := 63) (k := 40) (x := "script") (CX := fun w => ..) (sp := fun _ => My.sp_law) rfl (by decide) rfl ⟨rfl, by decide, by decide⟩ (fun w h Y => PySem.W.kIn_of Y) ?F ?S ?C
  case F =>
    intro w mg fa h KX G hmg
    have T : ∃ t, My.Txt (L2.KOf KX) t := by
      dsimp only [L2.KOf]                          -- K must stand as «<heap const> w.params» for k_is
      refine' My.txt_mk ?e1 ?e2 ?e3 ..
      (case e1 => PySem.W.k_is)                    -- in the order: a name -> its address -> its object -> its parts
      (case e2 => PySem.W.k_is)
      ..
    obtain ⟨t, T⟩ := T
    have e0 := hmg.symm.trans (PySem.W.mg_of KX G T.law)
    cases e0                                       -- fa is the law's own address
    exact ⟨_, fun s u => .of_eq rfl, fun base kb nb => My.law_fn T kb nb⟩     -- if «.of_eq rfl» comes too early: refine' ⟨_, ?b, fun base kb nb => My.law_fn T kb nb⟩; exact fun s u => .of_eq rfl
  case S => exact fun w H a ns hl hO hS => ..
  case C => exact ..
(the tactic k_is has no namespace: write k_is) -/
namespace L2
open PySem PySem.Spec PyProof.Rows
def defArgs (s : Stmt) : Arguments := match s with
  | .FunctionDef _ a _ _ _ _ _ _ _ _ => a
  | _ => { posonlyargs := [], args := [], vararg := none, kwonlyargs := [], kw_defaults := [], kwarg := none, defaults := [] }
def defBody (s : Stmt) : List Stmt := match s with
  | .FunctionDef _ _ b _ _ _ _ _ _ _ => b
  | _ => []
def defScope (s : Stmt) : Scope := match s with
  | .FunctionDef _ _ _ _ _ _ sc _ _ _ => sc
  | _ => { kind := .function, names := [], isGenerator := false, isCoroutine := false }
abbrev CX0 : CXT := fun _ _ _ _ _ _ => False
abbrev E0 : XK := fun _ _ _ => False
theorem pass0 {X : Cx} : Passes CX0 X E0 := fun _ _ _ _ _ _ _ h => h.elim
structure Fun (K : PySem.W.Frag) (x qual : Str) (st : Stmt) (f : Addr) (fd : FuncData) : Prop where
  ex : ∃ (oc : Value) (od : Option Addr) (kV doc pm : Value) (an : Option Addr) (cdv ct : Value) (osl : Array (Option Value)),
    fd = PySem.W.fnOf x qual (defArgs st) (defBody st) (defScope st) .none kV doc pm an cdv ct ∧ K.lookup f = some ⟨oc, od, .func fd, osl⟩ ∧ PySem.W.codeIn K cdv qual = true
  kp : PySem.W.keepIn K (.ref f) = true
section
variable {P : Program} {w : World} {K : PySem.W.Frag} {mg : Str → Option Value} {base : Heap}
theorem Fun.ok {x qual : Str} {st : Stmt} {f : Addr} {fd : FuncData} {N ps : List Str} {k : Nat} {sp : Sp} (F : Fun K x qual st f fd) (S : FnScope N ps (defScope st)) (len : ∀ vs H Q E, sp vs H Q E → vs.length = ps.length)
    (hbody : ∀ (cdv : Value) (A : Around) (outer : List Env) (s : Shared) (H : Hp) (vs : List V) (Q : VK) (E : XK), Room k (A.deeper (envOfC qual (defScope st) s.heap.objs.size f cdv)) → sp vs H Q E →
      ∃ t, PSs (cxOf CX0 P w K mg base N qual (defScope st) f cdv A outer s H E).nox (defBody st) t ∧ t { nx := fun _ H' => Q .non H', rt := Q } (start N vs) H) : FnOk P w K mg base CX0 (k + 1) f fd ps sp := by
  obtain ⟨oc, od, kV, doc, pm, an, cdv, ct, osl, rfl, lk, hcd⟩ := F.ex
  refine fn_of lk hcd S len fun A outer s H vs Q E hr hsp => ?_
  obtain ⟨t, h, q⟩ := hbody cdv A outer s H vs Q E hr hsp
  exact ⟨t, h.nox, q⟩
theorem Fun.binds {x qual : Str} {st : Stmt} {f : Addr} {fd : FuncData} {ps : List Str} (F : Fun K x qual st f fd)
    (h : ∀ (kV doc pm : Value) (an : Option Addr) (cdv ct : Value) (us : List Value), us.length = ps.length → bindArgs (PySem.W.fnOf x qual (defArgs st) (defBody st) (defScope st) .none kV doc pm an cdv ct) ⟨us, []⟩ = pure (ps.zip us)) : Binds K fd ps [] := by
  obtain ⟨oc, od, kV, doc, pm, an, cdv, ct, osl, rfl, lk, hcd⟩ := F.ex
  exact .all (h kV doc pm an cdv ct)
theorem fun_mk {x qual : Str} {st : Stmt} {f : Addr} {oc : Value} {od an : Option Addr} {osl : Array (Option Value)} {kV doc pm cdv ct : Value} (l : K.lookup f = some ⟨oc, od, .func (PySem.W.fnOf x qual (defArgs st) (defBody st) (defScope st) .none kV doc pm an cdv ct), osl⟩)
    (c : PySem.W.codeIn K cdv qual = true) (k : PySem.W.keepIn K (.ref f) = true) : Fun K x qual st f (PySem.W.fnOf x qual (defArgs st) (defBody st) (defScope st) .none kV doc pm an cdv ct) := ⟨⟨oc, od, kV, doc, pm, an, cdv, ct, osl, rfl, l, c⟩, k⟩
end
theorem hu_of {A : Around} {k : Nat} (hr : Room k A) : A.units + 1 < cLine := Nat.lt_of_le_of_lt (Nat.add_le_add_left (by decide : 1 ≤ 64) _) hr.units
theorem small1000 {n : Nat} (h : n ≤ 1000) : n < sizeLine := Nat.lt_of_le_of_lt h (by decide)
section
variable {X : Cx}
theorem pv (i : Nat) {x : Str} {pos : Pos} (hN : X.N[i]? = some x := by rfl) (hv : Vis X.env.scope x := by first | exact Or.inl rfl | exact Or.inr (Or.inl rfl) | exact Or.inr (Or.inr rfl)) (hd : (x == ("__debug__" : Str)) = false := by decide)
    (hcd : (x == ("__classdict__" : Str)) = false := by decide) : PE X (.Name x pos) (tVar i) := pe_var hN hv hd hcd
end
theorem iteF {A B : Prop} (h : B) : if false = true then A else B := by
  rw [if_neg Bool.false_ne_true]
  exact h
theorem ite2 {c A B : Prop} [Decidable c] (h1 : c → A) (h2 : ¬ c → B) : if c then A else B := by
  by_cases h : c
  · rw [if_pos h]
    exact h1 h
  · rw [if_neg h]
    exact h2 h
def Same (H H' : Hp) : Prop := ∀ b o, H b = some o → H' b = some o
theorem Same.refl (H : Hp) : Same H H := fun _ _ h => h
theorem Same.seq {K : PySem.W.Frag} {H H' : Hp} {a : Addr} {xs : List V} (e : Same H H') (h : SqL K H a xs) : SqL K H' a xs := by
  rcases h with (h | ⟨o, h⟩) | h
  · exact .inl (.inl (e _ _ h))
  · exact .inl (.inr ⟨o, e _ _ h⟩)
  · exact .inr h
section
variable {X : Cx}
end
section
variable {κ : Type} [DecidableEq κ]
end
end L2
set_option Elab.async false
set_option linter.all false
set_option maxRecDepth 100000
set_option maxHeartbeats 4000000
namespace L2
open PySem PySem.Spec PyProof.Rows
def closL (f : Str → Addr) : List (Str × NameKind) → List (Str × Addr) → List (Str × Addr)
  | [], acc => acc
  | (n, kd) :: r, acc => closL f r (if (kd == NameKind.free) = true then (n, f n) :: acc else acc)
theorem closureFor_closL {scope : Scope} {env : Env} {f : Str → Addr} (h : ∀ y ∈ scope.names, y.2 = .free → cellOf env y.1 = pure (f y.1)) :
    closureFor scope env = pure (closL f scope.names []) := by
  have key : ∀ (l : List (Str × NameKind)) (acc : List (Str × Addr)), (∀ y ∈ l, y.2 = .free → cellOf env y.1 = pure (f y.1)) →
      (forIn l acc (fun (x : Str × NameKind) (cs : List (Str × Addr)) => if (x.2 == NameKind.free) = true then (do let c ← cellOf env x.1; pure (ForInStep.yield ((x.1, c) :: cs))) else pure (ForInStep.yield cs)) : Sem (List (Str × Addr))) = pure (closL f l acc) := by
    intro l
    induction l with
    | nil => intro acc _; rfl
    | cons y r ih =>
      intro acc hy
      obtain ⟨n, kd⟩ := y
      rw [List.forIn_cons]
      by_cases hk : (kd == NameKind.free) = true
      · have e : kd = .free := by simpa using hk
        have hc := hy (n, kd) List.mem_cons_self e
        simp only [hk, if_true]
        dsimp only at hc
        rw [hc]
        show (forIn r ((n, f n) :: acc) _ : Sem _) = _
        rw [ih _ fun z hz => hy z (List.mem_cons_of_mem _ hz)]
        simp only [closL, hk, if_true]
      · simp only [hk, if_false]
        show (forIn r acc _ : Sem _) = _
        rw [ih _ fun z hz => hy z (List.mem_cons_of_mem _ hz)]
        simp only [closL, hk, if_false]
        rfl
  have := key scope.names [] h
  unfold closureFor
  show (forIn scope.names [] _ >>= fun r => pure r) = _
  rw [show (forIn scope.names ([] : List (Str × Addr)) _ : Sem _) = _ from this]
  rfl
theorem closL_lookup {f : Str → Addr} : ∀ (l : List (Str × NameKind)) (acc : List (Str × Addr)) {x : Str} {c : Addr}, (closL f l acc).lookup x = some c → ((x, NameKind.free) ∈ l ∧ c = f x) ∨ acc.lookup x = some c
  | [], _, _, _, h => .inr h
  | (n, kd) :: r, acc, x, c, h => by
    rw [closL] at h
    rcases closL_lookup r _ h with ⟨h1, h2⟩ | h1
    · exact .inl ⟨List.mem_cons_of_mem _ h1, h2⟩
    · by_cases hk : (kd == NameKind.free) = true
      · rw [if_pos hk] at h1
        have e : kd = .free := by simpa using hk
        subst e
        by_cases hx : x = n
        · subst hx
          simp at h1
          exact .inl ⟨List.mem_cons_self, h1.symm⟩
        · have hb : (x == n) = false := beq_eq_false_iff_ne.mpr hx
          rw [List.lookup_cons, hb] at h1
          exact .inr h1
      · rw [if_neg hk] at h1
        exact .inr h1
theorem closL_has {f : Str → Addr} : ∀ (l : List (Str × NameKind)) (acc : List (Str × Addr)) {x : Str}, ((x, NameKind.free) ∈ l ∨ acc.lookup x = some (f x)) → (closL f l acc).lookup x = some (f x)
  | [], _, _, h => by
    rcases h with h | h
    · exact absurd h (by simp)
    · exact h
  | (n, kd) :: r, acc, x, h => by
    rw [closL]
    refine closL_has r _ ?_
    by_cases hk : (kd == NameKind.free) = true
    · rw [if_pos hk]
      have e : kd = .free := by simpa using hk
      subst e
      by_cases hx : x = n
      · subst hx
        exact .inr (by simp)
      · have hb : (x == n) = false := beq_eq_false_iff_ne.mpr hx
        rcases h with h | h
        · rcases List.mem_cons.mp h with z | z
          · cases z; exact absurd rfl hx
          · exact .inl z
        · exact .inr (by rw [List.lookup_cons, hb]; exact h)
    · rw [if_neg hk]
      rcases h with h | h
      · rcases List.mem_cons.mp h with z | z
        · cases z; exact absurd rfl hk
        · exact .inl z
      · exact .inr h
theorem relabel_mem {scope : Scope} {env : Env} {x : Str} (hn : ∀ y ∈ scope.names, y.2 ≠ .cell) (h : (relabel scope env).names.lookup x = some .cell ∨ (relabel scope env).names.lookup x = some .free) : (x, NameKind.free) ∈ scope.names := by
  have go : ∀ kd, (relabel scope env).names.lookup x = some kd → kd = .cell ∨ kd = .free → (x, NameKind.free) ∈ scope.names := by
    intro kd h hk
    have hm := PySem.mem_of_lookup h
    unfold relabel at hm
    obtain ⟨⟨n, k0⟩, hy, e⟩ := List.mem_map.mp hm
    by_cases hc : (k0 == NameKind.free && env.scope.kind == .function && env.kindOf n == some .cell) = true
    · simp only [hc, if_true] at e
      cases e
      have : k0 = .free := by
        simp only [Bool.and_eq_true] at hc
        simpa using hc.1.1
      subst this
      exact hy
    · simp only [hc, if_false] at e
      cases e
      rcases hk with r | r
      · subst r; exact absurd rfl (hn _ hy)
      · subst r; exact hy
  rcases h with h | h
  · exact go _ h (.inl rfl)
  · exact go _ h (.inr rfl)
theorem lookup_mapped {φ : Str × NameKind → Str × NameKind} (hφ : ∀ n k, φ (n, k) = (n, k) ∨ (k = .free ∧ φ (n, k) = (n, .cell))) : ∀ {names : List (Str × NameKind)} {x : Str}, names.lookup x = some .free → (names.map φ).lookup x = some .cell ∨ (names.map φ).lookup x = some .free
  | [], _, h => by simp at h
  | (n, k) :: r, x, h => by
    have ih := @lookup_mapped φ hφ r x
    rw [List.map_cons]
    cases hx : x == n with
    | true =>
      simp only [List.lookup_cons, hx] at h
      cases h
      rcases hφ n .free with e | ⟨_, e⟩
      · rw [e, List.lookup_cons, hx]; exact .inr rfl
      · rw [e, List.lookup_cons, hx]; exact .inl rfl
    | false =>
      simp only [List.lookup_cons, hx] at h
      rcases hφ n k with e | ⟨_, e⟩
      · rw [e, List.lookup_cons, hx]; exact ih h
      · rw [e, List.lookup_cons, hx]; exact ih h
theorem relabel_free {scope : Scope} {env : Env} {x : Str} (h : scope.names.lookup x = some .free) : (relabel scope env).names.lookup x = some .cell ∨ (relabel scope env).names.lookup x = some .free := by
  unfold relabel
  refine lookup_mapped (fun n k => ?_) h
  by_cases hc : (k == NameKind.free && env.scope.kind == .function && env.kindOf n == some .cell) = true
  · refine .inr ⟨?_, if_pos hc⟩
    simp only [Bool.and_eq_true] at hc
    simpa using hc.1.1
  · exact .inl (if_neg hc)
section
variable {prog : Program} {w : World} {A : Around} {R : Result → Shared → Prop} {s : Shared}
theorem compLoop_any {elt target iter : Expr} {ifs : List Expr} {scope : Scope} {pos : Pos} {it acc : Value} {env : Env} (I : Nat → Shared → Prop)
    (turn : ∀ n s, I n s → wpAny (model prog w) A (pyNext it) (fun r s₁ => match r with
      | none => R (.ok .next) s₁
      | some v => wpAny (model prog w) A (letOwnedTupleGo target it v) (fun _ s₀ => wpAny (model prog w) A (assign target env v) (fun _ s₂ =>
          wpAny (model prog w) A (forIn ifs true fun c r => if r = true then do let ok ← isTrue c env (eval c env); pure (ForInStep.yield ok) else pure (ForInStep.yield r)) (fun ok s₃ =>
            if ok = true then wpAny (model prog w) A (eval elt env) (fun x s₄ =>
              wpAny (model prog w) A (call (.builtin "list.append") [acc, x]) (fun _ s₅ => ∃ m, m < n ∧ I m s₅) (fun _ _ => False) s₄) (fun _ _ => False) s₃
            else ∃ m, m < n ∧ I m s₃) (fun _ _ => False) s₂) (fun _ _ => False) s₀) (fun _ _ => False) s₁) (fun _ _ => False) s)
    (n : Nat) (h : I n s) :
    codeAny (model prog w) A (.compLoop (.ListComp elt [⟨target, iter, ifs, 0⟩] scope pos) 0 it acc env) R s := by
  refine codeAny_loop rfl I (fun n s hI => ?_) n h
  show wpAny _ A ((compTurn (.ListComp elt [⟨target, iter, ifs, 0⟩] scope pos) 0 it acc env).onRaise (fun x => do noteFrame x env; theTreesLotGoes x)) _ _ s
  refine wpAny_noted ?_
  rw [compTurn_list]
  refine wpAny_bind (wpAny_standAt (wpAny_bind (wpAny_mono (turn n s hI) (fun r s₁ h₁ => ?_) fun _ _ h' => h'.elim)))
  cases r with
  | none => exact wpAny_pure h₁
  | some v =>
    refine wpAny_bind (wpAny_mono h₁ (fun _ s₀ h₀ => ?_) fun _ _ h' => h'.elim)
    refine wpAny_bind (wpAny_mono h₀ (fun _ s₂ h₂ => wpAny_bind (wpAny_mono h₂ (fun ok s₃ h₃ => ?_) fun _ _ h' => h'.elim)) fun _ _ h' => h'.elim)
    cases ok with
    | false => exact wpAny_pure ⟨rfl, h₃⟩
    | true =>
      exact wpAny_bind (wpAny_bind (wpAny_mono h₃ (fun x s₄ h₄ => wpAny_bind (wpAny_mono h₄ (fun _ s₅ h₅ => wpAny_pure (wpAny_pure ⟨rfl, h₅⟩)) fun _ _ h' => h'.elim)) fun _ _ h' => h'.elim))
end
def capt (k : Nat) (cap : List Nat) (σ : St) : St := List.replicate k none ++ cap.map fun j => (σ[j]?).join
structure Caps (ON : List Str) (osc : Scope) (N : List Str) (k : Nat) (cap : List Nat) (scope : Scope) : Prop where
  kind : scope.kind = .function
  nocell : ∀ y ∈ scope.names, y.2 ≠ .cell
  loc : ∀ y ∈ scope.names, y.2 = .local → scope.names.lookup y.1 = some .local
  free : ∀ y ∈ scope.names, y.2 = .free → osc.names.lookup y.1 = some .cell ∨ osc.names.lookup y.1 = some .free
  len : N.length = k + cap.length
  capx : (cap.map fun j => ON[j]?) = (N.drop k).map some
  capf : ∀ x ∈ N.drop k, scope.names.lookup x = some .free
def cxC (X : Cx) (N : List Str) (scope : Scope) (cl : List (Str × Addr)) (C : Addr) (ex : List Addr) (pins : List (Addr × Obj)) (s₀ : Shared) (H₀ : Hp) : Cx where
  prog := X.prog
  w := X.w
  K := X.K
  mg := X.mg
  base := X.base
  A := X.A
  N := N
  s₀ := s₀
  H₀ := H₀
  env := compEnvC scope cl C X.env
  outer := X.stack
  stack := X.stack
  ex := ex
  fn := fun _ => false
  calm := X.calm
  pn := X.pn ++ pins
  xe := fun _ _ => False
def PTs (X : Cx) (ifs : List Expr) (t : TT) : Prop :=
  ∀ (pins : List (Addr × Obj)) (s : Shared) (σ : St) (H : Hp) (Q : Bool → Hp → Prop), Inv X pins σ H s → t σ H Q →
    wpAny (model X.prog X.w) X.A (forIn ifs true fun c r => if r = true then do let ok ← isTrue c X.env (eval c X.env); pure (ForInStep.yield ok) else pure (ForInStep.yield r)) (TP X pins σ Q) X.xe s
def tNoT : TT := fun _ H Q => Q true H
theorem pts_nil {X : Cx} : PTs X [] tNoT := fun _ _ _ H _ I h => wpAny_tests_nil ⟨H, I, h⟩
def tLC (wi : TI) (k : Nat) (cap : List Nat) (g : TG) (tt : TT) (te : TE) : TE := fun σ H Q => wi σ H fun J H1 => ∀ D, H1 D = none →
  ∃ W : Nat → Nat → St → List V → Hp → Prop, (∃ m, W 0 m (capt k cap σ) [] (upd H1 D (.lst []))) ∧ ∀ i m σ' acc H', W i m σ' acc H' →
    (J.stop i H' ∧ Q (.ref D) H') ∨
    (J.go i H' ∧ ∀ x H2, J.yld i H' x H2 → g x σ' H2 fun σ2 H3 => tt σ2 H3 fun ok H4 => if ok = true then te σ2 H4 fun y H5 => H5 D = some (.lst acc) ∧ acc.length < sizeLine ∧ ∃ m', m' < m ∧ W (i + 1) m' σ2 (acc ++ [y]) (upd H5 D (.lst (acc ++ [y])))
      else H4 D = some (.lst acc) ∧ ∃ m', m' < m ∧ W (i + 1) m' σ2 acc H4)
theorem lc_block {X : Cx} {elt tg iter : Expr} {ifs : List Expr} {scope osc : Scope} {pos : Pos} {N : List Str} {k : Nat} {cap : List Nat} {g : TG} {tt : TT} {te : TE} {cl : List (Str × Addr)}
    {pins : List (Addr × Obj)} {σ : St} {H3 : Hp} {s3 : Shared} {D it : Addr} {fp : List Addr} {tn : Nat → Heap → Prop} {J : It} {Q : VK} {W : Nat → Nat → St → List V → Hp → Prop} {m0 : Nat}
    (hc : X.calm = true) (hosc : X.env.scope = osc) (hcap : Caps X.N osc N k cap scope)
    (hcl : ∀ {x : Str} {c : Addr}, cl.lookup x = some c → X.env.cells.lookup x = some c) (hhas : ∀ x, (x, NameKind.free) ∈ scope.names → ∃ c, cl.lookup x = some c)
    (hg : ∀ cl C ex pins s H, PG (cxC X N scope cl C ex pins s H) tg g)
    (ht : ∀ cl C ex pins s H, PTs (cxC X N scope cl C ex pins s H) ifs tt)
    (he : ∀ cl C ex pins s H, PE (cxC X N scope cl C ex pins s H) elt te)
    (I3 : Inv X pins σ H3 s3) (hD : H3 D = some (.lst [])) (T : Turn X.prog X.w X.K tg J fp it tn) (st : tn 0 s3.heap) (f3 : ∀ b ∈ fp, FpOk X pins H3 b) (w0 : W 0 m0 (capt k cap σ) [] H3)
    (turn : ∀ i m σ' acc H', W i m σ' acc H' → (J.stop i H' ∧ Q (.ref D) H') ∨
      (J.go i H' ∧ ∀ x H2, J.yld i H' x H2 → g x σ' H2 fun σ2 H3 => tt σ2 H3 fun ok H4 => if ok = true then te σ2 H4 fun y H5 => H5 D = some (.lst acc) ∧ acc.length < sizeLine ∧ ∃ m', m' < m ∧ W (i + 1) m' σ2 (acc ++ [y]) (upd H5 D (.lst (acc ++ [y])))
        else H4 D = some (.lst acc) ∧ ∃ m', m' < m ∧ W (i + 1) m' σ2 acc H4)) :
    wpAny (model X.prog X.w) X.A (newFunctionEnv scope X.env.globals cl [] X.env.qual none .none (some X.env)) (fun cenv s₄ =>
      codeAny (model X.prog X.w) X.A (.compStart (.ListComp elt [⟨tg, iter, ifs, 0⟩] scope pos) 0 (.ref it) (.ref D) { cenv with scope := relabel scope X.env }) (compPost (model X.prog X.w) X.A X.xe none (EP X pins σ Q) (.ref D) cenv.locals) s₄) X.xe s3 := by
  refine wpAny_newFunctionEnv hcap.nocell (by intro y hy; simp at hy) (fun h₁ hns₁ hsb₁ => ?_) hcap.kind
  have old : ∀ b o, s3.heap.get? b = some o → h₁.get? b = some o := fun b o e => hsb₁.extBut b o (Nat.ne_of_lt (Heap.lt_size e)) (Heap.get?_push_of_some _ e)
  have neC : ∀ b ∈ fp, b ≠ s3.heap.objs.size := fun b hb => by
    obtain ⟨o, e, _⟩ := T.obj _ _ st b hb
    exact Nat.ne_of_lt (Heap.lt_size e)
  have nofs : ∀ {b : Addr}, b ≠ X.env.locals → b ∉ X.fs → b ∉ frs X.stack := fun {b} h1 h2 z => (List.mem_cons.mp (I3.stkSub b z)).elim h1 h2
  have IY : Inv (cxC X N scope cl s3.heap.objs.size fp pins s3 H3) [] (capt k cap σ) H3 { s3 with heap := h₁, toks := s3.toks + ([] : List (Str × Value)).length } := by
    refine ⟨⟨I3.ok.mod, hcap.kind, I3.ok.glob, I3.ok.blt, Nat.le_refl _, fun x y c h1 h2 => I3.ok.inj x y c (hcl h1) (hcl h2), fun x hx => hhas x (relabel_mem hcap.nocell hx), fun x c h => absurd (show false = true from h) Bool.false_ne_true, I3.ok.hd, I3.ok.frames, .inl rfl,
      fun b hb => ⟨neC b hb, fun x c e => (f3 b hb).2.2.2.2.1 x c (hcl e)⟩, I3.bs, Nat.le_trans I3.ok.bsz I3.sz, fun b o e hb => ?_, fun b hb => nofs (f3 b hb).2.1 (f3 b hb).2.2.1, I3.stack, I3.stkFree⟩,
      rfl, I3.bare, Un.kept old, ⟨_, hns₁, fun i x v e1 e2 e3 => ?_⟩, fun x c e => ?_, I3.hok.fresh (Nat.le_refl _), fun x c e => I3.freeC x c (hcl e), fun p hp => ?_, I3.hok.kept old, ?_⟩
    · rcases (f3 b hb).2.2.2.1 with z | z
      · exact I3.ok.noex b o e z
      · exact absurd (Nat.lt_of_lt_of_le (Heap.lt_size e) (Nat.le_trans I3.ok.bsz z)) (Nat.lt_irrefl _)
    · by_cases hi : i < k
      · unfold capt at e2
        rw [List.getElem?_append_left (by simpa using hi), List.getElem?_replicate, if_pos hi] at e2
        cases e2
      · obtain ⟨d, rfl⟩ : ∃ d, i = k + d := ⟨i - k, by omega⟩
        unfold capt at e2
        rw [List.getElem?_append_right (by simp), List.length_replicate, Nat.add_sub_cancel_left, List.getElem?_map] at e2
        obtain ⟨j, hj, hv⟩ := Option.map_eq_some_iff.mp e2
        have hσ : σ[j]? = some (some v) := by
          cases q : σ[j]? with
          | none => rw [q] at hv; cases hv
          | some o => rw [q] at hv; exact congrArg some hv
        have e1' : (N.drop k)[d]? = some x := by rw [List.getElem?_drop]; exact e1
        have hx : X.N[j]? = some x := by
          have z := congrArg (fun l => l[d]?) hcap.capx
          simp only [List.getElem?_map, hj, e1', Option.map_some] at z
          exact Option.some.inj z
        have hfr := hcap.capf x (List.mem_of_getElem? e1')
        have hfm := PySem.mem_of_lookup hfr
        have hok := hcap.free _ hfm rfl
        rw [← hosc] at hok
        obtain ⟨m, hn, hl⟩ := I3.loc
        obtain ⟨u, r, l⟩ := hl j x v hx hσ (.inr hok)
        refine ⟨u, r, ?_⟩
        rcases l with ⟨hk, _⟩ | ⟨hk, c, hc1, hc2⟩
        · have hk : X.env.scope.names.lookup x = some .local := hk
          rcases hok with z | z <;> (rw [hk] at z; cases z)
        · obtain ⟨c', hc'⟩ := hhas x hfm
          have : c' = c := Option.some.inj ((hcl hc').symm.trans hc1)
          subst this
          exact .inr ⟨relabel_free hfr, c', hc', hc2.keeps old⟩
    · obtain ⟨v, z⟩ := I3.cell x c (hcl e)
      exact ⟨v, z.keeps old⟩
    · have hp : p ∈ (X.pn ++ pins) ++ [] := hp
      rw [List.append_nil] at hp
      obtain ⟨a1, a2, a3, a4, a5⟩ := I3.pin p hp
      exact ⟨old _ _ a1, a2, Nat.ne_of_lt (Heap.lt_size a1), nofs a3 a4, a5⟩
    · show (capt k cap σ).length = N.length
      unfold capt
      rw [List.length_append, List.length_replicate, List.length_map, hcap.len]
  have stat : ∀ {H' : Hp}, (∀ b ∈ fp, H' b = none) → ∀ b ∈ fp, FpOk (cxC X N scope cl s3.heap.objs.size fp pins s3 H3) [] H' b := fun {H'} hn b hb => by
    obtain ⟨a0, a1, a2, a3, a4, a5⟩ := f3 b hb
    refine ⟨hn b hb, neC b hb, nofs a1 a2, .inl hb, fun x c e => a4 x c (hcl e), fun p hp => a5 p ?_⟩
    have hp : p ∈ (X.pn ++ pins) ++ [] := hp
    rwa [List.append_nil] at hp
  have loop : codeAny (model X.prog X.w) X.A (.compLoop (.ListComp elt [⟨tg, iter, ifs, 0⟩] scope pos) 0 (.ref it) (.ref D) (compEnvC scope cl s3.heap.objs.size X.env))
      (compPost (model X.prog X.w) X.A X.xe none (EP X pins σ Q) (.ref D) s3.heap.objs.size) { s3 with heap := h₁, toks := s3.toks + ([] : List (Str × Value)).length } := by
    refine compLoop_any (fun n s' => ∃ i σ' acc H', Inv (cxC X N scope cl s3.heap.objs.size fp pins s3 H3) [] σ' H' s' ∧ tn i s'.heap ∧ (∀ b ∈ fp, H' b = none) ∧ H' D = some (.lst acc) ∧ W i n σ' acc H') ?_ m0
      ⟨0, _, [], H3, IY, T.keep _ _ _ st fun b _ o e => old b o e, fun b hb => (f3 b hb).1, hD, w0⟩
    rintro n s5 ⟨i, σ5, acc, H5, I5, st5, fr5, hD5, w5⟩
    rcases turn i n σ5 acc H5 w5 with ⟨stop, q⟩ | ⟨go, step⟩
    · refine thn (T.done (cxC X N scope cl s3.heap.objs.size fp pins s3 H3) rfl rfl rfl hc i [] s5 σ5 H5 _ I5 (stat fr5) st5 stop) fun r s6 ⟨hr, I6⟩ => ?_
      subst hr
      obtain ⟨m, hn, _⟩ := id I6.loc
      refine ⟨m, hn, fun h' hsb => ?_⟩
      have I7 : Inv X pins σ H5 s6 := I3.call' I6.os I6.base I6.hok I6.bare fun b hb => by
        obtain ⟨a0, a1, a2, a3, a4, a5⟩ := f3 b hb
        exact ⟨a3, a1, a4, a5⟩
      obtain ⟨g0, g1, g2, g3, g4, g5⟩ := I3.fpOk (H' := H5) (b := s3.heap.objs.size) (Nat.le_refl _) I6.free
      exact ⟨.ref D, H5, I7.turned (t' := s6.toks) (fun b o hb e => (hsb.2 b hb).trans e) g0 g1 g3 g4 g5, rfl, q⟩
    · refine thn (T.item (cxC X N scope cl s3.heap.objs.size fp pins s3 H3) rfl rfl rfl hc i [] s5 σ5 H5 _ I5 (stat fr5) st5 go) fun r s6 ⟨u, hr, h6⟩ => ?_
      subst hr
      refine thn h6 fun _ s7 ⟨x, H7, I7, r7, y7, st7, fr7⟩ => ?_
      have I7' := I7.pinned (stat fr7) (T.obj _ _ st7)
      have keepI : ∀ {s' : Shared} {σ' : St} {H' : Hp}, Inv (cxC X N scope cl s3.heap.objs.size fp pins s3 H3) ([] ++ pinsAt fp s7.heap) σ' H' s' → tn (i + 1) s'.heap ∧ ∀ b ∈ fp, H' b = none := fun {s' σ' H'} I' => by
        refine ⟨T.keep _ _ _ st7 fun b hb o e => (I'.pin (b, o) (List.mem_append_right _ (List.mem_append_right _ (mem_pinsAt hb e)))).1, fun b hb => ?_⟩
        obtain ⟨o, e, d⟩ := T.obj _ _ st7 b hb
        exact (I'.pin (b, o) (List.mem_append_right _ (List.mem_append_right _ (mem_pinsAt hb e)))).2.1
      refine thn (hg _ _ _ _ _ _ _ s7 σ5 H7 x u _ I7' r7 (step x H7 y7)) fun _ s8 ⟨σ8, H8, I8, q8⟩ => ?_
      refine thn (ht _ _ _ _ _ _ _ s8 σ8 H8 _ I8 q8) fun ok s9 ⟨H9, I9, q9⟩ => ?_
      cases ok with
      | false =>
        have q9 : H9 D = some (.lst acc) ∧ ∃ m', m' < n ∧ W (i + 1) m' σ8 acc H9 := q9
        obtain ⟨hD9, m', hm, w9⟩ := q9
        obtain ⟨k1, k2⟩ := keepI I9
        exact ⟨m', hm, i + 1, σ8, acc, H9, I9.unpinned, k1, k2, hD9, w9⟩
      | true =>
        refine thn (he _ _ _ _ _ _ _ s9 σ8 H9 _ I9 q9) fun yv s10 ⟨y, H10, I10, r10, hD10, hz, m', hm, w10⟩ => ?_
        refine thn (mt_append (X := cxC X N scope cl s3.heap.objs.size fp pins s3 H3) _ s10 σ8 H10 (.ref D) [y] (.ref D) [yv] (fun _ H' => H' = upd H10 D (.lst (acc ++ [y]))) I10 rfl (.cons r10 .nil) ⟨D, acc, y, rfl, rfl, hD10, hz, rfl⟩)
          fun _ s11 ⟨_, H11, I11, _, e11⟩ => ?_
        subst e11
        obtain ⟨k1, k2⟩ := keepI I11
        exact ⟨m', hm, i + 1, σ8, acc ++ [y], _, I11.unpinned, k1, k2, upd_same, w10⟩
  exact codeAny_compStart_list loop (T.self X.A 0 _ _ _ (T.keep _ _ _ st fun b _ o e => old b o e) loop)
theorem pe_lc {X : Cx} {elt tg iter : Expr} {ifs : List Expr} {scope osc : Scope} {pos : Pos} {N : List Str} {k : Nat} {cap : List Nat} {wi : TI} {g : TG} {tt : TT} {te : TE}
    (hc : X.calm = true) (hosc : X.env.scope = osc) (hcap : Caps X.N osc N k cap scope) (hi : PI X tg iter wi)
    (hg : ∀ cl C ex pins s H, PG (cxC X N scope cl C ex pins s H) tg g)
    (ht : ∀ cl C ex pins s H, PTs (cxC X N scope cl C ex pins s H) ifs tt)
    (he : ∀ cl C ex pins s H, PE (cxC X N scope cl C ex pins s H) elt te)
    (hs : ∀ x, foldedSetIterable iter X.env x = pure x := by intro _; rfl) :
    PE X (.ListComp elt [⟨tg, iter, ifs, 0⟩] scope pos) (tLC wi k cap g tt te) := by
  intro pins s σ H Q I h
  have hcell : ∀ y ∈ scope.names, y.2 = .free → ∃ c, X.env.cells.lookup y.1 = some c := fun y hy hk => I.ok.has y.1 (by
    show X.env.scope.names.lookup y.1 = _ ∨ X.env.scope.names.lookup y.1 = _
    rw [hosc]; exact hcap.free y hy hk)
  let f : Str → Addr := fun x => (X.env.cells.lookup x).getD 0
  have hf : ∀ y ∈ scope.names, y.2 = .free → X.env.cells.lookup y.1 = some (f y.1) := fun y hy hk => by
    obtain ⟨c, e⟩ := hcell y hy hk
    show _ = some ((X.env.cells.lookup y.1).getD 0)
    rw [e]; rfl
  have hclos : closureFor scope X.env = pure (closL f scope.names []) := closureFor_closL fun y hy hk => by
    unfold cellOf
    rw [hf y hy hk]
  have hcl : ∀ {x : Str} {c : Addr}, (closL f scope.names []).lookup x = some c → X.env.cells.lookup x = some c := fun {x c} e => by
    rcases closL_lookup _ _ e with ⟨h1, h2⟩ | h1
    · rw [h2]; exact hf (x, .free) h1 rfl
    · simp at h1
  have hhas : ∀ x, (x, NameKind.free) ∈ scope.names → ∃ c, (closL f scope.names []).lookup x = some c := fun x hx => ⟨_, closL_has _ _ (.inl hx)⟩
  generalize closL f scope.names [] = cl at hclos hcl hhas
  rw [eval_ListComp]
  refine wpAny_comprehension_free (use := none) (cl := cl) rfl hs hclos hcap.kind hcap.loc ?_
  refine thn (hi pins s σ H _ I h) fun v s1 h1 => thn h1 fun itv s2 h2 => ?_
  obtain ⟨it, fp, tn, J, H2, e, I2, T, st2, f2, q2⟩ := h2
  subst e
  obtain ⟨W, ⟨m0, w0⟩, turn⟩ := q2 s2.heap.objs.size (I2.hok.fresh (Nat.le_refl _))
  refine wpAny_newObj_type ?_
  have I3 : Inv X pins σ (upd H2 s2.heap.objs.size (.lst [])) { s2 with heap := s2.heap.push { cls := .type "list", data := .seq ([] : List Value).toArray } } := I2.lnew (ys := []) (its := []) (t' := s2.toks) .nil (Nat.zero_le _)
  have lt2 : ∀ b ∈ fp, b ≠ s2.heap.objs.size := fun b hb => by
    obtain ⟨o, e, _⟩ := T.obj _ _ st2 b hb
    exact Nat.ne_of_lt (Heap.lt_size e)
  exact lc_block hc hosc hcap hcl hhas hg ht he I3 upd_same T (T.keep _ _ (s2.heap.push { cls := .type "list", data := .seq ([] : List Value).toArray }) st2 fun b _ o e => Heap.get?_push_of_some _ e) (fun b hb => ⟨by rw [upd_ne (lt2 b hb)]; exact (f2 b hb).1, (f2 b hb).2⟩) w0 turn
end L2
set_option Elab.async false
set_option linter.all false
set_option maxRecDepth 100000
set_option maxHeartbeats 4000000
namespace L2
open PySem PySem.Spec PyProof.Rows
mutual
def DatIs (K : PySem.W.Frag) (H : Hp) : PyData → V → Prop
  | .none, v => v = .non
  | .bool b, v => v = .bl b
  | .int i, v => v = .int i
  | .str x, v => v = .str x
  | .tuple ds, v => ∃ a xs, v = .ref a ∧ SqT K H a xs ∧ DatsAre K H ds xs
  | .list ds, v => ∃ a xs, v = .ref a ∧ H a = some (.lst xs) ∧ DatsAre K H ds xs
  | .dict _, _ => False
def DatsAre (K : PySem.W.Frag) (H : Hp) : List PyData → List V → Prop
  | [], xs => xs = []
  | d :: ds, xs => ∃ x r, xs = x :: r ∧ DatIs K H d x ∧ DatsAre K H ds r
end
section
variable {X : Cx} {pins : List (Addr × Obj)} {σ : St} {H : Hp} {s : Shared}
mutual
theorem reads_of (I : Inv X pins σ H s) : ∀ (d : PyData) (v : V) (u : Value), DatIs X.K H d v → RelV v u → ∃ as, Reads s.heap u d as
  | .none, v, u, h, r => by
    simp only [DatIs] at h; subst h; cases (show u = Value.none from r); exact ⟨_, .none⟩
  | .bool b, v, u, h, r => by
    simp only [DatIs] at h; subst h; cases (show u = Value.bool b from r); exact ⟨_, .bool b⟩
  | .int i, v, u, h, r => by
    simp only [DatIs] at h; subst h; obtain ⟨t, rfl⟩ := (show ∃ t, u = Value.int i t from r); exact ⟨_, .int i t⟩
  | .str x, v, u, h, r => by
    simp only [DatIs] at h; subst h; obtain ⟨t, rfl⟩ := (show ∃ t, u = Value.str x t from r); exact ⟨_, .str x t⟩
  | .tuple ds, v, u, h, r => by
    simp only [DatIs] at h
    obtain ⟨a, xs, rfl, hq, hd⟩ := h
    cases (show u = Value.ref a from r)
    obtain ⟨its, rv, ht, _⟩ := I.tuple hq
    obtain ⟨o, h1, h2, n, h3⟩ := ht
    obtain ⟨as, ra⟩ := readsAll_of I ds xs its hd rv
    exact ⟨_, .tuple h1 h2 h3 ra⟩
  | .list ds, v, u, h, r => by
    simp only [DatIs] at h
    obtain ⟨a, xs, rfl, hq, hd⟩ := h
    cases (show u = Value.ref a from r)
    obtain ⟨its, rv, ht, _⟩ := I.list (SqL.of hq)
    obtain ⟨o, h1, h2, n, h3⟩ := ht.isList
    obtain ⟨as, ra⟩ := readsAll_of I ds xs its hd rv
    exact ⟨_, .list h1 h2 h3 ra⟩
  | .dict kvs, v, u, h, r => by
    simp only [DatIs] at h
theorem readsAll_of (I : Inv X pins σ H s) : ∀ (ds : List PyData) (xs : List V) (us : List Value), DatsAre X.K H ds xs → Vals xs us → ∃ as, ReadsAll s.heap us ds as
  | [], xs, us, h, r => by
    simp only [DatsAre] at h; subst h; cases r; exact ⟨_, .nil⟩
  | d :: ds, xs, us, h, r => by
    simp only [DatsAre] at h
    obtain ⟨x, rr, rfl, h1, h2⟩ := h
    cases r with
    | cons r1 r2 =>
      obtain ⟨as, ra⟩ := reads_of I d x _ h1 r1
      obtain ⟨bs, rb⟩ := readsAll_of I ds rr _ h2 r2
      exact ⟨_, .cons ra rb⟩
end
end
structure Shw (d : PyData) (dp n : Nat) : Prop where
  sh : d.showable = true
  nd : d.hasDict = false
  de : d.depth ≤ dp
  ln : d.shown.length ≤ n
theorem Shw.int {i : Int} {k : Nat} (h : i.natAbs < 2 ^ k) (hk : 0 < k) (hk2 : k ≤ 1900) : Shw (.int i) 0 (k + 20) := by
  have hlog : i.natAbs.log2 < 1920 := by
    by_cases h0 : i.natAbs = 0
    · rw [h0]; decide
    · have := (Nat.log2_lt h0).mpr h
      omega
  refine ⟨by simp only [PyData.showable, hlog, decide_true], by simp only [PyData.hasDict], by simp only [PyData.depth]; omega, ?_⟩
  have hl2 : i.natAbs.log2 < k := by
    by_cases h0 : i.natAbs = 0
    · rw [h0]; exact hk
    · exact (Nat.log2_lt h0).mpr h
  have e := int_text_length_le hk hl2
  simp only [PyData.shown]
  rw [PySem.ofString_length]
  omega
section
variable {X : Cx}
def rRepr (K : PySem.W.Frag) : List V → Hp → VK → Prop := fun xs H Q => ∃ a d, xs = [.ref a] ∧ DatIs K H d (.ref a) ∧ Shw d 50 16000000 ∧ Q (.str d.shown) H
theorem call_repr (hg : X.A.guards = some []) (hu : X.A.units + 64 < cLine) : CallR X (.builtin "repr") (rRepr X.K) := by
  intro pins s σ H xs us Q I r h
  obtain ⟨a, d, rfl, hd, hs, q⟩ := h
  obtain ⟨u, rfl, ru⟩ := vals1 r
  cases ru
  obtain ⟨as, rd⟩ := reads_of I d (.ref a) (.ref a) hd rfl
  refine repr_of_reads' rd hs.sh (PyData.noDict_hsm hs.nd) hg (by have := hs.de; omega) (fun _ _ e => e) (fun h' u tk hk => ⟨.str d.shown, H, I.kept hk, ⟨u, rfl⟩, q⟩) (Nat.le_trans hs.ln (by rw [sizeLine_eq]; decide))
end
end L2
set_option Elab.async false
set_option linter.all false
set_option maxRecDepth 100000
set_option maxHeartbeats 4000000
namespace HT
open PySem PyProof.Rows
section
variable {prog : Program} {w : World} {A : Around} {E : Value → Shared → Prop} {s : Shared}
theorem getItem_tuple_whole {t sl : Addr} {items : Array Value} {vl vu : Value} {lo hi : Option Int} {Q : Value → Shared → Prop} (ht : IsTup s.heap t items) (hs : s.heap.IsSliceOf sl vl vu .none) (pl : IsPart vl lo) (pu : IsPart vu hi)
    (h0 : sIx items.size 0 lo = 0) (h1 : sIx items.size items.size hi = items.size) (h : Q (.ref t) s) : wpAny (model prog w) A (getItem (.ref t) (.ref sl)) Q E s := by
  obtain ⟨os, hos, hcs, hds⟩ := id hs
  have hTs : s.TypeIs (.ref sl) "slice" := ⟨os, hos, hcs⟩
  unfold getItem
  try with_reducible refine wpAny_holding ?_
  first | refine wpAny_bind (wpAny_pure ?_) | skip
  refine wpAny_bind (wpAny_sequenceKey ht.typeIs (by decide) ?_)
  refine wpAny_bind (wpAny_callSpecial?_slot (name := Str.ofString "__getitem__") ht.typeIs PyProof.Rows.slot_tuple_getitem
    (wpAny_call_entry PyProof.Rows.slot_tuple_getitem ht.typeIs entry_tuple_getitem ?_ (args_tuple_getitem _ _)))
  show wpAny _ _ (Builtin.Tuple.tupleItemsOf (.ref t) >>= _) _ _ s
  refine wpAny_bind (tupleItemsOf_ ht ?_)
  refine wpAny_bind (wpAny_typeOf hTs ?_)
  rw [if_pos (by decide)]
  refine wpAny_bind (sliceApplied_gen hs pl pu ?_)
  have hyes : (((sIx items.size 0 lo : Nat) : Int) == 0 && (1 : Int) == 1 && (sIx items.size items.size hi - sIx items.size 0 lo) == items.size) = true := by
    rw [h0, h1]; simp
  show wpAny _ _ (if (((sIx items.size 0 lo : Nat) : Int) == 0 && (1 : Int) == 1 && (sIx items.size items.size hi - sIx items.size 0 lo) == items.size) = true then _ else _) _ _ s
  rw [if_pos hyes]
  unfold Builtin.Tuple.tupleIsExact
  refine wpAny_bind ?_
  refine wpAny_bind (wpAny_typeOf ht.typeIs (wpAny_pure ?_))
  rw [if_pos (by decide)]
  exact wpAny_bind (wpAny_rule (wpAny_pure ⟨_, rfl, wpAny_pure h⟩))
end
end HT
namespace L2
open PySem PySem.Spec PyProof.Rows
section
variable {X : Cx}
def rSlT2 (K : PySem.W.Frag) : V → Option Int → Option Int → Hp → VK → Prop := fun x lo hi H Q => ∃ a xs, x = .ref a ∧ SqT K H a xs ∧ ((cutV xs lo hi = xs ∧ HT.sIx xs.length 0 lo = 0 ∧ HT.sIx xs.length xs.length hi = xs.length → Q (.ref a) H) ∧
  (¬ (HT.sIx xs.length 0 lo = 0 ∧ HT.sIx xs.length xs.length hi = xs.length) → ∀ p, H p = none → Q (.ref p) (upd H p (.tup (cutV xs lo hi)))))
theorem sl_tup2 : SlR X (rSlT2 X.K) := by
  intro pins s σ H x v vl vu lo hi sl Q I rx hs pl pu h
  obtain ⟨a, xs, rfl, hx, hw, hn⟩ := h
  by_cases hc : HT.sIx xs.length 0 lo = 0 ∧ HT.sIx xs.length xs.length hi = xs.length
  · cases rx
    obtain ⟨its, r, ht, hz⟩ := I.tuple hx
    have hlen : its.toArray.size = xs.length := by rw [List.size_toArray]; exact r.length.symm
    have hq := hw ⟨by unfold cutV; rw [hc.1, hc.2]; simp, hc.1, hc.2⟩
    exact ⟨"tuple", _, PyProof.Rows.slot_tuple_getitem.lookup, ht.typeIs, HT.getItem_tuple_whole ht hs pl pu (by rw [hlen]; exact hc.1) (by rw [hlen]; exact hc.2) ⟨.ref a, H, I, rfl, hq⟩⟩
  · exact sl_tup pins s σ H (.ref a) v vl vu lo hi sl Q I rx hs pl pu ⟨a, xs, rfl, hx, hc, hn hc⟩
theorem call_sum (hc : X.calm = true) : CallR X (.builtin "sum") (fun xs H Q => ∃ (a : Addr) (ns : List Int), xs = [.ref a] ∧ SqL X.K H a (ns.map V.int) ∧ Q (.int ns.sum) H) := by
  intro pins s σ H xs us Q I r h
  obtain ⟨a, ns, rfl, hq, q⟩ := h
  obtain ⟨u, rfl, ru⟩ := vals1 r
  cases ru
  obtain ⟨its, rv, p, hz⟩ := I.list hq
  have hi := intsAre_of rv
  obtain ⟨zs, hzs⟩ := hi.allInts.items
  have hl : s.heap.IsList a (intItems zs) := hzs ▸ p.isList
  refine sum_intListG (I.ok.hd hc) hl fun h' tk t' hk => ⟨.int ns.sum, H, I.kept hk, ⟨t', ?_⟩, q⟩
  have hn := hi.numsOf
  have e : numsOf (intItems zs).toList = ns := by rw [← hzs]; exact hn
  rw [nums_intItems] at e
  rw [preSum_eq, List.take_of_length_le (by simp), e]
def rNeNil (K : PySem.W.Frag) : R2 := fun x y H Q => ∃ a b xs, x = .ref a ∧ y = .ref b ∧ SqL K H a xs ∧ SqL K H b [] ∧ Q (.bl (!xs.isEmpty)) H
theorem op_neNil (hu : X.A.units < cLine) : OpR X (compareOp .NotEq) (rNeNil X.K) := by
  intro pins s σ H x y v u Q I rx ry h
  obtain ⟨a, b, xs, rfl, rfl, ha, hb, q⟩ := h
  cases rx
  cases ry
  obtain ⟨its, rv, p, hz⟩ := I.list ha
  obtain ⟨its2, rv2, p2, hz2⟩ := I.list hb
  cases rv2
  cases rv with
  | nil => exact (SeqAt.RcNeAt.lists (e := fun _ => true) p.isList p2.isList rfl hu fun j h1 _ => absurd h1 (by simp)) _ _ _ _ ⟨.bl false, H, I, rfl, q⟩
  | cons r1 r2 => exact (SeqAt.RcNeAt.lists_lengths p.isList p2.isList (by simp) hu) _ _ _ _ ⟨.bl true, H, I, rfl, q⟩
def tPar3 (i j k : Nat) (ta : TA) : TS := fun D σ H => ta σ H fun vs H1 => ∃ u v w, vs = [u, v, w] ∧ D.nx (((σ.set i (some u)).set j (some v)).set k (some w)) H1
theorem ps_par3 {i j k : Nat} {x y z : Str} {a b c : Expr} {ta : TA} {px py pz pt pos : Pos} {kt k2 pt2} (hc : X.calm = true) (hN : X.N.Nodup) (hi : X.N[i]? = some x) (hj : X.N[j]? = some y) (hk : X.N[k]? = some z) (hij : i ≠ j) (hik : i ≠ k) (hjk : j ≠ k)
    (hx : X.env.scope.names.lookup x = some .local) (hy : X.env.scope.names.lookup y = some .local) (hz : X.env.scope.names.lookup z = some .local) (ha : PA X [a, b, c] ta)
    (hw : swappedStores [.Tuple [.Name x px, .Name y py, .Name z pz] kt pt] (.Tuple [a, b, c] k2 pt2) X.env = pure (some [x, y, z]))
    (hs : swapsWithSole [.Tuple [.Name x px, .Name y py, .Name z pz] kt pt] (.Tuple [a, b, c] k2 pt2) pos.line X.env = pure false := by rfl) :
    PS X (.Assign [.Tuple [.Name x px, .Name y py, .Name z pz] kt pt] (.Tuple [a, b, c] k2 pt2) pos) (tPar3 i j k ta) := by
  intro pins s σ H D I h
  rw [exec_Assign_arm]
  refine wpAny_bind (wpAny_standAt ?_)
  rw [hs]
  refine wpAny_bind (wpAny_pure ?_)
  rw [if_neg (by decide)]
  refine wpAny_bind (Tuple_ (thn (ha _ pins s σ H _ I h) fun us s1 ⟨vs, H1, I1, r1, q1⟩ => ?_))
  obtain ⟨v, w, t, e1, q1⟩ := q1
  subst e1
  obtain ⟨u1, u2, u3, rfl, rv, rw', rt⟩ : ∃ u1 u2 u3, us = [u1, u2, u3] ∧ RelV v u1 ∧ RelV w u2 ∧ RelV t u3 := by
    cases r1 with
    | cons p q =>
      cases q with
      | cons p' q' =>
        cases q' with
        | cons p'' q'' =>
          cases q''
          exact ⟨_, _, _, rfl, p, p', p''⟩
  refine wpAny_newObj_type ?_ (by show 3 ≤ sizeLine; decide)
  have I2 : Inv X pins σ H1 { s1 with heap := s1.heap.push { cls := .type "tuple", data := .seq [u1, u2, u3].toArray } } := I1.kept (t' := s1.toks) fun b o e => Heap.get?_push_of_some _ e
  rw [hw]
  refine wpAny_bind (wpAny_pure ?_)
  show wpAny (model X.prog X.w) X.A (do rule "assign.swapped-stores"; let items ← unpackItems (.ref s1.heap.objs.size) 3 none; assignInOrder [fun v => bindName X.env z v, fun v => bindName X.env y v, fun v => bindName X.env x v] items.reverse; pure Flow.next) _ _ _
  refine wpAny_bind (wpAny_rule (wpAny_bind (unpackItems_tuple (items := #[u1, u2, u3]) (I.ok.hd hc) (IsTup.new s1.heap _) fun h' hx' => ?_)))
  have I3 := I2.kept (h' := h') (t' := s1.toks) fun b o e => hx' b o (Nat.ne_of_lt (Heap.lt_size e)) e
  show wpAny _ _ (assignInOrder [fun v => bindName X.env z v, fun v => bindName X.env y v, fun v => bindName X.env x v] [u3, u2, u1] >>= fun _ => pure Flow.next) _ _ _
  refine wpAny_bind (assignInOrder_cons (wpAny_bindName (store_ok I3 hN hk (.inl hz) rt (fun s2 I4 => ?_) (.inr hz))))
  refine assignInOrder_cons (wpAny_bindName (store_ok I4 hN hj (.inl hy) rw' (fun s3 I5 => ?_) (.inr hy)))
  refine assignInOrder_cons (wpAny_bindName (store_ok I5 hN hi (.inl hx) rv (fun s4 I6 => assignInOrder_nil (wpAny_pure ?_)) (.inr hx)))
  rw [List.set_comm _ _ (Ne.symm hjk), List.set_comm _ _ (Ne.symm hik), List.set_comm _ _ (Ne.symm hij)] at I6
  exact ⟨_, H1, I6, q1⟩
end
end L2
set_option Elab.async false
set_option linter.all false
set_option maxRecDepth 100000
set_option maxHeartbeats 4000000
namespace L2
open PySem PySem.Spec PyProof.Rows
def Callee (P : Program) (w : World) (K : PySem.W.Frag) (mg : Str → Option Value) (base : Heap) (x : Str) (k : Nat) (ps : List Str) (sp : Sp) : Prop :=
  ∃ f fd, FnOk P w K mg base CX0 k f fd ps sp ∧ mg x = some (.ref f) ∧ PySem.W.keepIn K (.ref f) = true ∧ Binds K fd ps []
theorem pe_callee {X : Cx} {x : Str} {k : Nat} {ps : List Str} {sp : Sp} {p pos : Pos} {e : Expr} {es : List Expr} {t : TA} (C : Callee X.prog X.w X.K X.mg X.base x k ps sp) (hr : Room k X.A) (hg : Gl X x) (ha : PA X (e :: es) t)
    (hdb : (x == ("__debug__" : Str)) = false := by decide) (he : starEach (e :: es) X.env = (false, eval e X.env) :: starEach es X.env := by rfl) (hpl : (backTo pos (starEach es X.env)).any (·.1) = false := by rfl) :
    PE X (.Call (.Name x p) (e :: es) [] pos) (tCall sp [] E0 t) := by
  obtain ⟨f, fd, G, m, kp, b⟩ := C
  exact pe_call G hr hg m kp b .nil pass0 ha hdb he hpl
theorem pe_callee0 {X : Cx} {x : Str} {k : Nat} {ps : List Str} {sp : Sp} {p pos : Pos} (C : Callee X.prog X.w X.K X.mg X.base x k ps sp) (hr : Room k X.A) (hg : Gl X x)
    (hdb : (x == ("__debug__" : Str)) = false := by decide) :
    PE X (.Call (.Name x p) [] [] pos) (tCall sp [] E0 tNil) := by
  obtain ⟨f, fd, G, m, kp, b⟩ := C
  exact pe_call0 G hr hg m kp b .nil pass0 hdb
def KpE (D : Addr → Prop) (H H' : Hp) : Prop := ∀ b o, H b = some o → ¬ D b → H' b = some o
theorem SqT.kp {K : PySem.W.Frag} {H H' : Hp} {a : Addr} {xs : List V} {D : Addr → Prop} (h : SqT K H a xs) (k : KpE D H H') (hD : ∀ b, D b → ∃ kvs, H b = some (.dK kvs)) : SqT K H' a xs := by
  rcases h with (h | ⟨o, h⟩) | h
  · refine .inl (.inl (k _ _ h fun z => ?_))
    obtain ⟨kvs, e⟩ := hD _ z; rw [h] at e; cases e
  · refine .inl (.inr ⟨o, k _ _ h fun z => ?_⟩)
    obtain ⟨kvs, e⟩ := hD _ z; rw [h] at e; cases e
  · exact .inr h
section
variable {K : PySem.W.Frag} {H H' : Hp} {D : Addr → Prop}
mutual
theorem DatIs.kp (k : KpE D H H') (hD : ∀ b, D b → ∃ kvs, H b = some (.dK kvs)) : ∀ (d : PyData) (v : V), DatIs K H d v → DatIs K H' d v
  | .none, v, h => by simpa only [DatIs] using h
  | .bool b, v, h => by simpa only [DatIs] using h
  | .int i, v, h => by simpa only [DatIs] using h
  | .str x, v, h => by simpa only [DatIs] using h
  | .tuple ds, v, h => by
    simp only [DatIs] at h ⊢
    obtain ⟨a, xs, e, hq, hd⟩ := h
    exact ⟨a, xs, e, hq.kp k hD, DatsAre.kp k hD ds xs hd⟩
  | .list ds, v, h => by
    simp only [DatIs] at h ⊢
    obtain ⟨a, xs, e, hq, hd⟩ := h
    refine ⟨a, xs, e, k _ _ hq fun z => ?_, DatsAre.kp k hD ds xs hd⟩
    obtain ⟨kvs, e⟩ := hD _ z; rw [hq] at e; cases e
  | .dict kvs, v, h => by simp only [DatIs] at h
theorem DatsAre.kp (k : KpE D H H') (hD : ∀ b, D b → ∃ kvs, H b = some (.dK kvs)) : ∀ (ds : List PyData) (xs : List V), DatsAre K H ds xs → DatsAre K H' ds xs
  | [], xs, h => by simpa only [DatsAre] using h
  | d :: ds, xs, h => by
    simp only [DatsAre] at h ⊢
    obtain ⟨x, r, e, h1, h2⟩ := h
    exact ⟨x, r, e, DatIs.kp k hD d x h1, DatsAre.kp k hD ds r h2⟩
end
end
theorem Same.kpE {H H' : Hp} (s : Same H H') : KpE (fun _ => False) H H' := fun b o h _ => s b o h
theorem DatIs.same {K : PySem.W.Frag} {H H' : Hp} {d : PyData} {v : V} (h : DatIs K H d v) (s : Same H H') : DatIs K H' d v := DatIs.kp s.kpE (fun _ z => z.elim) d v h
theorem DatsAre.same {K : PySem.W.Frag} {H H' : Hp} {ds : List PyData} {xs : List V} (h : DatsAre K H ds xs) (s : Same H H') : DatsAre K H' ds xs := DatsAre.kp s.kpE (fun _ z => z.elim) ds xs h
theorem SqT.same {K : PySem.W.Frag} {H H' : Hp} {a : Addr} {xs : List V} (h : SqT K H a xs) (s : Same H H') : SqT K H' a xs := h.kp s.kpE (fun _ z => z.elim)
theorem Same.upd {H : Hp} {p : Addr} {o : HO} (hp : H p = none) : Same H (upd H p o) := fun b u e => by rw [upd_ne (ne_of_none e hp)]; exact e
section
variable {K : PySem.W.Frag} {H : Hp}
theorem DatsAre.length : ∀ {ds : List PyData} {xs : List V}, DatsAre K H ds xs → xs.length = ds.length
  | [], xs, h => by simp only [DatsAre] at h; subst h; rfl
  | d :: ds, xs, h => by
    simp only [DatsAre] at h
    obtain ⟨x, r, rfl, h1, h2⟩ := h
    rw [List.length_cons, List.length_cons, h2.length]
theorem DatsAre.get : ∀ {ds : List PyData} {xs : List V} {i : Nat} {x : V}, DatsAre K H ds xs → xs[i]? = some x → ∃ d, ds[i]? = some d ∧ DatIs K H d x
  | [], xs, i, x, h, e => by simp only [DatsAre] at h; subst h; simp at e
  | d :: ds, xs, i, x, h, e => by
    simp only [DatsAre] at h
    obtain ⟨y, r, rfl, h1, h2⟩ := h
    cases i with
    | zero => simp at e; subst e; exact ⟨d, rfl, h1⟩
    | succ i => simpa using h2.get (i := i) (by simpa using e)
theorem DatsAre.snoc : ∀ {ds : List PyData} {xs : List V} {d : PyData} {x : V}, DatsAre K H ds xs → DatIs K H d x → DatsAre K H (ds ++ [d]) (xs ++ [x])
  | [], xs, d, x, h, h' => by simp only [DatsAre] at h; subst h; simp only [List.nil_append, DatsAre]; exact ⟨x, [], rfl, h', rfl⟩
  | e :: ds, xs, d, x, h, h' => by
    simp only [DatsAre] at h
    obtain ⟨y, r, rfl, h1, h2⟩ := h
    simp only [List.cons_append, DatsAre]
    exact ⟨y, r ++ [x], rfl, h1, h2.snoc h'⟩
theorem DatsAre.append {ds' : List PyData} {xs' : List V} (h' : DatsAre K H ds' xs') : ∀ {ds : List PyData} {xs : List V}, DatsAre K H ds xs → DatsAre K H (ds ++ ds') (xs ++ xs')
  | [], xs, h => by simp only [DatsAre] at h; subst h; simpa using h'
  | e :: ds, xs, h => by
    simp only [DatsAre] at h
    obtain ⟨y, r, rfl, h1, h2⟩ := h
    simp only [List.cons_append, DatsAre]
    exact ⟨y, r ++ xs', rfl, h1, DatsAre.append h' h2⟩
theorem DatsAre.take : ∀ {ds : List PyData} {xs : List V} (n : Nat), DatsAre K H ds xs → DatsAre K H (ds.take n) (xs.take n)
  | [], xs, n, h => by simp only [DatsAre] at h; subst h; simp [DatsAre]
  | d :: ds, xs, 0, h => by simp [DatsAre]
  | d :: ds, xs, n + 1, h => by
    simp only [DatsAre] at h
    obtain ⟨y, r, rfl, h1, h2⟩ := h
    simp only [List.take_succ_cons, DatsAre]
    exact ⟨y, r.take n, rfl, h1, DatsAre.take n h2⟩
theorem DatIs.tup {ds : List PyData} {xs : List V} {a : Addr} (h : H a = some (.tup xs)) (h2 : DatsAre K H ds xs) : DatIs K H (.tuple ds) (.ref a) := by
  simp only [DatIs]; exact ⟨a, xs, rfl, SqT.of h, h2⟩
theorem DatIs.lst {ds : List PyData} {xs : List V} {a : Addr} (h : H a = some (.lst xs)) (h2 : DatsAre K H ds xs) : DatIs K H (.list ds) (.ref a) := by
  simp only [DatIs]; exact ⟨a, xs, rfl, h, h2⟩
theorem DatsAre.nil : DatsAre K H [] [] := by simp only [DatsAre]
theorem DatsAre.cons {d : PyData} {x : V} {ds : List PyData} {xs : List V} (h : DatIs K H d x) (h2 : DatsAre K H ds xs) : DatsAre K H (d :: ds) (x :: xs) := by
  simp only [DatsAre]; exact ⟨x, xs, rfl, h, h2⟩
theorem DatIs.int {i : Int} : DatIs K H (.int i) (.int i) := by simp only [DatIs]
theorem DatIs.bl {b : Bool} : DatIs K H (.bool b) (.bl b) := by simp only [DatIs]
theorem DatIs.st {x : Str} : DatIs K H (.str x) (.str x) := by simp only [DatIs]
theorem DatIs.non : DatIs K H .none .non := by simp only [DatIs]
theorem DatIs.ofTup {ds : List PyData} {v : V} (h : DatIs K H (.tuple ds) v) : ∃ a xs, v = .ref a ∧ SqT K H a xs ∧ DatsAre K H ds xs := by simpa only [DatIs] using h
end
theorem lc_gen {J : It} {D : Addr} (n : Nat) {g : TG} {tt : TT} {te : TE} {Q : Hp → Prop} {σ0 : St} {H0 : Hp} (Pv : Nat → St → List V → Hp → Prop) (h0 : Pv 0 σ0 [] H0)
    (hgo : ∀ i σ acc H, i < n → Pv i σ acc H → J.go i H) (hstop : ∀ σ acc H, Pv n σ acc H → J.stop n H)
    (hs : ∀ i σ acc H, i < n → Pv i σ acc H → ∀ x H2, J.yld i H x H2 → ∀ R : St → List V → Hp → Prop, (∀ σ acc H, Pv (i + 1) σ acc H → R σ acc H) →
      g x σ H2 fun σ2 H3 => tt σ2 H3 fun ok H4 => if ok = true then te σ2 H4 fun y H5 => H5 D = some (.lst acc) ∧ acc.length < sizeLine ∧ R σ2 (acc ++ [y]) (upd H5 D (.lst (acc ++ [y]))) else H4 D = some (.lst acc) ∧ R σ2 acc H4)
    (hd : ∀ σ acc H, Pv n σ acc H → Q H) :
    ∃ W : Nat → Nat → St → List V → Hp → Prop, (∃ m, W 0 m σ0 [] H0) ∧ ∀ i m σ' acc H', W i m σ' acc H' →
    (J.stop i H' ∧ Q H') ∨
    (J.go i H' ∧ ∀ x H2, J.yld i H' x H2 → g x σ' H2 fun σ2 H3 => tt σ2 H3 fun ok H4 => if ok = true then te σ2 H4 fun y H5 => H5 D = some (.lst acc) ∧ acc.length < sizeLine ∧ ∃ m', m' < m ∧ W (i + 1) m' σ2 (acc ++ [y]) (upd H5 D (.lst (acc ++ [y])))
      else H4 D = some (.lst acc) ∧ ∃ m', m' < m ∧ W (i + 1) m' σ2 acc H4) := by
  refine ⟨fun i m σ acc H => m = n - i ∧ i ≤ n ∧ Pv i σ acc H, ⟨n, by simp, Nat.zero_le _, h0⟩, ?_⟩
  rintro i m σ acc H ⟨rfl, hi, p⟩
  by_cases hlt : i < n
  · exact .inr ⟨hgo i σ acc H hlt p, fun x H2 y => hs i σ acc H hlt p x H2 y (fun σ acc H => ∃ m', m' < n - i ∧ m' = n - (i + 1) ∧ i + 1 ≤ n ∧ Pv (i + 1) σ acc H) fun σ acc H q => ⟨n - (i + 1), by omega, rfl, hlt, q⟩⟩
  · have e : i = n := by omega
    subst e
    exact .inl ⟨hstop σ acc H p, hd σ acc H p⟩
end L2
set_option Elab.async false
set_option linter.all false
set_option maxRecDepth 100000
set_option maxHeartbeats 4000000
namespace L2
open PySem PySem.Spec PyProof.Rows
section
variable {X : Cx} {K : PySem.W.Frag}
theorem pg_tupK {es : List Expr} {k : Nat} {t : TGs} {n : Nat} {pos : Pos} (hK : X.K = K) (hc : X.calm = true) (h : PGs X es t)
    (hn : (assignEach es X.env).length = n := by rfl) (hst : (assignEach es X.env).findIdx? (·.1) = none := by rfl) : PG X (.Tuple es k pos) (gTup K n t) := by
  subst hK; exact pg_tup hc h hn hst
theorem ix_tupK (hK : X.K = K) : IxR X (rIxT K) := by subst hK; exact ix_tup
theorem ix_listK (hK : X.K = K) : IxR X (rIxL K) := by subst hK; exact ix_list
theorem call_len_seqK (hK : X.K = K) : CallR X (.builtin "len") (fun xs H Q => ∃ p ys, xs = [.ref p] ∧ (SqL K H p ys ∨ SqT K H p ys) ∧ Q (.int ys.length) H) := by subst hK; exact call_len_seq
theorem call_tuple_ofK (hK : X.K = K) : CallR X (.type "tuple") (fun xs H Q => ∃ p ys, xs = [.ref p] ∧ ((SqL K H p ys ∧ ∀ l, H l = none → Q (.ref l) (upd H l (.tup ys))) ∨ (SqT K H p ys ∧ Q (.ref p) H))) := by subst hK; exact call_tuple_of
theorem call_reprK (hK : X.K = K) (hg : X.A.guards = some []) (hu : X.A.units + 64 < cLine) : CallR X (.builtin "repr") (rRepr K) := by subst hK; exact call_repr hg hu
theorem sl_tup2K (hK : X.K = K) : SlR X (rSlT2 K) := by subst hK; exact sl_tup2
theorem pt_truthK {a : Expr} {ta : TE} (hK : X.K = K) (ha : PE X a ta) (he : ∀ whole, isTrue a X.env whole = (do let v ← whole; standAt a.pos; holding [v] (truthy v))) :
    PT X a (fun σ H Q => ta σ H fun x H' => ∃ k, TruV K x H' k ∧ Q k H') := by subst hK; exact pt_truth ha he
end
end L2
set_option Elab.async false
set_option linter.all false
set_option maxRecDepth 100000
set_option maxHeartbeats 4000000
namespace L2
open PySem PySem.Spec PyProof.Rows
section
variable {X : Cx} {K : PySem.W.Frag}
def rCatA (K : PySem.W.Frag) : R2 := fun x y H Q => ∃ a b xs ys, x = .ref a ∧ y = .ref b ∧ SqT K H a xs ∧ SqT K H b ys ∧ xs.length + ys.length ≤ sizeLine ∧
  (xs = [] → Q (.ref b) H) ∧ (ys = [] → Q (.ref a) H) ∧ ∀ p, H p = none → Q (.ref p) (upd H p (.tup (xs ++ ys)))
theorem op_catA (hK : X.K = K) : OpR X (binaryOp .Add) (rCatA K) := by
  subst hK
  intro pins s σ H x y v u Q I rx ry h
  obtain ⟨a, b, xs, ys, rfl, rfl, ha, hb, hz, q0, q1, q2⟩ := h
  by_cases hx : xs = []
  · cases rx
    cases ry
    obtain ⟨its, r1, p1, _⟩ := I.tuple ha
    obtain ⟨its2, r2, p2, _⟩ := I.tuple hb
    subst hx
    cases r1
    obtain ⟨⟨cls, dd, data, sl⟩, ho, hc, n, hd⟩ := id p1
    obtain ⟨⟨cls2, dd2, data2, sl2⟩, ho2, hc2, n2, hd2⟩ := id p2
    simp only at hc hd hc2 hd2
    subst hc hd hc2 hd2
    exact concat_meets ⟨_, ho, rfl⟩ ⟨_, ho2, rfl⟩ noFill_tuple_add seq_tuple_add PySem.F.slot_tuple_add PySem.F.entry_tuple_add (PySem.F.args_tuple_add_2 _ _)
      (tuple_addW0 a b #[] its2.toArray n n2 dd dd2 sl sl2 rfl) ⟨ho, ho2, ⟨.ref b, H, I, rfl, q0 rfl⟩⟩
  · exact op_catT pins s σ H (.ref a) (.ref b) v u Q I rx ry ⟨a, b, xs, ys, rfl, rfl, ha, hb, hx, hz, q1, fun _ => q2⟩
end
end L2
set_option Elab.async false
set_option linter.all false
set_option maxRecDepth 100000
set_option maxHeartbeats 4000000
namespace L2
open PySem PySem.Spec PyProof.Rows
theorem lc_blockS {X : Cx} {y : Str} {py : Pos} {ix : Nat} {elt tg iter : Expr} {ifs : List Expr} {scope osc : Scope} {pos : Pos} {N : List Str} {k : Nat} {cap : List Nat} {g : TG} {tt : TT} {te : TE} {cl : List (Str × Addr)}
    {pins : List (Addr × Obj)} {σ : St} {H3 : Hp} {s3 : Shared} {D it : Addr} {fp : List Addr} {tn : Nat → Heap → Prop} {J : It} {Q : St → Hp → Prop} {W : Nat → Nat → St → List V → Hp → Prop} {m0 : Nat}
    (hNd : X.N.Nodup) (hix : X.N[ix]? = some y) (hLy : Loc X.env.scope y) (hfy : X.fn y = true ∨ X.env.scope.names.lookup y = some .local)
    (hc : X.calm = true) (hosc : X.env.scope = osc) (hcap : Caps X.N osc N k cap scope)
    (hcl : ∀ {x : Str} {c : Addr}, cl.lookup x = some c → X.env.cells.lookup x = some c) (hhas : ∀ x, (x, NameKind.free) ∈ scope.names → ∃ c, cl.lookup x = some c)
    (hg : ∀ cl C ex pins s H, PG (cxC X N scope cl C ex pins s H) tg g)
    (ht : ∀ cl C ex pins s H, PTs (cxC X N scope cl C ex pins s H) ifs tt)
    (he : ∀ cl C ex pins s H, PE (cxC X N scope cl C ex pins s H) elt te)
    (I3 : Inv X pins σ H3 s3) (hD : H3 D = some (.lst [])) (T : Turn X.prog X.w X.K tg J fp it tn) (st : tn 0 s3.heap) (f3 : ∀ b ∈ fp, FpOk X pins H3 b) (w0 : W 0 m0 (capt k cap σ) [] H3)
    (turn : ∀ i m σ' acc H', W i m σ' acc H' → (J.stop i H' ∧ Q (σ.set ix (some (.ref D))) H') ∨
      (J.go i H' ∧ ∀ x H2, J.yld i H' x H2 → g x σ' H2 fun σ2 H3 => tt σ2 H3 fun ok H4 => if ok = true then te σ2 H4 fun y H5 => H5 D = some (.lst acc) ∧ acc.length < sizeLine ∧ ∃ m', m' < m ∧ W (i + 1) m' σ2 (acc ++ [y]) (upd H5 D (.lst (acc ++ [y])))
        else H4 D = some (.lst acc) ∧ ∃ m', m' < m ∧ W (i + 1) m' σ2 acc H4)) :
    wpAny (model X.prog X.w) X.A (newFunctionEnv scope X.env.globals cl [] X.env.qual none .none (some X.env)) (fun cenv s₄ =>
      codeAny (model X.prog X.w) X.A (.compStart (.ListComp elt [⟨tg, iter, ifs, 0⟩] scope pos) 0 (.ref it) (.ref D) { cenv with scope := relabel scope X.env }) (compPost (model X.prog X.w) X.A X.xe (some (assign (.Name y py) X.env)) (fun _ s' => ∃ σ' H', Inv X pins σ' H' s' ∧ Q σ' H') (.ref D) cenv.locals) s₄) X.xe s3 := by
  refine wpAny_newFunctionEnv hcap.nocell (by intro y hy; simp at hy) (fun h₁ hns₁ hsb₁ => ?_) hcap.kind
  have old : ∀ b o, s3.heap.get? b = some o → h₁.get? b = some o := fun b o e => hsb₁.extBut b o (Nat.ne_of_lt (Heap.lt_size e)) (Heap.get?_push_of_some _ e)
  have neC : ∀ b ∈ fp, b ≠ s3.heap.objs.size := fun b hb => by
    obtain ⟨o, e, _⟩ := T.obj _ _ st b hb
    exact Nat.ne_of_lt (Heap.lt_size e)
  have nofs : ∀ {b : Addr}, b ≠ X.env.locals → b ∉ X.fs → b ∉ frs X.stack := fun {b} h1 h2 z => (List.mem_cons.mp (I3.stkSub b z)).elim h1 h2
  have IY : Inv (cxC X N scope cl s3.heap.objs.size fp pins s3 H3) [] (capt k cap σ) H3 { s3 with heap := h₁, toks := s3.toks + ([] : List (Str × Value)).length } := by
    refine ⟨⟨I3.ok.mod, hcap.kind, I3.ok.glob, I3.ok.blt, Nat.le_refl _, fun x y c h1 h2 => I3.ok.inj x y c (hcl h1) (hcl h2), fun x hx => hhas x (relabel_mem hcap.nocell hx), fun x c h => absurd (show false = true from h) Bool.false_ne_true, I3.ok.hd, I3.ok.frames, .inl rfl,
      fun b hb => ⟨neC b hb, fun x c e => (f3 b hb).2.2.2.2.1 x c (hcl e)⟩, I3.bs, Nat.le_trans I3.ok.bsz I3.sz, fun b o e hb => ?_, fun b hb => nofs (f3 b hb).2.1 (f3 b hb).2.2.1, I3.stack, I3.stkFree⟩,
      rfl, I3.bare, Un.kept old, ⟨_, hns₁, fun i x v e1 e2 e3 => ?_⟩, fun x c e => ?_, I3.hok.fresh (Nat.le_refl _), fun x c e => I3.freeC x c (hcl e), fun p hp => ?_, I3.hok.kept old, ?_⟩
    · rcases (f3 b hb).2.2.2.1 with z | z
      · exact I3.ok.noex b o e z
      · exact absurd (Nat.lt_of_lt_of_le (Heap.lt_size e) (Nat.le_trans I3.ok.bsz z)) (Nat.lt_irrefl _)
    · by_cases hi : i < k
      · unfold capt at e2
        rw [List.getElem?_append_left (by simpa using hi), List.getElem?_replicate, if_pos hi] at e2
        cases e2
      · obtain ⟨d, rfl⟩ : ∃ d, i = k + d := ⟨i - k, by omega⟩
        unfold capt at e2
        rw [List.getElem?_append_right (by simp), List.length_replicate, Nat.add_sub_cancel_left, List.getElem?_map] at e2
        obtain ⟨j, hj, hv⟩ := Option.map_eq_some_iff.mp e2
        have hσ : σ[j]? = some (some v) := by
          cases q : σ[j]? with
          | none => rw [q] at hv; cases hv
          | some o => rw [q] at hv; exact congrArg some hv
        have e1' : (N.drop k)[d]? = some x := by rw [List.getElem?_drop]; exact e1
        have hx : X.N[j]? = some x := by
          have z := congrArg (fun l => l[d]?) hcap.capx
          simp only [List.getElem?_map, hj, e1', Option.map_some] at z
          exact Option.some.inj z
        have hfr := hcap.capf x (List.mem_of_getElem? e1')
        have hfm := PySem.mem_of_lookup hfr
        have hok := hcap.free _ hfm rfl
        rw [← hosc] at hok
        obtain ⟨m, hn, hl⟩ := I3.loc
        obtain ⟨u, r, l⟩ := hl j x v hx hσ (.inr hok)
        refine ⟨u, r, ?_⟩
        rcases l with ⟨hk, _⟩ | ⟨hk, c, hc1, hc2⟩
        · have hk : X.env.scope.names.lookup x = some .local := hk
          rcases hok with z | z <;> (rw [hk] at z; cases z)
        · obtain ⟨c', hc'⟩ := hhas x hfm
          have : c' = c := Option.some.inj ((hcl hc').symm.trans hc1)
          subst this
          exact .inr ⟨relabel_free hfr, c', hc', hc2.keeps old⟩
    · obtain ⟨v, z⟩ := I3.cell x c (hcl e)
      exact ⟨v, z.keeps old⟩
    · have hp : p ∈ (X.pn ++ pins) ++ [] := hp
      rw [List.append_nil] at hp
      obtain ⟨a1, a2, a3, a4, a5⟩ := I3.pin p hp
      exact ⟨old _ _ a1, a2, Nat.ne_of_lt (Heap.lt_size a1), nofs a3 a4, a5⟩
    · show (capt k cap σ).length = N.length
      unfold capt
      rw [List.length_append, List.length_replicate, List.length_map, hcap.len]
  have stat : ∀ {H' : Hp}, (∀ b ∈ fp, H' b = none) → ∀ b ∈ fp, FpOk (cxC X N scope cl s3.heap.objs.size fp pins s3 H3) [] H' b := fun {H'} hn b hb => by
    obtain ⟨a0, a1, a2, a3, a4, a5⟩ := f3 b hb
    refine ⟨hn b hb, neC b hb, nofs a1 a2, .inl hb, fun x c e => a4 x c (hcl e), fun p hp => a5 p ?_⟩
    have hp : p ∈ (X.pn ++ pins) ++ [] := hp
    rwa [List.append_nil] at hp
  have loop : codeAny (model X.prog X.w) X.A (.compLoop (.ListComp elt [⟨tg, iter, ifs, 0⟩] scope pos) 0 (.ref it) (.ref D) (compEnvC scope cl s3.heap.objs.size X.env))
      (compPost (model X.prog X.w) X.A X.xe (some (assign (.Name y py) X.env)) (fun _ s' => ∃ σ' H', Inv X pins σ' H' s' ∧ Q σ' H') (.ref D) s3.heap.objs.size) { s3 with heap := h₁, toks := s3.toks + ([] : List (Str × Value)).length } := by
    refine compLoop_any (fun n s' => ∃ i σ' acc H', Inv (cxC X N scope cl s3.heap.objs.size fp pins s3 H3) [] σ' H' s' ∧ tn i s'.heap ∧ (∀ b ∈ fp, H' b = none) ∧ H' D = some (.lst acc) ∧ W i n σ' acc H') ?_ m0
      ⟨0, _, [], H3, IY, T.keep _ _ _ st fun b _ o e => old b o e, fun b hb => (f3 b hb).1, hD, w0⟩
    rintro n s5 ⟨i, σ5, acc, H5, I5, st5, fr5, hD5, w5⟩
    rcases turn i n σ5 acc H5 w5 with ⟨stop, q⟩ | ⟨go, step⟩
    · refine thn (T.done (cxC X N scope cl s3.heap.objs.size fp pins s3 H3) rfl rfl rfl hc i [] s5 σ5 H5 _ I5 (stat fr5) st5 stop) fun r s6 ⟨hr, I6⟩ => ?_
      subst hr
      obtain ⟨m, hn, _⟩ := id I6.loc
      have I7 : Inv X pins σ H5 s6 := I3.call' I6.os I6.base I6.hok I6.bare fun b hb => by
        obtain ⟨a0, a1, a2, a3, a4, a5⟩ := f3 b hb
        exact ⟨a3, a1, a4, a5⟩
      obtain ⟨g0, g1, g2, g3, g4, g5⟩ := I3.fpOk (H' := H5) (b := s3.heap.objs.size) (Nat.le_refl _) I6.free
      obtain ⟨o, es, ep, ho, hdat, rest⟩ := id hn
      have I7p : Inv X (pins ++ [(s3.heap.objs.size, o)]) σ H5 s6 := I7.pins_of fun p hp => by
        rcases List.mem_append.mp hp with z | z
        · exact I7.pin p (List.mem_append_right _ z)
        · rw [List.mem_singleton.mp z]
          exact ⟨ho, g0, g1, g2, fun v z => by have z' : o.data = .cell v := z; rw [hdat] at z'; cases z'⟩
      show wpAny (model X.prog X.w) X.A (assign (.Name y py) X.env (.ref D)) _ _ s6
      refine wpAny_assign_Name (store_ok I7p hNd hix hLy (v := .ref D) rfl (fun s7 I8 => ?_) hfy)
      have hC7 := (I8.pin (s3.heap.objs.size, o) (List.mem_append_right _ (List.mem_append_right _ (List.mem_singleton.mpr rfl)))).1
      refine ⟨m, ⟨o, es, ep, hC7, hdat, rest⟩, fun h' hsb => ?_⟩
      exact ⟨_, H5, I8.unpinned.turned (t' := s7.toks) (fun b o hb e => (hsb.2 b hb).trans e) g0 g1 g3 g4 g5, q⟩
    · refine thn (T.item (cxC X N scope cl s3.heap.objs.size fp pins s3 H3) rfl rfl rfl hc i [] s5 σ5 H5 _ I5 (stat fr5) st5 go) fun r s6 ⟨u, hr, h6⟩ => ?_
      subst hr
      refine thn h6 fun _ s7 ⟨x, H7, I7, r7, y7, st7, fr7⟩ => ?_
      have I7' := I7.pinned (stat fr7) (T.obj _ _ st7)
      have keepI : ∀ {s' : Shared} {σ' : St} {H' : Hp}, Inv (cxC X N scope cl s3.heap.objs.size fp pins s3 H3) ([] ++ pinsAt fp s7.heap) σ' H' s' → tn (i + 1) s'.heap ∧ ∀ b ∈ fp, H' b = none := fun {s' σ' H'} I' => by
        refine ⟨T.keep _ _ _ st7 fun b hb o e => (I'.pin (b, o) (List.mem_append_right _ (List.mem_append_right _ (mem_pinsAt hb e)))).1, fun b hb => ?_⟩
        obtain ⟨o, e, d⟩ := T.obj _ _ st7 b hb
        exact (I'.pin (b, o) (List.mem_append_right _ (List.mem_append_right _ (mem_pinsAt hb e)))).2.1
      refine thn (hg _ _ _ _ _ _ _ s7 σ5 H7 x u _ I7' r7 (step x H7 y7)) fun _ s8 ⟨σ8, H8, I8, q8⟩ => ?_
      refine thn (ht _ _ _ _ _ _ _ s8 σ8 H8 _ I8 q8) fun ok s9 ⟨H9, I9, q9⟩ => ?_
      cases ok with
      | false =>
        have q9 : H9 D = some (.lst acc) ∧ ∃ m', m' < n ∧ W (i + 1) m' σ8 acc H9 := q9
        obtain ⟨hD9, m', hm, w9⟩ := q9
        obtain ⟨k1, k2⟩ := keepI I9
        exact ⟨m', hm, i + 1, σ8, acc, H9, I9.unpinned, k1, k2, hD9, w9⟩
      | true =>
        refine thn (he _ _ _ _ _ _ _ s9 σ8 H9 _ I9 q9) fun yv s10 ⟨y, H10, I10, r10, hD10, hz, m', hm, w10⟩ => ?_
        refine thn (mt_append (X := cxC X N scope cl s3.heap.objs.size fp pins s3 H3) _ s10 σ8 H10 (.ref D) [y] (.ref D) [yv] (fun _ H' => H' = upd H10 D (.lst (acc ++ [y]))) I10 rfl (.cons r10 .nil) ⟨D, acc, y, rfl, rfl, hD10, hz, rfl⟩)
          fun _ s11 ⟨_, H11, I11, _, e11⟩ => ?_
        subst e11
        obtain ⟨k1, k2⟩ := keepI I11
        exact ⟨m', hm, i + 1, σ8, acc ++ [y], _, I11.unpinned, k1, k2, upd_same, w10⟩
  exact codeAny_compStart_list loop (T.self X.A 0 _ _ _ (T.keep _ _ _ st fun b _ o e => old b o e) loop)
theorem ps_setLC {X : Cx} {y : Str} {py spos : Pos} {ix : Nat} {elt tg iter : Expr} {ifs : List Expr} {scope osc : Scope} {pos : Pos} {N : List Str} {k : Nat} {cap : List Nat} {wi : TI} {g : TG} {tt : TT} {te : TE}
    (hNd : X.N.Nodup) (hix : X.N[ix]? = some y) (hLy : Loc X.env.scope y)
    (hc : X.calm = true) (hosc : X.env.scope = osc) (hcap : Caps X.N osc N k cap scope) (hi : PI X tg iter wi)
    (hg : ∀ cl C ex pins s H, PG (cxC X N scope cl C ex pins s H) tg g)
    (ht : ∀ cl C ex pins s H, PTs (cxC X N scope cl C ex pins s H) ifs tt)
    (he : ∀ cl C ex pins s H, PE (cxC X N scope cl C ex pins s H) elt te)
    (hs : ∀ x, foldedSetIterable iter X.env x = pure x := by intro _; rfl) (hfy : X.fn y = true ∨ X.env.scope.names.lookup y = some .local := by first | exact .inl rfl | exact .inr rfl | assumption)
    (hsw : swapsWith (.ListComp elt [⟨tg, iter, ifs, 0⟩] scope pos) (some (.Name y py)) spos.line X.env = pure true := by rfl) :
    PS X (.Assign [.Name y py] (.ListComp elt [⟨tg, iter, ifs, 0⟩] scope pos) spos) (tAsg (tLC wi k cap g tt te) (gName ix)) := by
  intro pins s σ H D0 I h
  have hcell : ∀ y ∈ scope.names, y.2 = .free → ∃ c, X.env.cells.lookup y.1 = some c := fun y hy hk => I.ok.has y.1 (by
    show X.env.scope.names.lookup y.1 = _ ∨ X.env.scope.names.lookup y.1 = _
    rw [hosc]; exact hcap.free y hy hk)
  let f : Str → Addr := fun x => (X.env.cells.lookup x).getD 0
  have hf : ∀ y ∈ scope.names, y.2 = .free → X.env.cells.lookup y.1 = some (f y.1) := fun y hy hk => by
    obtain ⟨c, e⟩ := hcell y hy hk
    show _ = some ((X.env.cells.lookup y.1).getD 0)
    rw [e]; rfl
  have hclos : closureFor scope X.env = pure (closL f scope.names []) := closureFor_closL fun y hy hk => by
    unfold cellOf
    rw [hf y hy hk]
  have hcl : ∀ {x : Str} {c : Addr}, (closL f scope.names []).lookup x = some c → X.env.cells.lookup x = some c := fun {x c} e => by
    rcases closL_lookup _ _ e with ⟨h1, h2⟩ | h1
    · rw [h2]; exact hf (x, .free) h1 rfl
    · simp at h1
  have hhas : ∀ x, (x, NameKind.free) ∈ scope.names → ∃ c, (closL f scope.names []).lookup x = some c := fun x hx => ⟨_, closL_has _ _ (.inl hx)⟩
  generalize closL f scope.names [] = cl at hclos hcl hhas
  rw [exec_Assign_Name_used _ _ _ _ hsw]
  refine wpAny_bind (wpAny_standAt (wpAny_bind ?_))
  show wpAny _ X.A (do let _ ← comprehension (.ListComp elt [⟨tg, iter, ifs, 0⟩] scope pos) scope X.env _ (newList []) false (eval iter X.env) (some (assign (.Name y py) X.env))) _ _ s
  refine wpAny_bind (wpAny_mono (wpAny_comprehension_free (use := some (assign (.Name y py) X.env)) (cl := cl) (Q := fun _ s' => ∃ σ' H', Inv X pins σ' H' s' ∧ D0.nx σ' H') rfl hs hclos hcap.kind hcap.loc ?_) (fun _ s' hq => wpAny_pure (wpAny_pure hq)) fun _ _ e => e)
  refine thn (hi pins s σ H _ I h) fun v s1 h1 => thn h1 fun itv s2 h2 => ?_
  obtain ⟨it, fp, tn, J, H2, e, I2, T, st2, f2, q2⟩ := h2
  subst e
  obtain ⟨W, ⟨m0, w0⟩, turn⟩ := q2 s2.heap.objs.size (I2.hok.fresh (Nat.le_refl _))
  refine wpAny_newObj_type ?_
  have I3 : Inv X pins σ (upd H2 s2.heap.objs.size (.lst [])) { s2 with heap := s2.heap.push { cls := .type "list", data := .seq ([] : List Value).toArray } } := I2.lnew (ys := []) (its := []) (t' := s2.toks) .nil (Nat.zero_le _)
  have lt2 : ∀ b ∈ fp, b ≠ s2.heap.objs.size := fun b hb => by
    obtain ⟨o, e, _⟩ := T.obj _ _ st2 b hb
    exact Nat.ne_of_lt (Heap.lt_size e)
  exact lc_blockS hNd hix hLy hfy hc hosc hcap hcl hhas hg ht he I3 upd_same T (T.keep _ _ (s2.heap.push { cls := .type "list", data := .seq ([] : List Value).toArray }) st2 fun b _ o e => Heap.get?_push_of_some _ e) (fun b hb => ⟨by rw [upd_ne (lt2 b hb)]; exact (f2 b hb).1, (f2 b hb).2⟩) w0 turn
end L2
set_option Elab.async false
set_option linter.all false
set_option maxRecDepth 100000
set_option maxHeartbeats 4000000
namespace L2
open PySem PySem.Spec PyProof.Rows
section
variable {X : Cx} {K : PySem.W.Frag}
end
end L2
set_option Elab.async false
set_option linter.all false
set_option maxRecDepth 100000
set_option maxHeartbeats 4000000
namespace L2
open PySem PySem.Spec PyProof.Rows
def tyD : PyData → String
  | .none => "NoneType"
  | .bool _ => "bool"
  | .int _ => "int"
  | .str _ => "str"
  | .list _ => "list"
  | .tuple _ => "tuple"
  | .dict _ => "dict"
def isT (a T : String) : Bool := a == T || (a == "bool" && T == "int")
theorem kit_isT (K : PySem.W.Frag) : ∀ a ∈ ["NoneType", "bool", "int", "str", "list", "tuple"], ∀ T ∈ ["bool", "int", "str", "list", "tuple"], PySem.W.kitOne K (.type a) (.type T) = some (isT a T) := by
  intro a ha T hT
  simp only [List.mem_cons, List.not_mem_nil, or_false] at ha hT
  rcases ha with rfl | rfl | rfl | rfl | rfl | rfl <;> rcases hT with rfl | rfl | rfl | rfl | rfl <;> rfl
section
variable {X : Cx} {K : PySem.W.Frag}
theorem tyD_mem {K : PySem.W.Frag} {H : Hp} {d : PyData} {x : V} (h : DatIs K H d x) : tyD d ∈ ["NoneType", "bool", "int", "str", "list", "tuple"] := by
  cases d <;> simp [tyD]
  simp only [DatIs] at h
def rIsin (K : PySem.W.Frag) : List V → Hp → VK → Prop := fun xs H Q => ∃ (x : V) (T : String) (d : PyData), xs = [x, .ty T] ∧ DatIs K H d x ∧ T ∈ ["bool", "int", "str", "list", "tuple"] ∧ Q (.bl (isT (tyD d) T)) H
theorem call_isin (hK : X.K = K) : CallR X (.builtin "isinstance") (rIsin K) := by
  subst hK
  intro pins s σ H xs us Q I r h
  obtain ⟨x, T, d, rfl, hd, hT, q⟩ := h
  obtain ⟨u, w', rfl, ru, rw'⟩ := vals2 r
  cases (show w' = Value.type T from rw')
  have e := kit_isT X.K (tyD d) (tyD_mem hd) T hT
  have fin : ∀ tk, EP X pins σ Q (.bool (isT (tyD d) T)) { s with toks := tk } := fun tk => ⟨.bl (isT (tyD d) T), H, I.tok tk, rfl, q⟩
  cases d with
  | none =>
    simp only [DatIs] at hd; subst hd
    exact isinst_ok I ru .non e fin
  | bool b =>
    simp only [DatIs] at hd; subst hd
    exact isinst_ok I ru (.bl b) e fin
  | int i =>
    simp only [DatIs] at hd; subst hd
    exact isinst_ok I ru (.int i) e fin
  | str z =>
    simp only [DatIs] at hd; subst hd
    exact isinst_ok I ru (.str z) e fin
  | tuple ds =>
    obtain ⟨a, xs, rfl, hq, hd'⟩ := hd.ofTup
    cases (show u = Value.ref a from ru)
    obtain ⟨its, rv, ⟨o, h1, h2, n, h3⟩, _⟩ := I.tuple hq
    exact PySem.W.kia_one PySem.W.kitx_tuple I.kIn ⟨_, h1, h2⟩ e (fun z => nomatch z) fin
  | list ds =>
    simp only [DatIs] at hd
    obtain ⟨a, xs, rfl, hq, hd'⟩ := hd
    cases (show u = Value.ref a from ru)
    obtain ⟨its, rv, p, _⟩ := I.list (SqL.of hq)
    obtain ⟨o, h1, h2, n, h3⟩ := p.isList
    exact PySem.W.kia_one PySem.W.kitx_list I.kIn ⟨_, h1, h2⟩ e (fun z => nomatch z) fin
  | dict kvs => simp only [DatIs] at hd
end
end L2
set_option Elab.async false
set_option linter.all false
set_option maxRecDepth 100000
set_option maxHeartbeats 4000000
namespace L2
open PySem PySem.Spec PyProof.Rows
section
variable {X : Cx} {K : PySem.W.Frag}
end
end L2
set_option Elab.async false
set_option linter.all false
set_option maxRecDepth 100000
set_option maxHeartbeats 4000000
namespace L2
open PySem PySem.Spec PyProof.Rows
section
variable {X : Cx} {K : PySem.W.Frag}
end
end L2
set_option Elab.async false
set_option linter.all false
set_option maxRecDepth 100000
set_option maxHeartbeats 4000000
namespace L3
open PySem PySem.Spec PyProof.Rows L2
abbrev St := L2.St
def hid (H : Hp) (B : List Addr) : Hp := fun b => if b ∈ B then none else H b
theorem hid_out {H : Hp} {B : List Addr} {b : Addr} (h : b ∉ B) : hid H B b = H b := by unfold hid; rw [if_neg h]
theorem hid_in {H : Hp} {B : List Addr} {b : Addr} (h : b ∈ B) : hid H B b = none := by unfold hid; rw [if_pos h]
theorem hid_same {H : Hp} {B : List Addr} : Same (hid H B) H := fun b o e => by
  by_cases h : b ∈ B
  · rw [hid_in h] at e; cases e
  · rwa [hid_out h] at e
theorem hid_sub {H : Hp} {B B' : List Addr} (s : ∀ b ∈ B', b ∈ B) : Same (hid H B) (hid H B') := fun b o e => by
  by_cases h : b ∈ B
  · rw [hid_in h] at e; cases e
  · rw [hid_out h] at e; rw [hid_out fun z => h (s b z)]; exact e
def Kp (fp : List Addr) (H H' : Hp) : Prop := ∀ b o, H b = some o → b ∉ fp → H' b = some o
theorem Kp.refl {fp : List Addr} {H : Hp} : Kp fp H H := fun _ _ e _ => e
theorem Kp.trans {fp : List Addr} {H H1 H2 : Hp} (a : Kp fp H H1) (b : Kp fp H1 H2) : Kp fp H H2 := fun c o e n => b c o (a c o e n) n
theorem Kp.same {fp : List Addr} {H H' : Hp} (s : Same H H') : Kp fp H H' := fun b o e _ => s b o e
theorem Kp.upd {fp : List Addr} {H : Hp} {p : Addr} {o : HO} (hp : H p = none) : Kp fp H (upd H p o) := Kp.same (Same.upd hp)
theorem Kp.hid {fp B : List Addr} {H H' : Hp} (k : Kp fp H H') (s : ∀ b ∈ fp, b ∈ B) : Same (hid H B) (hid H' B) := fun b o e => by
  by_cases h : b ∈ B
  · rw [hid_in h] at e; cases e
  · rw [hid_out h] at e ⊢; exact k b o e fun z => h (s b z)
theorem hid_upd {H : Hp} {B : List Addr} {a : Addr} {o : HO} (h : a ∈ B) : hid (upd H a o) B = hid H B := by
  funext b
  by_cases hb : b ∈ B
  · rw [hid_in hb, hid_in hb]
  · rw [hid_out hb, hid_out hb, upd_ne]; intro e; subst e; exact hb h
def DatSh (K : PySem.W.Frag) (fp B : List Addr) (H : Hp) : PyData → V → Prop
  | .tuple ds, v => ∃ a xs, v = .ref a ∧ SqT K (hid H B) a xs ∧ DatsAre K (hid H B) ds xs
  | .list ds, v => ∃ a xs, v = .ref a ∧ hid H fp a = some (.lst xs) ∧ DatsAre K (hid H B) ds xs
  | .none, v => v = .non
  | .bool b, v => v = .bl b
  | .int i, v => v = .int i
  | .str x, v => v = .str x
  | .dict _, _ => False
section
variable {K : PySem.W.Frag} {fp B : List Addr} {H H' : Hp} {d : PyData} {v : V}
theorem sh_of (h : DatIs K (hid H B) d v) (s : ∀ b ∈ fp, b ∈ B) : DatSh K fp B H d v := by
  cases d with
  | tuple ds =>
    simp only [DatIs] at h
    obtain ⟨a, xs, e, hq, hd⟩ := h
    exact ⟨a, xs, e, hq, hd⟩
  | list ds =>
    simp only [DatIs] at h
    obtain ⟨a, xs, e, hq, hd⟩ := h
    exact ⟨a, xs, e, hid_sub s _ _ hq, hd⟩
  | _ => simpa only [DatIs, DatSh] using h
theorem DatSh.dat (h : DatSh K fp B H d v) : DatIs K H d v := by
  cases d with
  | tuple ds =>
    obtain ⟨a, xs, e, hq, hd⟩ := h
    simp only [DatIs]
    exact ⟨a, xs, e, hq.same hid_same, hd.same hid_same⟩
  | list ds =>
    obtain ⟨a, xs, e, hq, hd⟩ := h
    simp only [DatIs]
    exact ⟨a, xs, e, hid_same _ _ hq, hd.same hid_same⟩
  | _ => simpa only [DatIs, DatSh] using h
theorem DatSh.step (h : DatSh K fp B H d v) (k : Kp fp H H') (s : ∀ b ∈ fp, b ∈ B) : DatSh K fp B H' d v := by
  have sm := k.hid s
  have sf := k.hid (B := fp) fun _ z => z
  cases d with
  | tuple ds =>
    obtain ⟨a, xs, e, hq, hd⟩ := h
    exact ⟨a, xs, e, hq.same sm, hd.same sm⟩
  | list ds =>
    obtain ⟨a, xs, e, hq, hd⟩ := h
    exact ⟨a, xs, e, sf _ _ hq, hd.same sm⟩
  | _ => exact h
theorem DatSh.tup {ds : List PyData} (h : DatSh K fp B H (.tuple ds) v) : DatIs K (hid H B) (.tuple ds) v := by
  obtain ⟨a, xs, e, hq, hd⟩ := h
  simp only [DatIs]
  exact ⟨a, xs, e, hq, hd⟩
def BOk (H : Hp) (B : List Addr) : Prop := ∀ b ∈ B, ∃ o, H b = some o
theorem BOk.nin (h : BOk H B) {p : Addr} (hp : H p = none) : p ∉ B := fun z => by
  obtain ⟨o, e⟩ := h p z; rw [hp] at e; cases e
theorem new_tup {p : Addr} {ds : List PyData} {xs : List V} (bk : BOk H B) (hp : H p = none) (h : DatsAre K (hid H B) ds xs) : DatIs K (hid (upd H p (.tup xs)) B) (.tuple ds) (.ref p) := by
  have e : Same (hid H B) (hid (upd H p (.tup xs)) B) := (Kp.upd (fp := []) hp).hid (by simp)
  refine DatIs.tup ?_ (h.same e)
  rw [hid_out (bk.nin hp)]; exact upd_same
theorem new_lst {p : Addr} {ds : List PyData} {xs : List V} (bk : BOk H B) (hp : H p = none) (h : DatsAre K (hid H B) ds xs) : DatIs K (hid (upd H p (.lst xs)) B) (.list ds) (.ref p) := by
  have e : Same (hid H B) (hid (upd H p (.lst xs)) B) := (Kp.upd (fp := []) hp).hid (by simp)
  refine DatIs.lst ?_ (h.same e)
  rw [hid_out (bk.nin hp)]; exact upd_same
end
class Feeds where
  S : Type
  At : Addr → Addr → Hp → S → Prop
  some1 : ∀ {d c H F}, At d c H F → ∃ o, H d = some o
  some2 : ∀ {d c H F}, At d c H F → ∃ o, H c = some o
  congr : ∀ {d c H H' F}, At d c H F → H' d = H d → H' c = H c → At d c H' F
abbrev GF := Option (Addr × Addr)
def fpOf : GF → List Addr
  | none => []
  | some (d, c) => [d, c]
section
variable [Feeds]
abbrev FS := Feeds.S
abbrev M (α : Type) := FS → Option (α × FS)
def FAt (G : GF) (H : Hp) (F : FS) : Prop := match G with
  | none => True
  | some (d, c) => Feeds.At d c H F
theorem FAt.bok {G : GF} {H : Hp} {F : FS} (h : FAt G H F) : BOk H (fpOf G) := fun b hb => by
  cases G with
  | none => simp [fpOf] at hb
  | some p =>
    obtain ⟨d, c⟩ := p
    simp only [fpOf, List.mem_cons, List.not_mem_nil, or_false] at hb
    rcases hb with rfl | rfl
    · exact Feeds.some1 h
    · exact Feeds.some2 h
theorem FAt.congr {G : GF} {H H' : Hp} {F : FS} (h : FAt G H F) (e : ∀ b ∈ fpOf G, H' b = H b) : FAt G H' F := by
  cases G with
  | none => trivial
  | some p =>
    obtain ⟨d, c⟩ := p
    exact Feeds.congr h (e d (by simp [fpOf])) (e c (by simp [fpOf]))
theorem FAt.same {G : GF} {H H' : Hp} {F : FS} (h : FAt G H F) (s : Same H H') : FAt G H' F := h.congr fun b hb => by
  obtain ⟨o, e⟩ := h.bok b hb
  rw [e]; exact s b o e
inductive DV where
  | dat (d : PyData) | feed | own (ds : List PyData)
abbrev DE := List (Option DV)
def DVr (K : PySem.W.Frag) (G : GF) (B : List Addr) (H : Hp) : DV → V → Prop
  | .dat d, v => DatIs K (hid H B) d v
  | .feed, v => ∃ d c, G = some (d, c) ∧ v = .ref d
  | .own ds, v => ∃ a xs, v = .ref a ∧ a ∈ B ∧ a ∉ fpOf G ∧ H a = some (.lst xs) ∧ DatsAre K (hid H B) ds xs
structure SitE (K : PySem.W.Frag) (G : GF) (B : List Addr) (E : DE) (F : FS) (σ : St) (H : Hp) : Prop where
  fd : FAt G H F
  fB : ∀ b ∈ fpOf G, b ∈ B
  bk : BOk H B
  ln : E.length = σ.length
  loc : ∀ (i : Nat) (x : DV), E[i]? = some (some x) → ∃ v, σ[i]? = some (some v) ∧ DVr K G B H x v
section
variable {K : PySem.W.Frag} {G : GF} {B : List Addr} {E : DE} {F F' : FS} {σ : St} {H H' : Hp}
theorem bok_step (bk : BOk H B) (k : Kp (fpOf G) H H') (f : FAt G H' F') : BOk H' B := fun b hb => by
  by_cases h : b ∈ fpOf G
  · exact f.bok b h
  · obtain ⟨o, e⟩ := bk b hb
    exact ⟨o, k b o e h⟩
theorem DVr.step {x : DV} {v : V} (h : DVr K G B H x v) (k : Kp (fpOf G) H H') (fB : ∀ b ∈ fpOf G, b ∈ B) : DVr K G B H' x v := by
  cases x with
  | dat d => exact DatIs.same (h : DatIs _ _ _ _) (k.hid fB)
  | feed => exact h
  | own ds =>
    obtain ⟨a, xs, e, hB, hf, ha, hd⟩ := h
    exact ⟨a, xs, e, hB, hf, k a _ ha hf, hd.same (k.hid fB)⟩
theorem SitE.step (I : SitE K G B E F σ H) (k : Kp (fpOf G) H H') (f : FAt G H' F') : SitE K G B E F' σ H' :=
  ⟨f, I.fB, bok_step I.bk k f, I.ln, fun i x e => by
    obtain ⟨v, h1, h2⟩ := I.loc i x e
    exact ⟨v, h1, h2.step k I.fB⟩⟩
end
end
end L3
set_option Elab.async false
set_option linter.all false
set_option maxRecDepth 100000
set_option maxHeartbeats 4000000
namespace L3
open PySem PySem.Spec PyProof.Rows L2
section
variable [Feeds]
def TEd (K : PySem.W.Frag) (te : TE) (m : DE → M PyData) : Prop := ∀ (G : GF) (B : List Addr) (E : DE) (F : FS) (σ : St) (H : Hp) (Q : VK) (d : PyData) (F' : FS), SitE K G B E F σ H → m E F = some (d, F') →
  (∀ v H', Kp (fpOf G) H H' → FAt G H' F' → DatIs K (hid H' B) d v → Q v H') → te σ H Q
def TEs (K : PySem.W.Frag) (te : TE) (m : DE → M PyData) : Prop := ∀ (G : GF) (B : List Addr) (E : DE) (F : FS) (σ : St) (H : Hp) (Q : VK) (d : PyData) (F' : FS), SitE K G B E F σ H → m E F = some (d, F') →
  (∀ v H', Kp (fpOf G) H H' → FAt G H' F' → DatSh K (fpOf G) B H' d v → Q v H') → te σ H Q
theorem TEd.sh {K : PySem.W.Frag} {te : TE} {m : DE → M PyData} (h : TEd K te m) : TEs K te m := fun G B E F σ H Q d F' I e q => h G B E F σ H Q d F' I e fun v H' k f hd => q v H' k f (sh_of hd I.fB)
def TTd (K : PySem.W.Frag) (tt : TT) (m : DE → M Bool) : Prop := ∀ (G : GF) (B : List Addr) (E : DE) (F : FS) (σ : St) (H : Hp) (Q : Bool → Hp → Prop) (b : Bool) (F' : FS), SitE K G B E F σ H → m E F = some (b, F') →
  (∀ H', Kp (fpOf G) H H' → FAt G H' F' → Q b H') → tt σ H Q
def TAd (K : PySem.W.Frag) (ta : TA) (m : DE → M (List PyData)) : Prop := ∀ (G : GF) (B : List Addr) (E : DE) (F : FS) (σ : St) (H : Hp) (Q : List V → Hp → Prop) (ds : List PyData) (F' : FS), SitE K G B E F σ H → m E F = some (ds, F') →
  (∀ vs H', Kp (fpOf G) H H' → FAt G H' F' → DatsAre K (hid H' B) ds vs → Q vs H') → ta σ H Q
def DatShs (K : PySem.W.Frag) (fp B : List Addr) (H : Hp) : List PyData → List V → Prop
  | [], vs => vs = []
  | d :: ds, vs => ∃ v r, vs = v :: r ∧ DatSh K fp B H d v ∧ DatShs K fp B H ds r
def TAs (K : PySem.W.Frag) (ta : TA) (m : DE → M (List PyData)) : Prop := ∀ (G : GF) (B : List Addr) (E : DE) (F : FS) (σ : St) (H : Hp) (Q : List V → Hp → Prop) (ds : List PyData) (F' : FS), SitE K G B E F σ H → m E F = some (ds, F') →
  (∀ vs H', Kp (fpOf G) H H' → FAt G H' F' → DatShs K (fpOf G) B H' ds vs → Q vs H') → ta σ H Q
structure Ev (K : PySem.W.Frag) (X : Cx) (e : Expr) (te : TE) (m : DE → M PyData) : Prop where
  pe : PE X e te
  ok : TEd K te m
structure Eb (K : PySem.W.Frag) (X : Cx) (e : Expr) (te : TE) (m : DE → M PyData) : Prop where
  pe : PE X e te
  ok : TEs K te m
structure Et (K : PySem.W.Frag) (X : Cx) (e : Expr) (tt : TT) (m : DE → M Bool) : Prop where
  pt : PT X e tt
  ok : TTd K tt m
structure Ew (K : PySem.W.Frag) (X : Cx) (e : Expr) (tt : TT) (m : DE → M Bool) : Prop where
  pw : PW X e tt
  ok : TTd K tt m
structure Ea (K : PySem.W.Frag) (X : Cx) (es : List Expr) (ta : TA) (m : DE → M (List PyData)) : Prop where
  pa : PA X es ta
  ok : TAd K ta m
structure Es (K : PySem.W.Frag) (X : Cx) (es : List Expr) (ta : TA) (m : DE → M (List PyData)) : Prop where
  pa : PA X es ta
  ok : TAs K ta m
variable {K : PySem.W.Frag} {X : Cx} {a b c e : Expr} {es : List Expr} {ta tb tc te : TE} {ma mb mc m : DE → M PyData} {pos : Pos}
theorem Ev.bw (h : Ev K X e te m) : Eb K X e te m := ⟨h.pe, h.ok.sh⟩
def sC (d : PyData) : DE → M PyData := fun _ F => some (d, F)
def sV (i : Nat) : DE → M PyData := fun E F => match E[i]? with
  | some (some (.dat d)) => some (d, F)
  | _ => none
def sW (i : Nat) : DE → M PyData := fun E F => match E[i]? with
  | some (some (.dat d)) => some (d, F)
  | some (some (.own ds)) => some (.list ds, F)
  | _ => none
theorem tc_d {d : PyData} {v : V} (h : ∀ H, DatIs K H d v) : TEd K (tC v) (sC d) := fun G B E F σ H Q d' F' I e q => by
  cases e
  exact q v H Kp.refl I.fd (h _)
theorem ev_int {i j} : Ev K X (.Constant (.int i) j pos) (tC (.int i)) (sC (.int i)) := ⟨pe_int, tc_d fun _ => DatIs.int⟩
theorem ev_bl {x j} : Ev K X (.Constant (.bool x) j pos) (tC (.bl x)) (sC (.bool x)) := ⟨pe_bl, tc_d fun _ => DatIs.bl⟩
theorem ev_non {j} : Ev K X (.Constant .none j pos) (tC .non) (sC .none) := ⟨pe_non, tc_d fun _ => DatIs.non⟩
theorem ev_str {x j} : Ev K X (.Constant (.str x) j pos) (tC (.str x)) (sC (.str x)) := ⟨pe_str, tc_d fun _ => DatIs.st⟩
theorem var_d (i : Nat) : TEd K (tVar i) (sV i) := fun G B E F σ H Q d F' I e q => by
  unfold sV at e
  split at e
  · rename_i x hx
    cases e
    obtain ⟨v, h1, h2⟩ := I.loc i _ hx
    exact ⟨v, h1, q v H Kp.refl I.fd h2⟩
  · cases e
theorem var_s (i : Nat) : TEs K (tVar i) (sW i) := fun G B E F σ H Q d F' I e q => by
  unfold sW at e
  split at e
  · rename_i x hx
    cases e
    obtain ⟨v, h1, h2⟩ := I.loc i _ hx
    exact ⟨v, h1, q v H Kp.refl I.fd (sh_of h2 I.fB)⟩
  · rename_i x hx
    cases e
    obtain ⟨v, h1, h2⟩ := I.loc i _ hx
    refine ⟨v, h1, q v H Kp.refl I.fd ?_⟩
    obtain ⟨p, xs, rfl, hB, hf, hp, hd⟩ := h2
    exact ⟨p, xs, rfl, by rw [hid_out hf]; exact hp, hd⟩
  · cases e
theorem ev_v (i : Nat) {x : Str} (hN : X.N[i]? = some x := by rfl) (hv : Vis X.env.scope x := by first | exact Or.inl rfl | exact Or.inr (Or.inl rfl) | exact Or.inr (Or.inr rfl)) (hd : (x == ("__debug__" : Str)) = false := by decide)
    (hcd : (x == ("__classdict__" : Str)) = false := by decide) : Ev K X (.Name x pos) (tVar i) (sV i) := ⟨pe_var hN hv hd hcd, var_d i⟩
theorem eb_v (i : Nat) {x : Str} (hN : X.N[i]? = some x := by rfl) (hv : Vis X.env.scope x := by first | exact Or.inl rfl | exact Or.inr (Or.inl rfl) | exact Or.inr (Or.inr rfl)) (hd : (x == ("__debug__" : Str)) = false := by decide)
    (hcd : (x == ("__classdict__" : Str)) = false := by decide) : Eb K X (.Name x pos) (tVar i) (sW i) := ⟨pe_var hN hv hd hcd, var_s i⟩
def rD1 (K : PySem.W.Frag) (f : PyData → Option PyData) : V → Hp → VK → Prop := fun x H Q => ∃ fp B d r, BOk H B ∧ DatSh K fp B H d x ∧ f d = some r ∧ ∀ v H', Same H H' → DatIs K (hid H' B) r v → Q v H'
def rD2 (K : PySem.W.Frag) (f : PyData → PyData → Option PyData) : R2 := fun x y H Q => ∃ fp B d e r, BOk H B ∧ DatSh K fp B H d x ∧ DatSh K fp B H e y ∧ f d e = some r ∧ ∀ v H', Same H H' → DatIs K (hid H' B) r v → Q v H'
def rDN (K : PySem.W.Frag) (f : List PyData → Option PyData) : List V → Hp → VK → Prop := fun xs H Q => ∃ fp B ds r, BOk H B ∧ DatShs K fp B H ds xs ∧ f ds = some r ∧ ∀ v H', Same H H' → DatIs K (hid H' B) r v → Q v H'
def s1 (f : PyData → Option PyData) (a : DE → M PyData) : DE → M PyData := fun E F => (a E F).bind fun p => (f p.1).bind fun z => some (z, p.2)
def s2 (f : PyData → PyData → Option PyData) (a b : DE → M PyData) : DE → M PyData := fun E F => (a E F).bind fun p => (b E p.2).bind fun q => (f p.1 q.1).bind fun z => some (z, q.2)
def sN (f : List PyData → Option PyData) (a : DE → M (List PyData)) : DE → M PyData := fun E F => (a E F).bind fun p => (f p.1).bind fun z => some (z, p.2)
theorem op1_d {f : PyData → Option PyData} (ha : TEs K ta ma) : TEd K (tUn (rD1 K f) ta) (s1 f ma) := fun G B E F σ H Q d F' I e q => by
  obtain ⟨⟨x, F1⟩, e1, e⟩ := Option.bind_eq_some_iff.mp e
  obtain ⟨z, e2, e⟩ := Option.bind_eq_some_iff.mp e
  cases e
  refine ha G B E F σ H _ x F1 I e1 fun v H1 k1 f1 h1 => ⟨fpOf G, B, x, _, bok_step I.bk k1 f1, h1, e2, fun w H2 s hw => q w H2 (k1.trans (Kp.same s)) (f1.same s) hw⟩
theorem op2_d {f : PyData → PyData → Option PyData} (ha : TEs K ta ma) (hb : TEs K tb mb) : TEd K (tOp (rD2 K f) ta tb) (s2 f ma mb) := fun G B E F σ H Q d F' I e q => by
  obtain ⟨⟨x, F1⟩, e1, e⟩ := Option.bind_eq_some_iff.mp e
  obtain ⟨⟨y, F2⟩, e2, e⟩ := Option.bind_eq_some_iff.mp e
  obtain ⟨z, e3, e⟩ := Option.bind_eq_some_iff.mp e
  cases e
  refine ha G B E F σ H _ x F1 I e1 fun v H1 k1 f1 h1 => ?_
  refine hb G B E F1 σ H1 _ y F2 (I.step k1 f1) e2 fun w H2 k2 f2 h2 => ⟨fpOf G, B, x, y, _, bok_step I.bk (k1.trans k2) f2, h1.step k2 I.fB, h2, e3, fun u H3 s hu => q u H3 ((k1.trans k2).trans (Kp.same s)) (f2.same s) hu⟩
theorem opN_d {f : List PyData → Option PyData} {t : TA} {ms : DE → M (List PyData)} (ha : TAs K t ms) : TEd K (tCB (rDN K f) t) (sN f ms) := fun G B E F σ H Q d F' I e q => by
  obtain ⟨⟨x, F1⟩, e1, e⟩ := Option.bind_eq_some_iff.mp e
  obtain ⟨z, e2, e⟩ := Option.bind_eq_some_iff.mp e
  cases e
  exact ha G B E F σ H _ x F1 I e1 fun vs H1 k1 f1 h1 => ⟨fpOf G, B, x, _, bok_step I.bk k1 f1, h1, e2, fun w H2 s hw => q w H2 (k1.trans (Kp.same s)) (f1.same s) hw⟩
theorem ev_op {op : Operator} {f : PyData → PyData → Option PyData} (ho : OpR X (binaryOp op) (rD2 K f)) (ha : Eb K X a ta ma) (hb : Eb K X b tb mb) : Ev K X (.BinOp a op b pos) (tOp (rD2 K f) ta tb) (s2 f ma mb) := ⟨pe_op ho ha.pe hb.pe, op2_d ha.ok hb.ok⟩
theorem ev_un {op : UnaryOp} {f : PyData → Option PyData} (ho : UnR X (unaryOp op) (rD1 K f)) (ha : Eb K X a ta ma) : Ev K X (.UnaryOp op a pos) (tUn (rD1 K f) ta) (s1 f ma) := ⟨pe_un ho ha.pe, op1_d ha.ok⟩
theorem ev_cmp {op : CmpOp} {f : PyData → PyData → Option PyData} (ho : OpR X (compareOp op) (rD2 K f)) (ha : Eb K X a ta ma) (hb : Eb K X b tb mb) (hm : behindInMarks op b = false := by first | exact nomark _ | rfl) : Ev K X (.Compare a [op] [b] pos) (tOp (rD2 K f) ta tb) (s2 f ma mb) := ⟨pe_cmpR ho ha.pe hb.pe hm, op2_d ha.ok hb.ok⟩
theorem ev_ix {f : PyData → PyData → Option PyData} (hr : IxR X (rD2 K f)) (ha : Eb K X a ta ma) (hb : Eb K X b tb mb) (hs : PlainIx b := by intro _ _; rfl) : Ev K X (.Subscript a b pos) (tOp (rD2 K f) ta tb) (s2 f ma mb) := ⟨pe_ix hr ha.pe hb.pe hs, op2_d ha.ok hb.ok⟩
theorem ev_callB {f : List PyData → Option PyData} {id : String} {x : Str} {p : Pos} {t : TA} {ms : DE → M (List PyData)} (hc : CallR X (.builtin id) (rDN K f)) (hm : X.mg x = none) (hv : bootBuiltins x = some (.builtin id)) (ha : Es K X (e :: es) t ms) (hg : Gl X x := by rfl) (hn : x ≠ "__name__" := by decide) (hdb : (x == ("__debug__" : Str)) = false := by decide)
    (he : starEach (e :: es) X.env = (false, eval e X.env) :: starEach es X.env := by rfl) (hpl : (backTo pos (starEach es X.env)).any (·.1) = false := by rfl) : Ev K X (.Call (.Name x p) (e :: es) [] pos) (tCB (rDN K f) t) (sN f ms) := ⟨pe_callB hc hg hm hv ha.pa hn hdb he hpl, opN_d ha.ok⟩
theorem ev_callT {f : List PyData → Option PyData} {T : String} {x : Str} {p : Pos} {t : TA} {ms : DE → M (List PyData)} (hc : CallR X (.type T) (rDN K f)) (hm : X.mg x = none) (hv : bootBuiltins x = some (.type T)) (ha : Es K X (e :: es) t ms) (hg : Gl X x := by rfl) (hn : x ≠ "__name__" := by decide) (hdb : (x == ("__debug__" : Str)) = false := by decide)
    (he : starEach (e :: es) X.env = (false, eval e X.env) :: starEach es X.env := by rfl) (hpl : (backTo pos (starEach es X.env)).any (·.1) = false := by rfl) : Ev K X (.Call (.Name x p) (e :: es) [] pos) (tCB (rDN K f) t) (sN f ms) := ⟨pe_callTy hc hg hm hv ha.pa hn hdb he hpl, opN_d ha.ok⟩
def sNil : DE → M (List PyData) := fun _ F => some ([], F)
def sCons (a : DE → M PyData) (r : DE → M (List PyData)) : DE → M (List PyData) := fun E F => (a E F).bind fun p => (r E p.2).bind fun q => some (p.1 :: q.1, q.2)
theorem ea_nil : Ea K X [] tNil sNil := ⟨pa_nil, fun G B E F σ H Q ds F' I e q => by cases e; exact q [] H Kp.refl I.fd DatsAre.nil⟩
theorem ea_cons {t : TA} {ms : DE → M (List PyData)} (ha : Ev K X e te m) (hr : Ea K X es t ms) (hs : starEach (e :: es) X.env = (false, eval e X.env) :: starEach es X.env := by rfl) : Ea K X (e :: es) (tCons te t) (sCons m ms) :=
  ⟨pa_cons ha.pe hr.pa hs, fun G B E F σ H Q ds F' I e q => by
    obtain ⟨⟨x, F1⟩, e1, e⟩ := Option.bind_eq_some_iff.mp e
    obtain ⟨⟨ys, F2⟩, e2, e⟩ := Option.bind_eq_some_iff.mp e
    cases e
    refine ha.ok G B E F σ H _ x F1 I e1 fun v H1 k1 f1 h1 => ?_
    refine hr.ok G B E F1 σ H1 _ ys F2 (I.step k1 f1) e2 fun vs H2 k2 f2 h2 => q _ H2 (k1.trans k2) f2 (.cons (h1.same (k2.hid I.fB)) h2)⟩
theorem es_nil : Es K X [] tNil sNil := ⟨pa_nil, fun G B E F σ H Q ds F' I e q => by cases e; exact q [] H Kp.refl I.fd rfl⟩
theorem es_cons {t : TA} {ms : DE → M (List PyData)} (ha : Eb K X e te m) (hr : Es K X es t ms) (hs : starEach (e :: es) X.env = (false, eval e X.env) :: starEach es X.env := by rfl) : Es K X (e :: es) (tCons te t) (sCons m ms) :=
  ⟨pa_cons ha.pe hr.pa hs, fun G B E F σ H Q ds F' I e q => by
    obtain ⟨⟨x, F1⟩, e1, e⟩ := Option.bind_eq_some_iff.mp e
    obtain ⟨⟨ys, F2⟩, e2, e⟩ := Option.bind_eq_some_iff.mp e
    cases e
    refine ha.ok G B E F σ H _ x F1 I e1 fun v H1 k1 f1 h1 => ?_
    refine hr.ok G B E F1 σ H1 _ ys F2 (I.step k1 f1) e2 fun vs H2 k2 f2 h2 => q _ H2 (k1.trans k2) f2 ⟨v, vs, rfl, h1.step k2 I.fB, h2⟩⟩
def sTup (a : DE → M (List PyData)) : DE → M PyData := fun E F => (a E F).bind fun p => if p.1.length ≤ sizeLine then some (.tuple p.1, p.2) else none
def sLst (a : DE → M (List PyData)) : DE → M PyData := fun E F => (a E F).bind fun p => if p.1.length ≤ sizeLine then some (.list p.1, p.2) else none
theorem ev_tup {k} {t : TA} {ms : DE → M (List PyData)} (h : Ea K X es t ms) : Ev K X (.Tuple es k pos) (tTup t) (sTup ms) := ⟨pe_tup h.pa, fun G B E F σ H Q d F' I e q => by
  obtain ⟨⟨x, F1⟩, e1, e⟩ := Option.bind_eq_some_iff.mp e
  split at e
  · rename_i hl
    cases e
    refine h.ok G B E F σ H _ x F1 I e1 fun vs H1 k1 f1 h1 => ⟨by rw [h1.length]; exact hl, fun p hp => q _ _ (k1.trans (Kp.upd hp)) (f1.same (Same.upd hp)) (new_tup (bok_step I.bk k1 f1) hp h1)⟩
  · cases e⟩
theorem ev_lst {t : TA} {ms : DE → M (List PyData)} (h : Ea K X es t ms) : Ev K X (.List es pos) (tLst t) (sLst ms) := ⟨pe_lst h.pa, fun G B E F σ H Q d F' I e q => by
  obtain ⟨⟨x, F1⟩, e1, e⟩ := Option.bind_eq_some_iff.mp e
  split at e
  · rename_i hl
    cases e
    refine h.ok G B E F σ H _ x F1 I e1 fun vs H1 k1 f1 h1 => ⟨by rw [h1.length]; exact hl, fun p hp => q _ _ (k1.trans (Kp.upd hp)) (f1.same (Same.upd hp)) (new_lst (bok_step I.bk k1 f1) hp h1)⟩
  · cases e⟩
def boolOf : PyData → Option Bool
  | .bool b => some b
  | _ => none
theorem boolOf_some {d : PyData} {b : Bool} (h : boolOf d = some b) : d = .bool b := by
  cases d <;> simp [boolOf] at h
  rw [h]
def sAnd (a b : DE → M PyData) : DE → M PyData := fun E F => (a E F).bind fun p => (boolOf p.1).bind fun c => if c = true then b E p.2 else some (.bool false, p.2)
def sNot (a : DE → M PyData) : DE → M PyData := fun E F => (a E F).bind fun p => (boolOf p.1).bind fun c => some (.bool (!c), p.2)
theorem ev_one {op} (h : Ev K X a te m) : Ev K X (.BoolOp op [a] pos) te m := ⟨pe_one h.pe, h.ok⟩
theorem ev_and {rest : List Expr} (ha : Ev K X a ta ma) (hb : Ev K X (.BoolOp .And (b :: rest) pos) tb mb) : Ev K X (.BoolOp .And (a :: b :: rest) pos) (tAndV ta tb) (sAnd ma mb) := ⟨pe_and ha.pe hb.pe, fun G B E F σ H Q d F' I e q => by
  obtain ⟨⟨x, F1⟩, e1, e⟩ := Option.bind_eq_some_iff.mp e
  obtain ⟨c, e2, e⟩ := Option.bind_eq_some_iff.mp e
  refine ha.ok G B E F σ H _ x F1 I e1 fun v H1 k1 f1 h1 => ?_
  have := boolOf_some e2
  simp only at this
  subst this
  simp only [DatIs] at h1
  refine ⟨c, h1, ?_⟩
  cases c with
  | true => exact hb.ok G B E F1 σ H1 _ d F' (I.step k1 f1) e fun w H2 k2 f2 h2 => q w H2 (k1.trans k2) f2 h2
  | false => cases e; exact q _ H1 k1 f1 DatIs.bl⟩
theorem ev_not (ha : Ev K X a ta ma) : Ev K X (.UnaryOp .Not a pos) (tNotV ta) (sNot ma) := ⟨pe_not ha.pe, fun G B E F σ H Q d F' I e q => by
  obtain ⟨⟨x, F1⟩, e1, e⟩ := Option.bind_eq_some_iff.mp e
  obtain ⟨c, e2, e⟩ := Option.bind_eq_some_iff.mp e
  cases e
  refine ha.ok G B E F σ H _ x F1 I e1 fun v H1 k1 f1 h1 => ?_
  have := boolOf_some e2
  simp only at this
  subst this
  simp only [DatIs] at h1
  exact ⟨_, h1, q _ H1 k1 f1 DatIs.bl⟩⟩
def sIf (c : DE → M Bool) (a b : DE → M PyData) : DE → M PyData := fun E F => (c E F).bind fun p => if p.1 = true then a E p.2 else b E p.2
theorem ev_if {tt : TT} {mt : DE → M Bool} (hc : Et K X c tt mt) (ha : Ev K X a ta ma) (hb : Ev K X b tb mb) : Ev K X (.IfExp c a b pos) (tIf tt ta tb) (sIf mt ma mb) := ⟨pe_ifExp hc.pt ha.pe hb.pe, fun G B E F σ H Q d F' I e q => by
  obtain ⟨⟨x, F1⟩, e1, e⟩ := Option.bind_eq_some_iff.mp e
  refine hc.ok G B E F σ H _ x F1 I e1 fun H1 k1 f1 => ?_
  cases x with
  | true => exact ha.ok G B E F1 σ H1 _ d F' (I.step k1 f1) e fun w H2 k2 f2 h2 => q w H2 (k1.trans k2) f2 h2
  | false => exact hb.ok G B E F1 σ H1 _ d F' (I.step k1 f1) e fun w H2 k2 f2 h2 => q w H2 (k1.trans k2) f2 h2⟩
variable {tA tB : TT} {na nb : DE → M Bool}
def uB (a : DE → M PyData) : DE → M Bool := fun E F => (a E F).bind fun p => (boolOf p.1).bind fun c => some (c, p.2)
def uAnd (a b : DE → M Bool) : DE → M Bool := fun E F => (a E F).bind fun p => if p.1 = true then b E p.2 else some (false, p.2)
def uOr (a b : DE → M Bool) : DE → M Bool := fun E F => (a E F).bind fun p => if p.1 = true then some (true, p.2) else b E p.2
def uNot (a : DE → M Bool) : DE → M Bool := fun E F => (a E F).bind fun p => some (!p.1, p.2)
theorem et_cmp {op : CmpOp} {f : PyData → PyData → Option PyData} (ho : OpR X (compareOp op) (rD2 K f)) (ha : Eb K X a ta ma) (hb : Eb K X b tb mb) (hm : behindInMarks op b = false := by first | exact nomark _ | rfl) : Et K X (.Compare a [op] [b] pos) (tTest (tOp (rD2 K f) ta tb)) (uB (s2 f ma mb)) :=
  ⟨pt_cmpR ho ha.pe hb.pe hm, fun G B E F σ H Q d F' I e q => by
    obtain ⟨⟨x, F1⟩, e1, e⟩ := Option.bind_eq_some_iff.mp e
    obtain ⟨c, e2, e⟩ := Option.bind_eq_some_iff.mp e
    cases e
    refine op2_d ha.ok hb.ok G B E F σ H _ x F1 I e1 fun v H1 k1 f1 h1 => ?_
    have := boolOf_some e2
    simp only at this
    subst this
    simp only [DatIs] at h1
    exact ⟨_, h1, q H1 k1 f1⟩⟩
theorem ew_and1 (ha : Et K X a tA na) : Ew K X (.BoolOp .And [a] pos) tA na := ⟨pw_and1 ha.pt, ha.ok⟩
theorem ew_or1 (ha : Et K X a tA na) : Ew K X (.BoolOp .Or [a] pos) tA na := ⟨pw_or1 ha.pt, ha.ok⟩
theorem ew_and {rest : List Expr} (ha : Et K X a tA na) (hb : Ew K X (.BoolOp .And (b :: rest) pos) tB nb) : Ew K X (.BoolOp .And (a :: b :: rest) pos) (tAnd tA tB) (uAnd na nb) := ⟨pw_and ha.pt hb.pw, fun G B E F σ H Q d F' I e q => by
  obtain ⟨⟨x, F1⟩, e1, e⟩ := Option.bind_eq_some_iff.mp e
  refine ha.ok G B E F σ H _ x F1 I e1 fun H1 k1 f1 => ?_
  cases x with
  | true => exact hb.ok G B E F1 σ H1 _ d F' (I.step k1 f1) e fun H2 k2 f2 => q H2 (k1.trans k2) f2
  | false => cases e; exact q H1 k1 f1⟩
theorem ew_or {rest : List Expr} (ha : Et K X a tA na) (hb : Ew K X (.BoolOp .Or (b :: rest) pos) tB nb) : Ew K X (.BoolOp .Or (a :: b :: rest) pos) (tOr tA tB) (uOr na nb) := ⟨pw_or ha.pt hb.pw, fun G B E F σ H Q d F' I e q => by
  obtain ⟨⟨x, F1⟩, e1, e⟩ := Option.bind_eq_some_iff.mp e
  refine ha.ok G B E F σ H _ x F1 I e1 fun H1 k1 f1 => ?_
  cases x with
  | false => exact hb.ok G B E F1 σ H1 _ d F' (I.step k1 f1) e fun H2 k2 f2 => q H2 (k1.trans k2) f2
  | true => cases e; exact q H1 k1 f1⟩
theorem Ew.t (h : Ew K X a tA na) : Et K X a tA na := ⟨h.pw.pt, h.ok⟩
theorem et_not (ha : Et K X a tA na) : Et K X (.UnaryOp .Not a pos) (tNot tA) (uNot na) := ⟨pt_not ha.pt, fun G B E F σ H Q d F' I e q => by
  obtain ⟨⟨x, F1⟩, e1, e⟩ := Option.bind_eq_some_iff.mp e
  cases e
  exact ha.ok G B E F σ H _ x F1 I e1 fun H1 k1 f1 => q H1 k1 f1⟩
def truD : PyData → Option Bool
  | .none => some false
  | .bool b => some b
  | .int i => some (i != 0)
  | .str x => if x.length ≤ sizeLine then some ((x.length : Int) != 0) else none
  | .tuple ds => some (!ds.isEmpty)
  | .list ds => some (!ds.isEmpty)
  | .dict _ => none
def uT (a : DE → M PyData) : DE → M Bool := fun E F => (a E F).bind fun p => (truD p.1).bind fun c => some (c, p.2)
theorem isEmpty_dats {H : Hp} {ds : List PyData} {xs : List V} (h : DatsAre K H ds xs) : xs.isEmpty = ds.isEmpty := by
  cases ds with
  | nil => simp only [DatsAre] at h; subst h; rfl
  | cons d r => simp only [DatsAre] at h; obtain ⟨x, r, rfl, _⟩ := h; rfl
theorem tru_of {fp B : List Addr} {H : Hp} {d : PyData} {v : V} {c : Bool} (h : DatSh K fp B H d v) (e : truD d = some c) : TruV K v H c := by
  cases d with
  | none => cases h; cases e; rfl
  | bool b => cases h; cases e; rfl
  | int i => cases h; cases e; rfl
  | str x =>
    cases h
    simp only [truD] at e
    split at e
    · rename_i hl; cases e; exact ⟨hl, rfl⟩
    · cases e
  | tuple ds =>
    obtain ⟨p, xs, rfl, hq, hd⟩ := h
    cases e
    exact .inr (.inl ⟨xs, hq.same hid_same, by rw [isEmpty_dats hd]⟩)
  | list ds =>
    obtain ⟨p, xs, rfl, hq, hd⟩ := h
    cases e
    exact .inl ⟨xs, SqL.of (hid_same _ _ hq), by rw [isEmpty_dats hd]⟩
  | dict kvs => exact (show False from h).elim
theorem et_val (ha : Eb K X a ta ma) (hK : X.K = K := by rfl) (he : ∀ whole, isTrue a X.env whole = (do let v ← whole; standAt a.pos; holding [v] (truthy v)) := by intro _; rfl) :
    Et K X a (fun σ H Q => ta σ H fun x H' => ∃ k, TruV K x H' k ∧ Q k H') (uT ma) := ⟨pt_truthK hK ha.pe he, fun G B E F σ H Q d F' I e q => by
  obtain ⟨⟨x, F1⟩, e1, e⟩ := Option.bind_eq_some_iff.mp e
  obtain ⟨c, e2, e⟩ := Option.bind_eq_some_iff.mp e
  cases e
  exact ha.ok G B E F σ H _ x F1 I e1 fun v H1 k1 f1 h1 => ⟨_, tru_of h1 e2, q H1 k1 f1⟩⟩
end
end L3
set_option Elab.async false
set_option linter.all false
set_option maxRecDepth 100000
set_option maxHeartbeats 4000000
namespace L3
open PySem PySem.Spec PyProof.Rows L2
section
variable {K : PySem.W.Frag} {X : Cx}
theorem shs1 {fp B : List Addr} {H : Hp} {ds : List PyData} {d : PyData} {vs : List V} (h : DatShs K fp B H ds vs) (e : ds = [d]) : ∃ v, vs = [v] ∧ DatSh K fp B H d v := by
  subst e
  obtain ⟨v, r, rfl, h1, h2⟩ := h
  cases h2
  exact ⟨v, rfl, h1⟩
def i2 (C : Int → Int → Prop) [∀ i j, Decidable (C i j)] (g : Int → Int → PyData) : PyData → PyData → Option PyData
  | .int i, .int j => if C i j then some (g i j) else none
  | _, _ => none
theorem i2_some {C : Int → Int → Prop} [∀ i j, Decidable (C i j)] {g : Int → Int → PyData} {d e r : PyData} (h : i2 C g d e = some r) : ∃ i j, d = .int i ∧ e = .int j ∧ C i j ∧ r = g i j := by
  cases d <;> cases e <;> simp only [i2] at h <;> try cases h
  split at h
  · rename_i hc; cases h; exact ⟨_, _, rfl, rfl, hc, rfl⟩
  · cases h
theorem opI_d {f : Value → Value → Sem Value} {C : Int → Int → Prop} [∀ i j, Decidable (C i j)] {g : Int → Int → V} {gd : Int → Int → PyData} (ho : OpR X f (rI C g)) (hg : ∀ H i j, DatIs K H (gd i j) (g i j)) : OpR X f (rD2 K (i2 C gd)) := by
  intro pins s σ H x y v u Q I rx ry h
  obtain ⟨fp, B, d, e, r, bk, h1, h2, hf, q⟩ := h
  obtain ⟨i, j, rfl, rfl, hc, rfl⟩ := i2_some hf
  cases h1
  cases h2
  exact ho pins s σ H _ _ v u Q I rx ry ⟨i, j, rfl, rfl, hc, q _ H (Same.refl H) (hg _ i j)⟩
theorem opI0_d {f : Value → Value → Sem Value} {g : Int → Int → V} {gd : Int → Int → PyData} (ho : OpR X f (rI0 g)) (hg : ∀ H i j, DatIs K H (gd i j) (g i j)) : OpR X f (rD2 K (i2 (fun _ _ => True) gd)) := by
  intro pins s σ H x y v u Q I rx ry h
  obtain ⟨fp, B, d, e, r, bk, h1, h2, hf, q⟩ := h
  obtain ⟨i, j, rfl, rfl, hc, rfl⟩ := i2_some hf
  cases h1
  cases h2
  exact ho pins s σ H _ _ v u Q I rx ry ⟨i, j, rfl, rfl, q _ H (Same.refl H) (hg _ i j)⟩
abbrev subD := i2 (fun _ _ => True) fun i j => .int (i - j)
theorem od_sub : OpR X (binaryOp .Sub) (rD2 K subD) := opI0_d op_sub fun _ _ _ => DatIs.int
instance : ∀ i j, Decidable (CPow i j) := fun i j => inferInstanceAs (Decidable (_ ∧ _ ∧ _))
instance : ∀ i j, Decidable (CMul i j) := fun i j => inferInstanceAs (Decidable ((_ ∧ _) ∨ (_ ∧ _)))
abbrev modD := i2 (fun _ j => 0 < j) fun i j => .int (i % j)
theorem od_mod : OpR X (binaryOp .Mod) (rD2 K modD) := opI_d op_mod fun _ _ _ => DatIs.int
def CDivB (i j : Int) : Prop := j ≠ 0 ∧ j.natAbs < 2 ^ 9000
instance {i j : Int} : Decidable (CDivB i j) := inferInstanceAs (Decidable (_ ∧ _))
@[irreducible] def bigN : Nat := 2 ^ 400000
theorem bigN_eq : bigN = 2 ^ 400000 := by unfold bigN; rfl
theorem bigN_ge {n : Nat} (h : n ≤ 400000) : 2 ^ n ≤ bigN := by rw [bigN_eq]; exact Nat.pow_le_pow_right (by decide) h
def Big (i j : Int) : Prop := CMul i j ∨ (i.natAbs < bigN ∧ j.natAbs < bigN)
instance {i j : Int} : Decidable (Big i j) := inferInstanceAs (Decidable (_ ∨ _))
theorem bits_le {n : Nat} {i : Int} (h : i.natAbs < 2 ^ n) : Builtin.Int.intBits i ≤ n := by
  unfold Builtin.Int.intBits
  split
  · exact Nat.zero_le _
  · rename_i h0
    have h0 : i.natAbs ≠ 0 := fun z => h0 (by simpa using z)
    exact (Nat.log2_lt h0).mpr h
theorem Big.ok {i j : Int} (h : Big i j) : IntMulOk i j := by
  rcases h with h | ⟨h1, h2⟩
  · exact h.ok
  · unfold IntMulOk
    have e : Builtin.Int.intTooBig ((Builtin.Int.intBits i : Int) + Builtin.Int.intBits j) = false := by
      unfold Builtin.Int.intTooBig
      rw [bigN_eq] at h1 h2
      have a := bits_le h1
      have b := bits_le h2
      have c : (bitsLine : Nat) = 134217728 := by decide
      refine decide_eq_false ?_
      rw [c]
      omega
    rw [e, Bool.and_false]
    exact Bool.false_ne_true
theorem op_mulB : OpR X (binaryOp .Mult) (rI Big fun i j => .int (i * j)) := opI fun _ _ _ _ _ _ _ hc q => mul_int q hc.ok
theorem op_fdivB : OpR X (binaryOp .FloorDiv) (rI CDivB fun i j => .int (i.fdiv j)) := opI fun i j _ _ _ _ _ hc q => by
  have h0 : j.natAbs ≠ 0 := fun z => hc.1 (Int.natAbs_eq_zero.mp z)
  exact floordiv_int hc.1 q (.inl (PyProof.noPylong_of_log2 ((Nat.log2_lt h0).mpr hc.2)))
abbrev fdivD := i2 CDivB fun i j => .int (i.fdiv j)
theorem od_fdiv : OpR X (binaryOp .FloorDiv) (rD2 K fdivD) := opI_d op_fdivB fun _ _ _ => DatIs.int
abbrev ltD := i2 (fun _ _ => True) fun i j => .bool (decide (i < j))
abbrev gtD := i2 (fun _ _ => True) fun i j => .bool (decide (j < i))
theorem od_lt : OpR X (compareOp .Lt) (rD2 K ltD) := opI0_d op_lt fun _ _ _ => DatIs.bl
theorem od_gt : OpR X (compareOp .Gt) (rD2 K gtD) := opI0_d op_gt fun _ _ _ => DatIs.bl
def addD : PyData → PyData → Option PyData
  | .int i, .int j => some (.int (i + j))
  | .str x, .str y => if x.length + y.length ≤ sizeLine then some (.str (x ++ y)) else none
  | .tuple xs, .tuple ys => if xs.length + ys.length ≤ sizeLine then some (.tuple (xs ++ ys)) else none
  | .list xs, .list ys => if xs.length + ys.length ≤ sizeLine then some (.list (xs ++ ys)) else none
  | _, _ => none
theorem DatsAre.nil_of {H : Hp} {ds : List PyData} {xs : List V} (h : DatsAre K H ds xs) (e : xs = []) : ds = [] := by
  subst e; exact List.length_eq_zero_iff.mp (by rw [← h.length]; rfl)
theorem od_add (hK : X.K = K) : OpR X (binaryOp .Add) (rD2 K addD) := by
  intro pins s σ H x y v u Q I rx ry h
  obtain ⟨fp, B, d, e, r, bk, h1, h2, hf, q⟩ := h
  cases d <;> cases e <;> simp only [addD] at hf <;> try cases hf
  · cases h1
    cases h2
    exact op_add pins s σ H _ _ v u Q I rx ry ⟨_, _, rfl, rfl, q _ H (Same.refl H) DatIs.int⟩
  · cases h1
    cases h2
    split at hf
    · rename_i hl
      cases hf
      exact op_add_str pins s σ H _ _ v u Q I rx ry ⟨_, _, rfl, rfl, hl, q _ H (Same.refl H) DatIs.st⟩
    · cases hf
  · obtain ⟨a, xs, rfl, ha, hd⟩ := h1
    obtain ⟨b, ys, rfl, hb, he⟩ := h2
    split at hf
    · rename_i hl
      cases hf
      refine op_cat pins s σ H _ _ v u Q I rx ry ⟨a, b, xs, ys, rfl, rfl, hid_same _ _ ha, hid_same _ _ hb, by rw [hd.length, he.length]; exact hl, fun p hp => q _ _ (Same.upd hp) (new_lst bk hp (DatsAre.append he hd))⟩
    · cases hf
  · obtain ⟨a, xs, rfl, ha, hd⟩ := h1
    obtain ⟨b, ys, rfl, hb, he⟩ := h2
    split at hf
    · rename_i hl
      cases hf
      refine op_catA hK pins s σ H _ _ v u Q I rx ry ⟨a, b, xs, ys, rfl, rfl, ha.same hid_same, hb.same hid_same, by rw [hd.length, he.length]; exact hl, fun z => q _ H (Same.refl H) ?_, fun z => q _ H (Same.refl H) ?_, fun p hp => q _ _ (Same.upd hp) (new_tup bk hp (DatsAre.append he hd))⟩
      · cases DatsAre.nil_of hd z
        simp only [DatIs, List.nil_append]
        exact ⟨b, ys, rfl, hb, he⟩
      · cases DatsAre.nil_of he z
        simp only [DatIs, List.append_nil]
        exact ⟨a, xs, rfl, ha, hd⟩
    · cases hf
def mulD : PyData → PyData → Option PyData
  | .int i, .int j => if Big i j then some (.int (i * j)) else none
  | .list xs, .int k => if -(2 ^ 63) ≤ k ∧ k < 2 ^ 63 ∧ xs.length * k.toNat ≤ sizeLine then some (.list (List.replicate k.toNat xs).flatten) else none
  | _, _ => none
theorem DatsAre.rep {H : Hp} {ds : List PyData} {xs : List V} (h : DatsAre K H ds xs) : ∀ n, DatsAre K H (List.replicate n ds).flatten (List.replicate n xs).flatten
  | 0 => DatsAre.nil
  | n + 1 => by
    rw [List.replicate_succ, List.replicate_succ, List.flatten_cons, List.flatten_cons]
    exact DatsAre.append (DatsAre.rep h n) h
theorem od_mul : OpR X (binaryOp .Mult) (rD2 K mulD) := by
  intro pins s σ H x y v u Q I rx ry h
  obtain ⟨fp, B, d, e, r, bk, h1, h2, hf, q⟩ := h
  cases d <;> cases e <;> simp only [mulD] at hf <;> try cases hf
  · cases h1
    cases h2
    split at hf
    · rename_i hc
      cases hf
      exact op_mulB pins s σ H _ _ v u Q I rx ry ⟨_, _, rfl, rfl, hc, q _ H (Same.refl H) DatIs.int⟩
    · cases hf
  · obtain ⟨a, xs, rfl, ha, hd⟩ := h1
    cases h2
    split at hf
    · rename_i hc
      cases hf
      exact op_rep pins s σ H _ _ v u Q I rx ry ⟨a, _, xs, rfl, rfl, hid_same _ _ ha, hc.1, hc.2.1, by rw [hd.length]; exact hc.2.2, fun p hp => q _ _ (Same.upd hp) (new_lst bk hp (DatsAre.rep hd _))⟩
    · cases hf
open PySem.SeqAt in
def eqD (neg : Bool) : PyData → PyData → Option PyData
  | .str x, .str y => some (.bool (if neg then !decide (x = y) else decide (x = y)))
  | d, e => if shaped d = true ∧ shaped e = true then some (.bool (if neg then !PyData.eqv d e else PyData.eqv d e)) else none
theorem od_eq (hK : X.K = K) (hu : X.A.units + 64 < cLine) : OpR X (compareOp .Eq) (rD2 K (eqD false)) := by
  subst hK
  intro pins s σ H x y v u Q I rx ry h
  obtain ⟨fp, B, d, e, r, bk, h1, h2, hf, q⟩ := h
  unfold eqD at hf
  split at hf
  · cases hf
    cases h1
    cases h2
    have z := q _ H (Same.refl H) DatIs.bl
    rename_i a b
    have e : decide (V.str a = V.str b) = decide (a = b) := by simp
    exact op_eq pins s σ H _ _ v u Q I rx ry ⟨rfl, by rw [e]; exact z⟩
  · split at hf
    · rename_i hs
      cases hf
      obtain ⟨as, ra⟩ := reads_of I _ x v h1.dat rx
      obtain ⟨bs, rb⟩ := reads_of I _ y u h2.dat ry
      exact eq_dataH ra rb hs.1 hs.2 hu ⟨.bl _, H, I, rfl, q _ H (Same.refl H) DatIs.bl⟩
    · cases hf
theorem od_ne (hK : X.K = K) (hu : X.A.units + 64 < cLine) : OpR X (compareOp .NotEq) (rD2 K (eqD true)) := by
  subst hK
  intro pins s σ H x y v u Q I rx ry h
  obtain ⟨fp, B, d, e, r, bk, h1, h2, hf, q⟩ := h
  unfold eqD at hf
  split at hf
  · cases hf
    cases h1
    cases h2
    have z := q _ H (Same.refl H) DatIs.bl
    rename_i a b
    have e : decide (V.str a = V.str b) = decide (a = b) := by simp
    exact op_ne pins s σ H _ _ v u Q I rx ry ⟨rfl, by rw [e]; exact z⟩
  · split at hf
    · rename_i hs
      cases hf
      obtain ⟨as, ra⟩ := reads_of I _ x v h1.dat rx
      obtain ⟨bs, rb⟩ := reads_of I _ y u h2.dat ry
      exact ne_dataH ra rb hs.1 hs.2 hu ⟨.bl _, H, I, rfl, q _ H (Same.refl H) DatIs.bl⟩
    · cases hf
end
end L3
set_option Elab.async false
set_option linter.all false
set_option maxRecDepth 100000
set_option maxHeartbeats 4000000
namespace L3
open PySem PySem.Spec PyProof.Rows L2
section
variable {K : PySem.W.Frag} {X : Cx}
theorem DatsAre.at {H : Hp} {ds : List PyData} {xs : List V} {i : Int} {d : PyData} (h : DatsAre K H ds xs) (e : atI ds i = some d) : ∃ v, atI xs i = some v ∧ DatIs K H d v := by
  unfold atI at e ⊢
  rw [h.length]
  cases q : ixN ds.length i with
  | none => rw [q] at e; cases e
  | some j =>
    rw [q] at e
    have e : ds[j]? = some d := e
    obtain ⟨hj, _⟩ := List.getElem?_eq_some_iff.mp e
    have hx : xs[j]? = some (xs[j]'(by rw [h.length]; exact hj)) := by simp
    obtain ⟨d', h1, h2⟩ := h.get hx
    rw [e] at h1; cases h1
    exact ⟨_, hx, h2⟩
def ixD : PyData → PyData → Option PyData
  | .list ds, .int i => atI ds i
  | .tuple ds, .int i => atI ds i
  | .str x, .int i => if x.length ≤ sizeLine then (atI x.cps.toList i).map fun c => .str ⟨#[c]⟩ else none
  | _, _ => none
theorem id_ix (hK : X.K = K) : IxR X (rD2 K ixD) := by
  intro value slice pins s σ H x y v u Q I rx ry h hs
  obtain ⟨fp, B, d, e, r, bk, h1, h2, hf, q⟩ := h
  cases d <;> cases e <;> simp only [ixD] at hf <;> try cases hf
  · cases h1
    cases h2
    split at hf
    · rename_i hl
      obtain ⟨c, e1, rfl⟩ := Option.map_eq_some_iff.mp hf
      exact ix_str value slice pins s σ H _ _ v u Q I rx ry ⟨_, _, c, rfl, rfl, hl, e1, q _ H (Same.refl H) DatIs.st⟩ hs
    · cases hf
  · obtain ⟨a, xs, rfl, ha, hd⟩ := h1
    cases h2
    obtain ⟨w, e1, e2⟩ := DatsAre.at hd hf
    exact ix_listK hK value slice pins s σ H _ _ v u Q I rx ry ⟨a, xs, _, w, rfl, rfl, SqL.of (hid_same _ _ ha), e1, q w H (Same.refl H) e2⟩ hs
  · obtain ⟨a, xs, rfl, ha, hd⟩ := h1
    cases h2
    obtain ⟨w, e1, e2⟩ := DatsAre.at hd hf
    exact ix_tupK hK value slice pins s σ H _ _ v u Q I rx ry ⟨a, xs, _, w, rfl, rfl, ha.same hid_same, e1, q w H (Same.refl H) e2⟩ hs
def cutL {α : Type} (xs : List α) (lo hi : Option Int) : List α := (xs.drop (HT.sIx xs.length 0 lo)).take (HT.sIx xs.length xs.length hi - HT.sIx xs.length 0 lo)
def cutD (lo hi : Option Int) : PyData → Option PyData
  | .list ds => some (.list (cutL ds lo hi))
  | .tuple ds => some (.tuple (cutL ds lo hi))
  | .str x => if x.length ≤ sizeLine then some (.str (Txt.slice x lo hi)) else none
  | _ => none
theorem DatsAre.drop {H : Hp} : ∀ {ds : List PyData} {xs : List V} (n : Nat), DatsAre K H ds xs → DatsAre K H (ds.drop n) (xs.drop n)
  | ds, xs, 0, h => h
  | [], xs, n + 1, h => by simp only [DatsAre] at h; subst h; simp [DatsAre]
  | d :: ds, xs, n + 1, h => by
    simp only [DatsAre] at h
    obtain ⟨y, r, rfl, h1, h2⟩ := h
    simp only [List.drop_succ_cons]
    exact DatsAre.drop n h2
theorem DatsAre.cut {H : Hp} {ds : List PyData} {xs : List V} (h : DatsAre K H ds xs) (lo hi : Option Int) : DatsAre K H (cutL ds lo hi) (cutV xs lo hi) := by
  unfold cutL cutV
  rw [h.length]
  exact DatsAre.take _ (DatsAre.drop _ h)
def rSlD (K : PySem.W.Frag) : V → Option Int → Option Int → Hp → VK → Prop := fun x lo hi H Q => ∃ fp B d r, BOk H B ∧ DatSh K fp B H d x ∧ cutD lo hi d = some r ∧ ∀ v H', Same H H' → DatIs K (hid H' B) r v → Q v H'
theorem part_of {v : Value} {o : Option Int} (h : IsPart v o) : ∃ p : Option (Int × Tok), v = partValue p ∧ p.map (·.1) = o := by
  cases h with
  | none => exact ⟨none, rfl, rfl⟩
  | int i t => exact ⟨some (i, t), rfl, rfl⟩
theorem sd_cut (hK : X.K = K) : SlR X (rSlD K) := by
  intro pins s σ H x v vl vu lo hi sl Q I rx hs pl pu h
  obtain ⟨fp, B, d, r, bk, h1, hf, q⟩ := h
  cases d <;> simp only [cutD] at hf <;> try cases hf
  · rename_i x0
    cases h1
    split at hf
    · rename_i hl
      cases hf
      obtain ⟨t, rfl⟩ := rx
      obtain ⟨l, rfl, rfl⟩ := part_of pl
      obtain ⟨m, rfl, rfl⟩ := part_of pu
      refine ⟨"str", _, F.slot_str_getitem.lookup, typeIs_str _ _ _, getItem_meets (typeIs_str _ _ _) (by decide) F.slot_str_getitem F.entry_str_getitem (F.args_str_getitem_2 _ _) (meets_str_getitem_slice _ t sl l m none rfl) ⟨hs, ?_⟩⟩
      have z := q _ H (Same.refl H) DatIs.st
      unfold sliceMade
      unfold Txt.slice at z
      have e : slicePicked x0 l m none = Builtin.Str.strSliceIndices (l.map (·.1)) (m.map (·.1)) 1 x0.length := rfl
      rw [e]
      simp only [Option.map_none, Option.getD_none]
      split
      · rename_i hc
        rw [if_pos hc] at z
        exact ⟨.str x0, H, I, ⟨t, rfl⟩, z⟩
      · rename_i hc
        rw [if_neg hc] at z
        refine ⟨?_, ⟨.str _, H, I.tok _, ⟨_, rfl⟩, z⟩⟩
        have := Txt.slice_le x0 (l.map (·.1)) (m.map (·.1))
        unfold Txt.slice at this
        rw [if_neg hc] at this
        exact Nat.le_trans this hl
    · cases hf
  · obtain ⟨a, xs, rfl, ha, hd⟩ := h1
    subst hK
    exact sl_list pins s σ H _ v vl vu lo hi sl Q I rx hs pl pu ⟨a, xs, rfl, SqL.of (hid_same _ _ ha), fun p hp => q _ _ (Same.upd hp) (new_lst bk hp (DatsAre.cut hd lo hi))⟩
  · obtain ⟨a, xs, rfl, ha, hd⟩ := h1
    refine sl_tup2K hK pins s σ H _ v vl vu lo hi sl Q I rx hs pl pu ⟨a, xs, rfl, ha.same hid_same, fun z => q _ H (Same.refl H) ?_, fun _ p hp => q _ _ (Same.upd hp) (new_tup bk hp (DatsAre.cut hd lo hi))⟩
    have := DatsAre.cut hd lo hi
    rw [z.1] at this
    simp only [DatIs]
    exact ⟨a, xs, rfl, ha, this⟩
end
section
variable [Feeds] {K : PySem.W.Frag} {X : Cx} {e : Expr} {te : TE} {m : DE → M PyData} {pos p2 : Pos}
def TOd (K : PySem.W.Frag) (to : TO) (m : DE → M (Option Int)) : Prop := ∀ (G : GF) (B : List Addr) (E : DE) (F : FS) (σ : St) (H : Hp) (Q : Option Int → Hp → Prop) (d : Option Int) (F' : FS), SitE K G B E F σ H → m E F = some (d, F') →
  (∀ H', Kp (fpOf G) H H' → FAt G H' F' → Q d H') → to σ H Q
structure Eo (K : PySem.W.Frag) (X : Cx) (e : Option Expr) (to : TO) (m : DE → M (Option Int)) : Prop where
  po : PO X e to
  ok : TOd K to m
def oNo : DE → M (Option Int) := fun _ F => some (none, F)
def intOf : PyData → Option Int
  | .int i => some i
  | _ => none
theorem intOf_some {d : PyData} {i : Int} (h : intOf d = some i) : d = .int i := by
  cases d <;> simp [intOf] at h
  rw [h]
def oI (a : DE → M PyData) : DE → M (Option Int) := fun E F => (a E F).bind fun p => (intOf p.1).bind fun i => some (some i, p.2)
theorem eo_no : Eo K X none tNoPart oNo := ⟨po_none, fun G B E F σ H Q d F' I e q => by cases e; exact q H Kp.refl I.fd⟩
theorem eo_i (h : Ev K X e te m) : Eo K X (some e) (tPart te) (oI m) := ⟨po_some h.pe, fun G B E F σ H Q d F' I e q => by
  obtain ⟨⟨x, F1⟩, e1, e⟩ := Option.bind_eq_some_iff.mp e
  obtain ⟨i, e2, e⟩ := Option.bind_eq_some_iff.mp e
  cases e
  refine h.ok G B E F σ H _ x F1 I e1 fun v H1 k1 f1 h1 => ?_
  have := intOf_some e2
  simp only at this
  subst this
  simp only [DatIs] at h1
  exact ⟨i, h1, q H1 k1 f1⟩⟩
def sCut (a : DE → M PyData) (l u : DE → M (Option Int)) : DE → M PyData := fun E F => (a E F).bind fun p => (l E p.2).bind fun x => (u E x.2).bind fun y => (cutD x.1 y.1 p.1).bind fun z => some (z, y.2)
theorem ev_cut {lo hi : Option Expr} {tl th : TO} {ml mh : DE → M (Option Int)} (he : Eb K X e te m) (hl : Eo K X lo tl ml) (hh : Eo K X hi th mh) (hK : X.K = K := by rfl) : Ev K X (.Subscript e (.Slice lo hi none p2) pos) (tSl (rSlD K) te tl th) (sCut m ml mh) :=
  ⟨pe_slice (sd_cut hK) he.pe hl.po hh.po, fun G B E F σ H Q d F' I e q => by
    obtain ⟨⟨x, F1⟩, e1, e⟩ := Option.bind_eq_some_iff.mp e
    obtain ⟨⟨l, F2⟩, e2, e⟩ := Option.bind_eq_some_iff.mp e
    obtain ⟨⟨h, F3⟩, e3, e⟩ := Option.bind_eq_some_iff.mp e
    obtain ⟨z, e4, e⟩ := Option.bind_eq_some_iff.mp e
    cases e
    refine he.ok G B E F σ H _ x F1 I e1 fun v H1 k1 f1 h1 => ?_
    refine hl.ok G B E F1 σ H1 _ l F2 (I.step k1 f1) e2 fun H2 k2 f2 => ?_
    refine hh.ok G B E F2 σ H2 _ h F3 (I.step (k1.trans k2) f2) e3 fun H3 k3 f3 => ?_
    exact ⟨fpOf G, B, x, _, bok_step I.bk ((k1.trans k2).trans k3) f3, h1.step (k2.trans k3) I.fB, e4, fun u H4 s hu => q u H4 (((k1.trans k2).trans k3).trans (Kp.same s)) (f3.same s) hu⟩⟩
end
section
variable {K : PySem.W.Frag} {X : Cx}
def lenD : List PyData → Option PyData
  | [.list ds] => some (.int ds.length)
  | [.tuple ds] => some (.int ds.length)
  | [.str x] => if x.length ≤ sizeLine then some (.int x.length) else none
  | _ => none
theorem cd_len (hK : X.K = K) : CallR X (.builtin "len") (rDN K lenD) := by
  intro pins s σ H xs us Q I r h
  obtain ⟨fp, B, ds, z, bk, h1, hf, q⟩ := h
  unfold lenD at hf
  split at hf <;> try cases hf
  · obtain ⟨v, rfl, a, xs, rfl, ha, hd⟩ := shs1 h1 rfl
    have := q _ H (Same.refl H) DatIs.int
    rw [← hd.length] at this
    exact call_len_seqK hK pins s σ H _ us Q I r ⟨a, xs, rfl, .inl (SqL.of (hid_same _ _ ha)), this⟩
  · obtain ⟨v, rfl, a, xs, rfl, ha, hd⟩ := shs1 h1 rfl
    have := q _ H (Same.refl H) DatIs.int
    rw [← hd.length] at this
    exact call_len_seqK hK pins s σ H _ us Q I r ⟨a, xs, rfl, .inr (ha.same hid_same), this⟩
  · rename_i x0
    obtain ⟨v, rfl, hv⟩ := shs1 h1 rfl
    have hv : v = .str x0 := hv
    subst hv
    split at hf
    · rename_i hl
      cases hf
      exact call_len_str pins s σ H _ us Q I r ⟨_, rfl, hl, q _ H (Same.refl H) DatIs.int⟩
    · cases hf
def tupleD : List PyData → Option PyData
  | [.list ds] => some (.tuple ds)
  | [.tuple ds] => some (.tuple ds)
  | _ => none
theorem cd_tuple (hK : X.K = K) : CallR X (.type "tuple") (rDN K tupleD) := by
  intro pins s σ H xs us Q I r h
  obtain ⟨fp, B, ds, z, bk, h1, hf, q⟩ := h
  unfold tupleD at hf
  split at hf <;> try cases hf
  · obtain ⟨v, rfl, a, xs, rfl, ha, hd⟩ := shs1 h1 rfl
    exact call_tuple_ofK hK pins s σ H _ us Q I r ⟨a, xs, rfl, .inl ⟨SqL.of (hid_same _ _ ha), fun l hl => q _ _ (Same.upd hl) (new_tup bk hl hd)⟩⟩
  · obtain ⟨v, rfl, hv⟩ := shs1 h1 rfl
    have hv' := hv.tup
    obtain ⟨a, xs, rfl, ha, hd⟩ := hv
    exact call_tuple_ofK hK pins s σ H _ us Q I r ⟨a, xs, rfl, .inr ⟨ha.same hid_same, q _ H (Same.refl H) hv'⟩⟩
def listD : List PyData → Option PyData
  | [.list ds] => some (.list ds)
  | [.tuple ds] => some (.list ds)
  | _ => none
theorem cd_list (hK : X.K = K) : CallR X (.type "list") (rDN K listD) := by
  subst hK
  intro pins s σ H xs us Q I r h
  obtain ⟨fp, B, ds, z, bk, h1, hf, q⟩ := h
  unfold listD at hf
  split at hf <;> try cases hf
  · obtain ⟨v, rfl, a, xs, rfl, ha, hd⟩ := shs1 h1 rfl
    exact call_list_of pins s σ H _ us Q I r ⟨a, xs, rfl, .inl (SqL.of (hid_same _ _ ha)), fun l hl => q _ _ (Same.upd hl) (new_lst bk hl hd)⟩
  · obtain ⟨v, rfl, a, xs, rfl, ha, hd⟩ := shs1 h1 rfl
    exact call_list_of pins s σ H _ us Q I r ⟨a, xs, rfl, .inr (ha.same hid_same), fun l hl => q _ _ (Same.upd hl) (new_lst bk hl hd)⟩
def intsOf : List PyData → Option (List Int)
  | [] => some []
  | .int i :: r => (intsOf r).map (i :: ·)
  | _ => none
theorem intsOf_some : ∀ {ds : List PyData} {ns : List Int}, intsOf ds = some ns → ds = ns.map .int
  | [], ns, h => by cases h; rfl
  | d :: r, ns, h => by
    cases d <;> simp only [intsOf] at h <;> try cases h
    obtain ⟨m, e, rfl⟩ := Option.map_eq_some_iff.mp h
    rw [intsOf_some e]; rfl
theorem ints_v {H : Hp} : ∀ {ns : List Int} {xs : List V}, DatsAre K H (ns.map .int) xs → xs = ns.map V.int
  | [], xs, h => by simpa only [List.map_nil, DatsAre] using h
  | n :: ns, xs, h => by
    simp only [List.map_cons, DatsAre] at h
    obtain ⟨x, r, rfl, h1, h2⟩ := h
    simp only [DatIs] at h1
    rw [h1, ints_v h2]; rfl
def sumD : List PyData → Option PyData
  | [.list ds] => (intsOf ds).map fun ns => .int ns.sum
  | _ => none
theorem cd_sum (hK : X.K = K) (hc : X.calm = true) : CallR X (.builtin "sum") (rDN K sumD) := by
  subst hK
  intro pins s σ H xs us Q I r h
  obtain ⟨fp, B, ds, z, bk, h1, hf, q⟩ := h
  unfold sumD at hf
  split at hf <;> try cases hf
  obtain ⟨ns, e, rfl⟩ := Option.map_eq_some_iff.mp hf
  cases intsOf_some e
  obtain ⟨v, rfl, a, xs, rfl, ha, hd⟩ := shs1 h1 rfl
  cases ints_v hd
  exact call_sum hc pins s σ H _ us Q I r ⟨a, ns, rfl, SqL.of (hid_same _ _ ha), q _ H (Same.refl H) DatIs.int⟩
def reprOk (d : PyData) : Bool := d.showable && !d.hasDict && decide (d.depth ≤ 50) && decide (d.shown.length ≤ 16000000)
end
end L3
set_option Elab.async false
set_option linter.all false
set_option maxRecDepth 100000
set_option maxHeartbeats 4000000
namespace L3
open PySem PySem.Spec PyProof.Rows L2
section
variable {K : PySem.W.Frag} {X : Cx}
theorem reprOk_shw {d : PyData} (h : reprOk d = true) : Shw d 50 16000000 := by
  unfold reprOk at h
  simp only [Bool.and_eq_true, decide_eq_true_eq, Bool.not_eq_true'] at h
  exact ⟨h.1.1.1, h.1.1.2, h.1.2, h.2⟩
def reprD : List PyData → Option PyData
  | [d] => if reprOk d = true then some (.str d.shown) else none
  | _ => none
theorem cd_repr (hK : X.K = K) (hg : X.A.guards = some []) (hu : X.A.units + 64 < cLine) : CallR X (.builtin "repr") (rDN K reprD) := by
  intro pins s σ H xs us Q I r h
  obtain ⟨fp, B, ds, z, bk, h1, hf, q⟩ := h
  unfold reprD at hf
  split at hf <;> try cases hf
  rename_i d
  split at hf
  · rename_i ho
    cases hf
    obtain ⟨v, rfl, hv⟩ := shs1 h1 rfl
    have sh := reprOk_shw ho
    have qq := q _ H (Same.refl H) DatIs.st
    cases d with
    | tuple ds =>
      have hd := hv.dat
      obtain ⟨a, xs, rfl, ha, _⟩ := hv
      exact call_reprK hK hg hu pins s σ H _ us Q I r ⟨a, _, rfl, hd, sh, qq⟩
    | list ds =>
      have hd := hv.dat
      obtain ⟨a, xs, rfl, ha, _⟩ := hv
      exact call_reprK hK hg hu pins s σ H _ us Q I r ⟨a, _, rfl, hd, sh, qq⟩
    | none =>
      cases (show v = .non from hv)
      obtain ⟨u, rfl, rfl⟩ := vals1 r
      exact PySem.P.repr_of_none ⟨.str _, H, I.tok _, ⟨_, rfl⟩, by simpa only [PyData.shown] using qq⟩
    | bool b =>
      cases (show v = .bl b from hv)
      obtain ⟨u, rfl, rfl⟩ := vals1 r
      exact PySem.P.repr_of_bool ⟨.str _, H, I.tok _, ⟨_, rfl⟩, by simpa only [PyData.shown] using qq⟩
    | int i =>
      cases (show v = .int i from hv)
      obtain ⟨u, rfl, t, rfl⟩ := vals1 r
      have hl : i.natAbs.log2 < 1920 := by have := sh.sh; simpa only [PyData.showable, decide_eq_true_eq] using this
      exact PySem.P.repr_of_int hl ⟨.str _, H, I.tok _, ⟨_, rfl⟩, by simpa only [PyData.shown] using qq⟩
    | str x =>
      cases (show v = .str x from hv)
      obtain ⟨u, rfl, t, rfl⟩ := vals1 r
      have hl : (reprText x).length ≤ sizeLine := by have := sh.ln; simp only [PyData.shown] at this; exact Nat.le_trans this (by rw [sizeLine_eq]; decide)
      exact PySem.P.repr_of_str ⟨.str _, H, I.tok _, ⟨_, rfl⟩, by simpa only [PyData.shown] using qq⟩ hl
    | dict b => exact (show False from hv).elim
  · cases hf
def intD : List PyData → Option PyData
  | [.int i] => some (.int i)
  | [.bool b] => some (.int (if b then 1 else 0))
  | _ => none
theorem cd_int : CallR X (.type "int") (rDN K intD) := by
  intro pins s σ H xs us Q I r h
  obtain ⟨fp, B, ds, z, bk, h1, hf, q⟩ := h
  unfold intD at hf
  split at hf <;> try cases hf
  · rename_i i
    obtain ⟨v, rfl, hv⟩ := shs1 h1 rfl
    cases (show v = .int i from hv)
    exact call_int1 pins s σ H _ us Q I r (.inl ⟨i, rfl, q _ H (Same.refl H) DatIs.int⟩)
  · rename_i b
    obtain ⟨v, rfl, hv⟩ := shs1 h1 rfl
    cases (show v = .bl b from hv)
    exact call_int1 pins s σ H _ us Q I r (.inr ⟨b, rfl, q _ H (Same.refl H) DatIs.int⟩)
def absD : List PyData → Option PyData
  | [.int i] => some (.int (if i < 0 then -i else i))
  | _ => none
theorem cd_abs : CallR X (.builtin "abs") (rDN K absD) := by
  intro pins s σ H xs us Q I r h
  obtain ⟨fp, B, ds, z, bk, h1, hf, q⟩ := h
  unfold absD at hf
  split at hf <;> try cases hf
  rename_i i
  obtain ⟨v, rfl, hv⟩ := shs1 h1 rfl
  cases (show v = .int i from hv)
  exact call_abs pins s σ H _ us Q I r ⟨i, rfl, q _ H (Same.refl H) DatIs.int⟩
def negD : PyData → Option PyData
  | .int i => some (.int (-i))
  | _ => none
theorem ud_neg : UnR X (unaryOp .USub) (rD1 K negD) := by
  intro pins s σ H x v Q I rx h
  obtain ⟨fp, B, d, r, bk, h1, hf, q⟩ := h
  cases d <;> simp only [negD] at hf <;> try cases hf
  rename_i i
  cases (show x = .int i from h1)
  exact un_neg pins s σ H _ v Q I rx ⟨i, rfl, q _ H (Same.refl H) DatIs.int⟩
end
section
variable [Feeds] {K : PySem.W.Frag} {X : Cx} {e : Expr} {te : TE} {m : DE → M PyData} {pos p p2 p3 : Pos}
def isinD (T : String) : PyData → Option PyData := fun d => some (.bool (isT (tyD d) T))
def tIsin (K : PySem.W.Frag) (T : String) (te : TE) : TE := tCB (rIsin K) (tCons te (tCons (tC (.ty T)) tNil))
theorem ev_isin (T : String) {x : Str} (he : Eb K X e te m) (hT : T ∈ ["bool", "int", "str", "list", "tuple"]) (hm : X.mg "isinstance" = none) (hmx : X.mg x = none) (hv : bootBuiltins x = some (.type T)) (hg : Gl X "isinstance" := by rfl) (hgx : Gl X x := by rfl) (hK : X.K = K := by rfl) (hn : x ≠ "__name__" := by decide) (hd : (x == ("__debug__" : Str)) = false := by decide)
    (hs : starEach [e, .Name x p2] X.env = (false, eval e X.env) :: starEach [.Name x p2] X.env := by rfl) (hs2 : starEach [.Name x p2] X.env = (false, eval (.Name x p2) X.env) :: starEach [] X.env := by rfl) (hpl : (backTo pos (starEach [.Name x p2] X.env)).any (·.1) = false := by rfl) :
    Ev K X (.Call (.Name "isinstance" p) [e, .Name x p2] [] pos) (tIsin K T te) (s1 (isinD T) m) :=
  ⟨pe_callB (call_isin hK) hg hm PyProof.Rows.boot_isinstance (pa_cons he.pe (pa_cons (pe_bltn (v := .ty T) hgx hmx hv rfl hn hd) pa_nil hs2) hs) (by decide) (by decide) hs hpl, fun G B E F σ H Q d F' I e q => by
    obtain ⟨⟨y, F1⟩, e1, e⟩ := Option.bind_eq_some_iff.mp e
    obtain ⟨z, e2, e⟩ := Option.bind_eq_some_iff.mp e
    cases e
    cases e2
    exact he.ok G B E F σ H _ y F1 I e1 fun v H1 k1 f1 h1 => ⟨v, T, y, rfl, h1.dat, hT, q _ H1 k1 f1 DatIs.bl⟩⟩
end
section
variable {K : PySem.W.Frag} {X : Cx}
end
end L3
namespace L3
open PySem PySem.Spec PyProof.Rows L2
section
variable [Feeds] {K : PySem.W.Frag} {X : Cx} {e : Expr} {te : TE} {m : DE → M PyData} {pos p p2 p3 : Pos}
end
end L3
set_option Elab.async false
set_option linter.all false
set_option maxRecDepth 100000
set_option maxHeartbeats 4000000
namespace L3
open PySem PySem.Spec L2
theorem noFill_tuple_mul : fillsNumberSlot (.type "tuple") "mul" = pure false :=
  fillsNumberSlot_seq (id := "tuple.__mul__") (r := some (.builtin "tuple.__rmul__")) F.slot_tuple_mul.lookup (by decide +kernel) F.slot_tuple_rmul.lookup (by decide +kernel)
theorem repeat_tuple : seqRepeat? (.type "tuple") = pure (some (.builtin "tuple.__mul__")) := by
  unfold seqRepeat?
  rw [seqSlot_of (T := "tuple") (name := "__mul__") (id := "tuple.__mul__") F.slot_tuple_mul.lookup (by decide +kernel), seqSlot_of (T := "tuple") (name := "__rmul__") (id := "tuple.__rmul__") F.slot_tuple_rmul.lookup (by decide +kernel)]
  rfl
theorem int_rmul_tuple (a : Int) (t : Tok) (l : Addr) (items : Array Value) (n : Nat) (dd : Option Addr) (sl : Array (Option Value)) :
    Meets (Builtin.«int.__rmul__» ⟨[.int a t, .ref l], []⟩) (fun _ R s => s.heap.get? l = some { cls := .type "tuple", dict := dd, data := .seq items n, slots := sl } ∧ R (.ok (.ret Value.notImplemented)) s) :=
  .of_wp fun prog w A R s h => by obtain ⟨hp, g, d, tk, os⟩ := s; obtain ⟨hl, h⟩ := h; wp_walk; exact ⟨_, rfl, h⟩
theorem tuple_mul0 (l : Addr) (items : Array Value) (n : Nat) (dd : Option Addr) (sl : Array (Option Value)) (k : Int) (u : Tok) (hc0 : (decide (k < -(2 ^ 63)) || decide (k ≥ 2 ^ 63)) = false) (hc1 : (items.isEmpty || k == 1) = true) :
    Meets (Builtin.«tuple.__mul__» ⟨[.ref l, .int k u], []⟩) (fun _ R s => s.heap.get? l = some { cls := .type "tuple", dict := dd, data := .seq items n, slots := sl } ∧ R (.ok (.ret (.ref l))) s) :=
  .of_wp fun prog w A R s h => by
    obtain ⟨hp, g, d, tk, os⟩ := s; obtain ⟨hl, h⟩ := h
    have f1 := AutoSeq1.idx_int; have f2 := AutoSeq1.sub_tuple_tuple; have f3 := AutoSeq1.sub_list_list; have f4 := AutoSeq1.sub_tuple_list; have f5 := AutoSeq1.sub_list_tuple
    wp_walk
    refine wpAny_ite_false (by rw [hc0]; rfl) ?_
    wp_walk
    exact ⟨_, rfl, h⟩
theorem tuple_mul1 (l : Addr) (items : Array Value) (n : Nat) (dd : Option Addr) (sl : Array (Option Value)) (k : Int) (u : Tok) (hc0 : (decide (k < -(2 ^ 63)) || decide (k ≥ 2 ^ 63)) = false) (hc1 : (items.isEmpty || k == 1) = false) (hc2 : (decide (k ≤ 0) || items.isEmpty) = true) :
    Meets (Builtin.«tuple.__mul__» ⟨[.ref l, .int k u], []⟩) (fun _ R s => s.heap.get? l = some { cls := .type "tuple", dict := dd, data := .seq items n, slots := sl } ∧ R (.ok (.ret (.ref s.heap.objs.size))) { s with heap := s.heap.push { cls := .type "tuple", data := .seq #[] } }) :=
  .of_wp fun prog w A R s h => by
    obtain ⟨hp, g, d, tk, os⟩ := s; obtain ⟨hl, h⟩ := h
    have f1 := AutoSeq1.idx_int; have f2 := AutoSeq1.sub_tuple_tuple; have f3 := AutoSeq1.sub_list_list; have f4 := AutoSeq1.sub_tuple_list; have f5 := AutoSeq1.sub_list_tuple
    wp_walk
    refine wpAny_ite_false (by rw [hc0]; rfl) ?_
    wp_walk
    exact ⟨_, rfl, h⟩
theorem tuple_mul2 (l : Addr) (items : Array Value) (n : Nat) (dd : Option Addr) (sl : Array (Option Value)) (k : Int) (u : Tok) (hc0 : (decide (k < -(2 ^ 63)) || decide (k ≥ 2 ^ 63)) = false) (hc1 : (items.isEmpty || k == 1) = false) (hc2 : (decide (k ≤ 0) || items.isEmpty) = false) (hc3 : decide ((items.size : Int) * k > (2 ^ 63 - 1) / 8) = false) (hc4 : Builtin.Tuple.tupleTooMany ((items.size : Int) * k) = false)
    (hsz : (List.foldl (fun x1 x2 => x1 ++ x2) #[] (List.replicate k.toNat items)).size ≤ sizeLine) :
    Meets (Builtin.«tuple.__mul__» ⟨[.ref l, .int k u], []⟩) (fun _ R s => s.heap.get? l = some { cls := .type "tuple", dict := dd, data := .seq items n, slots := sl } ∧ R (.ok (.ret (.ref s.heap.objs.size))) { s with heap := s.heap.push { cls := .type "tuple", data := .seq (List.foldl (fun x1 x2 => x1 ++ x2) #[] (List.replicate k.toNat items)) } }) :=
  .of_wp fun prog w A R s h => by
    obtain ⟨hp, g, d, tk, os⟩ := s; obtain ⟨hl, h⟩ := h
    have f1 := AutoSeq1.idx_int; have f2 := AutoSeq1.sub_tuple_tuple; have f3 := AutoSeq1.sub_list_list; have f4 := AutoSeq1.sub_tuple_list; have f5 := AutoSeq1.sub_list_tuple
    wp_walk
    refine wpAny_ite_false (by rw [hc0]; rfl) ?_
    wp_walk
    refine wpAny_ite_false hc3 ?_
    wp_walk
    exact ⟨_, rfl, h⟩
section
open PyProof.Rows
variable {K : PySem.W.Frag} {X : Cx}
def mulD' : PyData → PyData → Option PyData
  | .tuple xs, .int k => if -(2 ^ 63) ≤ k ∧ k < 2 ^ 63 ∧ xs.length * k.toNat ≤ sizeLine then some (.tuple (List.replicate k.toNat xs).flatten) else none
  | d, e => mulD d e
theorem op_repT (hK : X.K = K) : OpR X (binaryOp .Mult) (fun x y H Q => ∃ l k xs, x = .ref l ∧ y = .int k ∧ SqT K H l xs ∧ -(2 ^ 63) ≤ k ∧ k < 2 ^ 63 ∧ xs.length * k.toNat ≤ sizeLine ∧
    ((List.replicate k.toNat xs).flatten = xs → Q (.ref l) H) ∧ ∀ p, H p = none → Q (.ref p) (upd H p (.tup (List.replicate k.toNat xs).flatten))) := by
  subst hK
  intro pins s σ H x y v u Q I rx ry h
  obtain ⟨l, k, xs, rfl, rfl, hq, h1, h2, hz, q0, q1⟩ := h
  cases rx
  obtain ⟨t, rfl⟩ := ry
  obtain ⟨its, r, p, hl⟩ := I.tuple hq
  have hlen := r.length
  obtain ⟨⟨cls, dd, data, sl⟩, ho, hc, n, hd⟩ := id p
  simp only at hc hd
  subst hc hd
  have hc0 : (decide (k < -(2 ^ 63)) || decide (k ≥ 2 ^ 63)) = false := by
    rw [decide_eq_false (by omega), decide_eq_false (by omega)]; rfl
  have e1 : s.TypeIs (.ref l) "tuple" := ⟨_, ho, rfl⟩
  refine wpAny_binaryOp_repeat_ref (T := "tuple") (U := "int") (by decide) e1 (fun s' => typeIs_int s' k t) noFill_tuple_mul F.fills_int_mul F.slot_int_rmul repeat_tuple F.slot_int_index.lookup
    (call_meets F.slot_int_rmul (typeIs_int s k t) F.entry_int_rmul (F.args_int_rmul_2 _ _) (int_rmul_tuple k t l its.toArray n dd sl) ⟨ho, rfl, e1, ?_⟩)
  by_cases c1 : (its.toArray.isEmpty || k == 1) = true
  · refine call_meets F.slot_tuple_mul e1 F.entry_tuple_mul (F.args_tuple_mul_2 _ _) (tuple_mul0 l its.toArray n dd sl k t hc0 c1) ⟨ho, ⟨.ref l, H, I, rfl, q0 ?_⟩⟩
    simp only [Bool.or_eq_true, beq_iff_eq] at c1
    rcases c1 with c1 | c1
    · have : xs = [] := by
        cases r with
        | nil => rfl
        | cons a b => simp at c1
      subst this
      simp
    · subst c1
      simp
  · have c1 : (its.toArray.isEmpty || k == 1) = false := by simpa using c1
    by_cases c2 : (decide (k ≤ 0) || its.toArray.isEmpty) = true
    · refine call_meets F.slot_tuple_mul e1 F.entry_tuple_mul (F.args_tuple_mul_2 _ _) (tuple_mul1 l its.toArray n dd sl k t hc0 c1 c2) ⟨ho, ?_⟩
      have ez : (List.replicate k.toNat xs).flatten = [] := by
        rw [Bool.or_eq_false_iff] at c1
        rw [c1.1, Bool.or_false] at c2
        have : k.toNat = 0 := by have := of_decide_eq_true c2; omega
        rw [this]; rfl
      have z := q1 _ I.fresh
      rw [ez] at z
      exact ⟨.ref _, _, I.laid (t' := s.toks) (o := .tup []) (fun b ob q => Heap.get?_push_of_some _ q) (Nat.le_refl _) ⟨Nat.zero_le _, [], .nil, IsTup.new _ _⟩, rfl, z⟩
    · have c2 : (decide (k ≤ 0) || its.toArray.isEmpty) = false := by simpa using c2
      have hk0 : 0 < k := by
        rw [Bool.or_eq_false_iff] at c2
        have := of_decide_eq_false c2.1
        omega
      have hm : (its.toArray.size : Int) * k ≤ sizeLine := by
        obtain ⟨j, rfl⟩ : ∃ j : Nat, k = j := ⟨k.toNat, by omega⟩
        rw [List.size_toArray, ← hlen]
        simp only [Int.toNat_natCast] at hz
        exact_mod_cast hz
      have hfold : List.foldl (fun x1 x2 => x1 ++ x2) #[] (List.replicate k.toNat its.toArray) = (List.replicate k.toNat its).flatten.toArray := by
        have := foldl_rep its k.toNat []
        rw [List.nil_append] at this
        exact this
      have hsl : (sizeLine : Int) ≤ (2 ^ 63 - 1) / 8 := by rw [sizeLine_eq]; decide
      refine call_meets F.slot_tuple_mul e1 F.entry_tuple_mul (F.args_tuple_mul_2 _ _) (tuple_mul2 l its.toArray n dd sl k t hc0 c1 c2 (decide_eq_false (by omega)) (decide_eq_false (by omega)) ?_) ⟨ho, ?_⟩
      · rw [hfold, List.size_toArray, len_rep, ← hlen, Nat.mul_comm]; exact hz
      · rw [hfold]
        exact ⟨.ref _, _, I.laid (t' := s.toks) (o := .tup (List.replicate k.toNat xs).flatten) (fun b ob q => Heap.get?_push_of_some _ q) (Nat.le_refl _) ⟨by rw [len_rep, Nat.mul_comm]; exact hz, _, r.rep k.toNat, IsTup.new _ _⟩, rfl, q1 _ I.fresh⟩
theorem od_mul' (hK : X.K = K) : OpR X (binaryOp .Mult) (rD2 K mulD') := by
  intro pins s σ H x y v u Q I rx ry h
  obtain ⟨fp, B, d, e, r, bk, h1, h2, hf, q⟩ := h
  unfold mulD' at hf
  split at hf
  · rename_i ds k
    obtain ⟨a, xs, rfl, ha, hd⟩ := h1
    cases (show y = .int k from h2)
    split at hf
    · rename_i hc
      cases hf
      refine op_repT hK pins s σ H _ _ v u Q I rx ry ⟨a, k, xs, rfl, rfl, ha.same hid_same, hc.1, hc.2.1, by rw [hd.length]; exact hc.2.2, fun e => q _ H (Same.refl H) ?_, fun p hp => q _ _ (Same.upd hp) (new_tup bk hp (DatsAre.rep hd _))⟩
      have := DatsAre.rep hd k.toNat
      rw [e] at this
      simp only [DatIs]
      exact ⟨a, xs, rfl, ha, this⟩
    · cases hf
  · exact od_mul pins s σ H x y v u Q I rx ry ⟨fp, B, d, e, r, bk, h1, h2, hf, q⟩
end
end L3
set_option Elab.async false
set_option linter.all false
set_option maxRecDepth 100000
set_option maxHeartbeats 4000000
namespace L3
open PySem PySem.Spec PyProof.Rows L2
section
variable [Feeds]
def IterOk (K : PySem.W.Frag) (P : Hp → List Addr → Prop) (J : It) (items : List PyData) : Prop := ∀ H B, P H B →
  (∀ i d, items[i]? = some d → J.go i H ∧ ∀ x H2, J.yld i H x H2 → Same H H2 ∧ (BOk H B → DatIs K (hid H2 B) d x)) ∧ J.stop items.length H
def TId (K : PySem.W.Frag) (wi : TI) (mi : DE → M (List PyData)) : Prop := ∀ (G : GF) (B : List Addr) (E : DE) (F : FS) (σ : St) (H : Hp) (R : It → Hp → Prop) (ds : List PyData) (F' : FS), SitE K G B E F σ H → mi E F = some (ds, F') →
  (∀ J H', Kp (fpOf G) H H' → FAt G H' F' → IterOk K (fun H2 B2 => Same (hid H' B) (hid H2 B2)) J ds → R J H') → wi σ H R
def TIs (K : PySem.W.Frag) (wi : TI) (mi : DE → M (List PyData)) : Prop := ∀ (G : GF) (B : List Addr) (E : DE) (F : FS) (σ : St) (H : Hp) (R : It → Hp → Prop) (ds : List PyData) (F' : FS), SitE K G B E F σ H → mi E F = some (ds, F') →
  (∀ J H', Kp (fpOf G) H H' → FAt G H' F' → IterOk K (fun H2 B2 => Kp (fpOf G) H' H2 ∧ Same (hid H' B) (hid H2 B2)) J ds → R J H') → wi σ H R
theorem TId.sh {K : PySem.W.Frag} {wi : TI} {mi : DE → M (List PyData)} (h : TId K wi mi) : TIs K wi mi := fun G B E F σ H R ds F' I e q => h G B E F σ H R ds F' I e fun J H' k f ok => q J H' k f fun H2 B2 kp => ok H2 B2 kp.2
structure Ei (K : PySem.W.Frag) (X : Cx) (tg iter : Expr) (wi : TI) (mi : DE → M (List PyData)) : Prop where
  pi : PI X tg iter wi
  ok : TId K wi mi
structure Eib (K : PySem.W.Frag) (X : Cx) (tg iter : Expr) (wi : TI) (mi : DE → M (List PyData)) : Prop where
  pi : PI X tg iter wi
  ok : TIs K wi mi
variable {K : PySem.W.Frag} {X : Cx} {tg iter e : Expr} {te : TE} {m : DE → M PyData} {pos p : Pos}
theorem Ei.bw {wi : TI} {mi : DE → M (List PyData)} (h : Ei K X tg iter wi mi) : Eib K X tg iter wi mi := ⟨h.pi, h.ok.sh⟩
def iSeq (K : PySem.W.Frag) (tl : TE) : TI := fun σ H R => tl σ H fun x H1 => ∃ a, x = .ref a ∧ (((∃ xs, SqL K H1 a xs) ∧ R (Itl K a) H1) ∨ ((∃ xs, SqT K H1 a xs) ∧ R (Itt K a) H1))
theorem pi_seq {l : Expr} {tl : TE} (hK : X.K = K) (hl : PE X l tl) : PI X tg l (iSeq K tl) := by
  subst hK
  intro pins s σ H R I h
  refine thn (hl pins s σ H _ I h) fun v s1 ⟨x, H1, I1, r1, q1⟩ => ?_
  obtain ⟨a, e, q⟩ := q1
  subst e
  cases r1
  rcases q with ⟨⟨xs, hq⟩, q⟩ | ⟨⟨xs, hq⟩, q⟩
  · obtain ⟨its, rv, p, hz⟩ := I1.list hq
    refine wpAny_pyIter_list p.isList ?_
    refine ⟨s1.heap.objs.size, [s1.heap.objs.size], _, _, H1, rfl, I1.kept (t' := s1.toks) fun b o e => Heap.get?_push_of_some _ e, turn_list a _, ⟨_, Heap.get?_push_size _ rfl, rfl, rfl⟩, fun b hb => ?_, q⟩
    have e : b = s1.heap.objs.size := by simpa using hb
    subst e
    exact I1.fpOk (Nat.le_refl _) (I1.hok.fresh (Nat.le_refl _))
  · obtain ⟨its, rv, p, hz⟩ := I1.tuple hq
    refine wpAny_pyIter_tuple (show s1.heap.IsTuple a its.toArray from p) ?_
    refine ⟨s1.heap.objs.size, [s1.heap.objs.size], _, _, H1, rfl, I1.kept (t' := s1.toks) fun b o e => Heap.get?_push_of_some _ e, turn_tuple a _, ⟨_, Heap.get?_push_size _ rfl, rfl, rfl⟩, fun b hb => ?_, q⟩
    have e : b = s1.heap.objs.size := by simpa using hb
    subst e
    exact I1.fpOk (Nat.le_refl _) (I1.hok.fresh (Nat.le_refl _))
def seqOf : PyData → Option (List PyData)
  | .list ds => some ds
  | .tuple ds => some ds
  | _ => none
def mSeq (a : DE → M PyData) : DE → M (List PyData) := fun E F => (a E F).bind fun p => (seqOf p.1).bind fun ds => some (ds, p.2)
theorem DatsAre.item {H : Hp} {ds : List PyData} {xs : List V} {i : Nat} {d : PyData} (h : DatsAre K H ds xs) (e : ds[i]? = some d) : ∃ v, xs[i]? = some v ∧ DatIs K H d v := by
  obtain ⟨hj, _⟩ := List.getElem?_eq_some_iff.mp e
  have hx : xs[i]? = some (xs[i]'(by rw [h.length]; exact hj)) := by simp
  obtain ⟨d', h1, h2⟩ := h.get hx
  rw [e] at h1; cases h1
  exact ⟨_, hx, h2⟩
theorem it_list {P : Hp → List Addr → Prop} {a : Addr} {ds : List PyData} {xs : List V} (h : ∀ H B, P H B → H a = some (.lst xs) ∧ DatsAre K (hid H B) ds xs) : IterOk K P (Itl K a) ds := fun H B hp => by
  obtain ⟨h1, h2⟩ := h H B hp
  refine ⟨fun i d e => ?_, ⟨xs, SqL.of h1, by rw [h2.length]; exact Nat.le_refl _⟩⟩
  obtain ⟨v, e1, e2⟩ := DatsAre.item h2 e
  refine ⟨⟨xs, v, SqL.of h1, e1⟩, fun x H2 y => ?_⟩
  obtain ⟨rfl, y⟩ := y
  have := y xs (SqL.of h1)
  rw [e1] at this; cases this
  exact ⟨Same.refl _, fun _ => e2⟩
theorem it_tup {P : Hp → List Addr → Prop} {a : Addr} {ds : List PyData} {xs : List V} (h : ∀ H B, P H B → SqT K H a xs ∧ DatsAre K (hid H B) ds xs) : IterOk K P (Itt K a) ds := fun H B hp => by
  obtain ⟨h1, h2⟩ := h H B hp
  refine ⟨fun i d e => ?_, ⟨xs, h1, by rw [h2.length]; exact Nat.le_refl _⟩⟩
  obtain ⟨v, e1, e2⟩ := DatsAre.item h2 e
  refine ⟨⟨xs, v, h1, e1⟩, fun x H2 y => ?_⟩
  obtain ⟨rfl, y⟩ := y
  have := y xs h1
  rw [e1] at this; cases this
  exact ⟨Same.refl _, fun _ => e2⟩
theorem ei_seq (h : Ev K X e te m) (hK : X.K = K := by rfl) : Ei K X tg e (iSeq K te) (mSeq m) := ⟨pi_seq hK h.pe, fun G B E F σ H R ds F' I e q => by
  obtain ⟨⟨y, F1⟩, e1, e⟩ := Option.bind_eq_some_iff.mp e
  obtain ⟨z, e2, e⟩ := Option.bind_eq_some_iff.mp e
  cases e
  refine h.ok G B E F σ H _ y F1 I e1 fun v H1 k1 f1 h1 => ?_
  cases y with
  | list ys =>
    cases e2
    simp only [DatIs] at h1
    obtain ⟨a, xs, rfl, ha, hd⟩ := h1
    refine ⟨a, rfl, .inl ⟨⟨xs, SqL.of (hid_same _ _ ha)⟩, q _ H1 k1 f1 (it_list fun H2 B2 s => ⟨hid_same _ _ (s _ _ ha), hd.same s⟩)⟩⟩
  | tuple ys =>
    cases e2
    simp only [DatIs] at h1
    obtain ⟨a, xs, rfl, ha, hd⟩ := h1
    refine ⟨a, rfl, .inr ⟨⟨xs, ha.same hid_same⟩, q _ H1 k1 f1 (it_tup fun H2 B2 s => ⟨(ha.same s).same hid_same, hd.same s⟩)⟩⟩
  | _ => cases e2⟩
theorem eib_seq (h : Eb K X e te m) (hK : X.K = K := by rfl) : Eib K X tg e (iSeq K te) (mSeq m) := ⟨pi_seq hK h.pe, fun G B E F σ H R ds F' I e q => by
  obtain ⟨⟨y, F1⟩, e1, e⟩ := Option.bind_eq_some_iff.mp e
  obtain ⟨z, e2, e⟩ := Option.bind_eq_some_iff.mp e
  cases e
  refine h.ok G B E F σ H _ y F1 I e1 fun v H1 k1 f1 h1 => ?_
  cases y with
  | list ys =>
    cases e2
    obtain ⟨a, xs, rfl, ha, hd⟩ := h1
    refine ⟨a, rfl, .inl ⟨⟨xs, SqL.of (hid_same _ _ ha)⟩, q _ H1 k1 f1 (it_list fun H2 B2 k => ⟨hid_same _ _ (k.1.hid (B := fpOf G) (fun _ z => z) _ _ ha), hd.same k.2⟩)⟩⟩
  | tuple ys =>
    cases e2
    obtain ⟨a, xs, rfl, ha, hd⟩ := h1
    refine ⟨a, rfl, .inr ⟨⟨xs, ha.same hid_same⟩, q _ H1 k1 f1 (it_tup fun H2 B2 k => ⟨(ha.same k.2).same hid_same, hd.same k.2⟩)⟩⟩
  | _ => cases e2⟩
def rngL (lo : Int) (n : Nat) : List PyData := (List.range n).map fun (i : Nat) => .int (lo + i)
theorem it_rng {P : Hp → List Addr → Prop} {lo : Int} {n : Nat} : IterOk K P (Itr lo n) (rngL lo n) := fun H B _ => by
  refine ⟨fun i d e => ?_, by show n ≤ _; simp [rngL]⟩
  unfold rngL at e
  rw [List.getElem?_map] at e
  obtain ⟨j, e1, rfl⟩ := Option.map_eq_some_iff.mp e
  obtain ⟨hj, e2⟩ := List.getElem?_eq_some_iff.mp e1
  simp at hj e2
  subst e2
  refine ⟨hj, fun x H2 y => ?_⟩
  obtain ⟨rfl, rfl⟩ := y
  exact ⟨Same.refl _, fun _ => DatIs.int⟩
def rngOf1 : List PyData → Option (List PyData)
  | [.int j] => if -(2 ^ 62) ≤ j ∧ j < 2 ^ 62 then some (rngL 0 j.toNat) else none
  | _ => none
def mRng1 (a : DE → M (List PyData)) : DE → M (List PyData) := fun E F => (a E F).bind fun p => (rngOf1 p.1).bind fun ds => some (ds, p.2)
theorem ei_rng1 {a : Expr} {ta : TA} {ms : DE → M (List PyData)} (h : Ea K X [a] ta ms) (hm : X.mg "range" = none) (hg : Gl X "range" := by rfl) (hs : starEach [a] X.env = [(false, eval a X.env)] := by rfl) : Ei K X tg (.Call (.Name "range" p) [a] [] pos) (iRng1 ta) (mRng1 ms) := ⟨pi_range1 hg hm h.pa hs, fun G B E F σ H R ds F' I e q => by
  obtain ⟨⟨ys, F1⟩, e1, e⟩ := Option.bind_eq_some_iff.mp e
  obtain ⟨z, e2, e⟩ := Option.bind_eq_some_iff.mp e
  cases e
  refine h.ok G B E F σ H _ ys F1 I e1 fun vs H1 k1 f1 h1 => ?_
  unfold rngOf1 at e2
  split at e2
  · rename_i j hj
    split at e2
    · rename_i hc
      cases e2
      have hj : ys = [.int j] := hj
      subst hj
      simp only [DatsAre] at h1
      obtain ⟨x, r, rfl, h2, rfl⟩ := h1
      simp only [DatIs] at h2
      subst h2
      exact ⟨j, rfl, hc.1, hc.2, q _ H1 k1 f1 it_rng⟩
    · cases e2
  · cases e2⟩
def TGd (K : PySem.W.Frag) (g : TG) (bd : PyData → DE → Option DE) : Prop := ∀ (G : GF) (B : List Addr) (E : DE) (F : FS) (σ : St) (H : Hp) (x : V) (d : PyData) (E' : DE) (Q : St → Hp → Prop), SitE K G B E F σ H → DatIs K (hid H B) d x → bd d E = some E' →
  (∀ σ', SitE K G B E' F σ' H → (∀ i : Nat, (∀ y, E'[i]? ≠ some (some (.dat y))) → E'[i]? = E[i]? ∧ σ'[i]? = σ[i]?) → Q σ' H) → g x σ H Q
def TGsd (K : PySem.W.Frag) (g : TGs) (bd : List PyData → DE → Option DE) : Prop := ∀ (G : GF) (B : List Addr) (E : DE) (F : FS) (σ : St) (H : Hp) (xs : List V) (ds : List PyData) (E' : DE) (Q : St → Hp → Prop), SitE K G B E F σ H → DatsAre K (hid H B) ds xs → bd ds E = some E' →
  (∀ σ', SitE K G B E' F σ' H → (∀ i : Nat, (∀ y, E'[i]? ≠ some (some (.dat y))) → E'[i]? = E[i]? ∧ σ'[i]? = σ[i]?) → Q σ' H) → g xs σ H Q
structure Eg (K : PySem.W.Frag) (X : Cx) (tg : Expr) (g : TG) (bd : PyData → DE → Option DE) : Prop where
  pg : PG X tg g
  ok : TGd K g bd
structure Egs (K : PySem.W.Frag) (X : Cx) (tgs : List Expr) (g : TGs) (bd : List PyData → DE → Option DE) : Prop where
  pg : PGs X tgs g
  ok : TGsd K g bd
def bN (i : Nat) : PyData → DE → Option DE := fun d E => if i < E.length then some (E.set i (some (.dat d))) else none
theorem SitE.set {G : GF} {B : List Addr} {E : DE} {F : FS} {σ : St} {H : Hp} {i : Nat} {d : PyData} {v : V} (I : SitE K G B E F σ H) (h : DatIs K (hid H B) d v) (hi : i < E.length) : SitE K G B (E.set i (some (.dat d))) F (σ.set i (some v)) H := by
  refine ⟨I.fd, I.fB, I.bk, by rw [List.length_set, List.length_set]; exact I.ln, fun j x e => ?_⟩
  have hs : i < σ.length := by rw [← I.ln]; exact hi
  by_cases hj : i = j
  · subst hj
    rw [List.getElem?_set_self hi] at e
    cases e
    exact ⟨v, by rw [List.getElem?_set_self hs], h⟩
  · rw [List.getElem?_set_ne hj] at e
    rw [List.getElem?_set_ne hj]
    exact I.loc j x e
theorem eg_n {i : Nat} {x : Str} (hN : X.N.Nodup) (hi : X.N[i]? = some x := by rfl) (hx : Loc X.env.scope x := by first | exact Or.inl rfl | exact Or.inr rfl) (hf : X.fn x = true ∨ X.env.scope.names.lookup x = some .local := by first | exact .inl rfl | exact .inr rfl | assumption) : Eg K X (.Name x pos) (gName i) (bN i) := ⟨pg_name hN hi hx hf, fun G B E F σ H x d E' Q I h e q => by
  unfold bN at e
  split at e
  · rename_i hl
    cases e
    refine q _ (I.set h hl) fun j hj => ?_
    by_cases hij : i = j
    · subst hij
      exact absurd (List.getElem?_set_self hl) (hj d)
    · rw [List.getElem?_set_ne hij, List.getElem?_set_ne hij]
      exact ⟨rfl, rfl⟩
  · cases e⟩
def bNil : List PyData → DE → Option DE := fun ds E => if ds.isEmpty then some E else none
def bCons (a : PyData → DE → Option DE) (r : List PyData → DE → Option DE) : List PyData → DE → Option DE
  | d :: ds, E => (a d E).bind fun E1 => r ds E1
  | [], _ => none
theorem egs_nil : Egs K X [] gNil bNil := ⟨pgs_nil, fun G B E F σ H xs ds E' Q I h e q => by
  cases ds with
  | nil => cases e; simp only [DatsAre] at h; exact ⟨h, q σ I fun _ _ => ⟨rfl, rfl⟩⟩
  | cons d r => cases e⟩
theorem egs_cons {es : List Expr} {t : TG} {u : TGs} {ba : PyData → DE → Option DE} {br : List PyData → DE → Option DE} (h1 : Eg K X e t ba) (h2 : Egs K X es u br)
    (hs : (assignEach (e :: es) X.env).map (·.2) = assign e X.env :: (assignEach es X.env).map (·.2) := by rfl) : Egs K X (e :: es) (gCons t u) (bCons ba br) := ⟨pgs_cons h1.pg h2.pg hs, fun G B E F σ H xs ds E' Q I h e q => by
  cases ds with
  | nil => cases e
  | cons d r =>
    obtain ⟨E1, e1, e⟩ := Option.bind_eq_some_iff.mp e
    simp only [DatsAre] at h
    obtain ⟨x, rr, rfl, hx, hr⟩ := h
    refine ⟨x, rr, rfl, h1.ok G B E F σ H x d E1 _ I hx e1 fun σ1 I1 k1 => ?_⟩
    refine h2.ok G B E1 F σ1 H rr r E' _ I1 hr e fun σ2 I2 k2 => q σ2 I2 fun i hi => ?_
    obtain ⟨a1, a2⟩ := k2 i hi
    obtain ⟨b1, b2⟩ := k1 i (fun y z => hi y (a1.trans z))
    exact ⟨a1.trans b1, a2.trans b2⟩⟩
def bTup (n : Nat) (r : List PyData → DE → Option DE) : PyData → DE → Option DE
  | .tuple ds, E => if ds.length = n then r ds E else none
  | _, _ => none
theorem eg_tup {es : List Expr} {k : Nat} {t : TGs} {n : Nat} {br : List PyData → DE → Option DE} (hc : X.calm = true) (h : Egs K X es t br) (hK : X.K = K := by rfl)
    (hn : (assignEach es X.env).length = n := by rfl) (hst : (assignEach es X.env).findIdx? (·.1) = none := by rfl) : Eg K X (.Tuple es k pos) (gTup K n t) (bTup n br) := ⟨pg_tupK hK hc h.pg hn hst, fun G B E F σ H x d E' Q I hd e q => by
  cases d <;> simp only [bTup] at e <;> try cases e
  split at e
  · rename_i hl
    simp only [DatIs] at hd
    obtain ⟨a, xs, rfl, ha, hx⟩ := hd
    exact ⟨a, xs, rfl, ha.same hid_same, by rw [hx.length]; exact hl, h.ok G B E F σ H xs _ E' Q I hx e q⟩
  · cases e⟩
def capE (k : Nat) (cap : List Nat) (E : DE) : DE := List.replicate k none ++ cap.map fun j => (E[j]?).join
theorem SitE.cap {G : GF} {B : List Addr} {E : DE} {F : FS} {σ : St} {H : Hp} (I : SitE K G B E F σ H) (k : Nat) (cap : List Nat) : SitE K G B (capE k cap E) F (capt k cap σ) H := by
  refine ⟨I.fd, I.fB, I.bk, by simp [capE, capt], fun i x e => ?_⟩
  unfold capE at e
  by_cases hi : i < k
  · rw [List.getElem?_append_left (by simpa using hi), List.getElem?_replicate, if_pos hi] at e
    cases e
  · rw [List.getElem?_append_right (by simpa using hi), List.length_replicate, List.getElem?_map] at e
    obtain ⟨j, hj, hv⟩ := Option.map_eq_some_iff.mp e
    have hE : E[j]? = some (some x) := by
      cases q : E[j]? with
      | none => rw [q] at hv; cases hv
      | some o => rw [q] at hv; exact congrArg some hv
    obtain ⟨v, h1, h2⟩ := I.loc j x hE
    refine ⟨v, ?_, h2⟩
    unfold capt
    rw [List.getElem?_append_right (by simpa using hi), List.length_replicate, List.getElem?_map, hj, Option.map_some, h1]
    rfl
theorem SitE.more {G : GF} {B : List Addr} {E : DE} {F : FS} {σ : St} {H : Hp} {D : Addr} {o : HO} (I : SitE K G B E F σ H) (hD : H D = none) : SitE K G (D :: B) E F σ (upd H D o) := by
  have hn : D ∉ B := I.bk.nin hD
  have e1 : hid (upd H D o) (D :: B) = hid H B := by
    funext b
    by_cases hb : b = D
    · subst hb; rw [hid_in List.mem_cons_self, hid_out hn, hD]
    · by_cases hB : b ∈ B
      · rw [hid_in hB, hid_in (List.mem_cons_of_mem _ hB)]
      · rw [hid_out hB, hid_out (by simp [hb, hB]), upd_ne hb]
  refine ⟨I.fd.same (Same.upd hD), fun b hb => List.mem_cons_of_mem _ (I.fB b hb), fun b hb => ?_, I.ln, fun i x e => ?_⟩
  · rcases List.mem_cons.mp hb with rfl | hb
    · exact ⟨o, upd_same⟩
    · obtain ⟨u, e⟩ := I.bk b hb
      exact ⟨u, by rw [upd_ne (ne_of_none e hD)]; exact e⟩
  · obtain ⟨v, h1, h2⟩ := I.loc i x e
    refine ⟨v, h1, ?_⟩
    cases x with
    | dat d => show DatIs K (hid (upd H D o) (D :: B)) d v; rw [e1]; exact h2
    | feed => exact h2
    | own ds =>
      obtain ⟨a, xs, ea, hB, hf, ha, hd⟩ := h2
      exact ⟨a, xs, ea, List.mem_cons_of_mem _ hB, hf, by rw [upd_ne (ne_of_none ha hD)]; exact ha, by rw [e1]; exact hd⟩
theorem SitE.wr {G : GF} {B : List Addr} {E : DE} {F : FS} {σ : St} {H : Hp} {D : Addr} {o : HO} (I : SitE K G (D :: B) E F σ H) (hf : D ∉ fpOf G) (hown : ∀ (i : Nat) (ds : List PyData), E[i]? = some (some (DV.own ds)) → σ[i]? ≠ some (some (V.ref D))) : SitE K G (D :: B) E F σ (upd H D o) := by
  have e1 : hid (upd H D o) (D :: B) = hid H (D :: B) := hid_upd List.mem_cons_self
  refine ⟨I.fd.congr fun b hb => upd_ne (fun e => hf (e ▸ hb)), I.fB, fun b hb => ?_, I.ln, fun i x e => ?_⟩
  · by_cases h : b = D
    · subst h; exact ⟨o, upd_same⟩
    · rw [upd_ne h]; exact I.bk b hb
  · obtain ⟨v, h1, h2⟩ := I.loc i x e
    refine ⟨v, h1, ?_⟩
    cases x with
    | dat d => show DatIs K (hid (upd H D o) (D :: B)) d v; rw [e1]; exact h2
    | feed => exact h2
    | own ds =>
      obtain ⟨a, xs, rfl, hB, hfa, ha, hd⟩ := h2
      have hne : a ≠ D := fun z => hown i ds e (by rw [← z]; exact h1)
      exact ⟨a, xs, rfl, hB, hfa, by rw [upd_ne hne]; exact ha, by rw [e1]; exact hd⟩
structure Ets (K : PySem.W.Frag) (X : Cx) (ifs : List Expr) (tt : TT) (m : DE → M Bool) : Prop where
  pts : PTs X ifs tt
  ok : TTd K tt m
def uYes : DE → M Bool := fun _ F => some (true, F)
theorem ets_nil : Ets K X [] tNoT uYes := ⟨pts_nil, fun G B E F σ H Q b F' I e q => by cases e; exact q H Kp.refl I.fd⟩
def lcGo (bd : PyData → DE → Option DE) (mt : DE → M Bool) (me : DE → M PyData) : List PyData → DE → M (List PyData)
  | [], _, F => some ([], F)
  | d :: r, E, F => (bd d E).bind fun E1 => (mt E1 F).bind fun p => if p.1 = true then (me E1 p.2).bind fun y => (lcGo bd mt me r E1 y.2).bind fun z => some (y.1 :: z.1, z.2) else lcGo bd mt me r E1 p.2
def sLC (mi : DE → M (List PyData)) (k : Nat) (cap : List Nat) (bd : PyData → DE → Option DE) (mt : DE → M Bool) (me : DE → M PyData) : DE → M PyData := fun E F =>
  (mi E F).bind fun p => if p.1.length ≤ sizeLine then (lcGo bd mt me p.1 (capE k cap E) p.2).bind fun z => some (.list z.1, z.2) else none
def LcInv (K : PySem.W.Frag) (G : GF) (B : List Addr) (D : Addr) (H1 : Hp) (bd : PyData → DE → Option DE) (mt : DE → M Bool) (me : DE → M PyData) (items whole : List PyData) (Fz : FS) (i : Nat) (σ : St) (acc : List V) (H : Hp) : Prop :=
  ∃ E F done rest, SitE K G (D :: B) E F σ H ∧ H D = some (.lst acc) ∧ Kp (fpOf G) H1 H ∧ (∀ (j : Nat) (ds : List PyData), E[j]? = some (some (DV.own ds)) → σ[j]? ≠ some (some (V.ref D))) ∧ DatsAre K (hid H (D :: B)) done acc ∧ lcGo bd mt me (items.drop i) E F = some (rest, Fz) ∧ whole = done ++ rest ∧ done.length ≤ i
theorem lc_d {wi : TI} {mi : DE → M (List PyData)} {k : Nat} {cap : List Nat} {g : TG} {bd : PyData → DE → Option DE} {tt : TT} {mt : DE → M Bool} {me : DE → M PyData} (hi : TIs K wi mi) (hg : TGd K g bd) (ht : TTd K tt mt) (he : TEd K te me) :
    TEd K (tLC wi k cap g tt te) (sLC mi k cap bd mt me) := fun G B E F σ H Q d F' I e q => by
  obtain ⟨⟨items, F1⟩, e1, e⟩ := Option.bind_eq_some_iff.mp e
  split at e
  · rename_i hsz
    obtain ⟨⟨whole, F2⟩, e2, e⟩ := Option.bind_eq_some_iff.mp e
    cases e
    refine hi G B E F σ H _ items F1 I e1 fun J H1 k1 f1 ok D hD => ?_
    have I1 : SitE K G B E F1 σ H1 := I.step k1 f1
    have hBD : D ∉ B := I1.bk.nin hD
    have hfD : D ∉ fpOf G := fun z => hBD (I.fB D z)
    have hsz : items.length ≤ sizeLine := hsz
    have stab : ∀ {H' : Hp}, Kp (fpOf G) H1 H' → Kp (fpOf G) H1 H' ∧ Same (hid H1 B) (hid H' (D :: B)) := fun {H'} k => ⟨k, fun b o eb => by
      by_cases hb : b ∈ B
      · rw [hid_in hb] at eb; cases eb
      · rw [hid_out hb] at eb
        rw [hid_out (by
          intro z
          rcases List.mem_cons.mp z with rfl | z
          · rw [hD] at eb; cases eb
          · exact hb z)]
        exact k b o eb fun z => hb (I.fB b z)⟩
    refine lc_gen items.length (LcInv K G B D H1 bd mt me items whole F2) ?_ ?_ ?_ ?_ ?_
    · refine ⟨capE k cap E, F1, [], whole, (I1.cap k cap).more hD, upd_same, Kp.upd hD, fun j ds ej z => ?_, DatsAre.nil, e2, rfl, Nat.le_refl _⟩
      obtain ⟨v, v1, a, xs, rfl, _, _, ha, _⟩ := (I1.cap k cap).loc j _ ej
      rw [v1] at z
      cases z
      rw [hD] at ha; cases ha
    · rintro i σ' acc H' hlt ⟨E', F3, done, rest, I2, hD2, k2, ow, hd2, e3, ew, hdi⟩
      exact ((ok H' (D :: B) (stab k2)).1 i items[i] (by simp [hlt])).1
    · rintro σ' acc H' ⟨E', F3, done, rest, I2, hD2, k2, ow, hd2, e3, ew, hdi⟩
      exact (ok H' (D :: B) (stab k2)).2
    · rintro i σ' acc H' hlt ⟨E', F3, done, rest, I2, hD2, k2, ow, hd2, e3, ew, hdi⟩ x H2 y R hR
      obtain ⟨s2, hx⟩ := ((ok H' (D :: B) (stab k2)).1 i items[i] (by simp [hlt])).2 x H2 y
      have hx' := hx I2.bk
      rw [List.drop_eq_getElem_cons hlt, lcGo] at e3
      obtain ⟨E4, e4, e3⟩ := Option.bind_eq_some_iff.mp e3
      obtain ⟨⟨b, F5⟩, e5, e3⟩ := Option.bind_eq_some_iff.mp e3
      have I3 : SitE K G (D :: B) E' F3 σ' H2 := I2.step (Kp.same s2) (I2.fd.same s2)
      refine hg G (D :: B) E' F3 σ' H2 x items[i] E4 _ I3 hx' e4 fun σ4 I4 fr => ?_
      have ow4 : ∀ (j : Nat) (ds : List PyData), E4[j]? = some (some (DV.own ds)) → σ4[j]? ≠ some (some (V.ref D)) := fun j ds ej => by
        obtain ⟨a1, a2⟩ := fr j fun y z => by rw [ej] at z; cases z
        rw [a2]; exact ow j ds (a1 ▸ ej)
      refine ht G (D :: B) E4 F3 σ4 H2 _ b F5 I4 e5 fun H5 k5 f5 => ?_
      have kall : Kp (fpOf G) H1 H5 := (k2.trans (Kp.same s2)).trans k5
      have I5 : SitE K G (D :: B) E4 F5 σ4 H5 := I4.step k5 f5
      have hD5 : H5 D = some (.lst acc) := k5 D _ (s2 D _ hD2) hfD
      have hd5 : DatsAre K (hid H5 (D :: B)) done acc := (hd2.same ((Kp.same s2).hid (fp := []) (by simp))).same (k5.hid I4.fB)
      cases b with
      | false =>
        exact ⟨hD5, hR _ _ _ ⟨E4, F5, done, rest, I5, hD5, kall, ow4, hd5, e3, ew, by omega⟩⟩
      | true =>
        obtain ⟨⟨yd, F6⟩, e6, e3⟩ := Option.bind_eq_some_iff.mp e3
        obtain ⟨⟨zs, F7⟩, e7, e3⟩ := Option.bind_eq_some_iff.mp e3
        cases e3
        refine he G (D :: B) E4 F5 σ4 H5 _ yd F6 I5 e6 fun v H6 k6 f6 h6 => ?_
        have hD6 : H6 D = some (.lst acc) := k6 D _ hD5 hfD
        have I6 : SitE K G (D :: B) E4 F6 σ4 H6 := I5.step k6 f6
        have hd6 := hd5.same (k6.hid I5.fB)
        have hlen : acc.length < sizeLine := by rw [hd2.length]; omega
        refine ⟨hD6, hlen, hR _ _ _ ⟨E4, F6, done ++ [yd], zs, I6.wr hfD ow4, upd_same, fun b o eb nb => ?_, ow4, ?_, e7, by rw [ew]; simp, by simp; omega⟩⟩
        · have := k6 b o (kall b o eb nb) nb
          rw [upd_ne]; exact this
          intro z; subst z; rw [hD] at eb; cases eb
        · rw [hid_upd List.mem_cons_self]
          exact hd6.snoc h6
    · rintro σ' acc H' ⟨E', F3, done, rest, I2, hD2, k2, ow, hd2, e3, ew, hdi⟩
      rw [List.drop_length, lcGo] at e3
      cases e3
      rw [List.append_nil] at ew
      subst ew
      refine q _ H' (k1.trans k2) I2.fd ?_
      refine DatIs.lst (by rw [hid_out hBD]; exact hD2) (hd2.same (hid_sub fun b hb => List.mem_cons_of_mem _ hb))
  · cases e
theorem ev_lc {elt : Expr} {ifs : List Expr} {scope osc : Scope} {N : List Str} {k : Nat} {cap : List Nat} {wi : TI} {g : TG} {tt : TT} {mi : DE → M (List PyData)} {bd : PyData → DE → Option DE} {mt : DE → M Bool} {me : DE → M PyData}
    (hc : X.calm = true) (hosc : X.env.scope = osc) (hcap : Caps X.N osc N k cap scope) (hi : Eib K X tg iter wi mi)
    (hg : ∀ cl C ex pins s H, Eg K (cxC X N scope cl C ex pins s H) tg g bd)
    (ht : ∀ cl C ex pins s H, Ets K (cxC X N scope cl C ex pins s H) ifs tt mt)
    (he : ∀ cl C ex pins s H, Ev K (cxC X N scope cl C ex pins s H) elt te me)
    (hs : ∀ x, foldedSetIterable iter X.env x = pure x := by intro _; rfl) :
    Ev K X (.ListComp elt [⟨tg, iter, ifs, 0⟩] scope pos) (tLC wi k cap g tt te) (sLC mi k cap bd mt me) :=
  ⟨pe_lc hc hosc hcap hi.pi (fun cl C ex pins s H => (hg cl C ex pins s H).pg) (fun cl C ex pins s H => (ht cl C ex pins s H).pts) (fun cl C ex pins s H => (he cl C ex pins s H).pe) hs,
    lc_d hi.ok (hg [] 0 [] [] X.s₀ X.H₀).ok (ht [] 0 [] [] X.s₀ X.H₀).ok (he [] 0 [] [] X.s₀ X.H₀).ok⟩
end
end L3
set_option Elab.async false
set_option linter.all false
set_option maxRecDepth 100000
set_option maxHeartbeats 4000000
namespace L3
open PySem PySem.Spec PyProof.Rows L2
section
variable [Feeds]
inductive Out where
  | nx (E : DE) | rt (d : PyData) | bk (E : DE) | ct (E : DE)
structure Sit (K : PySem.W.Frag) (G : GF) (B0 : List Addr) (H0 : Hp) (E : DE) (F : FS) (σ : St) (H : Hp) : Prop where
  ex : ∃ B, (∀ b ∈ B0, b ∈ B) ∧ (∀ b ∈ B, b ∈ B0 ∨ H0 b = none) ∧ SitE K G B E F σ H
  fB : ∀ b ∈ fpOf G, b ∈ B0
  kp : Kp (fpOf G) H0 H
  own : ∀ (i : Nat) (ds : List PyData) (a : Addr), E[i]? = some (some (DV.own ds)) → σ[i]? = some (some (V.ref a)) → H0 a = none ∧ a ∉ B0
  inj : ∀ (i j : Nat) (ds es : List PyData) (a : Addr), E[i]? = some (some (DV.own ds)) → E[j]? = some (some (DV.own es)) → σ[i]? = some (some (V.ref a)) → σ[j]? = some (some (V.ref a)) → i = j
def OutOk (K : PySem.W.Frag) (G : GF) (B0 : List Addr) (H0 : Hp) (F : FS) (D : Ends) : Out → Prop
  | .nx E => ∀ σ H, Sit K G B0 H0 E F σ H → D.nx σ H
  | .bk E => ∀ σ H, Sit K G B0 H0 E F σ H → D.bk σ H
  | .ct E => ∀ σ H, Sit K G B0 H0 E F σ H → D.ct σ H
  | .rt d => ∀ v H, Kp (fpOf G) H0 H → FAt G H F → DatIs K (hid H B0) d v → D.rt v H
def TSd (K : PySem.W.Frag) (ts : TS) (m : DE → M Out) : Prop := ∀ (G : GF) (B0 : List Addr) (H0 : Hp) (E : DE) (F : FS) (σ : St) (H : Hp) (D : Ends) (r : Out) (F' : FS), Sit K G B0 H0 E F σ H → m E F = some (r, F') → OutOk K G B0 H0 F' D r → ts D σ H
structure Ss (K : PySem.W.Frag) (X : Cx) (st : Stmt) (ts : TS) (m : DE → M Out) : Prop where
  ps : PS X st ts
  ok : TSd K ts m
structure Sss (K : PySem.W.Frag) (X : Cx) (sts : List Stmt) (ts : TS) (m : DE → M Out) : Prop where
  ps : PSs X sts ts
  ok : TSd K ts m
variable {K : PySem.W.Frag} {X : Cx} {a b c e tg iter : Expr} {es : List Expr} {st : Stmt} {sts rest : List Stmt} {ta tb te : TE} {ma mb m : DE → M PyData} {t u : TS} {mt mu : DE → M Out} {pos pos' p p2 : Pos}
theorem Sit.step {G : GF} {B0 : List Addr} {H0 : Hp} {E : DE} {F F' : FS} {σ : St} {H H' : Hp} (S : Sit K G B0 H0 E F σ H) (k : Kp (fpOf G) H H') (f : FAt G H' F') : Sit K G B0 H0 E F' σ H' := by
  obtain ⟨B, s, sn, I⟩ := S.ex
  exact ⟨⟨B, s, sn, I.step k f⟩, S.fB, S.kp.trans k, S.own, S.inj⟩
def mNx : DE → M Out := fun E F => some (.nx E, F)
def mSq (a b : DE → M Out) : DE → M Out := fun E F => (a E F).bind fun p => match p.1 with
  | .nx E1 => b E1 p.2
  | o => some (o, p.2)
theorem ss_nil : Sss K X [] tNext mNx := ⟨pss_nil, fun G B0 H0 E F σ H D r F' S e q => by cases e; exact q σ H S⟩
theorem ss_cons (h1 : Ss K X st t mt) (h2 : Sss K X rest u mu) : Sss K X (st :: rest) (tSeq t u) (mSq mt mu) := ⟨pss_cons h1.ps h2.ps, fun G B0 H0 E F σ H D r F' S e q => by
  obtain ⟨⟨o, F1⟩, e1, e⟩ := Option.bind_eq_some_iff.mp e
  refine h1.ok G B0 H0 E F σ H _ o F1 S e1 ?_
  cases o with
  | nx E1 => exact fun σ' H' S' => h2.ok G B0 H0 E1 F1 σ' H' D r F' S' e q
  | rt d => cases e; exact q
  | bk E1 => cases e; exact q
  | ct E1 => cases e; exact q⟩
theorem ss_one (h1 : Ss K X st t mt) : Sss K X [st] t mt := ⟨pss_one h1.ps, h1.ok⟩
def mRt (a : DE → M PyData) : DE → M Out := fun E F => (a E F).bind fun p => some (.rt p.1, p.2)
theorem st_ret (h : Ev K X e te m) : Ss K X (.Return (some e) pos) (tRet te) (mRt m) := ⟨ps_ret h.pe, fun G B0 H0 E F σ H D r F' S e q => by
  obtain ⟨⟨d, F1⟩, e1, e⟩ := Option.bind_eq_some_iff.mp e
  cases e
  obtain ⟨B, s, sn, I⟩ := S.ex
  exact h.ok G B E F σ H _ d F1 I e1 fun v H1 k1 f1 h1 => q v H1 (S.kp.trans k1) f1 (h1.same (hid_sub s))⟩
def mSet (i : Nat) (a : DE → M PyData) : DE → M Out := fun E F => (a E F).bind fun p => (bN i p.1 E).bind fun E1 => some (.nx E1, p.2)
theorem Sit.bind {G : GF} {B0 B : List Addr} {H0 : Hp} {E E' : DE} {F F' : FS} {σ σ' : St} {H : Hp} (S : Sit K G B0 H0 E F σ H) (s : ∀ b ∈ B0, b ∈ B) (sn : ∀ b ∈ B, b ∈ B0 ∨ H0 b = none) (I : SitE K G B E' F' σ' H) (fr : ∀ i : Nat, (∀ y, E'[i]? ≠ some (some (.dat y))) → E'[i]? = E[i]? ∧ σ'[i]? = σ[i]?) : Sit K G B0 H0 E' F' σ' H := by
  refine ⟨⟨B, s, sn, I⟩, S.fB, S.kp, fun i ds a ei si => ?_, fun i j ds es a ei ej si sj => ?_⟩
  · obtain ⟨a1, a2⟩ := fr i fun y z => by rw [ei] at z; cases z
    exact S.own i ds a (a1 ▸ ei) (a2 ▸ si)
  · obtain ⟨a1, a2⟩ := fr i fun y z => by rw [ei] at z; cases z
    obtain ⟨b1, b2⟩ := fr j fun y z => by rw [ej] at z; cases z
    exact S.inj i j ds es a (a1 ▸ ei) (b1 ▸ ej) (a2 ▸ si) (b2 ▸ sj)
theorem asg_d {g : TG} {bd : PyData → DE → Option DE} (he : TEd K te m) (hg : TGd K g bd) : TSd K (tAsg te g) (fun E F => (m E F).bind fun p => (bd p.1 E).bind fun E1 => some (.nx E1, p.2)) := fun G B0 H0 E F σ H D r F' S e q => by
  obtain ⟨⟨d, F1⟩, e1, e⟩ := Option.bind_eq_some_iff.mp e
  obtain ⟨E1, e2, e⟩ := Option.bind_eq_some_iff.mp e
  cases e
  obtain ⟨B, s, sn, I⟩ := S.ex
  refine he G B E F σ H _ d F1 I e1 fun v H1 k1 f1 h1 => ?_
  have S1 := S.step k1 f1
  exact hg G B E F1 σ H1 v d E1 _ (I.step k1 f1) h1 e2 fun σ' I' fr => q σ' H1 (S1.bind s sn I' fr)
theorem name_d (i : Nat) : TGd K (gName i) (bN i) := fun G B E F σ H x d E' Q I h e q => by
  unfold bN at e
  split at e
  · rename_i hl
    cases e
    refine q _ (I.set h hl) fun j hj => ?_
    by_cases hij : i = j
    · subst hij
      exact absurd (List.getElem?_set_self hl) (hj d)
    · rw [List.getElem?_set_ne hij, List.getElem?_set_ne hij]
      exact ⟨rfl, rfl⟩
  · cases e
theorem st_set (i : Nat) {x : Str} (hN : X.N.Nodup) (he : Ev K X e te m) (hi : X.N[i]? = some x := by rfl) (hx : Loc X.env.scope x := by first | exact Or.inl rfl | exact Or.inr rfl) (hs : swapsWith e (some (.Name x pos')) pos.line X.env = pure false := by rfl) (hf : X.fn x = true ∨ X.env.scope.names.lookup x = some .local := by first | exact .inl rfl | exact .inr rfl | assumption) :
    Ss K X (.Assign [.Name x pos'] e pos) (tAsg te (gName i)) (mSet i m) := ⟨ps_set hN hi hx he.pe hs hf, asg_d he.ok (name_d i)⟩
def mAsg (bd : PyData → DE → Option DE) (a : DE → M PyData) : DE → M Out := fun E F => (a E F).bind fun p => (bd p.1 E).bind fun E1 => some (.nx E1, p.2)
theorem st_asg {g : TG} {bd : PyData → DE → Option DE} (he : Ev K X e te m) (hg : Eg K X tg g bd) (hs : swapsWithSole [tg] e pos.line X.env = pure false := by rfl) (hw : swappedStores [tg] e X.env = pure none := by rfl)
    (h1 : (assignEach [tg] X.env).map (·.2) = [assign tg X.env] := by rfl) : Ss K X (.Assign [tg] e pos) (tAsg te g) (mAsg bd m) := ⟨ps_asg he.pe hg.pg hs hw h1, asg_d he.ok hg.ok⟩
def mIf (c : DE → M Bool) (a b : DE → M Out) : DE → M Out := fun E F => (c E F).bind fun p => if p.1 = true then a E p.2 else b E p.2
theorem st_if {x y : List Stmt} {tt : TT} {mc : DE → M Bool} (hc : Et K X c tt mc) (ha : Sss K X x t mt) (hb : Sss K X y u mu) : Ss K X (.If c x y pos) (tIfS tt t u) (mIf mc mt mu) := ⟨ps_if hc.pt ha.ps hb.ps, fun G B0 H0 E F σ H D r F' S e q => by
  obtain ⟨⟨d, F1⟩, e1, e⟩ := Option.bind_eq_some_iff.mp e
  obtain ⟨B, s, sn, I⟩ := S.ex
  refine hc.ok G B E F σ H _ d F1 I e1 fun H1 k1 f1 => ?_
  cases d with
  | true => exact ha.ok G B0 H0 E F1 σ H1 D r F' (S.step k1 f1) e q
  | false => exact hb.ok G B0 H0 E F1 σ H1 D r F' (S.step k1 f1) e q⟩
def mPar (i j : Nat) (a : DE → M (List PyData)) : DE → M Out := fun E F => (a E F).bind fun p => match p.1 with
  | [x, y] => (bN i x E).bind fun E1 => (bN j y E1).bind fun E2 => some (.nx E2, p.2)
  | _ => none
theorem st_par (i j : Nat) {x y : Str} {tl : TA} {ms : DE → M (List PyData)} {px py pt : Pos} {kt k2 pt2} (hc : X.calm = true) (hN : X.N.Nodup) (ha : Ea K X [a, b] tl ms) (hi : X.N[i]? = some x := by rfl) (hj : X.N[j]? = some y := by rfl) (hij : i ≠ j := by decide)
    (hx : X.env.scope.names.lookup x = some .local := by rfl) (hy : X.env.scope.names.lookup y = some .local := by rfl)
    (hw : swappedStores [.Tuple [.Name x px, .Name y py] kt pt] (.Tuple [a, b] k2 pt2) X.env = pure (some [x, y]) := by rfl)
    (hs : swapsWithSole [.Tuple [.Name x px, .Name y py] kt pt] (.Tuple [a, b] k2 pt2) pos.line X.env = pure false := by rfl) :
    Ss K X (.Assign [.Tuple [.Name x px, .Name y py] kt pt] (.Tuple [a, b] k2 pt2) pos) (tPar i j tl) (mPar i j ms) := ⟨ps_par hc hN hi hj hij hx hy ha.pa hw hs, fun G B0 H0 E F σ H D r F' S e q => by
  obtain ⟨⟨ds, F1⟩, e1, e⟩ := Option.bind_eq_some_iff.mp e
  obtain ⟨B, s, sn, I⟩ := S.ex
  refine ha.ok G B E F σ H _ ds F1 I e1 fun vs H1 k1 f1 h1 => ?_
  dsimp only at e
  split at e
  · obtain ⟨E1, e2, e⟩ := Option.bind_eq_some_iff.mp e
    obtain ⟨E2, e3, e⟩ := Option.bind_eq_some_iff.mp e
    cases e
    simp only [DatsAre] at h1
    obtain ⟨v, r1, rfl, hv, w, r2, rfl, hw, rfl⟩ := h1
    have S1 := S.step k1 f1
    refine ⟨v, w, rfl, ?_⟩
    refine name_d i G B E _ σ H1 v _ E1 (fun σ' H' => D.nx (σ'.set j (some w)) H') (I.step k1 f1) hv e2 fun σ' I' fr => ?_
    have S2 := S1.bind s sn I' fr
    exact name_d j G B E1 _ σ' H1 w _ E2 D.nx I' hw e3 fun σ2 I2 fr2 => q σ2 H1 (S2.bind s sn I2 fr2)
  · cases e⟩
end
end L3
set_option Elab.async false
set_option linter.all false
set_option maxRecDepth 100000
set_option maxHeartbeats 4000000
namespace L3
open PySem PySem.Spec PyProof.Rows L2
section
variable [Feeds] {K : PySem.W.Frag} {X : Cx} {a b c e tg iter : Expr} {es : List Expr} {st : Stmt} {sts rest : List Stmt} {ta tb te : TE} {ma mb m : DE → M PyData} {t u : TS} {mt mu : DE → M Out} {pos pos' p p2 : Pos}
def cutH (H : Hp) (B B0 : List Addr) : Hp := hid H (B.filter fun b => decide (b ∉ B0))
theorem cutH_none {H : Hp} {B B0 : List Addr} {b : Addr} (h1 : b ∈ B) (h2 : b ∉ B0) : cutH H B B0 b = none := hid_in (List.mem_filter.mpr ⟨h1, by simpa using h2⟩)
theorem cutH_some {H : Hp} {B B0 : List Addr} {b : Addr} (h : b ∉ B ∨ b ∈ B0) : cutH H B B0 b = H b := hid_out fun z => by
  obtain ⟨z1, z2⟩ := List.mem_filter.mp z
  rcases h with h | h
  · exact h z1
  · simp at z2; exact z2 h
section
variable {G : GF} {B0 B : List Addr} {H0 : Hp} {E E2 : DE} {F F2 : FS} {σ σ2 : St} {H H2 : Hp}
theorem Sit.base (S : Sit K G B0 H0 E F σ H) (s : ∀ b ∈ B0, b ∈ B) (sn : ∀ b ∈ B, b ∈ B0 ∨ H0 b = none) (I : SitE K G B E F σ H) : Sit K G B0 (cutH H B B0) E F σ H := by
  refine ⟨⟨B, s, fun b hb => ?_, I⟩, S.fB, Kp.same hid_same, fun i ds a ei si => ?_, S.inj⟩
  · by_cases h : b ∈ B0
    · exact .inl h
    · exact .inr (cutH_none hb h)
  · obtain ⟨v, v1, a', xs, rfl, hB, _⟩ := I.loc i _ ei
    rw [v1] at si; cases si
    exact ⟨cutH_none hB (S.own i ds _ ei v1).2, (S.own i ds _ ei v1).2⟩
theorem cut_kp (S : Sit K G B0 H0 E F σ H) (sn : ∀ b ∈ B, b ∈ B0 ∨ H0 b = none) (k : Kp (fpOf G) (cutH H B B0) H2) : Kp (fpOf G) H0 H2 := fun b o e n => by
  refine k b o ?_ n
  rw [cutH_some]
  · exact S.kp b o e n
  · by_cases hb : b ∈ B
    · rcases sn b hb with h | h
      · exact .inr h
      · rw [h] at e; cases e
    · exact .inl hb
theorem Sit.unbase (S : Sit K G B0 H0 E F σ H) (sn : ∀ b ∈ B, b ∈ B0 ∨ H0 b = none) (S2 : Sit K G B0 (cutH H B B0) E2 F2 σ2 H2) : Sit K G B0 H0 E2 F2 σ2 H2 := by
  have no : ∀ b, cutH H B B0 b = none → b ∈ B0 ∨ H0 b = none := fun b e => by
    by_cases hb : b ∈ B
    · exact sn b hb
    · rw [cutH_some (.inl hb)] at e
      by_cases hf : b ∈ fpOf G
      · exact .inl (S.fB b hf)
      · cases q : H0 b with
        | none => exact .inr rfl
        | some o => rw [S.kp b o q hf] at e; cases e
  obtain ⟨B2, s2, sn2, I2⟩ := S2.ex
  refine ⟨⟨B2, s2, fun b hb => ?_, I2⟩, S.fB, cut_kp S sn S2.kp, fun i ds a ei si => ?_, S2.inj⟩
  · rcases sn2 b hb with h | h
    · exact .inl h
    · exact no b h
  · obtain ⟨h1, h2⟩ := S2.own i ds a ei si
    exact ⟨(no a h1).resolve_left h2, h2⟩
end
def forGo (bd : PyData → DE → Option DE) (body : DE → M Out) : List PyData → DE → M Out
  | [], E, F => some (.nx E, F)
  | d :: r, E, F => (bd d E).bind fun E1 => (body E1 F).bind fun p => match p.1 with
    | .nx E2 => forGo bd body r E2 p.2
    | .ct E2 => forGo bd body r E2 p.2
    | .bk E2 => some (.nx E2, p.2)
    | .rt d => some (.rt d, p.2)
def mFor (mi : DE → M (List PyData)) (bd : PyData → DE → Option DE) (body : DE → M Out) : DE → M Out := fun E F => (mi E F).bind fun p => forGo bd body p.1 E p.2
theorem for_d {wi : TI} {g : TG} {tb : TS} {mi : DE → M (List PyData)} {bd : PyData → DE → Option DE} {mb : DE → M Out} (hi : TId K wi mi) (hg : TGd K g bd) (hb : TSd K tb mb) : TSd K (tFor wi g tb) (mFor mi bd mb) := fun G B0 H0 E F σ H D r F' S e q => by
  obtain ⟨⟨items, F1⟩, e1, e⟩ := Option.bind_eq_some_iff.mp e
  obtain ⟨B, s, sn, I⟩ := S.ex
  refine hi G B E F σ H _ items F1 I e1 fun J H1 k1 f1 ok => ?_
  have S1 := S.step k1 f1
  have I1 := I.step k1 f1
  have S1' := S1.base s sn I1
  have qn : ∀ {E2 : DE} {F2 : FS}, r = .nx E2 → F' = F2 → ∀ σ2 H2, Sit K G B0 (cutH H1 B B0) E2 F2 σ2 H2 → D.nx σ2 H2 := fun {E2 F2} er ef σ2 H2 S2 => by
    subst er ef
    exact q σ2 H2 (S1.unbase sn S2)
  have stab : ∀ {E2 : DE} {F2 : FS} {σ2 : St} {H2 : Hp} {B2 : List Addr}, Sit K G B0 (cutH H1 B B0) E2 F2 σ2 H2 → (∀ b ∈ B2, b ∈ B0 ∨ cutH H1 B B0 b = none) → Same (hid H1 B) (hid H2 B2) := fun {E2 F2 σ2 H2 B2} S2 sn2 b o eb => by
    by_cases hB : b ∈ B
    · rw [hid_in hB] at eb; cases eb
    · rw [hid_out hB] at eb
      have ec : cutH H1 B B0 b = some o := by rw [cutH_some (.inl hB)]; exact eb
      rw [hid_out fun z => (sn2 b z).elim (fun h => hB (s b h)) fun h => by rw [h] at ec; cases ec]
      exact S2.kp b o ec fun z => hB (s b (S.fB b z))
  refine ⟨fun i m σ H => m = items.length - i ∧ i ≤ items.length ∧ ∃ E F, Sit K G B0 (cutH H1 B B0) E F σ H ∧ forGo bd mb (items.drop i) E F = some (r, F'), ⟨items.length, by simp, Nat.zero_le _, E, F1, S1', e⟩, ?_⟩
  rintro i mm σ2 H2 ⟨rfl, hi2, E2, F2, S2, e2⟩
  obtain ⟨B2, s2, sn2, I2⟩ := S2.ex
  have st2 := stab S2 sn2
  by_cases hlt : i < items.length
  · refine .inr ⟨((ok H2 B2 st2).1 i items[i] (by simp [hlt])).1, fun σ' H' => i + 1 ≤ items.length ∧ ∃ E F, Sit K G B0 (cutH H1 B B0) E F σ' H' ∧ forGo bd mb (items.drop (i + 1)) E F = some (r, F'), fun σ' H' ⟨h1, h2⟩ => ⟨items.length - (i + 1), by omega, rfl, h1, h2⟩, fun x H3 y => ?_⟩
    obtain ⟨s3, hx⟩ := ((ok H2 B2 st2).1 i items[i] (by simp [hlt])).2 x H3 y
    have hx := hx I2.bk
    rw [List.drop_eq_getElem_cons hlt, forGo] at e2
    obtain ⟨E4, e4, e2⟩ := Option.bind_eq_some_iff.mp e2
    obtain ⟨⟨o, F5⟩, e5, e2⟩ := Option.bind_eq_some_iff.mp e2
    have S3 := S2.step (Kp.same s3) (I2.fd.same s3)
    have I3 : SitE K G B2 E2 F2 σ2 H3 := I2.step (Kp.same s3) (I2.fd.same s3)
    refine hg G B2 E2 F2 σ2 H3 x items[i] E4 _ I3 hx e4 fun σ4 I4 fr => ?_
    refine hb G B0 (cutH H1 B B0) E4 F2 σ4 H3 _ o F5 (S3.bind s2 sn2 I4 fr) e5 ?_
    cases o with
    | nx E6 => exact fun σ6 H6 S6 => ⟨hlt, E6, F5, S6, e2⟩
    | ct E6 => exact fun σ6 H6 S6 => ⟨hlt, E6, F5, S6, e2⟩
    | bk E6 => cases e2; exact fun σ6 H6 S6 => qn rfl rfl σ6 H6 S6
    | rt d => cases e2; exact fun v H6 k6 f6 h6 => q v H6 (cut_kp S1 sn k6) f6 h6
  · have ei : i = items.length := by omega
    subst ei
    rw [List.drop_length, forGo] at e2
    cases e2
    exact .inl ⟨(ok H2 B2 st2).2, qn rfl rfl σ2 H2 S2⟩
theorem st_for {body : List Stmt} {wi : TI} {g : TG} {tb : TS} {mi : DE → M (List PyData)} {bd : PyData → DE → Option DE} {mb : DE → M Out} (hc : X.calm = true) (hi : Ei K X tg iter wi mi) (hg : Eg K X tg g bd) (hb : Sss K X body tb mb) (hp : PassesOwn (model X.prog X.w) X.A X.env X.xe := by exact PassesOwn.never)
    (hs : ∀ x, foldedSetIterable iter X.env x = pure x := by intro _; rfl) : Ss K X (.For tg iter body [] pos) (tFor wi g tb) (mFor mi bd mb) := ⟨ps_for hp hc hi.pi hg.pg hb.ps hs, for_d hi.ok hg.ok hb.ok⟩
def TFd (K : PySem.W.Frag) (te : TE) (m : DE → M (List PyData)) : Prop := ∀ (G : GF) (B : List Addr) (E : DE) (F : FS) (σ : St) (H : Hp) (Q : VK) (ds : List PyData) (F' : FS), SitE K G B E F σ H → m E F = some (ds, F') →
  (∀ a vs H', H a = none → H' a = some (.lst vs) → Kp (fpOf G) H H' → FAt G H' F' → DatsAre K (hid H' (a :: B)) ds vs → Q (.ref a) H') → te σ H Q
structure Ef (K : PySem.W.Frag) (X : Cx) (e : Expr) (te : TE) (m : DE → M (List PyData)) : Prop where
  pe : PE X e te
  ok : TFd K te m
theorem Kp.none {fp : List Addr} {H H' : Hp} {b : Addr} (k : Kp fp H H') (h : H' b = none) (n : b ∉ fp) : H b = none := by
  cases q : H b with
  | none => rfl
  | some o => rw [k b o q n] at h; cases h
theorem hid_more {H : Hp} {B : List Addr} {p : Addr} {o : HO} (hp : H p = none) : Same (hid H B) (hid (upd H p o) (p :: B)) := fun b u e => by
  by_cases hb : b ∈ B
  · rw [hid_in hb] at e; cases e
  · rw [hid_out hb] at e
    have hne := ne_of_none e hp
    rw [hid_out (by simp [hne, hb]), upd_ne hne]; exact e
def fCat (a b : DE → M PyData) : DE → M (List PyData) := fun E F => (a E F).bind fun p => (b E p.2).bind fun q => match p.1, q.1 with
  | .list xs, .list ys => if xs.length + ys.length ≤ sizeLine then some (xs ++ ys, q.2) else none
  | _, _ => none
theorem ef_cat (ha : Eb K X a ta ma) (hb : Eb K X b tb mb) : Ef K X (.BinOp a .Add b pos) (tOp rCat ta tb) (fCat ma mb) := ⟨pe_op op_cat ha.pe hb.pe, fun G B E F σ H Q d F' I e q => by
  obtain ⟨⟨x, F1⟩, e1, e⟩ := Option.bind_eq_some_iff.mp e
  obtain ⟨⟨y, F2⟩, e2, e⟩ := Option.bind_eq_some_iff.mp e
  refine ha.ok G B E F σ H _ x F1 I e1 fun v H1 k1 f1 h1 => ?_
  refine hb.ok G B E F1 σ H1 _ y F2 (I.step k1 f1) e2 fun w H2 k2 f2 h2 => ?_
  have h1 := h1.step k2 I.fB
  dsimp only at e
  split at e
  · rename_i xs ys
    split at e
    · rename_i hl
      cases e
      obtain ⟨a1, vs1, rfl, ha1, hd1⟩ := h1
      obtain ⟨a2, vs2, rfl, ha2, hd2⟩ := h2
      refine ⟨a1, a2, vs1, vs2, rfl, rfl, hid_same _ _ ha1, hid_same _ _ ha2, by rw [hd1.length, hd2.length]; exact hl, fun p hp => ?_⟩
      have hnf : p ∉ fpOf G := fun z => (bok_step I.bk (k1.trans k2) f2).nin hp (I.fB p z)
      exact q p _ _ ((k1.trans k2).none hp hnf) upd_same ((k1.trans k2).trans (Kp.upd hp)) (f2.same (Same.upd hp)) (DatsAre.append (hd2.same (hid_more hp)) (hd1.same (hid_more hp)))
    · cases e
  · cases e⟩
def mOwn (i : Nat) (a : DE → M (List PyData)) : DE → M Out := fun E F => (a E F).bind fun p => if i < E.length then some (.nx (E.set i (some (.own p.1))), p.2) else none
theorem own_d {i : Nat} {mf : DE → M (List PyData)} (he : TFd K te mf) : TSd K (tAsg te (gName i)) (mOwn i mf) := fun G B0 H0 E F σ H D r F' S e q => by
  obtain ⟨⟨ds, F1⟩, e1, e⟩ := Option.bind_eq_some_iff.mp e
  split at e
  · rename_i hl
    cases e
    obtain ⟨B, s, sn, I⟩ := S.ex
    refine he G B E F σ H _ ds _ I e1 fun a vs H1 hn ha k1 f1 h1 => ?_
    have I1 := I.step k1 f1
    have hsl : i < σ.length := by rw [← I.ln]; exact hl
    have haB : a ∉ B := I.bk.nin hn
    have haf : a ∉ fpOf G := fun z => haB (I.fB a z)
    have h0 : H0 a = none := S.kp.none hn haf
    have sm : Same (hid H B) (hid H1 (a :: B)) := fun b o eb => by
      by_cases hb : b ∈ B
      · rw [hid_in hb] at eb; cases eb
      · rw [hid_out hb] at eb
        have hne := ne_of_none eb hn
        rw [hid_out (by simp [hne, hb])]
        exact k1 b o eb fun z => hb (I.fB b z)
    refine q _ H1 ⟨⟨a :: B, fun b hb => List.mem_cons_of_mem _ (s b hb), fun b hb => ?_, ⟨f1, fun b hb => List.mem_cons_of_mem _ (I.fB b hb), fun b hb => ?_, by rw [List.length_set, List.length_set]; exact I.ln, fun j x ej => ?_⟩⟩, S.fB, S.kp.trans k1, fun j es a' ej sj => ?_, fun j k es es' a' ej ek sj sk => ?_⟩
    · rcases List.mem_cons.mp hb with rfl | hb
      · exact .inr h0
      · exact sn b hb
    · rcases List.mem_cons.mp hb with rfl | hb
      · exact ⟨_, ha⟩
      · exact I1.bk b hb
    · by_cases hj : i = j
      · subst hj
        rw [List.getElem?_set_self hl] at ej
        cases ej
        exact ⟨.ref a, by rw [List.getElem?_set_self hsl], a, vs, rfl, List.mem_cons_self, haf, ha, h1⟩
      · rw [List.getElem?_set_ne hj] at ej
        obtain ⟨v, v1, v2⟩ := I.loc j x ej
        refine ⟨v, by rw [List.getElem?_set_ne hj]; exact v1, ?_⟩
        cases x with
        | dat d => exact DatIs.same (show DatIs K (hid H B) d v from v2) sm
        | feed => exact v2
        | own es =>
          obtain ⟨a', xs', rfl, hB', hf', ha', hd'⟩ := v2
          exact ⟨a', xs', rfl, List.mem_cons_of_mem _ hB', hf', k1 _ _ ha' hf', hd'.same sm⟩
    · by_cases hj : i = j
      · subst hj
        rw [List.getElem?_set_self hsl] at sj
        cases sj
        exact ⟨h0, fun z => haB (s a z)⟩
      · rw [List.getElem?_set_ne hj] at ej sj
        exact S.own j es a' ej sj
    · have other : ∀ (j : Nat) (es : List PyData), i ≠ j → E[j]? = some (some (DV.own es)) → σ[j]? ≠ some (some (V.ref a)) := fun j es _ ej z => by
        obtain ⟨v, v1, a', xs', rfl, hB', _⟩ := I.loc j _ ej
        rw [v1] at z; cases z
        exact haB hB'
      by_cases hj : i = j
      · by_cases hk : i = k
        · exact hj.symm.trans hk
        · subst hj
          rw [List.getElem?_set_self hsl] at sj
          cases sj
          rw [List.getElem?_set_ne hk] at ek sk
          exact absurd sk (other k es' hk ek)
      · rw [List.getElem?_set_ne hj] at ej sj
        by_cases hk : i = k
        · subst hk
          rw [List.getElem?_set_self hsl] at sk
          cases sk
          exact absurd sj (other j es hj ej)
        · rw [List.getElem?_set_ne hk] at ek sk
          exact S.inj j k es es' a' ej ek sj sk
  · cases e
theorem st_own (i : Nat) {x : Str} {mf : DE → M (List PyData)} (hN : X.N.Nodup) (he : Ef K X e te mf) (hi : X.N[i]? = some x := by rfl) (hx : Loc X.env.scope x := by first | exact Or.inl rfl | exact Or.inr rfl) (hs : swapsWith e (some (.Name x pos')) pos.line X.env = pure false := by rfl) (hf : X.fn x = true ∨ X.env.scope.names.lookup x = some .local := by first | exact .inl rfl | exact .inr rfl | assumption) :
    Ss K X (.Assign [.Name x pos'] e pos) (tAsg te (gName i)) (mOwn i mf) := ⟨ps_set hN hi hx he.pe hs hf, own_d he.ok⟩
end
end L3
set_option Elab.async false
set_option linter.all false
set_option maxRecDepth 100000
set_option maxHeartbeats 4000000
namespace L3
open PySem PySem.Spec PyProof.Rows L2
section
variable [Feeds] {K : PySem.W.Frag} {X : Cx} {a b c e tg iter : Expr} {es : List Expr} {st : Stmt} {sts rest : List Stmt} {ta tb te : TE} {ma mb m : DE → M PyData} {t u : TS} {mt mu : DE → M Out} {pos pos' p p2 : Pos}
section
variable {G : GF} {B0 B : List Addr} {H0 : Hp} {E : DE} {F : FS} {σ : St} {H : Hp}
theorem Sit.write {i : Nat} {ds ds' : List PyData} {x : Addr} {vs' : List V} (S : Sit K G B0 H0 E F σ H) (s : ∀ b ∈ B0, b ∈ B) (sn : ∀ b ∈ B, b ∈ B0 ∨ H0 b = none) (I : SitE K G B E F σ H) (ei : E[i]? = some (some (DV.own ds))) (si : σ[i]? = some (some (V.ref x)))
    (hd : DatsAre K (hid H B) ds' vs') : Sit K G B0 H0 (E.set i (some (.own ds'))) F σ (upd H x (.lst vs')) := by
  have hl : i < E.length := (List.getElem?_eq_some_iff.mp ei).1
  obtain ⟨v, v1, x', xs, rfl, hB, hf, hx, _⟩ := I.loc i _ ei
  rw [si] at v1; cases v1
  have e1 : hid (upd H x (.lst vs')) B = hid H B := hid_upd hB
  obtain ⟨n1, n2⟩ := S.own i ds x ei si
  refine ⟨⟨B, s, sn, ⟨I.fd.congr fun b hb => upd_ne (fun z => hf (z ▸ hb)), I.fB, fun b hb => ?_, by rw [List.length_set]; exact I.ln, fun j y ej => ?_⟩⟩, S.fB, fun b o eb nb => ?_, fun j es a' ej sj => ?_, fun j k es es' a' ej ek sj sk => ?_⟩
  · by_cases h : b = x
    · subst h; exact ⟨_, upd_same⟩
    · rw [upd_ne h]; exact I.bk b hb
  · by_cases hj : i = j
    · subst hj
      rw [List.getElem?_set_self hl] at ej
      cases ej
      exact ⟨.ref x, si, x, vs', rfl, hB, hf, upd_same, by rw [e1]; exact hd⟩
    · rw [List.getElem?_set_ne hj] at ej
      obtain ⟨w, w1, w2⟩ := I.loc j y ej
      refine ⟨w, w1, ?_⟩
      cases y with
      | dat d => show DatIs K (hid (upd H x (.lst vs')) B) d w; rw [e1]; exact w2
      | feed => exact w2
      | own es =>
        obtain ⟨a', xs', rfl, hB', hf', ha', hd'⟩ := w2
        have hne : a' ≠ x := fun z => hj (S.inj i j ds es x ei ej si (z ▸ w1))
        exact ⟨a', xs', rfl, hB', hf', by rw [upd_ne hne]; exact ha', by rw [e1]; exact hd'⟩
  · rw [upd_ne]
    · exact S.kp b o eb nb
    · intro z; subst z; rw [n1] at eb; cases eb
  · by_cases hj : i = j
    · subst hj
      exact S.own i ds a' ei sj
    · rw [List.getElem?_set_ne hj] at ej
      exact S.own j es a' ej sj
  · have back : ∀ (j : Nat) (es : List PyData), (E.set i (some (.own ds')))[j]? = some (some (DV.own es)) → ∃ es, E[j]? = some (some (DV.own es)) := fun j es ej => by
      by_cases hj : i = j
      · subst hj; exact ⟨ds, ei⟩
      · rw [List.getElem?_set_ne hj] at ej; exact ⟨es, ej⟩
    obtain ⟨f1, ej'⟩ := back j es ej
    obtain ⟨f2, ek'⟩ := back k es' ek
    exact S.inj j k f1 f2 a' ej' ek' sj sk
end
def ownOf (E : DE) (i : Nat) : Option (List PyData) := match E[i]? with
  | some (some (.own ds)) => some ds
  | _ => none
theorem ownOf_some {E : DE} {i : Nat} {ds : List PyData} (h : ownOf E i = some ds) : E[i]? = some (some (DV.own ds)) := by
  unfold ownOf at h
  split at h
  · rename_i q; cases h; exact q
  · cases h
def ArgR (K : PySem.W.Frag) (G : GF) (B : List Addr) (H : Hp) : List DV → List V → Prop
  | [], vs => vs = []
  | x :: xs, vs => ∃ v r, vs = v :: r ∧ (∀ ds, x ≠ .own ds) ∧ DVr K G B H x v ∧ ArgR K G B H xs r
def spD (K : PySem.W.Frag) (n : Nat) (f : List DV → M PyData) : Sp := fun vs H Q _ => ∃ G B F args d F', vs.length = n ∧ (∀ b ∈ fpOf G, b ∈ B) ∧ BOk H B ∧ FAt G H F ∧ ArgR K G B H args vs ∧ f args F = some (d, F') ∧
  ∀ v H', Kp (fpOf G) H H' → FAt G H' F' → DatIs K (hid H' B) d v → Q v H'
def startE (N : List Str) (args : List DV) : DE := args.map some ++ List.replicate (N.length - args.length) none
def runD (N : List Str) (m : DE → M Out) : List DV → M PyData := fun args F => (m (startE N args) F).bind fun p => match p.1 with
  | .rt d => some (d, p.2)
  | .nx _ => some (.none, p.2)
  | _ => none
theorem ArgR.length {G : GF} {B : List Addr} {H : Hp} : ∀ {args : List DV} {vs : List V}, ArgR K G B H args vs → vs.length = args.length
  | [], vs, h => by cases h; rfl
  | x :: xs, vs, ⟨v, r, e, _, _, h⟩ => by subst e; rw [List.length_cons, List.length_cons, h.length]
theorem ArgR.get {G : GF} {B : List Addr} {H : Hp} : ∀ {args : List DV} {vs : List V} {i : Nat} {x : DV}, ArgR K G B H args vs → args[i]? = some x → ∃ v, vs[i]? = some v ∧ (∀ ds, x ≠ .own ds) ∧ DVr K G B H x v
  | [], vs, i, x, h, e => by simp at e
  | y :: xs, vs, i, x, ⟨v, r, e1, h1, h2, h3⟩, e => by
    subst e1
    cases i with
    | zero => simp at e; subst e; exact ⟨v, rfl, h1, h2⟩
    | succ i => simpa using h3.get (i := i) (by simpa using e)
theorem start_get {N : List Str} {args : List DV} {i : Nat} {x : DV} (h : (startE N args)[i]? = some (some x)) : args[i]? = some x := by
  unfold startE at h
  by_cases hi : i < args.length
  · rw [List.getElem?_append_left (by simpa using hi), List.getElem?_map] at h
    obtain ⟨y, e1, e2⟩ := Option.map_eq_some_iff.mp h
    cases e2; exact e1
  · rw [List.getElem?_append_right (by simpa using hi), List.getElem?_replicate] at h
    split at h <;> simp at h
theorem sit_start {G : GF} {B : List Addr} {F : FS} {H : Hp} {N : List Str} {args : List DV} {vs : List V} (fB : ∀ b ∈ fpOf G, b ∈ B) (bk : BOk H B) (f : FAt G H F) (h : ArgR K G B H args vs) : Sit K G B H (startE N args) F (L2.start N vs) H := by
  have noown : ∀ (i : Nat) (ds : List PyData), (startE N args)[i]? ≠ some (some (DV.own ds)) := fun i ds e => by
    obtain ⟨v, _, n, _⟩ := h.get (start_get e)
    exact n ds rfl
  refine ⟨⟨B, fun _ z => z, fun b hb => .inl hb, ⟨f, fB, bk, by simp [startE, L2.start, h.length], fun i x e => ?_⟩⟩, fB, Kp.refl, fun i ds a e _ => absurd e (noown i ds), fun i j ds es a e _ _ _ => absurd e (noown i ds)⟩
  obtain ⟨v, v1, _, v2⟩ := h.get (start_get e)
  refine ⟨v, ?_, v2⟩
  have hi : i < vs.length := (List.getElem?_eq_some_iff.mp v1).1
  unfold L2.start
  rw [List.getElem?_append_left (by simpa using hi), List.getElem?_map, v1]
  rfl
variable {P : Program} {w : World} {mg : Str → Option Value} {base : Heap}
theorem def_ok {x qual : Str} {f : Addr} {fd : FuncData} {N ps : List Str} {k : Nat} {m : DE → M Out} (Fn : Fun K x qual st f fd) (S : FnScope N ps (defScope st))
    (hbody : ∀ (cdv : Value) (A : Around) (outer : List Env) (s : Shared) (H : Hp) (E : XK), Room k (A.deeper (envOfC qual (defScope st) s.heap.objs.size f cdv)) →
      ∃ ts, Sss K (cxOf CX0 P w K mg base N qual (defScope st) f cdv A outer s H E).nox (defBody st) ts m) : FnOk P w K mg base CX0 (k + 1) f fd ps (spD K ps.length (runD N m)) := by
  refine Fn.ok S (fun vs H Q E h => ?_) (fun cdv A outer s H vs Q E hr h => ?_)
  · obtain ⟨G, B, F, args, d, F', hl, _⟩ := h
    exact hl
  · obtain ⟨G, B, F, args, d, F', hl, fB, bk, fa, ha, hm, q⟩ := h
    obtain ⟨ts, hts⟩ := hbody cdv A outer s H E hr
    refine ⟨ts, hts.ps, ?_⟩
    obtain ⟨⟨o, F1⟩, e1, e⟩ := Option.bind_eq_some_iff.mp hm
    refine hts.ok G B H (startE N args) F (L2.start N vs) H _ o F1 (sit_start fB bk fa ha) e1 ?_
    cases o with
    | rt d' => cases e; exact fun v H' k1 f1 h1 => q v H' k1 f1 h1
    | nx E' => cases e; exact fun σ' H' S' => q _ H' S'.kp (by obtain ⟨B, _, _, I⟩ := S'.ex; exact I.fd) DatIs.non
    | bk E' => cases e
    | ct E' => cases e
def TVd (K : PySem.W.Frag) (ta : TA) (m : DE → M (List DV)) : Prop := ∀ (G : GF) (B : List Addr) (E : DE) (F : FS) (σ : St) (H : Hp) (Q : List V → Hp → Prop) (ds : List DV) (F' : FS), SitE K G B E F σ H → m E F = some (ds, F') →
  (∀ vs H', Kp (fpOf G) H H' → FAt G H' F' → ArgR K G B H' ds vs → Q vs H') → ta σ H Q
structure Evs (K : PySem.W.Frag) (X : Cx) (es : List Expr) (ta : TA) (m : DE → M (List DV)) : Prop where
  pa : PA X es ta
  ok : TVd K ta m
def vNil : DE → M (List DV) := fun _ F => some ([], F)
def vD (a : DE → M PyData) (r : DE → M (List DV)) : DE → M (List DV) := fun E F => (a E F).bind fun p => (r E p.2).bind fun q => some (.dat p.1 :: q.1, q.2)
def vF (i : Nat) (r : DE → M (List DV)) : DE → M (List DV) := fun E F => match E[i]? with
  | some (some .feed) => (r E F).bind fun q => some (.feed :: q.1, q.2)
  | _ => none
theorem av_nil : Evs K X [] tNil vNil := ⟨pa_nil, fun G B E F σ H Q ds F' I e q => by cases e; exact q [] H Kp.refl I.fd rfl⟩
theorem av_d {tl : TA} {ms : DE → M (List DV)} (ha : Ev K X e te m) (hr : Evs K X es tl ms) (hs : starEach (e :: es) X.env = (false, eval e X.env) :: starEach es X.env := by rfl) : Evs K X (e :: es) (tCons te tl) (vD m ms) :=
  ⟨pa_cons ha.pe hr.pa hs, fun G B E F σ H Q ds F' I e q => by
    obtain ⟨⟨x, F1⟩, e1, e⟩ := Option.bind_eq_some_iff.mp e
    obtain ⟨⟨ys, F2⟩, e2, e⟩ := Option.bind_eq_some_iff.mp e
    cases e
    refine ha.ok G B E F σ H _ x F1 I e1 fun v H1 k1 f1 h1 => ?_
    refine hr.ok G B E F1 σ H1 _ ys _ (I.step k1 f1) e2 fun vs H2 k2 f2 h2 => q _ H2 (k1.trans k2) f2 ⟨v, vs, rfl, (fun _ z => by cases z), h1.same (k2.hid I.fB), h2⟩⟩
theorem av_f (i : Nat) {x : Str} {tl : TA} {ms : DE → M (List DV)} (hr : Evs K X es tl ms) (hN : X.N[i]? = some x := by rfl) (hv : Vis X.env.scope x := by first | exact Or.inl rfl | exact Or.inr (Or.inl rfl) | exact Or.inr (Or.inr rfl)) (hd : (x == ("__debug__" : Str)) = false := by decide)
    (hcd : (x == ("__classdict__" : Str)) = false := by decide) (hs : starEach (.Name x p :: es) X.env = (false, eval (.Name x p) X.env) :: starEach es X.env := by rfl) : Evs K X (.Name x p :: es) (tCons (tVar i) tl) (vF i ms) :=
  ⟨pa_cons (pe_var hN hv hd hcd) hr.pa hs, fun G B E F σ H Q ds F' I e q => by
    unfold vF at e
    split at e
    · rename_i hx
      obtain ⟨⟨ys, F2⟩, e2, e⟩ := Option.bind_eq_some_iff.mp e
      cases e
      obtain ⟨v, v1, v2⟩ := I.loc i _ hx
      refine ⟨v, v1, hr.ok G B E F σ H _ ys _ I e2 fun vs H2 k2 f2 h2 => q _ H2 k2 f2 ⟨v, vs, rfl, (fun _ z => by cases z), v2.step k2 I.fB, h2⟩⟩
    · cases e⟩
def sCall (f : List DV → M PyData) (ms : DE → M (List DV)) : DE → M PyData := fun E F => (ms E F).bind fun p => f p.1 p.2
theorem call_d {n : Nat} {f : List DV → M PyData} {ta : TA} {ms : DE → M (List DV)} (h : TVd K ta ms) (hn : ∀ E F args F', ms E F = some (args, F') → args.length = n) : TEd K (tCall (spD K n f) [] E0 ta) (sCall f ms) := fun G B E F σ H Q d F' I e q => by
  obtain ⟨⟨args, F1⟩, e1, e⟩ := Option.bind_eq_some_iff.mp e
  refine h G B E F σ H _ args F1 I e1 fun vs H1 k1 f1 h1 => ?_
  rw [List.append_nil]
  exact ⟨G, B, F1, args, d, F', by rw [h1.length]; exact hn _ _ _ _ e1, I.fB, bok_step I.bk k1 f1, f1, h1, e, fun v H2 k2 f2 h2 => q v H2 (k1.trans k2) f2 h2⟩
theorem ln_nil : ∀ E F args F', vNil E F = some (args, F') → args.length = 0 := fun E F args F' e => by cases e; rfl
theorem ln_d {n : Nat} {ms : DE → M (List DV)} (h : ∀ E F args F', ms E F = some (args, F') → args.length = n) : ∀ E F args F', vD m ms E F = some (args, F') → args.length = n + 1 := fun E F args F' e => by
  obtain ⟨⟨x, F1⟩, e1, e⟩ := Option.bind_eq_some_iff.mp e
  obtain ⟨⟨ys, F2⟩, e2, e⟩ := Option.bind_eq_some_iff.mp e
  cases e
  rw [List.length_cons, h _ _ _ _ e2]
theorem ln_f {n i : Nat} {ms : DE → M (List DV)} (h : ∀ E F args F', ms E F = some (args, F') → args.length = n) : ∀ E F args F', vF i ms E F = some (args, F') → args.length = n + 1 := fun E F args F' e => by
  unfold vF at e
  split at e
  · obtain ⟨⟨ys, F2⟩, e2, e⟩ := Option.bind_eq_some_iff.mp e
    cases e
    rw [List.length_cons, h _ _ _ _ e2]
  · cases e
theorem ev_call {x : Str} {k n : Nat} {ps : List Str} {f : List DV → M PyData} {tl : TA} {ms : DE → M (List DV)} (C : Callee X.prog X.w X.K X.mg X.base x k ps (spD K n f)) (hr : Room k X.A) (ha : Evs K X (e :: es) tl ms) (hn : ∀ E F args F', ms E F = some (args, F') → args.length = n) (hg : Gl X x := by rfl)
    (hdb : (x == ("__debug__" : Str)) = false := by decide) (he : starEach (e :: es) X.env = (false, eval e X.env) :: starEach es X.env := by rfl) (hpl : (backTo pos (starEach es X.env)).any (·.1) = false := by rfl) :
    Ev K X (.Call (.Name x p) (e :: es) [] pos) (tCall (spD K n f) [] E0 tl) (sCall f ms) := ⟨pe_callee C hr hg ha.pa hdb he hpl, call_d ha.ok hn⟩
theorem ev_call0 {x : Str} {k : Nat} {ps : List Str} {f : List DV → M PyData} (C : Callee X.prog X.w X.K X.mg X.base x k ps (spD K 0 f)) (hr : Room k X.A) (hg : Gl X x := by rfl)
    (hdb : (x == ("__debug__" : Str)) = false := by decide) :
    Ev K X (.Call (.Name x p) [] [] pos) (tCall (spD K 0 f) [] E0 tNil) (sCall f vNil) := ⟨pe_callee0 C hr hg hdb, call_d (av_nil (X := X)).ok ln_nil⟩
end
end L3
set_option Elab.async false
set_option linter.all false
set_option maxRecDepth 100000
set_option maxHeartbeats 4000000
namespace L3
open PySem PySem.Spec PyProof.Rows L2
def feedK (c : Addr) (a l t : Int) : List (Key × V) := [(Sum.inr "cells", .ref c), (Sum.inr "at", .int a), (Sum.inr "left", .int l), (Sum.inr "turn", .int t)]
theorem n1 : ¬ (("cells" : Str) = "at") := by decide +kernel
theorem n2 : ¬ (("cells" : Str) = "left") := by decide +kernel
theorem n3 : ¬ (("cells" : Str) = "turn") := by decide +kernel
theorem n4 : ¬ (("at" : Str) = "left") := by decide +kernel
theorem n5 : ¬ (("at" : Str) = "turn") := by decide +kernel
theorem n6 : ¬ (("left" : Str) = "turn") := by decide +kernel
theorem n4' : ¬ (("left" : Str) = "at") := by decide +kernel
theorem n5' : ¬ (("turn" : Str) = "at") := by decide +kernel
theorem n6' : ¬ (("turn" : Str) = "left") := by decide +kernel
theorem inr_eq (a b : Str) : ((Sum.inr a : Key) = Sum.inr b) = (a = b) := by
  apply propext; constructor
  · intro h; injection h
  · intro h; rw [h]
section
variable {H : Hp} {d c : Addr} {a l t : Int}
theorem v_cells : valV (feedK c a l t) (Sum.inr "cells") = some (.ref c) := by
  unfold feedK; exact valV_pos rfl
theorem v_at : valV (feedK c a l t) (Sum.inr "at") = some (.int a) := by
  unfold feedK; rw [valV_neg (by rw [inr_eq]; exact n1)]; exact valV_pos rfl
theorem v_left : valV (feedK c a l t) (Sum.inr "left") = some (.int l) := by
  unfold feedK; rw [valV_neg (by rw [inr_eq]; exact n2), valV_neg (by rw [inr_eq]; exact n4)]; exact valV_pos rfl
theorem v_turn : valV (feedK c a l t) (Sum.inr "turn") = some (.int t) := by
  unfold feedK; rw [valV_neg (by rw [inr_eq]; exact n3), valV_neg (by rw [inr_eq]; exact n5), valV_neg (by rw [inr_eq]; exact n6)]; exact valV_pos rfl
theorem p_at (z : Int) : putK (feedK c a l t) (Sum.inr "at") (.int z) = feedK c z l t := by
  unfold putK
  rw [valV_any, v_at]
  simp only [Option.isSome_some, if_true, feedK, List.map_cons, List.map_nil, inr_eq, n1, n4, if_true, if_false, n4', n5']
theorem p_left (z : Int) : putK (feedK c a l t) (Sum.inr "left") (.int z) = feedK c a z t := by
  unfold putK
  rw [valV_any, v_left]
  simp only [Option.isSome_some, if_true, feedK, List.map_cons, List.map_nil, inr_eq, n2, n4, if_true, if_false, n6']
theorem p_turn (z : Int) : putK (feedK c a l t) (Sum.inr "turn") (.int z) = feedK c a l z := by
  unfold putK
  rw [valV_any, v_turn]
  simp only [Option.isSome_some, if_true, feedK, List.map_cons, List.map_nil, inr_eq, n3, n5, n6, if_true, if_false]
theorem g_cells (hd : H d = some (.dK (feedK c a l t))) : DGet H d (.str "cells") (some (.ref c)) := by have := DGet.k (k := Sum.inr "cells") hd; rwa [v_cells] at this
theorem g_at (hd : H d = some (.dK (feedK c a l t))) : DGet H d (.str "at") (some (.int a)) := by have := DGet.k (k := Sum.inr "at") hd; rwa [v_at] at this
theorem g_left (hd : H d = some (.dK (feedK c a l t))) : DGet H d (.str "left") (some (.int l)) := by have := DGet.k (k := Sum.inr "left") hd; rwa [v_left] at this
theorem g_turn (hd : H d = some (.dK (feedK c a l t))) : DGet H d (.str "turn") (some (.int t)) := by have := DGet.k (k := Sum.inr "turn") hd; rwa [v_turn] at this
theorem feedK_len : (feedK c a l t).length < sizeLine := small1000 (by show 4 ≤ 1000; decide)
theorem u_at (z : Int) (hd : H d = some (.dK (feedK c a l t))) : DPut H d (.str "at") (.int z) (upd H d (.dK (feedK c z l t))) := by have := DPut.k (k := Sum.inr "at") (v := .int z) hd feedK_len; rwa [p_at] at this
theorem u_left (z : Int) (hd : H d = some (.dK (feedK c a l t))) : DPut H d (.str "left") (.int z) (upd H d (.dK (feedK c a z t))) := by have := DPut.k (k := Sum.inr "left") (v := .int z) hd feedK_len; rwa [p_left] at this
theorem u_turn (z : Int) (hd : H d = some (.dK (feedK c a l t))) : DPut H d (.str "turn") (.int z) (upd H d (.dK (feedK c a l z))) := by have := DPut.k (k := Sum.inr "turn") (v := .int z) hd feedK_len; rwa [p_turn] at this
end
structure FdS where
  ns : List Int
  a : Int
  l : Int
  t : Int
instance fdI : Feeds where
  S := FdS
  At := fun d c H F => H d = some (.dK (feedK c F.a F.l F.t)) ∧ H c = some (.lst (F.ns.map V.int)) ∧ F.ns.length ≤ 63 ∧ 0 ≤ F.a ∧ 0 ≤ F.t
  some1 := fun h => ⟨_, h.1⟩
  some2 := fun h => ⟨_, h.2.1⟩
  congr := fun h e1 e2 => ⟨e1.trans h.1, e2.trans h.2.1, h.2.2⟩
def FdS.cell (F : FdS) : Int := if F.ns = [] then 11 else (F.ns[(F.a % (F.ns.length : Int)).toNat]?).getD 0
def FdS.mix (F : FdS) : Int := (((F.cell % 2147483629 + 7919 * (F.t + 1) * (F.t + 1) + 31) ^ 5 % 2147483647 + 104729 * (F.t + 1)) ^ 5 % 2147483587) / 64
def drawF (m : Int) (F : FdS) : Option (Int × FdS) := if 0 < m ∧ m < 1073741824 ∧ F.t < 199999 then
    some (if 0 < F.l then (F.l % m, ⟨F.ns, F.a, F.l / m, F.t + 1⟩)
      else if 10 ^ 18 ≤ F.cell ∧ F.a < F.ns.length then (F.cell % m, ⟨F.ns, F.a + 1, F.cell / m, F.t + 1⟩)
      else (F.mix % m, ⟨F.ns, F.a + 1, F.l, F.t + 1⟩))
  else none
def drawS : List DV → M PyData
  | [.feed, .dat (.int m)] => fun F => (drawF m F).bind fun p => some (.int p.1, p.2)
  | _ => fun _ => none
theorem draw_some {m : Int} {F : FdS} (h0 : 0 < m) (h1 : m < 1073741824) (h2 : F.t < 199999) : ∃ r F', drawF m F = some (r, F') ∧ 0 ≤ r ∧ r < m ∧ F'.t = F.t + 1 := by
  have b : ∀ x : Int, 0 ≤ x % m ∧ x % m < m := fun x => ⟨Int.emod_nonneg _ (by omega), Int.emod_lt_of_pos _ h0⟩
  unfold drawF
  rw [if_pos ⟨h0, h1, h2⟩]
  by_cases hl : 0 < F.l
  · rw [if_pos hl]; exact ⟨_, _, rfl, (b _).1, (b _).2, rfl⟩
  · rw [if_neg hl]
    by_cases hc : 10 ^ 18 ≤ F.cell ∧ F.a < F.ns.length
    · rw [if_pos hc]; exact ⟨_, _, rfl, (b _).1, (b _).2, rfl⟩
    · rw [if_neg hc]; exact ⟨_, _, rfl, (b _).1, (b _).2, rfl⟩
theorem mod_lt {x m : Int} (h : 0 < m) : 0 ≤ x % m ∧ x % m < m := ⟨Int.emod_nonneg _ (by omega), Int.emod_lt_of_pos _ h⟩
theorem sq_bd {t : Int} (h0 : 0 ≤ t) (h1 : t ≤ 200000) : 0 ≤ 7919 * t * t ∧ 7919 * t * t ≤ 7919 * 200000 * 200000 := by
  refine ⟨Int.mul_nonneg (by omega) h0, Int.mul_le_mul (by omega) h1 h0 (by omega)⟩
theorem bd1 {z q : Int} (h0 : 0 ≤ q) (h1 : q ≤ 7919 * 200000 * 200000) : (z % 2147483629 + q + 31).natAbs < 2 ^ 64 := by
  obtain ⟨q1, q2⟩ := mod_lt (x := z) (m := 2147483629) (by decide)
  omega
theorem bd2 {z t : Int} (h0 : 0 ≤ t) (h1 : t ≤ 200000) : (z % 2147483647 + 104729 * t).natAbs < 2 ^ 64 := by
  obtain ⟨q1, q2⟩ := mod_lt (x := z) (m := 2147483647) (by decide)
  omega
theorem cell_at {F : FdS} (h0 : ¬ F.ns = []) : atI (F.ns.map V.int) (F.a % ((F.ns.map V.int).length : Int)) = some (.int F.cell) := by
  have hp : 0 < F.ns.length := List.length_pos_iff.mpr h0
  rw [List.length_map]
  obtain ⟨q1, q2⟩ := mod_lt (x := F.a) (m := (F.ns.length : Int)) (by omega)
  obtain ⟨j, hj⟩ : ∃ j : Nat, F.a % (F.ns.length : Int) = j := ⟨(F.a % (F.ns.length : Int)).toNat, by omega⟩
  have hjl : j < F.ns.length := by omega
  unfold FdS.cell
  rw [if_neg h0, hj]
  refine atI_nat ?_
  rw [List.getElem?_map]
  simp [hjl]
def newF (ns : List Int) : FdS := ⟨ns, 0, 0, 0⟩
end L3
set_option Elab.async false
set_option linter.all false
set_option maxRecDepth 100000
set_option maxHeartbeats 4000000
namespace L3
open PySem PySem.Spec PyProof.Rows L2
mutual
def constD : Expr → Option PyData
  | .Constant (.int i) _ _ => some (.int i)
  | .Constant (.bool b) _ _ => some (.bool b)
  | .Constant .none _ _ => some .none
  | .Constant (.str x) _ _ => some (.str x)
  | .UnaryOp .USub (.Constant (.int i) _ _) _ => some (.int (-i))
  | .BinOp (.Constant (.int i) _ _) .Pow (.Constant (.int j) _ _) _ => if CPow i j then some (.int (i ^ j.toNat)) else none
  | .Tuple es _ _ => (constDs es).bind fun ds => if ds.length ≤ 10000 then some (.tuple ds) else none
  | .List es _ => (constDs es).bind fun ds => if ds.length ≤ 10000 then some (.list ds) else none
  | _ => none
def constDs : List Expr → Option (List PyData)
  | [] => some []
  | e :: es => (constD e).bind fun d => (constDs es).bind fun ds => some (d :: ds)
end
mutual
def constT : Expr → TE
  | .Constant (.int i) _ _ => tC (.int i)
  | .Constant (.bool b) _ _ => tC (.bl b)
  | .Constant .none _ _ => tC .non
  | .Constant (.str x) _ _ => tC (.str x)
  | .UnaryOp .USub (.Constant (.int i) _ _) _ => tUn (rU fun i => .int (-i)) (tC (.int i))
  | .BinOp (.Constant (.int i) _ _) .Pow (.Constant (.int j) _ _) _ => tOp (rI CPow fun i j => .int (i ^ j.toNat)) (tC (.int i)) (tC (.int j))
  | .Tuple es _ _ => tTup (constTs es)
  | .List es _ => tLst (constTs es)
  | _ => fun _ _ _ => False
def constTs : List Expr → TA
  | [] => tNil
  | e :: es => tCons (constT e) (constTs es)
end
theorem star_const {e : Expr} {es : List Expr} {env : Env} {d : PyData} (h : constD e = some d) : starEach (e :: es) env = (false, eval e env) :: starEach es env := by
  cases e <;> first | rfl | (simp [constD] at h)
section
variable [Feeds] {K : PySem.W.Frag} {X : Cx}
theorem const_all : ∀ n : Nat, (∀ (e : Expr) (d : PyData), sizeOf e < n → constD e = some d → Ev K X e (constT e) (sC d)) ∧ (∀ (es : List Expr) (ds : List PyData), sizeOf es < n → constDs es = some ds → Ea K X es (constTs es) (fun _ F => some (ds, F))) := by
  intro n
  induction n with
  | zero => exact ⟨fun _ _ h => absurd h (Nat.not_lt_zero _), fun _ _ h => absurd h (Nat.not_lt_zero _)⟩
  | succ n ih =>
    refine ⟨fun e d hn h => ?_, fun es ds hn h => ?_⟩
    · unfold constD at h
      split at h
      · cases h; simp only [constT]; exact ev_int
      · cases h; simp only [constT]; exact ev_bl
      · cases h; simp only [constT]; exact ev_non
      · cases h; simp only [constT]; exact ev_str
      · cases h; simp only [constT]
        exact ⟨pe_un un_neg pe_int, fun G B E F σ H Q d F' I e q => by cases e; exact ⟨_, rfl, q _ H Kp.refl I.fd DatIs.int⟩⟩
      · split at h
        · rename_i hc
          cases h; simp only [constT]
          exact ⟨pe_op op_pow pe_int pe_int, fun G B E F σ H Q d F' I e q => by cases e; exact ⟨_, _, rfl, rfl, hc, q _ H Kp.refl I.fd DatIs.int⟩⟩
        · cases h
      · rename_i es k p
        obtain ⟨ds, e1, h⟩ := Option.bind_eq_some_iff.mp h
        split at h
        · rename_i hl
          cases h; simp only [constT]
          have hh := ih.2 es ds (by simp at hn; omega) e1
          exact ⟨pe_tup hh.pa, fun G B E F σ H Q d F' I e q => by
            cases e
            refine hh.ok G B E F σ H _ ds _ I rfl fun vs H1 k1 f1 h1 => ⟨?_, fun p hp => q _ _ (k1.trans (Kp.upd hp)) (f1.same (Same.upd hp)) (new_tup (bok_step I.bk k1 f1) hp h1)⟩
            rw [h1.length]
            exact Nat.le_trans hl (by rw [sizeLine_eq]; decide)⟩
        · cases h
      · rename_i es p
        obtain ⟨ds, e1, h⟩ := Option.bind_eq_some_iff.mp h
        split at h
        · rename_i hl
          cases h; simp only [constT]
          have hh := ih.2 es ds (by simp at hn; omega) e1
          exact ⟨pe_lst hh.pa, fun G B E F σ H Q d F' I e q => by
            cases e
            refine hh.ok G B E F σ H _ ds _ I rfl fun vs H1 k1 f1 h1 => ⟨?_, fun p hp => q _ _ (k1.trans (Kp.upd hp)) (f1.same (Same.upd hp)) (new_lst (bok_step I.bk k1 f1) hp h1)⟩
            rw [h1.length]
            exact Nat.le_trans hl (by rw [sizeLine_eq]; decide)⟩
        · cases h
      · cases h
    · cases es with
      | nil => simp only [constDs] at h; cases h; simp only [constTs]; exact ea_nil
      | cons e es =>
        simp only [constDs] at h
        obtain ⟨d, e1, h⟩ := Option.bind_eq_some_iff.mp h
        obtain ⟨ds', e2, h⟩ := Option.bind_eq_some_iff.mp h
        cases h
        simp only [constTs]
        exact ea_cons (ih.1 e d (by simp at hn; omega) e1) (ih.2 es ds' (by simp at hn; omega) e2) (star_const e1)
theorem const_ev (e : Expr) (d : PyData) (h : constD e = some d) : Ev K X e (constT e) (sC d) := (const_all (sizeOf e + 1)).1 e d (Nat.lt_succ_self _) h
theorem ev_k (d : PyData) {e : Expr} (h : constD e = some d) : Ev K X e (constT e) (sC d) := const_ev e d h
end
end L3
set_option Elab.async false
namespace L3
open PySem
theorem bt_len : bootBuiltins "len" = some (.builtin "len") := by decide +kernel
theorem bt_sum : bootBuiltins "sum" = some (.builtin "sum") := by decide +kernel
theorem bt_abs : bootBuiltins "abs" = some (.builtin "abs") := by decide +kernel
theorem bt_repr : bootBuiltins "repr" = some (.builtin "repr") := by decide +kernel
theorem bt_tuple : bootBuiltins "tuple" = some (.type "tuple") := by decide +kernel
theorem bt_list : bootBuiltins "list" = some (.type "list") := by decide +kernel
theorem bt_int : bootBuiltins "int" = some (.type "int") := by decide +kernel
theorem bt_bool : bootBuiltins "bool" = some (.type "bool") := by decide +kernel
end L3
set_option Elab.async false
set_option linter.all false
set_option maxRecDepth 100000
set_option maxHeartbeats 4000000
namespace L3
open PySem PySem.Spec PyProof.Rows L2
section
variable [Feeds] {K : PySem.W.Frag} {X : Cx} {a b c e tg iter : Expr} {es : List Expr} {ta tb tc te : TE} {ma mb mc m : DE → M PyData} {pos pos' p p2 : Pos}
def fLC (mi : DE → M (List PyData)) (k : Nat) (cap : List Nat) (bd : PyData → DE → Option DE) (mt : DE → M Bool) (me : DE → M PyData) : DE → M (List PyData) := fun E F =>
  (mi E F).bind fun p => if p.1.length ≤ sizeLine then (lcGo bd mt me p.1 (capE k cap E) p.2).bind fun z => some (z.1, z.2) else none
theorem lcf_d {wi : TI} {mi : DE → M (List PyData)} {k : Nat} {cap : List Nat} {g : TG} {bd : PyData → DE → Option DE} {tt : TT} {mt : DE → M Bool} {me : DE → M PyData} (hi : TIs K wi mi) (hg : TGd K g bd) (ht : TTd K tt mt) (he : TEd K te me) :
    TFd K (tLC wi k cap g tt te) (fLC mi k cap bd mt me) := fun G B E F σ H Q d F' I e q => by
  obtain ⟨⟨items, F1⟩, e1, e⟩ := Option.bind_eq_some_iff.mp e
  split at e
  · rename_i hsz
    obtain ⟨⟨whole, F2⟩, e2, e⟩ := Option.bind_eq_some_iff.mp e
    cases e
    refine hi G B E F σ H _ items F1 I e1 fun J H1 k1 f1 ok D hD => ?_
    have I1 : SitE K G B E F1 σ H1 := I.step k1 f1
    have hBD : D ∉ B := I1.bk.nin hD
    have hfD : D ∉ fpOf G := fun z => hBD (I.fB D z)
    have hsz : items.length ≤ sizeLine := hsz
    have stab : ∀ {H' : Hp}, Kp (fpOf G) H1 H' → Kp (fpOf G) H1 H' ∧ Same (hid H1 B) (hid H' (D :: B)) := fun {H'} k => ⟨k, fun b o eb => by
      by_cases hb : b ∈ B
      · rw [hid_in hb] at eb; cases eb
      · rw [hid_out hb] at eb
        rw [hid_out (by
          intro z
          rcases List.mem_cons.mp z with rfl | z
          · rw [hD] at eb; cases eb
          · exact hb z)]
        exact k b o eb fun z => hb (I.fB b z)⟩
    refine lc_gen items.length (LcInv K G B D H1 bd mt me items whole F2) ?_ ?_ ?_ ?_ ?_
    · refine ⟨capE k cap E, F1, [], whole, (I1.cap k cap).more hD, upd_same, Kp.upd hD, fun j ds ej z => ?_, DatsAre.nil, e2, rfl, Nat.le_refl _⟩
      obtain ⟨v, v1, a, xs, rfl, _, _, ha, _⟩ := (I1.cap k cap).loc j _ ej
      rw [v1] at z
      cases z
      rw [hD] at ha; cases ha
    · rintro i σ' acc H' hlt ⟨E', F3, done, rest, I2, hD2, k2, ow, hd2, e3, ew, hdi⟩
      exact ((ok H' (D :: B) (stab k2)).1 i items[i] (by simp [hlt])).1
    · rintro σ' acc H' ⟨E', F3, done, rest, I2, hD2, k2, ow, hd2, e3, ew, hdi⟩
      exact (ok H' (D :: B) (stab k2)).2
    · rintro i σ' acc H' hlt ⟨E', F3, done, rest, I2, hD2, k2, ow, hd2, e3, ew, hdi⟩ x H2 y R hR
      obtain ⟨s2, hx⟩ := ((ok H' (D :: B) (stab k2)).1 i items[i] (by simp [hlt])).2 x H2 y
      have hx' := hx I2.bk
      rw [List.drop_eq_getElem_cons hlt, lcGo] at e3
      obtain ⟨E4, e4, e3⟩ := Option.bind_eq_some_iff.mp e3
      obtain ⟨⟨b, F5⟩, e5, e3⟩ := Option.bind_eq_some_iff.mp e3
      have I3 : SitE K G (D :: B) E' F3 σ' H2 := I2.step (Kp.same s2) (I2.fd.same s2)
      refine hg G (D :: B) E' F3 σ' H2 x items[i] E4 _ I3 hx' e4 fun σ4 I4 fr => ?_
      have ow4 : ∀ (j : Nat) (ds : List PyData), E4[j]? = some (some (DV.own ds)) → σ4[j]? ≠ some (some (V.ref D)) := fun j ds ej => by
        obtain ⟨a1, a2⟩ := fr j fun y z => by rw [ej] at z; cases z
        rw [a2]; exact ow j ds (a1 ▸ ej)
      refine ht G (D :: B) E4 F3 σ4 H2 _ b F5 I4 e5 fun H5 k5 f5 => ?_
      have kall : Kp (fpOf G) H1 H5 := (k2.trans (Kp.same s2)).trans k5
      have I5 : SitE K G (D :: B) E4 F5 σ4 H5 := I4.step k5 f5
      have hD5 : H5 D = some (.lst acc) := k5 D _ (s2 D _ hD2) hfD
      have hd5 : DatsAre K (hid H5 (D :: B)) done acc := (hd2.same ((Kp.same s2).hid (fp := []) (by simp))).same (k5.hid I4.fB)
      cases b with
      | false =>
        exact ⟨hD5, hR _ _ _ ⟨E4, F5, done, rest, I5, hD5, kall, ow4, hd5, e3, ew, by omega⟩⟩
      | true =>
        obtain ⟨⟨yd, F6⟩, e6, e3⟩ := Option.bind_eq_some_iff.mp e3
        obtain ⟨⟨zs, F7⟩, e7, e3⟩ := Option.bind_eq_some_iff.mp e3
        cases e3
        refine he G (D :: B) E4 F5 σ4 H5 _ yd F6 I5 e6 fun v H6 k6 f6 h6 => ?_
        have hD6 : H6 D = some (.lst acc) := k6 D _ hD5 hfD
        have I6 : SitE K G (D :: B) E4 F6 σ4 H6 := I5.step k6 f6
        have hd6 := hd5.same (k6.hid I5.fB)
        have hlen : acc.length < sizeLine := by rw [hd2.length]; omega
        refine ⟨hD6, hlen, hR _ _ _ ⟨E4, F6, done ++ [yd], zs, I6.wr hfD ow4, upd_same, fun b o eb nb => ?_, ow4, ?_, e7, by rw [ew]; simp, by simp; omega⟩⟩
        · have := k6 b o (kall b o eb nb) nb
          rw [upd_ne]; exact this
          intro z; subst z; rw [hD] at eb; cases eb
        · rw [hid_upd List.mem_cons_self]
          exact hd6.snoc h6
    · rintro σ' acc H' ⟨E', F3, done, rest, I2, hD2, k2, ow, hd2, e3, ew, hdi⟩
      rw [List.drop_length, lcGo] at e3
      cases e3
      rw [List.append_nil] at ew
      subst ew
      exact q D acc H' (k1.none hD hfD) hD2 (k1.trans k2) I2.fd hd2
  · cases e
theorem st_ownLC (i : Nat) {y : Str} {py : Pos} {elt : Expr} {ifs : List Expr} {scope osc : Scope} {N : List Str} {k : Nat} {cap : List Nat} {wi : TI} {g : TG} {tt : TT} {mi : DE → M (List PyData)} {bd : PyData → DE → Option DE} {mt : DE → M Bool} {me : DE → M PyData}
    (hN : X.N.Nodup) (hc : X.calm = true) (hosc : X.env.scope = osc) (hcap : Caps X.N osc N k cap scope) (hi : Eib K X tg iter wi mi)
    (hg : ∀ cl C ex pins s H, Eg K (cxC X N scope cl C ex pins s H) tg g bd)
    (ht : ∀ cl C ex pins s H, Ets K (cxC X N scope cl C ex pins s H) ifs tt mt)
    (he : ∀ cl C ex pins s H, Ev K (cxC X N scope cl C ex pins s H) elt te me)
    (hix : X.N[i]? = some y := by rfl) (hLy : Loc X.env.scope y := by first | exact Or.inl rfl | exact Or.inr rfl)
    (hs : ∀ x, foldedSetIterable iter X.env x = pure x := by intro _; rfl) (hfy : X.fn y = true ∨ X.env.scope.names.lookup y = some .local := by first | exact .inl rfl | exact .inr rfl | assumption)
    (hsw : swapsWith (.ListComp elt [⟨tg, iter, ifs, 0⟩] scope p) (some (.Name y py)) pos.line X.env = pure true := by rfl) :
    Ss K X (.Assign [.Name y py] (.ListComp elt [⟨tg, iter, ifs, 0⟩] scope p) pos) (tAsg (tLC wi k cap g tt te) (gName i)) (mOwn i (fLC mi k cap bd mt me)) :=
  ⟨ps_setLC hN hix hLy hc hosc hcap hi.pi (fun cl C ex pins s H => (hg cl C ex pins s H).pg) (fun cl C ex pins s H => (ht cl C ex pins s H).pts) (fun cl C ex pins s H => (he cl C ex pins s H).pe) hs hfy hsw,
    own_d (lcf_d hi.ok (hg [] 0 [] [] X.s₀ X.H₀).ok (ht [] 0 [] [] X.s₀ X.H₀).ok (he [] 0 [] [] X.s₀ X.H₀).ok)⟩
end
end L3
set_option Elab.async false
set_option linter.all false
set_option maxRecDepth 100000
set_option maxHeartbeats 4000000
namespace L3
open PySem PySem.Spec PyProof.Rows L2
section
variable [Feeds] {K : PySem.W.Frag} {X : Cx} {a b c e tg iter : Expr} {es : List Expr} {ta tb tc te : TE} {ma mb mc m : DE → M PyData} {pos pos' p p2 : Pos} {P : Program} {w : World} {mg : Str → Option Value} {base : Heap}
end
end L3
set_option Elab.async false
set_option linter.all false
set_option maxRecDepth 100000
set_option maxHeartbeats 4000000
namespace L3
open PySem PySem.Spec PyProof.Rows L2
section
variable {prog : Program} {w : World} {A : Around} {E : Value → Shared → Prop} {s : Shared}
end
section
variable {prog : Program} {w : World} {A : Around} {E : Value → Shared → Prop} {s : Shared}
end
end L3
set_option Elab.async false
set_option linter.all false
set_option maxRecDepth 100000
set_option maxHeartbeats 4000000
namespace L3
open PySem PySem.Spec PyProof.Rows L2
section
variable [Feeds] {K : PySem.W.Frag} {X : Cx} {tg iter e : Expr} {te : TE} {m : DE → M PyData} {pos p tp : Pos} {es : List Expr} {tk : Nat}
end
end L3
set_option Elab.async false
set_option linter.all false
set_option maxRecDepth 100000
set_option maxHeartbeats 4000000
namespace L3
open PySem PySem.Spec PyProof.Rows L2
section
variable [Feeds] {K : PySem.W.Frag} {X : Cx} {a b c e tg iter : Expr} {es : List Expr} {ta tb tc te : TE} {ma mb mc m : DE → M PyData} {pos pos' p p2 : Pos} {t u : TS} {mt mu : DE → M Out}
def whGo (c : DE → M Bool) (b : DE → M Out) : Nat → DE → M Out
  | 0, _, _ => none
  | n + 1, E, F => (c E F).bind fun p => if p.1 = true then (b E p.2).bind fun q => match q.1 with
    | .nx E2 => whGo c b n E2 q.2
    | .ct E2 => whGo c b n E2 q.2
    | .bk E2 => some (.nx E2, q.2)
    | .rt d => some (.rt d, q.2)
    else some (.nx E, p.2)
theorem whGo_mono {c : DE → M Bool} {b : DE → M Out} : ∀ {n m : Nat} {E : DE} {F : FS} {r : Out × FS}, n ≤ m → whGo c b n E F = some r → whGo c b m E F = some r
  | 0, m, E, F, r, _, h => by cases h
  | n + 1, 0, E, F, r, hl, h => absurd hl (by omega)
  | n + 1, m + 1, E, F, r, hl, h => by
    rw [whGo] at h ⊢
    obtain ⟨⟨x, F1⟩, e1, h⟩ := Option.bind_eq_some_iff.mp h
    rw [e1, Option.bind_some]
    dsimp only at h ⊢
    cases x with
    | false => exact h
    | true =>
      rw [if_pos rfl] at h ⊢
      obtain ⟨⟨o, F2⟩, e2, h⟩ := Option.bind_eq_some_iff.mp h
      rw [e2, Option.bind_some]
      cases o with
      | nx E2 => exact whGo_mono (n := n) (m := m) (by omega) h
      | ct E2 => exact whGo_mono (n := n) (m := m) (by omega) h
      | bk E2 => exact h
      | rt d => exact h
open Classical in
noncomputable def mWh (c : DE → M Bool) (b : DE → M Out) : DE → M Out := fun E F => if h : ∃ n r, whGo c b n E F = some r then some (Classical.choose (Classical.choose_spec h)) else none
theorem mWh_of {c : DE → M Bool} {b : DE → M Out} {n : Nat} {E : DE} {F : FS} {r : Out × FS} (h : whGo c b n E F = some r) : mWh c b E F = some r := by
  unfold mWh
  have hx : ∃ n r, whGo c b n E F = some r := ⟨n, r, h⟩
  rw [dif_pos hx]
  have h2 := Classical.choose_spec (Classical.choose_spec hx)
  have a1 := whGo_mono (Nat.le_max_left n (Classical.choose hx)) h
  have a2 := whGo_mono (Nat.le_max_right n (Classical.choose hx)) h2
  rw [a1] at a2
  exact a2.symm
theorem mWh_to {c : DE → M Bool} {b : DE → M Out} {E : DE} {F : FS} {r : Out × FS} (h : mWh c b E F = some r) : ∃ n, whGo c b n E F = some r := by
  unfold mWh at h
  split at h
  · rename_i hx
    cases h
    exact ⟨_, Classical.choose_spec (Classical.choose_spec hx)⟩
  · cases h
theorem while_d {tt : TT} {tb : TS} {mc : DE → M Bool} {mb : DE → M Out} (hc : TTd K tt mc) (hb : TSd K tb mb) : TSd K (tWhile tt tb) (mWh mc mb) := fun G B0 H0 E F σ H D r F' S e q => by
  obtain ⟨n, e⟩ := mWh_to e
  refine ⟨fun m σ H => ∃ E F, Sit K G B0 H0 E F σ H ∧ whGo mc mb m E F = some (r, F'), ⟨n, E, F, S, e⟩, ?_⟩
  rintro m σ2 H2 ⟨E2, F2, S2, e2⟩
  cases m with
  | zero => cases e2
  | succ m =>
    rw [whGo] at e2
    obtain ⟨⟨x, F3⟩, e3, e2⟩ := Option.bind_eq_some_iff.mp e2
    obtain ⟨B, s, sn, I⟩ := S2.ex
    refine hc G B E2 F2 σ2 H2 _ x F3 I e3 fun H3 k3 f3 => ?_
    have S3 := S2.step k3 f3
    cases x with
    | false =>
      rw [if_neg Bool.false_ne_true]
      cases e2
      exact q σ2 H3 S3
    | true =>
      rw [if_pos rfl]
      rw [if_pos rfl] at e2
      obtain ⟨⟨o, F4⟩, e4, e2⟩ := Option.bind_eq_some_iff.mp e2
      refine ⟨fun σ' H' => ∃ E F, Sit K G B0 H0 E F σ' H' ∧ whGo mc mb m E F = some (r, F'), fun σ' H' h => ⟨m, Nat.lt_succ_self _, h⟩, ?_⟩
      refine hb G B0 H0 E2 F3 σ2 H3 _ o F4 S3 e4 ?_
      cases o with
      | nx E6 => exact fun σ6 H6 S6 => ⟨E6, F4, S6, e2⟩
      | ct E6 => exact fun σ6 H6 S6 => ⟨E6, F4, S6, e2⟩
      | bk E6 => cases e2; exact fun σ6 H6 S6 => q σ6 H6 S6
      | rt d => cases e2; exact fun v H6 k6 f6 h6 => q v H6 k6 f6 h6
theorem st_while {body : List Stmt} {tt : TT} {tb : TS} {mc : DE → M Bool} {mb : DE → M Out} (hc : Et K X c tt mc) (hb : Sss K X body tb mb) (hp : PassesOwn (model X.prog X.w) X.A X.env X.xe := by exact PassesOwn.never) : Ss K X (.While c body [] pos) (tWhile tt tb) (mWh mc mb) :=
  ⟨ps_while hp hc.pt hb.ps, while_d hc.ok hb.ok⟩
end
end L3
set_option Elab.async false
set_option linter.all false
set_option maxRecDepth 100000
set_option maxHeartbeats 4000000
namespace L3
open PySem PySem.Spec PyProof.Rows L2
section
variable [Feeds] {K : PySem.W.Frag} {X : Cx} {a b c e tg iter : Expr} {es : List Expr} {ta tb tc te : TE} {ma mb mc m : DE → M PyData} {pos pos' p p2 : Pos}
def mPar3 (i j k : Nat) (a : DE → M (List PyData)) : DE → M Out := fun E F => (a E F).bind fun p => match p.1 with
  | [x, y, z] => (bN i x E).bind fun E1 => (bN j y E1).bind fun E2 => (bN k z E2).bind fun E3 => some (.nx E3, p.2)
  | _ => none
theorem st_par3 (i j k : Nat) {x y z : Str} {tl : TA} {ms : DE → M (List PyData)} {px py pz pt : Pos} {kt k2 pt2} (hc : X.calm = true) (hN : X.N.Nodup) (ha : Ea K X [a, b, c] tl ms) (hi : X.N[i]? = some x := by rfl) (hj : X.N[j]? = some y := by rfl) (hk : X.N[k]? = some z := by rfl) (hij : i ≠ j := by decide) (hik : i ≠ k := by decide) (hjk : j ≠ k := by decide)
    (hx : X.env.scope.names.lookup x = some .local := by rfl) (hy : X.env.scope.names.lookup y = some .local := by rfl) (hz : X.env.scope.names.lookup z = some .local := by rfl)
    (hw : swappedStores [.Tuple [.Name x px, .Name y py, .Name z pz] kt pt] (.Tuple [a, b, c] k2 pt2) X.env = pure (some [x, y, z]) := by rfl)
    (hs : swapsWithSole [.Tuple [.Name x px, .Name y py, .Name z pz] kt pt] (.Tuple [a, b, c] k2 pt2) pos.line X.env = pure false := by rfl) :
    Ss K X (.Assign [.Tuple [.Name x px, .Name y py, .Name z pz] kt pt] (.Tuple [a, b, c] k2 pt2) pos) (tPar3 i j k tl) (mPar3 i j k ms) := ⟨ps_par3 hc hN hi hj hk hij hik hjk hx hy hz ha.pa hw hs, fun G B0 H0 E F σ H D r F' S e q => by
  obtain ⟨⟨ds, F1⟩, e1, e⟩ := Option.bind_eq_some_iff.mp e
  obtain ⟨B, s, sn, I⟩ := S.ex
  refine ha.ok G B E F σ H _ ds F1 I e1 fun vs H1 k1 f1 h1 => ?_
  dsimp only at e
  split at e
  · obtain ⟨E1, e2, e⟩ := Option.bind_eq_some_iff.mp e
    obtain ⟨E2, e3, e⟩ := Option.bind_eq_some_iff.mp e
    obtain ⟨E3, e4, e⟩ := Option.bind_eq_some_iff.mp e
    cases e
    simp only [DatsAre] at h1
    obtain ⟨v, r1, rfl, hv, w, r2, rfl, hw, u, r3, rfl, hu, rfl⟩ := h1
    have S1 := S.step k1 f1
    refine ⟨v, w, u, rfl, ?_⟩
    refine name_d i G B E _ σ H1 v _ E1 (fun σ' H' => D.nx ((σ'.set j (some w)).set k (some u)) H') (I.step k1 f1) hv e2 fun σ' I' fr => ?_
    have S2 := S1.bind s sn I' fr
    refine name_d j G B E1 _ σ' H1 w _ E2 (fun σ' H' => D.nx (σ'.set k (some u)) H') I' hw e3 fun σ2 I2 fr2 => ?_
    have S3 := S2.bind s sn I2 fr2
    exact name_d k G B E2 _ σ2 H1 u _ E3 D.nx I2 hu e4 fun σ3 I3 fr3 => q σ3 H1 (S3.bind s sn I3 fr3)
  · cases e⟩
end
end L3
set_option Elab.async false
set_option linter.all false
set_option maxRecDepth 100000
set_option maxHeartbeats 4000000
namespace L3
open PySem PySem.Spec PyProof.Rows L2
section
variable {X : Cx}
def rInsert : V → List V → Hp → VK → Prop := fun x vs H Q => ∃ l xs k y, x = .ref l ∧ vs = [.int k, y] ∧ H l = some (.lst xs) ∧ 0 ≤ k ∧ k ≤ xs.length ∧ xs.length < sizeLine ∧ Q .non (upd H l (.lst (xs.take k.toNat ++ [y] ++ xs.drop k.toNat)))
theorem mt_insert : MtM X "list.insert" rInsert := by
  intro pins s σ H x vs v us Q I rx rv h
  obtain ⟨l, xs, k, y, rfl, rfl, hH, k0, k1, hz, q⟩ := h
  cases rx
  cases rv with
  | cons r1 rr =>
    cases rr with
    | cons r2 rr =>
      cases rr
      rename_i u2
      obtain ⟨tk, rfl⟩ := r1
      obtain ⟨z, its, n, r, hl, e⟩ := I.lstM hH
      have hln := line63
      have hfit : ¬ (!Builtin.List.listFitsIndex k) = true := by
        rw [fitsIndex_both (by omega) (by omega)]
        exact Bool.false_ne_true
      have hk : k.toNat ≤ its.length := by omega
      refine call_meets PySem.F.slot_list_insert ⟨_, e, rfl⟩ PySem.F.entry_list_insert (PySem.F.args_list_insert_3 _ _ _) (PySem.AutoListH.list_insert_list_int_val_1 l its.toArray n k tk u2 hfit (by rw [List.size_toArray]; omega)) ⟨e, ?_⟩
      refine ⟨.non, _, I.lset (its' := its.take k.toNat ++ [u2] ++ its.drop k.toNat) hH e ?_ ((Vals.append (Vals.take k.toNat r) (.cons r2 .nil)).append (Vals.drop k.toNat r)) ?_, rfl, q⟩
      · have h1 : (if k < 0 then (k + ((its.toArray.size : Nat) : Int)).toNat else min k.toNat its.toArray.size) = k.toNat := by
          rw [if_neg (by omega), List.size_toArray]; omega
        show (have kk := if k < 0 then (k + ((its.toArray.size : Nat) : Int)).toNat else min k.toNat its.toArray.size; (its.toArray.extract 0 kk).push u2 ++ its.toArray.extract kk) = _
        rw [h1]
        apply Array.ext'
        simp [List.take_of_length_le]
      · simp only [List.length_append, List.length_take, List.length_drop, List.length_singleton]
        omega
end
section
variable [Feeds] {K : PySem.W.Frag} {X : Cx} {a b c e tg iter : Expr} {es : List Expr} {ta tb tc te : TE} {ma mb mc m : DE → M PyData} {pos pos' p p2 pos2 : Pos}
def mIns (i : Nat) (k v : DE → M PyData) : DE → M Out := fun E F => (k E F).bind fun p => (v E p.2).bind fun q => (intOf p.1).bind fun n => (ownOf E i).bind fun ds => if 0 ≤ n ∧ n ≤ ds.length ∧ ds.length < sizeLine then some (.nx (E.set i (some (.own (ds.take n.toNat ++ [q.1] ++ ds.drop n.toNat)))), q.2) else none
theorem DatsAre.take {H : Hp} : ∀ {ds : List PyData} {xs : List V} (n : Nat), DatsAre K H ds xs → DatsAre K H (ds.take n) (xs.take n)
  | ds, xs, 0, _ => by simp [DatsAre]
  | [], xs, n + 1, h => by simp only [DatsAre] at h; subst h; simp [DatsAre]
  | d :: ds, xs, n + 1, h => by
    simp only [DatsAre] at h
    obtain ⟨y, r, rfl, h1, h2⟩ := h
    simp only [List.take_succ_cons, DatsAre]
    exact ⟨y, r.take n, rfl, h1, DatsAre.take n h2⟩
theorem ins_d {i : Nat} (hk : TEd K tb mb) (hv : TEd K te m) : TSd K (tDrop (tBM K "list" rInsert (tVar i) (tCons tb (tCons te tNil)))) (mIns i mb m) := fun G B0 H0 E F σ H D r F' S e q => by
  obtain ⟨⟨n, F1⟩, e1, e⟩ := Option.bind_eq_some_iff.mp e
  obtain ⟨⟨d, F2⟩, e2, e⟩ := Option.bind_eq_some_iff.mp e
  obtain ⟨k, e3, e⟩ := Option.bind_eq_some_iff.mp e
  obtain ⟨ds, e4, e⟩ := Option.bind_eq_some_iff.mp e
  split at e
  · rename_i hl
    cases e
    obtain ⟨B, s, sn, I⟩ := S.ex
    have eo := ownOf_some e4
    obtain ⟨w, w1, a, xs, rfl, hB, hf, hx, hdx⟩ := I.loc i _ eo
    refine ⟨_, w1, .inl ⟨rfl, xs, SqL.of hx⟩, hk G B E F σ H _ n F1 I e1 fun u H1 k1 f1 h1 => hv G B E F1 σ H1 _ d _ (I.step k1 f1) e2 fun u2 H2 k2 f2 h2 => ?_⟩
    have := intOf_some e3
    simp only at this
    subst this
    simp only [DatIs] at h1
    subst h1
    have hd2 := (hdx.same (k1.hid I.fB)).same (k2.hid I.fB)
    refine ⟨a, xs, k, u2, rfl, rfl, k2 a _ (k1 a _ hx hf) hf, hl.1, by rw [hdx.length]; exact hl.2.1, by rw [hdx.length]; exact hl.2.2, q σ _ ((S.step (k1.trans k2) f2).write s sn ((I.step k1 f1).step k2 f2) eo w1 ?_)⟩
    exact DatsAre.append (DatsAre.drop _ hd2) ((DatsAre.take _ hd2).snoc h2)
  · cases e
theorem st_ins (i : Nat) {x : Str} {px ap cp : Pos} (hK : X.K = K) (hk : Ev K X b tb mb) (hv : Ev K X e te m) (hN : X.N[i]? = some x := by rfl) (hvis : Vis X.env.scope x := by first | exact Or.inl rfl | exact Or.inr (Or.inl rfl) | exact Or.inr (Or.inr rfl)) (hd : (x == ("__debug__" : Str)) = false := by decide) (hcd : (x == ("__classdict__" : Str)) = false := by decide)
    (hbase : attributeBase (.Name x px) "insert" X.env (eval (.Name x px) X.env) = eval (.Name x px) X.env := by rfl)
    (hfew : ((backTo cp (starEach [b, e] X.env)).all (fun x => !x.1) && (backToKw cp (keywordEach [] X.env)).all (fun x => x.1.isSome)
      && decide ([b, e].length + ([] : List Keyword).length + (if ([] : List Keyword).isEmpty then 0 else 1) < 30)) = true := by rfl)
    (hline : (ap.endLine == cp.line) = true := by rfl) (hst : starEach [b, e] X.env = (false, eval b X.env) :: starEach [e] X.env := by rfl) (hst2 : starEach [e] X.env = (false, eval e X.env) :: starEach [] X.env := by rfl) (hplain : (backTo cp (starEach [e] X.env)).any (·.1) = false := by rfl)
    (hs : swapsWith (.Call (.Attribute (.Name x px) "insert" ap) [b, e] [] cp) none pos.line X.env = pure false := by rfl) :
    Ss K X (.Expr (.Call (.Attribute (.Name x px) "insert" ap) [b, e] [] cp) pos) (tDrop (tBM K "list" rInsert (tVar i) (tCons tb (tCons te tNil)))) (mIns i mb m) := by
  subst hK
  exact ⟨ps_expr (pe_bm PySem.F.plainAttrs_list PySem.F.slot_list_insert PySem.F.type_list_insert mt_insert (pe_var hN hvis hd hcd) (pa_cons hk.pe (pa_cons hv.pe pa_nil hst2) hst) hbase hfew hline hst hplain) hs, ins_d hk.ok hv.ok⟩
end
end L3
set_option Elab.async false
set_option linter.all false
set_option maxRecDepth 100000
set_option maxHeartbeats 4000000
namespace K2
open PySem L2 L3
def top (i : Nat) : Stmt := PySem.Challenge.pw_hatchwaits_k02_fractions_reckoned.main.body.getD i (.Pass ⟨0, 0, 0, 0⟩)
abbrev s_common_divisor : Stmt := top 1
abbrev s_fraction : Stmt := top 2
abbrev s_plus : Stmt := top 3
abbrev s_minus : Stmt := top 4
abbrev s_times : Stmt := top 5
abbrev s_over : Stmt := top 6
abbrev s_less : Stmt := top 7
abbrev s_mean_of : Stmt := top 8
abbrev s__law_feed : Stmt := top 10
abbrev s__law_draw : Stmt := top 11
abbrev s__law_wide : Stmt := top 12
abbrev s__law_is_number : Stmt := top 13
abbrev s__law_common : Stmt := top 14
abbrev s__law_size : Stmt := top 15
abbrev s__law_top : Stmt := top 16
abbrev s__law_low : Stmt := top 17
abbrev s__law_is_fraction : Stmt := top 18
abbrev s__law_is_as_much : Stmt := top 19
abbrev s__law_below : Stmt := top 20
abbrev s__law_other : Stmt := top 21
abbrev s__law_two_right : Stmt := top 22
abbrev s__law_long : Stmt := top 23
abbrev s__law_mean_right : Stmt := top 24
abbrev s_law : Stmt := top 25
structure Txt (K : PySem.W.Frag) (mg : Str → Option Value) : Prop where
  abs : mg "abs" = none
  bool : mg "bool" = none
  int : mg "int" = none
  isinstance : mg "isinstance" = none
  len : mg "len" = none
  list : mg "list" = none
  range : mg "range" = none
  repr : mg "repr" = none
  sum : mg "sum" = none
  tuple : mg "tuple" = none
noncomputable section
variable {P : Program} {w : World} {K : PySem.W.Frag} {mg : Str → Option Value} {base : Heap}
theorem sc_common_divisor : FnScope ["one", "other"] ["one", "other"] (defScope s_common_divisor) := ⟨rfl, rfl, rfl, by decide +kernel, rfl, by decide +kernel, by decide +kernel⟩
def f_common_divisor : List DV → M PyData := runD ["one", "other"] (mSq (mPar 0 1 (sCons (sN absD (sCons (sW 0) sNil)) (sCons (sN absD (sCons (sW 1) sNil)) sNil)))
    (mSq (mWh (uB (s2 gtD (sW 1) (sC (.int 0)))) (mPar 0 1 (sCons (sV 1) (sCons (s2 modD (sW 0) (sW 1)) sNil))))
    (mRt (sV 0))))
theorem ok_common_divisor {f : Addr} {fd : FuncData} (Fn : Fun K "common_divisor" "common_divisor" s_common_divisor f fd) (T : Txt K mg)  : FnOk P w K mg base CX0 1 f fd ["one", "other"] (spD K 2 f_common_divisor) := by
  refine def_ok Fn sc_common_divisor fun cdv A outer s H E hr => ?_
  have hu5 : (A.deeper (PyProof.Rows.envOfC "common_divisor" (defScope s_common_divisor) s.heap.objs.size f cdv)).units + 65 < cLine := by have := hr.un; omega
  exact ⟨_, (ss_cons (st_par 0 1 rfl sc_common_divisor.nd (ea_cons (ev_callB (cd_abs) T.abs bt_abs (es_cons (eb_v 0) es_nil)) (ea_cons (ev_callB (cd_abs) T.abs bt_abs (es_cons (eb_v 1) es_nil)) ea_nil)))
      (ss_cons (st_while (et_cmp od_gt (eb_v 1) (Ev.bw ev_int)) (ss_one (st_par 0 1 rfl sc_common_divisor.nd (ea_cons (ev_v 1) (ea_cons (ev_op od_mod (eb_v 0) (eb_v 1)) ea_nil)))))
      (ss_one (st_ret (ev_v 0)))))⟩
theorem sc_fraction : FnScope ["top", "bottom", "divisor"] ["top", "bottom"] (defScope s_fraction) := ⟨rfl, rfl, rfl, by decide +kernel, rfl, by decide +kernel, by decide +kernel⟩
def f_fraction : List DV → M PyData := runD ["top", "bottom", "divisor"] (mSq (mSet 2 (sCall f_common_divisor (vD (sV 0) (vD (sV 1) vNil))))
    (mSq (mIf (uB (s2 ltD (sW 1) (sC (.int 0)))) (mSet 2 (s1 negD (sW 2))) mNx)
    (mRt (sTup (sCons (s2 fdivD (sW 0) (sW 2)) (sCons (s2 fdivD (sW 1) (sW 2)) sNil))))))
theorem ok_fraction {f : Addr} {fd : FuncData} (Fn : Fun K "fraction" "fraction" s_fraction f fd) (T : Txt K mg) (C_common_divisor : Callee P w K mg base "common_divisor" 1 ["one", "other"] (spD K 2 f_common_divisor)) : FnOk P w K mg base CX0 2 f fd ["top", "bottom"] (spD K 2 f_fraction) := by
  refine def_ok Fn sc_fraction fun cdv A outer s H E hr => ?_
  have hu5 : (A.deeper (PyProof.Rows.envOfC "fraction" (defScope s_fraction) s.heap.objs.size f cdv)).units + 65 < cLine := by have := hr.un; omega
  exact ⟨_, (ss_cons (st_set 2 sc_fraction.nd (ev_call C_common_divisor (hr.mono (by decide)) (av_d (ev_v 0) (av_d (ev_v 1) av_nil)) (ln_d (ln_d ln_nil))))
      (ss_cons (st_if (et_cmp od_lt (eb_v 1) (Ev.bw ev_int)) (ss_one (st_set 2 sc_fraction.nd (ev_un ud_neg (eb_v 2)))) ss_nil)
      (ss_one (st_ret (ev_tup (ea_cons (ev_op od_fdiv (eb_v 0) (eb_v 2)) (ea_cons (ev_op od_fdiv (eb_v 1) (eb_v 2)) ea_nil)))))))⟩
theorem sc_plus : FnScope ["one", "other"] ["one", "other"] (defScope s_plus) := ⟨rfl, rfl, rfl, by decide +kernel, rfl, by decide +kernel, by decide +kernel⟩
def f_plus : List DV → M PyData := runD ["one", "other"] (mRt (sCall f_fraction (vD (s2 addD (s2 mulD' (s2 ixD (sW 0) (sC (.int 0))) (s2 ixD (sW 1) (sC (.int 1)))) (s2 mulD' (s2 ixD (sW 1) (sC (.int 0))) (s2 ixD (sW 0) (sC (.int 1))))) (vD (s2 mulD' (s2 ixD (sW 0) (sC (.int 1))) (s2 ixD (sW 1) (sC (.int 1)))) vNil))))
theorem ok_plus {f : Addr} {fd : FuncData} (Fn : Fun K "plus" "plus" s_plus f fd) (T : Txt K mg) (C_fraction : Callee P w K mg base "fraction" 2 ["top", "bottom"] (spD K 2 f_fraction)) : FnOk P w K mg base CX0 3 f fd ["one", "other"] (spD K 2 f_plus) := by
  refine def_ok Fn sc_plus fun cdv A outer s H E hr => ?_
  have hu5 : (A.deeper (PyProof.Rows.envOfC "plus" (defScope s_plus) s.heap.objs.size f cdv)).units + 65 < cLine := by have := hr.un; omega
  exact ⟨_, (ss_one (st_ret (ev_call C_fraction (hr.mono (by decide)) (av_d (ev_op (od_add rfl) (Ev.bw (ev_op (od_mul' rfl) (Ev.bw (ev_ix (id_ix rfl) (eb_v 0) (Ev.bw ev_int))) (Ev.bw (ev_ix (id_ix rfl) (eb_v 1) (Ev.bw ev_int))))) (Ev.bw (ev_op (od_mul' rfl) (Ev.bw (ev_ix (id_ix rfl) (eb_v 1) (Ev.bw ev_int))) (Ev.bw (ev_ix (id_ix rfl) (eb_v 0) (Ev.bw ev_int)))))) (av_d (ev_op (od_mul' rfl) (Ev.bw (ev_ix (id_ix rfl) (eb_v 0) (Ev.bw ev_int))) (Ev.bw (ev_ix (id_ix rfl) (eb_v 1) (Ev.bw ev_int)))) av_nil)) (ln_d (ln_d ln_nil)))))⟩
theorem sc_minus : FnScope ["one", "other"] ["one", "other"] (defScope s_minus) := ⟨rfl, rfl, rfl, by decide +kernel, rfl, by decide +kernel, by decide +kernel⟩
def f_minus : List DV → M PyData := runD ["one", "other"] (mRt (sCall f_fraction (vD (s2 subD (s2 mulD' (s2 ixD (sW 0) (sC (.int 0))) (s2 ixD (sW 1) (sC (.int 1)))) (s2 mulD' (s2 ixD (sW 1) (sC (.int 0))) (s2 ixD (sW 0) (sC (.int 1))))) (vD (s2 mulD' (s2 ixD (sW 0) (sC (.int 1))) (s2 ixD (sW 1) (sC (.int 1)))) vNil))))
theorem ok_minus {f : Addr} {fd : FuncData} (Fn : Fun K "minus" "minus" s_minus f fd) (T : Txt K mg) (C_fraction : Callee P w K mg base "fraction" 2 ["top", "bottom"] (spD K 2 f_fraction)) : FnOk P w K mg base CX0 3 f fd ["one", "other"] (spD K 2 f_minus) := by
  refine def_ok Fn sc_minus fun cdv A outer s H E hr => ?_
  have hu5 : (A.deeper (PyProof.Rows.envOfC "minus" (defScope s_minus) s.heap.objs.size f cdv)).units + 65 < cLine := by have := hr.un; omega
  exact ⟨_, (ss_one (st_ret (ev_call C_fraction (hr.mono (by decide)) (av_d (ev_op od_sub (Ev.bw (ev_op (od_mul' rfl) (Ev.bw (ev_ix (id_ix rfl) (eb_v 0) (Ev.bw ev_int))) (Ev.bw (ev_ix (id_ix rfl) (eb_v 1) (Ev.bw ev_int))))) (Ev.bw (ev_op (od_mul' rfl) (Ev.bw (ev_ix (id_ix rfl) (eb_v 1) (Ev.bw ev_int))) (Ev.bw (ev_ix (id_ix rfl) (eb_v 0) (Ev.bw ev_int)))))) (av_d (ev_op (od_mul' rfl) (Ev.bw (ev_ix (id_ix rfl) (eb_v 0) (Ev.bw ev_int))) (Ev.bw (ev_ix (id_ix rfl) (eb_v 1) (Ev.bw ev_int)))) av_nil)) (ln_d (ln_d ln_nil)))))⟩
theorem sc_times : FnScope ["one", "other"] ["one", "other"] (defScope s_times) := ⟨rfl, rfl, rfl, by decide +kernel, rfl, by decide +kernel, by decide +kernel⟩
def f_times : List DV → M PyData := runD ["one", "other"] (mRt (sCall f_fraction (vD (s2 mulD' (s2 ixD (sW 0) (sC (.int 0))) (s2 ixD (sW 1) (sC (.int 0)))) (vD (s2 mulD' (s2 ixD (sW 0) (sC (.int 1))) (s2 ixD (sW 1) (sC (.int 1)))) vNil))))
theorem ok_times {f : Addr} {fd : FuncData} (Fn : Fun K "times" "times" s_times f fd) (T : Txt K mg) (C_fraction : Callee P w K mg base "fraction" 2 ["top", "bottom"] (spD K 2 f_fraction)) : FnOk P w K mg base CX0 3 f fd ["one", "other"] (spD K 2 f_times) := by
  refine def_ok Fn sc_times fun cdv A outer s H E hr => ?_
  have hu5 : (A.deeper (PyProof.Rows.envOfC "times" (defScope s_times) s.heap.objs.size f cdv)).units + 65 < cLine := by have := hr.un; omega
  exact ⟨_, (ss_one (st_ret (ev_call C_fraction (hr.mono (by decide)) (av_d (ev_op (od_mul' rfl) (Ev.bw (ev_ix (id_ix rfl) (eb_v 0) (Ev.bw ev_int))) (Ev.bw (ev_ix (id_ix rfl) (eb_v 1) (Ev.bw ev_int)))) (av_d (ev_op (od_mul' rfl) (Ev.bw (ev_ix (id_ix rfl) (eb_v 0) (Ev.bw ev_int))) (Ev.bw (ev_ix (id_ix rfl) (eb_v 1) (Ev.bw ev_int)))) av_nil)) (ln_d (ln_d ln_nil)))))⟩
theorem sc_over : FnScope ["one", "other"] ["one", "other"] (defScope s_over) := ⟨rfl, rfl, rfl, by decide +kernel, rfl, by decide +kernel, by decide +kernel⟩
def f_over : List DV → M PyData := runD ["one", "other"] (mRt (sCall f_fraction (vD (s2 mulD' (s2 ixD (sW 0) (sC (.int 0))) (s2 ixD (sW 1) (sC (.int 1)))) (vD (s2 mulD' (s2 ixD (sW 0) (sC (.int 1))) (s2 ixD (sW 1) (sC (.int 0)))) vNil))))
theorem ok_over {f : Addr} {fd : FuncData} (Fn : Fun K "over" "over" s_over f fd) (T : Txt K mg) (C_fraction : Callee P w K mg base "fraction" 2 ["top", "bottom"] (spD K 2 f_fraction)) : FnOk P w K mg base CX0 3 f fd ["one", "other"] (spD K 2 f_over) := by
  refine def_ok Fn sc_over fun cdv A outer s H E hr => ?_
  have hu5 : (A.deeper (PyProof.Rows.envOfC "over" (defScope s_over) s.heap.objs.size f cdv)).units + 65 < cLine := by have := hr.un; omega
  exact ⟨_, (ss_one (st_ret (ev_call C_fraction (hr.mono (by decide)) (av_d (ev_op (od_mul' rfl) (Ev.bw (ev_ix (id_ix rfl) (eb_v 0) (Ev.bw ev_int))) (Ev.bw (ev_ix (id_ix rfl) (eb_v 1) (Ev.bw ev_int)))) (av_d (ev_op (od_mul' rfl) (Ev.bw (ev_ix (id_ix rfl) (eb_v 0) (Ev.bw ev_int))) (Ev.bw (ev_ix (id_ix rfl) (eb_v 1) (Ev.bw ev_int)))) av_nil)) (ln_d (ln_d ln_nil)))))⟩
theorem sc_less : FnScope ["one", "other"] ["one", "other"] (defScope s_less) := ⟨rfl, rfl, rfl, by decide +kernel, rfl, by decide +kernel, by decide +kernel⟩
def f_less : List DV → M PyData := runD ["one", "other"] (mRt (s2 ltD (s2 mulD' (s2 ixD (sW 0) (sC (.int 0))) (s2 ixD (sW 1) (sC (.int 1)))) (s2 mulD' (s2 ixD (sW 1) (sC (.int 0))) (s2 ixD (sW 0) (sC (.int 1))))))
theorem ok_less {f : Addr} {fd : FuncData} (Fn : Fun K "less" "less" s_less f fd) (T : Txt K mg)  : FnOk P w K mg base CX0 1 f fd ["one", "other"] (spD K 2 f_less) := by
  refine def_ok Fn sc_less fun cdv A outer s H E hr => ?_
  have hu5 : (A.deeper (PyProof.Rows.envOfC "less" (defScope s_less) s.heap.objs.size f cdv)).units + 65 < cLine := by have := hr.un; omega
  exact ⟨_, (ss_one (st_ret (ev_cmp od_lt (Ev.bw (ev_op (od_mul' rfl) (Ev.bw (ev_ix (id_ix rfl) (eb_v 0) (Ev.bw ev_int))) (Ev.bw (ev_ix (id_ix rfl) (eb_v 1) (Ev.bw ev_int))))) (Ev.bw (ev_op (od_mul' rfl) (Ev.bw (ev_ix (id_ix rfl) (eb_v 1) (Ev.bw ev_int))) (Ev.bw (ev_ix (id_ix rfl) (eb_v 0) (Ev.bw ev_int))))))))⟩
theorem sc_mean_of : FnScope ["pairs", "weighed"] ["pairs"] (defScope s_mean_of) := ⟨rfl, rfl, rfl, by decide +kernel, rfl, by decide +kernel, by decide +kernel⟩
def f_mean_of : List DV → M PyData := runD ["pairs", "weighed"] (mSq (mSet 1 (sN sumD (sCons (sLC (mSeq (sW 0)) 2 [] (bTup 2 (bCons (bN 0) (bCons (bN 1) bNil))) uYes (s2 mulD' (sW 0) (sW 1))) sNil)))
    (mRt (sCall f_fraction (vD (sV 1) (vD (sN sumD (sCons (sLC (mSeq (sW 0)) 2 [] (bTup 2 (bCons (bN 0) (bCons (bN 1) bNil))) uYes (sV 1)) sNil)) vNil)))))
theorem ok_mean_of {f : Addr} {fd : FuncData} (Fn : Fun K "mean_of" "mean_of" s_mean_of f fd) (T : Txt K mg) (C_fraction : Callee P w K mg base "fraction" 2 ["top", "bottom"] (spD K 2 f_fraction)) : FnOk P w K mg base CX0 3 f fd ["pairs"] (spD K 1 f_mean_of) := by
  refine def_ok Fn sc_mean_of fun cdv A outer s H E hr => ?_
  have hu5 : (A.deeper (PyProof.Rows.envOfC "mean_of" (defScope s_mean_of) s.heap.objs.size f cdv)).units + 65 < cLine := by have := hr.un; omega
  exact ⟨_, (ss_cons (st_set 1 sc_mean_of.nd (ev_callB (cd_sum rfl rfl) T.sum bt_sum (es_cons (Ev.bw (ev_lc (osc := (defScope s_mean_of)) (N := ["number", "lot"]) (k := 2) (cap := []) rfl rfl ⟨rfl, by decide +kernel, by decide +kernel, by decide +kernel, rfl, rfl, by decide +kernel⟩ (eib_seq (eb_v 0)) (fun cl C ex pins s H => (eg_tup (n := 2) rfl (egs_cons (eg_n (i := 0) (show List.Nodup (["number", "lot"] : List Str) by decide +kernel)) (egs_cons (eg_n (i := 1) (show List.Nodup (["number", "lot"] : List Str) by decide +kernel)) egs_nil)))) (fun cl C ex pins s H => ets_nil) (fun cl C ex pins s H => (ev_op (od_mul' rfl) (eb_v 0) (eb_v 1))))) es_nil)))
      (ss_one (st_ret (ev_call C_fraction (hr.mono (by decide)) (av_d (ev_v 1) (av_d (ev_callB (cd_sum rfl rfl) T.sum bt_sum (es_cons (Ev.bw (ev_lc (osc := (defScope s_mean_of)) (N := ["number", "lot"]) (k := 2) (cap := []) rfl rfl ⟨rfl, by decide +kernel, by decide +kernel, by decide +kernel, rfl, rfl, by decide +kernel⟩ (eib_seq (eb_v 0)) (fun cl C ex pins s H => (eg_tup (n := 2) rfl (egs_cons (eg_n (i := 0) (show List.Nodup (["number", "lot"] : List Str) by decide +kernel)) (egs_cons (eg_n (i := 1) (show List.Nodup (["number", "lot"] : List Str) by decide +kernel)) egs_nil)))) (fun cl C ex pins s H => ets_nil) (fun cl C ex pins s H => (ev_v 1)))) es_nil)) av_nil)) (ln_d (ln_d ln_nil))))))⟩
def spFeed (K : PySem.W.Frag) : Sp := fun vs H Q _ => ∃ (a : Addr) (ns : List Int), vs = [.ref a] ∧ SqL K H a (ns.map V.int) ∧ ns.length ≤ 63 ∧
  ∀ (d c : Addr) (H' : Hp), Feeds.At d c H' (newF ns) → Same H H' → Q (.ref d) H'
theorem cut63 {ns : List Int} (h : ns.length ≤ 63) : cutV (ns.map V.int) none (some 63) = ns.map V.int := by
  unfold cutV
  have e : HT.sIx (ns.map V.int).length (ns.map V.int).length (some 63) = min 63 (ns.map V.int).length := HT.sIx_nat _ _ 63
  rw [e, HT.sIx_none, List.drop_zero, Nat.sub_zero, List.take_of_length_le (by rw [List.length_map]; omega)]
theorem merge_feed (q : Addr) : mergeK [] (feedK q 0 0 0) = feedK q 0 0 0 := by
  have e1 : putK ([] : List (Key × V)) (Sum.inr "cells") (V.ref q) = ([(Sum.inr "cells", V.ref q)] : List (Key × V)) := putK_new _ rfl
  have e2 : putK ([(Sum.inr "cells", V.ref q)] : List (Key × V)) (Sum.inr "at") (V.int 0) = ([(Sum.inr "cells", V.ref q), (Sum.inr "at", V.int 0)] : List (Key × V)) := putK_new _ (by rw [valV_neg (by rw [inr_eq]; exact n1)]; rfl)
  have e3 : putK ([(Sum.inr "cells", V.ref q), (Sum.inr "at", V.int 0)] : List (Key × V)) (Sum.inr "left") (V.int 0) = ([(Sum.inr "cells", V.ref q), (Sum.inr "at", V.int 0), (Sum.inr "left", V.int 0)] : List (Key × V)) :=
    putK_new _ (by rw [valV_neg (by rw [inr_eq]; exact n2), valV_neg (by rw [inr_eq]; exact n4)]; rfl)
  have e4 : putK ([(Sum.inr "cells", V.ref q), (Sum.inr "at", V.int 0), (Sum.inr "left", V.int 0)] : List (Key × V)) (Sum.inr "turn") (V.int 0) = feedK q 0 0 0 :=
    putK_new _ (by rw [valV_neg (by rw [inr_eq]; exact n3), valV_neg (by rw [inr_eq]; exact n5), valV_neg (by rw [inr_eq]; exact n6)]; rfl)
  show putK (putK (putK (putK ([] : List (Key × V)) (Sum.inr "cells") (V.ref q)) (Sum.inr "at") (V.int 0)) (Sum.inr "left") (V.int 0)) (Sum.inr "turn") (V.int 0) = _
  rw [e1, e2, e3, e4]
theorem sc__law_feed : FnScope ["_law_script"] ["_law_script"] (defScope s__law_feed) := ⟨rfl, rfl, rfl, by decide +kernel, rfl, by decide +kernel, by decide +kernel⟩
theorem ok__law_feed {f : Addr} {fd : FuncData} (F : Fun K "_law_feed" "_law_feed" s__law_feed f fd) : FnOk P w K mg base CX0 1 f fd ["_law_script"] (spFeed K) := by
  refine F.ok sc__law_feed (fun vs H Q E h => ?_) (fun cdv A outer s H vs Q E hr h => ?_)
  · obtain ⟨a, ns, rfl, _⟩ := h
    rfl
  · obtain ⟨a, ns, rfl, hS, hl, k⟩ := h
    refine ⟨_, pss_one (ps_ret (pe_disp (pps_cons pe_str (pe_slice sl_list (pv 0) po_none (po_some pe_int)) (pps_cons pe_str pe_int (pps_cons pe_str pe_int (pps_cons pe_str pe_int pps_nil)))) rfl rfl (by simp) (by decide))), ?_⟩
    intro p hp
    have s1 : Same H (upd H p (.dK [])) := Same.upd hp
    refine ⟨_, rfl, 63, rfl, a, _, rfl, s1.seq hS, fun q hq => ?_⟩
    have npq : p ≠ q := ne_of_none upd_same hq
    refine ⟨by rw [upd_ne npq]; exact upd_same, feedK q 0 0 0, rfl, by show 4 ≤ 15; decide, ?_⟩
    rw [merge_feed, cut63 hl]
    refine k p q _ ⟨upd_same, by rw [upd_ne (Ne.symm npq)]; exact upd_same, hl, (by show (0 : Int) ≤ 0; decide), (by show (0 : Int) ≤ 0; decide)⟩ fun b o e => ?_
    rw [upd_ne (ne_of_none e hp), upd_ne (ne_of_none (s1 b o e) hq)]
    exact s1 b o e
theorem sc__law_draw : FnScope ["_law_feed_here", "_law_many", "_law_found", "_law_cells", "_law_at", "_law_turn", "_law_cell", "_law_mixed"] ["_law_feed_here", "_law_many"] (defScope s__law_draw) := ⟨rfl, rfl, rfl, by decide +kernel, rfl, by decide +kernel, by decide +kernel⟩
theorem ok__law_draw {f : Addr} {fd : FuncData} (Fn : Fun K "_law_draw" "_law_draw" s__law_draw f fd) (T : Txt K mg) : FnOk P w K mg base CX0 1 f fd ["_law_feed_here", "_law_many"] (spD K 2 drawS) := by
  refine Fn.ok sc__law_draw (fun vs H Q E h => ?_) (fun cdv A outer s H vs Q E hr h => ?_)
  · obtain ⟨G, B, F, args, d, F', hl, _⟩ := h
    exact hl
  · obtain ⟨G, B, F, args, dd, F', hl, fB, bk, fa, ha, hm0, q⟩ := h
    obtain ⟨m, rfl⟩ : ∃ m, args = [.feed, .dat (.int m)] := by
      unfold drawS at hm0
      split at hm0
      · exact ⟨_, rfl⟩
      · cases hm0
    obtain ⟨v, r, rfl, _, ⟨d, c, rfl, rfl⟩, v2, r2, rfl, _, hv2, rfl⟩ := ha
    have hv2 : v2 = .int m := by simpa only [DVr, DatIs] using hv2
    subst hv2
    obtain ⟨⟨r0, F1⟩, e1, e2⟩ := Option.bind_eq_some_iff.mp hm0
    cases e2
    have hcond : 0 < m ∧ m < 1073741824 ∧ F.t < 199999 := by
      unfold drawF at e1
      split at e1
      · assumption
      · cases e1
    obtain ⟨hm, hm2, htl⟩ := hcond
    obtain ⟨ns, a, l, t⟩ := F
    obtain ⟨hd, hc, hl63, ha0, ht0⟩ := fa
    simp only at hd hc hl63 ha0 ht0 htl
    have k : ∀ (r : Int) (H' : Hp) (F2 : FdS), drawF m ⟨ns, a, l, t⟩ = some (r, F2) → Feeds.At d c H' F2 → (∀ b o, H b = some o → b ≠ d → H' b = some o) → Q (.int r) H' := fun r H' F2 er fa' kp => by
      rw [er] at e1
      cases e1
      exact q _ H' (fun b o e nb => kp b o e fun z => nb (by simp [fpOf, z])) fa' DatIs.int
    have hdr : drawF m ⟨ns, a, l, t⟩ = some (if 0 < l then (l % m, ⟨ns, a, l / m, t + 1⟩) else if 10 ^ 18 ≤ (FdS.cell ⟨ns, a, l, t⟩) ∧ a < ns.length then ((FdS.cell ⟨ns, a, l, t⟩) % m, ⟨ns, a + 1, (FdS.cell ⟨ns, a, l, t⟩) / m, t + 1⟩) else ((FdS.mix ⟨ns, a, l, t⟩) % m, ⟨ns, a + 1, l, t + 1⟩)) := by
      unfold drawF; rw [if_pos ⟨hm, hm2, htl⟩]
    have hu := hu_of hr
    have hu0 := hr.units0
    have ncd : c ≠ d := ne_of hc hd (by intro z; cases z)
    refine ⟨_, pss_cons (ps_dput hu (pv 0) pe_str (pe_op op_add (pe_dget hu (pv 0) pe_str (fun _ _ => rfl)) pe_int) rfl)
      (pss_cons (ps_if (pt_cmpR op_gt (pe_dget hu (pv 0) pe_str (fun _ _ => rfl)) pe_int (nomark _))
        (pss_cons (ps_set (i := 2) sc__law_draw.nd rfl (Or.inl rfl) (pe_op op_mod (pe_dget hu (pv 0) pe_str (fun _ _ => rfl)) (pv 1)))
          (pss_cons (ps_dput hu (pv 0) pe_str (pe_op op_fdiv (pe_dget hu (pv 0) pe_str (fun _ _ => rfl)) (pv 1)) rfl) (pss_one (ps_ret (pv 2))))) pss_nil)
      (pss_cons (ps_par3 (i := 3) (j := 4) (k := 5) rfl sc__law_draw.nd rfl rfl rfl (by decide) (by decide) (by decide) rfl rfl rfl
        (pa_cons (pe_dget hu (pv 0) pe_str (fun _ _ => rfl)) (pa_cons (pe_dget hu (pv 0) pe_str (fun _ _ => rfl)) (pa_cons (pe_dget hu (pv 0) pe_str (fun _ _ => rfl)) pa_nil))) rfl)
      (pss_cons (ps_set (i := 6) sc__law_draw.nd rfl (Or.inl rfl) (pe_ifExp (pt_cmpR (op_neNil hu0) (pv 3) (pe_lst pa_nil) (nomark _))
        (pe_ix ix_list (pv 3) (pe_op op_mod (pv 4) (pe_callB call_len_seq (by rfl) T.len PySem.boot_len (pa_cons (pv 3) pa_nil))) (fun _ _ => rfl)) pe_int))
      (pss_cons (ps_dput hu (pv 0) pe_str (pe_op op_add (pv 4) pe_int) rfl)
      (pss_cons (ps_if (PW.pt (pw_and (pt_cmpR op_ge (pv 6) (pe_op op_pow pe_int pe_int) (nomark _)) (pw_and1 (pt_cmpR op_lt (pv 4) (pe_callB call_len_seq (by rfl) T.len PySem.boot_len (pa_cons (pv 3) pa_nil)) (nomark _)))))
        (pss_cons (ps_dput hu (pv 0) pe_str (pe_op op_fdiv (pv 6) (pv 1)) rfl) (pss_one (ps_ret (pe_op op_mod (pv 6) (pv 1))))) pss_nil)
      (pss_cons (ps_set (i := 7) sc__law_draw.nd rfl (Or.inl rfl) (pe_op op_mod (pe_op op_pow (pe_op op_add (pe_op op_add (pe_op op_mod (pv 6) pe_int) (pe_op op_mul (pe_op op_mul pe_int (pv 5)) (pv 5))) pe_int) pe_int) pe_int))
      (pss_cons (ps_set (i := 7) sc__law_draw.nd rfl (Or.inl rfl) (pe_op op_mod (pe_op op_pow (pe_op op_add (pv 7) (pe_op op_mul pe_int (pv 5))) pe_int) pe_int))
      (pss_one (ps_ret (pe_op op_mod (pe_op op_fdiv (pv 7) pe_int) (pv 1))))))))))), ?_⟩
    refine ⟨_, rfl, d, _, rfl, g_turn hd, _, _, rfl, rfl, _, rfl, d, _, rfl, u_turn _ hd, ?_⟩
    have hd1 : (upd H d (.dK (feedK c a l (t + 1)))) d = some (.dK (feedK c a l (t + 1))) := upd_same
    have hc1 : (upd H d (.dK (feedK c a l (t + 1)))) c = some (.lst (ns.map V.int)) := by rw [upd_ne ncd]; exact hc
    have kp1 : ∀ b o, H b = some o → b ≠ d → (upd H d (.dK (feedK c a l (t + 1)))) b = some o := fun b o e hb => by rw [upd_ne hb]; exact e
    generalize upd H d (.dK (feedK c a l (t + 1))) = H1 at hd1 hc1 kp1
    refine ⟨_, rfl, d, _, rfl, g_left hd1, _, _, rfl, rfl, _, rfl, ?_⟩
    refine ite2 (fun hleft => ?_) (fun hleft => ?_)
    · have hleft : 0 < l := of_decide_eq_true hleft
      refine ⟨_, rfl, d, _, rfl, g_left hd1, _, rfl, _, _, rfl, rfl, hm, ?_⟩
      refine ⟨_, rfl, d, _, rfl, g_left hd1, _, rfl, _, _, rfl, rfl, ⟨hm, hm2⟩, _, rfl, d, _, rfl, u_left _ hd1, _, rfl, ?_⟩
      exact k _ _ ⟨ns, a, l / m, t + 1⟩ (by rw [hdr, if_pos hleft]) ⟨upd_same, by rw [upd_ne ncd]; exact hc1, hl63, ha0, by simp only; omega⟩ (fun b o e hb => by rw [upd_ne hb]; exact kp1 b o e hb)
    · have hleft : ¬ 0 < l := fun z => hleft (decide_eq_true z)
      refine ⟨_, rfl, d, _, rfl, g_cells hd1, _, rfl, d, _, rfl, g_at hd1, _, rfl, d, _, rfl, g_turn hd1, _, _, _, rfl, ?_⟩
      refine ⟨_, rfl, Nat.zero_le _, fun p hp => ⟨c, p, _, rfl, rfl, SqL.of (by rw [upd_ne (ne_of_none hc1 hp)]; exact hc1), SqL.of upd_same, _, rfl, ?_⟩⟩
      have hd2 : (upd H1 p (.lst [])) d = some (.dK (feedK c a l (t + 1))) := by rw [upd_ne (ne_of_none hd1 hp)]; exact hd1
      have hc2 : (upd H1 p (.lst [])) c = some (.lst (ns.map V.int)) := by rw [upd_ne (ne_of_none hc1 hp)]; exact hc1
      have kp2 : ∀ b o, H b = some o → b ≠ d → (upd H1 p (.lst [])) b = some o := fun b o e hb => by rw [upd_ne (ne_of_none (kp1 b o e hb) hp)]; exact kp1 b o e hb
      generalize upd H1 p (.lst []) = H2 at hd2 hc2 kp2
      refine ite2 (fun hne => ?_) (fun he => ?_)
      · have h0 : ¬ ns = [] := by intro e; rw [e] at hne; exact absurd hne (by decide)
        refine ⟨_, rfl, _, rfl, _, rfl, c, _, rfl, .inl (SqL.of hc2), _, _, rfl, rfl, (by
          have := List.length_pos_iff.mpr h0
          show (0 : Int) < ((ns.map V.int).length : Int)
          rw [List.length_map]; omega), c, _, _, _, rfl, rfl, SqL.of hc2, cell_at (F := ⟨ns, a, l, t⟩) h0, ?_⟩
        refine ⟨_, rfl, _, _, rfl, rfl, _, rfl, d, _, rfl, u_at _ hd2, ?_⟩
        have hd3 : (upd H2 d (.dK (feedK c (a + 1) l (t + 1)))) d = some (.dK (feedK c (a + 1) l (t + 1))) := upd_same
        have hc3 : (upd H2 d (.dK (feedK c (a + 1) l (t + 1)))) c = some (.lst (ns.map V.int)) := by rw [upd_ne ncd]; exact hc2
        have kp3 : ∀ b o, H b = some o → b ≠ d → (upd H2 d (.dK (feedK c (a + 1) l (t + 1)))) b = some o := fun b o e hb => by rw [upd_ne hb]; exact kp2 b o e hb
        generalize upd H2 d (.dK (feedK c (a + 1) l (t + 1))) = H3 at hd3 hc3 kp3
        have big : 10 ^ 18 ≤ (FdS.cell ⟨ns, a, l, t⟩) ∧ a < ns.length → ∀ H', H' = (upd H3 d (.dK (feedK c (a + 1) (FdS.cell ⟨ns, a, l, t⟩ / m) (t + 1)))) → Q (.int (FdS.cell ⟨ns, a, l, t⟩ % m)) H' := fun hb H' eH => by
          subst eH
          exact k _ _ ⟨ns, a + 1, FdS.cell ⟨ns, a, l, t⟩ / m, t + 1⟩ (by rw [hdr, if_neg hleft, if_pos hb]) ⟨upd_same, by rw [upd_ne ncd]; exact hc3, hl63, by simp only; omega, by simp only; omega⟩ (fun b o e hb => by rw [upd_ne hb]; exact kp3 b o e hb)
        have small : ¬ (10 ^ 18 ≤ (FdS.cell ⟨ns, a, l, t⟩) ∧ a < ns.length) → Q (.int (FdS.mix ⟨ns, a, l, t⟩ % m)) H3 := fun hb =>
          k _ _ ⟨ns, a + 1, l, t + 1⟩ (by rw [hdr, if_neg hleft, if_neg hb]) ⟨hd3, hc3, hl63, by simp only; omega, by simp only; omega⟩ kp3
        unfold FdS.mix at small
        simp only at small
        generalize FdS.cell ⟨ns, a, l, t⟩ = z at big small
        have ht2 : 0 ≤ t + 1 := by omega
        have ht3 : t + 1 ≤ 200000 := by omega
        obtain ⟨sq1, sq2⟩ := sq_bd ht2 ht3
        have mixed : Q (.int (((z % 2147483629 + 7919 * (t + 1) * (t + 1) + 31) ^ (5 : Int).toNat % 2147483647 + 104729 * (t + 1)) ^ (5 : Int).toNat % 2147483587 / 64 % m)) H3 → tSeq (tAsg (tOp (rI (fun _ j => 0 < j) fun i j => .int (i % j)) (tOp (rI CPow fun i j => .int (i ^ j.toNat)) (tOp (rI0 fun i j => .int (i + j)) (tOp (rI0 fun i j => .int (i + j)) (tOp (rI (fun _ j => 0 < j) fun i j => .int (i % j)) (tVar 6) (tC (.int 2147483629))) (tOp (rI CMul fun i j => .int (i * j)) (tOp (rI CMul fun i j => .int (i * j)) (tC (.int 7919)) (tVar 5)) (tVar 5))) (tC (.int 31))) (tC (.int 5))) (tC (.int 2147483647))) (gName 7)) (tSeq (tAsg (tOp (rI (fun _ j => 0 < j) fun i j => .int (i % j)) (tOp (rI CPow fun i j => .int (i ^ j.toNat)) (tOp (rI0 fun i j => .int (i + j)) (tVar 7) (tOp (rI CMul fun i j => .int (i * j)) (tC (.int 104729)) (tVar 5))) (tC (.int 5))) (tC (.int 2147483587))) (gName 7)) (tRet (tOp (rI (fun _ j => 0 < j) fun i j => .int (i % j)) (tOp (rI CDiv fun i j => .int (i / j)) (tVar 7) (tC (.int 64))) (tVar 1)))) { nx := fun _ H' => Q .non H', rt := Q } [some (.ref d), some (.int m), none, some (.ref c), some (.int a), some (.int (t + 1)), some (.int z), none] H3 := fun hq => by
          refine ⟨_, rfl, _, _, rfl, rfl, (by show (0 : Int) < 2147483629; decide), _, rfl, _, _, rfl, rfl, .inl ⟨by decide, by decide⟩, _, rfl, _, _, rfl, rfl, .inl ⟨by omega, by omega⟩, _, _, rfl, rfl, _, _, rfl, rfl, _, _, rfl, rfl, ⟨by decide, by decide, bd1 sq1 sq2⟩, _, _, rfl, rfl, (by show (0 : Int) < 2147483647; decide), ?_⟩
          refine ⟨_, rfl, _, rfl, _, _, rfl, rfl, .inl ⟨by decide, by decide⟩, _, _, rfl, rfl, _, _, rfl, rfl, ⟨by decide, by decide, bd2 ht2 ht3⟩, _, _, rfl, rfl, (by show (0 : Int) < 2147483587; decide), ?_⟩
          exact ⟨_, rfl, _, _, rfl, rfl, ⟨by decide, by decide⟩, _, rfl, _, _, rfl, rfl, hm, hq⟩
        refine ⟨_, rfl, _, _, rfl, rfl, ⟨by decide, by decide, by decide⟩, _, _, rfl, rfl, _, rfl, ?_⟩
        refine ite2 (fun hb1 => ⟨_, rfl, _, rfl, c, _, rfl, .inl (SqL.of hc3), _, _, rfl, rfl, _, rfl, ite2 (fun hb2 => ?_) (fun hb2 => ?_)⟩) (fun hb1 => iteF ?_)
        · have hb1 := of_decide_eq_true hb1
          have hb2 := of_decide_eq_true hb2
          rw [List.length_map] at hb2
          exact ⟨_, rfl, _, rfl, _, _, rfl, rfl, ⟨hm, hm2⟩, _, rfl, d, _, rfl, u_left _ hd3, _, rfl, _, rfl, _, _, rfl, rfl, hm, big ⟨hb1, hb2⟩ _ rfl⟩
        · exact mixed (small fun hb => hb2 (decide_eq_true (by rw [List.length_map]; exact hb.2)))
        · exact mixed (small fun hb => hb1 (decide_eq_true hb.1))
      · have h0 : ns = [] := by
          cases ns with
          | nil => rfl
          | cons x y => exact absurd rfl he
        have hcell : FdS.cell ⟨ns, a, l, t⟩ = 11 := by unfold FdS.cell; rw [if_pos h0]
        refine ⟨_, rfl, _, _, rfl, rfl, _, rfl, d, _, rfl, u_at _ hd2, ?_⟩
        have hd3 : (upd H2 d (.dK (feedK c (a + 1) l (t + 1)))) d = some (.dK (feedK c (a + 1) l (t + 1))) := upd_same
        have hc3 : (upd H2 d (.dK (feedK c (a + 1) l (t + 1)))) c = some (.lst (ns.map V.int)) := by rw [upd_ne ncd]; exact hc2
        have kp3 : ∀ b o, H b = some o → b ≠ d → (upd H2 d (.dK (feedK c (a + 1) l (t + 1)))) b = some o := fun b o e hb => by rw [upd_ne hb]; exact kp2 b o e hb
        generalize upd H2 d (.dK (feedK c (a + 1) l (t + 1))) = H3 at hd3 hc3 kp3
        have big : 10 ^ 18 ≤ (FdS.cell ⟨ns, a, l, t⟩) ∧ a < ns.length → ∀ H', H' = (upd H3 d (.dK (feedK c (a + 1) (FdS.cell ⟨ns, a, l, t⟩ / m) (t + 1)))) → Q (.int (FdS.cell ⟨ns, a, l, t⟩ % m)) H' := fun hb H' eH => by
          subst eH
          exact k _ _ ⟨ns, a + 1, FdS.cell ⟨ns, a, l, t⟩ / m, t + 1⟩ (by rw [hdr, if_neg hleft, if_pos hb]) ⟨upd_same, by rw [upd_ne ncd]; exact hc3, hl63, by simp only; omega, by simp only; omega⟩ (fun b o e hb => by rw [upd_ne hb]; exact kp3 b o e hb)
        have small : ¬ (10 ^ 18 ≤ (FdS.cell ⟨ns, a, l, t⟩) ∧ a < ns.length) → Q (.int (FdS.mix ⟨ns, a, l, t⟩ % m)) H3 := fun hb =>
          k _ _ ⟨ns, a + 1, l, t + 1⟩ (by rw [hdr, if_neg hleft, if_neg hb]) ⟨hd3, hc3, hl63, by simp only; omega, by simp only; omega⟩ kp3
        unfold FdS.mix at small
        simp only at small
        rw [hcell] at big small
        have ht2 : 0 ≤ t + 1 := by omega
        have ht3 : t + 1 ≤ 200000 := by omega
        obtain ⟨sq1, sq2⟩ := sq_bd ht2 ht3
        have mixed : Q (.int ((((11 : Int) % 2147483629 + 7919 * (t + 1) * (t + 1) + 31) ^ (5 : Int).toNat % 2147483647 + 104729 * (t + 1)) ^ (5 : Int).toNat % 2147483587 / 64 % m)) H3 → tSeq (tAsg (tOp (rI (fun _ j => 0 < j) fun i j => .int (i % j)) (tOp (rI CPow fun i j => .int (i ^ j.toNat)) (tOp (rI0 fun i j => .int (i + j)) (tOp (rI0 fun i j => .int (i + j)) (tOp (rI (fun _ j => 0 < j) fun i j => .int (i % j)) (tVar 6) (tC (.int 2147483629))) (tOp (rI CMul fun i j => .int (i * j)) (tOp (rI CMul fun i j => .int (i * j)) (tC (.int 7919)) (tVar 5)) (tVar 5))) (tC (.int 31))) (tC (.int 5))) (tC (.int 2147483647))) (gName 7)) (tSeq (tAsg (tOp (rI (fun _ j => 0 < j) fun i j => .int (i % j)) (tOp (rI CPow fun i j => .int (i ^ j.toNat)) (tOp (rI0 fun i j => .int (i + j)) (tVar 7) (tOp (rI CMul fun i j => .int (i * j)) (tC (.int 104729)) (tVar 5))) (tC (.int 5))) (tC (.int 2147483587))) (gName 7)) (tRet (tOp (rI (fun _ j => 0 < j) fun i j => .int (i % j)) (tOp (rI CDiv fun i j => .int (i / j)) (tVar 7) (tC (.int 64))) (tVar 1)))) { nx := fun _ H' => Q .non H', rt := Q } [some (.ref d), some (.int m), none, some (.ref c), some (.int a), some (.int (t + 1)), some (.int 11), none] H3 := fun hq => by
          refine ⟨_, rfl, _, _, rfl, rfl, (by show (0 : Int) < 2147483629; decide), _, rfl, _, _, rfl, rfl, .inl ⟨by decide, by decide⟩, _, rfl, _, _, rfl, rfl, .inl ⟨by omega, by omega⟩, _, _, rfl, rfl, _, _, rfl, rfl, _, _, rfl, rfl, ⟨by decide, by decide, bd1 sq1 sq2⟩, _, _, rfl, rfl, (by show (0 : Int) < 2147483647; decide), ?_⟩
          refine ⟨_, rfl, _, rfl, _, _, rfl, rfl, .inl ⟨by decide, by decide⟩, _, _, rfl, rfl, _, _, rfl, rfl, ⟨by decide, by decide, bd2 ht2 ht3⟩, _, _, rfl, rfl, (by show (0 : Int) < 2147483587; decide), ?_⟩
          exact ⟨_, rfl, _, _, rfl, rfl, ⟨by decide, by decide⟩, _, rfl, _, _, rfl, rfl, hm, hq⟩
        refine ⟨_, rfl, _, _, rfl, rfl, ⟨by decide, by decide, by decide⟩, _, _, rfl, rfl, _, rfl, ?_⟩
        refine ite2 (fun hb1 => ⟨_, rfl, _, rfl, c, _, rfl, .inl (SqL.of hc3), _, _, rfl, rfl, _, rfl, ite2 (fun hb2 => ?_) (fun hb2 => ?_)⟩) (fun hb1 => iteF ?_)
        · have hb1 := of_decide_eq_true hb1
          have hb2 := of_decide_eq_true hb2
          rw [List.length_map] at hb2
          exact ⟨_, rfl, _, rfl, _, _, rfl, rfl, ⟨hm, hm2⟩, _, rfl, d, _, rfl, u_left _ hd3, _, rfl, _, rfl, _, _, rfl, rfl, hm, big ⟨hb1, hb2⟩ _ rfl⟩
        · exact mixed (small fun hb => hb2 (decide_eq_true (by rw [List.length_map]; exact hb.2)))
        · exact mixed (small fun hb => hb1 (decide_eq_true hb.1))
theorem sc__law_wide : FnScope ["_law_feed_here", "_law_pieces", "_law_found", "_law_k"] ["_law_feed_here", "_law_pieces"] (defScope s__law_wide) := ⟨rfl, rfl, rfl, by decide +kernel, rfl, by decide +kernel, by decide +kernel⟩
def f__law_wide : List DV → M PyData := runD ["_law_feed_here", "_law_pieces", "_law_found", "_law_k"] (mSq (mSet 2 (sC (.int 0)))
    (mSq (mFor (mRng1 (sCons (sV 1) sNil)) (bN 3) (mSet 2 (s2 addD (s2 mulD' (sW 2) (sC (.int 1000000))) (sCall drawS (vF 0 (vD (sC (.int 1000000)) vNil))))))
    (mRt (sV 2))))
theorem ok__law_wide {f : Addr} {fd : FuncData} (Fn : Fun K "_law_wide" "_law_wide" s__law_wide f fd) (T : Txt K mg) (C__law_draw : Callee P w K mg base "_law_draw" 1 ["_law_feed_here", "_law_many"] (spD K 2 drawS)) : FnOk P w K mg base CX0 2 f fd ["_law_feed_here", "_law_pieces"] (spD K 2 f__law_wide) := by
  refine def_ok Fn sc__law_wide fun cdv A outer s H E hr => ?_
  have hu5 : (A.deeper (PyProof.Rows.envOfC "_law_wide" (defScope s__law_wide) s.heap.objs.size f cdv)).units + 65 < cLine := by have := hr.un; omega
  exact ⟨_, (ss_cons (st_set 2 sc__law_wide.nd ev_int)
      (ss_cons (st_for rfl (ei_rng1 (ea_cons (ev_v 1) ea_nil) T.range) (eg_n (i := 3) sc__law_wide.nd) (ss_one (st_set 2 sc__law_wide.nd (ev_op (od_add rfl) (Ev.bw (ev_op (od_mul' rfl) (eb_v 2) (Ev.bw (ev_k (.int 1000000) rfl)))) (Ev.bw (ev_call C__law_draw (hr.mono (by decide)) (av_f 0 (av_d (ev_k (.int 1000000) rfl) av_nil)) (ln_f (ln_d ln_nil))))))))
      (ss_one (st_ret (ev_v 2)))))⟩
theorem sc__law_is_number : FnScope ["_law_thing"] ["_law_thing"] (defScope s__law_is_number) := ⟨rfl, rfl, rfl, by decide +kernel, rfl, by decide +kernel, by decide +kernel⟩
def f__law_is_number : List DV → M PyData := runD ["_law_thing"] (mRt (sAnd (s1 (isinD "int") (sW 0)) (sNot (s1 (isinD "bool") (sW 0)))))
theorem ok__law_is_number {f : Addr} {fd : FuncData} (Fn : Fun K "_law_is_number" "_law_is_number" s__law_is_number f fd) (T : Txt K mg)  : FnOk P w K mg base CX0 1 f fd ["_law_thing"] (spD K 1 f__law_is_number) := by
  refine def_ok Fn sc__law_is_number fun cdv A outer s H E hr => ?_
  have hu5 : (A.deeper (PyProof.Rows.envOfC "_law_is_number" (defScope s__law_is_number) s.heap.objs.size f cdv)).units + 65 < cLine := by have := hr.un; omega
  exact ⟨_, (ss_one (st_ret (ev_and (ev_isin "int" (eb_v 0) (by decide) T.isinstance T.int bt_int) (ev_one (ev_not (ev_isin "bool" (eb_v 0) (by decide) T.isinstance T.bool bt_bool))))))⟩
theorem sc__law_common : FnScope ["_law_one", "_law_other_here", "_law_twos"] ["_law_one", "_law_other_here"] (defScope s__law_common) := ⟨rfl, rfl, rfl, by decide +kernel, rfl, by decide +kernel, by decide +kernel⟩
def f__law_common : List DV → M PyData := runD ["_law_one", "_law_other_here", "_law_twos"] (mSq (mIf (uOr (uB (s2 (eqD false) (sW 0) (sC (.int 0)))) (uB (s2 (eqD false) (sW 1) (sC (.int 0))))) (mRt (s2 addD (sW 0) (sW 1))) mNx)
    (mSq (mSet 2 (sC (.int 1)))
    (mSq (mWh (uAnd (uB (s2 (eqD false) (s2 modD (sW 0) (sC (.int 2))) (sC (.int 0)))) (uB (s2 (eqD false) (s2 modD (sW 1) (sC (.int 2))) (sC (.int 0))))) (mPar3 0 1 2 (sCons (s2 fdivD (sW 0) (sC (.int 2))) (sCons (s2 fdivD (sW 1) (sC (.int 2))) (sCons (s2 mulD' (sW 2) (sC (.int 2))) sNil)))))
    (mSq (mWh (uB (s2 (eqD true) (sW 0) (sW 1))) (mSq (mWh (uB (s2 (eqD false) (s2 modD (sW 0) (sC (.int 2))) (sC (.int 0)))) (mSet 0 (s2 fdivD (sW 0) (sC (.int 2)))))
    (mSq (mWh (uB (s2 (eqD false) (s2 modD (sW 1) (sC (.int 2))) (sC (.int 0)))) (mSet 1 (s2 fdivD (sW 1) (sC (.int 2)))))
    (mIf (uB (s2 gtD (sW 0) (sW 1))) (mSet 0 (s2 subD (sW 0) (sW 1))) (mIf (uB (s2 gtD (sW 1) (sW 0))) (mSet 1 (s2 subD (sW 1) (sW 0))) mNx)))))
    (mRt (s2 mulD' (sW 0) (sW 2)))))))
theorem ok__law_common {f : Addr} {fd : FuncData} (Fn : Fun K "_law_common" "_law_common" s__law_common f fd) (T : Txt K mg)  : FnOk P w K mg base CX0 1 f fd ["_law_one", "_law_other_here"] (spD K 2 f__law_common) := by
  refine def_ok Fn sc__law_common fun cdv A outer s H E hr => ?_
  have hu5 : (A.deeper (PyProof.Rows.envOfC "_law_common" (defScope s__law_common) s.heap.objs.size f cdv)).units + 65 < cLine := by have := hr.un; omega
  exact ⟨_, (ss_cons (st_if (Ew.t (ew_or (et_cmp (od_eq rfl hr.units) (eb_v 0) (Ev.bw ev_int)) (ew_or1 (et_cmp (od_eq rfl hr.units) (eb_v 1) (Ev.bw ev_int))))) (ss_one (st_ret (ev_op (od_add rfl) (eb_v 0) (eb_v 1)))) ss_nil)
      (ss_cons (st_set 2 sc__law_common.nd ev_int)
      (ss_cons (st_while (Ew.t (ew_and (et_cmp (od_eq rfl hr.units) (Ev.bw (ev_op od_mod (eb_v 0) (Ev.bw ev_int))) (Ev.bw ev_int)) (ew_and1 (et_cmp (od_eq rfl hr.units) (Ev.bw (ev_op od_mod (eb_v 1) (Ev.bw ev_int))) (Ev.bw ev_int))))) (ss_one (st_par3 0 1 2 rfl sc__law_common.nd (ea_cons (ev_op od_fdiv (eb_v 0) (Ev.bw ev_int)) (ea_cons (ev_op od_fdiv (eb_v 1) (Ev.bw ev_int)) (ea_cons (ev_op (od_mul' rfl) (eb_v 2) (Ev.bw ev_int)) ea_nil))))))
      (ss_cons (st_while (et_cmp (od_ne rfl hr.units) (eb_v 0) (eb_v 1)) (ss_cons (st_while (et_cmp (od_eq rfl hr.units) (Ev.bw (ev_op od_mod (eb_v 0) (Ev.bw ev_int))) (Ev.bw ev_int)) (ss_one (st_set 0 sc__law_common.nd (ev_op od_fdiv (eb_v 0) (Ev.bw ev_int)))))
      (ss_cons (st_while (et_cmp (od_eq rfl hr.units) (Ev.bw (ev_op od_mod (eb_v 1) (Ev.bw ev_int))) (Ev.bw ev_int)) (ss_one (st_set 1 sc__law_common.nd (ev_op od_fdiv (eb_v 1) (Ev.bw ev_int)))))
      (ss_one (st_if (et_cmp od_gt (eb_v 0) (eb_v 1)) (ss_one (st_set 0 sc__law_common.nd (ev_op od_sub (eb_v 0) (eb_v 1)))) (ss_one (st_if (et_cmp od_gt (eb_v 1) (eb_v 0)) (ss_one (st_set 1 sc__law_common.nd (ev_op od_sub (eb_v 1) (eb_v 0)))) ss_nil)))))))
      (ss_one (st_ret (ev_op (od_mul' rfl) (eb_v 0) (eb_v 2))))))))⟩
theorem sc__law_size : FnScope ["_law_feed_here"] ["_law_feed_here"] (defScope s__law_size) := ⟨rfl, rfl, rfl, by decide +kernel, rfl, by decide +kernel, by decide +kernel⟩
def f__law_size : List DV → M PyData := runD ["_law_feed_here"] (mRt (sIf (uB (s2 gtD (sCall drawS (vF 0 (vD (sC (.int 3)) vNil))) (sC (.int 0)))) (sCall drawS (vF 0 (vD (sC (.int 100)) vNil))) (sCall f__law_wide (vF 0 (vD (s2 addD (sC (.int 1)) (sCall drawS (vF 0 (vD (sC (.int 6)) vNil)))) vNil)))))
theorem ok__law_size {f : Addr} {fd : FuncData} (Fn : Fun K "_law_size" "_law_size" s__law_size f fd) (T : Txt K mg) (C__law_draw : Callee P w K mg base "_law_draw" 1 ["_law_feed_here", "_law_many"] (spD K 2 drawS)) (C__law_wide : Callee P w K mg base "_law_wide" 2 ["_law_feed_here", "_law_pieces"] (spD K 2 f__law_wide)) : FnOk P w K mg base CX0 3 f fd ["_law_feed_here"] (spD K 1 f__law_size) := by
  refine def_ok Fn sc__law_size fun cdv A outer s H E hr => ?_
  have hu5 : (A.deeper (PyProof.Rows.envOfC "_law_size" (defScope s__law_size) s.heap.objs.size f cdv)).units + 65 < cLine := by have := hr.un; omega
  exact ⟨_, (ss_one (st_ret (ev_if (et_cmp od_gt (Ev.bw (ev_call C__law_draw (hr.mono (by decide)) (av_f 0 (av_d ev_int av_nil)) (ln_f (ln_d ln_nil)))) (Ev.bw ev_int)) (ev_call C__law_draw (hr.mono (by decide)) (av_f 0 (av_d ev_int av_nil)) (ln_f (ln_d ln_nil))) (ev_call C__law_wide (hr.mono (by decide)) (av_f 0 (av_d (ev_op (od_add rfl) (Ev.bw ev_int) (Ev.bw (ev_call C__law_draw (hr.mono (by decide)) (av_f 0 (av_d ev_int av_nil)) (ln_f (ln_d ln_nil))))) av_nil)) (ln_f (ln_d ln_nil))))))⟩
theorem sc__law_top : FnScope ["_law_feed_here"] ["_law_feed_here"] (defScope s__law_top) := ⟨rfl, rfl, rfl, by decide +kernel, rfl, by decide +kernel, by decide +kernel⟩
def f__law_top : List DV → M PyData := runD ["_law_feed_here"] (mRt (s2 mulD' (sCall f__law_size (vF 0 vNil)) (s2 ixD (sC (.list [.int 1, .int (-1)])) (sCall drawS (vF 0 (vD (sC (.int 2)) vNil))))))
theorem ok__law_top {f : Addr} {fd : FuncData} (Fn : Fun K "_law_top" "_law_top" s__law_top f fd) (T : Txt K mg) (C__law_size : Callee P w K mg base "_law_size" 3 ["_law_feed_here"] (spD K 1 f__law_size)) (C__law_draw : Callee P w K mg base "_law_draw" 1 ["_law_feed_here", "_law_many"] (spD K 2 drawS)) : FnOk P w K mg base CX0 4 f fd ["_law_feed_here"] (spD K 1 f__law_top) := by
  refine def_ok Fn sc__law_top fun cdv A outer s H E hr => ?_
  have hu5 : (A.deeper (PyProof.Rows.envOfC "_law_top" (defScope s__law_top) s.heap.objs.size f cdv)).units + 65 < cLine := by have := hr.un; omega
  exact ⟨_, (ss_one (st_ret (ev_op (od_mul' rfl) (Ev.bw (ev_call C__law_size (hr.mono (by decide)) (av_f 0 av_nil) (ln_f ln_nil))) (Ev.bw (ev_ix (id_ix rfl) (Ev.bw (ev_k (.list [.int 1, .int (-1)]) rfl)) (Ev.bw (ev_call C__law_draw (hr.mono (by decide)) (av_f 0 (av_d ev_int av_nil)) (ln_f (ln_d ln_nil)))))))))⟩
theorem sc__law_low : FnScope ["_law_top_here", "_law_bottom", "_law_common_here"] ["_law_top_here", "_law_bottom"] (defScope s__law_low) := ⟨rfl, rfl, rfl, by decide +kernel, rfl, by decide +kernel, by decide +kernel⟩
def f__law_low : List DV → M PyData := runD ["_law_top_here", "_law_bottom", "_law_common_here"] (mSq (mSet 2 (sCall f__law_common (vD (sN absD (sCons (sW 0) sNil)) (vD (sV 1) vNil))))
    (mRt (sTup (sCons (s2 fdivD (sW 0) (sW 2)) (sCons (s2 fdivD (sW 1) (sW 2)) sNil)))))
theorem ok__law_low {f : Addr} {fd : FuncData} (Fn : Fun K "_law_low" "_law_low" s__law_low f fd) (T : Txt K mg) (C__law_common : Callee P w K mg base "_law_common" 1 ["_law_one", "_law_other_here"] (spD K 2 f__law_common)) : FnOk P w K mg base CX0 2 f fd ["_law_top_here", "_law_bottom"] (spD K 2 f__law_low) := by
  refine def_ok Fn sc__law_low fun cdv A outer s H E hr => ?_
  have hu5 : (A.deeper (PyProof.Rows.envOfC "_law_low" (defScope s__law_low) s.heap.objs.size f cdv)).units + 65 < cLine := by have := hr.un; omega
  exact ⟨_, (ss_cons (st_set 2 sc__law_low.nd (ev_call C__law_common (hr.mono (by decide)) (av_d (ev_callB (cd_abs) T.abs bt_abs (es_cons (eb_v 0) es_nil)) (av_d (ev_v 1) av_nil)) (ln_d (ln_d ln_nil))))
      (ss_one (st_ret (ev_tup (ea_cons (ev_op od_fdiv (eb_v 0) (eb_v 2)) (ea_cons (ev_op od_fdiv (eb_v 1) (eb_v 2)) ea_nil))))))⟩
theorem sc__law_is_fraction : FnScope ["_law_told"] ["_law_told"] (defScope s__law_is_fraction) := ⟨rfl, rfl, rfl, by decide +kernel, rfl, by decide +kernel, by decide +kernel⟩
def f__law_is_fraction : List DV → M PyData := runD ["_law_told"] (mSq (mIf (uOr (uNot (uT (s1 (isinD "tuple") (sW 0)))) (uOr (uB (s2 (eqD true) (sN lenD (sCons (sW 0) sNil)) (sC (.int 2)))) (uOr (uNot (uT (sCall f__law_is_number (vD (s2 ixD (sW 0) (sC (.int 0))) vNil)))) (uNot (uT (sCall f__law_is_number (vD (s2 ixD (sW 0) (sC (.int 1))) vNil))))))) (mRt (sC (.bool false))) mNx)
    (mRt (sAnd (s2 gtD (s2 ixD (sW 0) (sC (.int 1))) (sC (.int 0))) (s2 (eqD false) (sCall f__law_common (vD (sN absD (sCons (s2 ixD (sW 0) (sC (.int 0))) sNil)) (vD (s2 ixD (sW 0) (sC (.int 1))) vNil))) (sC (.int 1))))))
theorem ok__law_is_fraction {f : Addr} {fd : FuncData} (Fn : Fun K "_law_is_fraction" "_law_is_fraction" s__law_is_fraction f fd) (T : Txt K mg) (C__law_is_number : Callee P w K mg base "_law_is_number" 1 ["_law_thing"] (spD K 1 f__law_is_number)) (C__law_common : Callee P w K mg base "_law_common" 1 ["_law_one", "_law_other_here"] (spD K 2 f__law_common)) : FnOk P w K mg base CX0 2 f fd ["_law_told"] (spD K 1 f__law_is_fraction) := by
  refine def_ok Fn sc__law_is_fraction fun cdv A outer s H E hr => ?_
  have hu5 : (A.deeper (PyProof.Rows.envOfC "_law_is_fraction" (defScope s__law_is_fraction) s.heap.objs.size f cdv)).units + 65 < cLine := by have := hr.un; omega
  exact ⟨_, (ss_cons (st_if (Ew.t (ew_or (et_not (et_val (Ev.bw (ev_isin "tuple" (eb_v 0) (by decide) T.isinstance T.tuple bt_tuple)))) (ew_or (et_cmp (od_ne rfl hr.units) (Ev.bw (ev_callB (cd_len rfl) T.len bt_len (es_cons (eb_v 0) es_nil))) (Ev.bw ev_int)) (ew_or (et_not (et_val (Ev.bw (ev_call C__law_is_number (hr.mono (by decide)) (av_d (ev_ix (id_ix rfl) (eb_v 0) (Ev.bw ev_int)) av_nil) (ln_d ln_nil))))) (ew_or1 (et_not (et_val (Ev.bw (ev_call C__law_is_number (hr.mono (by decide)) (av_d (ev_ix (id_ix rfl) (eb_v 0) (Ev.bw ev_int)) av_nil) (ln_d ln_nil)))))))))) (ss_one (st_ret ev_bl)) ss_nil)
      (ss_one (st_ret (ev_and (ev_cmp od_gt (Ev.bw (ev_ix (id_ix rfl) (eb_v 0) (Ev.bw ev_int))) (Ev.bw ev_int)) (ev_one (ev_cmp (od_eq rfl hr.units) (Ev.bw (ev_call C__law_common (hr.mono (by decide)) (av_d (ev_callB (cd_abs) T.abs bt_abs (es_cons (Ev.bw (ev_ix (id_ix rfl) (eb_v 0) (Ev.bw ev_int))) es_nil)) (av_d (ev_ix (id_ix rfl) (eb_v 0) (Ev.bw ev_int)) av_nil)) (ln_d (ln_d ln_nil)))) (Ev.bw ev_int)))))))⟩
theorem sc__law_is_as_much : FnScope ["_law_told", "_law_top_here", "_law_bottom"] ["_law_told", "_law_top_here", "_law_bottom"] (defScope s__law_is_as_much) := ⟨rfl, rfl, rfl, by decide +kernel, rfl, by decide +kernel, by decide +kernel⟩
def f__law_is_as_much : List DV → M PyData := runD ["_law_told", "_law_top_here", "_law_bottom"] (mRt (sAnd (sCall f__law_is_fraction (vD (sV 0) vNil)) (s2 (eqD false) (s2 mulD' (s2 ixD (sW 0) (sC (.int 0))) (sW 2)) (s2 mulD' (sW 1) (s2 ixD (sW 0) (sC (.int 1)))))))
theorem ok__law_is_as_much {f : Addr} {fd : FuncData} (Fn : Fun K "_law_is_as_much" "_law_is_as_much" s__law_is_as_much f fd) (T : Txt K mg) (C__law_is_fraction : Callee P w K mg base "_law_is_fraction" 2 ["_law_told"] (spD K 1 f__law_is_fraction)) : FnOk P w K mg base CX0 3 f fd ["_law_told", "_law_top_here", "_law_bottom"] (spD K 3 f__law_is_as_much) := by
  refine def_ok Fn sc__law_is_as_much fun cdv A outer s H E hr => ?_
  have hu5 : (A.deeper (PyProof.Rows.envOfC "_law_is_as_much" (defScope s__law_is_as_much) s.heap.objs.size f cdv)).units + 65 < cLine := by have := hr.un; omega
  exact ⟨_, (ss_one (st_ret (ev_and (ev_call C__law_is_fraction (hr.mono (by decide)) (av_d (ev_v 0) av_nil) (ln_d ln_nil)) (ev_one (ev_cmp (od_eq rfl hr.units) (Ev.bw (ev_op (od_mul' rfl) (Ev.bw (ev_ix (id_ix rfl) (eb_v 0) (Ev.bw ev_int))) (eb_v 2))) (Ev.bw (ev_op (od_mul' rfl) (eb_v 1) (Ev.bw (ev_ix (id_ix rfl) (eb_v 0) (Ev.bw ev_int))))))))))⟩
theorem sc__law_below : FnScope ["_law_one", "_law_other_here", "_law_rest", "_law_more"] ["_law_one", "_law_other_here"] (defScope s__law_below) := ⟨rfl, rfl, rfl, by decide +kernel, rfl, by decide +kernel, by decide +kernel⟩
def f__law_below : List DV → M PyData := runD ["_law_one", "_law_other_here", "_law_rest", "_law_more"] (mSq (mWh (uB (s2 (eqD false) (s2 fdivD (s2 ixD (sW 0) (sC (.int 0))) (s2 ixD (sW 0) (sC (.int 1)))) (s2 fdivD (s2 ixD (sW 1) (sC (.int 0))) (s2 ixD (sW 1) (sC (.int 1)))))) (mSq (mPar 2 3 (sCons (s2 modD (s2 ixD (sW 0) (sC (.int 0))) (s2 ixD (sW 0) (sC (.int 1)))) (sCons (s2 modD (s2 ixD (sW 1) (sC (.int 0))) (s2 ixD (sW 1) (sC (.int 1)))) sNil)))
    (mSq (mIf (uOr (uB (s2 (eqD false) (sW 2) (sC (.int 0)))) (uB (s2 (eqD false) (sW 3) (sC (.int 0))))) (mRt (sAnd (s2 (eqD false) (sW 2) (sC (.int 0))) (s2 gtD (sW 3) (sC (.int 0))))) mNx)
    (mPar 0 1 (sCons (sTup (sCons (s2 ixD (sW 1) (sC (.int 1))) (sCons (sV 3) sNil))) (sCons (sTup (sCons (s2 ixD (sW 0) (sC (.int 1))) (sCons (sV 2) sNil))) sNil))))))
    (mRt (s2 ltD (s2 fdivD (s2 ixD (sW 0) (sC (.int 0))) (s2 ixD (sW 0) (sC (.int 1)))) (s2 fdivD (s2 ixD (sW 1) (sC (.int 0))) (s2 ixD (sW 1) (sC (.int 1)))))))
theorem ok__law_below {f : Addr} {fd : FuncData} (Fn : Fun K "_law_below" "_law_below" s__law_below f fd) (T : Txt K mg)  : FnOk P w K mg base CX0 1 f fd ["_law_one", "_law_other_here"] (spD K 2 f__law_below) := by
  refine def_ok Fn sc__law_below fun cdv A outer s H E hr => ?_
  have hu5 : (A.deeper (PyProof.Rows.envOfC "_law_below" (defScope s__law_below) s.heap.objs.size f cdv)).units + 65 < cLine := by have := hr.un; omega
  exact ⟨_, (ss_cons (st_while (et_cmp (od_eq rfl hr.units) (Ev.bw (ev_op od_fdiv (Ev.bw (ev_ix (id_ix rfl) (eb_v 0) (Ev.bw ev_int))) (Ev.bw (ev_ix (id_ix rfl) (eb_v 0) (Ev.bw ev_int))))) (Ev.bw (ev_op od_fdiv (Ev.bw (ev_ix (id_ix rfl) (eb_v 1) (Ev.bw ev_int))) (Ev.bw (ev_ix (id_ix rfl) (eb_v 1) (Ev.bw ev_int)))))) (ss_cons (st_par 2 3 rfl sc__law_below.nd (ea_cons (ev_op od_mod (Ev.bw (ev_ix (id_ix rfl) (eb_v 0) (Ev.bw ev_int))) (Ev.bw (ev_ix (id_ix rfl) (eb_v 0) (Ev.bw ev_int)))) (ea_cons (ev_op od_mod (Ev.bw (ev_ix (id_ix rfl) (eb_v 1) (Ev.bw ev_int))) (Ev.bw (ev_ix (id_ix rfl) (eb_v 1) (Ev.bw ev_int)))) ea_nil)))
      (ss_cons (st_if (Ew.t (ew_or (et_cmp (od_eq rfl hr.units) (eb_v 2) (Ev.bw ev_int)) (ew_or1 (et_cmp (od_eq rfl hr.units) (eb_v 3) (Ev.bw ev_int))))) (ss_one (st_ret (ev_and (ev_cmp (od_eq rfl hr.units) (eb_v 2) (Ev.bw ev_int)) (ev_one (ev_cmp od_gt (eb_v 3) (Ev.bw ev_int)))))) ss_nil)
      (ss_one (st_par 0 1 rfl sc__law_below.nd (ea_cons (ev_tup (ea_cons (ev_ix (id_ix rfl) (eb_v 1) (Ev.bw ev_int)) (ea_cons (ev_v 3) ea_nil))) (ea_cons (ev_tup (ea_cons (ev_ix (id_ix rfl) (eb_v 0) (Ev.bw ev_int)) (ea_cons (ev_v 2) ea_nil))) ea_nil)))))))
      (ss_one (st_ret (ev_cmp od_lt (Ev.bw (ev_op od_fdiv (Ev.bw (ev_ix (id_ix rfl) (eb_v 0) (Ev.bw ev_int))) (Ev.bw (ev_ix (id_ix rfl) (eb_v 0) (Ev.bw ev_int))))) (Ev.bw (ev_op od_fdiv (Ev.bw (ev_ix (id_ix rfl) (eb_v 1) (Ev.bw ev_int))) (Ev.bw (ev_ix (id_ix rfl) (eb_v 1) (Ev.bw ev_int)))))))))⟩
theorem sc__law_other : FnScope ["_law_feed_here", "_law_one", "_law_way"] ["_law_feed_here", "_law_one"] (defScope s__law_other) := ⟨rfl, rfl, rfl, by decide +kernel, rfl, by decide +kernel, by decide +kernel⟩
def f__law_other : List DV → M PyData := runD ["_law_feed_here", "_law_one", "_law_way"] (mSq (mSet 2 (sCall drawS (vF 0 (vD (sC (.int 5)) vNil))))
    (mSq (mIf (uB (s2 (eqD false) (sW 2) (sC (.int 0)))) (mRt (sV 1)) mNx)
    (mSq (mIf (uB (s2 (eqD false) (sW 2) (sC (.int 1)))) (mRt (sCall f__law_low (vD (s2 addD (s2 ixD (sW 1) (sC (.int 0))) (s2 ixD (sC (.list [.int 1, .int (-1)])) (sCall drawS (vF 0 (vD (sC (.int 2)) vNil))))) (vD (s2 ixD (sW 1) (sC (.int 1))) vNil)))) mNx)
    (mSq (mIf (uB (s2 (eqD false) (sW 2) (sC (.int 2)))) (mRt (sCall f__law_low (vD (sCall f__law_top (vF 0 vNil)) (vD (s2 ixD (sW 1) (sC (.int 1))) vNil)))) mNx)
    (mRt (sCall f__law_low (vD (sCall f__law_top (vF 0 vNil)) (vD (s2 addD (sC (.int 1)) (sCall f__law_size (vF 0 vNil))) vNil))))))))
theorem ok__law_other {f : Addr} {fd : FuncData} (Fn : Fun K "_law_other" "_law_other" s__law_other f fd) (T : Txt K mg) (C__law_draw : Callee P w K mg base "_law_draw" 1 ["_law_feed_here", "_law_many"] (spD K 2 drawS)) (C__law_low : Callee P w K mg base "_law_low" 2 ["_law_top_here", "_law_bottom"] (spD K 2 f__law_low)) (C__law_top : Callee P w K mg base "_law_top" 4 ["_law_feed_here"] (spD K 1 f__law_top)) (C__law_size : Callee P w K mg base "_law_size" 3 ["_law_feed_here"] (spD K 1 f__law_size)) : FnOk P w K mg base CX0 5 f fd ["_law_feed_here", "_law_one"] (spD K 2 f__law_other) := by
  refine def_ok Fn sc__law_other fun cdv A outer s H E hr => ?_
  have hu5 : (A.deeper (PyProof.Rows.envOfC "_law_other" (defScope s__law_other) s.heap.objs.size f cdv)).units + 65 < cLine := by have := hr.un; omega
  exact ⟨_, (ss_cons (st_set 2 sc__law_other.nd (ev_call C__law_draw (hr.mono (by decide)) (av_f 0 (av_d ev_int av_nil)) (ln_f (ln_d ln_nil))))
      (ss_cons (st_if (et_cmp (od_eq rfl hr.units) (eb_v 2) (Ev.bw ev_int)) (ss_one (st_ret (ev_v 1))) ss_nil)
      (ss_cons (st_if (et_cmp (od_eq rfl hr.units) (eb_v 2) (Ev.bw ev_int)) (ss_one (st_ret (ev_call C__law_low (hr.mono (by decide)) (av_d (ev_op (od_add rfl) (Ev.bw (ev_ix (id_ix rfl) (eb_v 1) (Ev.bw ev_int))) (Ev.bw (ev_ix (id_ix rfl) (Ev.bw (ev_k (.list [.int 1, .int (-1)]) rfl)) (Ev.bw (ev_call C__law_draw (hr.mono (by decide)) (av_f 0 (av_d ev_int av_nil)) (ln_f (ln_d ln_nil))))))) (av_d (ev_ix (id_ix rfl) (eb_v 1) (Ev.bw ev_int)) av_nil)) (ln_d (ln_d ln_nil))))) ss_nil)
      (ss_cons (st_if (et_cmp (od_eq rfl hr.units) (eb_v 2) (Ev.bw ev_int)) (ss_one (st_ret (ev_call C__law_low (hr.mono (by decide)) (av_d (ev_call C__law_top (hr.mono (by decide)) (av_f 0 av_nil) (ln_f ln_nil)) (av_d (ev_ix (id_ix rfl) (eb_v 1) (Ev.bw ev_int)) av_nil)) (ln_d (ln_d ln_nil))))) ss_nil)
      (ss_one (st_ret (ev_call C__law_low (hr.mono (by decide)) (av_d (ev_call C__law_top (hr.mono (by decide)) (av_f 0 av_nil) (ln_f ln_nil)) (av_d (ev_op (od_add rfl) (Ev.bw ev_int) (Ev.bw (ev_call C__law_size (hr.mono (by decide)) (av_f 0 av_nil) (ln_f ln_nil)))) av_nil)) (ln_d (ln_d ln_nil)))))))))⟩
theorem sc__law_two_right : FnScope ["_law_one", "_law_other_here", "_law_a", "_law_b", "_law_c", "_law_d"] ["_law_one", "_law_other_here"] (defScope s__law_two_right) := ⟨rfl, rfl, rfl, by decide +kernel, rfl, by decide +kernel, by decide +kernel⟩
def f__law_two_right : List DV → M PyData := runD ["_law_one", "_law_other_here", "_law_a", "_law_b", "_law_c", "_law_d"] (mSq (mAsg (bTup 2 (bCons (bTup 2 (bCons (bN 2) (bCons (bN 3) bNil))) (bCons (bTup 2 (bCons (bN 4) (bCons (bN 5) bNil))) bNil))) (sTup (sCons (sV 0) (sCons (sV 1) sNil))))
    (mSq (mIf (uNot (uT (sCall f__law_is_as_much (vD (sCall f_plus (vD (sV 0) (vD (sV 1) vNil))) (vD (s2 addD (s2 mulD' (sW 2) (sW 5)) (s2 mulD' (sW 4) (sW 3))) (vD (s2 mulD' (sW 3) (sW 5)) vNil)))))) (mRt (sC (.bool false))) mNx)
    (mSq (mIf (uNot (uT (sCall f__law_is_as_much (vD (sCall f_minus (vD (sV 0) (vD (sV 1) vNil))) (vD (s2 subD (s2 mulD' (sW 2) (sW 5)) (s2 mulD' (sW 4) (sW 3))) (vD (s2 mulD' (sW 3) (sW 5)) vNil)))))) (mRt (sC (.bool false))) mNx)
    (mSq (mIf (uNot (uT (sCall f__law_is_as_much (vD (sCall f_times (vD (sV 0) (vD (sV 1) vNil))) (vD (s2 mulD' (sW 2) (sW 4)) (vD (s2 mulD' (sW 3) (sW 5)) vNil)))))) (mRt (sC (.bool false))) mNx)
    (mSq (mIf (uAnd (uB (s2 (eqD true) (sW 4) (sC (.int 0)))) (uNot (uT (sCall f__law_is_as_much (vD (sCall f_over (vD (sV 0) (vD (sV 1) vNil))) (vD (s2 mulD' (sW 2) (sW 5)) (vD (s2 mulD' (sW 3) (sW 4)) vNil))))))) (mRt (sC (.bool false))) mNx)
    (mRt (s2 (eqD false) (sN reprD (sCons (sCall f_less (vD (sV 0) (vD (sV 1) vNil))) sNil)) (sN reprD (sCons (sCall f__law_below (vD (sV 0) (vD (sV 1) vNil))) sNil)))))))))
theorem ok__law_two_right {f : Addr} {fd : FuncData} (Fn : Fun K "_law_two_right" "_law_two_right" s__law_two_right f fd) (T : Txt K mg) (C__law_is_as_much : Callee P w K mg base "_law_is_as_much" 3 ["_law_told", "_law_top_here", "_law_bottom"] (spD K 3 f__law_is_as_much)) (C_plus : Callee P w K mg base "plus" 3 ["one", "other"] (spD K 2 f_plus)) (C_minus : Callee P w K mg base "minus" 3 ["one", "other"] (spD K 2 f_minus)) (C_times : Callee P w K mg base "times" 3 ["one", "other"] (spD K 2 f_times)) (C_over : Callee P w K mg base "over" 3 ["one", "other"] (spD K 2 f_over)) (C_less : Callee P w K mg base "less" 1 ["one", "other"] (spD K 2 f_less)) (C__law_below : Callee P w K mg base "_law_below" 1 ["_law_one", "_law_other_here"] (spD K 2 f__law_below)) : FnOk P w K mg base CX0 4 f fd ["_law_one", "_law_other_here"] (spD K 2 f__law_two_right) := by
  refine def_ok Fn sc__law_two_right fun cdv A outer s H E hr => ?_
  have hu5 : (A.deeper (PyProof.Rows.envOfC "_law_two_right" (defScope s__law_two_right) s.heap.objs.size f cdv)).units + 65 < cLine := by have := hr.un; omega
  exact ⟨_, (ss_cons (st_asg (ev_tup (ea_cons (ev_v 0) (ea_cons (ev_v 1) ea_nil))) (eg_tup (n := 2) rfl (egs_cons (eg_tup (n := 2) rfl (egs_cons (eg_n (i := 2) sc__law_two_right.nd) (egs_cons (eg_n (i := 3) sc__law_two_right.nd) egs_nil))) (egs_cons (eg_tup (n := 2) rfl (egs_cons (eg_n (i := 4) sc__law_two_right.nd) (egs_cons (eg_n (i := 5) sc__law_two_right.nd) egs_nil))) egs_nil))))
      (ss_cons (st_if (et_not (et_val (Ev.bw (ev_call C__law_is_as_much (hr.mono (by decide)) (av_d (ev_call C_plus (hr.mono (by decide)) (av_d (ev_v 0) (av_d (ev_v 1) av_nil)) (ln_d (ln_d ln_nil))) (av_d (ev_op (od_add rfl) (Ev.bw (ev_op (od_mul' rfl) (eb_v 2) (eb_v 5))) (Ev.bw (ev_op (od_mul' rfl) (eb_v 4) (eb_v 3)))) (av_d (ev_op (od_mul' rfl) (eb_v 3) (eb_v 5)) av_nil))) (ln_d (ln_d (ln_d ln_nil))))))) (ss_one (st_ret ev_bl)) ss_nil)
      (ss_cons (st_if (et_not (et_val (Ev.bw (ev_call C__law_is_as_much (hr.mono (by decide)) (av_d (ev_call C_minus (hr.mono (by decide)) (av_d (ev_v 0) (av_d (ev_v 1) av_nil)) (ln_d (ln_d ln_nil))) (av_d (ev_op od_sub (Ev.bw (ev_op (od_mul' rfl) (eb_v 2) (eb_v 5))) (Ev.bw (ev_op (od_mul' rfl) (eb_v 4) (eb_v 3)))) (av_d (ev_op (od_mul' rfl) (eb_v 3) (eb_v 5)) av_nil))) (ln_d (ln_d (ln_d ln_nil))))))) (ss_one (st_ret ev_bl)) ss_nil)
      (ss_cons (st_if (et_not (et_val (Ev.bw (ev_call C__law_is_as_much (hr.mono (by decide)) (av_d (ev_call C_times (hr.mono (by decide)) (av_d (ev_v 0) (av_d (ev_v 1) av_nil)) (ln_d (ln_d ln_nil))) (av_d (ev_op (od_mul' rfl) (eb_v 2) (eb_v 4)) (av_d (ev_op (od_mul' rfl) (eb_v 3) (eb_v 5)) av_nil))) (ln_d (ln_d (ln_d ln_nil))))))) (ss_one (st_ret ev_bl)) ss_nil)
      (ss_cons (st_if (Ew.t (ew_and (et_cmp (od_ne rfl hr.units) (eb_v 4) (Ev.bw ev_int)) (ew_and1 (et_not (et_val (Ev.bw (ev_call C__law_is_as_much (hr.mono (by decide)) (av_d (ev_call C_over (hr.mono (by decide)) (av_d (ev_v 0) (av_d (ev_v 1) av_nil)) (ln_d (ln_d ln_nil))) (av_d (ev_op (od_mul' rfl) (eb_v 2) (eb_v 5)) (av_d (ev_op (od_mul' rfl) (eb_v 3) (eb_v 4)) av_nil))) (ln_d (ln_d (ln_d ln_nil)))))))))) (ss_one (st_ret ev_bl)) ss_nil)
      (ss_one (st_ret (ev_cmp (od_eq rfl hr.units) (Ev.bw (ev_callB (cd_repr rfl hr.gd hr.units) T.repr bt_repr (es_cons (Ev.bw (ev_call C_less (hr.mono (by decide)) (av_d (ev_v 0) (av_d (ev_v 1) av_nil)) (ln_d (ln_d ln_nil)))) es_nil))) (Ev.bw (ev_callB (cd_repr rfl hr.gd hr.units) T.repr bt_repr (es_cons (Ev.bw (ev_call C__law_below (hr.mono (by decide)) (av_d (ev_v 0) (av_d (ev_v 1) av_nil)) (ln_d (ln_d ln_nil)))) es_nil)))))))))))⟩
theorem sc__law_long : FnScope ["_law_one", "_law_other_here", "_law_k"] [] (defScope s__law_long) := ⟨rfl, rfl, rfl, by decide +kernel, rfl, by decide +kernel, by decide +kernel⟩
def f__law_long : List DV → M PyData := runD ["_law_one", "_law_other_here", "_law_k"] (mSq (mAsg (bTup 2 (bCons (bN 0) (bCons (bN 1) bNil))) (sC (.tuple [.tuple [.int 1, .int 1], .tuple [.int 1, .int 3]])))
    (mSq (mFor (mRng1 (sCons (sC (.int 940)) sNil)) (bN 2) (mPar 0 1 (sCons (sTup (sCons (s2 ixD (sW 0) (sC (.int 1))) (sCons (s2 addD (s2 ixD (sW 0) (sC (.int 0))) (s2 ixD (sW 0) (sC (.int 1)))) sNil))) (sCons (sTup (sCons (s2 ixD (sW 1) (sC (.int 1))) (sCons (s2 addD (s2 ixD (sW 1) (sC (.int 0))) (s2 ixD (sW 1) (sC (.int 1)))) sNil))) sNil))))
    (mRt (sLst (sCons (sTup (sCons (sV 0) (sCons (sV 1) sNil))) (sCons (sTup (sCons (sV 1) (sCons (sV 0) sNil))) sNil))))))
theorem ok__law_long {f : Addr} {fd : FuncData} (Fn : Fun K "_law_long" "_law_long" s__law_long f fd) (T : Txt K mg)  : FnOk P w K mg base CX0 1 f fd [] (spD K 0 f__law_long) := by
  refine def_ok Fn sc__law_long fun cdv A outer s H E hr => ?_
  have hu5 : (A.deeper (PyProof.Rows.envOfC "_law_long" (defScope s__law_long) s.heap.objs.size f cdv)).units + 65 < cLine := by have := hr.un; omega
  exact ⟨_, (ss_cons (st_asg (ev_k (.tuple [.tuple [.int 1, .int 1], .tuple [.int 1, .int 3]]) rfl) (eg_tup (n := 2) rfl (egs_cons (eg_n (i := 0) sc__law_long.nd) (egs_cons (eg_n (i := 1) sc__law_long.nd) egs_nil))))
      (ss_cons (st_for rfl (ei_rng1 (ea_cons ev_int ea_nil) T.range) (eg_n (i := 2) sc__law_long.nd) (ss_one (st_par 0 1 rfl sc__law_long.nd (ea_cons (ev_tup (ea_cons (ev_ix (id_ix rfl) (eb_v 0) (Ev.bw ev_int)) (ea_cons (ev_op (od_add rfl) (Ev.bw (ev_ix (id_ix rfl) (eb_v 0) (Ev.bw ev_int))) (Ev.bw (ev_ix (id_ix rfl) (eb_v 0) (Ev.bw ev_int)))) ea_nil))) (ea_cons (ev_tup (ea_cons (ev_ix (id_ix rfl) (eb_v 1) (Ev.bw ev_int)) (ea_cons (ev_op (od_add rfl) (Ev.bw (ev_ix (id_ix rfl) (eb_v 1) (Ev.bw ev_int))) (Ev.bw (ev_ix (id_ix rfl) (eb_v 1) (Ev.bw ev_int)))) ea_nil))) ea_nil)))))
      (ss_one (st_ret (ev_lst (ea_cons (ev_tup (ea_cons (ev_v 0) (ea_cons (ev_v 1) ea_nil))) (ea_cons (ev_tup (ea_cons (ev_v 1) (ea_cons (ev_v 0) ea_nil))) ea_nil)))))))⟩
theorem sc__law_mean_right : FnScope ["_law_feed_here", "_law_pairs", "_law_lot", "_law_handed", "_law_turn", "_law_told"] ["_law_feed_here"] (defScope s__law_mean_right) := ⟨rfl, rfl, rfl, by decide +kernel, rfl, by decide +kernel, by decide +kernel⟩
def f__law_mean_right : List DV → M PyData := runD ["_law_feed_here", "_law_pairs", "_law_lot", "_law_handed", "_law_turn", "_law_told"] (mSq (mOwn 1 (fLC (mRng1 (sCons (s2 addD (sC (.int 1)) (sCall drawS (vF 0 (vD (sC (.int 11)) vNil)))) sNil)) 1 [0] (bN 0) uYes (sTup (sCons (sCall f__law_top (vF 1 vNil)) (sCons (sCall drawS (vF 1 (vD (sC (.int 13)) vNil))) sNil)))))
    (mSq (mSet 2 (s2 addD (sC (.int 1)) (sCall drawS (vF 0 (vD (sC (.int 12)) vNil)))))
    (mSq (mIf (uB (s2 (eqD false) (sCall drawS (vF 0 (vD (sC (.int 3)) vNil))) (sC (.int 0)))) (mSet 2 (s2 addD (sC (.int 1)) (sCall f__law_wide (vF 0 (vD (s2 ixD (sC (.list [.int 1, .int 6, .int 33])) (sCall drawS (vF 0 (vD (sC (.int 3)) vNil)))) vNil))))) mNx)
    (mSq (mIns 1 (sCall drawS (vF 0 (vD (s2 addD (sN lenD (sCons (sW 1) sNil)) (sC (.int 1))) vNil))) (sTup (sCons (sCall f__law_top (vF 0 vNil)) (sCons (sV 2) sNil))))
    (mSq (mOwn 1 (fCat (sW 1) (sCut (sW 1) oNo (oI (sCall drawS (vF 0 (vD (sC (.int 2)) vNil)))))))
    (mSq (mSet 3 (sIf (uB (s2 (eqD false) (sCall drawS (vF 0 (vD (sC (.int 2)) vNil))) (sC (.int 0)))) (sN tupleD (sCons (sW 1) sNil)) (sN listD (sCons (sW 1) sNil))))
    (mSq (mFor (mRng1 (sCons (sC (.int 2)) sNil)) (bN 4) (mSq (mSet 5 (sCall f_mean_of (vD (sV 3) vNil)))
    (mSq (mIf (uOr (uNot (uT (sCall f__law_is_fraction (vD (sV 5) vNil)))) (uB (s2 (eqD true) (sN listD (sCons (sW 3) sNil)) (sW 1)))) (mRt (sC (.bool false))) mNx)
    (mIf (uB (s2 (eqD true) (sN sumD (sCons (sLC (mSeq (sW 1)) 2 [5] (bTup 2 (bCons (bN 0) (bCons (bN 1) bNil))) uYes (s2 mulD' (sW 1) (s2 subD (s2 mulD' (sW 0) (s2 ixD (sW 2) (sC (.int 1)))) (s2 ixD (sW 2) (sC (.int 0)))))) sNil)) (sC (.int 0)))) (mRt (sC (.bool false))) mNx))))
    (mRt (sC (.bool true))))))))))
theorem ok__law_mean_right {f : Addr} {fd : FuncData} (Fn : Fun K "_law_mean_right" "_law_mean_right" s__law_mean_right f fd) (T : Txt K mg) (C__law_draw : Callee P w K mg base "_law_draw" 1 ["_law_feed_here", "_law_many"] (spD K 2 drawS)) (C__law_top : Callee P w K mg base "_law_top" 4 ["_law_feed_here"] (spD K 1 f__law_top)) (C__law_wide : Callee P w K mg base "_law_wide" 2 ["_law_feed_here", "_law_pieces"] (spD K 2 f__law_wide)) (C_mean_of : Callee P w K mg base "mean_of" 3 ["pairs"] (spD K 1 f_mean_of)) (C__law_is_fraction : Callee P w K mg base "_law_is_fraction" 2 ["_law_told"] (spD K 1 f__law_is_fraction)) : FnOk P w K mg base CX0 5 f fd ["_law_feed_here"] (spD K 1 f__law_mean_right) := by
  refine def_ok Fn sc__law_mean_right fun cdv A outer s H E hr => ?_
  have hu5 : (A.deeper (PyProof.Rows.envOfC "_law_mean_right" (defScope s__law_mean_right) s.heap.objs.size f cdv)).units + 65 < cLine := by have := hr.un; omega
  exact ⟨_, (ss_cons (st_ownLC 1 (hN := sc__law_mean_right.nd) (osc := (defScope s__law_mean_right)) (N := ["_law_k", "_law_feed_here"]) (k := 1) (cap := [0]) (hc := rfl) (hosc := rfl) (hcap := ⟨rfl, by decide +kernel, by decide +kernel, by decide +kernel, rfl, rfl, by decide +kernel⟩) (Ei.bw (ei_rng1 (ea_cons (ev_op (od_add rfl) (Ev.bw ev_int) (Ev.bw (ev_call C__law_draw (hr.mono (by decide)) (av_f 0 (av_d ev_int av_nil)) (ln_f (ln_d ln_nil))))) ea_nil) T.range)) (fun cl C ex pins s H => (eg_n (i := 0) (show List.Nodup (["_law_k", "_law_feed_here"] : List Str) by decide +kernel))) (fun cl C ex pins s H => ets_nil) (fun cl C ex pins s H => (ev_tup (ea_cons (ev_call C__law_top (hr.mono (by decide)) (av_f 1 av_nil) (ln_f ln_nil)) (ea_cons (ev_call C__law_draw (hr.mono (by decide)) (av_f 1 (av_d ev_int av_nil)) (ln_f (ln_d ln_nil))) ea_nil)))))
      (ss_cons (st_set 2 sc__law_mean_right.nd (ev_op (od_add rfl) (Ev.bw ev_int) (Ev.bw (ev_call C__law_draw (hr.mono (by decide)) (av_f 0 (av_d ev_int av_nil)) (ln_f (ln_d ln_nil))))))
      (ss_cons (st_if (et_cmp (od_eq rfl hr.units) (Ev.bw (ev_call C__law_draw (hr.mono (by decide)) (av_f 0 (av_d ev_int av_nil)) (ln_f (ln_d ln_nil)))) (Ev.bw ev_int)) (ss_one (st_set 2 sc__law_mean_right.nd (ev_op (od_add rfl) (Ev.bw ev_int) (Ev.bw (ev_call C__law_wide (hr.mono (by decide)) (av_f 0 (av_d (ev_ix (id_ix rfl) (Ev.bw (ev_k (.list [.int 1, .int 6, .int 33]) rfl)) (Ev.bw (ev_call C__law_draw (hr.mono (by decide)) (av_f 0 (av_d ev_int av_nil)) (ln_f (ln_d ln_nil))))) av_nil)) (ln_f (ln_d ln_nil))))))) ss_nil)
      (ss_cons (st_ins 1 rfl (ev_call C__law_draw (hr.mono (by decide)) (av_f 0 (av_d (ev_op (od_add rfl) (Ev.bw (ev_callB (cd_len rfl) T.len bt_len (es_cons (eb_v 1) es_nil))) (Ev.bw ev_int)) av_nil)) (ln_f (ln_d ln_nil))) (ev_tup (ea_cons (ev_call C__law_top (hr.mono (by decide)) (av_f 0 av_nil) (ln_f ln_nil)) (ea_cons (ev_v 2) ea_nil))))
      (ss_cons (st_own 1 sc__law_mean_right.nd (ef_cat (eb_v 1) (Ev.bw (ev_cut (eb_v 1) eo_no (eo_i (ev_call C__law_draw (hr.mono (by decide)) (av_f 0 (av_d ev_int av_nil)) (ln_f (ln_d ln_nil))))))))
      (ss_cons (st_set 3 sc__law_mean_right.nd (ev_if (et_cmp (od_eq rfl hr.units) (Ev.bw (ev_call C__law_draw (hr.mono (by decide)) (av_f 0 (av_d ev_int av_nil)) (ln_f (ln_d ln_nil)))) (Ev.bw ev_int)) (ev_callT (cd_tuple rfl) T.tuple bt_tuple (es_cons (eb_v 1) es_nil)) (ev_callT (cd_list rfl) T.list bt_list (es_cons (eb_v 1) es_nil))))
      (ss_cons (st_for rfl (ei_rng1 (ea_cons ev_int ea_nil) T.range) (eg_n (i := 4) sc__law_mean_right.nd) (ss_cons (st_set 5 sc__law_mean_right.nd (ev_call C_mean_of (hr.mono (by decide)) (av_d (ev_v 3) av_nil) (ln_d ln_nil)))
      (ss_cons (st_if (Ew.t (ew_or (et_not (et_val (Ev.bw (ev_call C__law_is_fraction (hr.mono (by decide)) (av_d (ev_v 5) av_nil) (ln_d ln_nil))))) (ew_or1 (et_cmp (od_ne rfl hr.units) (Ev.bw (ev_callT (cd_list rfl) T.list bt_list (es_cons (eb_v 3) es_nil))) (eb_v 1))))) (ss_one (st_ret ev_bl)) ss_nil)
      (ss_one (st_if (et_cmp (od_ne rfl hr.units) (Ev.bw (ev_callB (cd_sum rfl rfl) T.sum bt_sum (es_cons (Ev.bw (ev_lc (osc := (defScope s__law_mean_right)) (N := ["_law_number", "_law_lot", "_law_told"]) (k := 2) (cap := [5]) rfl rfl ⟨rfl, by decide +kernel, by decide +kernel, by decide +kernel, rfl, rfl, by decide +kernel⟩ (eib_seq (eb_v 1)) (fun cl C ex pins s H => (eg_tup (n := 2) rfl (egs_cons (eg_n (i := 0) (show List.Nodup (["_law_number", "_law_lot", "_law_told"] : List Str) by decide +kernel)) (egs_cons (eg_n (i := 1) (show List.Nodup (["_law_number", "_law_lot", "_law_told"] : List Str) by decide +kernel)) egs_nil)))) (fun cl C ex pins s H => ets_nil) (fun cl C ex pins s H => (ev_op (od_mul' rfl) (eb_v 1) (Ev.bw (ev_op od_sub (Ev.bw (ev_op (od_mul' rfl) (eb_v 0) (Ev.bw (ev_ix (id_ix rfl) (eb_v 2) (Ev.bw ev_int))))) (Ev.bw (ev_ix (id_ix rfl) (eb_v 2) (Ev.bw ev_int))))))))) es_nil))) (Ev.bw ev_int)) (ss_one (st_ret ev_bl)) ss_nil)))))
      (ss_one (st_ret ev_bl)))))))))⟩
end
end K2
set_option Elab.async false
set_option linter.all false
set_option maxRecDepth 100000
set_option maxHeartbeats 1000000
namespace K2
open PySem L2 L3
noncomputable section
variable {P : Program} {w : World} {K : PySem.W.Frag} {mg : Str → Option Value} {base : Heap}
theorem sc_law : FnScope ["_law_script", "_law_feed_here", "_law_one", "_law_other_here", "_law_k", "_law_here", "_law_there", "_law_top_here", "_law_bottom"] ["_law_script"] (defScope s_law) := ⟨rfl, rfl, rfl, by decide +kernel, rfl, by decide +kernel, by decide +kernel⟩
def forBody : Stmt → List Stmt
  | .For _ _ b _ _ => b
  | _ => []
def m_law_1 : DE → M Out := (mFor (mSeq (s2 mulD' (sCall f__law_long vNil) (sN intD (sCons (s2 (eqD false) (sCall drawS (vF 1 (vD (sC (.int 8)) vNil))) (sC (.int 0))) sNil)))) (bTup 2 (bCons (bN 2) (bCons (bN 3) bNil))) (mIf (uNot (uT (sCall f__law_two_right (vD (sV 2) (vD (sV 3) vNil))))) (mRt (sC (.bool false))) mNx))
theorem ok_law_1 {f : Addr} {cdv : Value} {A : Around} {outer : List Env} {s : Shared} {H : Hp} {E : XK} (T : Txt K mg) (hr : Room 5 (A.deeper (PyProof.Rows.envOfC "law" (defScope s_law) s.heap.objs.size f cdv))) (hu5 : (A.deeper (PyProof.Rows.envOfC "law" (defScope s_law) s.heap.objs.size f cdv)).units + 65 < cLine) (C__law_long : Callee P w K mg base "_law_long" 1 [] (spD K 0 f__law_long)) (C__law_draw : Callee P w K mg base "_law_draw" 1 ["_law_feed_here", "_law_many"] (spD K 2 drawS)) (C__law_two_right : Callee P w K mg base "_law_two_right" 4 ["_law_one", "_law_other_here"] (spD K 2 f__law_two_right)) (C__law_low : Callee P w K mg base "_law_low" 2 ["_law_top_here", "_law_bottom"] (spD K 2 f__law_low)) (C__law_size : Callee P w K mg base "_law_size" 3 ["_law_feed_here"] (spD K 1 f__law_size)) (C__law_top : Callee P w K mg base "_law_top" 4 ["_law_feed_here"] (spD K 1 f__law_top)) (C__law_other : Callee P w K mg base "_law_other" 5 ["_law_feed_here", "_law_one"] (spD K 2 f__law_other)) (C__law_is_as_much : Callee P w K mg base "_law_is_as_much" 3 ["_law_told", "_law_top_here", "_law_bottom"] (spD K 3 f__law_is_as_much)) (C_fraction : Callee P w K mg base "fraction" 2 ["top", "bottom"] (spD K 2 f_fraction)) (C__law_mean_right : Callee P w K mg base "_law_mean_right" 5 ["_law_feed_here"] (spD K 1 f__law_mean_right)) : ∃ ts, Ss K (cxOf CX0 P w K mg base ["_law_script", "_law_feed_here", "_law_one", "_law_other_here", "_law_k", "_law_here", "_law_there", "_law_top_here", "_law_bottom"] "law" (defScope s_law) f cdv A outer s H E).nox ((defBody s_law).getD 1 (.Pass ⟨0, 0, 0, 0⟩)) ts m_law_1 := by
  unfold m_law_1
  exact ⟨_, (st_for rfl (ei_seq (ev_op (od_mul' rfl) (Ev.bw (ev_call0 C__law_long (hr.mono (by decide)))) (Ev.bw (ev_callT (cd_int) T.int bt_int (es_cons (Ev.bw (ev_cmp (od_eq rfl hr.units) (Ev.bw (ev_call C__law_draw (hr.mono (by decide)) (av_f 1 (av_d ev_int av_nil)) (ln_f (ln_d ln_nil)))) (Ev.bw ev_int))) es_nil))))) (eg_tup (n := 2) rfl (egs_cons (eg_n (i := 2) sc_law.nd) (egs_cons (eg_n (i := 3) sc_law.nd) egs_nil))) (ss_one (st_if (et_not (et_val (Ev.bw (ev_call C__law_two_right (hr.mono (by decide)) (av_d (ev_v 2) (av_d (ev_v 3) av_nil)) (ln_d (ln_d ln_nil)))))) (ss_one (st_ret ev_bl)) ss_nil)))⟩
def m_law_2_0 : DE → M Out := (mSet 2 (sCall f__law_low (vD (sCall f__law_top (vF 1 vNil)) (vD (s2 addD (sC (.int 1)) (sCall f__law_size (vF 1 vNil))) vNil))))
theorem ok_law_2_0 {f : Addr} {cdv : Value} {A : Around} {outer : List Env} {s : Shared} {H : Hp} {E : XK} (T : Txt K mg) (hr : Room 5 (A.deeper (PyProof.Rows.envOfC "law" (defScope s_law) s.heap.objs.size f cdv))) (hu5 : (A.deeper (PyProof.Rows.envOfC "law" (defScope s_law) s.heap.objs.size f cdv)).units + 65 < cLine) (C__law_long : Callee P w K mg base "_law_long" 1 [] (spD K 0 f__law_long)) (C__law_draw : Callee P w K mg base "_law_draw" 1 ["_law_feed_here", "_law_many"] (spD K 2 drawS)) (C__law_two_right : Callee P w K mg base "_law_two_right" 4 ["_law_one", "_law_other_here"] (spD K 2 f__law_two_right)) (C__law_low : Callee P w K mg base "_law_low" 2 ["_law_top_here", "_law_bottom"] (spD K 2 f__law_low)) (C__law_size : Callee P w K mg base "_law_size" 3 ["_law_feed_here"] (spD K 1 f__law_size)) (C__law_top : Callee P w K mg base "_law_top" 4 ["_law_feed_here"] (spD K 1 f__law_top)) (C__law_other : Callee P w K mg base "_law_other" 5 ["_law_feed_here", "_law_one"] (spD K 2 f__law_other)) (C__law_is_as_much : Callee P w K mg base "_law_is_as_much" 3 ["_law_told", "_law_top_here", "_law_bottom"] (spD K 3 f__law_is_as_much)) (C_fraction : Callee P w K mg base "fraction" 2 ["top", "bottom"] (spD K 2 f_fraction)) (C__law_mean_right : Callee P w K mg base "_law_mean_right" 5 ["_law_feed_here"] (spD K 1 f__law_mean_right)) : ∃ ts, Ss K (cxOf CX0 P w K mg base ["_law_script", "_law_feed_here", "_law_one", "_law_other_here", "_law_k", "_law_here", "_law_there", "_law_top_here", "_law_bottom"] "law" (defScope s_law) f cdv A outer s H E).nox ((forBody ((defBody s_law).getD 2 (.Pass ⟨0, 0, 0, 0⟩))).getD 0 (.Pass ⟨0, 0, 0, 0⟩)) ts m_law_2_0 := by
  unfold m_law_2_0
  exact ⟨_, (st_set 2 sc_law.nd (ev_call C__law_low (hr.mono (by decide)) (av_d (ev_call C__law_top (hr.mono (by decide)) (av_f 1 av_nil) (ln_f ln_nil)) (av_d (ev_op (od_add rfl) (Ev.bw ev_int) (Ev.bw (ev_call C__law_size (hr.mono (by decide)) (av_f 1 av_nil) (ln_f ln_nil)))) av_nil)) (ln_d (ln_d ln_nil))))⟩
def m_law_2_1 : DE → M Out := (mSet 3 (sCall f__law_other (vF 1 (vD (sV 2) vNil))))
theorem ok_law_2_1 {f : Addr} {cdv : Value} {A : Around} {outer : List Env} {s : Shared} {H : Hp} {E : XK} (T : Txt K mg) (hr : Room 5 (A.deeper (PyProof.Rows.envOfC "law" (defScope s_law) s.heap.objs.size f cdv))) (hu5 : (A.deeper (PyProof.Rows.envOfC "law" (defScope s_law) s.heap.objs.size f cdv)).units + 65 < cLine) (C__law_long : Callee P w K mg base "_law_long" 1 [] (spD K 0 f__law_long)) (C__law_draw : Callee P w K mg base "_law_draw" 1 ["_law_feed_here", "_law_many"] (spD K 2 drawS)) (C__law_two_right : Callee P w K mg base "_law_two_right" 4 ["_law_one", "_law_other_here"] (spD K 2 f__law_two_right)) (C__law_low : Callee P w K mg base "_law_low" 2 ["_law_top_here", "_law_bottom"] (spD K 2 f__law_low)) (C__law_size : Callee P w K mg base "_law_size" 3 ["_law_feed_here"] (spD K 1 f__law_size)) (C__law_top : Callee P w K mg base "_law_top" 4 ["_law_feed_here"] (spD K 1 f__law_top)) (C__law_other : Callee P w K mg base "_law_other" 5 ["_law_feed_here", "_law_one"] (spD K 2 f__law_other)) (C__law_is_as_much : Callee P w K mg base "_law_is_as_much" 3 ["_law_told", "_law_top_here", "_law_bottom"] (spD K 3 f__law_is_as_much)) (C_fraction : Callee P w K mg base "fraction" 2 ["top", "bottom"] (spD K 2 f_fraction)) (C__law_mean_right : Callee P w K mg base "_law_mean_right" 5 ["_law_feed_here"] (spD K 1 f__law_mean_right)) : ∃ ts, Ss K (cxOf CX0 P w K mg base ["_law_script", "_law_feed_here", "_law_one", "_law_other_here", "_law_k", "_law_here", "_law_there", "_law_top_here", "_law_bottom"] "law" (defScope s_law) f cdv A outer s H E).nox ((forBody ((defBody s_law).getD 2 (.Pass ⟨0, 0, 0, 0⟩))).getD 1 (.Pass ⟨0, 0, 0, 0⟩)) ts m_law_2_1 := by
  unfold m_law_2_1
  exact ⟨_, (st_set 3 sc_law.nd (ev_call C__law_other (hr.mono (by decide)) (av_f 1 (av_d (ev_v 2) av_nil)) (ln_f (ln_d ln_nil))))⟩
def m_law_2_2 : DE → M Out := (mFor (mSeq (sLst (sCons (sTup (sCons (sV 2) (sCons (sV 3) sNil))) (sCons (sTup (sCons (sV 3) (sCons (sV 2) sNil))) (sCons (sTup (sCons (sV 2) (sCons (sV 3) sNil))) (sCons (sTup (sCons (sV 2) (sCons (sC (.tuple [.int 0, .int 1])) sNil))) (sCons (sTup (sCons (sC (.tuple [.int 0, .int 1])) (sCons (sV 2) sNil))) sNil))))))) (bTup 2 (bCons (bN 5) (bCons (bN 6) bNil))) (mIf (uNot (uT (sCall f__law_two_right (vD (sV 5) (vD (sV 6) vNil))))) (mRt (sC (.bool false))) mNx))
theorem ok_law_2_2 {f : Addr} {cdv : Value} {A : Around} {outer : List Env} {s : Shared} {H : Hp} {E : XK} (T : Txt K mg) (hr : Room 5 (A.deeper (PyProof.Rows.envOfC "law" (defScope s_law) s.heap.objs.size f cdv))) (hu5 : (A.deeper (PyProof.Rows.envOfC "law" (defScope s_law) s.heap.objs.size f cdv)).units + 65 < cLine) (C__law_long : Callee P w K mg base "_law_long" 1 [] (spD K 0 f__law_long)) (C__law_draw : Callee P w K mg base "_law_draw" 1 ["_law_feed_here", "_law_many"] (spD K 2 drawS)) (C__law_two_right : Callee P w K mg base "_law_two_right" 4 ["_law_one", "_law_other_here"] (spD K 2 f__law_two_right)) (C__law_low : Callee P w K mg base "_law_low" 2 ["_law_top_here", "_law_bottom"] (spD K 2 f__law_low)) (C__law_size : Callee P w K mg base "_law_size" 3 ["_law_feed_here"] (spD K 1 f__law_size)) (C__law_top : Callee P w K mg base "_law_top" 4 ["_law_feed_here"] (spD K 1 f__law_top)) (C__law_other : Callee P w K mg base "_law_other" 5 ["_law_feed_here", "_law_one"] (spD K 2 f__law_other)) (C__law_is_as_much : Callee P w K mg base "_law_is_as_much" 3 ["_law_told", "_law_top_here", "_law_bottom"] (spD K 3 f__law_is_as_much)) (C_fraction : Callee P w K mg base "fraction" 2 ["top", "bottom"] (spD K 2 f_fraction)) (C__law_mean_right : Callee P w K mg base "_law_mean_right" 5 ["_law_feed_here"] (spD K 1 f__law_mean_right)) : ∃ ts, Ss K (cxOf CX0 P w K mg base ["_law_script", "_law_feed_here", "_law_one", "_law_other_here", "_law_k", "_law_here", "_law_there", "_law_top_here", "_law_bottom"] "law" (defScope s_law) f cdv A outer s H E).nox ((forBody ((defBody s_law).getD 2 (.Pass ⟨0, 0, 0, 0⟩))).getD 2 (.Pass ⟨0, 0, 0, 0⟩)) ts m_law_2_2 := by
  unfold m_law_2_2
  exact ⟨_, (st_for rfl (ei_seq (ev_lst (ea_cons (ev_tup (ea_cons (ev_v 2) (ea_cons (ev_v 3) ea_nil))) (ea_cons (ev_tup (ea_cons (ev_v 3) (ea_cons (ev_v 2) ea_nil))) (ea_cons (ev_tup (ea_cons (ev_v 2) (ea_cons (ev_v 3) ea_nil))) (ea_cons (ev_tup (ea_cons (ev_v 2) (ea_cons (ev_k (.tuple [.int 0, .int 1]) rfl) ea_nil))) (ea_cons (ev_tup (ea_cons (ev_k (.tuple [.int 0, .int 1]) rfl) (ea_cons (ev_v 2) ea_nil))) ea_nil))))))) (eg_tup (n := 2) rfl (egs_cons (eg_n (i := 5) sc_law.nd) (egs_cons (eg_n (i := 6) sc_law.nd) egs_nil))) (ss_one (st_if (et_not (et_val (Ev.bw (ev_call C__law_two_right (hr.mono (by decide)) (av_d (ev_v 5) (av_d (ev_v 6) av_nil)) (ln_d (ln_d ln_nil)))))) (ss_one (st_ret ev_bl)) ss_nil)))⟩
def m_law_2_3 : DE → M Out := (mPar 7 8 (sCons (sCall f__law_top (vF 1 vNil)) (sCons (s2 mulD' (s2 addD (sC (.int 1)) (sCall f__law_size (vF 1 vNil))) (s2 ixD (sC (.list [.int 1, .int (-1)])) (sCall drawS (vF 1 (vD (sC (.int 2)) vNil))))) sNil)))
theorem ok_law_2_3 {f : Addr} {cdv : Value} {A : Around} {outer : List Env} {s : Shared} {H : Hp} {E : XK} (T : Txt K mg) (hr : Room 5 (A.deeper (PyProof.Rows.envOfC "law" (defScope s_law) s.heap.objs.size f cdv))) (hu5 : (A.deeper (PyProof.Rows.envOfC "law" (defScope s_law) s.heap.objs.size f cdv)).units + 65 < cLine) (C__law_long : Callee P w K mg base "_law_long" 1 [] (spD K 0 f__law_long)) (C__law_draw : Callee P w K mg base "_law_draw" 1 ["_law_feed_here", "_law_many"] (spD K 2 drawS)) (C__law_two_right : Callee P w K mg base "_law_two_right" 4 ["_law_one", "_law_other_here"] (spD K 2 f__law_two_right)) (C__law_low : Callee P w K mg base "_law_low" 2 ["_law_top_here", "_law_bottom"] (spD K 2 f__law_low)) (C__law_size : Callee P w K mg base "_law_size" 3 ["_law_feed_here"] (spD K 1 f__law_size)) (C__law_top : Callee P w K mg base "_law_top" 4 ["_law_feed_here"] (spD K 1 f__law_top)) (C__law_other : Callee P w K mg base "_law_other" 5 ["_law_feed_here", "_law_one"] (spD K 2 f__law_other)) (C__law_is_as_much : Callee P w K mg base "_law_is_as_much" 3 ["_law_told", "_law_top_here", "_law_bottom"] (spD K 3 f__law_is_as_much)) (C_fraction : Callee P w K mg base "fraction" 2 ["top", "bottom"] (spD K 2 f_fraction)) (C__law_mean_right : Callee P w K mg base "_law_mean_right" 5 ["_law_feed_here"] (spD K 1 f__law_mean_right)) : ∃ ts, Ss K (cxOf CX0 P w K mg base ["_law_script", "_law_feed_here", "_law_one", "_law_other_here", "_law_k", "_law_here", "_law_there", "_law_top_here", "_law_bottom"] "law" (defScope s_law) f cdv A outer s H E).nox ((forBody ((defBody s_law).getD 2 (.Pass ⟨0, 0, 0, 0⟩))).getD 3 (.Pass ⟨0, 0, 0, 0⟩)) ts m_law_2_3 := by
  unfold m_law_2_3
  exact ⟨_, (st_par 7 8 rfl sc_law.nd (ea_cons (ev_call C__law_top (hr.mono (by decide)) (av_f 1 av_nil) (ln_f ln_nil)) (ea_cons (ev_op (od_mul' rfl) (Ev.bw (ev_op (od_add rfl) (Ev.bw ev_int) (Ev.bw (ev_call C__law_size (hr.mono (by decide)) (av_f 1 av_nil) (ln_f ln_nil))))) (Ev.bw (ev_ix (id_ix rfl) (Ev.bw (ev_k (.list [.int 1, .int (-1)]) rfl)) (Ev.bw (ev_call C__law_draw (hr.mono (by decide)) (av_f 1 (av_d ev_int av_nil)) (ln_f (ln_d ln_nil))))))) ea_nil)))⟩
def m_law_2_4 : DE → M Out := (mIf (uOr (uNot (uT (sCall f__law_is_as_much (vD (sCall f_fraction (vD (sV 7) (vD (sV 8) vNil))) (vD (sV 7) (vD (sV 8) vNil)))))) (uB (s2 (eqD true) (sN reprD (sCons (sCall f_fraction (vD (sC (.int 0)) (vD (sV 8) vNil))) sNil)) (sN reprD (sCons (sC (.tuple [.int 0, .int 1])) sNil))))) (mRt (sC (.bool false))) mNx)
theorem ok_law_2_4 {f : Addr} {cdv : Value} {A : Around} {outer : List Env} {s : Shared} {H : Hp} {E : XK} (T : Txt K mg) (hr : Room 5 (A.deeper (PyProof.Rows.envOfC "law" (defScope s_law) s.heap.objs.size f cdv))) (hu5 : (A.deeper (PyProof.Rows.envOfC "law" (defScope s_law) s.heap.objs.size f cdv)).units + 65 < cLine) (C__law_long : Callee P w K mg base "_law_long" 1 [] (spD K 0 f__law_long)) (C__law_draw : Callee P w K mg base "_law_draw" 1 ["_law_feed_here", "_law_many"] (spD K 2 drawS)) (C__law_two_right : Callee P w K mg base "_law_two_right" 4 ["_law_one", "_law_other_here"] (spD K 2 f__law_two_right)) (C__law_low : Callee P w K mg base "_law_low" 2 ["_law_top_here", "_law_bottom"] (spD K 2 f__law_low)) (C__law_size : Callee P w K mg base "_law_size" 3 ["_law_feed_here"] (spD K 1 f__law_size)) (C__law_top : Callee P w K mg base "_law_top" 4 ["_law_feed_here"] (spD K 1 f__law_top)) (C__law_other : Callee P w K mg base "_law_other" 5 ["_law_feed_here", "_law_one"] (spD K 2 f__law_other)) (C__law_is_as_much : Callee P w K mg base "_law_is_as_much" 3 ["_law_told", "_law_top_here", "_law_bottom"] (spD K 3 f__law_is_as_much)) (C_fraction : Callee P w K mg base "fraction" 2 ["top", "bottom"] (spD K 2 f_fraction)) (C__law_mean_right : Callee P w K mg base "_law_mean_right" 5 ["_law_feed_here"] (spD K 1 f__law_mean_right)) : ∃ ts, Ss K (cxOf CX0 P w K mg base ["_law_script", "_law_feed_here", "_law_one", "_law_other_here", "_law_k", "_law_here", "_law_there", "_law_top_here", "_law_bottom"] "law" (defScope s_law) f cdv A outer s H E).nox ((forBody ((defBody s_law).getD 2 (.Pass ⟨0, 0, 0, 0⟩))).getD 4 (.Pass ⟨0, 0, 0, 0⟩)) ts m_law_2_4 := by
  unfold m_law_2_4
  exact ⟨_, (st_if (Ew.t (ew_or (et_not (et_val (Ev.bw (ev_call C__law_is_as_much (hr.mono (by decide)) (av_d (ev_call C_fraction (hr.mono (by decide)) (av_d (ev_v 7) (av_d (ev_v 8) av_nil)) (ln_d (ln_d ln_nil))) (av_d (ev_v 7) (av_d (ev_v 8) av_nil))) (ln_d (ln_d (ln_d ln_nil))))))) (ew_or1 (et_cmp (od_ne rfl hr.units) (Ev.bw (ev_callB (cd_repr rfl hr.gd hr.units) T.repr bt_repr (es_cons (Ev.bw (ev_call C_fraction (hr.mono (by decide)) (av_d ev_int (av_d (ev_v 8) av_nil)) (ln_d (ln_d ln_nil)))) es_nil))) (Ev.bw (ev_callB (cd_repr rfl hr.gd hr.units) T.repr bt_repr (es_cons (Ev.bw (ev_k (.tuple [.int 0, .int 1]) rfl)) es_nil))))))) (ss_one (st_ret ev_bl)) ss_nil)⟩
def m_law_2_5 : DE → M Out := (mIf (uNot (uT (sCall f__law_mean_right (vF 1 vNil)))) (mRt (sC (.bool false))) mNx)
theorem ok_law_2_5 {f : Addr} {cdv : Value} {A : Around} {outer : List Env} {s : Shared} {H : Hp} {E : XK} (T : Txt K mg) (hr : Room 5 (A.deeper (PyProof.Rows.envOfC "law" (defScope s_law) s.heap.objs.size f cdv))) (hu5 : (A.deeper (PyProof.Rows.envOfC "law" (defScope s_law) s.heap.objs.size f cdv)).units + 65 < cLine) (C__law_long : Callee P w K mg base "_law_long" 1 [] (spD K 0 f__law_long)) (C__law_draw : Callee P w K mg base "_law_draw" 1 ["_law_feed_here", "_law_many"] (spD K 2 drawS)) (C__law_two_right : Callee P w K mg base "_law_two_right" 4 ["_law_one", "_law_other_here"] (spD K 2 f__law_two_right)) (C__law_low : Callee P w K mg base "_law_low" 2 ["_law_top_here", "_law_bottom"] (spD K 2 f__law_low)) (C__law_size : Callee P w K mg base "_law_size" 3 ["_law_feed_here"] (spD K 1 f__law_size)) (C__law_top : Callee P w K mg base "_law_top" 4 ["_law_feed_here"] (spD K 1 f__law_top)) (C__law_other : Callee P w K mg base "_law_other" 5 ["_law_feed_here", "_law_one"] (spD K 2 f__law_other)) (C__law_is_as_much : Callee P w K mg base "_law_is_as_much" 3 ["_law_told", "_law_top_here", "_law_bottom"] (spD K 3 f__law_is_as_much)) (C_fraction : Callee P w K mg base "fraction" 2 ["top", "bottom"] (spD K 2 f_fraction)) (C__law_mean_right : Callee P w K mg base "_law_mean_right" 5 ["_law_feed_here"] (spD K 1 f__law_mean_right)) : ∃ ts, Ss K (cxOf CX0 P w K mg base ["_law_script", "_law_feed_here", "_law_one", "_law_other_here", "_law_k", "_law_here", "_law_there", "_law_top_here", "_law_bottom"] "law" (defScope s_law) f cdv A outer s H E).nox ((forBody ((defBody s_law).getD 2 (.Pass ⟨0, 0, 0, 0⟩))).getD 5 (.Pass ⟨0, 0, 0, 0⟩)) ts m_law_2_5 := by
  unfold m_law_2_5
  exact ⟨_, (st_if (et_not (et_val (Ev.bw (ev_call C__law_mean_right (hr.mono (by decide)) (av_f 1 av_nil) (ln_f ln_nil))))) (ss_one (st_ret ev_bl)) ss_nil)⟩
def m_law_2 : DE → M Out := (mFor (mRng1 (sCons (sC (.int 5)) sNil)) (bN 4) (mSq m_law_2_0 (mSq m_law_2_1 (mSq m_law_2_2 (mSq m_law_2_3 (mSq m_law_2_4 m_law_2_5))))))
theorem ok_law_2 {f : Addr} {cdv : Value} {A : Around} {outer : List Env} {s : Shared} {H : Hp} {E : XK} (T : Txt K mg) (hr : Room 5 (A.deeper (PyProof.Rows.envOfC "law" (defScope s_law) s.heap.objs.size f cdv))) (hu5 : (A.deeper (PyProof.Rows.envOfC "law" (defScope s_law) s.heap.objs.size f cdv)).units + 65 < cLine) (C__law_long : Callee P w K mg base "_law_long" 1 [] (spD K 0 f__law_long)) (C__law_draw : Callee P w K mg base "_law_draw" 1 ["_law_feed_here", "_law_many"] (spD K 2 drawS)) (C__law_two_right : Callee P w K mg base "_law_two_right" 4 ["_law_one", "_law_other_here"] (spD K 2 f__law_two_right)) (C__law_low : Callee P w K mg base "_law_low" 2 ["_law_top_here", "_law_bottom"] (spD K 2 f__law_low)) (C__law_size : Callee P w K mg base "_law_size" 3 ["_law_feed_here"] (spD K 1 f__law_size)) (C__law_top : Callee P w K mg base "_law_top" 4 ["_law_feed_here"] (spD K 1 f__law_top)) (C__law_other : Callee P w K mg base "_law_other" 5 ["_law_feed_here", "_law_one"] (spD K 2 f__law_other)) (C__law_is_as_much : Callee P w K mg base "_law_is_as_much" 3 ["_law_told", "_law_top_here", "_law_bottom"] (spD K 3 f__law_is_as_much)) (C_fraction : Callee P w K mg base "fraction" 2 ["top", "bottom"] (spD K 2 f_fraction)) (C__law_mean_right : Callee P w K mg base "_law_mean_right" 5 ["_law_feed_here"] (spD K 1 f__law_mean_right)) : ∃ ts, Ss K (cxOf CX0 P w K mg base ["_law_script", "_law_feed_here", "_law_one", "_law_other_here", "_law_k", "_law_here", "_law_there", "_law_top_here", "_law_bottom"] "law" (defScope s_law) f cdv A outer s H E).nox ((defBody s_law).getD 2 (.Pass ⟨0, 0, 0, 0⟩)) ts m_law_2 := by
  obtain ⟨t_law_2_0, h_law_2_0⟩ := ok_law_2_0 (f := f) (cdv := cdv) (A := A) (outer := outer) (s := s) (H := H) (E := E) T hr hu5 C__law_long C__law_draw C__law_two_right C__law_low C__law_size C__law_top C__law_other C__law_is_as_much C_fraction C__law_mean_right
  obtain ⟨t_law_2_1, h_law_2_1⟩ := ok_law_2_1 (f := f) (cdv := cdv) (A := A) (outer := outer) (s := s) (H := H) (E := E) T hr hu5 C__law_long C__law_draw C__law_two_right C__law_low C__law_size C__law_top C__law_other C__law_is_as_much C_fraction C__law_mean_right
  obtain ⟨t_law_2_2, h_law_2_2⟩ := ok_law_2_2 (f := f) (cdv := cdv) (A := A) (outer := outer) (s := s) (H := H) (E := E) T hr hu5 C__law_long C__law_draw C__law_two_right C__law_low C__law_size C__law_top C__law_other C__law_is_as_much C_fraction C__law_mean_right
  obtain ⟨t_law_2_3, h_law_2_3⟩ := ok_law_2_3 (f := f) (cdv := cdv) (A := A) (outer := outer) (s := s) (H := H) (E := E) T hr hu5 C__law_long C__law_draw C__law_two_right C__law_low C__law_size C__law_top C__law_other C__law_is_as_much C_fraction C__law_mean_right
  obtain ⟨t_law_2_4, h_law_2_4⟩ := ok_law_2_4 (f := f) (cdv := cdv) (A := A) (outer := outer) (s := s) (H := H) (E := E) T hr hu5 C__law_long C__law_draw C__law_two_right C__law_low C__law_size C__law_top C__law_other C__law_is_as_much C_fraction C__law_mean_right
  obtain ⟨t_law_2_5, h_law_2_5⟩ := ok_law_2_5 (f := f) (cdv := cdv) (A := A) (outer := outer) (s := s) (H := H) (E := E) T hr hu5 C__law_long C__law_draw C__law_two_right C__law_low C__law_size C__law_top C__law_other C__law_is_as_much C_fraction C__law_mean_right
  exact ⟨_, st_for rfl (ei_rng1 (ea_cons ev_int ea_nil) T.range) (eg_n (i := 4) sc_law.nd) (ss_cons h_law_2_0 (ss_cons h_law_2_1 (ss_cons h_law_2_2 (ss_cons h_law_2_3 (ss_cons h_law_2_4 (ss_one h_law_2_5))))))⟩
def m_law_3 : DE → M Out := (mRt (sC (.bool true)))
theorem ok_law_3 {f : Addr} {cdv : Value} {A : Around} {outer : List Env} {s : Shared} {H : Hp} {E : XK} (T : Txt K mg) (hr : Room 5 (A.deeper (PyProof.Rows.envOfC "law" (defScope s_law) s.heap.objs.size f cdv))) (hu5 : (A.deeper (PyProof.Rows.envOfC "law" (defScope s_law) s.heap.objs.size f cdv)).units + 65 < cLine) (C__law_long : Callee P w K mg base "_law_long" 1 [] (spD K 0 f__law_long)) (C__law_draw : Callee P w K mg base "_law_draw" 1 ["_law_feed_here", "_law_many"] (spD K 2 drawS)) (C__law_two_right : Callee P w K mg base "_law_two_right" 4 ["_law_one", "_law_other_here"] (spD K 2 f__law_two_right)) (C__law_low : Callee P w K mg base "_law_low" 2 ["_law_top_here", "_law_bottom"] (spD K 2 f__law_low)) (C__law_size : Callee P w K mg base "_law_size" 3 ["_law_feed_here"] (spD K 1 f__law_size)) (C__law_top : Callee P w K mg base "_law_top" 4 ["_law_feed_here"] (spD K 1 f__law_top)) (C__law_other : Callee P w K mg base "_law_other" 5 ["_law_feed_here", "_law_one"] (spD K 2 f__law_other)) (C__law_is_as_much : Callee P w K mg base "_law_is_as_much" 3 ["_law_told", "_law_top_here", "_law_bottom"] (spD K 3 f__law_is_as_much)) (C_fraction : Callee P w K mg base "fraction" 2 ["top", "bottom"] (spD K 2 f_fraction)) (C__law_mean_right : Callee P w K mg base "_law_mean_right" 5 ["_law_feed_here"] (spD K 1 f__law_mean_right)) : ∃ ts, Ss K (cxOf CX0 P w K mg base ["_law_script", "_law_feed_here", "_law_one", "_law_other_here", "_law_k", "_law_here", "_law_there", "_law_top_here", "_law_bottom"] "law" (defScope s_law) f cdv A outer s H E).nox ((defBody s_law).getD 3 (.Pass ⟨0, 0, 0, 0⟩)) ts m_law_3 := by
  unfold m_law_3
  exact ⟨_, (st_ret ev_bl)⟩
def m_law : DE → M Out := (mSq m_law_1 (mSq m_law_2 m_law_3))
theorem split1 {α : Type} (l : List α) (d : α) (h : 0 < l.length) : l = l.getD 0 d :: l.drop 1 := by
  cases l with
  | nil => simp at h
  | cons a r => rfl
def spLaw (K : PySem.W.Frag) : Sp := fun vs H Q _ => ∃ (a : Addr) (ns : List Int), vs = [.ref a] ∧ SqL K H a (ns.map V.int) ∧ ns.length ≤ 63 ∧ ∀ H', Q (.bl true) H'
theorem ok_law_0 {f : Addr} {cdv : Value} {A : Around} {outer : List Env} {s : Shared} {H : Hp} {E : XK} (hr : Room 5 (A.deeper (PyProof.Rows.envOfC "law" (defScope s_law) s.heap.objs.size f cdv))) (CF : Callee P w K mg base "_law_feed" 1 ["_law_script"] (spFeed K)) :
    PS (cxOf CX0 P w K mg base ["_law_script", "_law_feed_here", "_law_one", "_law_other_here", "_law_k", "_law_here", "_law_there", "_law_top_here", "_law_bottom"] "law" (defScope s_law) f cdv A outer s H E).nox ((defBody s_law).getD 0 (.Pass ⟨0, 0, 0, 0⟩)) (tAsg (tCall (spFeed K) [] E0 (tCons (tVar 0) tNil)) (gName 1)) :=
  ps_set (i := 1) sc_law.nd rfl (by first | exact Or.inl rfl | exact Or.inr rfl) (pe_callee CF (hr.mono (by decide)) rfl (pa_cons (pv 0) pa_nil))
theorem ok_law {f : Addr} {fd : FuncData} (Fn : Fun K "law" "law" s_law f fd) (T : Txt K mg) (CF : Callee P w K mg base "_law_feed" 1 ["_law_script"] (spFeed K)) (C__law_long : Callee P w K mg base "_law_long" 1 [] (spD K 0 f__law_long)) (C__law_draw : Callee P w K mg base "_law_draw" 1 ["_law_feed_here", "_law_many"] (spD K 2 drawS)) (C__law_two_right : Callee P w K mg base "_law_two_right" 4 ["_law_one", "_law_other_here"] (spD K 2 f__law_two_right)) (C__law_low : Callee P w K mg base "_law_low" 2 ["_law_top_here", "_law_bottom"] (spD K 2 f__law_low)) (C__law_size : Callee P w K mg base "_law_size" 3 ["_law_feed_here"] (spD K 1 f__law_size)) (C__law_top : Callee P w K mg base "_law_top" 4 ["_law_feed_here"] (spD K 1 f__law_top)) (C__law_other : Callee P w K mg base "_law_other" 5 ["_law_feed_here", "_law_one"] (spD K 2 f__law_other)) (C__law_is_as_much : Callee P w K mg base "_law_is_as_much" 3 ["_law_told", "_law_top_here", "_law_bottom"] (spD K 3 f__law_is_as_much)) (C_fraction : Callee P w K mg base "fraction" 2 ["top", "bottom"] (spD K 2 f_fraction)) (C__law_mean_right : Callee P w K mg base "_law_mean_right" 5 ["_law_feed_here"] (spD K 1 f__law_mean_right))
    (fin : ∀ ns : List Int, ns.length ≤ 63 → ∃ F', m_law ([none, some .feed] ++ List.replicate (["_law_script", "_law_feed_here", "_law_one", "_law_other_here", "_law_k", "_law_here", "_law_there", "_law_top_here", "_law_bottom"].length - 2) none) (newF ns) = some (.rt (.bool true), F')) : FnOk P w K mg base CX0 6 f fd ["_law_script"] (spLaw K) := by
  refine Fn.ok sc_law (fun vs H Q E h => ?_) (fun cdv A outer s H vs Q E hr h => ?_)
  · obtain ⟨a, ns, rfl, _⟩ := h
    rfl
  · obtain ⟨a, ns, rfl, hS, hl, k⟩ := h
    have hu5 : (A.deeper (PyProof.Rows.envOfC "law" (defScope s_law) s.heap.objs.size f cdv)).units + 65 < cLine := by have := hr.un; omega
    obtain ⟨t_law_1, h_law_1⟩ := ok_law_1 (f := f) (cdv := cdv) (A := A) (outer := outer) (s := s) (H := H) (E := E) T hr hu5 C__law_long C__law_draw C__law_two_right C__law_low C__law_size C__law_top C__law_other C__law_is_as_much C_fraction C__law_mean_right
    obtain ⟨t_law_2, h_law_2⟩ := ok_law_2 (f := f) (cdv := cdv) (A := A) (outer := outer) (s := s) (H := H) (E := E) T hr hu5 C__law_long C__law_draw C__law_two_right C__law_low C__law_size C__law_top C__law_other C__law_is_as_much C_fraction C__law_mean_right
    obtain ⟨t_law_3, h_law_3⟩ := ok_law_3 (f := f) (cdv := cdv) (A := A) (outer := outer) (s := s) (H := H) (E := E) T hr hu5 C__law_long C__law_draw C__law_two_right C__law_low C__law_size C__law_top C__law_other C__law_is_as_much C_fraction C__law_mean_right
    obtain ⟨ts, hq, hk⟩ : ∃ ts, Sss K (cxOf CX0 P w K mg base ["_law_script", "_law_feed_here", "_law_one", "_law_other_here", "_law_k", "_law_here", "_law_there", "_law_top_here", "_law_bottom"] "law" (defScope s_law) f cdv A outer s H E).nox ((defBody s_law).drop 1) ts m_law := ⟨_, (ss_cons h_law_1 (ss_cons h_law_2 (ss_one h_law_3)))⟩
    have h0 := ok_law_0 (P := P) (w := w) (K := K) (mg := mg) (base := base) (f := f) (cdv := cdv) (A := A) (outer := outer) (s := s) (H := H) (E := E) hr CF
    have hsp := split1 (defBody s_law) (.Pass ⟨0, 0, 0, 0⟩) (by decide +kernel)
    generalize List.drop 1 (defBody s_law) = R at hq hsp
    generalize (defBody s_law).getD 0 (Stmt.Pass { line := 0, col := 0, endLine := 0, endCol := 0 }) = S0 at h0 hsp
    have hp := pss_cons h0 hq
    rw [← hsp] at hp
    refine ⟨_, hp, ?_⟩
    refine ⟨_, rfl, a, ns, rfl, hS, hl, fun d c H1 f1 s1 => ?_⟩
    obtain ⟨F', e⟩ := fin ns hl
    have fat : FAt (some (d, c)) H1 (newF ns) := f1
    refine hk (some (d, c)) [d, c] H1 _ (newF ns) _ H1 _ _ F' ⟨⟨[d, c], fun _ z => z, fun b hb => .inl hb, ⟨fat, fun _ z => z, fat.bok, by simp [L2.start], fun i x ei => ?_⟩⟩, fun _ z => z, Kp.refl, fun i ds b ei => ?_, fun i j ds es b ei => ?_⟩ e (fun v H' _ _ hv => ?_)
    · match i, ei with
      | 0, ei => cases ei
      | 1, ei => cases ei; exact ⟨.ref d, rfl, d, c, rfl, rfl⟩
      | i + 2, ei => simp only [List.cons_append, List.nil_append, List.getElem?_cons_succ, List.getElem?_replicate] at ei; split at ei <;> cases ei
    · match i, ei with
      | 0, ei => cases ei
      | 1, ei => cases ei
      | i + 2, ei => simp only [List.cons_append, List.nil_append, List.getElem?_cons_succ, List.getElem?_replicate] at ei; split at ei <;> cases ei
    · match i, ei with
      | 0, ei => cases ei
      | 1, ei => cases ei
      | i + 2, ei => simp only [List.cons_append, List.nil_append, List.getElem?_cons_succ, List.getElem?_replicate] at ei; split at ei <;> cases ei
    · simp only [DatIs] at hv
      subst hv
      exact k H'
end
end K2
set_option Elab.async false
set_option linter.all false
set_option maxRecDepth 100000
set_option maxHeartbeats 2000000
namespace L3
open PySem PySem.Spec PyProof.Rows L2
def wp {α σ : Type} (m : Option (α × σ)) (Q : α → σ → Prop) : Prop := ∃ a F', m = some (a, F') ∧ Q a F'
section
variable {α β γ σ τ : Type} {Q : α → σ → Prop}
theorem wp_some {a : α} {F : σ} : wp (some (a, F)) Q ↔ Q a F := ⟨fun ⟨_, _, e, q⟩ => by cases e; exact q, fun q => ⟨_, _, rfl, q⟩⟩
theorem wp_none : wp (none : Option (α × σ)) Q ↔ False := ⟨fun ⟨_, _, e, _⟩ => (by cases e), False.elim⟩
theorem wp_bind {x : Option (β × τ)} {f : β × τ → Option (α × σ)} : wp (x.bind f) Q ↔ wp x fun a F' => wp (f (a, F')) Q := by
  constructor
  · rintro ⟨a, F', e, q⟩
    obtain ⟨⟨b, F1⟩, e1, e2⟩ := Option.bind_eq_some_iff.mp e
    exact ⟨b, F1, e1, a, F', e2, q⟩
  · rintro ⟨b, F1, e1, a, F', e2, q⟩
    exact ⟨a, F', by rw [e1]; exact e2, q⟩
theorem wp_obind {o : Option γ} {f : γ → Option (α × σ)} : wp (o.bind f) Q ↔ ∃ z, o = some z ∧ wp (f z) Q := by
  constructor
  · rintro ⟨a, F', e, q⟩
    obtain ⟨z, e1, e2⟩ := Option.bind_eq_some_iff.mp e
    exact ⟨z, e1, a, F', e2, q⟩
  · rintro ⟨z, e1, a, F', e2, q⟩
    exact ⟨a, F', by rw [e1]; exact e2, q⟩
theorem wp_ite {c : Prop} [Decidable c] {a b : Option (α × σ)} : wp (if c then a else b) Q ↔ if c then wp a Q else wp b Q := by
  split <;> rfl
theorem wp_mono {m : Option (α × σ)} {Q' : α → σ → Prop} (h : wp m Q) (hq : ∀ a F, Q a F → Q' a F) : wp m Q' := by
  obtain ⟨a, F, e, q⟩ := h
  exact ⟨a, F, e, hq a F q⟩
theorem wp_congr {m : Option (α × σ)} {Q' : α → σ → Prop} (h : ∀ a F, Q a F ↔ Q' a F) : wp m Q ↔ wp m Q' := ⟨fun z => wp_mono z fun a F q => (h a F).mp q, fun z => wp_mono z fun a F q => (h a F).mpr q⟩
theorem ex_some {z : γ} {P : γ → Prop} : (∃ y, some z = some y ∧ P y) ↔ P z := ⟨fun ⟨_, e, p⟩ => by cases e; exact p, fun p => ⟨_, rfl, p⟩⟩
theorem wp_draw {m : Int} {F : FdS} {Q : PyData → FdS → Prop} (h0 : 0 < m) (h1 : m < 1073741824) (h2 : F.t < 199999) (q : ∀ r F', 0 ≤ r → r < m → F'.t = F.t + 1 → Q (.int r) F') : wp (drawS [.feed, .dat (.int m)] F) Q := by
  obtain ⟨r, F', e, r0, r1, ht⟩ := draw_some h0 h1 h2
  exact ⟨.int r, F', by show (drawF m F).bind _ = _; rw [e]; rfl, q r F' r0 r1 ht⟩
end
def gD (o : Option (Option DV)) (P : PyData → Prop) : Prop := match o with
  | some (some (.dat d)) => P d
  | _ => False
def gW (o : Option (Option DV)) (P : PyData → Prop) : Prop := match o with
  | some (some (.dat d)) => P d
  | some (some (.own ds)) => P (.list ds)
  | _ => False
def gF (o : Option (Option DV)) (P : Prop) : Prop := match o with
  | some (some .feed) => P
  | _ => False
def oB {γ : Type} (o : Option γ) (P : γ → Prop) : Prop := ∃ z, o = some z ∧ P z
def cIf (c : Bool) (A B : Prop) : Prop := if c = true then A else B
theorem cIf_t {A B : Prop} : cIf true A B ↔ A := by simp [cIf]
theorem cIf_f {A B : Prop} : cIf false A B ↔ B := by simp [cIf]
theorem cIf_2 {c : Bool} {A B : Prop} (h1 : c = true → A) (h2 : c = false → B) : cIf c A B := by
  cases c
  · exact cIf_f.mpr (h2 rfl)
  · exact cIf_t.mpr (h1 rfl)
section
variable {E : DE} {F : FdS}
theorem r_sC {d : PyData} {Q : PyData → FdS → Prop} : wp (sC d E F) Q ↔ Q d F := wp_some
theorem r_sV {i : Nat} {Q : PyData → FdS → Prop} : wp (sV i E F) Q ↔ gD E[i]? fun d => Q d F := by
  unfold sV gD; generalize E[i]? = o
  rcases o with _ | _ | x
  · exact wp_none
  · exact wp_none
  · cases x <;> first | exact wp_some | exact wp_none
theorem r_sW {i : Nat} {Q : PyData → FdS → Prop} : wp (sW i E F) Q ↔ gW E[i]? fun d => Q d F := by
  unfold sW gW; generalize E[i]? = o
  rcases o with _ | _ | x
  · exact wp_none
  · exact wp_none
  · cases x <;> first | exact wp_some | exact wp_none
theorem r_s1 {f : PyData → Option PyData} {a : DE → M PyData} {Q : PyData → FdS → Prop} : wp (s1 f a E F) Q ↔ wp (a E F) fun x F1 => oB (f x) fun z => Q z F1 := by
  unfold s1; rw [wp_bind]; simp only [wp_obind, wp_some, oB]
theorem r_s2 {f : PyData → PyData → Option PyData} {a b : DE → M PyData} {Q : PyData → FdS → Prop} : wp (s2 f a b E F) Q ↔ wp (a E F) fun x F1 => wp (b E F1) fun y F2 => oB (f x y) fun z => Q z F2 := by
  unfold s2; rw [wp_bind]; refine wp_congr fun x F1 => ?_; rw [wp_bind]; refine wp_congr fun y F2 => ?_; simp only [wp_obind, wp_some, oB]
theorem r_sN {f : List PyData → Option PyData} {a : DE → M (List PyData)} {Q : PyData → FdS → Prop} : wp (sN f a E F) Q ↔ wp (a E F) fun x F1 => oB (f x) fun z => Q z F1 := by
  unfold sN; rw [wp_bind]; simp only [wp_obind, wp_some, oB]
theorem r_sNil {Q : List PyData → FdS → Prop} : wp (sNil E F) Q ↔ Q [] F := wp_some
theorem r_sCons {a : DE → M PyData} {r : DE → M (List PyData)} {Q : List PyData → FdS → Prop} : wp (sCons a r E F) Q ↔ wp (a E F) fun x F1 => wp (r E F1) fun xs F2 => Q (x :: xs) F2 := by
  unfold sCons; rw [wp_bind]; simp only [wp_bind, wp_some]
theorem r_sTup {a : DE → M (List PyData)} {Q : PyData → FdS → Prop} : wp (sTup a E F) Q ↔ wp (a E F) fun xs F1 => xs.length ≤ sizeLine ∧ Q (.tuple xs) F1 := by
  unfold sTup; rw [wp_bind]
  constructor
  · exact fun h => wp_mono h fun xs F1 h => by
      split at h
      · rename_i hl; exact ⟨hl, wp_some.mp h⟩
      · exact (wp_none.mp h).elim
  · exact fun h => wp_mono h fun xs F1 h => by rw [if_pos h.1]; exact wp_some.mpr h.2
theorem r_sLst {a : DE → M (List PyData)} {Q : PyData → FdS → Prop} : wp (sLst a E F) Q ↔ wp (a E F) fun xs F1 => xs.length ≤ sizeLine ∧ Q (.list xs) F1 := by
  unfold sLst; rw [wp_bind]
  constructor
  · exact fun h => wp_mono h fun xs F1 h => by
      split at h
      · rename_i hl; exact ⟨hl, wp_some.mp h⟩
      · exact (wp_none.mp h).elim
  · exact fun h => wp_mono h fun xs F1 h => by rw [if_pos h.1]; exact wp_some.mpr h.2
theorem r_vNil {Q : List DV → FdS → Prop} : wp (vNil E F) Q ↔ Q [] F := wp_some
theorem r_vD {a : DE → M PyData} {r : DE → M (List DV)} {Q : List DV → FdS → Prop} : wp (vD a r E F) Q ↔ wp (a E F) fun x F1 => wp (r E F1) fun xs F2 => Q (.dat x :: xs) F2 := by
  unfold vD; rw [wp_bind]; simp only [wp_bind, wp_some]
theorem r_vF {i : Nat} {r : DE → M (List DV)} {Q : List DV → FdS → Prop} : wp (vF i r E F) Q ↔ gF E[i]? (wp (r E F) fun xs F2 => Q (.feed :: xs) F2) := by
  unfold vF gF; generalize E[i]? = o
  rcases o with _ | _ | x
  · exact wp_none
  · exact wp_none
  · cases x with
    | feed => exact wp_bind.trans (wp_congr fun _ _ => wp_some)
    | _ => exact wp_none
theorem r_sCall {f : List DV → M PyData} {ms : DE → M (List DV)} {Q : PyData → FdS → Prop} : wp (sCall f ms E F) Q ↔ wp (ms E F) fun xs F1 => wp (f xs F1) Q := by
  unfold sCall; rw [wp_bind]
theorem r_cut {a : DE → M PyData} {l u : DE → M (Option Int)} {Q : PyData → FdS → Prop} : wp (sCut a l u E F) Q ↔ wp (a E F) fun x F1 => wp (l E F1) fun lo F2 => wp (u E F2) fun hi F3 => oB (cutD lo hi x) fun z => Q z F3 := by
  unfold sCut; rw [wp_bind]; refine wp_congr fun x F1 => ?_; rw [wp_bind]; refine wp_congr fun y F2 => ?_; rw [wp_bind]; refine wp_congr fun y F2 => ?_; simp only [wp_obind, wp_some, oB]
theorem r_oNo {Q : Option Int → FdS → Prop} : wp (oNo E F) Q ↔ Q none F := wp_some
theorem r_oI {a : DE → M PyData} {Q : Option Int → FdS → Prop} : wp (oI a E F) Q ↔ wp (a E F) fun x F1 => oB (intOf x) fun i => Q (some i) F1 := by
  unfold oI; rw [wp_bind]; simp only [wp_obind, wp_some, oB]
theorem r_sAnd {a b : DE → M PyData} {Q : PyData → FdS → Prop} : wp (sAnd a b E F) Q ↔ wp (a E F) fun x F1 => oB (boolOf x) fun c => cIf c (wp (b E F1) Q) (Q (.bool false) F1) := by
  unfold sAnd; rw [wp_bind]; simp only [wp_obind, wp_ite, wp_some, oB, cIf]
theorem r_sNot {a : DE → M PyData} {Q : PyData → FdS → Prop} : wp (sNot a E F) Q ↔ wp (a E F) fun x F1 => oB (boolOf x) fun c => Q (.bool (!c)) F1 := by
  unfold sNot; rw [wp_bind]; simp only [wp_obind, wp_some, oB]
theorem r_sIf {c : DE → M Bool} {a b : DE → M PyData} {Q : PyData → FdS → Prop} : wp (sIf c a b E F) Q ↔ wp (c E F) fun x F1 => cIf x (wp (a E F1) Q) (wp (b E F1) Q) := by
  unfold sIf; rw [wp_bind]; simp only [wp_ite, cIf]
theorem r_uB {a : DE → M PyData} {Q : Bool → FdS → Prop} : wp (uB a E F) Q ↔ wp (a E F) fun x F1 => oB (boolOf x) fun c => Q c F1 := by
  unfold uB; rw [wp_bind]; simp only [wp_obind, wp_some, oB]
theorem r_uT {a : DE → M PyData} {Q : Bool → FdS → Prop} : wp (uT a E F) Q ↔ wp (a E F) fun x F1 => oB (truD x) fun c => Q c F1 := by
  unfold uT; rw [wp_bind]; simp only [wp_obind, wp_some, oB]
theorem r_uAnd {a b : DE → M Bool} {Q : Bool → FdS → Prop} : wp (uAnd a b E F) Q ↔ wp (a E F) fun x F1 => cIf x (wp (b E F1) Q) (Q false F1) := by
  unfold uAnd; rw [wp_bind]; simp only [wp_ite, wp_some, cIf]
theorem r_uOr {a b : DE → M Bool} {Q : Bool → FdS → Prop} : wp (uOr a b E F) Q ↔ wp (a E F) fun x F1 => cIf x (Q true F1) (wp (b E F1) Q) := by
  unfold uOr; rw [wp_bind]; simp only [wp_ite, wp_some, cIf]
theorem r_uNot {a : DE → M Bool} {Q : Bool → FdS → Prop} : wp (uNot a E F) Q ↔ wp (a E F) fun x F1 => Q (!x) F1 := by
  unfold uNot; rw [wp_bind]; simp only [wp_some]
theorem r_uYes {Q : Bool → FdS → Prop} : wp (uYes E F) Q ↔ Q true F := wp_some
theorem r_mNx {Q : Out → FdS → Prop} : wp (mNx E F) Q ↔ Q (.nx E) F := wp_some
def sqK (b : DE → M Out) (Q : Out → FdS → Prop) (o : Out) (F1 : FdS) : Prop := match o with
    | .nx E1 => wp (b E1 F1) Q
    | o => Q o F1
theorem sq_nx {b : DE → M Out} {Q : Out → FdS → Prop} {E1 : DE} (h : wp (b E1 F) Q) : sqK b Q (.nx E1) F := h
theorem sq_rt {b : DE → M Out} {Q : Out → FdS → Prop} {d : PyData} (h : Q (.rt d) F) : sqK b Q (.rt d) F := h
theorem r_mSq {a b : DE → M Out} {Q : Out → FdS → Prop} : wp (mSq a b E F) Q ↔ wp (a E F) (sqK b Q) := by
  unfold mSq; rw [wp_bind]
  refine wp_congr fun o F1 => ?_
  cases o with
  | nx E1 => exact Iff.rfl
  | rt d => exact wp_some
  | bk d => exact wp_some
  | ct d => exact wp_some
theorem r_mRt {a : DE → M PyData} {Q : Out → FdS → Prop} : wp (mRt a E F) Q ↔ wp (a E F) fun x F1 => Q (.rt x) F1 := by
  unfold mRt; rw [wp_bind]; simp only [wp_some]
theorem r_mSet {i : Nat} {a : DE → M PyData} {Q : Out → FdS → Prop} : wp (mSet i a E F) Q ↔ wp (a E F) fun x F1 => i < E.length ∧ Q (.nx (E.set i (some (.dat x)))) F1 := by
  unfold mSet; rw [wp_bind]
  refine wp_congr fun x F1 => ?_
  unfold bN
  by_cases h : i < E.length
  · rw [if_pos h]; simp only [wp_obind, wp_some, ex_some, h, true_and]
  · rw [if_neg h]; simp only [wp_obind, h, false_and]
    exact ⟨fun ⟨_, e, _⟩ => (by cases e), False.elim⟩
theorem r_mAsg {bd : PyData → DE → Option DE} {a : DE → M PyData} {Q : Out → FdS → Prop} : wp (mAsg bd a E F) Q ↔ wp (a E F) fun x F1 => oB (bd x E) fun E1 => Q (.nx E1) F1 := by
  unfold mAsg; rw [wp_bind]
  simp only [wp_obind, wp_some, oB]
theorem r_mIf {c : DE → M Bool} {a b : DE → M Out} {Q : Out → FdS → Prop} : wp (mIf c a b E F) Q ↔ wp (c E F) fun x F1 => cIf x (wp (a E F1) Q) (wp (b E F1) Q) := by
  unfold mIf; rw [wp_bind]; simp only [wp_ite, cIf]
theorem r_mOwn {i : Nat} {a : DE → M (List PyData)} {Q : Out → FdS → Prop} : wp (mOwn i a E F) Q ↔ wp (a E F) fun x F1 => i < E.length ∧ Q (.nx (E.set i (some (.own x)))) F1 := by
  unfold mOwn; rw [wp_bind]
  refine wp_congr fun x F1 => ?_
  by_cases h : i < E.length
  · rw [if_pos h]; simp only [wp_some, h, true_and]
  · rw [if_neg h]; simp only [h, false_and]
    exact wp_none
theorem r_mFor {mi : DE → M (List PyData)} {bd : PyData → DE → Option DE} {body : DE → M Out} {Q : Out → FdS → Prop} : wp (mFor mi bd body E F) Q ↔ wp (mi E F) fun ds F1 => wp (forGo bd body ds E F1) Q := by
  unfold mFor; rw [wp_bind]
theorem r_mRng1 {a : DE → M (List PyData)} {Q : List PyData → FdS → Prop} : wp (mRng1 a E F) Q ↔ wp (a E F) fun x F1 => oB (rngOf1 x) fun ds => Q ds F1 := by
  unfold mRng1; rw [wp_bind]; simp only [wp_obind, wp_some, oB]
theorem r_mSeq {a : DE → M PyData} {Q : List PyData → FdS → Prop} : wp (mSeq a E F) Q ↔ wp (a E F) fun x F1 => oB (seqOf x) fun ds => Q ds F1 := by
  unfold mSeq; rw [wp_bind]; simp only [wp_obind, wp_some, oB]
theorem r_fCat {a b : DE → M PyData} {Q : List PyData → FdS → Prop} : wp (fCat a b E F) Q ↔ wp (a E F) fun x F1 => wp (b E F1) fun y F2 => ∃ xs ys, x = .list xs ∧ y = .list ys ∧ xs.length + ys.length ≤ sizeLine ∧ Q (xs ++ ys) F2 := by
  unfold fCat; rw [wp_bind]
  refine wp_congr fun x F1 => ?_; rw [wp_bind]; refine wp_congr fun y F2 => ?_
  constructor
  · intro h
    dsimp only at h
    split at h
    · rename_i xs ys
      split at h
      · rename_i hl; exact ⟨xs, ys, rfl, rfl, hl, wp_some.mp h⟩
      · exact (wp_none.mp h).elim
    · exact (wp_none.mp h).elim
  · intro h
    obtain ⟨xs, ys, rfl, rfl, hl, q⟩ := h
    dsimp only
    rw [if_pos hl]
    exact wp_some.mpr q
theorem r_sLC {mi : DE → M (List PyData)} {k : Nat} {cap : List Nat} {bd : PyData → DE → Option DE} {mt : DE → M Bool} {me : DE → M PyData} {Q : PyData → FdS → Prop} : wp (sLC mi k cap bd mt me E F) Q ↔ wp (mi E F) fun ds F1 => ds.length ≤ sizeLine ∧ wp (lcGo bd mt me ds (capE k cap E) F1) fun zs F2 => Q (.list zs) F2 := by
  unfold sLC; rw [wp_bind]
  constructor
  · refine fun h => wp_mono h fun ds F1 h => ?_
    dsimp only at h
    split at h
    · rename_i hl; rw [wp_bind] at h; exact ⟨hl, wp_mono h fun zs F2 h => wp_some.mp h⟩
    · exact (wp_none.mp h).elim
  · refine fun h => wp_mono h fun ds F1 h => ?_
    dsimp only
    rw [if_pos h.1, wp_bind]
    exact wp_mono h.2 fun zs F2 h => wp_some.mpr h
def runK (Q : PyData → FdS → Prop) (o : Out) (F1 : FdS) : Prop := match o with
    | .rt d => Q d F1
    | .nx _ => Q .none F1
    | _ => False
theorem run_rt {Q : PyData → FdS → Prop} {d : PyData} (h : Q d F) : runK Q (.rt d) F := h
theorem r_run {N : List Str} {m : DE → M Out} {args : List DV} {Q : PyData → FdS → Prop} : wp (runD N m args F) Q ↔ wp (m (startE N args) F) (runK Q) := by
  unfold runD; rw [wp_bind]
  refine wp_congr fun o F1 => ?_
  cases o with
  | nx E1 => exact wp_some
  | rt d => exact wp_some
  | bk d => exact wp_none
  | ct d => exact wp_none
theorem gD_e {o : Option (Option DV)} {d : PyData} {P : PyData → Prop} (h : o = some (some (.dat d))) (q : P d) : gD o P := by rw [h]; exact q
theorem gW_e {o : Option (Option DV)} {d : PyData} {P : PyData → Prop} (h : o = some (some (.dat d))) (q : P d) : gW o P := by rw [h]; exact q
theorem gW_eo {o : Option (Option DV)} {ds : List PyData} {P : PyData → Prop} (h : o = some (some (.own ds))) (q : P (.list ds)) : gW o P := by rw [h]; exact q
theorem gF_e {o : Option (Option DV)} {P : Prop} (h : o = some (some .feed)) (q : P) : gF o P := by rw [h]; exact q
theorem oB_e {γ : Type} {o : Option γ} {z : γ} {P : γ → Prop} (h : o = some z) (q : P z) : oB o P := ⟨z, h, q⟩
theorem cIf_te {c : Bool} {A B : Prop} (h : c = true) (q : A) : cIf c A B := by rw [h]; exact cIf_t.mpr q
theorem cIf_fe {c : Bool} {A B : Prop} (h : c = false) (q : B) : cIf c A B := by rw [h]; exact cIf_f.mpr q
theorem le_size {n : Nat} (h : Nat.ble n 10000 = true) : n ≤ sizeLine := Nat.le_trans (Nat.le_of_ble_eq_true h) (by rw [sizeLine_eq]; decide)
theorem lt_len {i n : Nat} (h : Nat.ble (i + 1) n = true) : i < n := Nat.le_of_ble_eq_true h
end
def Tr (f : List DV → M PyData) (args : List DV) (c : Int) (P : PyData → Prop) : Prop := ∀ F : FdS, F.t + c ≤ 199999 → ∃ d F', f args F = some (d, F') ∧ F'.t ≤ F.t + c ∧ P d
theorem Tr.wp {f : List DV → M PyData} {args : List DV} {c : Int} {P : PyData → Prop} {F : FdS} {Q : PyData → FdS → Prop} (h : Tr f args c P) (hF : F.t + c ≤ 199999) (q : ∀ d F', F'.t ≤ F.t + c → P d → Q d F') : wp (f args F) Q := by
  obtain ⟨d, F', e, ht, p⟩ := h F hF
  exact ⟨d, F', e, q d F' ht p⟩
theorem Tr.of {f : List DV → M PyData} {args : List DV} {c : Int} {P : PyData → Prop} (h : ∀ F : FdS, F.t + c ≤ 199999 → L3.wp (f args F) fun d F' => F'.t ≤ F.t + c ∧ P d) : Tr f args c P := fun F hF => by
  obtain ⟨d, F', e, q⟩ := h F hF
  exact ⟨d, F', e, q⟩
mutual
def cnt : PyData → Nat
  | .tuple ds => 1 + cntL ds
  | .list ds => 1 + cntL ds
  | _ => 1
def cntL : List PyData → Nat
  | [] => 0
  | d :: ds => cnt d + cntL ds
end
def asc (x : Str) : Prop := ∀ c ∈ x.cps.toList, c < 128
mutual
def scs (n : Nat) : PyData → Prop
  | .none => True
  | .bool _ => True
  | .int i => i.natAbs < 10 ^ 300 + n
  | .str x => x.length ≤ 600 + n ∧ asc x
  | .tuple ds => scsL n ds
  | .list ds => scsL n ds
  | .dict _ => False
def scsL (n : Nat) : List PyData → Prop
  | [] => True
  | d :: ds => scs n d ∧ scsL n ds
end
theorem scsL_iff {n : Nat} : ∀ {ds : List PyData}, scsL n ds ↔ ∀ d ∈ ds, scs n d
  | [] => by simp [scsL]
  | d :: ds => by simp [scsL, scsL_iff (ds := ds)]
theorem cut_sub {α : Type} (xs : List α) (lo hi : Option Int) : (cutL xs lo hi).Sublist xs := ((List.take_sublist _ _).trans (List.drop_sublist _ _))
structure Gd (n N k : Nat) (d : PyData) : Prop where
  sc : scs n d
  dp : d.depth ≤ k
  ct : cnt d ≤ N
theorem depthAll_le {k : Nat} : ∀ {ds : List PyData}, PyData.depthAll ds ≤ k ↔ ∀ d ∈ ds, d.depth ≤ k
  | [] => by simp [PyData.depthAll]
  | d :: ds => by
    have := depthAll_le (k := k) (ds := ds)
    simp only [PyData.depthAll, List.mem_cons, forall_eq_or_imp]
    rw [← this]; omega
theorem Gd.tup {n N k M : Nat} {ds : List PyData} (h : ∀ d ∈ ds, Gd n M k d) (hc : 1 + cntL ds ≤ N) : Gd n N (k + 1) (.tuple ds) := by
  refine ⟨?_, ?_, ?_⟩
  · simp only [scs]; rw [scsL_iff]; exact fun d hd => (h d hd).sc
  · simp only [PyData.depth]
    have : PyData.depthAll ds ≤ k := depthAll_le.mpr fun d hd => (h d hd).dp
    omega
  · simp only [cnt]; exact hc
theorem Gd.lst {n N k M : Nat} {ds : List PyData} (h : ∀ d ∈ ds, Gd n M k d) (hc : 1 + cntL ds ≤ N) : Gd n N (k + 1) (.list ds) := by
  obtain ⟨a, b, c⟩ := Gd.tup h hc
  exact ⟨a, b, c⟩
end L3
set_option Elab.async false
set_option linter.all false
set_option maxRecDepth 100000
set_option maxHeartbeats 2000000
namespace L3
open PySem PySem.Spec PyProof.Rows L2
structure Nod (d : PyData) : Prop where
  sh : d.showable = true
  nd : d.hasDict = false
  cl : d.canLay0 = true
  ln : d.shown.length + 2 ≤ 7100 * cnt d
theorem ten_two : (10 : Nat) ^ 300 ≤ 2 ^ 1000 := by
  have h : ((10 : Nat) ^ 3) ^ 100 ≤ (2 ^ 10) ^ 100 := Nat.pow_le_pow_left (by decide) 100
  rwa [← Nat.pow_mul, ← Nat.pow_mul] at h
theorem big_lt {n : Nat} (hn : n ≤ 100) : 10 ^ 300 + n ≤ 2 ^ 1001 := by
  have h0 := ten_two
  have h1 : (2 : Nat) ^ 1001 = 2 ^ 1000 + 2 ^ 1000 := by rw [Nat.pow_succ, Nat.mul_two]
  have h2 : (2 : Nat) ^ 7 ≤ 2 ^ 1000 := Nat.pow_le_pow_right (by decide) (by decide)
  have h3 : (2 : Nat) ^ 7 = 128 := by decide
  rw [h1]
  generalize (10 : Nat) ^ 300 = A at *
  generalize (2 : Nat) ^ 1000 = B at *
  omega
theorem nods {ds : List PyData} : (∀ d ∈ ds, Nod d) → PyData.showableAll ds = true ∧ PyData.hasDictAll ds = false ∧ PyData.canLayAll0 ds = true ∧ ((PyData.shownAll ds).map (·.length)).sum + 2 * ds.length ≤ 7100 * cntL ds := by
  induction ds with
  | nil => intro _; exact ⟨by simp [PyData.showableAll], by simp [PyData.hasDictAll], by simp [PyData.canLayAll0], by simp [PyData.shownAll, cntL]⟩
  | cons d ds ih =>
    intro h
    obtain ⟨a, b, c, e⟩ := ih fun x hx => h x (List.mem_cons_of_mem _ hx)
    have hd := h d List.mem_cons_self
    refine ⟨by simp [PyData.showableAll, hd.sh, a], by simp [PyData.hasDictAll, hd.nd, b], by simp [PyData.canLayAll0, hd.cl, c], ?_⟩
    simp only [PyData.shownAll, List.map_cons, List.sum_cons, List.length_cons, cntL]
    have := hd.ln
    omega
theorem nod_of {n : Nat} (hn : n ≤ 100) : ∀ m : Nat, ∀ d : PyData, sizeOf d < m → scs n d → Nod d := by
  intro m
  induction m with
  | zero => intro d h; exact absurd h (Nat.not_lt_zero _)
  | succ m ih =>
    intro d hm hs
    cases d with
    | none => exact ⟨rfl, rfl, rfl, by decide⟩
    | bool b => exact ⟨rfl, rfl, rfl, by cases b <;> decide⟩
    | int i =>
      simp only [scs] at hs
      have hb : i.natAbs < 2 ^ 1001 := Nat.lt_of_lt_of_le hs (big_lt hn)
      have := Shw.int hb (by decide) (by decide)
      exact ⟨this.sh, this.nd, rfl, by have := this.ln; simp only [cnt]; omega⟩
    | str x =>
      simp only [scs] at hs
      refine ⟨rfl, rfl, ?_, ?_⟩
      · simp only [PyData.canLay0, PyData.strOk]
        rw [Array.all_eq_true']
        intro c hc
        have := hs.2 c (by simpa using hc)
        exact decide_eq_true (by omega)
      · have h1 := PySem.StrLaws.reprText_len x fun c hc => Nat.lt_of_lt_of_le (hs.2 c hc) (by decide)
        simp only [PyData.shown, cnt]
        omega
    | tuple ds =>
      simp only [scs] at hs
      rw [scsL_iff] at hs
      obtain ⟨a, b, c, e⟩ := nods fun d hd => ih d (by have := List.sizeOf_lt_of_mem hd; simp at hm; omega) (hs d hd)
      refine ⟨by simpa only [PyData.showable] using a, by simpa only [PyData.hasDict] using b, by simpa only [PyData.canLay0] using c, ?_⟩
      have h5 := tupleText_len_le (PyData.shownAll ds)
      have h6 := PyData.shownAll_length ds
      simp only [PyData.shown, cnt]
      omega
    | list ds =>
      simp only [scs] at hs
      rw [scsL_iff] at hs
      obtain ⟨a, b, c, e⟩ := nods fun d hd => ih d (by have := List.sizeOf_lt_of_mem hd; simp at hm; omega) (hs d hd)
      refine ⟨by simpa only [PyData.showable] using a, by simpa only [PyData.hasDict] using b, by simpa only [PyData.canLay0] using c, ?_⟩
      have h5 := listText_len_le (PyData.shownAll ds)
      have h6 := PyData.shownAll_length ds
      simp only [PyData.shown, cnt]
      omega
    | dict kvs => simp only [scs] at hs
section
variable {n N k : Nat} {d : PyData}
theorem Gd.nod (h : Gd n N k d) (hn : n ≤ 100) : Nod d := nod_of hn _ d (Nat.lt_succ_self _) h.sc
theorem Gd.repr (h : Gd n N k d) (hn : n ≤ 100) (hN : N ≤ 2000) (hk : k ≤ 50) : reprOk d = true := by
  have hd := h.nod hn
  unfold reprOk
  rw [hd.sh, hd.nd]
  have h1 := hd.ln
  have h2 := h.ct
  have h3 := h.dp
  simp
  constructor <;> omega
theorem Gd.shaped (h : Gd n N k d) (hn : n ≤ 100) (hk : k ≤ 50) : PySem.SeqAt.shaped d = true := by
  unfold PySem.SeqAt.shaped
  rw [(h.nod hn).cl]
  have h3 := h.dp
  simp
  omega
theorem gd_bool {b : Bool} : Gd n 1 0 (.bool b) := ⟨trivial, by simp [PyData.depth], by simp [cnt]⟩
theorem gd_int {i : Int} (h : i.natAbs < 10 ^ 300 + n) : Gd n 1 0 (.int i) := ⟨h, by simp [PyData.depth], by simp [cnt]⟩
end
end L3
namespace L3
open PySem PySem.Spec PyProof.Rows L2
section
variable {ds es : List PyData} {i j : Int} {x y : Str} {b c : Bool} {d : PyData} {T : String}
theorem e_isin : isinD T d = some (.bool (isT (tyD d) T)) := rfl
end
end L3
set_option Elab.async false
set_option linter.all false
set_option maxRecDepth 100000
set_option maxHeartbeats 2000000
namespace L3
open PySem PySem.Spec PyProof.Rows L2
local macro_rules | `(tactic| walk_at "st") => `(tactic| first | (with_reducible first | refine sq_nx ?_ | refine sq_rt ?_ | refine run_rt ?_ | refine r_mSq.mpr ?_ | refine r_mIf.mpr ?_ | refine r_mSet.mpr ?_ | refine r_mRt.mpr ?_ | refine r_mNx.mpr ?_ | refine r_uAnd.mpr ?_ | refine r_uOr.mpr ?_ | refine r_uNot.mpr ?_ | refine r_uB.mpr ?_ | refine r_uT.mpr ?_ | refine r_uYes.mpr ?_ | refine r_s2.mpr ?_ | refine r_s1.mpr ?_ | refine r_sN.mpr ?_ | refine r_sC.mpr ?_ | refine r_sV.mpr ?_ | refine r_sW.mpr ?_ | refine r_sNil.mpr ?_ | refine r_sCons.mpr ?_ | refine r_sTup.mpr ?_ | refine r_sLst.mpr ?_ | refine r_vNil.mpr ?_ | refine r_vD.mpr ?_ | refine r_vF.mpr ?_ | refine r_sCall.mpr ?_ | refine r_cut.mpr ?_ | refine r_oNo.mpr ?_ | refine r_oI.mpr ?_ | refine r_sAnd.mpr ?_ | refine r_sOr.mpr ?_ | refine r_sNot.mpr ?_ | refine r_sIf.mpr ?_ | refine r_mAsg.mpr ?_ | refine r_mOwn.mpr ?_ | refine r_mFor.mpr ?_ | refine r_mRng1.mpr ?_ | refine r_mSeq.mpr ?_ | refine r_fLst.mpr ?_ | refine r_fCat.mpr ?_ | refine r_sLC.mpr ?_) | ((with_reducible refine r_run.mpr ?_); try dsimp only [startE, List.map_cons, List.map_nil, List.length_cons, List.length_nil, List.replicate, List.cons_append, List.nil_append, Nat.reduceAdd, Nat.reduceSub]) | ((with_reducible apply gD_e); exact rfl) | ((with_reducible apply gW_e); exact rfl) | ((with_reducible apply gW_eo); exact rfl) | ((with_reducible apply gF_e); exact rfl) | ((with_reducible apply oB_e); first | exact e_isin | exact rfl) | ((with_reducible refine And.intro (le_size ?_) ?_); exact rfl) | ((with_reducible refine And.intro (lt_len ?_) ?_); exact rfl; try dsimp only [List.set_cons_zero, List.set_cons_succ]))
local macro_rules | `(tactic| walk_at "rd") => `(tactic| (repeat walk_at "st"))
def c_wide : List DV → M PyData := runD ["_law_feed_here", "_law_pieces", "_law_found", "_law_k"] (mSq (mSet 2 (sC (.int 0)))
    (mSq (mFor (mRng1 (sCons (sV 1) sNil)) (bN 3) (mSet 2 (s2 addD (s2 mulD' (sW 2) (sC (.int 1000000))) (sCall drawS (vF 0 (vD (sC (.int 1000000)) vNil))))))
    (mRt (sV 2))))
theorem t_NoneType_tuple : isT "NoneType" "tuple" = false := by decide +kernel
theorem t_bool_bool : isT "bool" "bool" = true := by decide +kernel
theorem t_int_bool : isT "int" "bool" = false := by decide +kernel
local macro_rules | `(tactic| walk_at "ty") => `(tactic| first | refine cIf_fe t_NoneType_tuple ?_ | refine cIf_fe t_NoneType_bool ?_ | refine cIf_fe t_NoneType_int ?_ | refine cIf_fe t_NoneType_str ?_ | refine cIf_fe t_NoneType_list ?_ | refine cIf_fe t_bool_tuple ?_ | refine cIf_te t_bool_bool ?_ | refine cIf_te t_bool_int ?_ | refine cIf_fe t_bool_str ?_ | refine cIf_fe t_bool_list ?_ | refine cIf_fe t_int_tuple ?_ | refine cIf_fe t_int_bool ?_ | refine cIf_te t_int_int ?_ | refine cIf_fe t_int_str ?_ | refine cIf_fe t_int_list ?_ | refine cIf_fe t_str_tuple ?_ | refine cIf_fe t_str_bool ?_ | refine cIf_fe t_str_int ?_ | refine cIf_te t_str_str ?_ | refine cIf_fe t_str_list ?_ | refine cIf_fe t_list_tuple ?_ | refine cIf_fe t_list_bool ?_ | refine cIf_fe t_list_int ?_ | refine cIf_fe t_list_str ?_ | refine cIf_te t_list_list ?_ | refine cIf_te t_tuple_tuple ?_ | refine cIf_fe t_tuple_bool ?_ | refine cIf_fe t_tuple_int ?_ | refine cIf_fe t_tuple_str ?_ | refine cIf_fe t_tuple_list ?_)
local macro_rules | `(tactic| walk_at "go") => `(tactic| (repeat first | walk_at "st" | walk_at "ty"))
section
variable {s N k : Nat}
end
theorem cut_len {α : Type} (xs : List α) (lo hi : Option Int) : (cutL xs lo hi).length ≤ xs.length := (cut_sub xs lo hi).length_le
theorem sz {n : Nat} (h : n ≤ 100000) : n ≤ sizeLine := Nat.le_trans h (by rw [sizeLine_eq]; decide)
theorem sIx_hi {n : Nat} {i : Int} (h : 0 ≤ i) : HT.sIx n n (some i) = min i.toNat n := by
  obtain ⟨j, rfl⟩ : ∃ j : Nat, i = j := ⟨i.toNat, by omega⟩
  exact HT.sIx_nat _ _ j
theorem cut_to {α : Type} {xs : List α} {i : Int} (h : 0 ≤ i) : cutL xs none (some i) = xs.take i.toNat := by
  unfold cutL
  rw [sIx_hi h, HT.sIx_none, List.drop_zero, Nat.sub_zero]
  by_cases hl : i.toNat ≤ xs.length
  · rw [Nat.min_eq_left hl]
  · rw [Nat.min_eq_right (by omega), List.take_of_length_le (Nat.le_refl _), List.take_of_length_le (by omega)]
theorem for_inv {bd : PyData → DE → Option DE} {body : DE → M Out} {Q : Out → FdS → Prop} (I : Nat → DE → FdS → Prop) : ∀ (items : List PyData) (n : Nat) (E : DE) (F : FdS), I n E F →
    (∀ i d, items[i]? = some d → ∀ E F, I (n + i) E F → ∃ E1, bd d E = some E1 ∧ wp (body E1 F) fun o F' => ∃ E2, o = .nx E2 ∧ I (n + i + 1) E2 F') → (∀ E F, I (n + items.length) E F → Q (.nx E) F) → wp (forGo bd body items E F) Q
  | [], n, E, F, h, _, hq => wp_some.mpr (hq E F h)
  | d :: r, n, E, F, h, st, hq => by
    obtain ⟨E1, e1, h1⟩ := st 0 d rfl E F h
    rw [forGo, e1, Option.bind_some, wp_bind]
    refine wp_mono h1 fun o F1 ⟨E2, e2, h2⟩ => ?_
    subst e2
    refine for_inv I r (n + 1) E2 F1 h2 (fun i d e E F hI => ?_) (fun E F hI => hq E F (by rw [List.length_cons]; rw [show n + (r.length + 1) = n + 1 + r.length by omega]; exact hI))
    have := st (i + 1) d (by simpa using e) E F (by rw [show n + (i + 1) = n + 1 + i by omega]; exact hI)
    rw [show n + (i + 1) + 1 = n + 1 + i + 1 by omega] at this
    exact this
theorem rng_len {lo : Int} {n : Nat} : (rngL lo n).length = n := by simp [rngL]
theorem mul_i {i j : Int} (h : CMul i j) : mulD' (.int i) (.int j) = some (.int (i * j)) := if_pos (.inl h)
theorem mul_b {i j : Int} (h1 : i.natAbs < bigN) (h2 : j.natAbs < bigN) : mulD' (.int i) (.int j) = some (.int (i * j)) := if_pos (.inr ⟨h1, h2⟩)
theorem div_n {i j : Int} (h1 : j ≠ 0) (h2 : j.natAbs < 2 ^ 9000) : fdivD (.int i) (.int j) = some (.int (i.fdiv j)) := if_pos ⟨h1, h2⟩
theorem div_b {i j : Int} (h1 : 0 < j) (h2 : j.natAbs < 2 ^ 9000) : fdivD (.int i) (.int j) = some (.int (i / j)) := by
  rw [div_n (by omega) h2, Int.fdiv_eq_ediv_of_nonneg i (by omega)]
theorem mod_b {i j : Int} (h1 : 0 < j) : modD (.int i) (.int j) = some (.int (i % j)) := if_pos h1
theorem wide_tr {p : Int} (h0 : 0 ≤ p) (h1 : p ≤ 33) : Tr c_wide [.feed, .dat (.int p)] 33 (fun d => ∃ v : Int, d = .int v ∧ 0 ≤ v ∧ v < 10 ^ 198) := Tr.of fun F hF => by
  unfold c_wide
  walk_at "go"
  refine oB_e (show rngOf1 [.int p] = some (rngL 0 p.toNat) from if_pos ⟨by omega, by omega⟩) ?_
  refine for_inv (fun i E F' => ∃ (v : Int) (x : Option DV), E = [some .feed, some (.dat (.int p)), some (.dat (.int v)), x] ∧ 0 ≤ v ∧ v < 10 ^ (6 * i) ∧ F'.t ≤ F.t + i) _ 0 _ F ⟨0, none, rfl, by decide, by decide, by omega⟩ ?_ ?_
  · rintro i d e E F1 ⟨v, x, rfl, v0, v1, ht⟩
    have hi : i < 33 := by
      have := (List.getElem?_eq_some_iff.mp e).1
      rw [rng_len] at this; omega
    refine ⟨_, rfl, ?_⟩
    walk_at "go"
    refine oB_e (mul_i (.inr ⟨by decide, by decide⟩)) ?_
    walk_at "go"
    refine wp_draw (by decide) (by decide) (by omega) fun r F2 r0 r1 ht2 => ?_
    walk_at "go"
    refine ⟨_, rfl, v * 1000000 + r, _, rfl, by omega, ?_, by omega⟩
    have e6 : (10 : Int) ^ (6 * (0 + i + 1)) = 10 ^ (6 * (0 + i)) * 1000000 := by
      rw [show 6 * (0 + i + 1) = 6 * (0 + i) + 6 by omega, Int.pow_add]; rfl
    rw [e6]
    have : v + 1 ≤ 10 ^ (6 * (0 + i)) := v1
    generalize (10 : Int) ^ (6 * (0 + i)) = A at *
    omega
  · rintro E F1 ⟨v, x, rfl, v0, v1, ht⟩
    rw [rng_len] at v1 ht
    walk_at "go"
    refine ⟨by omega, v, rfl, v0, Int.lt_of_lt_of_le v1 ?_⟩
    have : (10 : Nat) ^ (6 * (0 + p.toNat)) ≤ 10 ^ 198 := Nat.pow_le_pow_right (by decide) (by omega)
    exact_mod_cast this
section
variable {F : FdS} {Q : PyData → FdS → Prop} {n : Nat}
theorem rep_e {d : PyData} (h : reprOk d = true) : reprD [d] = some (.str d.shown) := if_pos h
def c_is_number : List DV → M PyData := runD ["thing"] (mRt (sAnd (s1 (isinD "int") (sW 0)) (sNot (s1 (isinD "bool") (sW 0)))))
end
section
variable {F : FdS} {Q : Out → FdS → Prop} {E : DE} {i : Nat} {ds : List PyData}
theorem flc_w {mi : DE → M (List PyData)} {k : Nat} {cap : List Nat} {bd : PyData → DE → Option DE} {mt : DE → M Bool} {me : DE → M PyData} {Q : List PyData → FdS → Prop} (h : wp (mi E F) fun ds F1 => ds.length ≤ sizeLine ∧ wp (lcGo bd mt me ds (capE k cap E) F1) fun zs F2 => Q zs F2) : wp (fLC mi k cap bd mt me E F) Q := by
  unfold fLC; rw [wp_bind]
  refine wp_mono h fun ds F1 h => ?_
  dsimp only
  rw [if_pos h.1, wp_bind]
  exact wp_mono h.2 fun zs F2 h => wp_some.mpr h
end
theorem lc_trG {bd : PyData → DE → Option DE} {me : DE → M PyData} {Sh : DE → Prop} {P : PyData → PyData → Prop} {c : Int} (hc : 0 ≤ c) : ∀ (ds : List PyData) (E : DE) (F : FdS) (Q : List PyData → FdS → Prop), Sh E →
    (∀ d ∈ ds, ∀ E, Sh E → ∃ E1, bd d E = some E1 ∧ Sh E1 ∧ ∀ F : FdS, F.t + c ≤ 199999 → wp (me E1 F) fun y F' => F'.t ≤ F.t + c ∧ P d y) → F.t + c * ds.length ≤ 199999 →
    (∀ zs F', zs.length = ds.length → (∀ z ∈ zs, ∃ d ∈ ds, P d z) → F'.t ≤ F.t + c * ds.length → Q zs F') → wp (lcGo bd uYes me ds E F) Q
  | [], E, F, Q, _, _, _, q => wp_some.mpr (q [] F rfl (fun z hz => by cases hz) (by simp))
  | d :: ds, E, F, Q, hE, st, hF, q => by
    have e1 : c * ((d :: ds).length : Int) = c * (ds.length : Int) + c := by rw [List.length_cons]; push_cast; rw [Int.mul_add, Int.mul_one]
    have hp : 0 ≤ c * (ds.length : Int) := Int.mul_nonneg hc (by omega)
    rw [e1] at hF q
    obtain ⟨E1, eb, h1, h2⟩ := st d List.mem_cons_self E hE
    rw [lcGo, eb, Option.bind_some, wp_bind]
    refine r_uYes.mpr ?_
    rw [if_pos rfl, wp_bind]
    refine wp_mono (h2 F (by omega)) fun y F1 ⟨t1, py⟩ => ?_
    rw [wp_bind]
    refine lc_trG hc ds E1 F1 _ h1 (fun d hd => st d (List.mem_cons_of_mem _ hd)) (by omega) fun zs F2 hl hz t2 => wp_some.mpr (q _ F2 (by simp [hl]) (fun z hm => ?_) (by omega))
    rcases List.mem_cons.mp hm with rfl | hm
    · exact ⟨d, List.mem_cons_self, py⟩
    · obtain ⟨d', hd', p'⟩ := hz z hm
      exact ⟨d', List.mem_cons_of_mem _ hd', p'⟩
theorem lc_tr {me : DE → M PyData} {P : PyData → PyData → Prop} {c : Int} {rest : DE} {F : FdS} {Q : List PyData → FdS → Prop} (ds : List PyData) (o : Option DV) (hc : 0 ≤ c)
    (st : ∀ d ∈ ds, ∀ F : FdS, F.t + c ≤ 199999 → wp (me (some (.dat d) :: rest) F) fun y F' => F'.t ≤ F.t + c ∧ P d y) (hF : F.t + c * ds.length ≤ 199999)
    (q : ∀ zs F', zs.length = ds.length → (∀ z ∈ zs, ∃ d ∈ ds, P d z) → F'.t ≤ F.t + c * ds.length → Q zs F') : wp (lcGo (bN 0) uYes me ds (o :: rest) F) Q :=
  lc_trG (Sh := fun E => ∃ o, E = o :: rest) hc ds _ F Q ⟨o, rfl⟩ (fun d hd E ⟨o, e⟩ => by subst e; exact ⟨_, rfl, ⟨_, rfl⟩, st d hd⟩) hF q
theorem cntL_mul {c : Nat} : ∀ {ds : List PyData}, (∀ d ∈ ds, cnt d ≤ c) → cntL ds ≤ c * ds.length
  | [], _ => by simp [cntL]
  | d :: ds, h => by
    have h1 := h d List.mem_cons_self
    have h2 := cntL_mul (c := c) (ds := ds) fun d hd => h d (List.mem_cons_of_mem _ hd)
    rw [cntL, List.length_cons, Nat.mul_add, Nat.mul_one]
    omega
theorem wh_inv {c : DE → M Bool} {b : DE → M Out} {Q : Out → FdS → Prop} (I : DE → FdS → Prop) (μ : DE → Nat)
    (st : ∀ E F, I E F → wp (c E F) fun t F1 => cIf t (wp (b E F1) fun o F2 => ∃ E2, o = .nx E2 ∧ I E2 F2 ∧ μ E2 < μ E) (Q (.nx E) F1)) : ∀ (n : Nat) (E : DE) (F : FdS), I E F → μ E < n → wp (whGo c b n E F) Q
  | 0, E, F, _, h => absurd h (Nat.not_lt_zero _)
  | n + 1, E, F, hI, h => by
    rw [whGo, wp_bind]
    refine wp_mono (st E F hI) fun t F1 h1 => ?_
    cases t with
    | false => rw [cIf_f] at h1; rw [if_neg (by simp)]; exact wp_some.mpr h1
    | true =>
      rw [cIf_t] at h1
      rw [if_pos rfl, wp_bind]
      refine wp_mono h1 fun o F2 ⟨E2, e, hI2, hm⟩ => ?_
      subst e
      exact wh_inv I μ st n E2 F2 hI2 (by omega)
theorem wh_w {c : DE → M Bool} {b : DE → M Out} {Q : Out → FdS → Prop} (I : DE → FdS → Prop) (μ : DE → Nat) {E : DE} {F : FdS} (h0 : I E F)
    (st : ∀ E F, I E F → wp (c E F) fun t F1 => cIf t (wp (b E F1) fun o F2 => ∃ E2, o = .nx E2 ∧ I E2 F2 ∧ μ E2 < μ E) (Q (.nx E) F1)) : wp (mWh c b E F) Q := by
  obtain ⟨o, F', e, q⟩ := wh_inv I μ st (μ E + 1) E F h0 (Nat.lt_succ_self _)
  exact ⟨o, F', mWh_of e, q⟩
theorem par_w {i j : Nat} {a : DE → M (List PyData)} {E : DE} {F : FdS} {Q : Out → FdS → Prop} (q : wp (a E F) fun xs F1 => ∃ x y, xs = [x, y] ∧ i < E.length ∧ j < E.length ∧ Q (.nx ((E.set i (some (.dat x))).set j (some (.dat y)))) F1) : wp (mPar i j a E F) Q := by
  unfold mPar; rw [wp_bind]
  refine wp_mono q fun xs F1 h => ?_
  obtain ⟨x, y, rfl, h1, h2, q⟩ := h
  simp only [bN, h1, if_true, Option.bind_some, List.length_set, h2]
  exact wp_some.mpr q
theorem par3_w {i j k : Nat} {a : DE → M (List PyData)} {E : DE} {F : FdS} {Q : Out → FdS → Prop} (q : wp (a E F) fun xs F1 => ∃ x y z, xs = [x, y, z] ∧ i < E.length ∧ j < E.length ∧ k < E.length ∧ Q (.nx (((E.set i (some (.dat x))).set j (some (.dat y))).set k (some (.dat z)))) F1) : wp (mPar3 i j k a E F) Q := by
  unfold mPar3; rw [wp_bind]
  refine wp_mono q fun xs F1 h => ?_
  obtain ⟨x, y, z, rfl, h1, h2, h3, q⟩ := h
  simp only [bN, h1, if_true, Option.bind_some, List.length_set, h2, h3]
  exact wp_some.mpr q
theorem two9 : ((2 : Int)).natAbs < 2 ^ 9000 := Nat.lt_of_lt_of_le (show 2 < 2 ^ 2 by decide) (Nat.pow_le_pow_right (by decide) (by decide))
theorem div_2 {i : Int} : fdivD (.int i) (.int 2) = some (.int (i / 2)) := div_b (by decide) two9
theorem mod_2 {i : Int} : modD (.int i) (.int 2) = some (.int (i % 2)) := mod_b (by decide)
noncomputable def c_common_divisor : List DV → M PyData := runD ["one", "other"] (mSq (mPar 0 1 (sCons (sN absD (sCons (sW 0) sNil)) (sCons (sN absD (sCons (sW 1) sNil)) sNil)))
    (mSq (mWh (uB (s2 gtD (sW 1) (sC (.int 0)))) (mPar 0 1 (sCons (sV 1) (sCons (s2 modD (sW 0) (sW 1)) sNil))))
    (mRt (sV 0))))
theorem gcd_w {a b : Int} {F : FdS} {Q : PyData → FdS → Prop} (q : Q (.int (Int.gcd a b : Nat)) F) : wp (c_common_divisor [.dat (.int a), .dat (.int b)] F) Q := by
  unfold c_common_divisor
  walk_at "go"
  refine par_w ?_
  walk_at "go"
  have hab : ∀ z : Int, (if z < 0 then -z else z) = (z.natAbs : Int) := fun z => by split <;> omega
  rw [hab a, hab b]
  refine ⟨_, _, rfl, lt_len rfl, lt_len rfl, sq_nx ?_⟩
  walk_at "go"
  refine wh_w (fun E F' => F' = F ∧ ∃ x y : Nat, E = [some (.dat (.int x)), some (.dat (.int y))] ∧ Nat.gcd x y = Int.gcd a b) (fun E => match E with
    | [_, some (.dat (.int y))] => y.natAbs
    | _ => 0) ⟨rfl, a.natAbs, b.natAbs, rfl, rfl⟩ ?_
  rintro E F1 ⟨rfl, x, y, rfl, hg⟩
  walk_at "go"
  refine cIf_2 (fun e => ?_) (fun e => ?_)
  · have hy : (0 : Int) < y := of_decide_eq_true e
    refine par_w ?_
    walk_at "go"
    refine oB_e (mod_b hy) ?_
    walk_at "go"
    refine ⟨_, _, rfl, lt_len rfl, lt_len rfl, _, rfl, ⟨rfl, y, x % y, rfl, ?_⟩, ?_⟩
    · rw [← hg, Nat.gcd_comm x y, Nat.gcd_rec y x, Nat.gcd_comm]
    · show ((x : Int) % (y : Int)).natAbs < (y : Int).natAbs
      have h1 := Int.emod_nonneg (x : Int) (b := (y : Int)) (by omega)
      have h2 := Int.emod_lt_of_pos (x : Int) hy
      omega
  · have hy : y = 0 := by have := of_decide_eq_false e; omega
    subst hy
    refine sq_nx ?_
    walk_at "go"
    rw [Nat.gcd_zero_right] at hg
    rw [hg]
    exact q
noncomputable def c_common : List DV → M PyData := runD ["_law_one", "_law_other", "_law_twos"] (mSq (mIf (uOr (uB (s2 (eqD false) (sW 0) (sC (.int 0)))) (uB (s2 (eqD false) (sW 1) (sC (.int 0))))) (mRt (s2 addD (sW 0) (sW 1))) mNx)
    (mSq (mSet 2 (sC (.int 1)))
    (mSq (mWh (uAnd (uB (s2 (eqD false) (s2 modD (sW 0) (sC (.int 2))) (sC (.int 0)))) (uB (s2 (eqD false) (s2 modD (sW 1) (sC (.int 2))) (sC (.int 0))))) (mPar3 0 1 2 (sCons (s2 fdivD (sW 0) (sC (.int 2))) (sCons (s2 fdivD (sW 1) (sC (.int 2))) (sCons (s2 mulD' (sW 2) (sC (.int 2))) sNil)))))
    (mSq (mWh (uB (s2 (eqD true) (sW 0) (sW 1))) (mSq (mWh (uB (s2 (eqD false) (s2 modD (sW 0) (sC (.int 2))) (sC (.int 0)))) (mSet 0 (s2 fdivD (sW 0) (sC (.int 2)))))
    (mSq (mWh (uB (s2 (eqD false) (s2 modD (sW 1) (sC (.int 2))) (sC (.int 0)))) (mSet 1 (s2 fdivD (sW 1) (sC (.int 2)))))
    (mIf (uB (s2 gtD (sW 0) (sW 1))) (mSet 0 (s2 subD (sW 0) (sW 1))) (mIf (uB (s2 gtD (sW 1) (sW 0))) (mSet 1 (s2 subD (sW 1) (sW 0))) mNx)))))
    (mRt (s2 mulD' (sW 0) (sW 2)))))))
theorem eq_i {i j : Int} : eqD false (.int i) (.int j) = some (.bool (decide (i = j))) := by
  show (if SeqAt.shaped (.int i) = true ∧ SeqAt.shaped (.int j) = true then _ else none) = _
  rw [if_pos (show SeqAt.shaped (.int i) = true ∧ SeqAt.shaped (.int j) = true from ⟨by simp [SeqAt.shaped, PyData.canLay0, PyData.depth], by simp [SeqAt.shaped, PyData.canLay0, PyData.depth]⟩), if_neg (show ¬ (false = true) by decide)]
  refine congrArg (fun b => some (PyData.bool b)) ?_
  simp only [PyData.eqv]
  exact Bool.beq_eq_decide_eq ..
theorem ne_i {i j : Int} : eqD true (.int i) (.int j) = some (.bool (!decide (i = j))) := by
  show (if SeqAt.shaped (.int i) = true ∧ SeqAt.shaped (.int j) = true then _ else none) = _
  rw [if_pos (show SeqAt.shaped (.int i) = true ∧ SeqAt.shaped (.int j) = true from ⟨by simp [SeqAt.shaped, PyData.canLay0, PyData.depth], by simp [SeqAt.shaped, PyData.canLay0, PyData.depth]⟩), if_pos rfl]
  refine congrArg (fun b => some (PyData.bool b)) ?_
  simp only [PyData.eqv]
  rw [Bool.beq_eq_decide_eq]
theorem gcd_half {a b : Nat} (h : a % 2 = 0) (ho : Nat.gcd a b % 2 = 1) : Nat.gcd (a / 2) b = Nat.gcd a b := by
  obtain ⟨k, rfl⟩ : ∃ k, a = 2 * k := ⟨a / 2, by omega⟩
  have hb : b % 2 = 1 := by
    rcases Nat.mod_two_eq_zero_or_one b with hb | hb
    · have h2 : 2 ∣ Nat.gcd (2 * k) b := Nat.dvd_gcd (Nat.dvd_mul_right 2 k) (Nat.dvd_of_mod_eq_zero hb)
      have := Nat.mod_eq_zero_of_dvd h2
      omega
    · exact hb
  have hc : Nat.Coprime 2 b := by
    show Nat.gcd 2 b = 1
    rw [Nat.gcd_rec, hb]; exact Nat.gcd_one_left 2
  rw [Nat.mul_div_cancel_left k (by decide)]
  exact (hc.gcd_mul_left_cancel k).symm
theorem gcd_sub {a b : Nat} (h : b ≤ a) : Nat.gcd (a - b) b = Nat.gcd a b := Nat.gcd_sub_self_left h
def mu01 : DE → Nat
  | some (.dat (.int x)) :: some (.dat (.int y)) :: _ => x.natAbs + y.natAbs
  | _ => 0
theorem ev_mod {x : Nat} : decide ((x : Int) % 2 = 0) = decide (x % 2 = 0) := by
  have : ((x : Int) % 2 = 0) ↔ x % 2 = 0 := by omega
  simp only [this]
theorem half_c {x : Nat} : ((x : Int) / 2) = ((x / 2 : Nat) : Int) := by omega
theorem halfA {x y g : Nat} {t : Int} {F : FdS} {Q : Out → FdS → Prop} (hx : 1 ≤ x) (hg : Nat.gcd x y = g) (ho : g % 2 = 1)
    (q : ∀ x', 1 ≤ x' → x' % 2 = 1 → Nat.gcd x' y = g → (x' = x ∨ x' < x) → Q (.nx [some (.dat (.int (x' : Nat))), some (.dat (.int (y : Nat))), some (.dat (.int t))]) F) :
    wp (mWh (uB (s2 (eqD false) (s2 modD (sW 0) (sC (.int 2))) (sC (.int 0)))) (mSet 0 (s2 fdivD (sW 0) (sC (.int 2)))) [some (.dat (.int (x : Nat))), some (.dat (.int (y : Nat))), some (.dat (.int t))] F) Q := by
  refine wh_w (fun E F' => F' = F ∧ ∃ x' : Nat, E = [some (.dat (.int x')), some (.dat (.int (y : Nat))), some (.dat (.int t))] ∧ 1 ≤ x' ∧ Nat.gcd x' y = g ∧ (x' = x ∨ x' < x)) mu01 ⟨rfl, x, rfl, hx, hg, .inl rfl⟩ ?_
  rintro E F1 ⟨rfl, z, rfl, hz, hg, hl⟩
  walk_at "st"; walk_at "st"; walk_at "st"; walk_at "st"; walk_at "st"
  walk_at "st"
  refine oB_e mod_2 ?_
  refine r_sC.mpr ?_
  refine oB_e eq_i ?_
  rw [ev_mod]
  refine oB_e rfl (cIf_2 (fun e => ?_) (fun e => ?_))
  · have e := of_decide_eq_true e
    refine r_mSet.mpr (r_s2.mpr (r_sW.mpr (gW_e rfl (r_sC.mpr (oB_e div_2 ?_)))))
    rw [half_c]
    refine ⟨lt_len rfl, _, rfl, ⟨rfl, z / 2, rfl, by omega, by rw [gcd_half e (by rw [hg]; exact ho)]; exact hg, by omega⟩, ?_⟩
    show ((z / 2 : Nat) : Int).natAbs + (y : Int).natAbs < (z : Int).natAbs + (y : Int).natAbs
    omega
  · have e := of_decide_eq_false e
    exact q z hz (by omega) hg hl
theorem halfB {x y g : Nat} {t : Int} {F : FdS} {Q : Out → FdS → Prop} (hx : 1 ≤ y) (hg : Nat.gcd x y = g) (ho : g % 2 = 1)
    (q : ∀ y', 1 ≤ y' → y' % 2 = 1 → Nat.gcd x y' = g → (y' = y ∨ y' < y) → Q (.nx [some (.dat (.int (x : Nat))), some (.dat (.int (y' : Nat))), some (.dat (.int t))]) F) :
    wp (mWh (uB (s2 (eqD false) (s2 modD (sW 1) (sC (.int 2))) (sC (.int 0)))) (mSet 1 (s2 fdivD (sW 1) (sC (.int 2)))) [some (.dat (.int (x : Nat))), some (.dat (.int (y : Nat))), some (.dat (.int t))] F) Q := by
  refine wh_w (fun E F' => F' = F ∧ ∃ y' : Nat, E = [some (.dat (.int (x : Nat))), some (.dat (.int (y' : Nat))), some (.dat (.int t))] ∧ 1 ≤ y' ∧ Nat.gcd x y' = g ∧ (y' = y ∨ y' < y)) mu01 ⟨rfl, y, rfl, hx, hg, .inl rfl⟩ ?_
  rintro E F1 ⟨rfl, z, rfl, hz, hg, hl⟩
  walk_at "st"; walk_at "st"; walk_at "st"; walk_at "st"; walk_at "st"
  walk_at "st"
  refine oB_e mod_2 ?_
  refine r_sC.mpr ?_
  refine oB_e eq_i ?_
  rw [ev_mod]
  refine oB_e rfl (cIf_2 (fun e => ?_) (fun e => ?_))
  · have e := of_decide_eq_true e
    refine r_mSet.mpr (r_s2.mpr (r_sW.mpr (gW_e rfl (r_sC.mpr (oB_e div_2 ?_)))))
    rw [half_c]
    refine ⟨lt_len rfl, _, rfl, ⟨rfl, z / 2, rfl, by omega, by rw [Nat.gcd_comm, gcd_half e (by rw [Nat.gcd_comm, hg]; exact ho), Nat.gcd_comm]; exact hg, by omega⟩, ?_⟩
    show (x : Int).natAbs + ((z / 2 : Nat) : Int).natAbs < (x : Int).natAbs + (z : Int).natAbs
    omega
  · have e := of_decide_eq_false e
    exact q z hz (by omega) hg hl
theorem diffs {x y g : Nat} {t : Int} {F : FdS} {Q : Out → FdS → Prop} (hx : 1 ≤ x) (hy : 1 ≤ y) (hg : Nat.gcd x y = g) (ho : g % 2 = 1)
    (q : Q (.nx [some (.dat (.int (g : Nat))), some (.dat (.int (g : Nat))), some (.dat (.int t))]) F) :
    wp (mWh (uB (s2 (eqD true) (sW 0) (sW 1))) (mSq (mWh (uB (s2 (eqD false) (s2 modD (sW 0) (sC (.int 2))) (sC (.int 0)))) (mSet 0 (s2 fdivD (sW 0) (sC (.int 2)))))
    (mSq (mWh (uB (s2 (eqD false) (s2 modD (sW 1) (sC (.int 2))) (sC (.int 0)))) (mSet 1 (s2 fdivD (sW 1) (sC (.int 2)))))
    (mIf (uB (s2 gtD (sW 0) (sW 1))) (mSet 0 (s2 subD (sW 0) (sW 1))) (mIf (uB (s2 gtD (sW 1) (sW 0))) (mSet 1 (s2 subD (sW 1) (sW 0))) mNx)))) [some (.dat (.int (x : Nat))), some (.dat (.int (y : Nat))), some (.dat (.int t))] F) Q := by
  refine wh_w (fun E F' => F' = F ∧ ∃ x y : Nat, E = [some (.dat (.int (x : Nat))), some (.dat (.int (y : Nat))), some (.dat (.int t))] ∧ 1 ≤ x ∧ 1 ≤ y ∧ Nat.gcd x y = g) mu01 ⟨rfl, x, y, rfl, hx, hy, hg⟩ ?_
  clear hx hy hg
  rintro E F1 ⟨rfl, x, y, rfl, hx, hy, hg⟩
  refine r_uB.mpr (r_s2.mpr (r_sW.mpr (gW_e rfl (r_sW.mpr (gW_e rfl (oB_e ne_i ?_))))))
  refine oB_e rfl (cIf_2 (fun e => ?_) (fun e => ?_))
  · have hne : x ≠ y := by
      have := of_decide_eq_false (show decide ((x : Int) = y) = false by simpa using e)
      omega
    refine r_mSq.mpr (halfA hx hg ho fun x' hx' hxo hg' hl => sq_nx ?_)
    refine r_mSq.mpr (halfB hy hg' ho fun y' hy' hyo hg2 hl2 => sq_nx ?_)
    refine r_mIf.mpr ?_
    walk_at "go"
    refine cIf_2 (fun e => ?_) (fun e => ?_)
    · have h1 : (y' : Int) < x' := of_decide_eq_true e
      walk_at "go"
      have e3 : (x' : Int) - y' = ((x' - y' : Nat) : Int) := by omega
      rw [e3]
      refine ⟨_, rfl, ⟨rfl, x' - y', y', rfl, by omega, hy', by rw [gcd_sub (by omega)]; exact hg2⟩, ?_⟩
      show ((x' - y' : Nat) : Int).natAbs + (y' : Int).natAbs < (x : Int).natAbs + (y : Int).natAbs
      omega
    · have h1 := of_decide_eq_false e
      walk_at "go"
      refine cIf_2 (fun e => ?_) (fun e => ?_)
      · have h2 : (x' : Int) < y' := of_decide_eq_true e
        walk_at "go"
        have e3 : (y' : Int) - x' = ((y' - x' : Nat) : Int) := by omega
        rw [e3]
        refine ⟨_, rfl, ⟨rfl, x', y' - x', rfl, hx', by omega, by rw [Nat.gcd_comm, gcd_sub (by omega), Nat.gcd_comm]; exact hg2⟩, ?_⟩
        show (x' : Int).natAbs + ((y' - x' : Nat) : Int).natAbs < (x : Int).natAbs + (y : Int).natAbs
        omega
      · have h2 := of_decide_eq_false e
        walk_at "go"
        refine ⟨_, rfl, ⟨rfl, x', y', rfl, hx', hy', hg2⟩, ?_⟩
        show (x' : Int).natAbs + (y' : Int).natAbs < (x : Int).natAbs + (y : Int).natAbs
        omega
  · have he : x = y := by
      have := of_decide_eq_true (show decide ((x : Int) = y) = true by simpa using e)
      omega
    subst he
    rw [Nat.gcd_self] at hg
    subst hg
    exact q
theorem com_w {a b : Nat} {F : FdS} {Q : PyData → FdS → Prop} (ha : a < bigN) (q : Q (.int (Nat.gcd a b : Nat)) F) : wp (c_common [.dat (.int (a : Nat)), .dat (.int (b : Nat))] F) Q := by
  unfold c_common
  refine r_run.mpr ?_
  try dsimp only [startE, List.map_cons, List.map_nil, List.length_cons, List.length_nil, List.replicate, List.cons_append, List.nil_append, Nat.reduceAdd, Nat.reduceSub]
  refine r_mSq.mpr (r_mIf.mpr (r_uOr.mpr ?_))
  have zero : ∀ {P : Prop}, (a = 0 ∨ b = 0) → (a + b = Nat.gcd a b) := fun {P} h => by
    rcases h with rfl | rfl <;> simp
  refine r_uB.mpr (r_s2.mpr (r_sW.mpr (gW_e rfl (r_sC.mpr (oB_e eq_i ?_)))))
  have ret : (a = 0 ∨ b = 0) → wp (mRt (s2 addD (sW 0) (sW 1)) [some (.dat (.int (a : Nat))), some (.dat (.int (b : Nat))), none] F) (sqK (mSq (mSet 2 (sC (.int 1)))
    (mSq (mWh (uAnd (uB (s2 (eqD false) (s2 modD (sW 0) (sC (.int 2))) (sC (.int 0)))) (uB (s2 (eqD false) (s2 modD (sW 1) (sC (.int 2))) (sC (.int 0))))) (mPar3 0 1 2 (sCons (s2 fdivD (sW 0) (sC (.int 2))) (sCons (s2 fdivD (sW 1) (sC (.int 2))) (sCons (s2 mulD' (sW 2) (sC (.int 2))) sNil)))))
    (mSq (mWh (uB (s2 (eqD true) (sW 0) (sW 1))) (mSq (mWh (uB (s2 (eqD false) (s2 modD (sW 0) (sC (.int 2))) (sC (.int 0)))) (mSet 0 (s2 fdivD (sW 0) (sC (.int 2)))))
    (mSq (mWh (uB (s2 (eqD false) (s2 modD (sW 1) (sC (.int 2))) (sC (.int 0)))) (mSet 1 (s2 fdivD (sW 1) (sC (.int 2)))))
    (mIf (uB (s2 gtD (sW 0) (sW 1))) (mSet 0 (s2 subD (sW 0) (sW 1))) (mIf (uB (s2 gtD (sW 1) (sW 0))) (mSet 1 (s2 subD (sW 1) (sW 0))) mNx)))))
    (mRt (s2 mulD' (sW 0) (sW 2)))))) (runK Q)) := fun h => by
    walk_at "go"
    have := zero (P := True) h
    have e : ((a : Int) + (b : Int)) = ((Nat.gcd a b : Nat) : Int) := by omega
    rw [e]
    exact q
  refine oB_e rfl (cIf_2 (fun e => ?_) (fun e => ?_))
  · refine cIf_te rfl (ret (.inl ?_))
    have := of_decide_eq_true e
    omega
  · have ha0 : a ≠ 0 := by have := of_decide_eq_false e; omega
    refine r_uB.mpr (r_s2.mpr (r_sW.mpr (gW_e rfl (r_sC.mpr (oB_e eq_i ?_)))))
    refine oB_e rfl (cIf_2 (fun e => ?_) (fun e => ?_))
    · exact ret (.inr (by have := of_decide_eq_true e; omega))
    · have hb0 : b ≠ 0 := by have := of_decide_eq_false e; omega
      refine r_mNx.mpr (sq_nx ?_)
      refine r_mSq.mpr (r_mSet.mpr (r_sC.mpr ⟨lt_len rfl, sq_nx ?_⟩))
      refine r_mSq.mpr ?_
      refine wh_w (fun E F' => F' = F ∧ ∃ x y t : Nat, E = [some (.dat (.int (x : Nat))), some (.dat (.int (y : Nat))), some (.dat (.int (t : Nat)))] ∧ 1 ≤ x ∧ 1 ≤ y ∧ 1 ≤ t ∧ Nat.gcd x y * t = Nat.gcd a b ∧ x * t ≤ a) mu01 ⟨rfl, a, b, 1, rfl, by omega, by omega, by omega, by omega, by omega⟩ ?_
      rintro E F1 ⟨rfl, x, y, t, rfl, hx, hy, ht, hg, hl⟩
      have out : Nat.gcd x y % 2 = 1 → sqK (mSq (mWh (uB (s2 (eqD true) (sW 0) (sW 1))) (mSq (mWh (uB (s2 (eqD false) (s2 modD (sW 0) (sC (.int 2))) (sC (.int 0)))) (mSet 0 (s2 fdivD (sW 0) (sC (.int 2)))))
    (mSq (mWh (uB (s2 (eqD false) (s2 modD (sW 1) (sC (.int 2))) (sC (.int 0)))) (mSet 1 (s2 fdivD (sW 1) (sC (.int 2)))))
    (mIf (uB (s2 gtD (sW 0) (sW 1))) (mSet 0 (s2 subD (sW 0) (sW 1))) (mIf (uB (s2 gtD (sW 1) (sW 0))) (mSet 1 (s2 subD (sW 1) (sW 0))) mNx)))))
    (mRt (s2 mulD' (sW 0) (sW 2)))) (runK Q) (.nx [some (.dat (.int (x : Nat))), some (.dat (.int (y : Nat))), some (.dat (.int (t : Nat)))]) F1 := fun ho => by
        refine sq_nx (r_mSq.mpr (diffs hx hy rfl ho (sq_nx ?_)))
        refine r_mRt.mpr (r_s2.mpr (r_sW.mpr (gW_e rfl (r_sW.mpr (gW_e rfl ?_)))))
        have h1 : Nat.gcd x y ≤ x := Nat.gcd_le_left y hx
        have h2 : x ≤ x * t := Nat.le_mul_of_pos_right x ht
        have h3 : t ≤ x * t := Nat.le_mul_of_pos_left t hx
        refine oB_e (mul_b (by show Nat.gcd x y < _; exact Nat.lt_of_le_of_lt (Nat.le_trans h1 (Nat.le_trans h2 hl)) ha) (by show t < _; exact Nat.lt_of_le_of_lt (Nat.le_trans h3 hl) ha)) ?_
        refine run_rt ?_
        have e : ((Nat.gcd x y : Nat) : Int) * (t : Int) = ((Nat.gcd a b : Nat) : Int) := by rw [← hg]; push_cast; rfl
        rw [e]
        exact q
      refine r_uAnd.mpr (r_uB.mpr (r_s2.mpr (r_s2.mpr (r_sW.mpr (gW_e rfl (r_sC.mpr (oB_e mod_2 (r_sC.mpr (oB_e eq_i ?_)))))))))
      rw [ev_mod]
      refine oB_e rfl (cIf_2 (fun e1 => ?_) (fun e1 => ?_))
      · have e1 := of_decide_eq_true e1
        refine r_uB.mpr (r_s2.mpr (r_s2.mpr (r_sW.mpr (gW_e rfl (r_sC.mpr (oB_e mod_2 (r_sC.mpr (oB_e eq_i ?_))))))))
        rw [ev_mod]
        refine oB_e rfl (cIf_2 (fun e2 => ?_) (fun e2 => ?_))
        · have e2 := of_decide_eq_true e2
          refine par3_w ?_
          refine r_sCons.mpr (r_s2.mpr (r_sW.mpr (gW_e rfl (r_sC.mpr (oB_e div_2 ?_)))))
          refine r_sCons.mpr (r_s2.mpr (r_sW.mpr (gW_e rfl (r_sC.mpr (oB_e div_2 ?_)))))
          refine r_sCons.mpr (r_s2.mpr (r_sW.mpr (gW_e rfl (r_sC.mpr (oB_e (mul_i (.inr ⟨by decide, by decide⟩)) ?_)))))
          refine r_sNil.mpr ?_
          rw [half_c, half_c]
          have e3 : (t : Int) * 2 = ((t * 2 : Nat) : Int) := by push_cast; rfl
          rw [e3]
          obtain ⟨x2, rfl⟩ : ∃ k, x = 2 * k := ⟨x / 2, by omega⟩
          obtain ⟨y2, rfl⟩ : ∃ k, y = 2 * k := ⟨y / 2, by omega⟩
          refine ⟨_, _, _, rfl, lt_len rfl, lt_len rfl, lt_len rfl, _, rfl, ⟨rfl, 2 * x2 / 2, 2 * y2 / 2, t * 2, rfl, by omega, by omega, by omega, ?_, ?_⟩, ?_⟩
          · rw [Nat.mul_div_cancel_left x2 (by decide), Nat.mul_div_cancel_left y2 (by decide), ← hg, Nat.gcd_mul_left, Nat.mul_comm t 2, ← Nat.mul_assoc, Nat.mul_comm (Nat.gcd x2 y2) 2]
          · rw [Nat.mul_div_cancel_left x2 (by decide), Nat.mul_comm t 2, ← Nat.mul_assoc, Nat.mul_comm x2 2]; exact hl
          · show ((2 * x2 / 2 : Nat) : Int).natAbs + ((2 * y2 / 2 : Nat) : Int).natAbs < ((2 * x2 : Nat) : Int).natAbs + ((2 * y2 : Nat) : Int).natAbs
            omega
        · have e2 := of_decide_eq_false e2
          refine out ?_
          rcases Nat.mod_two_eq_zero_or_one (Nat.gcd x y) with h | h
          · have := Nat.mod_eq_zero_of_dvd (Nat.dvd_trans (Nat.dvd_of_mod_eq_zero h) (Nat.gcd_dvd_right x y))
            omega
          · exact h
      · have e1 := of_decide_eq_false e1
        refine cIf_fe rfl (out ?_)
        rcases Nat.mod_two_eq_zero_or_one (Nat.gcd x y) with h | h
        · have := Nat.mod_eq_zero_of_dvd (Nat.dvd_trans (Nat.dvd_of_mod_eq_zero h) (Nat.gcd_dvd_left x y))
          omega
        · exact h
noncomputable def c_fraction : List DV → M PyData := runD ["top", "bottom", "divisor"] (mSq (mSet 2 (sCall c_common_divisor (vD (sV 0) (vD (sV 1) vNil))))
    (mSq (mIf (uB (s2 ltD (sW 1) (sC (.int 0)))) (mSet 2 (s1 negD (sW 2))) mNx)
    (mRt (sTup (sCons (s2 fdivD (sW 0) (sW 2)) (sCons (s2 fdivD (sW 1) (sW 2)) sNil))))))
structure Low (i j t b : Int) : Prop where
  pos : 0 < b
  low : Int.gcd t b = 1
  as : t * j = i * b
  lt : t.natAbs ≤ i.natAbs
  lb : b.natAbs ≤ j.natAbs
theorem low_pos {i j : Int} (hj : 0 < j) : Low i j (i / (Int.gcd i j : Int)) (j / (Int.gcd i j : Int)) := by
  have hg : 0 < Int.gcd i j := Int.gcd_pos_of_ne_zero_right i (by omega)
  have d1 : (Int.gcd i j : Int) ∣ i := Int.gcd_dvd_left ..
  have d2 : (Int.gcd i j : Int) ∣ j := Int.gcd_dvd_right ..
  refine ⟨Int.ediv_pos_of_pos_of_dvd hj (by omega) d2, Int.gcd_ediv_gcd_ediv_gcd hg, ?_, Int.natAbs_ediv_le_natAbs .., Int.natAbs_ediv_le_natAbs ..⟩
  have hg0 : (Int.gcd i j : Int) ≠ 0 := by omega
  clear hg
  generalize (Int.gcd i j : Int) = g at *
  obtain ⟨x, rfl⟩ := d1
  obtain ⟨y, rfl⟩ := d2
  have hg := hg0
  rw [Int.mul_ediv_cancel_left x hg, Int.mul_ediv_cancel_left y hg, Int.mul_comm g y, ← Int.mul_assoc, Int.mul_comm g x, Int.mul_assoc x g y, Int.mul_comm g y, ← Int.mul_assoc]
theorem low_neg {i j : Int} (hj : j < 0) : Low i j (i / (-(Int.gcd i j : Int))) (j / (-(Int.gcd i j : Int))) := by
  have h := low_pos (i := -i) (j := -j) (by omega)
  rw [Int.neg_gcd, Int.gcd_neg] at h
  obtain ⟨h1, h2, h3, h4, h5⟩ := h
  have e1 : i / (-(Int.gcd i j : Int)) = -i / (Int.gcd i j : Int) := by
    rw [Int.ediv_neg, Int.neg_ediv_of_dvd (Int.gcd_dvd_left ..)]
  have e2 : j / (-(Int.gcd i j : Int)) = -j / (Int.gcd i j : Int) := by
    rw [Int.ediv_neg, Int.neg_ediv_of_dvd (Int.gcd_dvd_right ..)]
  rw [e1, e2]
  refine ⟨h1, h2, ?_, by rw [Int.natAbs_neg] at h4; exact h4, by rw [Int.natAbs_neg] at h5; exact h5⟩
  rw [Int.mul_neg, Int.neg_mul] at h3
  omega
theorem fraction_w {i j : Int} {F : FdS} {Q : PyData → FdS → Prop} (hj : j ≠ 0) (hb : j.natAbs < 2 ^ 9000) (q : ∀ t b, Low i j t b → Q (.tuple [.int t, .int b]) F) : wp (c_fraction [.dat (.int i), .dat (.int j)] F) Q := by
  unfold c_fraction
  walk_at "go"
  refine gcd_w ?_
  have hg : 0 < Int.gcd i j := Int.gcd_pos_of_ne_zero_right i hj
  have hgl : Int.gcd i j ≤ j.natAbs := Nat.le_of_dvd (by omega) (Int.ofNat_dvd_left.mp (Int.gcd_dvd_right ..))
  refine ⟨lt_len rfl, sq_nx ?_⟩
  walk_at "go"
  refine cIf_2 (fun e => ?_) (fun e => ?_)
  · have hj : j < 0 := of_decide_eq_true e
    walk_at "go"
    have hd : (-((Int.gcd i j : Nat) : Int)).natAbs < 2 ^ 9000 := by rw [Int.natAbs_neg]; exact Nat.lt_of_le_of_lt hgl hb
    have h0 : -((Int.gcd i j : Nat) : Int) ≠ 0 := by omega
    have d1 : -((Int.gcd i j : Nat) : Int) ∣ i := Int.neg_dvd.mpr (Int.gcd_dvd_left ..)
    have d2 : -((Int.gcd i j : Nat) : Int) ∣ j := Int.neg_dvd.mpr (Int.gcd_dvd_right ..)
    refine oB_e (div_n h0 hd) ?_
    walk_at "go"
    refine oB_e (div_n h0 hd) ?_
    walk_at "go"
    rw [Int.fdiv_eq_ediv_of_dvd d1, Int.fdiv_eq_ediv_of_dvd d2]
    exact q _ _ (low_neg hj)
  · have hj : 0 < j := by have := of_decide_eq_false e; omega
    walk_at "go"
    have hd : ((Int.gcd i j : Nat) : Int).natAbs < 2 ^ 9000 := Nat.lt_of_le_of_lt hgl hb
    refine oB_e (div_b (by omega) hd) ?_
    walk_at "go"
    refine oB_e (div_b (by omega) hd) ?_
    walk_at "go"
    exact q _ _ (low_pos hj)
end L3
set_option Elab.async false
set_option linter.all false
set_option maxRecDepth 100000
set_option maxHeartbeats 2000000
namespace K2
open PySem L2 L3
local macro_rules | `(tactic| walk_at "st") => `(tactic| first | (with_reducible first | refine sq_nx ?_ | refine sq_rt ?_ | refine run_rt ?_ | refine r_mSq.mpr ?_ | refine r_mIf.mpr ?_ | refine r_mSet.mpr ?_ | refine r_mRt.mpr ?_ | refine r_mNx.mpr ?_ | refine r_uAnd.mpr ?_ | refine r_uOr.mpr ?_ | refine r_uNot.mpr ?_ | refine r_uB.mpr ?_ | refine r_uT.mpr ?_ | refine r_uYes.mpr ?_ | refine r_s2.mpr ?_ | refine r_s1.mpr ?_ | refine r_sN.mpr ?_ | refine r_sC.mpr ?_ | refine r_sV.mpr ?_ | refine r_sW.mpr ?_ | refine r_sNil.mpr ?_ | refine r_sCons.mpr ?_ | refine r_sTup.mpr ?_ | refine r_sLst.mpr ?_ | refine r_vNil.mpr ?_ | refine r_vD.mpr ?_ | refine r_vF.mpr ?_ | refine r_sCall.mpr ?_ | refine r_cut.mpr ?_ | refine r_oNo.mpr ?_ | refine r_oI.mpr ?_ | refine r_sAnd.mpr ?_ | refine r_sOr.mpr ?_ | refine r_sNot.mpr ?_ | refine r_sIf.mpr ?_ | refine r_mAsg.mpr ?_ | refine r_mOwn.mpr ?_ | refine r_mFor.mpr ?_ | refine r_mRng1.mpr ?_ | refine r_mSeq.mpr ?_ | refine r_fLst.mpr ?_ | refine r_fCat.mpr ?_ | refine r_sLC.mpr ?_) | ((with_reducible refine r_run.mpr ?_); try dsimp only [startE, List.map_cons, List.map_nil, List.length_cons, List.length_nil, List.replicate, List.cons_append, List.nil_append, Nat.reduceAdd, Nat.reduceSub]) | ((with_reducible apply gD_e); exact rfl) | ((with_reducible apply gW_e); exact rfl) | ((with_reducible apply gW_eo); exact rfl) | ((with_reducible apply gF_e); exact rfl) | ((with_reducible apply oB_e); first | exact e_isin | exact rfl) | ((with_reducible refine And.intro (le_size ?_) ?_); exact rfl) | ((with_reducible refine And.intro (lt_len ?_) ?_); exact rfl; try dsimp only [List.set_cons_zero, List.set_cons_succ]))
local macro_rules | `(tactic| walk_at "rd") => `(tactic| (repeat walk_at "st"))
local macro_rules | `(tactic| walk_at "ty") => `(tactic| first | refine cIf_fe t_NoneType_tuple ?_ | refine cIf_fe t_NoneType_bool ?_ | refine cIf_fe t_NoneType_int ?_ | refine cIf_fe t_NoneType_str ?_ | refine cIf_fe t_NoneType_list ?_ | refine cIf_fe t_bool_tuple ?_ | refine cIf_te t_bool_bool ?_ | refine cIf_te t_bool_int ?_ | refine cIf_fe t_bool_str ?_ | refine cIf_fe t_bool_list ?_ | refine cIf_fe t_int_tuple ?_ | refine cIf_fe t_int_bool ?_ | refine cIf_te t_int_int ?_ | refine cIf_fe t_int_str ?_ | refine cIf_fe t_int_list ?_ | refine cIf_fe t_str_tuple ?_ | refine cIf_fe t_str_bool ?_ | refine cIf_fe t_str_int ?_ | refine cIf_te t_str_str ?_ | refine cIf_fe t_str_list ?_ | refine cIf_fe t_list_tuple ?_ | refine cIf_fe t_list_bool ?_ | refine cIf_fe t_list_int ?_ | refine cIf_fe t_list_str ?_ | refine cIf_te t_list_list ?_ | refine cIf_te t_tuple_tuple ?_ | refine cIf_fe t_tuple_bool ?_ | refine cIf_fe t_tuple_int ?_ | refine cIf_fe t_tuple_str ?_ | refine cIf_fe t_tuple_list ?_)
local macro_rules | `(tactic| walk_at "go") => `(tactic| (repeat first | walk_at "st" | walk_at "ty"))
theorem frac_is : f_fraction = c_fraction := rfl
theorem com_is : f__law_common = c_common := rfl
theorem numL_is : f__law_is_number = c_is_number := rfl
theorem wide_is : f__law_wide = c_wide := rfl
theorem wh_w2 {c : DE → M Bool} {b : DE → M Out} {Q : Out → FdS → Prop} (I : DE → FdS → Prop) (μ : DE → Nat) {E : DE} {F : FdS} (h0 : I E F)
    (st : ∀ E F, I E F → wp (c E F) fun t F1 => cIf t (wp (b E F1) fun o F2 => (∃ E2, o = .nx E2 ∧ I E2 F2 ∧ μ E2 < μ E) ∨ ∃ d, o = .rt d ∧ Q (.rt d) F2) (Q (.nx E) F1)) : wp (mWh c b E F) Q := by
  have key : ∀ (n : Nat) (E : DE) (F : FdS), I E F → μ E < n → wp (whGo c b n E F) Q := by
    intro n
    induction n with
    | zero => intro E F _ h; exact absurd h (Nat.not_lt_zero _)
    | succ n ih =>
      intro E F hI h
      rw [whGo, wp_bind]
      refine wp_mono (st E F hI) fun t F1 h1 => ?_
      cases t with
      | false => rw [cIf_f] at h1; rw [if_neg (by simp)]; exact wp_some.mpr h1
      | true =>
        rw [cIf_t] at h1
        rw [if_pos rfl, wp_bind]
        refine wp_mono h1 fun o F2 h2 => ?_
        rcases h2 with ⟨E2, e, hI2, hm⟩ | ⟨d, e, q⟩
        · subst e; exact ih E2 F2 hI2 (by omega)
        · subst e; exact wp_some.mpr q
  obtain ⟨o, F', e, q⟩ := key (μ E + 1) E F h0 (Nat.lt_succ_self _)
  exact ⟨o, F', mWh_of e, q⟩
section
variable {F : FdS} {Q : PyData → FdS → Prop}
theorem one_e {z : Nat} : eqD false (.int (z : Nat)) (.int 1) = some (.bool (decide (z = 1))) := by
  rw [eq_i]
  have : ((z : Int) = 1) ↔ z = 1 := by omega
  simp only [this]
theorem numI_w {i : Int} {F : FdS} {Q : PyData → FdS → Prop} (q : Q (.bool true) F) : wp (c_is_number [.dat (.int i)] F) Q := by
  unfold c_is_number
  walk_at "go"; simp only [tyD, t_int_bool, Bool.not_false]; exact q
theorem isfr_w {t b : Int} (hb : 0 < b) (hg : Int.gcd t b = 1) (ht : t.natAbs < bigN) (q : Q (.bool true) F) : wp (f__law_is_fraction [.dat (.tuple [.int t, .int b])] F) Q := by
  unfold f__law_is_fraction
  rw [numL_is, com_is]
  walk_at "go"
  refine numI_w ?_
  refine oB_e rfl (cIf_fe rfl ?_)
  walk_at "go"
  refine numI_w ?_
  refine oB_e rfl (cIf_fe rfl ?_)
  walk_at "go"
  refine cIf_te (decide_eq_true hb) ?_
  walk_at "go"
  have hab : (if t < 0 then -t else t) = (t.natAbs : Int) := by split <;> omega
  have eb : b = ((b.natAbs : Nat) : Int) := by omega
  rw [hab]
  have key : wp (c_common [.dat (.int (t.natAbs : Nat)), .dat (.int (b.natAbs : Nat))] F) fun x F1 => wp (sC (PyData.int 1) (List.map some [DV.dat (PyData.tuple [PyData.int t, PyData.int b])] ++ []) F1) fun y F2 => oB (eqD false x y) fun z => runK Q (.rt z) F2 := by
    refine com_w ht ?_
    refine r_sC.mpr (oB_e one_e (run_rt ?_))
    have : Nat.gcd t.natAbs b.natAbs = 1 := hg
    rw [this]
    exact q
  rw [← eb] at key
  exact key
theorem much_w {i j t b : Int} (h : Low i j t b) (hi : i.natAbs < bigN) (hj : j.natAbs < bigN) (q : Q (.bool true) F) : wp (f__law_is_as_much [.dat (.tuple [.int t, .int b]), .dat (.int i), .dat (.int j)] F) Q := by
  unfold f__law_is_as_much
  have ht := Nat.lt_of_le_of_lt h.lt hi
  have hb := Nat.lt_of_le_of_lt h.lb hj
  walk_at "go"
  refine isfr_w h.pos h.low ht ?_
  refine oB_e rfl (cIf_te rfl ?_)
  walk_at "go"
  refine oB_e (mul_b ht hj) ?_
  walk_at "go"
  refine oB_e (mul_b hi hb) ?_
  refine oB_e eq_i ?_
  refine run_rt ?_
  rw [decide_eq_true h.as]
  exact q
def Pf (d : PyData) : Prop := ∃ a b : Int, d = .tuple [.int a, .int b] ∧ 1 ≤ b ∧ a.natAbs < 2 ^ 1000 ∧ b.natAbs < 2 ^ 1000
theorem p1k {x : Nat} (h : x < 2 ^ 1000) : x < 2 ^ 9000 := Nat.lt_of_lt_of_le h (Nat.pow_le_pow_right (by decide) (by decide))
theorem mulK {a b : Int} (ha : a.natAbs < 2 ^ 1000) (hb : b.natAbs < 2 ^ 1000) : (a * b).natAbs < 2 ^ 2000 := by
  rw [Int.natAbs_mul]
  have := Nat.mul_lt_mul'' ha hb
  rwa [← Nat.pow_add] at this
theorem k9 {x : Nat} (h : x < 2 ^ 2000) : x < 2 ^ 9000 := Nat.lt_of_lt_of_le h (Nat.pow_le_pow_right (by decide) (by decide))
theorem kB {x : Nat} (h : x < 2 ^ 2000) : x < bigN := Nat.lt_of_lt_of_le h (bigN_ge (by decide))
theorem kB1 {x : Nat} (h : x < 2 ^ 1000) : x < bigN := Nat.lt_of_lt_of_le h (bigN_ge (by decide))
theorem addK {x y : Int} (hx : x.natAbs < 2 ^ 2000) (hy : y.natAbs < 2 ^ 2000) : (x + y).natAbs < bigN := by
  refine Nat.lt_of_lt_of_le (m := 2 ^ 2001) ?_ (bigN_ge (by decide))
  have e : (2 : Nat) ^ 2001 = 2 ^ 2000 + 2 ^ 2000 := by rw [Nat.pow_succ, Nat.mul_two]
  rw [e]
  generalize (2 : Nat) ^ 2000 = P at *
  omega
theorem cross {a b c d q : Int} : a * d - c * b = (a - b * q) * d - (c - d * q) * b := by grind
theorem key_lt {a b c d : Int} (hb : 0 < b) (hd : 0 < d) (h : a / b < c / d) : a * d < c * b := by
  have h1 : a < b * (a / b) + b := Int.lt_mul_ediv_self_add hb
  have h2 : d * (c / d) ≤ c := Int.mul_ediv_self_le (by omega)
  have h3 : a * d < (b * (a / b) + b) * d := Int.mul_lt_mul_of_pos_right h1 hd
  have h4 : b * (d * (c / d)) ≤ b * c := Int.mul_le_mul_of_nonneg_left h2 (by omega)
  have h5 : (b * d) * (a / b + 1) ≤ (b * d) * (c / d) := Int.mul_le_mul_of_nonneg_left (by omega) (Int.mul_nonneg (by omega) (by omega))
  have e1 : (b * (a / b) + b) * d = (b * d) * (a / b + 1) := by grind
  have e2 : b * (d * (c / d)) = (b * d) * (c / d) := by grind
  have e3 : b * c = c * b := Int.mul_comm ..
  omega
def muB : DE → Nat
  | some (.dat (.tuple [_, .int b])) :: some (.dat (.tuple [_, .int d])) :: _ => b.natAbs + d.natAbs
  | _ => 0
theorem below_w {a b c d : Int} (hb : 1 ≤ b) (hd : 1 ≤ d) (sb : b.natAbs < 2 ^ 1000) (sd : d.natAbs < 2 ^ 1000) (q : Q (.bool (decide (a * d < c * b))) F) : wp (f__law_below [.dat (.tuple [.int a, .int b]), .dat (.tuple [.int c, .int d])] F) Q := by
  unfold f__law_below
  walk_at "st"; walk_at "st"
  refine wh_w2 (fun E F' => F' = F ∧ ∃ (a b c d : Int) (o2 o3 : Option DV), E = [some (.dat (.tuple [.int a, .int b])), some (.dat (.tuple [.int c, .int d])), o2, o3] ∧ 1 ≤ b ∧ 1 ≤ d ∧ b.natAbs < 2 ^ 1000 ∧ d.natAbs < 2 ^ 1000 ∧ Q (.bool (decide (a * d < c * b))) F) muB ⟨rfl, a, b, c, d, none, none, rfl, hb, hd, sb, sd, q⟩ ?_
  clear hb hd sb sd q
  rintro E F1 ⟨rfl, a, b, c, d, o2, o3, rfl, hb, hd, sb, sd, q⟩
  walk_at "go"
  refine oB_e (div_b (by omega) (p1k sb)) ?_
  walk_at "go"
  refine oB_e (div_b (by omega) (p1k sd)) ?_
  refine oB_e eq_i ?_
  refine oB_e rfl (cIf_2 (fun e => ?_) (fun e => ?_))
  · have e := of_decide_eq_true e
    refine r_mSq.mpr (par_w ?_)
    walk_at "go"
    refine oB_e (mod_b (by omega)) ?_
    walk_at "go"
    refine oB_e (mod_b (by omega)) ?_
    walk_at "go"
    refine ⟨_, _, rfl, lt_len rfl, lt_len rfl, sq_nx ?_⟩
    have r0 := Int.emod_nonneg a (b := b) (by omega)
    have r1 := Int.emod_lt_of_pos a (b := b) (by omega)
    have m0 := Int.emod_nonneg c (b := d) (by omega)
    have m1 := Int.emod_lt_of_pos c (b := d) (by omega)
    have ec : a * d - c * b = (a % b) * d - (c % d) * b := by
      rw [Int.emod_def, Int.emod_def, ← e]; exact cross
    have et : decide (a * d < c * b) = decide ((a % b) * d < (c % d) * b) := by
      have : (a * d < c * b) ↔ ((a % b) * d < (c % d) * b) := by omega
      simp only [this]
    rw [et] at q
    generalize a % b = r at *
    generalize c % d = m at *
    have ret : (r = 0 ∨ m = 0) → wp (mRt (sAnd (s2 (eqD false) (sW 2) (sC (.int 0))) (s2 gtD (sW 3) (sC (.int 0)))) [some (.dat (.tuple [.int a, .int b])), some (.dat (.tuple [.int c, .int d])), some (.dat (.int r)), some (.dat (.int m))] F1) (sqK (mPar 0 1 (sCons (sTup (sCons (s2 ixD (sW 1) (sC (.int 1))) (sCons (sV 3) sNil))) (sCons (sTup (sCons (s2 ixD (sW 0) (sC (.int 1))) (sCons (sV 2) sNil))) sNil))) fun o F2 => (∃ E2, o = .nx E2 ∧ (F2 = F1 ∧ ∃ (a b c d : Int) (o2 o3 : Option DV), E2 = [some (.dat (.tuple [.int a, .int b])), some (.dat (.tuple [.int c, .int d])), o2, o3] ∧ 1 ≤ b ∧ 1 ≤ d ∧ b.natAbs < 2 ^ 1000 ∧ d.natAbs < 2 ^ 1000 ∧ Q (.bool (decide (a * d < c * b))) F1) ∧ muB E2 < muB [some (.dat (.tuple [.int a, .int b])), some (.dat (.tuple [.int c, .int d])), o2, o3]) ∨ ∃ d, o = .rt d ∧ sqK (mRt (s2 ltD (s2 fdivD (s2 ixD (sW 0) (sC (.int 0))) (s2 ixD (sW 0) (sC (.int 1)))) (s2 fdivD (s2 ixD (sW 1) (sC (.int 0))) (s2 ixD (sW 1) (sC (.int 1)))))) (runK Q) (.rt d) F2) := fun h => by
      refine r_mRt.mpr (r_sAnd.mpr (r_s2.mpr (r_sW.mpr (gW_e rfl (r_sC.mpr (oB_e eq_i ?_))))))
      refine oB_e rfl (cIf_2 (fun e1 => ?_) (fun e1 => ?_))
      · have e1 := of_decide_eq_true e1
        walk_at "go"
        refine .inr ⟨_, rfl, sq_rt (run_rt ?_)⟩
        subst e1
        have : (0 * d < m * b) ↔ 0 < m := by
          rw [Int.zero_mul]
          exact ⟨fun z => by
            rcases Int.lt_or_le 0 m with h | h
            · exact h
            · have : m = 0 := by omega
              subst this; rw [Int.zero_mul] at z; omega, fun z => Int.mul_pos z (by omega)⟩
        simp only [this] at q
        exact q
      · have e1 := of_decide_eq_false e1
        refine sq_rt (.inr ⟨_, rfl, sq_rt (run_rt ?_)⟩)
        have hm : m = 0 := by rcases h with h | h; exact absurd h e1; exact h
        subst hm
        have : ¬ (r * d < 0 * b) := by
          rw [Int.zero_mul]
          have := Int.mul_nonneg r0 (show 0 ≤ d by omega)
          omega
        rw [decide_eq_false this] at q
        exact q
    refine r_mSq.mpr (r_mIf.mpr (r_uOr.mpr (r_uB.mpr (r_s2.mpr (r_sW.mpr (gW_e rfl (r_sC.mpr (oB_e eq_i ?_))))))))
    refine oB_e rfl (cIf_2 (fun e1 => ?_) (fun e1 => ?_))
    · exact cIf_te rfl (ret (.inl (of_decide_eq_true e1)))
    · have e1 := of_decide_eq_false e1
      refine r_uB.mpr (r_s2.mpr (r_sW.mpr (gW_e rfl (r_sC.mpr (oB_e eq_i ?_)))))
      refine oB_e rfl (cIf_2 (fun e2 => ?_) (fun e2 => ?_))
      · exact ret (.inr (of_decide_eq_true e2))
      · have e2 := of_decide_eq_false e2
        refine r_mNx.mpr (sq_nx (par_w ?_))
        walk_at "go"
        refine ⟨_, _, rfl, lt_len rfl, lt_len rfl, .inl ⟨_, rfl, ⟨rfl, d, m, b, r, _, _, rfl, by omega, by omega, by omega, by omega, ?_⟩, ?_⟩⟩
        · have : (d * r < b * m) ↔ (r * d < m * b) := by rw [Int.mul_comm d r, Int.mul_comm b m]
          simp only [this]
          exact q
        · show m.natAbs + r.natAbs < b.natAbs + d.natAbs
          omega
  · have e := of_decide_eq_false e
    refine sq_nx ?_
    walk_at "go"
    refine oB_e (div_b (by omega) (p1k sb)) ?_
    walk_at "go"
    refine oB_e (div_b (by omega) (p1k sd)) ?_
    walk_at "go"
    have : (a / b < c / d) ↔ (a * d < c * b) := by
      constructor
      · exact key_lt (by omega) (by omega)
      · intro h
        rcases Int.lt_or_le (a / b) (c / d) with h1 | h1
        · exact h1
        · have := key_lt (a := c) (b := d) (c := a) (d := b) (by omega) (by omega) (by omega)
          omega
    simp only [this]
    exact q
end
theorem bl_rep {b : Bool} : reprOk (.bool b) = true := (gd_bool (n := 0)).repr (by decide) (by decide) (by decide)
theorem str_eq {x : Str} : eqD false (.str x) (.str x) = some (.bool true) := by
  show some (PyData.bool (if false = true then !decide (x = x) else decide (x = x))) = _
  simp
section
variable {F : FdS} {Q : PyData → FdS → Prop} {a b c d : Int}
theorem plus_w (hb : 1 ≤ b) (hd : 1 ≤ d) (sa : a.natAbs < 2 ^ 1000) (sb : b.natAbs < 2 ^ 1000) (sc : c.natAbs < 2 ^ 1000) (sd : d.natAbs < 2 ^ 1000) (q : ∀ x y, Low (a * d + c * b) (b * d) x y → Q (.tuple [.int x, .int y]) F) : wp (f_plus [.dat (.tuple [.int a, .int b]), .dat (.tuple [.int c, .int d])] F) Q := by
  unfold f_plus
  rw [frac_is]
  walk_at "go"
  refine oB_e (mul_b (kB1 sa) (kB1 sd)) ?_
  walk_at "go"
  refine oB_e (mul_b (kB1 sc) (kB1 sb)) ?_
  walk_at "go"
  refine oB_e (mul_b (kB1 sb) (kB1 sd)) ?_
  walk_at "go"
  exact fraction_w (by have := Int.mul_pos (show 0 < b by omega) (show 0 < d by omega); omega) (k9 (mulK sb sd)) q
theorem minus_w (hb : 1 ≤ b) (hd : 1 ≤ d) (sa : a.natAbs < 2 ^ 1000) (sb : b.natAbs < 2 ^ 1000) (sc : c.natAbs < 2 ^ 1000) (sd : d.natAbs < 2 ^ 1000) (q : ∀ x y, Low (a * d - c * b) (b * d) x y → Q (.tuple [.int x, .int y]) F) : wp (f_minus [.dat (.tuple [.int a, .int b]), .dat (.tuple [.int c, .int d])] F) Q := by
  unfold f_minus
  rw [frac_is]
  walk_at "go"
  refine oB_e (mul_b (kB1 sa) (kB1 sd)) ?_
  walk_at "go"
  refine oB_e (mul_b (kB1 sc) (kB1 sb)) ?_
  walk_at "go"
  refine oB_e (mul_b (kB1 sb) (kB1 sd)) ?_
  walk_at "go"
  exact fraction_w (by have := Int.mul_pos (show 0 < b by omega) (show 0 < d by omega); omega) (k9 (mulK sb sd)) q
theorem times_w (hb : 1 ≤ b) (hd : 1 ≤ d) (sa : a.natAbs < 2 ^ 1000) (sb : b.natAbs < 2 ^ 1000) (sc : c.natAbs < 2 ^ 1000) (sd : d.natAbs < 2 ^ 1000) (q : ∀ x y, Low (a * c) (b * d) x y → Q (.tuple [.int x, .int y]) F) : wp (f_times [.dat (.tuple [.int a, .int b]), .dat (.tuple [.int c, .int d])] F) Q := by
  unfold f_times
  rw [frac_is]
  walk_at "go"
  refine oB_e (mul_b (kB1 sa) (kB1 sc)) ?_
  walk_at "go"
  refine oB_e (mul_b (kB1 sb) (kB1 sd)) ?_
  walk_at "go"
  exact fraction_w (by have := Int.mul_pos (show 0 < b by omega) (show 0 < d by omega); omega) (k9 (mulK sb sd)) q
theorem over_w (hb : 1 ≤ b) (hc : c ≠ 0) (sa : a.natAbs < 2 ^ 1000) (sb : b.natAbs < 2 ^ 1000) (sc : c.natAbs < 2 ^ 1000) (sd : d.natAbs < 2 ^ 1000) (q : ∀ x y, Low (a * d) (b * c) x y → Q (.tuple [.int x, .int y]) F) : wp (f_over [.dat (.tuple [.int a, .int b]), .dat (.tuple [.int c, .int d])] F) Q := by
  unfold f_over
  rw [frac_is]
  walk_at "go"
  refine oB_e (mul_b (kB1 sa) (kB1 sd)) ?_
  walk_at "go"
  refine oB_e (mul_b (kB1 sb) (kB1 sc)) ?_
  walk_at "go"
  exact fraction_w (Int.mul_ne_zero (by omega) hc) (k9 (mulK sb sc)) q
theorem less_w (sa : a.natAbs < 2 ^ 1000) (sb : b.natAbs < 2 ^ 1000) (sc : c.natAbs < 2 ^ 1000) (sd : d.natAbs < 2 ^ 1000) (q : Q (.bool (decide (a * d < c * b))) F) : wp (f_less [.dat (.tuple [.int a, .int b]), .dat (.tuple [.int c, .int d])] F) Q := by
  unfold f_less
  walk_at "go"
  refine oB_e (mul_b (kB1 sa) (kB1 sd)) ?_
  walk_at "go"
  refine oB_e (mul_b (kB1 sc) (kB1 sb)) ?_
  walk_at "go"
  exact q
theorem two_w {x y : PyData} (hx : Pf x) (hy : Pf y) (q : Q (.bool true) F) : wp (f__law_two_right [.dat x, .dat y] F) Q := by
  obtain ⟨a, b, rfl, hb, sa, sb⟩ := hx
  obtain ⟨c, d, rfl, hd, sc, sd⟩ := hy
  unfold f__law_two_right
  walk_at "go"
  refine plus_w hb hd sa sb sc sd fun t u hl => ?_
  walk_at "go"
  refine oB_e (mul_b (kB1 sa) (kB1 sd)) ?_
  walk_at "go"
  refine oB_e (mul_b (kB1 sc) (kB1 sb)) ?_
  walk_at "go"
  refine oB_e (mul_b (kB1 sb) (kB1 sd)) ?_
  walk_at "go"
  refine much_w hl (addK (mulK sa sd) (mulK sc sb)) (kB (mulK sb sd)) ?_
  refine oB_e rfl (cIf_fe rfl (r_mNx.mpr (sq_nx ?_)))
  walk_at "go"
  refine minus_w hb hd sa sb sc sd fun t u hl => ?_
  walk_at "go"
  refine oB_e (mul_b (kB1 sa) (kB1 sd)) ?_
  walk_at "go"
  refine oB_e (mul_b (kB1 sc) (kB1 sb)) ?_
  walk_at "go"
  refine oB_e (mul_b (kB1 sb) (kB1 sd)) ?_
  walk_at "go"
  refine much_w hl (by rw [Int.sub_eq_add_neg]; exact addK (mulK sa sd) (by rw [Int.natAbs_neg]; exact mulK sc sb)) (kB (mulK sb sd)) ?_
  refine oB_e rfl (cIf_fe rfl (r_mNx.mpr (sq_nx ?_)))
  walk_at "go"
  refine times_w hb hd sa sb sc sd fun t u hl => ?_
  walk_at "go"
  refine oB_e (mul_b (kB1 sa) (kB1 sc)) ?_
  walk_at "go"
  refine oB_e (mul_b (kB1 sb) (kB1 sd)) ?_
  walk_at "go"
  refine much_w hl (kB (mulK sa sc)) (kB (mulK sb sd)) ?_
  refine oB_e rfl (cIf_fe rfl (r_mNx.mpr (sq_nx ?_)))
  have last : wp (mRt (s2 (eqD false) (sN reprD (sCons (sCall f_less (vD (sV 0) (vD (sV 1) vNil))) sNil)) (sN reprD (sCons (sCall f__law_below (vD (sV 0) (vD (sV 1) vNil))) sNil))) [some (.dat (.tuple [.int a, .int b])), some (.dat (.tuple [.int c, .int d])), some (.dat (.int a)), some (.dat (.int b)), some (.dat (.int c)), some (.dat (.int d))] F) (runK Q) := by
    walk_at "go"
    refine less_w sa sb sc sd ?_
    walk_at "go"
    refine oB_e (rep_e bl_rep) ?_
    walk_at "go"
    refine below_w hb hd sb sd ?_
    walk_at "go"
    refine oB_e (rep_e bl_rep) ?_
    exact oB_e str_eq (run_rt q)
  refine r_mSq.mpr (r_mIf.mpr (r_uAnd.mpr (r_uB.mpr (r_s2.mpr (r_sW.mpr (gW_e rfl (r_sC.mpr (oB_e ne_i ?_))))))))
  refine oB_e rfl (cIf_2 (fun e => ?_) (fun e => ?_))
  · have hc : c ≠ 0 := by simpa using e
    walk_at "go"
    refine over_w hb hc sa sb sc sd fun t u hl => ?_
    walk_at "go"
    refine oB_e (mul_b (kB1 sa) (kB1 sd)) ?_
    walk_at "go"
    refine oB_e (mul_b (kB1 sb) (kB1 sc)) ?_
    walk_at "go"
    refine much_w hl (kB (mulK sa sd)) (kB (mulK sb sc)) ?_
    refine oB_e rfl (cIf_fe rfl (r_mNx.mpr (sq_nx ?_)))
    exact last
  · refine cIf_fe rfl (r_mNx.mpr (sq_nx ?_))
    exact last
end
theorem d36 : (10 : Int) ^ 198 = ((10 ^ 198 : Nat) : Int) := by norm_cast
theorem p700 {v : Nat} (h : v ≤ 10 ^ 198) : v < 2 ^ 700 := Nat.lt_of_le_of_lt h (by decide +kernel)
theorem size_tr : Tr f__law_size [.feed] 40 (fun d => ∃ v : Int, d = .int v ∧ 0 ≤ v ∧ v < 10 ^ 198) := Tr.of fun F hF => by
  unfold f__law_size
  rw [wide_is]
  walk_at "go"
  refine wp_draw (by decide) (by decide) (by omega) fun r F1 r0 r1 t1 => ?_
  walk_at "go"
  refine cIf_2 (fun _ => ?_) (fun _ => ?_)
  · walk_at "go"
    refine wp_draw (by decide) (by decide) (by omega) fun r2 F2 r20 r21 t2 => ?_
    walk_at "go"
    have : (100 : Int) ≤ 10 ^ 198 := by decide +kernel
    exact ⟨by omega, r2, rfl, r20, by omega⟩
  · walk_at "go"
    refine wp_draw (by decide) (by decide) (by omega) fun r2 F2 r20 r21 t2 => ?_
    walk_at "go"
    refine (wide_tr (p := 1 + r2) (by omega) (by omega)).wp (by omega) fun d F3 t3 hd => ?_
    walk_at "go"
    exact ⟨by omega, hd⟩
theorem top_tr : Tr f__law_top [.feed] 41 (fun d => ∃ v : Int, d = .int v ∧ v.natAbs ≤ 10 ^ 198) := Tr.of fun F hF => by
  unfold f__law_top
  walk_at "go"
  refine size_tr.wp (by omega) fun d F' h1 hd => ?_
  obtain ⟨v, rfl, v0, v1⟩ := hd
  walk_at "go"
  refine wp_draw (by decide) (by decide) (by omega) fun r F1 r0 r1 t1 => ?_
  have hv : v.natAbs ≤ 10 ^ 198 := by rw [d36] at v1; omega
  have hr : r = 0 ∨ r = 1 := by omega
  rcases hr with rfl | rfl
  · refine oB_e (show ixD (.list [.int 1, .int (-1)]) (.int 0) = some (.int 1) from rfl) ?_
    refine oB_e (mul_i (.inr ⟨by decide, by decide⟩)) ?_
    walk_at "go"
    exact ⟨by omega, _, rfl, by rw [Int.mul_one]; exact hv⟩
  · refine oB_e (show ixD (.list [.int 1, .int (-1)]) (.int 1) = some (.int (-1)) from rfl) ?_
    refine oB_e (mul_i (.inr ⟨by decide, by decide⟩)) ?_
    walk_at "go"
    exact ⟨by omega, _, rfl, by rw [Int.mul_neg, Int.mul_one, Int.natAbs_neg]; exact hv⟩
theorem low_w {t b : Int} {F : FdS} {Q : PyData → FdS → Prop} (hb : 1 ≤ b) (st : t.natAbs < 2 ^ 800) (sb : b.natAbs < 2 ^ 800) (q : ∀ d, (∃ x y : Int, d = .tuple [.int x, .int y] ∧ 1 ≤ y ∧ x.natAbs ≤ t.natAbs ∧ y.natAbs ≤ b.natAbs) → Q d F) : wp (f__law_low [.dat (.int t), .dat (.int b)] F) Q := by
  unfold f__law_low
  rw [com_is]
  walk_at "go"
  have hab : (if t < 0 then -t else t) = (t.natAbs : Int) := by split <;> omega
  rw [hab]
  have eb : b = ((b.natAbs : Nat) : Int) := by omega
  have hg : 0 < Nat.gcd t.natAbs b.natAbs := Nat.gcd_pos_of_pos_right _ (by omega)
  have hl : Nat.gcd t.natAbs b.natAbs ≤ b.natAbs := Nat.gcd_le_right _ (by omega)
  have key : wp (c_common [.dat (.int (t.natAbs : Nat)), .dat (.int (b.natAbs : Nat))] F) fun x F1 => 2 < (List.map some [DV.dat (PyData.int t), DV.dat (PyData.int b)] ++ [none]).length ∧ sqK (mRt (sTup (sCons (s2 fdivD (sW 0) (sW 2)) (sCons (s2 fdivD (sW 1) (sW 2)) sNil)))) (runK Q) (.nx ((List.map some [DV.dat (PyData.int t), DV.dat (PyData.int b)] ++ [none]).set 2 (some (.dat x)))) F1 := by
    refine com_w (Nat.lt_of_lt_of_le st (bigN_ge (by decide))) ⟨lt_len rfl, sq_nx ?_⟩
    have hd : ((Nat.gcd t.natAbs b.natAbs : Nat) : Int).natAbs < 2 ^ 9000 := Nat.lt_of_le_of_lt hl (Nat.lt_of_lt_of_le sb (Nat.pow_le_pow_right (by decide) (by decide)))
    walk_at "go"
    refine oB_e (div_b (by omega) hd) ?_
    walk_at "go"
    refine oB_e (div_b (by omega) hd) ?_
    walk_at "go"
    refine q _ ⟨_, _, rfl, ?_, Int.natAbs_ediv_le_natAbs .., Int.natAbs_ediv_le_natAbs ..⟩
    have h1 : 0 < b / ((Nat.gcd t.natAbs b.natAbs : Nat) : Int) := Int.ediv_pos_of_pos_of_dvd (by omega) (by omega) (Int.ofNat_dvd_left.mpr (Nat.gcd_dvd_right ..))
    omega
  rw [← eb] at key
  exact key
def Pl (d : PyData) : Prop := ∃ a b : Int, d = .tuple [.int a, .int b] ∧ 1 ≤ b ∧ a.natAbs ≤ 10 ^ 198 + 1 ∧ b.natAbs ≤ 10 ^ 198 + 1
theorem p701 {v : Nat} (h : v ≤ 10 ^ 198 + 1) : v < 2 ^ 800 := Nat.lt_of_le_of_lt h (by decide +kernel)
theorem Pl.pf {d : PyData} (h : Pl d) : Pf d := by
  obtain ⟨a, b, rfl, hb, sa, sb⟩ := h
  exact ⟨a, b, rfl, hb, Nat.lt_of_lt_of_le (p701 sa) (Nat.pow_le_pow_right (by decide) (by decide)), Nat.lt_of_lt_of_le (p701 sb) (Nat.pow_le_pow_right (by decide) (by decide))⟩
theorem lowP {t b : Int} {F : FdS} {Q : PyData → FdS → Prop} (hb : 1 ≤ b) (st : t.natAbs ≤ 10 ^ 198 + 1) (sb : b.natAbs ≤ 10 ^ 198 + 1) (q : ∀ d, Pl d → Q d F) : wp (f__law_low [.dat (.int t), .dat (.int b)] F) Q := by
  refine low_w hb (p701 st) (p701 sb) fun d hd => q d ?_
  obtain ⟨x, y, rfl, hy, hx1, hy1⟩ := hd
  exact ⟨x, y, rfl, hy, Nat.le_trans hx1 st, Nat.le_trans hy1 sb⟩
theorem other_tr {d : PyData} (h : ∃ a b : Int, d = .tuple [.int a, .int b] ∧ 1 ≤ b ∧ a.natAbs ≤ 10 ^ 198 ∧ b.natAbs ≤ 10 ^ 198) : Tr f__law_other [.feed, .dat d] 90 Pl := Tr.of fun F hF => by
  obtain ⟨a, b, rfl, hb, sa, sb⟩ := h
  unfold f__law_other
  walk_at "go"
  refine wp_draw (by decide) (by decide) (by omega) fun r F1 r0 r1 t1 => ?_
  walk_at "go"
  refine cIf_2 (fun _ => ?_) (fun _ => ?_)
  · walk_at "go"
    exact ⟨by omega, a, b, rfl, hb, by omega, by omega⟩
  · walk_at "go"
    refine cIf_2 (fun _ => ?_) (fun _ => ?_)
    · walk_at "go"
      refine wp_draw (by decide) (by decide) (by omega) fun r F2 r0 r1 t2 => ?_
      have hr : r = 0 ∨ r = 1 := by omega
      rcases hr with rfl | rfl
      · refine oB_e (show ixD (.list [.int 1, .int (-1)]) (.int 0) = some (.int 1) from rfl) ?_
        walk_at "go"
        refine lowP hb (by omega) (by omega) fun d hd => ?_
        walk_at "go"
        exact ⟨by omega, hd⟩
      · refine oB_e (show ixD (.list [.int 1, .int (-1)]) (.int 1) = some (.int (-1)) from rfl) ?_
        walk_at "go"
        refine lowP hb (by omega) (by omega) fun d hd => ?_
        walk_at "go"
        exact ⟨by omega, hd⟩
    · walk_at "go"
      refine cIf_2 (fun _ => ?_) (fun _ => ?_)
      · walk_at "go"
        refine top_tr.wp (by omega) fun v F2 t2 hv => ?_
        obtain ⟨v, rfl, sv⟩ := hv
        walk_at "go"
        refine lowP hb (by omega) (by omega) fun d hd => ?_
        walk_at "go"
        exact ⟨by omega, hd⟩
      · walk_at "go"
        refine top_tr.wp (by omega) fun v F2 t2 hv => ?_
        obtain ⟨v, rfl, sv⟩ := hv
        walk_at "go"
        refine size_tr.wp (by omega) fun u F3 t3 hu => ?_
        obtain ⟨u, rfl, u0, u1⟩ := hu
        rw [d36] at u1
        walk_at "go"
        refine lowP (by omega) (by omega) (by omega) fun d hd => ?_
        walk_at "go"
        exact ⟨by omega, hd⟩
theorem long_w {F : FdS} {Q : PyData → FdS → Prop} (q : ∀ xs : List PyData, xs.length = 2 → (∀ x ∈ xs, ∃ y z, x = .tuple [y, z] ∧ Pf y ∧ Pf z) → Q (.list xs) F) : wp (f__law_long [] F) Q := by
  unfold f__law_long
  walk_at "go"
  refine for_inv (fun i E F' => F' = F ∧ ∃ (a b c d : Nat) (o : Option DV), E = [some (.dat (.tuple [.int (a : Nat), .int (b : Nat)])), some (.dat (.tuple [.int (c : Nat), .int (d : Nat)])), o] ∧ a ≤ 2 ^ (i + 2) ∧ b ≤ 2 ^ (i + 2) ∧ c ≤ 2 ^ (i + 2) ∧ d ≤ 2 ^ (i + 2) ∧ 1 ≤ a ∧ 1 ≤ b ∧ 1 ≤ c ∧ 1 ≤ d) _ 0 _ F ⟨rfl, 1, 1, 1, 3, none, rfl, by decide, by decide, by decide, by decide, by decide, by decide, by decide, by decide⟩ ?_ ?_
  · rintro i e0 e E F1 ⟨rfl, a, b, c, d, o, rfl, h1, h2, h3, h4, p1, p2, p3, p4⟩
    refine ⟨_, rfl, ?_⟩
    refine par_w ?_
    walk_at "go"
    have e2 : 2 ^ (0 + i + 1 + 2) = 2 ^ (0 + i + 2) + 2 ^ (0 + i + 2) := by rw [show 0 + i + 1 + 2 = (0 + i + 2) + 1 by omega, Nat.pow_succ]; omega
    rw [e2]
    have ec : (a : Int) + (b : Int) = ((a + b : Nat) : Int) := by push_cast; rfl
    have ed : (c : Int) + (d : Int) = ((c + d : Nat) : Int) := by push_cast; rfl
    rw [ec, ed]
    exact ⟨_, _, rfl, lt_len rfl, lt_len rfl, _, rfl, rfl, b, a + b, d, c + d, _, rfl, by omega, by omega, by omega, by omega, by omega, by omega, by omega, by omega⟩
  · rintro E F1 ⟨rfl, a, b, c, d, o, rfl, h1, h2, h3, h4, p1, p2, p3, p4⟩
    rw [rng_len] at h1 h2 h3 h4
    have big : ∀ z : Nat, z ≤ 2 ^ (0 + (940 : Int).toNat + 2) → (z : Int).natAbs < 2 ^ 1000 := fun z hz => Nat.lt_of_le_of_lt hz (Nat.pow_lt_pow_right (by decide) (by decide))
    have f1 : Pf (.tuple [.int (a : Nat), .int (b : Nat)]) := ⟨_, _, rfl, by omega, big a h1, big b h2⟩
    have f2 : Pf (.tuple [.int (c : Nat), .int (d : Nat)]) := ⟨_, _, rfl, by omega, big c h3, big d h4⟩
    walk_at "go"
    refine q _ rfl fun x hx => ?_
    simp only [List.mem_cons, List.not_mem_nil, or_false] at hx
    rcases hx with rfl | rfl
    · exact ⟨_, _, rfl, f1, f2⟩
    · exact ⟨_, _, rfl, f2, f1⟩
def pr (p : Int × Int) : PyData := .tuple [.int p.1, .int p.2]
theorem lc_map2 {me : DE → M PyData} {f : Int × Int → PyData} {rest : DE} {Q : List PyData → FdS → Prop} : ∀ (ps : List (Int × Int)) (o o' : Option DV) (F : FdS), (∀ p ∈ ps, ∀ (F : FdS) (Q : PyData → FdS → Prop), Q (f p) F → wp (me (some (.dat (.int p.1)) :: some (.dat (.int p.2)) :: rest) F) Q) → Q (ps.map f) F → wp (lcGo (bTup 2 (bCons (bN 0) (bCons (bN 1) bNil))) uYes me (ps.map pr) (o :: o' :: rest) F) Q
  | [], o, o', F, _, q => wp_some.mpr q
  | p :: ps, o, o', F, h, q => by
    rw [List.map_cons, lcGo]
    have e : bTup 2 (bCons (bN 0) (bCons (bN 1) bNil)) (pr p) (o :: o' :: rest) = some (some (.dat (.int p.1)) :: some (.dat (.int p.2)) :: rest) := rfl
    rw [e, Option.bind_some, wp_bind]
    refine r_uYes.mpr ?_
    rw [if_pos rfl, wp_bind]
    refine h p List.mem_cons_self F _ ?_
    rw [wp_bind]
    exact lc_map2 ps _ _ F (fun p hp => h p (List.mem_cons_of_mem _ hp)) (wp_some.mpr q)
theorem ints_of : ∀ ns : List Int, intsOf (ns.map .int) = some ns
  | [] => rfl
  | n :: ns => by rw [List.map_cons, intsOf, ints_of ns]; rfl
theorem sum_e {ns : List Int} : sumD [.list (ns.map .int)] = some (.int ns.sum) := by
  simp only [sumD, ints_of, Option.map_some]
def P2 (p : Int × Int) : Prop := p.1.natAbs ≤ 10 ^ 198 ∧ 0 ≤ p.2 ∧ p.2 ≤ 10 ^ 198
def wSum (ps : List (Int × Int)) : Int := (ps.map fun p => p.1 * p.2).sum
def lSum (ps : List (Int × Int)) : Int := (ps.map fun p => p.2).sum
theorem P2.b {p : Int × Int} (h : P2 p) : p.1.natAbs < bigN ∧ p.2.natAbs < bigN := by
  obtain ⟨h1, h2, h3⟩ := h
  rw [d36] at h3
  exact ⟨Nat.lt_of_lt_of_le (p700 h1) (bigN_ge (by decide)), Nat.lt_of_lt_of_le (p700 (by omega)) (bigN_ge (by decide))⟩
theorem sums {ps : List (Int × Int)} (h : ∀ p ∈ ps, P2 p) : (wSum ps).natAbs ≤ ps.length * 10 ^ 396 ∧ 0 ≤ lSum ps ∧ lSum ps ≤ ps.length * 10 ^ 198 := by
  induction ps with
  | nil => simp [wSum, lSum]
  | cons p ps ih =>
    obtain ⟨i1, i2, i3⟩ := ih fun p hp => h p (List.mem_cons_of_mem _ hp)
    obtain ⟨h1, h2, h3⟩ := h p List.mem_cons_self
    simp only [wSum, lSum, List.map_cons, List.sum_cons, List.length_cons] at *
    have h3' := h3
    rw [d36] at h3'
    have hm : (p.1 * p.2).natAbs ≤ 10 ^ 396 := by
      rw [Int.natAbs_mul, show (396 : Nat) = 198 + 198 from rfl, Nat.pow_add]
      exact Nat.mul_le_mul h1 (by omega)
    refine ⟨?_, by omega, ?_⟩
    · rw [Nat.add_mul, Nat.one_mul]
      generalize (10 : Nat) ^ 396 = A at *
      generalize ps.length * A = B at *
      omega
    · have ec : ((ps.length + 1 : Nat) : Int) = (ps.length : Int) + 1 := by omega
      rw [ec, Int.add_mul, Int.one_mul]
      generalize (10 : Int) ^ 198 = A at *
      generalize (ps.length : Int) * A = B at *
      omega
theorem mean_w {ps : List (Int × Int)} {d : PyData} {F : FdS} {Q : PyData → FdS → Prop} (hd : d = .list (ps.map pr) ∨ d = .tuple (ps.map pr)) (hl : ps.length ≤ 20) (h : ∀ p ∈ ps, P2 p) (hp : 1 ≤ lSum ps) (q : ∀ t b, Low (wSum ps) (lSum ps) t b → Q (.tuple [.int t, .int b]) F) : wp (f_mean_of [.dat d] F) Q := by
  have hs := sums h
  have hlb : (lSum ps).natAbs < 2 ^ 9000 := by
    have h3 := hs.2.2
    rw [d36] at h3
    have : (lSum ps).natAbs ≤ 20 * 10 ^ 198 := by
      have : (ps.length : Int) * ((10 ^ 198 : Nat) : Int) ≤ 20 * ((10 ^ 198 : Nat) : Int) := Int.mul_le_mul_of_nonneg_right (by omega) (by omega)
      omega
    exact Nat.lt_of_le_of_lt this (by decide +kernel)
  have e1 : (ps.map fun p => PyData.int (p.1 * p.2)) = (ps.map fun p => p.1 * p.2).map .int := by rw [List.map_map]; rfl
  have e2 : (ps.map fun p => PyData.int p.2) = (ps.map fun p => p.2).map .int := by rw [List.map_map]; rfl
  unfold f_mean_of
  rw [frac_is]
  have go : ∀ {d : PyData}, seqOf d = some (ps.map pr) → wp (mSq (mSet 1 (sN sumD (sCons (sLC (mSeq (sW 0)) 2 [] (bTup 2 (bCons (bN 0) (bCons (bN 1) bNil))) uYes (s2 mulD' (sW 0) (sW 1))) sNil)))
    (mRt (sCall c_fraction (vD (sV 1) (vD (sN sumD (sCons (sLC (mSeq (sW 0)) 2 [] (bTup 2 (bCons (bN 0) (bCons (bN 1) bNil))) uYes (sV 1)) sNil)) vNil)))) [some (.dat d), none] F) (runK Q) := fun {d} ed => by
    walk_at "go"
    refine oB_e ed ⟨sz (by rw [List.length_map]; omega), ?_⟩
    refine lc_map2 (f := fun p => .int (p.1 * p.2)) ps none none F (fun p hp F Q q => ?_) ?_
    · walk_at "go"
      refine oB_e (mul_b (h p hp).b.1 (h p hp).b.2) q
    · rw [e1]
      refine r_sNil.mpr (oB_e sum_e ?_)
      walk_at "go"
      refine oB_e ed ⟨sz (by rw [List.length_map]; omega), ?_⟩
      refine lc_map2 (f := fun p => .int p.2) ps none none F (fun p hp F Q q => ?_) ?_
      · walk_at "go"
        exact q
      · rw [e2]
        refine r_sNil.mpr (oB_e sum_e ?_)
        walk_at "go"
        exact fraction_w (by have : (1 : Int) ≤ lSum ps := hp; intro z; have z : lSum ps = 0 := z; omega) hlb q
  rcases hd with rfl | rfl
  · exact r_run.mpr (go rfl)
  · exact r_run.mpr (go rfl)
theorem zero_sum {t b : Int} : ∀ ps : List (Int × Int), (ps.map fun p => p.2 * (p.1 * b - t)).sum = wSum ps * b - t * lSum ps
  | [] => by simp [wSum, lSum]
  | p :: ps => by
    have ih := zero_sum (t := t) (b := b) ps
    simp only [wSum, lSum, List.map_cons, List.sum_cons] at *
    rw [ih]
    grind
theorem to_ps : ∀ {zs : List PyData}, (∀ z ∈ zs, ∃ p, z = pr p ∧ P2 p) → ∃ ps : List (Int × Int), zs = ps.map pr ∧ ∀ p ∈ ps, P2 p
  | [], _ => ⟨[], rfl, fun _ h => by cases h⟩
  | z :: zs, h => by
    obtain ⟨p, rfl, hp⟩ := h z List.mem_cons_self
    obtain ⟨ps, rfl, hps⟩ := to_ps fun z hz => h z (List.mem_cons_of_mem _ hz)
    exact ⟨p :: ps, rfl, fun x hx => by
      rcases List.mem_cons.mp hx with rfl | hx
      · exact hp
      · exact hps x hx⟩
theorem lSum_ge {p : Int × Int} : ∀ {ps : List (Int × Int)}, p ∈ ps → (∀ p ∈ ps, P2 p) → p.2 ≤ lSum ps
  | [], h, _ => by cases h
  | x :: ps, h, hP => by
    have h0 := (sums (ps := ps) fun p hp => hP p (List.mem_cons_of_mem _ hp)).2.1
    have hx := (hP x List.mem_cons_self).2.1
    have e : lSum (x :: ps) = x.2 + lSum ps := by simp [lSum]
    rw [e]
    rcases List.mem_cons.mp h with rfl | h
    · omega
    · have := lSum_ge h fun p hp => hP p (List.mem_cons_of_mem _ hp)
      omega
theorem pr_gd {p : Int × Int} (h : P2 p) : Gd 0 3 1 (pr p) := by
  obtain ⟨h1, h2, h3⟩ := h
  rw [d36] at h3
  have s : ∀ v : Int, v.natAbs ≤ 10 ^ 198 → Gd 0 1 0 (.int v) := fun v hv => by
    refine gd_int ?_
    have : (10 : Nat) ^ 198 < 10 ^ 300 := by decide +kernel
    omega
  refine Gd.tup (M := 1) (fun d hd => ?_) (by simp [cntL, cnt])
  simp only [List.mem_cons, List.not_mem_nil, or_false] at hd
  rcases hd with rfl | rfl
  · exact s _ h1
  · exact s _ (by omega)
theorem ps_gd {ps : List (Int × Int)} (h : ∀ p ∈ ps, P2 p) (hl : ps.length ≤ 20) : Gd 0 100 2 (.list (ps.map pr)) := by
  refine Gd.lst (M := 3) (fun d hd => ?_) ?_
  · obtain ⟨p, hp, rfl⟩ := List.mem_map.mp hd
    exact pr_gd (h p hp)
  · have := cntL_mul (c := 3) (ds := ps.map pr) fun d hd => by
      obtain ⟨p, hp, rfl⟩ := List.mem_map.mp hd
      exact (pr_gd (h p hp)).ct
    rw [List.length_map] at this
    omega
theorem ne_self {ds : List PyData} {N k : Nat} (h : Gd 0 N k (.list ds)) (hk : k ≤ 50) : eqD true (.list ds) (.list ds) = some (.bool false) := by
  have hs := h.shaped (by decide) hk
  show (if SeqAt.shaped (.list ds) = true ∧ SeqAt.shaped (.list ds) = true then _ else none) = _
  rw [if_pos (show SeqAt.shaped (.list ds) = true ∧ SeqAt.shaped (.list ds) = true from ⟨hs, hs⟩), if_pos rfl]
  refine congrArg (fun b => some (PyData.bool b)) ?_
  have := PySem.SeqAt.eqv_refl (.list ds) (h.nod (by decide)).cl
  rw [this]; rfl
theorem ins_w {i : Nat} {k v : DE → M PyData} {E : DE} {F : FdS} {ds : List PyData} {Q : Out → FdS → Prop} (he : ownOf E i = some ds) (hl : ds.length ≤ 1000) (q : wp (k E F) fun x F1 => wp (v E F1) fun y F2 => ∃ n : Int, x = .int n ∧ 0 ≤ n ∧ n ≤ ds.length ∧ Q (.nx (E.set i (some (.own (ds.take n.toNat ++ [y] ++ ds.drop n.toNat))))) F2) : wp (mIns i k v E F) Q := by
  unfold mIns; rw [wp_bind]
  refine wp_mono q fun x F1 h => ?_
  rw [wp_bind]
  refine wp_mono h fun y F2 h => ?_
  obtain ⟨n, rfl, n0, n1, q⟩ := h
  dsimp only [intOf]
  rw [Option.bind_some, he, Option.bind_some, if_pos ⟨n0, n1, Nat.lt_of_le_of_lt hl (by rw [sizeLine_eq]; decide)⟩]
  exact wp_some.mpr q
theorem meanR_tr : Tr f__law_mean_right [.feed] 700 (fun d => d = .bool true) := Tr.of fun F hF => by
  unfold f__law_mean_right
  refine r_run.mpr (r_mSq.mpr (r_mOwn.mpr (flc_w ?_)))
  walk_at "go"
  refine wp_draw (by decide) (by decide) (by omega) fun m F1 m0 m1 t1 => ?_
  walk_at "go"
  refine oB_e (show rngOf1 [.int (1 + m)] = some (rngL 0 (1 + m).toNat) from if_pos ⟨by omega, by omega⟩) ?_
  refine ⟨by rw [rng_len]; exact sz (by omega), ?_⟩
  refine lc_tr (P := fun _ z => ∃ p, z = pr p ∧ P2 p) (c := 42) _ none (by decide) (fun d hd F hF => ?_) (by rw [rng_len]; omega) fun zs F2 h1 h2 h3 => ?_
  · walk_at "go"
    refine top_tr.wp (by omega) fun v F2 t2 hv => ?_
    obtain ⟨v, rfl, sv⟩ := hv
    walk_at "go"
    refine wp_draw (by decide) (by decide) (by omega) fun l F3 l0 l1 t3 => ?_
    walk_at "go"
    have : (13 : Int) ≤ 10 ^ 198 := by decide +kernel
    exact ⟨by omega, (v, l), rfl, sv, l0, show l ≤ 10 ^ 198 by omega⟩
  · rw [rng_len] at h1 h3
    obtain ⟨ps, rfl, hps⟩ := to_ps fun z hz => (h2 z hz).elim fun _ h => h.2
    rw [List.length_map] at h1
    refine ⟨lt_len rfl, sq_nx ?_⟩
    walk_at "go"
    refine wp_draw (by decide) (by decide) (by omega) fun l F3 l0 l1 t3 => ?_
    walk_at "go"
    refine wp_draw (by decide) (by decide) (by omega) fun r F4 r0 r1 t4 => ?_
    walk_at "go"
    have rest : ∀ {l : Int} {F5 : FdS}, 1 ≤ l → l ≤ 10 ^ 198 → F5.t ≤ F.t + 520 → wp (mSq (mIns 1 (sCall drawS (vF 0 (vD (s2 addD (sN lenD (sCons (sW 1) sNil)) (sC (.int 1))) vNil))) (sTup (sCons (sCall f__law_top (vF 0 vNil)) (sCons (sV 2) sNil))))
    (mSq (mOwn 1 (fCat (sW 1) (sCut (sW 1) oNo (oI (sCall drawS (vF 0 (vD (sC (.int 2)) vNil)))))))
    (mSq (mSet 3 (sIf (uB (s2 (eqD false) (sCall drawS (vF 0 (vD (sC (.int 2)) vNil))) (sC (.int 0)))) (sN tupleD (sCons (sW 1) sNil)) (sN listD (sCons (sW 1) sNil))))
    (mSq (mFor (mRng1 (sCons (sC (.int 2)) sNil)) (bN 4) (mSq (mSet 5 (sCall f_mean_of (vD (sV 3) vNil)))
    (mSq (mIf (uOr (uNot (uT (sCall f__law_is_fraction (vD (sV 5) vNil)))) (uB (s2 (eqD true) (sN listD (sCons (sW 3) sNil)) (sW 1)))) (mRt (sC (.bool false))) mNx)
    (mIf (uB (s2 (eqD true) (sN sumD (sCons (sLC (mSeq (sW 1)) 2 [5] (bTup 2 (bCons (bN 0) (bCons (bN 1) bNil))) uYes (s2 mulD' (sW 1) (s2 subD (s2 mulD' (sW 0) (s2 ixD (sW 2) (sC (.int 1)))) (s2 ixD (sW 2) (sC (.int 0)))))) sNil)) (sC (.int 0)))) (mRt (sC (.bool false))) mNx))))
    (mRt (sC (.bool true)))))) [some .feed, some (.own (ps.map pr)), some (.dat (.int l)), none, none, none] F5) (runK fun d F' => F'.t ≤ F.t + 700 ∧ d = .bool true) := fun {l F5} hl1 hl2 t5 => by
      refine r_mSq.mpr (ins_w (ds := ps.map pr) rfl (by rw [List.length_map]; omega) ?_)
      walk_at "go"
      refine wp_draw (by rw [List.length_map]; omega) (by rw [List.length_map]; omega) (by omega) fun n F6 n0 n1 t6 => ?_
      walk_at "go"
      refine top_tr.wp (by omega) fun v F7 t7 hv => ?_
      obtain ⟨v, rfl, sv⟩ := hv
      walk_at "go"
      refine ⟨n, rfl, n0, by omega, sq_nx ?_⟩
      have em : (ps.map pr).take n.toNat ++ [PyData.tuple [.int v, .int l]] ++ (ps.map pr).drop n.toNat = (ps.take n.toNat ++ [(v, l)] ++ ps.drop n.toNat).map pr := by
        rw [List.map_append, List.map_append, List.map_take, List.map_drop]; rfl
      rw [em]
      have hqs : ∀ p ∈ ps.take n.toNat ++ [(v, l)] ++ ps.drop n.toNat, P2 p := fun p hp => by
        rcases List.mem_append.mp hp with hp | hp
        · rcases List.mem_append.mp hp with hp | hp
          · exact hps p (List.mem_of_mem_take hp)
          · rw [List.mem_singleton.mp hp]; exact ⟨sv, by omega, hl2⟩
        · exact hps p (List.mem_of_mem_drop hp)
      have hin : (v, l) ∈ ps.take n.toNat ++ [(v, l)] ++ ps.drop n.toNat := by simp
      have hql : (ps.take n.toNat ++ [(v, l)] ++ ps.drop n.toNat).length = ps.length + 1 := by
        rw [List.length_map] at n1
        simp only [List.length_append, List.length_take, List.length_drop, List.length_singleton]
        omega
      generalize ps.take n.toNat ++ [(v, l)] ++ ps.drop n.toNat = qs at *
      walk_at "go"
      refine wp_draw (by decide) (by decide) (by omega) fun k F8 k0 k1 t8 => ?_
      walk_at "go"
      refine ⟨_, _, rfl, rfl, sz (by have := cut_len (qs.map pr) none (some k); rw [List.length_map] at *; omega), ?_⟩
      have ec : qs.map pr ++ cutL (qs.map pr) none (some k) = (qs ++ qs.take k.toNat).map pr := by
        rw [cut_to k0, List.map_append, List.map_take]
      rw [ec]
      have hrs : ∀ p ∈ qs ++ qs.take k.toNat, P2 p := fun p hp => by
        rcases List.mem_append.mp hp with hp | hp
        · exact hqs p hp
        · exact hqs p (List.mem_of_mem_take hp)
      have hrl : (qs ++ qs.take k.toNat).length ≤ 14 := by simp only [List.length_append, List.length_take]; omega
      have hrp : 1 ≤ lSum (qs ++ qs.take k.toNat) := Int.le_trans hl1 (lSum_ge (List.mem_append_left _ hin) hrs)
      generalize qs ++ qs.take k.toNat = rs at *
      walk_at "go"
      refine wp_draw (by decide) (by decide) (by omega) fun z F9 z0 z1 t9 => ?_
      walk_at "go"
      have loop : ∀ {d : PyData}, (d = .list (rs.map pr) ∨ d = .tuple (rs.map pr)) → wp (mSq (mFor (mRng1 (sCons (sC (.int 2)) sNil)) (bN 4) (mSq (mSet 5 (sCall f_mean_of (vD (sV 3) vNil)))
    (mSq (mIf (uOr (uNot (uT (sCall f__law_is_fraction (vD (sV 5) vNil)))) (uB (s2 (eqD true) (sN listD (sCons (sW 3) sNil)) (sW 1)))) (mRt (sC (.bool false))) mNx)
    (mIf (uB (s2 (eqD true) (sN sumD (sCons (sLC (mSeq (sW 1)) 2 [5] (bTup 2 (bCons (bN 0) (bCons (bN 1) bNil))) uYes (s2 mulD' (sW 1) (s2 subD (s2 mulD' (sW 0) (s2 ixD (sW 2) (sC (.int 1)))) (s2 ixD (sW 2) (sC (.int 0)))))) sNil)) (sC (.int 0)))) (mRt (sC (.bool false))) mNx))))
    (mRt (sC (.bool true))) [some .feed, some (.own (rs.map pr)), some (.dat (.int l)), some (.dat d), none, none] F9) (runK fun d F' => F'.t ≤ F.t + 700 ∧ d = .bool true) := fun {d} hd => by
        walk_at "go"
        refine for_inv (fun i E F' => F' = F9 ∧ ∃ o4 o5, E = [some .feed, some (.own (rs.map pr)), some (.dat (.int l)), some (.dat d), o4, o5]) _ 0 _ F9 ⟨rfl, none, none, rfl⟩ ?_ ?_
        · rintro i e0 e E F10 ⟨rfl, o4, o5, rfl⟩
          refine ⟨_, rfl, ?_⟩
          walk_at "go"
          refine mean_w hd (by omega) hrs hrp fun t b hlow => ?_
          refine ⟨lt_len rfl, sq_nx ?_⟩
          have hs := sums hrs
          have hw : (wSum rs).natAbs < 2 ^ 1500 := by
            have : (wSum rs).natAbs ≤ 14 * 10 ^ 396 := Nat.le_trans hs.1 (Nat.mul_le_mul_right _ hrl)
            exact Nat.lt_of_le_of_lt this (by decide +kernel)
          have hL : (lSum rs).natAbs < 2 ^ 1500 := by
            have h3 := hs.2.2
            rw [d36] at h3
            have : (lSum rs).natAbs ≤ 14 * 10 ^ 198 := by
              have : (rs.length : Int) * ((10 ^ 198 : Nat) : Int) ≤ 14 * ((10 ^ 198 : Nat) : Int) := Int.mul_le_mul_of_nonneg_right (by omega) (by omega)
              omega
            exact Nat.lt_of_le_of_lt this (by decide +kernel)
          have tb : t.natAbs < 2 ^ 1500 := Nat.lt_of_le_of_lt hlow.lt hw
          have bb : b.natAbs < 2 ^ 1500 := Nat.lt_of_le_of_lt hlow.lb hL
          have up : ∀ {x : Nat}, x < 2 ^ 1500 → x < bigN := fun h => Nat.lt_of_lt_of_le h (bigN_ge (by decide))
          walk_at "go"
          refine isfr_w hlow.pos hlow.low (up tb) ?_
          refine oB_e rfl (cIf_fe rfl ?_)
          have hne : eqD true (.list (rs.map pr)) (.list (rs.map pr)) = some (.bool false) := ne_self (ps_gd hrs (by omega)) (by decide)
          have fin : wp (mIf (uB (s2 (eqD true) (sN sumD (sCons (sLC (mSeq (sW 1)) 2 [5] (bTup 2 (bCons (bN 0) (bCons (bN 1) bNil))) uYes (s2 mulD' (sW 1) (s2 subD (s2 mulD' (sW 0) (s2 ixD (sW 2) (sC (.int 1)))) (s2 ixD (sW 2) (sC (.int 0)))))) sNil)) (sC (.int 0)))) (mRt (sC (.bool false))) mNx [some .feed, some (.own (rs.map pr)), some (.dat (.int l)), some (.dat d), some (.dat e0), some (.dat (.tuple [.int t, .int b]))] F10) fun o F' => ∃ E2, o = .nx E2 ∧ F' = F10 ∧ ∃ o4 o5, E2 = [some .feed, some (.own (rs.map pr)), some (.dat (.int l)), some (.dat d), o4, o5] := by
            walk_at "go"
            refine ⟨sz (by rw [List.length_map]; omega), ?_⟩
            refine lc_map2 (f := fun p => .int (p.2 * (p.1 * b - t))) rs none none F10 (fun p hp F Q q => ?_) ?_
            · obtain ⟨pb1, pb2⟩ := (hrs p hp).b
              walk_at "go"
              refine oB_e (mul_b pb1 (up bb)) ?_
              walk_at "go"
              refine oB_e (mul_b pb2 ?_) q
              obtain ⟨q1, _⟩ := hrs p hp
              have h1 : (p.1 * b).natAbs < 2 ^ 2200 := by
                rw [Int.natAbs_mul]
                have := Nat.mul_lt_mul'' (p700 q1) bb
                rwa [← Nat.pow_add] at this
              refine Nat.lt_of_lt_of_le (m := 2 ^ 2201) ?_ (bigN_ge (by decide))
              have e1 : (2 : Nat) ^ 2201 = 2 ^ 2200 + 2 ^ 2200 := by rw [Nat.pow_succ, Nat.mul_two]
              have e2 : (2 : Nat) ^ 1500 ≤ 2 ^ 2200 := Nat.pow_le_pow_right (by decide) (by decide)
              rw [e1]
              generalize (2 : Nat) ^ 2200 = P at *
              generalize (2 : Nat) ^ 1500 = R at *
              omega
            · have e1 : (rs.map fun p => PyData.int (p.2 * (p.1 * b - t))) = (rs.map fun p => p.2 * (p.1 * b - t)).map .int := by rw [List.map_map]; rfl
              rw [e1]
              refine r_sNil.mpr (oB_e sum_e ?_)
              refine r_sC.mpr (oB_e ne_i ?_)
              have hz : (rs.map fun p => p.2 * (p.1 * b - t)).sum = 0 := by
                rw [zero_sum, hlow.as]; omega
              rw [hz]
              refine oB_e rfl (cIf_fe (by decide) ?_)
              walk_at "go"
              exact ⟨_, rfl, rfl, _, _, rfl⟩
          rcases hd with rfl | rfl
          · walk_at "go"
            refine oB_e hne ?_
            refine oB_e rfl (cIf_fe rfl (r_mNx.mpr (sq_nx ?_)))
            exact fin
          · walk_at "go"
            refine oB_e hne ?_
            refine oB_e rfl (cIf_fe rfl (r_mNx.mpr (sq_nx ?_)))
            exact fin
        · rintro E F10 ⟨rfl, o4, o5, rfl⟩
          walk_at "go"
          exact ⟨by omega, rfl⟩
      refine cIf_2 (fun _ => ?_) (fun _ => ?_)
      · refine r_sN.mpr (r_sCons.mpr (r_sW.mpr (gW_eo rfl (r_sNil.mpr (oB_e rfl ⟨lt_len rfl, sq_nx ?_⟩)))))
        exact loop (.inr rfl)
      · refine r_sN.mpr (r_sCons.mpr (r_sW.mpr (gW_eo rfl (r_sNil.mpr (oB_e rfl ⟨lt_len rfl, sq_nx ?_⟩)))))
        exact loop (.inl rfl)
    refine cIf_2 (fun _ => ?_) (fun _ => ?_)
    · walk_at "go"
      refine wp_draw (by decide) (by decide) (by omega) fun z F5 z0 z1 t5 => ?_
      have hz : ∃ p : Int, ixD (.list [.int 1, .int 6, .int 33]) (.int z) = some (.int p) ∧ 0 ≤ p ∧ p ≤ 33 := by
        have : z = 0 ∨ z = 1 ∨ z = 2 := by omega
        rcases this with rfl | rfl | rfl
        · exact ⟨1, rfl, by decide, by decide⟩
        · exact ⟨6, rfl, by decide, by decide⟩
        · exact ⟨33, rfl, by decide, by decide⟩
      obtain ⟨k, ek, k0, k1⟩ := hz
      refine oB_e ek ?_
      walk_at "go"
      rw [wide_is]
      refine (wide_tr k0 k1).wp (by omega) fun d F6 t6 hd => ?_
      obtain ⟨v, rfl, v0, v1⟩ := hd
      refine oB_e rfl ⟨lt_len rfl, sq_nx ?_⟩
      exact rest (l := 1 + v) (by omega) (by omega) (by omega)
    · have : (13 : Int) ≤ 10 ^ 198 := by decide +kernel
      refine r_mNx.mpr (sq_nx ?_)
      exact rest (l := 1 + l) (by omega) (by omega) (by omega)
section
variable {F : FdS} {Q : Out → FdS → Prop} {a2 a3 a4 a5 a6 a7 a8 : Option DV}
abbrev EE (a2 a3 a4 a5 a6 a7 a8 : Option DV) : DE := [none, some .feed, a2, a3, a4, a5, a6, a7, a8]
theorem two_st {x y : PyData} {o : Option DV} {i j : Nat} {E : DE} {P : Out → FdS → Prop} (hi : E[i]? = some (some (.dat x))) (hj : E[j]? = some (some (.dat y))) (hx : Pf x) (hy : Pf y) (q : P (.nx E) F) : wp (mIf (uNot (uT (sCall f__law_two_right (vD (sV i) (vD (sV j) vNil))))) (mRt (sC (.bool false))) mNx E F) P := by
  refine r_mIf.mpr (r_uNot.mpr (r_uT.mpr (r_sCall.mpr (r_vD.mpr (r_sV.mpr (gD_e hi (r_vD.mpr (r_sV.mpr (gD_e hj (r_vNil.mpr ?_))))))))))
  refine two_w hx hy ?_
  exact oB_e rfl (cIf_fe rfl (r_mNx.mpr q))
theorem s1 (hF : F.t = 0) (q : ∀ F' b2 b3, F'.t ≤ 1 → Q (.nx (EE b2 b3 none none none none none)) F') : wp (m_law_1 (EE none none none none none none none) F) Q := by
  unfold m_law_1
  walk_at "go"
  refine long_w fun xs hl hx => ?_
  walk_at "go"
  refine wp_draw (by decide) (by decide) (by omega) fun r F1 r0 r1 t1 => ?_
  refine r_sC.mpr (oB_e eq_i ?_)
  walk_at "go"
  have hk : ∀ (c : Bool), mulD' (.list xs) (.int (if c then 1 else 0)) = some (.list (if c then xs else [])) := fun c => by
    cases c
    · show (if (-(2 ^ 63) ≤ (0 : Int) ∧ (0 : Int) < 2 ^ 63 ∧ xs.length * (0 : Int).toNat ≤ sizeLine) then some (PyData.list (List.replicate (0 : Int).toNat xs).flatten) else none) = _
      rw [if_pos ⟨by decide, by decide, by simp⟩]
      rfl
    · show (if (-(2 ^ 63) ≤ (1 : Int) ∧ (1 : Int) < 2 ^ 63 ∧ xs.length * (1 : Int).toNat ≤ sizeLine) then some (PyData.list (List.replicate (1 : Int).toNat xs).flatten) else none) = _
      rw [if_pos ⟨by decide, by decide, sz (by simp; omega)⟩]
      simp
  refine oB_e (hk _) ?_
  walk_at "go"
  have hys : ∀ x ∈ (if decide (r = 0) = true then xs else []), ∃ y z, x = .tuple [y, z] ∧ Pf y ∧ Pf z := fun x h => by
    split at h
    · exact hx x h
    · cases h
  refine for_inv (fun i E F' => F' = F1 ∧ ∃ b2 b3, E = EE b2 b3 none none none none none) _ 0 _ F1 ⟨rfl, none, none, rfl⟩ ?_ ?_
  · rintro i d e E F2 ⟨rfl, b2, b3, rfl⟩
    obtain ⟨y, z, rfl, hy, hz⟩ := hys d (List.mem_of_getElem? e)
    refine ⟨_, rfl, two_st (o := none) rfl rfl hy hz ?_⟩
    exact ⟨_, rfl, rfl, _, _, rfl⟩
  · rintro E F2 ⟨rfl, b2, b3, rfl⟩
    exact q F2 b2 b3 (by omega)
theorem s20 (hF : F.t + 81 ≤ 199999) (q : ∀ d F', F'.t ≤ F.t + 81 → (∃ a b : Int, d = .tuple [.int a, .int b] ∧ 1 ≤ b ∧ a.natAbs ≤ 10 ^ 198 ∧ b.natAbs ≤ 10 ^ 198) → Q (.nx (EE (some (.dat d)) a3 a4 a5 a6 a7 a8)) F') : wp (m_law_2_0 (EE a2 a3 a4 a5 a6 a7 a8) F) Q := by
  unfold m_law_2_0
  walk_at "go"
  refine top_tr.wp (by omega) fun v F2 t2 hv => ?_
  obtain ⟨v, rfl, sv⟩ := hv
  walk_at "go"
  refine size_tr.wp (by omega) fun u F3 t3 hu => ?_
  obtain ⟨u, rfl, u0, u1⟩ := hu
  rw [d36] at u1
  walk_at "go"
  refine low_w (by omega) (p701 (by omega)) (p701 (by omega)) fun d hd => ?_
  refine ⟨lt_len rfl, q d F3 (by omega) ?_⟩
  obtain ⟨x, y, rfl, hy, h1, h2⟩ := hd
  exact ⟨x, y, rfl, hy, by omega, by omega⟩
theorem s21 {d : PyData} (h : ∃ a b : Int, d = .tuple [.int a, .int b] ∧ 1 ≤ b ∧ a.natAbs ≤ 10 ^ 198 ∧ b.natAbs ≤ 10 ^ 198) (hF : F.t + 90 ≤ 199999) (q : ∀ e F', F'.t ≤ F.t + 90 → Pl e → Q (.nx (EE (some (.dat d)) (some (.dat e)) a4 a5 a6 a7 a8)) F') : wp (m_law_2_1 (EE (some (.dat d)) a3 a4 a5 a6 a7 a8) F) Q := by
  unfold m_law_2_1
  walk_at "go"
  refine (other_tr h).wp hF fun e F' h1 h2 => ?_
  walk_at "go"
  exact q e F' h1 h2
theorem s22 {d e : PyData} (hd : Pf d) (he : Pf e) (q : ∀ b5 b6, Q (.nx (EE (some (.dat d)) (some (.dat e)) a4 b5 b6 a7 a8)) F) : wp (m_law_2_2 (EE (some (.dat d)) (some (.dat e)) a4 a5 a6 a7 a8) F) Q := by
  unfold m_law_2_2
  walk_at "go"
  have h0 : Pf (.tuple [.int 0, .int 1]) := ⟨0, 1, rfl, by decide, by decide +kernel, by decide +kernel⟩
  refine for_inv (fun i E F' => F' = F ∧ ∃ b5 b6, E = EE (some (.dat d)) (some (.dat e)) a4 b5 b6 a7 a8) _ 0 _ F ⟨rfl, a5, a6, rfl⟩ ?_ ?_
  · rintro i x hx E F2 ⟨rfl, b5, b6, rfl⟩
    have hm := List.mem_of_getElem? hx
    have : ∃ y z, x = .tuple [y, z] ∧ Pf y ∧ Pf z := by
      simp only [List.mem_cons, List.not_mem_nil, or_false] at hm
      rcases hm with rfl | rfl | rfl | rfl | rfl
      · exact ⟨_, _, rfl, hd, he⟩
      · exact ⟨_, _, rfl, he, hd⟩
      · exact ⟨_, _, rfl, hd, he⟩
      · exact ⟨_, _, rfl, hd, h0⟩
      · exact ⟨_, _, rfl, h0, hd⟩
    obtain ⟨y, z, rfl, hy, hz⟩ := this
    refine ⟨_, rfl, two_st (o := none) rfl rfl hy hz ?_⟩
    exact ⟨_, rfl, rfl, _, _, rfl⟩
  · rintro E F2 ⟨rfl, b5, b6, rfl⟩
    exact q b5 b6
theorem s23 (hF : F.t + 82 ≤ 199999) (q : ∀ (v u : Int) F', F'.t ≤ F.t + 82 → v.natAbs ≤ 10 ^ 198 → u.natAbs ≤ 10 ^ 198 → u ≠ 0 → Q (.nx (EE a2 a3 a4 a5 a6 (some (.dat (.int v))) (some (.dat (.int u))))) F') : wp (m_law_2_3 (EE a2 a3 a4 a5 a6 a7 a8) F) Q := by
  unfold m_law_2_3
  refine par_w ?_
  walk_at "go"
  refine top_tr.wp (by omega) fun v F2 t2 hv => ?_
  obtain ⟨v, rfl, sv⟩ := hv
  walk_at "go"
  refine size_tr.wp (by omega) fun u F3 t3 hu => ?_
  obtain ⟨u, rfl, u0, u1⟩ := hu
  rw [d36] at u1
  walk_at "go"
  refine wp_draw (by decide) (by decide) (by omega) fun r F4 r0 r1 t4 => ?_
  have hr : r = 0 ∨ r = 1 := by omega
  rcases hr with rfl | rfl
  · refine oB_e (show ixD (.list [.int 1, .int (-1)]) (.int 0) = some (.int 1) from rfl) ?_
    refine oB_e (mul_i (.inr ⟨by decide, by decide⟩)) ?_
    walk_at "go"
    exact ⟨_, _, rfl, lt_len rfl, lt_len rfl, q v _ F4 (by omega) sv (by omega) (by omega)⟩
  · refine oB_e (show ixD (.list [.int 1, .int (-1)]) (.int 1) = some (.int (-1)) from rfl) ?_
    refine oB_e (mul_i (.inr ⟨by decide, by decide⟩)) ?_
    walk_at "go"
    exact ⟨_, _, rfl, lt_len rfl, lt_len rfl, q v _ F4 (by omega) sv (by omega) (by omega)⟩
theorem s24 {v u : Int} (hv : v.natAbs ≤ 10 ^ 198) (hu : u.natAbs ≤ 10 ^ 198) (hu0 : u ≠ 0) (q : Q (.nx (EE a2 a3 a4 a5 a6 (some (.dat (.int v))) (some (.dat (.int u))))) F) : wp (m_law_2_4 (EE a2 a3 a4 a5 a6 (some (.dat (.int v))) (some (.dat (.int u)))) F) Q := by
  have u9 : u.natAbs < 2 ^ 9000 := Nat.lt_of_lt_of_le (p700 hu) (Nat.pow_le_pow_right (by decide) (by decide))
  unfold m_law_2_4
  rw [frac_is]
  walk_at "go"
  refine fraction_w hu0 u9 fun t b hl => ?_
  walk_at "go"
  refine much_w hl (Nat.lt_of_lt_of_le (p700 hv) (bigN_ge (by decide))) (Nat.lt_of_lt_of_le (p700 hu) (bigN_ge (by decide))) ?_
  refine oB_e rfl (cIf_fe rfl ?_)
  walk_at "go"
  refine fraction_w hu0 u9 fun t b hl => ?_
  have ht : t = 0 := by
    have := hl.as
    rw [Int.zero_mul] at this
    rcases Int.mul_eq_zero.mp this with h | h
    · exact h
    · exact absurd h hu0
  subst ht
  have hb : b = 1 := by
    have := hl.low
    rw [Int.gcd_zero_left] at this
    have := hl.pos
    omega
  subst hb
  walk_at "go"
  exact q
theorem s25 (hF : F.t + 700 ≤ 199999) (q : ∀ F', F'.t ≤ F.t + 700 → Q (.nx (EE a2 a3 a4 a5 a6 a7 a8)) F') : wp (m_law_2_5 (EE a2 a3 a4 a5 a6 a7 a8) F) Q := by
  unfold m_law_2_5
  walk_at "go"
  refine meanR_tr.wp hF fun d F' h1 h2 => ?_
  subst h2
  refine oB_e rfl (cIf_fe rfl ?_)
  walk_at "go"
  exact q F' h1
end
theorem fin (ns : List Int) : ∃ F', m_law ([none, some .feed] ++ List.replicate 7 none) (newF ns) = some (.rt (.bool true), F') := by
  suffices h : wp (m_law (EE none none none none none none none) (newF ns)) (fun o _ => o = .rt (.bool true)) by
    obtain ⟨o, F', e, rfl⟩ := h
    exact ⟨F', e⟩
  unfold m_law
  refine r_mSq.mpr (s1 rfl fun F1 b2 b3 t1 => sq_nx ?_)
  unfold m_law_2 m_law_3
  walk_at "go"
  refine for_inv (fun i E F' => ∃ (a2 a3 a4 a5 a6 a7 a8 : Option DV), E = EE a2 a3 a4 a5 a6 a7 a8 ∧ F'.t ≤ 1 + 1000 * i) _ 0 _ F1 ⟨b2, b3, none, none, none, none, none, rfl, by omega⟩ ?_ ?_
  · rintro i d e E F1 ⟨b2, b3, b4, b5, b6, b7, b8, rfl, t0⟩
    have hi : i < 5 := (List.getElem?_eq_some_iff.mp e).1
    refine ⟨_, rfl, ?_⟩
    refine r_mSq.mpr (s20 (by omega) fun d F2 t2 hd => sq_nx ?_)
    refine r_mSq.mpr (s21 hd (by omega) fun e F3 t3 he => sq_nx ?_)
    have hpd : Pf d := by
      obtain ⟨a, b, rfl, hb, sa, sb⟩ := hd
      exact Pl.pf ⟨a, b, rfl, hb, by omega, by omega⟩
    refine r_mSq.mpr (s22 hpd he.pf fun c5 c6 => sq_nx ?_)
    refine r_mSq.mpr (s23 (by omega) fun v u F4 t4 hv hu hu0 => sq_nx ?_)
    refine r_mSq.mpr (s24 hv hu hu0 (sq_nx ?_))
    refine s25 (by omega) fun F5 t5 => ?_
    exact ⟨_, rfl, _, _, _, _, _, _, _, rfl, by omega⟩
  · rintro E F1 ⟨b2, b3, b4, b5, b6, b7, b8, rfl, t0⟩
    walk_at "go"
    rfl
end K2
set_option Elab.async false
set_option linter.all false
set_option maxRecDepth 100000
set_option maxHeartbeats 4000000
namespace K2
open PySem L2 L3
theorem all_mk {l : PySem.W.OpenLaw} {w : World} {K : PySem.W.Frag} {h : Heap} {mg : Str → Option Value} {fa fcommon_divisor ffraction fplus fminus ftimes fover fless fmean_of f_law_feed f_law_draw f_law_wide f_law_is_number f_law_common f_law_size f_law_top f_law_low f_law_is_fraction f_law_is_as_much f_law_below f_law_other f_law_two_right f_law_long f_law_mean_right flaw : Addr} (X : K.In h) (G : h.Ns mainGlobals mg) (hfa : mg "law" = some (.ref fa))
    {odcommon_divisor ancommon_divisor odfraction anfraction odplus anplus odminus anminus odtimes antimes odover anover odless anless odmean_of anmean_of od_law_feed an_law_feed od_law_draw an_law_draw od_law_wide an_law_wide od_law_is_number an_law_is_number od_law_common an_law_common od_law_size an_law_size od_law_top an_law_top od_law_low an_law_low od_law_is_fraction an_law_is_fraction od_law_is_as_much an_law_is_as_much od_law_below an_law_below od_law_other an_law_other od_law_two_right an_law_two_right od_law_long an_law_long od_law_mean_right an_law_mean_right odlaw anlaw : Option Addr} {slcommon_divisor slfraction slplus slminus sltimes slover slless slmean_of sl_law_feed sl_law_draw sl_law_wide sl_law_is_number sl_law_common sl_law_size sl_law_top sl_law_low sl_law_is_fraction sl_law_is_as_much sl_law_below sl_law_other sl_law_two_right sl_law_long sl_law_mean_right sllaw : Array (Option Value)} {occommon_divisor kVcommon_divisor dccommon_divisor pmcommon_divisor cdcommon_divisor ctcommon_divisor ocfraction kVfraction dcfraction pmfraction cdfraction ctfraction ocplus kVplus dcplus pmplus cdplus ctplus ocminus kVminus dcminus pmminus cdminus ctminus octimes kVtimes dctimes pmtimes cdtimes cttimes ocover kVover dcover pmover cdover ctover ocless kVless dcless pmless cdless ctless ocmean_of kVmean_of dcmean_of pmmean_of cdmean_of ctmean_of oc_law_feed kV_law_feed dc_law_feed pm_law_feed cd_law_feed ct_law_feed oc_law_draw kV_law_draw dc_law_draw pm_law_draw cd_law_draw ct_law_draw oc_law_wide kV_law_wide dc_law_wide pm_law_wide cd_law_wide ct_law_wide oc_law_is_number kV_law_is_number dc_law_is_number pm_law_is_number cd_law_is_number ct_law_is_number oc_law_common kV_law_common dc_law_common pm_law_common cd_law_common ct_law_common oc_law_size kV_law_size dc_law_size pm_law_size cd_law_size ct_law_size oc_law_top kV_law_top dc_law_top pm_law_top cd_law_top ct_law_top oc_law_low kV_law_low dc_law_low pm_law_low cd_law_low ct_law_low oc_law_is_fraction kV_law_is_fraction dc_law_is_fraction pm_law_is_fraction cd_law_is_fraction ct_law_is_fraction oc_law_is_as_much kV_law_is_as_much dc_law_is_as_much pm_law_is_as_much cd_law_is_as_much ct_law_is_as_much oc_law_below kV_law_below dc_law_below pm_law_below cd_law_below ct_law_below oc_law_other kV_law_other dc_law_other pm_law_other cd_law_other ct_law_other oc_law_two_right kV_law_two_right dc_law_two_right pm_law_two_right cd_law_two_right ct_law_two_right oc_law_long kV_law_long dc_law_long pm_law_long cd_law_long ct_law_long oc_law_mean_right kV_law_mean_right dc_law_mean_right pm_law_mean_right cd_law_mean_right ct_law_mean_right oclaw kVlaw dclaw pmlaw cdlaw ctlaw : Value}
    (acommon_divisor : PySem.W.nsIn K mainGlobals "common_divisor" = some (some (.ref fcommon_divisor))) (lcommon_divisor : K.lookup fcommon_divisor = some ⟨occommon_divisor, odcommon_divisor, .func (PySem.W.fnOf "common_divisor" "common_divisor" (defArgs s_common_divisor) (defBody s_common_divisor) (defScope s_common_divisor) .none kVcommon_divisor dccommon_divisor pmcommon_divisor ancommon_divisor cdcommon_divisor ctcommon_divisor), slcommon_divisor⟩) (ccommon_divisor : PySem.W.codeIn K cdcommon_divisor "common_divisor" = true) (kcommon_divisor : PySem.W.keepIn K (.ref fcommon_divisor) = true)
    (afraction : PySem.W.nsIn K mainGlobals "fraction" = some (some (.ref ffraction))) (lfraction : K.lookup ffraction = some ⟨ocfraction, odfraction, .func (PySem.W.fnOf "fraction" "fraction" (defArgs s_fraction) (defBody s_fraction) (defScope s_fraction) .none kVfraction dcfraction pmfraction anfraction cdfraction ctfraction), slfraction⟩) (cfraction : PySem.W.codeIn K cdfraction "fraction" = true) (kfraction : PySem.W.keepIn K (.ref ffraction) = true)
    (aplus : PySem.W.nsIn K mainGlobals "plus" = some (some (.ref fplus))) (lplus : K.lookup fplus = some ⟨ocplus, odplus, .func (PySem.W.fnOf "plus" "plus" (defArgs s_plus) (defBody s_plus) (defScope s_plus) .none kVplus dcplus pmplus anplus cdplus ctplus), slplus⟩) (cplus : PySem.W.codeIn K cdplus "plus" = true) (kplus : PySem.W.keepIn K (.ref fplus) = true)
    (aminus : PySem.W.nsIn K mainGlobals "minus" = some (some (.ref fminus))) (lminus : K.lookup fminus = some ⟨ocminus, odminus, .func (PySem.W.fnOf "minus" "minus" (defArgs s_minus) (defBody s_minus) (defScope s_minus) .none kVminus dcminus pmminus anminus cdminus ctminus), slminus⟩) (cminus : PySem.W.codeIn K cdminus "minus" = true) (kminus : PySem.W.keepIn K (.ref fminus) = true)
    (atimes : PySem.W.nsIn K mainGlobals "times" = some (some (.ref ftimes))) (ltimes : K.lookup ftimes = some ⟨octimes, odtimes, .func (PySem.W.fnOf "times" "times" (defArgs s_times) (defBody s_times) (defScope s_times) .none kVtimes dctimes pmtimes antimes cdtimes cttimes), sltimes⟩) (ctimes : PySem.W.codeIn K cdtimes "times" = true) (ktimes : PySem.W.keepIn K (.ref ftimes) = true)
    (aover : PySem.W.nsIn K mainGlobals "over" = some (some (.ref fover))) (lover : K.lookup fover = some ⟨ocover, odover, .func (PySem.W.fnOf "over" "over" (defArgs s_over) (defBody s_over) (defScope s_over) .none kVover dcover pmover anover cdover ctover), slover⟩) (cover : PySem.W.codeIn K cdover "over" = true) (kover : PySem.W.keepIn K (.ref fover) = true)
    (aless : PySem.W.nsIn K mainGlobals "less" = some (some (.ref fless))) (lless : K.lookup fless = some ⟨ocless, odless, .func (PySem.W.fnOf "less" "less" (defArgs s_less) (defBody s_less) (defScope s_less) .none kVless dcless pmless anless cdless ctless), slless⟩) (cless : PySem.W.codeIn K cdless "less" = true) (kless : PySem.W.keepIn K (.ref fless) = true)
    (amean_of : PySem.W.nsIn K mainGlobals "mean_of" = some (some (.ref fmean_of))) (lmean_of : K.lookup fmean_of = some ⟨ocmean_of, odmean_of, .func (PySem.W.fnOf "mean_of" "mean_of" (defArgs s_mean_of) (defBody s_mean_of) (defScope s_mean_of) .none kVmean_of dcmean_of pmmean_of anmean_of cdmean_of ctmean_of), slmean_of⟩) (cmean_of : PySem.W.codeIn K cdmean_of "mean_of" = true) (kmean_of : PySem.W.keepIn K (.ref fmean_of) = true)
    (a_law_feed : PySem.W.nsIn K mainGlobals "_law_feed" = some (some (.ref f_law_feed))) (l_law_feed : K.lookup f_law_feed = some ⟨oc_law_feed, od_law_feed, .func (PySem.W.fnOf "_law_feed" "_law_feed" (defArgs s__law_feed) (defBody s__law_feed) (defScope s__law_feed) .none kV_law_feed dc_law_feed pm_law_feed an_law_feed cd_law_feed ct_law_feed), sl_law_feed⟩) (c_law_feed : PySem.W.codeIn K cd_law_feed "_law_feed" = true) (k_law_feed : PySem.W.keepIn K (.ref f_law_feed) = true)
    (a_law_draw : PySem.W.nsIn K mainGlobals "_law_draw" = some (some (.ref f_law_draw))) (l_law_draw : K.lookup f_law_draw = some ⟨oc_law_draw, od_law_draw, .func (PySem.W.fnOf "_law_draw" "_law_draw" (defArgs s__law_draw) (defBody s__law_draw) (defScope s__law_draw) .none kV_law_draw dc_law_draw pm_law_draw an_law_draw cd_law_draw ct_law_draw), sl_law_draw⟩) (c_law_draw : PySem.W.codeIn K cd_law_draw "_law_draw" = true) (k_law_draw : PySem.W.keepIn K (.ref f_law_draw) = true)
    (a_law_wide : PySem.W.nsIn K mainGlobals "_law_wide" = some (some (.ref f_law_wide))) (l_law_wide : K.lookup f_law_wide = some ⟨oc_law_wide, od_law_wide, .func (PySem.W.fnOf "_law_wide" "_law_wide" (defArgs s__law_wide) (defBody s__law_wide) (defScope s__law_wide) .none kV_law_wide dc_law_wide pm_law_wide an_law_wide cd_law_wide ct_law_wide), sl_law_wide⟩) (c_law_wide : PySem.W.codeIn K cd_law_wide "_law_wide" = true) (k_law_wide : PySem.W.keepIn K (.ref f_law_wide) = true)
    (a_law_is_number : PySem.W.nsIn K mainGlobals "_law_is_number" = some (some (.ref f_law_is_number))) (l_law_is_number : K.lookup f_law_is_number = some ⟨oc_law_is_number, od_law_is_number, .func (PySem.W.fnOf "_law_is_number" "_law_is_number" (defArgs s__law_is_number) (defBody s__law_is_number) (defScope s__law_is_number) .none kV_law_is_number dc_law_is_number pm_law_is_number an_law_is_number cd_law_is_number ct_law_is_number), sl_law_is_number⟩) (c_law_is_number : PySem.W.codeIn K cd_law_is_number "_law_is_number" = true) (k_law_is_number : PySem.W.keepIn K (.ref f_law_is_number) = true)
    (a_law_common : PySem.W.nsIn K mainGlobals "_law_common" = some (some (.ref f_law_common))) (l_law_common : K.lookup f_law_common = some ⟨oc_law_common, od_law_common, .func (PySem.W.fnOf "_law_common" "_law_common" (defArgs s__law_common) (defBody s__law_common) (defScope s__law_common) .none kV_law_common dc_law_common pm_law_common an_law_common cd_law_common ct_law_common), sl_law_common⟩) (c_law_common : PySem.W.codeIn K cd_law_common "_law_common" = true) (k_law_common : PySem.W.keepIn K (.ref f_law_common) = true)
    (a_law_size : PySem.W.nsIn K mainGlobals "_law_size" = some (some (.ref f_law_size))) (l_law_size : K.lookup f_law_size = some ⟨oc_law_size, od_law_size, .func (PySem.W.fnOf "_law_size" "_law_size" (defArgs s__law_size) (defBody s__law_size) (defScope s__law_size) .none kV_law_size dc_law_size pm_law_size an_law_size cd_law_size ct_law_size), sl_law_size⟩) (c_law_size : PySem.W.codeIn K cd_law_size "_law_size" = true) (k_law_size : PySem.W.keepIn K (.ref f_law_size) = true)
    (a_law_top : PySem.W.nsIn K mainGlobals "_law_top" = some (some (.ref f_law_top))) (l_law_top : K.lookup f_law_top = some ⟨oc_law_top, od_law_top, .func (PySem.W.fnOf "_law_top" "_law_top" (defArgs s__law_top) (defBody s__law_top) (defScope s__law_top) .none kV_law_top dc_law_top pm_law_top an_law_top cd_law_top ct_law_top), sl_law_top⟩) (c_law_top : PySem.W.codeIn K cd_law_top "_law_top" = true) (k_law_top : PySem.W.keepIn K (.ref f_law_top) = true)
    (a_law_low : PySem.W.nsIn K mainGlobals "_law_low" = some (some (.ref f_law_low))) (l_law_low : K.lookup f_law_low = some ⟨oc_law_low, od_law_low, .func (PySem.W.fnOf "_law_low" "_law_low" (defArgs s__law_low) (defBody s__law_low) (defScope s__law_low) .none kV_law_low dc_law_low pm_law_low an_law_low cd_law_low ct_law_low), sl_law_low⟩) (c_law_low : PySem.W.codeIn K cd_law_low "_law_low" = true) (k_law_low : PySem.W.keepIn K (.ref f_law_low) = true)
    (a_law_is_fraction : PySem.W.nsIn K mainGlobals "_law_is_fraction" = some (some (.ref f_law_is_fraction))) (l_law_is_fraction : K.lookup f_law_is_fraction = some ⟨oc_law_is_fraction, od_law_is_fraction, .func (PySem.W.fnOf "_law_is_fraction" "_law_is_fraction" (defArgs s__law_is_fraction) (defBody s__law_is_fraction) (defScope s__law_is_fraction) .none kV_law_is_fraction dc_law_is_fraction pm_law_is_fraction an_law_is_fraction cd_law_is_fraction ct_law_is_fraction), sl_law_is_fraction⟩) (c_law_is_fraction : PySem.W.codeIn K cd_law_is_fraction "_law_is_fraction" = true) (k_law_is_fraction : PySem.W.keepIn K (.ref f_law_is_fraction) = true)
    (a_law_is_as_much : PySem.W.nsIn K mainGlobals "_law_is_as_much" = some (some (.ref f_law_is_as_much))) (l_law_is_as_much : K.lookup f_law_is_as_much = some ⟨oc_law_is_as_much, od_law_is_as_much, .func (PySem.W.fnOf "_law_is_as_much" "_law_is_as_much" (defArgs s__law_is_as_much) (defBody s__law_is_as_much) (defScope s__law_is_as_much) .none kV_law_is_as_much dc_law_is_as_much pm_law_is_as_much an_law_is_as_much cd_law_is_as_much ct_law_is_as_much), sl_law_is_as_much⟩) (c_law_is_as_much : PySem.W.codeIn K cd_law_is_as_much "_law_is_as_much" = true) (k_law_is_as_much : PySem.W.keepIn K (.ref f_law_is_as_much) = true)
    (a_law_below : PySem.W.nsIn K mainGlobals "_law_below" = some (some (.ref f_law_below))) (l_law_below : K.lookup f_law_below = some ⟨oc_law_below, od_law_below, .func (PySem.W.fnOf "_law_below" "_law_below" (defArgs s__law_below) (defBody s__law_below) (defScope s__law_below) .none kV_law_below dc_law_below pm_law_below an_law_below cd_law_below ct_law_below), sl_law_below⟩) (c_law_below : PySem.W.codeIn K cd_law_below "_law_below" = true) (k_law_below : PySem.W.keepIn K (.ref f_law_below) = true)
    (a_law_other : PySem.W.nsIn K mainGlobals "_law_other" = some (some (.ref f_law_other))) (l_law_other : K.lookup f_law_other = some ⟨oc_law_other, od_law_other, .func (PySem.W.fnOf "_law_other" "_law_other" (defArgs s__law_other) (defBody s__law_other) (defScope s__law_other) .none kV_law_other dc_law_other pm_law_other an_law_other cd_law_other ct_law_other), sl_law_other⟩) (c_law_other : PySem.W.codeIn K cd_law_other "_law_other" = true) (k_law_other : PySem.W.keepIn K (.ref f_law_other) = true)
    (a_law_two_right : PySem.W.nsIn K mainGlobals "_law_two_right" = some (some (.ref f_law_two_right))) (l_law_two_right : K.lookup f_law_two_right = some ⟨oc_law_two_right, od_law_two_right, .func (PySem.W.fnOf "_law_two_right" "_law_two_right" (defArgs s__law_two_right) (defBody s__law_two_right) (defScope s__law_two_right) .none kV_law_two_right dc_law_two_right pm_law_two_right an_law_two_right cd_law_two_right ct_law_two_right), sl_law_two_right⟩) (c_law_two_right : PySem.W.codeIn K cd_law_two_right "_law_two_right" = true) (k_law_two_right : PySem.W.keepIn K (.ref f_law_two_right) = true)
    (a_law_long : PySem.W.nsIn K mainGlobals "_law_long" = some (some (.ref f_law_long))) (l_law_long : K.lookup f_law_long = some ⟨oc_law_long, od_law_long, .func (PySem.W.fnOf "_law_long" "_law_long" (defArgs s__law_long) (defBody s__law_long) (defScope s__law_long) .none kV_law_long dc_law_long pm_law_long an_law_long cd_law_long ct_law_long), sl_law_long⟩) (c_law_long : PySem.W.codeIn K cd_law_long "_law_long" = true) (k_law_long : PySem.W.keepIn K (.ref f_law_long) = true)
    (a_law_mean_right : PySem.W.nsIn K mainGlobals "_law_mean_right" = some (some (.ref f_law_mean_right))) (l_law_mean_right : K.lookup f_law_mean_right = some ⟨oc_law_mean_right, od_law_mean_right, .func (PySem.W.fnOf "_law_mean_right" "_law_mean_right" (defArgs s__law_mean_right) (defBody s__law_mean_right) (defScope s__law_mean_right) .none kV_law_mean_right dc_law_mean_right pm_law_mean_right an_law_mean_right cd_law_mean_right ct_law_mean_right), sl_law_mean_right⟩) (c_law_mean_right : PySem.W.codeIn K cd_law_mean_right "_law_mean_right" = true) (k_law_mean_right : PySem.W.keepIn K (.ref f_law_mean_right) = true)
    (alaw : PySem.W.nsIn K mainGlobals "law" = some (some (.ref flaw))) (llaw : K.lookup flaw = some ⟨oclaw, odlaw, .func (PySem.W.fnOf "law" "law" (defArgs s_law) (defBody s_law) (defScope s_law) .none kVlaw dclaw pmlaw anlaw cdlaw ctlaw), sllaw⟩) (claw : PySem.W.codeIn K cdlaw "law" = true) (klaw : PySem.W.keepIn K (.ref flaw) = true)
    (zabs : PySem.W.nsIn K mainGlobals "abs" = some none)
    (zbool : PySem.W.nsIn K mainGlobals "bool" = some none)
    (zint : PySem.W.nsIn K mainGlobals "int" = some none)
    (zisinstance : PySem.W.nsIn K mainGlobals "isinstance" = some none)
    (zlen : PySem.W.nsIn K mainGlobals "len" = some none)
    (zlist : PySem.W.nsIn K mainGlobals "list" = some none)
    (zrange : PySem.W.nsIn K mainGlobals "range" = some none)
    (zrepr : PySem.W.nsIn K mainGlobals "repr" = some none)
    (zsum : PySem.W.nsIn K mainGlobals "sum" = some none)
    (ztuple : PySem.W.nsIn K mainGlobals "tuple" = some none)
    : ∃ fd : FuncData, (∀ (s : Shared) (v : Value), BindsTo s fd ⟨[v], []⟩ [("_law_script", v)]) ∧ ∀ base : Heap, K.In base → base.Ns mainGlobals mg → FnOk l.prog w K mg base CX0 6 fa fd ["_law_script"] (spLaw K) := by
  have e := hfa.symm.trans (PySem.W.mg_of X G alaw)
  cases e
  have T : Txt K mg := ⟨PySem.W.mg_none_of X G zabs, PySem.W.mg_none_of X G zbool, PySem.W.mg_none_of X G zint, PySem.W.mg_none_of X G zisinstance, PySem.W.mg_none_of X G zlen, PySem.W.mg_none_of X G zlist, PySem.W.mg_none_of X G zrange, PySem.W.mg_none_of X G zrepr, PySem.W.mg_none_of X G zsum, PySem.W.mg_none_of X G ztuple⟩
  have Fcommon_divisor := fun_mk (st := s_common_divisor) lcommon_divisor ccommon_divisor kcommon_divisor
  have bcommon_divisor := Fcommon_divisor.binds (ps := ["one", "other"]) fun _ _ _ _ _ _ us hl => match us, hl with | [_, _], _ => rfl
  have mcommon_divisor := PySem.W.mg_of X G acommon_divisor
  have Ffraction := fun_mk (st := s_fraction) lfraction cfraction kfraction
  have bfraction := Ffraction.binds (ps := ["top", "bottom"]) fun _ _ _ _ _ _ us hl => match us, hl with | [_, _], _ => rfl
  have mfraction := PySem.W.mg_of X G afraction
  have Fplus := fun_mk (st := s_plus) lplus cplus kplus
  have bplus := Fplus.binds (ps := ["one", "other"]) fun _ _ _ _ _ _ us hl => match us, hl with | [_, _], _ => rfl
  have mplus := PySem.W.mg_of X G aplus
  have Fminus := fun_mk (st := s_minus) lminus cminus kminus
  have bminus := Fminus.binds (ps := ["one", "other"]) fun _ _ _ _ _ _ us hl => match us, hl with | [_, _], _ => rfl
  have mminus := PySem.W.mg_of X G aminus
  have Ftimes := fun_mk (st := s_times) ltimes ctimes ktimes
  have btimes := Ftimes.binds (ps := ["one", "other"]) fun _ _ _ _ _ _ us hl => match us, hl with | [_, _], _ => rfl
  have mtimes := PySem.W.mg_of X G atimes
  have Fover := fun_mk (st := s_over) lover cover kover
  have bover := Fover.binds (ps := ["one", "other"]) fun _ _ _ _ _ _ us hl => match us, hl with | [_, _], _ => rfl
  have mover := PySem.W.mg_of X G aover
  have Fless := fun_mk (st := s_less) lless cless kless
  have bless := Fless.binds (ps := ["one", "other"]) fun _ _ _ _ _ _ us hl => match us, hl with | [_, _], _ => rfl
  have mless := PySem.W.mg_of X G aless
  have Fmean_of := fun_mk (st := s_mean_of) lmean_of cmean_of kmean_of
  have bmean_of := Fmean_of.binds (ps := ["pairs"]) fun _ _ _ _ _ _ us hl => match us, hl with | [_], _ => rfl
  have mmean_of := PySem.W.mg_of X G amean_of
  have F_law_feed := fun_mk (st := s__law_feed) l_law_feed c_law_feed k_law_feed
  have b_law_feed := F_law_feed.binds (ps := ["_law_script"]) fun _ _ _ _ _ _ us hl => match us, hl with | [_], _ => rfl
  have m_law_feed := PySem.W.mg_of X G a_law_feed
  have F_law_draw := fun_mk (st := s__law_draw) l_law_draw c_law_draw k_law_draw
  have b_law_draw := F_law_draw.binds (ps := ["_law_feed_here", "_law_many"]) fun _ _ _ _ _ _ us hl => match us, hl with | [_, _], _ => rfl
  have m_law_draw := PySem.W.mg_of X G a_law_draw
  have F_law_wide := fun_mk (st := s__law_wide) l_law_wide c_law_wide k_law_wide
  have b_law_wide := F_law_wide.binds (ps := ["_law_feed_here", "_law_pieces"]) fun _ _ _ _ _ _ us hl => match us, hl with | [_, _], _ => rfl
  have m_law_wide := PySem.W.mg_of X G a_law_wide
  have F_law_is_number := fun_mk (st := s__law_is_number) l_law_is_number c_law_is_number k_law_is_number
  have b_law_is_number := F_law_is_number.binds (ps := ["_law_thing"]) fun _ _ _ _ _ _ us hl => match us, hl with | [_], _ => rfl
  have m_law_is_number := PySem.W.mg_of X G a_law_is_number
  have F_law_common := fun_mk (st := s__law_common) l_law_common c_law_common k_law_common
  have b_law_common := F_law_common.binds (ps := ["_law_one", "_law_other_here"]) fun _ _ _ _ _ _ us hl => match us, hl with | [_, _], _ => rfl
  have m_law_common := PySem.W.mg_of X G a_law_common
  have F_law_size := fun_mk (st := s__law_size) l_law_size c_law_size k_law_size
  have b_law_size := F_law_size.binds (ps := ["_law_feed_here"]) fun _ _ _ _ _ _ us hl => match us, hl with | [_], _ => rfl
  have m_law_size := PySem.W.mg_of X G a_law_size
  have F_law_top := fun_mk (st := s__law_top) l_law_top c_law_top k_law_top
  have b_law_top := F_law_top.binds (ps := ["_law_feed_here"]) fun _ _ _ _ _ _ us hl => match us, hl with | [_], _ => rfl
  have m_law_top := PySem.W.mg_of X G a_law_top
  have F_law_low := fun_mk (st := s__law_low) l_law_low c_law_low k_law_low
  have b_law_low := F_law_low.binds (ps := ["_law_top_here", "_law_bottom"]) fun _ _ _ _ _ _ us hl => match us, hl with | [_, _], _ => rfl
  have m_law_low := PySem.W.mg_of X G a_law_low
  have F_law_is_fraction := fun_mk (st := s__law_is_fraction) l_law_is_fraction c_law_is_fraction k_law_is_fraction
  have b_law_is_fraction := F_law_is_fraction.binds (ps := ["_law_told"]) fun _ _ _ _ _ _ us hl => match us, hl with | [_], _ => rfl
  have m_law_is_fraction := PySem.W.mg_of X G a_law_is_fraction
  have F_law_is_as_much := fun_mk (st := s__law_is_as_much) l_law_is_as_much c_law_is_as_much k_law_is_as_much
  have b_law_is_as_much := F_law_is_as_much.binds (ps := ["_law_told", "_law_top_here", "_law_bottom"]) fun _ _ _ _ _ _ us hl => match us, hl with | [_, _, _], _ => rfl
  have m_law_is_as_much := PySem.W.mg_of X G a_law_is_as_much
  have F_law_below := fun_mk (st := s__law_below) l_law_below c_law_below k_law_below
  have b_law_below := F_law_below.binds (ps := ["_law_one", "_law_other_here"]) fun _ _ _ _ _ _ us hl => match us, hl with | [_, _], _ => rfl
  have m_law_below := PySem.W.mg_of X G a_law_below
  have F_law_other := fun_mk (st := s__law_other) l_law_other c_law_other k_law_other
  have b_law_other := F_law_other.binds (ps := ["_law_feed_here", "_law_one"]) fun _ _ _ _ _ _ us hl => match us, hl with | [_, _], _ => rfl
  have m_law_other := PySem.W.mg_of X G a_law_other
  have F_law_two_right := fun_mk (st := s__law_two_right) l_law_two_right c_law_two_right k_law_two_right
  have b_law_two_right := F_law_two_right.binds (ps := ["_law_one", "_law_other_here"]) fun _ _ _ _ _ _ us hl => match us, hl with | [_, _], _ => rfl
  have m_law_two_right := PySem.W.mg_of X G a_law_two_right
  have F_law_long := fun_mk (st := s__law_long) l_law_long c_law_long k_law_long
  have b_law_long := F_law_long.binds (ps := []) fun _ _ _ _ _ _ us hl => match us, hl with | [], _ => rfl
  have m_law_long := PySem.W.mg_of X G a_law_long
  have F_law_mean_right := fun_mk (st := s__law_mean_right) l_law_mean_right c_law_mean_right k_law_mean_right
  have b_law_mean_right := F_law_mean_right.binds (ps := ["_law_feed_here"]) fun _ _ _ _ _ _ us hl => match us, hl with | [_], _ => rfl
  have m_law_mean_right := PySem.W.mg_of X G a_law_mean_right
  have Flaw := fun_mk (st := s_law) llaw claw klaw
  have blaw := Flaw.binds (ps := ["_law_script"]) fun _ _ _ _ _ _ us hl => match us, hl with | [_], _ => rfl
  have mlaw := PySem.W.mg_of X G alaw
  refine ⟨PySem.W.fnOf "law" "law" (defArgs s_law) (defBody s_law) (defScope s_law) .none kVlaw dclaw pmlaw anlaw cdlaw ctlaw, fun s v => .of_eq rfl, fun base _ _ => ?_⟩
  have C_common_divisor : Callee l.prog w K mg base "common_divisor" 1 ["one", "other"] (spD K 2 f_common_divisor) := ⟨_, _, ok_common_divisor Fcommon_divisor T , mcommon_divisor, Fcommon_divisor.kp, bcommon_divisor⟩
  have C_fraction : Callee l.prog w K mg base "fraction" 2 ["top", "bottom"] (spD K 2 f_fraction) := ⟨_, _, ok_fraction Ffraction T C_common_divisor, mfraction, Ffraction.kp, bfraction⟩
  have C_plus : Callee l.prog w K mg base "plus" 3 ["one", "other"] (spD K 2 f_plus) := ⟨_, _, ok_plus Fplus T C_fraction, mplus, Fplus.kp, bplus⟩
  have C_minus : Callee l.prog w K mg base "minus" 3 ["one", "other"] (spD K 2 f_minus) := ⟨_, _, ok_minus Fminus T C_fraction, mminus, Fminus.kp, bminus⟩
  have C_times : Callee l.prog w K mg base "times" 3 ["one", "other"] (spD K 2 f_times) := ⟨_, _, ok_times Ftimes T C_fraction, mtimes, Ftimes.kp, btimes⟩
  have C_over : Callee l.prog w K mg base "over" 3 ["one", "other"] (spD K 2 f_over) := ⟨_, _, ok_over Fover T C_fraction, mover, Fover.kp, bover⟩
  have C_less : Callee l.prog w K mg base "less" 1 ["one", "other"] (spD K 2 f_less) := ⟨_, _, ok_less Fless T , mless, Fless.kp, bless⟩
  have C_mean_of : Callee l.prog w K mg base "mean_of" 3 ["pairs"] (spD K 1 f_mean_of) := ⟨_, _, ok_mean_of Fmean_of T C_fraction, mmean_of, Fmean_of.kp, bmean_of⟩
  have C__law_feed : Callee l.prog w K mg base "_law_feed" 1 ["_law_script"] (spFeed K) := ⟨_, _, ok__law_feed F_law_feed, m_law_feed, F_law_feed.kp, b_law_feed⟩
  have C__law_draw : Callee l.prog w K mg base "_law_draw" 1 ["_law_feed_here", "_law_many"] (spD K 2 drawS) := ⟨_, _, ok__law_draw F_law_draw T , m_law_draw, F_law_draw.kp, b_law_draw⟩
  have C__law_wide : Callee l.prog w K mg base "_law_wide" 2 ["_law_feed_here", "_law_pieces"] (spD K 2 f__law_wide) := ⟨_, _, ok__law_wide F_law_wide T C__law_draw, m_law_wide, F_law_wide.kp, b_law_wide⟩
  have C__law_is_number : Callee l.prog w K mg base "_law_is_number" 1 ["_law_thing"] (spD K 1 f__law_is_number) := ⟨_, _, ok__law_is_number F_law_is_number T , m_law_is_number, F_law_is_number.kp, b_law_is_number⟩
  have C__law_common : Callee l.prog w K mg base "_law_common" 1 ["_law_one", "_law_other_here"] (spD K 2 f__law_common) := ⟨_, _, ok__law_common F_law_common T , m_law_common, F_law_common.kp, b_law_common⟩
  have C__law_size : Callee l.prog w K mg base "_law_size" 3 ["_law_feed_here"] (spD K 1 f__law_size) := ⟨_, _, ok__law_size F_law_size T C__law_draw C__law_wide, m_law_size, F_law_size.kp, b_law_size⟩
  have C__law_top : Callee l.prog w K mg base "_law_top" 4 ["_law_feed_here"] (spD K 1 f__law_top) := ⟨_, _, ok__law_top F_law_top T C__law_size C__law_draw, m_law_top, F_law_top.kp, b_law_top⟩
  have C__law_low : Callee l.prog w K mg base "_law_low" 2 ["_law_top_here", "_law_bottom"] (spD K 2 f__law_low) := ⟨_, _, ok__law_low F_law_low T C__law_common, m_law_low, F_law_low.kp, b_law_low⟩
  have C__law_is_fraction : Callee l.prog w K mg base "_law_is_fraction" 2 ["_law_told"] (spD K 1 f__law_is_fraction) := ⟨_, _, ok__law_is_fraction F_law_is_fraction T C__law_is_number C__law_common, m_law_is_fraction, F_law_is_fraction.kp, b_law_is_fraction⟩
  have C__law_is_as_much : Callee l.prog w K mg base "_law_is_as_much" 3 ["_law_told", "_law_top_here", "_law_bottom"] (spD K 3 f__law_is_as_much) := ⟨_, _, ok__law_is_as_much F_law_is_as_much T C__law_is_fraction, m_law_is_as_much, F_law_is_as_much.kp, b_law_is_as_much⟩
  have C__law_below : Callee l.prog w K mg base "_law_below" 1 ["_law_one", "_law_other_here"] (spD K 2 f__law_below) := ⟨_, _, ok__law_below F_law_below T , m_law_below, F_law_below.kp, b_law_below⟩
  have C__law_other : Callee l.prog w K mg base "_law_other" 5 ["_law_feed_here", "_law_one"] (spD K 2 f__law_other) := ⟨_, _, ok__law_other F_law_other T C__law_draw C__law_low C__law_top C__law_size, m_law_other, F_law_other.kp, b_law_other⟩
  have C__law_two_right : Callee l.prog w K mg base "_law_two_right" 4 ["_law_one", "_law_other_here"] (spD K 2 f__law_two_right) := ⟨_, _, ok__law_two_right F_law_two_right T C__law_is_as_much C_plus C_minus C_times C_over C_less C__law_below, m_law_two_right, F_law_two_right.kp, b_law_two_right⟩
  have C__law_long : Callee l.prog w K mg base "_law_long" 1 [] (spD K 0 f__law_long) := ⟨_, _, ok__law_long F_law_long T , m_law_long, F_law_long.kp, b_law_long⟩
  have C__law_mean_right : Callee l.prog w K mg base "_law_mean_right" 5 ["_law_feed_here"] (spD K 1 f__law_mean_right) := ⟨_, _, ok__law_mean_right F_law_mean_right T C__law_draw C__law_top C__law_wide C_mean_of C__law_is_fraction, m_law_mean_right, F_law_mean_right.kp, b_law_mean_right⟩
  exact ok_law Flaw T C__law_feed C__law_long C__law_draw C__law_two_right C__law_low C__law_size C__law_top C__law_other C__law_is_as_much C_fraction C__law_mean_right (fun ns _ => fin ns)
theorem walk {l : PySem.W.OpenLaw} {q : Program} {loose : List Str} {XP : (Str → Option Value) → Heap → Prop} {YP : World → Heap → Prop} {d : DefRec} {K : Params → PySem.W.Frag} (hn : l.most = some 63) (hdf : d.params.defaults = [])
    (hY : ∀ (w : World) (h : Heap), YP w h → (K w.params).In h)
    (F : ∀ (w : World) (mg : Str → Option Value) (fa : Addr) (h : Heap), (K w.params).In h → h.Ns mainGlobals mg → mg d.name = some (.ref fa) →
      ∃ fd : FuncData, (∀ (s : Shared) (u : Value), BindsTo s fd ⟨[u], []⟩ [("_law_script", u)]) ∧ ∀ base : Heap, (K w.params).In base → base.Ns mainGlobals mg → FnOk l.prog w (K w.params) mg base CX0 6 fa fd ["_law_script"] (spLaw (K w.params))) :
    PySem.W.WalkO q loose XP YP l.row.toRowW d [] (fun f vs => PySem.call f vs) :=
  L2.walk_of (n := 63) (k := 6) (x := "_law_script") (CX := fun _ => CX0) (sp := fun w => spLaw (K w.params)) hn (by decide) hdf ⟨rfl, by decide, by decide, rfl⟩ hY F (fun _ _ a ns hl _ hS => ⟨a, ns, rfl, hS, hl, fun _ => rfl⟩) fun _ _ _ _ _ z => z
end K2
open PySem PySem.W PyProof.Rows
set_option maxRecDepth 100000 in
set_option maxHeartbeats 0 in
theorem PySem.Challenge.cw_hatchwaits_k02_fractions_reckoned_holds : PySem.Challenge.rw_hatchwaits_k02_fractions_reckoned.Holds := by
  w_on; o_law; k_head; (case hw => w_witness2)
  k_fill
  refine K2.walk (l := PySem.Challenge.rw_hatchwaits_k02_fractions_reckoned) rfl rfl (fun w h Y => PySem.W.kIn_of Y) ?F
  case F =>
    intro w mg fa h KX G hmg
    refine' K2.all_mk KX G hmg ?acommon_divisor ?lcommon_divisor ?ccommon_divisor ?kcommon_divisor ?afraction ?lfraction ?cfraction ?kfraction ?aplus ?lplus ?cplus ?kplus ?aminus ?lminus ?cminus ?kminus ?atimes ?ltimes ?ctimes ?ktimes ?aover ?lover ?cover ?kover ?aless ?lless ?cless ?kless ?amean_of ?lmean_of ?cmean_of ?kmean_of ?a_law_feed ?l_law_feed ?c_law_feed ?k_law_feed ?a_law_draw ?l_law_draw ?c_law_draw ?k_law_draw ?a_law_wide ?l_law_wide ?c_law_wide ?k_law_wide ?a_law_is_number ?l_law_is_number ?c_law_is_number ?k_law_is_number ?a_law_common ?l_law_common ?c_law_common ?k_law_common ?a_law_size ?l_law_size ?c_law_size ?k_law_size ?a_law_top ?l_law_top ?c_law_top ?k_law_top ?a_law_low ?l_law_low ?c_law_low ?k_law_low ?a_law_is_fraction ?l_law_is_fraction ?c_law_is_fraction ?k_law_is_fraction ?a_law_is_as_much ?l_law_is_as_much ?c_law_is_as_much ?k_law_is_as_much ?a_law_below ?l_law_below ?c_law_below ?k_law_below ?a_law_other ?l_law_other ?c_law_other ?k_law_other ?a_law_two_right ?l_law_two_right ?c_law_two_right ?k_law_two_right ?a_law_long ?l_law_long ?c_law_long ?k_law_long ?a_law_mean_right ?l_law_mean_right ?c_law_mean_right ?k_law_mean_right ?alaw ?llaw ?claw ?klaw ?zabs ?zbool ?zint ?zisinstance ?zlen ?zlist ?zrange ?zrepr ?zsum ?ztuple
    (case acommon_divisor => k_is)
    (case lcommon_divisor => k_is)
    (case ccommon_divisor => k_is)
    (case kcommon_divisor => k_is)
    (case afraction => k_is)
    (case lfraction => k_is)
    (case cfraction => k_is)
    (case kfraction => k_is)
    (case aplus => k_is)
    (case lplus => k_is)
    (case cplus => k_is)
    (case kplus => k_is)
    (case aminus => k_is)
    (case lminus => k_is)
    (case cminus => k_is)
    (case kminus => k_is)
    (case atimes => k_is)
    (case ltimes => k_is)
    (case ctimes => k_is)
    (case ktimes => k_is)
    (case aover => k_is)
    (case lover => k_is)
    (case cover => k_is)
    (case kover => k_is)
    (case aless => k_is)
    (case lless => k_is)
    (case cless => k_is)
    (case kless => k_is)
    (case amean_of => k_is)
    (case lmean_of => k_is)
    (case cmean_of => k_is)
    (case kmean_of => k_is)
    (case a_law_feed => k_is)
    (case l_law_feed => k_is)
    (case c_law_feed => k_is)
    (case k_law_feed => k_is)
    (case a_law_draw => k_is)
    (case l_law_draw => k_is)
    (case c_law_draw => k_is)
    (case k_law_draw => k_is)
    (case a_law_wide => k_is)
    (case l_law_wide => k_is)
    (case c_law_wide => k_is)
    (case k_law_wide => k_is)
    (case a_law_is_number => k_is)
    (case l_law_is_number => k_is)
    (case c_law_is_number => k_is)
    (case k_law_is_number => k_is)
    (case a_law_common => k_is)
    (case l_law_common => k_is)
    (case c_law_common => k_is)
    (case k_law_common => k_is)
    (case a_law_size => k_is)
    (case l_law_size => k_is)
    (case c_law_size => k_is)
    (case k_law_size => k_is)
    (case a_law_top => k_is)
    (case l_law_top => k_is)
    (case c_law_top => k_is)
    (case k_law_top => k_is)
    (case a_law_low => k_is)
    (case l_law_low => k_is)
    (case c_law_low => k_is)
    (case k_law_low => k_is)
    (case a_law_is_fraction => k_is)
    (case l_law_is_fraction => k_is)
    (case c_law_is_fraction => k_is)
    (case k_law_is_fraction => k_is)
    (case a_law_is_as_much => k_is)
    (case l_law_is_as_much => k_is)
    (case c_law_is_as_much => k_is)
    (case k_law_is_as_much => k_is)
    (case a_law_below => k_is)
    (case l_law_below => k_is)
    (case c_law_below => k_is)
    (case k_law_below => k_is)
    (case a_law_other => k_is)
    (case l_law_other => k_is)
    (case c_law_other => k_is)
    (case k_law_other => k_is)
    (case a_law_two_right => k_is)
    (case l_law_two_right => k_is)
    (case c_law_two_right => k_is)
    (case k_law_two_right => k_is)
    (case a_law_long => k_is)
    (case l_law_long => k_is)
    (case c_law_long => k_is)
    (case k_law_long => k_is)
    (case a_law_mean_right => k_is)
    (case l_law_mean_right => k_is)
    (case c_law_mean_right => k_is)
    (case k_law_mean_right => k_is)
    (case alaw => k_is)
    (case llaw => k_is)
    (case claw => k_is)
    (case klaw => k_is)
    (case zabs => k_is)
    (case zbool => k_is)
    (case zint => k_is)
    (case zisinstance => k_is)
    (case zlen => k_is)
    (case zlist => k_is)
    (case zrange => k_is)
    (case zrepr => k_is)
    (case zsum => k_is)
    (case ztuple => k_is)
