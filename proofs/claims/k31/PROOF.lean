import PyProof.Rows.All
import Wide.All
import OpenK.AllK
import Wide.FinOn
import Lean
import PyProof.EqAt
import PyProof.EqKinds
import PyProof.TupleCall
import PySem.Challenge.RW_tailyard_k31_whole_unpacked
set_option Elab.async false
set_option linter.all false
set_option maxRecDepth 100000
namespace L2
open PySem PySem.Spec PyProof.Rows
/-- a key: an int or a str -/
abbrev Key := Sum Int Str
def keyIs : Key → Value → Bool
  | .inl k, v => Value.isInt k v
  | .inr x, v => Value.isStrOf x v
def keyH (w : World) : Key → Int
  | .inl k => hashInt k
  | .inr x => hashStr w x
theorem keyIs_shape : ∀ {k : Key} {v : Value}, keyIs k v = true → (∃ i t, k = Sum.inl i ∧ v = Value.int i t) ∨ (∃ x t, k = Sum.inr x ∧ v = Value.str x t)
  | .inl i, v, h => by
    obtain ⟨t, e⟩ := Value.isInt_shape (k := i) (v := v) h
    exact .inl ⟨i, t, rfl, e⟩
  | .inr x, v, h => by
    obtain ⟨t, e⟩ := Value.isStrOf_shape (x := x) (v := v) h
    exact .inr ⟨x, t, rfl, e⟩
theorem key_ll (a b : Int) : decide ((Sum.inl a : Key) = Sum.inl b) = (a == b) := by
  by_cases e : a = b
  · subst e; simp
  · have h : ¬ (Sum.inl a : Key) = Sum.inl b := fun q => e (Sum.inl.inj q)
    rw [decide_eq_false h]
    exact (beq_eq_false_iff_ne.mpr e).symm
theorem key_rr (a b : Str) : decide ((Sum.inr a : Key) = Sum.inr b) = decide (a = b) := by
  by_cases e : a = b
  · subst e; simp
  · have h : ¬ (Sum.inr a : Key) = Sum.inr b := fun q => e (Sum.inr.inj q)
    rw [decide_eq_false h, decide_eq_false e]
theorem key_lr (a : Int) (b : Str) : decide ((Sum.inl a : Key) = Sum.inr b) = false := decide_eq_false (fun q => nomatch q)
theorem key_rl (a : Str) (b : Int) : decide ((Sum.inr a : Key) = Sum.inl b) = false := decide_eq_false (fun q => nomatch q)

def mixKind (prog : Program) (w : World) : PySem.KeyKind prog w Key where
  is := keyIs
  hash := keyH w
  inj := fun v a b ha hb => by
    rcases keyIs_shape ha with ⟨i, t, rfl, rfl⟩ | ⟨x, t, rfl, rfl⟩
    · rcases keyIs_shape hb with ⟨j, u, rfl, e⟩ | ⟨y, u, rfl, e⟩
      · injection e with e1 _; rw [e1]
      · exact nomatch e
    · rcases keyIs_shape hb with ⟨j, u, rfl, e⟩ | ⟨y, u, rfl, e⟩
      · exact nomatch e
      · injection e with e1 _; rw [e1]
  byValue := fun k v h => by
    rcases keyIs_shape h with ⟨i, t, rfl, rfl⟩ | ⟨x, t, rfl, rfl⟩ <;> rfl
  pyHash := fun hv h => by
    rcases keyIs_shape hv with ⟨i, t, rfl, rfl⟩ | ⟨x, t, rfl, rfl⟩
    · exact wpAny_pyHash_int h
    · exact wpAny_pyHash_str h
  eqBool := fun hu hv h => by
    rcases keyIs_shape hu with ⟨i, t, rfl, rfl⟩ | ⟨x, t, rfl, rfl⟩
    · rcases keyIs_shape hv with ⟨j, u, rfl, rfl⟩ | ⟨y, u, rfl, rfl⟩
      · rw [key_ll] at h; exact wpAny_eqBool_int h
      · rw [key_lr] at h; exact SeqAt.EqAt.int_str i t y u _ _ _ _ h
    · rcases keyIs_shape hv with ⟨j, u, rfl, rfl⟩ | ⟨y, u, rfl, rfl⟩
      · rw [key_rl] at h; exact SeqAt.EqAt.str_int x t j u _ _ _ _ h
      · rw [key_rr] at h; exact wpAny_eqBool_str h
  «strs» := fun k x t v h => by
    rcases keyIs_shape h with ⟨i, u, rfl, e⟩ | ⟨y, u, rfl, e⟩
    · exact nomatch e
    · injection e with e1 _
      subst e1
      cases v <;> rfl

end L2
namespace L2
open PySem PySem.Spec PyProof.Rows
/-- a value, without the heap -/
inductive V where
  | non | bl (b : Bool) | int (i : Int) | str (x : Str) | byt (b : Array UInt8) | flt (b : UInt64) | ref (a : Addr) | ty (n : String)
  deriving DecidableEq

def RelV : V → Value → Prop
  | .non, u => u = Value.none
  | .bl b, u => u = Value.bool b
  | .int i, u => ∃ t, u = Value.int i t
  | .str x, u => ∃ t, u = Value.str x t
  | .byt b, u => ∃ t, u = Value.bytes b t
  | .flt b, u => ∃ t, u = Value.float b t
  | .ref a, u => u = Value.ref a
  | .ty n, u => u = Value.type n

abbrev Vals : List V → List Value → Prop := Paired RelV
theorem Vals.length {xs : List V} {us : List Value} (r : Vals xs us) : xs.length = us.length := Paired.length r
theorem Vals.get : ∀ {xs : List V} {us : List Value} {i : Nat} {x : V}, Vals xs us → xs[i]? = some x → ∃ u, us[i]? = some u ∧ RelV x u
  | _, _, _, _, .nil, e => by simp at e
  | _, _, 0, _, .cons r _, e => by simp at e; subst e; exact ⟨_, rfl, r⟩
  | _, _, i + 1, x, .cons _ t, e => by
    obtain ⟨u, h1, h2⟩ := Vals.get (i := i) (x := x) t (by simpa using e)
    exact ⟨u, by simpa using h1, h2⟩
theorem Vals.append : ∀ {xs ys : List V} {us ws : List Value}, Vals xs us → Vals ys ws → Vals (xs ++ ys) (us ++ ws)
  | _, _, _, _, .nil, s => s
  | _, _, _, _, .cons r t, s => .cons r (Vals.append t s)
def RelO : Option V → Option Value → Prop
  | some v, some u => RelV v u
  | none, none => True
  | _, _ => False
def KV {κ : Type} : List (κ × V) → List (κ × Value) → Prop := Paired fun (p : κ × V) (q : κ × Value) => p.1 = q.1 ∧ RelV p.2 q.2

/-- a key of a dict (00_mix): an int or a text -/
def kV : Key → V
  | .inl i => .int i
  | .inr x => .str x

/-- what stands at a tracked address -/
inductive HO where
  /-- a list -/
  | lst (xs : List V)
  /-- a tuple (never changes) -/
  | tup (xs : List V)
  /-- a dict whose keys are ints and texts; one whose keys are tuples of ints and texts (the empty one is both) -/
  | dK (kvs : List (Key × V)) | dT (kvs : List (List Key × V))
  /-- a set of ints: its members, its size -/
  | set (S : Int → Bool) (n : Nat)
  /-- an instance of the class at C, its dict at dx, its attributes -/
  | ins (C dx : Addr) (fs : List (Str × V))
  /-- the dict of the instance at x -/
  | own (x : Addr)
  /-- the dict of an exception -/
  | xd (fs : List (Str × V))
  /-- a bound method, f of x -/
  | met (f x : Addr)
  /-- a range object lo, lo + 1, .. below hi -/
  | rng (lo hi : Int)
  /-- a thing that is known to the object (the script; a dict while a loop walks it): read, never written while it is so -/
  | frz (o : Obj) (u : HO)
  /-- a code object's table -/
  | tbl (ps : Array Value)
  /-- any other thing, by what is true of its one object (a def of one's own: SetO a S n := HO.ext fun h => ..) -/
  | ext (φ : Heap → Prop)

abbrev Hp := Addr → Option HO
def upd (H : Hp) (a : Addr) (o : HO) : Hp := fun b => if b = a then some o else H b
theorem upd_same {H : Hp} {a : Addr} {o : HO} : upd H a o a = some o := by unfold upd; rw [if_pos rfl]
theorem upd_ne {H : Hp} {a b : Addr} {o : HO} (h : b ≠ a) : upd H a o b = H b := by unfold upd; rw [if_neg h]
/-- two objects of different content stand apart -/
theorem ne_of {H : Hp} {a b : Addr} {o u : HO} (h : H a = some o) (h' : H b = some u) (d : o ≠ u) : a ≠ b := by
  intro e; subst e; rw [h] at h'; exact d (Option.some.inj h')
theorem ne_of_none {H : Hp} {a b : Addr} {o : HO} (h : H a = some o) (h' : H b = none) : a ≠ b := by
  intro e; subst e; rw [h] at h'; cases h'

section
variable (P : Program) (w : World)
def ObjOk (H : Hp) (h : Heap) (a : Addr) : HO → Prop
  | .lst xs => xs.length ≤ sizeLine ∧ ∃ (its : List Value) (n : Nat), Vals xs its ∧ h.get? a = some { cls := .type "list", data := .seq its.toArray n }
  | .tup xs => xs.length ≤ sizeLine ∧ ∃ its : List Value, Vals xs its ∧ IsTup h a its.toArray
  | .dK kvs => kvs.length ≤ sizeLine ∧ (a == sysModules) = false ∧ ∃ vs, KV kvs vs ∧ h.DictOf (mixKind P w) a vs
  | .dT kvs => kvs.length ≤ sizeLine ∧ (a == sysModules) = false ∧ ∃ xs : List (List Key × Addr × Value),
      Paired (fun (p : List Key × V) (q : List Key × Addr × Value) => p.1 = q.1 ∧ H q.2.1 = some (.tup (p.1.map kV)) ∧ RelV p.2 q.2.2) kvs xs ∧
      ∃ o es ep, h.get? a = some o ∧ o.ExactDict ∧ o.data = .dict es ep ∧ es.toList = xs.map (entryOfKey (tupleKind (mixKind P w))) ∧ (xs.map (·.1)).Nodup
  | .set S n => h.SetOf (intKind P w) a S n
  | .ins C dx fs => H dx = some (.own a) ∧ fs.length ≤ 1000 ∧ dx ≠ a ∧ h.get? a = some (PySem.W.instObj C dx) ∧
      ∃ mA, h.Ns1 dx mA ∧ (∀ f, RelO (fs.lookup f) (mA f)) ∧ PySem.Within mA (fs.map (·.1))
  | .own _ => ∃ o, h.get? a = some o
  | .xd fs => ∃ mA, h.Ns1 a mA ∧ ∀ f, RelO (fs.lookup f) (mA f)
  | .rng lo hi => ∃ t u v, h.get? a = some { cls := .type "range", data := .fields #[.int lo t, .int hi u, .int 1 v] }
  | .frz o u => h.get? a = some o ∧ ObjOk H h a u
  | .tbl ps => h.get? a = some { cls := .none, data := .fields ps }
  | .met f x => h.get? a = some (PySem.W.methodObj (.ref f) (.ref x))
  | .ext φ => φ h ∧ (∃ o, h.get? a = some o) ∧ ∀ h1 h2 : Heap, φ h1 → (∀ o, h1.get? a = some o → h2.get? a = some o) → φ h2
/-- the abstract heap is held -/
def HOk (H : Hp) (h : Heap) : Prop := ∀ a o, H a = some o → ObjOk P w H h a o
end
section
variable {P : Program} {w : World} {H H' : Hp} {h h' : Heap} {a : Addr} {o : HO}
theorem ObjOk.lt (x : ObjOk P w H h a o) : a < h.objs.size := by
  cases o with
  | lst xs => obtain ⟨_, _, _, _, e⟩ := x; exact Heap.lt_size e
  | tup xs => obtain ⟨_, _, _, p⟩ := x; exact p.lt
  | dK kvs => obtain ⟨_, _, _, _, o, _, _, e, _⟩ := x; exact Heap.lt_size e
  | dT kvs => obtain ⟨_, _, _, _, o, _, _, e, _⟩ := x; exact Heap.lt_size e
  | set S n => obtain ⟨o, _, _, _, e, _⟩ := x; exact Heap.lt_size e
  | ins C dx fs => obtain ⟨_, _, _, e, _⟩ := x; exact Heap.lt_size e
  | own y => obtain ⟨_, e⟩ := x; exact Heap.lt_size e
  | xd fs => obtain ⟨_, ⟨_, _, _, e, _⟩, _⟩ := x; exact Heap.lt_size e
  | rng lo hi => obtain ⟨_, _, _, e⟩ := x; exact Heap.lt_size e
  | frz ob u => obtain ⟨e, _⟩ := x; exact Heap.lt_size e
  | tbl ps => exact Heap.lt_size (show h.get? a = some _ from x)
  | met f y => exact Heap.lt_size (show h.get? a = some _ from x)
  | ext φ => obtain ⟨_, ⟨_, e⟩, _⟩ := x; exact Heap.lt_size e
theorem Paired.mapP {α β : Type} {F G : α → β → Prop} : ∀ {l₁ : List α} {l₂ : List β}, Paired F l₁ l₂ → (∀ a b, F a b → G a b) → Paired G l₁ l₂
  | _, _, .nil, _ => .nil
  | _, _, .cons r t, f => .cons (f _ _ r) (Paired.mapP t f)
/-- what an object's description leans on: its own object, its own dict, the tuples -/
theorem ObjOk.stay (x : ObjOk P w H h a o) (k : ∀ b u, (b = a ∨ H b = some (.own a)) → h.get? b = some u → h'.get? b = some u)
    (ho : ∀ b, H b = some (.own a) → H' b = some (.own a)) (ht : ∀ b xs, H b = some (.tup xs) → H' b = some (.tup xs)) : ObjOk P w H' h' a o := by
  induction o with
  | lst xs => obtain ⟨z, its, n, r, e⟩ := x; exact ⟨z, its, n, r, k _ _ (.inl rfl) e⟩
  | tup xs => obtain ⟨z, its, r, ob, e, c⟩ := x; exact ⟨z, its, r, ob, k _ _ (.inl rfl) e, c⟩
  | dK kvs => obtain ⟨z, y, vs, r, ob, es, ep, e, c⟩ := x; exact ⟨z, y, vs, r, ob, es, ep, k _ _ (.inl rfl) e, c⟩
  | dT kvs =>
    obtain ⟨z, y, xs, r, ob, es, ep, e, c⟩ := x
    exact ⟨z, y, xs, Paired.mapP r fun p q z => ⟨z.1, ht _ _ z.2.1, z.2.2⟩, ob, es, ep, k _ _ (.inl rfl) e, c⟩
  | set S n => obtain ⟨ob, es, ep, t, e, c⟩ := x; exact ⟨ob, es, ep, t, k _ _ (.inl rfl) e, c⟩
  | ins C dx fs =>
    obtain ⟨d, z, ne, e, mA, ⟨od, es, ep, e2, c⟩, r⟩ := x
    exact ⟨ho _ d, z, ne, k _ _ (.inl rfl) e, mA, ⟨od, es, ep, k _ _ (.inr d) e2, c⟩, r⟩
  | own y => obtain ⟨ob, e⟩ := x; exact ⟨ob, k _ _ (.inl rfl) e⟩
  | xd fs => obtain ⟨mA, ⟨od, es, ep, e, c⟩, r⟩ := x; exact ⟨mA, ⟨od, es, ep, k _ _ (.inl rfl) e, c⟩, r⟩
  | rng lo hi => obtain ⟨t, u, v, e⟩ := x; exact ⟨t, u, v, k _ _ (.inl rfl) e⟩
  | frz ob u ih => obtain ⟨e, q⟩ := x; exact ⟨k _ _ (.inl rfl) e, ih q⟩
  | tbl ps =>
    have e : h.get? a = some { cls := .none, data := .fields ps } := x
    show h'.get? a = some { cls := .none, data := .fields ps }
    exact k a _ (.inl rfl) e
  | met f y =>
    have e : h.get? a = some (PySem.W.methodObj (.ref f) (.ref y)) := x
    show h'.get? a = some (PySem.W.methodObj (.ref f) (.ref y))
    exact k a _ (.inl rfl) e
  | ext φ => obtain ⟨p, ⟨o, e⟩, st⟩ := x; exact ⟨st _ _ p fun o q => k _ _ (.inl rfl) q, ⟨o, k _ _ (.inl rfl) e⟩, st⟩
theorem HOk.lt (x : HOk P w H h) (e : H a = some o) : a < h.objs.size := (x a o e).lt
theorem HOk.fresh (x : HOk P w H h) (e : h.objs.size ≤ a) : H a = none := by
  cases q : H a with
  | none => rfl
  | some u => exact absurd (Nat.lt_of_lt_of_le (x.lt q) e) (Nat.lt_irrefl _)
/-- every object of the heap is kept -/
theorem HOk.kept (x : HOk P w H h) (k : ∀ b u, h.get? b = some u → h'.get? b = some u) : HOk P w H h' := fun a o e =>
  (x a o e).stay (fun b u _ q => k b u q) (fun _ q => q) fun _ _ q => q
/-- a new object is laid and tracked -/
theorem HOk.laid (x : HOk P w H h) (k : ∀ b u, h.get? b = some u → h'.get? b = some u) (hp : h.objs.size ≤ a) (new : ObjOk P w (upd H a o) h' a o) : HOk P w (upd H a o) h' := fun b u e => by
  have hn := x.fresh hp
  by_cases hb : b = a
  · subst hb; rw [upd_same] at e; cases e; exact new
  · rw [upd_ne hb] at e
    exact (x b u e).stay (fun c v _ q => k c v q) (fun c q => by rw [upd_ne (ne_of_none q hn)]; exact q) fun c xs q => by rw [upd_ne (ne_of_none q hn)]; exact q
end
/-- what may be read as u: it is u, or a known u -/
def Rd (H : Hp) (a : Addr) (u : HO) : Prop := H a = some u ∨ ∃ o, H a = some (.frz o u)
theorem Rd.ok {P : Program} {w : World} {H : Hp} {h : Heap} {a : Addr} {u : HO} (r : Rd H a u) (x : HOk P w H h) : ObjOk P w H h a u := by
  rcases r with r | ⟨o, r⟩
  · exact x a u r
  · obtain ⟨_, q⟩ := x a _ r
    exact q
/-- what may be written -/
def Mut : Option HO → Prop
  | some (.lst _) => True
  | some (.dK _) => True
  | some (.dT _) => True
  | some (.set _ _) => True
  | some (.ins _ _ _) => True
  | some (.ext _) => True
  | _ => False
section
variable {P : Program} {w : World} {H : Hp} {h h' : Heap} {x e : Addr} {o' : HO}
/-- the object at e is changed: x itself, or the dict of the instance x -/
theorem HOk.write (ok : HOk P w H h) (mu : Mut (H x)) (he : e = x ∨ H e = some (.own x)) (k : ∀ b u, b ≠ e → h.get? b = some u → h'.get? b = some u) (heo : ∃ u, h'.get? e = some u)
    (new : ObjOk P w (upd H x o') h' x o') : HOk P w (upd H x o') h' := fun b u q => by
  have nown : ∀ c y, H c = some (.own y) → c ≠ x := fun c y r z => by subst z; rw [r] at mu; exact mu
  have ntup : ∀ c xs, H c = some (.tup xs) → c ≠ x := fun c xs r z => by subst z; rw [r] at mu; exact mu
  by_cases hb : b = x
  · subst hb; rw [upd_same] at q; cases q; exact new
  · rw [upd_ne hb] at q
    by_cases hbe : b = e
    · have q' : H b = some (.own x) := by
        rcases he with z | z
        · exact absurd (hbe.trans z) hb
        · rw [hbe]; exact z
      rw [q] at q'; cases q'
      obtain ⟨v, hv⟩ := heo
      exact ⟨v, by rw [hbe]; exact hv⟩
    · refine (ok b u q).stay (fun c v hc r => k c v ?_ r) (fun c r => by rw [upd_ne (nown c b r)]; exact r) fun c xs r => by rw [upd_ne (ntup c xs r)]; exact r
      rcases hc with rfl | hc
      · exact hbe
      · rintro rfl
        rcases he with z | z
        · exact nown c b hc z
        · rw [hc] at z; cases z; exact hb rfl
end
structure Un (fs ex : List Addr) (H H' : Hp) (h h' : Heap) : Prop where
  keep : ∀ b o, h.get? b = some o → H b = none → b ∉ fs → b ∉ ex → h'.get? b = some o
  slot : ∀ b o, h.get? b = some o → H b = none → b ∈ fs → b ∉ ex → ∃ sl, h'.get? b = some { o with slots := sl }
  free : ∀ b o, h.get? b = some o → H b = none → b ∉ ex → H' b = none
  there : ∀ b o, h.get? b = some o → b ∉ ex → ∃ o', h'.get? b = some o'
  tups : ∀ b xs, H b = some (.tup xs) → H' b = some (.tup xs)
  frzs : ∀ b o u, H b = some (.frz o u) → H' b = some (.frz o u)
  tbls : ∀ b ps, H b = some (.tbl ps) → ∃ more, H' b = some (.tbl (ps ++ more))
section
variable {fs fs' ex ex' : List Addr} {H H1 H2 : Hp} {h h1 h2 h' : Heap} {a x e : Addr} {o : HO}
theorem Un.any (u : Un fs ex H H1 h h1) {b : Addr} {ob : Obj} (q : h.get? b = some ob) (n : H b = none) (hx : b ∉ ex) : ∃ sl, h1.get? b = some { ob with slots := sl } := by
  by_cases hb : b ∈ fs
  · exact u.slot b ob q n hb hx
  · exact ⟨ob.slots, u.keep b ob q n hb hx⟩
theorem Un.kept (k : ∀ b u, h.get? b = some u → h'.get? b = some u) : Un fs ex H H h h' :=
  ⟨fun b ob q _ _ _ => k b ob q, fun b ob q _ _ _ => ⟨ob.slots, k b ob q⟩, fun _ _ _ n _ => n, fun b ob q _ => ⟨ob, k b ob q⟩, fun _ _ q => q, fun _ _ _ q => q, fun _ ps q => ⟨#[], by rw [q]; simp⟩⟩
theorem Un.refl : Un fs ex H H h h := Un.kept fun _ _ q => q
theorem Un.laid (k : ∀ b u, h.get? b = some u → h'.get? b = some u) (hp : h.objs.size ≤ a) (hn : H a = none) : Un fs ex H (upd H a o) h h' where
  keep := fun b u q _ _ _ => k b u q
  slot := fun b u q _ _ _ => ⟨u.slots, k b u q⟩
  free := fun b u q n _ => by rw [upd_ne (Nat.ne_of_lt (Nat.lt_of_lt_of_le (Heap.lt_size q) hp))]; exact n
  there := fun b u q _ => ⟨u, k b u q⟩
  tups := fun b xs q => by rw [upd_ne (ne_of_none q hn)]; exact q
  frzs := fun b u xs q => by rw [upd_ne (ne_of_none q hn)]; exact q
  tbls := fun b ps q => ⟨#[], by rw [upd_ne (ne_of_none q hn), q]; simp⟩
theorem Un.write (mu : Mut (H x)) (he : e = x ∨ H e = some (.own x)) (k : ∀ b u, b ≠ e → h.get? b = some u → h'.get? b = some u) (heo : ∃ u, h'.get? e = some u) : Un fs ex H (upd H x o) h h' := by
  have hx : ∀ b, H b = none → b ≠ x := fun b n z => by subst z; rw [n] at mu; exact mu
  have hb : ∀ b, H b = none → b ≠ e := fun b n z => by
    subst z
    rcases he with r | r
    · exact hx b n r
    · rw [n] at r; cases r
  have hm : ∀ b u, H b = some u → ¬ Mut (some u) → b ≠ x := fun b u q nm z => by subst z; rw [q] at mu; exact nm mu
  refine ⟨fun b u q n _ _ => k b u (hb b n) q, fun b u q n _ _ => ⟨u.slots, k b u (hb b n) q⟩, fun b u q n _ => by rw [upd_ne (hx b n)]; exact n, fun b u q _ => ?_,
    fun b xs q => by rw [upd_ne (hm b _ q fun z => z)]; exact q, fun b u xs q => by rw [upd_ne (hm b _ q fun z => z)]; exact q, fun b ps q => ⟨#[], by rw [upd_ne (hm b _ q fun z => z), q]; simp⟩⟩
  by_cases hbe : b = e
  · subst hbe; exact heo
  · exact ⟨u, k b u hbe q⟩
end
def trk (h : Heap) (H : Hp) : List Addr := (List.range h.objs.size).filter fun a => (H a).isSome
def hidT (h : Heap) (H : Hp) : Heap := PySem.W.hideAll h (trk h H)
theorem hidT_size (h : Heap) (H : Hp) : (hidT h H).objs.size = h.objs.size := PySem.W.hideAll_size _ _
theorem hidT_get {h : Heap} {H : Hp} {b : Addr} {o : Obj} (e : h.get? b = some o) (n : H b = none) : (hidT h H).get? b = some o :=
  PySem.W.hideAll_get _ e fun hm => by
    have q : (H b).isSome = true := (List.mem_filter.mp hm).2
    rw [n] at q; simp at q
theorem of_hidT {h : Heap} {H : Hp} {b : Addr} {o : Obj} (e : (hidT h H).get? b = some o) : h.get? b = some o ∧ H b = none := by
  have e' : h.get? b = some o := PySem.W.of_hideAll (trk h H) e
  refine ⟨e', ?_⟩
  cases q : H b with
  | none => rfl
  | some x =>
    have hm : b ∈ trk h H := List.mem_filter.mpr ⟨List.mem_range.mpr (Heap.lt_size e'), by simp [q]⟩
    have z : (hidT h H).get? b = none := PySem.W.hideAll_none (trk h H) hm
    rw [z] at e; cases e

end L2
namespace L2
open PySem PySem.Spec PyProof.Rows
/-- the module's facts, over the base: the heap at the law's entry without what is tracked there -/
structure Mod (K : PySem.W.Frag) (mg : Str → Option Value) (base : Heap) : Prop where
  kin : K.In base
  glob : base.Ns mainGlobals mg
  blt : ∃ mb, base.Ns builtinsNs mb ∧ ∀ x : Str, x ≠ "__name__" → mb x = bootBuiltins x
  nolimit : base.NoLimit

/-- the context: a def's body (or a comprehension's block) running. base: fixed through the whole law; s₀, H₀: the entry; outer: the frames whose slots others may change (a def's callers); stack: all frames that run;
   ex: iterators that were made ahead of the entry and are walked here (a comprehension's); fn: the names whose cells were made at the entry (a def: all; a comprehension's block: its own); calm: not within an except suite; pn: pins that every state bears; xe: what is wanted of an exception that leaves the code -/
structure Cx where
  prog : Program
  w : World
  K : PySem.W.Frag
  mg : Str → Option Value
  base : Heap
  A : Around
  N : List Str
  s₀ : Shared
  H₀ : Hp
  env : Env
  outer : List Env
  stack : List Env
  ex : List Addr
  fn : Str → Bool
  calm : Bool
  pn : List (Addr × Obj)
  xe : Value → Shared → Prop
/-- the callers' frames -/
def frs (l : List Env) : List Addr := l.filterMap (·.frame)
abbrev Cx.fs (X : Cx) : List Addr := frs X.outer

def Vis (sc : Scope) (x : Str) : Prop := sc.names.lookup x = some .local ∨ sc.names.lookup x = some .cell ∨ sc.names.lookup x = some .free
def Loc (sc : Scope) (x : Str) : Prop := sc.names.lookup x = some .local ∨ sc.names.lookup x = some .cell
def Look (env : Env) (h : Heap) (m : Str → Option Value) (x : Str) (u : Value) : Prop :=
  (env.kindOf x = some .local ∧ m x = some u) ∨ ((env.kindOf x = some .cell ∨ env.kindOf x = some .free) ∧ ∃ c, env.cells.lookup x = some c ∧ h.IsCell c (some u))

structure Cx.Ok (X : Cx) : Prop where
  mod : Mod X.K X.mg X.base
  kind : X.env.scope.kind = .function
  glob : X.env.globals = mainGlobals
  blt : X.env.builtins = builtinsNs
  above : X.s₀.heap.objs.size ≤ X.env.locals
  inj : ∀ x y c, X.env.cells.lookup x = some c → X.env.cells.lookup y = some c → x = y
  has : ∀ x, (X.env.kindOf x = some .cell ∨ X.env.kindOf x = some .free) → ∃ c, X.env.cells.lookup x = some c
  cab : ∀ x c, X.fn x = true → X.env.cells.lookup x = some c → X.s₀.heap.objs.size ≤ c
  hd : X.calm = true → X.A.handled = none
  frames : X.A.frames = some X.stack
  stk : X.stack = X.outer ∨ (X.stack = X.env :: X.outer ∧ X.env.frame = some X.env.locals)
  exf : ∀ b ∈ X.ex, b ≠ X.env.locals ∧ ∀ x c, X.env.cells.lookup x = some c → c ≠ b
  bs : ∀ b o, X.base.get? b = some o → X.s₀.heap.get? b = some o ∧ X.H₀ b = none
  bsz : X.base.objs.size ≤ X.s₀.heap.objs.size
  noex : ∀ b o, X.base.get? b = some o → b ∉ X.ex
  exfs : ∀ b ∈ X.ex, b ∉ X.fs
  funs : X.s₀.heap.FunFrames X.base X.outer
  frf : ∀ b ∈ X.fs, X.H₀ b = none

structure Inv (X : Cx) (pins : List (Addr × Obj)) (σ : List (Option V)) (H : Hp) (s : Shared) : Prop where
  ok : X.Ok
  os : s.os = X.s₀.os
  bare : AllBare s.gens
  base : Un X.fs X.ex X.H₀ H X.s₀.heap s.heap
  loc : ∃ m, s.heap.Ns X.env.locals m ∧ ∀ (i : Nat) (x : Str) (v : V), X.N[i]? = some x → σ[i]? = some (some v) → Vis X.env.scope x → ∃ u, RelV v u ∧ Look X.env s.heap m x u
  cell : ∀ x c, X.env.cells.lookup x = some c → ∃ v, s.heap.IsCell c v
  free : H X.env.locals = none
  freeC : ∀ x c, X.env.cells.lookup x = some c → H c = none
  pin : ∀ p ∈ X.pn ++ pins, s.heap.get? p.1 = some p.2 ∧ H p.1 = none ∧ p.1 ≠ X.env.locals ∧ p.1 ∉ X.fs ∧ ∀ v, p.2.data ≠ .cell v
  hok : HOk X.prog X.w H s.heap
  len : σ.length = X.N.length

section
variable {X : Cx} {pins : List (Addr × Obj)} {σ : List (Option V)} {H H' : Hp} {s : Shared} {h' : Heap}
theorem Cx.Ok.nofr (ok : X.Ok) {b : Addr} {o : Obj} (e : X.base.get? b = some o) : b ∉ X.fs := fun hb => by
  have := (ok.funs.mem hb).1
  rw [e] at this; cases this
theorem Inv.bs (I : Inv X pins σ H s) : ∀ b o, X.base.get? b = some o → s.heap.get? b = some o ∧ H b = none := fun b o e =>
  ⟨I.base.keep b o (I.ok.bs b o e).1 (I.ok.bs b o e).2 (I.ok.nofr e) (I.ok.noex b o e), I.base.free b o (I.ok.bs b o e).1 (I.ok.bs b o e).2 (I.ok.noex b o e)⟩
theorem Inv.bk (I : Inv X pins σ H s) : ∀ b o, X.base.get? b = some o → s.heap.get? b = some o := fun b o e => (I.bs b o e).1
theorem Inv.mod (I : Inv X pins σ H s) : Mod X.K X.mg X.base := I.ok.mod
theorem Inv.kIn (I : Inv X pins σ H s) : X.K.In s.heap := I.ok.mod.kin.keeps I.bk
theorem Inv.nolimit (I : Inv X pins σ H s) : s.heap.NoLimit := I.ok.mod.nolimit.keeps I.bk
theorem Inv.lt (I : Inv X pins σ H s) : X.env.locals < s.heap.objs.size := let ⟨_, hn, _⟩ := I.loc; hn.lt
theorem Inv.sz (I : Inv X pins σ H s) : X.s₀.heap.objs.size ≤ s.heap.objs.size := Nat.le_trans I.ok.above (Nat.le_of_lt I.lt)
theorem Inv.nofs (I : Inv X pins σ H s) {a : Addr} (h : s.heap.objs.size ≤ a) : a ∉ X.fs := fun hb => by
  obtain ⟨_, o, ho, _⟩ := I.ok.funs.mem hb
  exact absurd (Nat.lt_of_lt_of_le (Heap.lt_size ho) (Nat.le_trans I.sz h)) (Nat.lt_irrefl _)
theorem Inv.cne (I : Inv X pins σ H s) : ∀ x c, X.env.cells.lookup x = some c → c ≠ X.env.locals := fun x c e z => by
  obtain ⟨v, o, ho, hd⟩ := I.cell x c e
  obtain ⟨m, ⟨o', es, ep, ho', hd', _⟩, _⟩ := I.loc
  rw [z, ho'] at ho; cases ho; rw [hd'] at hd; cases hd
theorem Inv.funs (I : Inv X pins σ H s) : s.heap.FunFrames X.base X.outer := by
  have all : ∀ (l : List Env), (∀ b ∈ frs l, b ∈ X.fs) → X.s₀.heap.FunFrames X.base l → s.heap.FunFrames X.base l := by
    intro l
    induction l with
    | nil => intro _ _; trivial
    | cons env r ih =>
      intro hs hl
      obtain ⟨hk, ⟨L, o, hf, hn, ho, hd⟩, hr⟩ := hl
      have hL : L ∈ X.fs := hs L (by unfold frs; rw [List.filterMap_cons, hf]; exact List.mem_cons_self)
      obtain ⟨sl, e⟩ := I.base.slot L o ho (I.ok.frf L hL) hL fun z => I.ok.exfs L z hL
      exact ⟨hk, ⟨L, _, hf, hn, e, hd⟩, ih (fun b hb => hs b (by unfold frs; rw [List.filterMap_cons, hf]; exact List.mem_cons_of_mem _ hb)) hr⟩
  exact all X.outer (fun _ hb => hb) I.ok.funs

/-- the frames that run, for a call -/
theorem Inv.stack (I : Inv X pins σ H s) : s.heap.FunFrames X.base X.stack := by
  rcases I.ok.stk with e | ⟨e, hf⟩
  · rw [e]; exact I.funs
  · rw [e]
    obtain ⟨m, hn, _⟩ := I.loc
    refine .cons (by rw [I.ok.kind]; decide) hf hn ?_ I.funs
    exact Heap.get?_none_of_le (Nat.le_trans I.ok.bsz I.ok.above)
theorem Inv.stkSub (I : Inv X pins σ H s) : ∀ b ∈ frs X.stack, b ∈ X.env.locals :: X.fs := fun b hb => by
  rcases I.ok.stk with e | ⟨e, hf⟩
  · rw [e] at hb; exact List.mem_cons_of_mem _ hb
  · rw [e] at hb
    unfold frs at hb
    rw [List.filterMap_cons, hf] at hb
    exact hb
theorem Inv.stkFree (I : Inv X pins σ H s) : ∀ b ∈ frs X.stack, H b = none := fun b hb => by
  rcases List.mem_cons.mp (I.stkSub b hb) with e | hb
  · rw [e]; exact I.free
  · obtain ⟨_, o, ho, _⟩ := I.ok.funs.mem hb
    exact I.base.free b o ho (I.ok.frf b hb) fun z => I.ok.exfs b z hb

/-- THE STEP: the untracked objects but the frame and the records at ch are kept (the callers' frames up to slots), the frame's map is kept, the new abstract heap is held -/
theorem Inv.step {g' : Array GenState} {t' : Nat} {d' : Drawn} {ch : List Addr} (I : Inv X pins σ H s)
    (hch : ∀ b ∈ ch, (b ∈ X.ex ∨ X.s₀.heap.objs.size ≤ b) ∧ b ≠ X.env.locals ∧ (∀ x c, X.env.cells.lookup x = some c → c ≠ b) ∧ ∀ p ∈ X.pn ++ pins, p.1 ≠ b)
    (keep : ∀ b o, b ≠ X.env.locals → b ∉ X.fs → b ∉ ch → s.heap.get? b = some o → H b = none → h'.get? b = some o)
    (slot : ∀ b o, b ≠ X.env.locals → b ∈ X.fs → b ∉ ch → s.heap.get? b = some o → H b = none → ∃ sl, h'.get? b = some { o with slots := sl }) (free : ∀ b o, b ∉ ch → s.heap.get? b = some o → H b = none → H' b = none)
    (there : ∀ b o, b ∉ ch → s.heap.get? b = some o → ∃ o', h'.get? b = some o')
    (tups : ∀ b xs, H b = some (.tup xs) → H' b = some (.tup xs)) (frzs : ∀ b o u, H b = some (.frz o u) → H' b = some (.frz o u)) (tbls : ∀ b ps, H b = some (.tbl ps) → ∃ more, H' b = some (.tbl (ps ++ more)))
    (ns : ∀ m, s.heap.Ns X.env.locals m → h'.Ns X.env.locals m) (hok : HOk X.prog X.w H' h') (hg : AllBare g') :
    Inv X pins σ H' { s with heap := h', gens := g', drawn := d', toks := t' } := by
  have neL : ∀ b o, X.s₀.heap.get? b = some o → b ≠ X.env.locals := fun b o e => Nat.ne_of_lt (Nat.lt_of_lt_of_le (Heap.lt_size e) I.ok.above)
  have neC : ∀ b o, X.s₀.heap.get? b = some o → b ∉ X.ex → b ∉ ch := fun b o e hx hb => by
    rcases (hch b hb).1 with z | z
    · exact hx z
    · exact absurd (Nat.lt_of_lt_of_le (Heap.lt_size e) z) (Nat.lt_irrefl _)
  have cellK : ∀ x c, X.env.cells.lookup x = some c → ∀ v, s.heap.IsCell c v → h'.IsCell c v := fun x c e v ⟨o, ho, hd⟩ => by
    have nch : c ∉ ch := fun z => (hch c z).2.2.1 x c e rfl
    by_cases hc : c ∈ X.fs
    · obtain ⟨sl, q⟩ := slot c o (I.cne x c e) hc nch ho (I.freeC x c e)
      exact ⟨_, q, hd⟩
    · exact ⟨o, keep c o (I.cne x c e) hc nch ho (I.freeC x c e), hd⟩
  refine ⟨I.ok, I.os, hg, ⟨fun b o e n hb hx => ?_, fun b o e n hb hx => ?_, fun b o e n hx => ?_, fun b o e hx => ?_, fun b xs e => tups b xs (I.base.tups b xs e), fun b o xs e => frzs b o xs (I.base.frzs b o xs e), fun b ps e => ?_⟩, ?_, fun x c e => ?_, ?_, fun x c e => ?_, fun p hp => ?_, hok, I.len⟩
  · exact keep b o (neL b o e) hb (neC b o e hx) (I.base.keep b o e n hb hx) (I.base.free b o e n hx)
  · obtain ⟨sl, e1⟩ := I.base.slot b o e n hb hx
    obtain ⟨sl', e2⟩ := slot b _ (neL b o e) hb (neC b o e hx) e1 (I.base.free b o e n hx)
    exact ⟨sl', e2⟩
  · obtain ⟨o', e1⟩ := I.base.there b o e hx
    exact free b o' (neC b o e hx) e1 (I.base.free b o e n hx)
  · obtain ⟨o', e1⟩ := I.base.there b o e hx
    exact there b o' (neC b o e hx) e1
  · obtain ⟨m1, e1⟩ := I.base.tbls b ps e
    obtain ⟨m2, e2⟩ := tbls b _ e1
    exact ⟨m1 ++ m2, by rw [e2, Array.append_assoc]⟩
  · obtain ⟨m, hn, hl⟩ := I.loc
    refine ⟨m, ns m hn, fun i x v e1 e2 e3 => ?_⟩
    obtain ⟨u, r, l⟩ := hl i x v e1 e2 e3
    refine ⟨u, r, ?_⟩
    rcases l with l | ⟨k, c, e, z⟩
    · exact .inl l
    · exact .inr ⟨k, c, e, cellK x c e _ z⟩
  · obtain ⟨v, z⟩ := I.cell x c e
    exact ⟨v, cellK x c e v z⟩
  · obtain ⟨m, ⟨o, _, _, ho, _⟩, _⟩ := I.loc
    exact free _ o (fun z => (hch _ z).2.1 rfl) ho I.free
  · obtain ⟨v, o, ho, hd⟩ := I.cell x c e
    exact free c o (fun z => (hch c z).2.2.1 x c e rfl) ho (I.freeC x c e)
  · obtain ⟨e, n, ne, nf, d⟩ := I.pin p hp
    have nch : p.1 ∉ ch := fun z => (hch p.1 z).2.2.2 p hp rfl
    exact ⟨keep p.1 p.2 ne nf nch e n, free p.1 p.2 nch e n, ne, nf, d⟩
/-- .. where the frame's own object is kept too -/
theorem Inv.un {t' : Nat} (I : Inv X pins σ H s) (u : Un X.fs [] H H' s.heap h') (hok : HOk X.prog X.w H' h') : Inv X pins σ H' { s with heap := h', toks := t' } := by
  obtain ⟨m, ⟨o, es, ep, ho, r⟩, _⟩ := id I.loc
  obtain ⟨sl, hL⟩ := u.any ho I.free (by simp)
  exact I.step (g' := s.gens) (d' := s.drawn) (ch := []) (fun _ z => nomatch z) (fun b o _ hb _ e n => u.keep b o e n hb (by simp)) (fun b o _ hb _ e n => u.slot b o e n hb (by simp)) (fun b o _ e n => u.free b o e n (by simp)) (fun b o _ e => u.there b o e (by simp)) u.tups u.frzs u.tbls (fun m' hm => by
    obtain ⟨o', es', ep', ho', r'⟩ := hm
    rw [ho] at ho'; cases ho'
    exact ⟨_, es', ep', hL, r'⟩) hok I.bare
/-- behind a call (or a comprehension's block): the slots of this frame may have changed too, the records at ch may have turned -/
theorem Inv.call {g' : Array GenState} {t' : Nat} {d' : Drawn} {ch : List Addr} (I : Inv X pins σ H s) (u : Un (frs X.stack) ch H H' s.heap h') (hok : HOk X.prog X.w H' h') (hg : AllBare g')
    (hch : ∀ b ∈ ch, (b ∈ X.ex ∨ X.s₀.heap.objs.size ≤ b) ∧ b ≠ X.env.locals ∧ (∀ x c, X.env.cells.lookup x = some c → c ≠ b) ∧ ∀ p ∈ X.pn ++ pins, p.1 ≠ b) :
    Inv X pins σ H' { s with heap := h', gens := g', drawn := d', toks := t' } := by
  obtain ⟨m, ⟨o, es, ep, ho, r⟩, _⟩ := id I.loc
  obtain ⟨sl, hL⟩ := u.any ho I.free fun z => (hch _ z).2.1 rfl
  exact I.step (ch := ch) hch (fun b o hL hb hc e n => u.keep b o e n (fun z => (List.mem_cons.mp (I.stkSub b z)).elim hL hb) hc) (fun b o _ _ hc e n => u.any e n hc) (fun b o hc e n => u.free b o e n hc) (fun b o hc e => u.there b o e hc) u.tups u.frzs u.tbls (fun m' hm => by
    obtain ⟨o', es', ep', ho', r'⟩ := hm
    rw [ho] at ho'; cases ho'
    exact ⟨_, es', ep', hL, r'⟩) hok hg
/-- an untracked record of ours (an iterator) has turned -/
theorem Inv.turned {t' : Nat} {it : Addr} (I : Inv X pins σ H s) (k : ∀ b o, b ≠ it → s.heap.get? b = some o → h'.get? b = some o) (hn : H it = none) (hL : it ≠ X.env.locals)
    (h1 : it ∈ X.ex ∨ X.s₀.heap.objs.size ≤ it) (h2 : ∀ x c, X.env.cells.lookup x = some c → c ≠ it) (h3 : ∀ p ∈ X.pn ++ pins, p.1 ≠ it) : Inv X pins σ H { s with heap := h', toks := t' } := by
  have nit : ∀ b u, H b = some u → b ≠ it := fun b u e z => by rw [z, hn] at e; cases e
  refine I.step (g' := s.gens) (d' := s.drawn) (ch := [it]) (fun b hb => ?_) (fun b o _ _ hc e _ => k b o (fun z => hc (by simp [z])) e) (fun b o _ _ hc e _ => ⟨o.slots, k b o (fun z => hc (by simp [z])) e⟩) (fun _ _ _ _ n => n)
    (fun b o hc e => ⟨o, k b o (fun z => hc (by simp [z])) e⟩) (fun _ _ e => e) (fun _ _ _ e => e) (fun b ps e => ⟨#[], by rw [e]; simp⟩) (fun m hm => ?_) (fun b u e => ?_) I.bare
  · have e : b = it := by simpa using hb
    subst e
    exact ⟨h1, hL, h2, h3⟩
  · obtain ⟨o, es, ep, ho, r⟩ := hm
    exact ⟨o, es, ep, k _ o (Ne.symm hL) ho, r⟩
  · refine (I.hok b u e).stay (fun c v hc q => k c v ?_ q) (fun _ q => q) fun _ _ q => q
    rcases hc with z | z
    · rw [z]; exact nit b u e
    · exact nit c _ z
theorem Inv.tok (I : Inv X pins σ H s) (t : Nat) : Inv X pins σ H { s with toks := t } := I.un (h' := s.heap) (t' := t) Un.refl I.hok
/-- all objects kept -/
theorem Inv.kept {t' : Nat} (I : Inv X pins σ H s) (k : ∀ b u, s.heap.get? b = some u → h'.get? b = some u) : Inv X pins σ H { s with heap := h', toks := t' } := I.un (Un.kept k) (I.hok.kept k)
/-- a new object laid and tracked -/
theorem Inv.laid {a : Addr} {o : HO} {t' : Nat} (I : Inv X pins σ H s) (k : ∀ b u, s.heap.get? b = some u → h'.get? b = some u) (hp : s.heap.objs.size ≤ a) (new : ObjOk X.prog X.w (upd H a o) h' a o) :
    Inv X pins σ (upd H a o) { s with heap := h', toks := t' } := I.un (Un.laid k hp (I.hok.fresh hp)) (I.hok.laid k hp new)
/-- an object written -/
theorem Inv.write {x e : Addr} {o : HO} {t' : Nat} (I : Inv X pins σ H s) (mu : Mut (H x)) (he : e = x ∨ H e = some (.own x)) (k : ∀ b u, b ≠ e → s.heap.get? b = some u → h'.get? b = some u) (heo : ∃ u, h'.get? e = some u)
    (new : ObjOk X.prog X.w (upd H x o) h' x o) : Inv X pins σ (upd H x o) { s with heap := h', toks := t' } := I.un (Un.write mu he k heo) (I.hok.write mu he k heo new)
theorem Inv.pins_of {pins' : List (Addr × Obj)} (I : Inv X pins σ H s) (h : ∀ p ∈ pins', s.heap.get? p.1 = some p.2 ∧ H p.1 = none ∧ p.1 ≠ X.env.locals ∧ p.1 ∉ X.fs ∧ ∀ v, p.2.data ≠ .cell v) : Inv X pins' σ H s :=
  ⟨I.ok, I.os, I.bare, I.base, I.loc, I.cell, I.free, I.freeC, fun p hp => (List.mem_append.mp hp).elim (fun z => I.pin p (List.mem_append_left _ z)) (h p), I.hok, I.len⟩

theorem nodup_ix {N : List Str} (hN : N.Nodup) {i j : Nat} {x : Str} (a : N[i]? = some x) (b : N[j]? = some x) : i = j := by
  obtain ⟨h1, e1⟩ := List.getElem?_eq_some_iff.mp a
  obtain ⟨h2, e2⟩ := List.getElem?_eq_some_iff.mp b
  exact (List.getElem_inj hN).mp (e1.trans e2.symm)

/-- a name is stored; what changed -/
theorem store_ok2 {M : Model} {A : Around} {E : Value → Shared → Prop} {i : Nat} {x : Str} {v : V} {u : Value} {Q : Unit → Shared → Prop} (I : Inv X pins σ H s) (hN : X.N.Nodup) (hi : X.N[i]? = some x) (hx : Loc X.env.scope x) (r : RelV v u)
    (h : ∀ s', Inv X pins (σ.set i (some v)) H s' → (∃ a, Heap.SameBut a s.heap s'.heap ∧ (a = X.env.locals ∨ X.env.cells.lookup x = some a)) → Q () s') (hf : X.fn x = true ∨ X.env.scope.names.lookup x = some .local := by first | exact .inl rfl | exact .inr rfl | assumption) : wpAny M A (storeName X.env x u) Q E s := by
  obtain ⟨m, hn, hl⟩ := id I.loc
  have hcls : (X.env.scope.kind == .class || (X.env.scope.kind == .module && X.env.locals != X.env.globals)) = false := by rw [I.ok.kind]; rfl
  have hiσ : i < σ.length := by rw [I.len]; exact (List.getElem?_eq_some_iff.mp hi).1
  have cne := I.cne
  have tracked : ∀ {a : Addr} {h' : Heap}, (∃ o, s.heap.get? a = some o ∧ H a = none) → Heap.SameBut a s.heap h' → HOk X.prog X.w H h' := fun {a h'} ha hs b ob e => by
    obtain ⟨_, _, hfree⟩ := ha
    refine (I.hok b ob e).stay (fun c w' hc q => (hs.2 c ?_).trans q) (fun _ q => q) fun _ _ q => q
    rintro rfl
    rcases hc with rfl | hc
    · rw [hfree] at e; cases e
    · rw [hfree] at hc; cases hc
  rcases hx with hk | hk
  · refine wpAny_storeName_local hk hn (fun h' hn' hs => ?_) hcls
    obtain ⟨oL, _, _, hoL, _⟩ := id hn
    refine h _ ⟨I.ok, I.os, I.bare, ⟨fun b o e n hb hx => ?_, fun b o e n hb hx => ?_, I.base.free, fun b o e hx => ?_, I.base.tups, I.base.frzs, I.base.tbls⟩, ⟨_, hn', fun j y v' e1 e2 e3 => ?_⟩, fun y c e => ?_, I.free, I.freeC, fun p hp => ?_, tracked ⟨oL, hoL, I.free⟩ hs, by simpa using I.len⟩ ⟨_, hs, .inl rfl⟩
    · exact (hs.2 b (Nat.ne_of_lt (Nat.lt_of_lt_of_le (Heap.lt_size e) I.ok.above))).trans (I.base.keep b o e n hb hx)
    · obtain ⟨sl, e1⟩ := I.base.slot b o e n hb hx
      exact ⟨sl, (hs.2 b (Nat.ne_of_lt (Nat.lt_of_lt_of_le (Heap.lt_size e) I.ok.above))).trans e1⟩
    · obtain ⟨o', e1⟩ := I.base.there b o e hx
      exact ⟨o', (hs.2 b (Nat.ne_of_lt (Nat.lt_of_lt_of_le (Heap.lt_size e) I.ok.above))).trans e1⟩
    · by_cases hj : j = i
      · subst hj
        rw [hi] at e1; cases e1
        rw [List.getElem?_set_self hiσ] at e2
        cases e2
        exact ⟨u, r, .inl ⟨hk, by simp⟩⟩
      · rw [List.getElem?_set_ne (Ne.symm hj)] at e2
        obtain ⟨u', r', q⟩ := hl j y v' e1 e2 e3
        refine ⟨u', r', ?_⟩
        rcases q with ⟨k, e⟩ | ⟨k, c, e, z⟩
        · refine .inl ⟨k, ?_⟩
          have : y ≠ x := fun e => hj (nodup_ix hN e1 (e ▸ hi))
          simp [this, e]
        · exact .inr ⟨k, c, e, z.sameBut hs (cne y c e)⟩
    · obtain ⟨w', z⟩ := I.cell y c e
      exact ⟨w', z.sameBut hs (cne y c e)⟩
    · obtain ⟨e, n, ne, nf, d⟩ := I.pin p hp
      exact ⟨(hs.2 p.1 ne).trans e, n, ne, nf, d⟩
  · have hfn : X.fn x = true := by
      rcases hf with z | z
      · exact z
      · rw [z] at hk; cases hk
    obtain ⟨c, hc⟩ := I.ok.has x (.inl hk)
    obtain ⟨w', z⟩ := I.cell x c hc
    refine wpAny_storeName_cell I.ok.kind hk hc z (fun h' hc' hs => ?_)
    obtain ⟨oc, hoc, hocd⟩ := id z
    refine h { s with heap := h' } ⟨I.ok, I.os, I.bare, ⟨fun b o e n hb hx => ?_, fun b o e n hb hx => ?_, I.base.free, fun b o e hx => ?_, I.base.tups, I.base.frzs, I.base.tbls⟩, ⟨m, hn.sameBut hs (Ne.symm (cne x c hc)), fun j y v' e1 e2 e3 => ?_⟩, fun y c' e => ?_, I.free, I.freeC, fun p hp => ?_, tracked ⟨oc, hoc, I.freeC x c hc⟩ hs, by simpa using I.len⟩ ⟨c, hs, .inr hc⟩
    · exact (hs.2 b (Nat.ne_of_lt (Nat.lt_of_lt_of_le (Heap.lt_size e) (I.ok.cab x c hfn hc)))).trans (I.base.keep b o e n hb hx)
    · obtain ⟨sl, e1⟩ := I.base.slot b o e n hb hx
      exact ⟨sl, (hs.2 b (Nat.ne_of_lt (Nat.lt_of_lt_of_le (Heap.lt_size e) (I.ok.cab x c hfn hc)))).trans e1⟩
    · obtain ⟨o', e1⟩ := I.base.there b o e hx
      exact ⟨o', (hs.2 b (Nat.ne_of_lt (Nat.lt_of_lt_of_le (Heap.lt_size e) (I.ok.cab x c hfn hc)))).trans e1⟩
    · by_cases hj : j = i
      · subst hj
        rw [hi] at e1; cases e1
        rw [List.getElem?_set_self hiσ] at e2
        cases e2
        exact ⟨u, r, .inr ⟨.inl hk, c, hc, hc'⟩⟩
      · rw [List.getElem?_set_ne (Ne.symm hj)] at e2
        obtain ⟨u', r', q⟩ := hl j y v' e1 e2 e3
        refine ⟨u', r', ?_⟩
        rcases q with q | ⟨k, c', e, z'⟩
        · exact .inl q
        · refine .inr ⟨k, c', e, z'.sameBut hs ?_⟩
          rintro rfl
          exact hj (nodup_ix hN e1 (I.ok.inj _ _ _ e hc ▸ hi))
    · by_cases hcc : c' = c
      · subst hcc; exact ⟨_, hc'⟩
      · obtain ⟨w2, z2⟩ := I.cell y c' e
        exact ⟨w2, z2.sameBut hs hcc⟩
    · obtain ⟨e, n, ne, nf, d⟩ := I.pin p hp
      refine ⟨(hs.2 p.1 ?_).trans e, n, ne, nf, d⟩
      intro q
      rw [q, hoc] at e
      have q' : oc = p.2 := Option.some.inj e
      exact d w' (by rw [← q']; exact hocd)
theorem store_ok {M : Model} {A : Around} {E : Value → Shared → Prop} {i : Nat} {x : Str} {v : V} {u : Value} {Q : Unit → Shared → Prop} (I : Inv X pins σ H s) (hN : X.N.Nodup) (hi : X.N[i]? = some x) (hx : Loc X.env.scope x) (r : RelV v u)
    (h : ∀ s', Inv X pins (σ.set i (some v)) H s' → Q () s') (hf : X.fn x = true ∨ X.env.scope.names.lookup x = some .local := by first | exact .inl rfl | exact .inr rfl | assumption) : wpAny M A (storeName X.env x u) Q E s :=
  store_ok2 I hN hi hx r (fun s' I' _ => h s' I') hf
/-- behind a call or a block, the state as it is -/
theorem Inv.call' {s' : Shared} {ch : List Addr} (I : Inv X pins σ H s) (ho : s'.os = s.os) (u : Un (frs X.stack) ch H H' s.heap s'.heap) (hok : HOk X.prog X.w H' s'.heap) (hg : AllBare s'.gens)
    (hch : ∀ b ∈ ch, (b ∈ X.ex ∨ X.s₀.heap.objs.size ≤ b) ∧ b ≠ X.env.locals ∧ (∀ x c, X.env.cells.lookup x = some c → c ≠ b) ∧ ∀ p ∈ X.pn ++ pins, p.1 ≠ b) : Inv X pins σ H' s' := by
  obtain ⟨h', g', d', t', o'⟩ := s'
  have e : o' = s.os := ho
  subst e
  exact I.call (g' := g') (t' := t') (d' := d') u hok hg hch
end
/-- an exception: its class, its own dict's address (where it has one), the abstract heap behind it -/
abbrev XK := Value → Option Addr → Hp → Prop
abbrev St := List (Option V)
abbrev VK := V → Hp → Prop
/-- an expression's reading; a test's; an argument list's -/
abbrev TE := St → Hp → VK → Prop
abbrev TT := St → Hp → (Bool → Hp → Prop) → Prop
abbrev TA := St → Hp → (List V → Hp → Prop) → Prop
/-- what is wanted behind a statement -/
structure Ends where
  nx : St → Hp → Prop
  rt : VK
  bk : St → Hp → Prop := fun _ _ => False
  ct : St → Hp → Prop := fun _ _ => False
abbrev TS := Ends → St → Hp → Prop

def EP (X : Cx) (pins : List (Addr × Obj)) (σ : St) (Q : VK) (u : Value) (s' : Shared) : Prop := ∃ v H', Inv X pins σ H' s' ∧ RelV v u ∧ Q v H'
def TP (X : Cx) (pins : List (Addr × Obj)) (σ : St) (Q : Bool → Hp → Prop) (b : Bool) (s' : Shared) : Prop := ∃ H', Inv X pins σ H' s' ∧ Q b H'
def AP (X : Cx) (pins : List (Addr × Obj)) (σ : St) (Q : List V → Hp → Prop) (us : List Value) (s' : Shared) : Prop := ∃ vs H', Inv X pins σ H' s' ∧ Vals vs us ∧ Q vs H'
def SP (X : Cx) (pins : List (Addr × Obj)) (D : Ends) (f : Flow) (s' : Shared) : Prop :=
  match f with
  | .next => ∃ σ' H', Inv X pins σ' H' s' ∧ D.nx σ' H'
  | .brk => ∃ σ' H', Inv X pins σ' H' s' ∧ D.bk σ' H'
  | .cont => ∃ σ' H', Inv X pins σ' H' s' ∧ D.ct σ' H'
  | .ret u => ∃ v σ' H', Inv X pins σ' H' s' ∧ RelV v u ∧ D.rt v H'

def PE (X : Cx) (e : Expr) (t : TE) : Prop :=
  ∀ (pins : List (Addr × Obj)) (s : Shared) (σ : St) (H : Hp) (Q : VK), Inv X pins σ H s → t σ H Q → wpAny (model X.prog X.w) X.A (eval e X.env) (EP X pins σ Q) X.xe s
def PT (X : Cx) (e : Expr) (t : TT) : Prop :=
  ∀ (pins : List (Addr × Obj)) (s : Shared) (σ : St) (H : Hp) (Q : Bool → Hp → Prop), Inv X pins σ H s → t σ H Q → wpAny (model X.prog X.w) X.A (isTrue e X.env (eval e X.env)) (TP X pins σ Q) X.xe s
/-- a test whatever its 'whole' is (and, or) -/
def PW (X : Cx) (e : Expr) (t : TT) : Prop :=
  ∀ (whole : Sem Value) (pins : List (Addr × Obj)) (s : Shared) (σ : St) (H : Hp) (Q : Bool → Hp → Prop), Inv X pins σ H s → t σ H Q → wpAny (model X.prog X.w) X.A (isTrue e X.env whole) (TP X pins σ Q) X.xe s
theorem PW.pt {X : Cx} {e : Expr} {t : TT} (h : PW X e t) : PT X e t := h _
/-- an argument list (no star), from the left -/
def PA (X : Cx) (es : List Expr) (t : TA) : Prop :=
  ∀ (pos : Pos) (pins : List (Addr × Obj)) (s : Shared) (σ : St) (H : Hp) (Q : List V → Hp → Prop), Inv X pins σ H s → t σ H Q → wpAny (model X.prog X.w) X.A (spliced (backTo pos (starEach es X.env))) (AP X pins σ Q) X.xe s
def PS (X : Cx) (st : Stmt) (t : TS) : Prop :=
  ∀ (pins : List (Addr × Obj)) (s : Shared) (σ : St) (H : Hp) (D : Ends), Inv X pins σ H s → t D σ H → wpAny (model X.prog X.w) X.A (exec st X.env) (SP X pins D) X.xe s
def PSs (X : Cx) (st : List Stmt) (t : TS) : Prop :=
  ∀ (pins : List (Addr × Obj)) (s : Shared) (σ : St) (H : Hp) (D : Ends), Inv X pins σ H s → t D σ H → wpAny (model X.prog X.w) X.A (execs st X.env) (SP X pins D) X.xe s
/-- weaken the end -/
theorem thn {α : Type} {t : Sem α} {Q Q' : α → Shared → Prop} {M : Model} {A : Around} {E : Value → Shared → Prop} {s : Shared} (h : wpAny M A t Q E s) (hQ : ∀ a s, Q a s → Q' a s) : wpAny M A t Q' E s := wpAny_mono h hQ fun _ _ x => x
end L2
namespace L2
open PySem PySem.Spec PyProof.Rows
section
variable {X : Cx}
def tVar (i : Nat) : TE := fun σ H Q => ∃ v, σ[i]? = some (some v) ∧ Q v H
def tC (v : V) : TE := fun _ H Q => Q v H
theorem pe_var {i : Nat} {x : Str} {pos : Pos} (hN : X.N[i]? = some x) (hv : Vis X.env.scope x) (hd : (x == ("__debug__" : Str)) = false := by decide) (hcd : (x == ("__classdict__" : Str)) = false := by decide) : PE X (.Name x pos) (tVar i) := by
  intro pins s σ H Q I h
  obtain ⟨v, e, h⟩ := h
  obtain ⟨m, hn, hl⟩ := I.loc
  obtain ⟨u, r, l⟩ := hl i x v hN e hv
  have fin : EP X pins σ Q u s := ⟨v, H, I, r, h⟩
  rcases l with ⟨hk, hm⟩ | ⟨hk, c, hc, hcell⟩
  · exact wpAny_Name (wpAny_loadName_local I.ok.kind hk hn hm fin) hd
  · rcases hk with hk | hk
    · exact wpAny_Name (wpAny_loadName_cell I.ok.kind hk hc hcell fin) hd
    · exact wpAny_Name (wpAny_loadName_free I.ok.kind hk hc hcell fin hcd) hd
theorem pe_int {i j pos} : PE X (.Constant (.int i) j pos) (tC (.int i)) := fun _ _ _ H _ I h => wpAny_Constant_int ⟨.int i, H, I.tok _, ⟨_, rfl⟩, h⟩
theorem pe_bl {b j pos} : PE X (.Constant (.bool b) j pos) (tC (.bl b)) := fun _ _ _ H _ I h => Constant_bool ⟨.bl b, H, I, rfl, h⟩
theorem pe_non {j pos} : PE X (.Constant .none j pos) (tC .non) := fun _ _ _ H _ I h => Constant_none ⟨.non, H, I, rfl, h⟩
theorem pe_str {x j pos} : PE X (.Constant (.str x) j pos) (tC (.str x)) := fun _ _ _ H _ I h => Calls.Constant_str ⟨.str x, H, I.tok _, ⟨_, rfl⟩, h⟩

/-- a global name of the def -/
def Gl (X : Cx) (x : Str) : Prop := X.env.kindOf x = some .globalImplicit
theorem ld_glob {E : Value → Shared → Prop} {pins : List (Addr × Obj)} {s : Shared} {σ : St} {H : Hp} {x : Str} {u : Value} {pos : Pos} {Q : Value → Shared → Prop} (I : Inv X pins σ H s) (hg : Gl X x) (hm : X.mg x = some u) (h : Q u s)
    (hd : (x == ("__debug__" : Str)) = false := by decide) : wpAny (model X.prog X.w) X.A (eval (.Name x pos) X.env) Q E s :=
  Calls.Name_function_global I.ok.kind hg (Calls.loadGlobal_global (by rw [I.ok.glob]; exact I.mod.glob.keeps I.bk) hm h) hd
theorem ld_blt {E : Value → Shared → Prop} {pins : List (Addr × Obj)} {s : Shared} {σ : St} {H : Hp} {x : Str} {u : Value} {pos : Pos} {Q : Value → Shared → Prop} (I : Inv X pins σ H s) (hg : Gl X x) (hm : X.mg x = none) (hv : bootBuiltins x = some u) (h : Q u s)
    (hn : x ≠ "__name__" := by decide) (hd : (x == ("__debug__" : Str)) = false := by decide) : wpAny (model X.prog X.w) X.A (eval (.Name x pos) X.env) Q E s := by
  obtain ⟨mb, h1, h2⟩ := I.mod.blt
  exact Calls.Name_function_global I.ok.kind hg (Calls.loadGlobal_builtin (by rw [I.ok.glob]; exact I.mod.glob.keeps I.bk) hm (by rw [I.ok.blt]; exact h1.keeps I.bk) ((h2 x hn).trans hv) h) hd
/-- a module's constant, a class, a function, as a value -/
theorem pe_glob {x : Str} {v : V} {u : Value} {pos : Pos} (hg : Gl X x) (hm : X.mg x = some u) (r : RelV v u) (hd : (x == ("__debug__" : Str)) = false := by decide) : PE X (.Name x pos) (tC v) :=
  fun _ _ _ H _ I h => ld_glob I hg hm ⟨v, H, I, r, h⟩ hd
theorem pe_bltn {x : Str} {v : V} {u : Value} {pos : Pos} (hg : Gl X x) (hm : X.mg x = none) (hv : bootBuiltins x = some u) (r : RelV v u) (hn : x ≠ "__name__" := by decide) (hd : (x == ("__debug__" : Str)) = false := by decide) : PE X (.Name x pos) (tC v) :=
  fun _ _ _ H _ I h => ld_blt I hg hm hv ⟨v, H, I, r, h⟩ hn hd

variable {a b : Expr} {ta tb : TE} {pos : Pos}
/-- a comparison as a value, as a test -/
def tB (t : TE) : TT := fun σ H Q => t σ H fun x H1 => ∃ c, x = .bl c ∧ Q c H1
/-- an expression whose value is a bool, as a test -/
theorem pt_val {e : Expr} {t : TE} (h : PE X e t) (he : ∀ whole, isTrue e X.env whole = (do let v ← whole; standAt e.pos; holding [v] (truthy v)) := by intro _; rfl) : PT X e (tB t) := by
  intro pins s σ H Q I hw
  refine isTrue_plain (thn (h pins s σ H _ I hw) fun v s1 ⟨x, H1, I1, r1, q1⟩ => ?_) (he _)
  obtain ⟨d, rfl, q⟩ := q1
  cases r1
  exact wpAny_truthy_bool ⟨H1, I1, q⟩

variable {tA tB' : TT} {rest : List Expr}
def tAnd (t u : TT) : TT := fun σ H Q => t σ H fun c H1 => if c = true then u σ H1 Q else Q false H1
def tOr (t u : TT) : TT := fun σ H Q => t σ H fun c H1 => if c = true then Q true H1 else u σ H1 Q
def tNot (t : TT) : TT := fun σ H Q => t σ H fun c H1 => Q (!c) H1
theorem pw_and1 (ha : PT X a tA) : PW X (.BoolOp .And [a] pos) tA := by
  intro wh pins s σ H Q I h
  refine isTrue_and (thn (ha pins s σ H Q I h) fun c s1 e => ?_)
  cases c with
  | true => exact isTrue_and_nil e
  | false => exact e
theorem pw_or1 (ha : PT X a tA) : PW X (.BoolOp .Or [a] pos) tA := by
  intro wh pins s σ H Q I h
  refine isTrue_or (thn (ha pins s σ H Q I h) fun c s1 e => ?_)
  cases c with
  | false => exact isTrue_or_nil e
  | true => exact e
theorem pw_and (ha : PT X a tA) (hb : PW X (.BoolOp .And (b :: rest) pos) tB') : PW X (.BoolOp .And (a :: b :: rest) pos) (tAnd tA tB') := by
  intro wh pins s σ H Q I h
  refine isTrue_and (thn (ha pins s σ H _ I h) fun c s1 ⟨H1, I1, q1⟩ => ?_)
  cases c with
  | true => exact hb wh pins s1 σ H1 Q I1 q1
  | false => exact ⟨H1, I1, q1⟩
theorem pw_or (ha : PT X a tA) (hb : PW X (.BoolOp .Or (b :: rest) pos) tB') : PW X (.BoolOp .Or (a :: b :: rest) pos) (tOr tA tB') := by
  intro wh pins s σ H Q I h
  refine isTrue_or (thn (ha pins s σ H _ I h) fun c s1 ⟨H1, I1, q1⟩ => ?_)
  cases c with
  | true => exact ⟨H1, I1, q1⟩
  | false => exact hb wh pins s1 σ H1 Q I1 q1
theorem pt_not (ha : PT X a tA) : PT X (.UnaryOp .Not a pos) (tNot tA) := by
  intro pins s σ H Q I h
  exact isTrue_not (ha pins s σ H (fun c H1 => Q (!c) H1) I h)
/-- .. as values (bools) -/
def tAndV (ta tb : TE) : TE := fun σ H Q => ta σ H fun x H1 => ∃ c, x = .bl c ∧ if c = true then tb σ H1 Q else Q (.bl false) H1
def tNotV (ta : TE) : TE := fun σ H Q => ta σ H fun x H1 => ∃ c, x = .bl c ∧ Q (.bl (!c)) H1
theorem pe_one {op} {t : TE} (h : PE X a t) : PE X (.BoolOp op [a] pos) t := fun pins s σ H Q I hw => BoolOp_one (h pins s σ H Q I hw)
theorem pe_and (ha : PE X a ta) (hb : PE X (.BoolOp .And (b :: rest) pos) tb) : PE X (.BoolOp .And (a :: b :: rest) pos) (tAndV ta tb) := by
  intro pins s σ H Q I h
  refine BoolOp_and (thn (ha pins s σ H _ I h) fun v s1 ⟨x, H1, I1, r1, q1⟩ => ?_)
  obtain ⟨c, rfl, q1⟩ := q1
  cases r1
  refine wpAny_truthy_bool ?_
  cases c with
  | true => exact hb pins s1 σ H1 Q I1 q1
  | false => exact ⟨.bl false, H1, I1, rfl, q1⟩
theorem pe_not (ha : PE X a ta) : PE X (.UnaryOp .Not a pos) (tNotV ta) := by
  intro pins s σ H Q I h
  refine UnaryOp_ (thn (ha pins s σ H _ I h) fun v s1 ⟨x, H1, I1, r1, q1⟩ => ?_)
  obtain ⟨c, rfl, q1⟩ := q1
  cases r1
  exact not_of (wpAny_truthy_bool ⟨.bl (!c), H1, I1, rfl, q1⟩)
end
end L2
namespace L2
open PySem PySem.Spec PyProof.Rows
def SqL (K : PySem.W.Frag) (H : Hp) (a : Addr) (xs : List V) : Prop :=
  Rd H a (.lst xs) ∨
    ∃ (o : Obj) (its : Array Value) (n : Nat), K.lookup a = some o ∧ o.cls = .type "list" ∧ o.dict = none ∧ o.data = .seq its n ∧ its.size ≤ sizeLine ∧ Vals xs its.toList
def SqT (K : PySem.W.Frag) (H : Hp) (a : Addr) (xs : List V) : Prop :=
  Rd H a (.tup xs) ∨
    ∃ (o : Obj) (its : Array Value) (n : Nat), K.lookup a = some o ∧ o.cls = .type "tuple" ∧ o.data = .seq its n ∧ its.size ≤ sizeLine ∧ Vals xs its.toList
def absV : Value → Option V
  | .none => some .non
  | .bool b => some (.bl b)
  | .int i _ => some (.int i)
  | .str x _ => some (.str x)
  | .bytes b _ => some (.byt b)
  | .float b _ => some (.flt b)
  | .ref a => some (.ref a)
  | .type n => some (.ty n)
  | _ => none
theorem RelV.abs {x : V} {u : Value} (r : RelV x u) : absV u = some x := by
  cases x with
  | non => cases r; rfl
  | bl _ => cases r; rfl
  | int _ => obtain ⟨t, rfl⟩ := r; rfl
  | str _ => obtain ⟨t, rfl⟩ := r; rfl
  | byt _ => obtain ⟨t, rfl⟩ := r; rfl
  | flt _ => obtain ⟨t, rfl⟩ := r; rfl
  | ref _ => cases r; rfl
  | ty _ => cases r; rfl
theorem RelV.inj {x y : V} {u : Value} (r : RelV x u) (q : RelV y u) : x = y := Option.some.inj (r.abs.symm.trans q.abs)
theorem Vals.inj : ∀ {xs ys : List V} {us : List Value}, Vals xs us → Vals ys us → xs = ys
  | _, _, _, .nil, .nil => rfl
  | _, _, _, .cons r t, .cons r' t' => by rw [r.inj r', Vals.inj t t']
section
variable {X : Cx} {pins : List (Addr × Obj)} {σ : St} {H : Hp} {s : Shared} {a : Addr} {xs ys : List V}
theorem SqL.of {K : PySem.W.Frag} (h : H a = some (.lst xs)) : SqL K H a xs := .inl (.inl h)
theorem SqT.of {K : PySem.W.Frag} (h : H a = some (.tup xs)) : SqT K H a xs := .inl (.inl h)
theorem Inv.list (I : Inv X pins σ H s) (h : SqL X.K H a xs) : ∃ its : List Value, Vals xs its ∧ PlainL s.heap a its.toArray ∧ xs.length ≤ sizeLine := by
  rcases h with h | ⟨o, its, n, hk, hc, hd, hs, hz, r⟩
  · obtain ⟨z, its, n, r, e⟩ := h.ok I.hok
    exact ⟨its, r, ⟨_, n, e, rfl, rfl, rfl⟩, z⟩
  · refine ⟨its.toList, r, ⟨o, n, I.kIn a o hk, hc, hd, by simpa using hs⟩, ?_⟩
    have e := r.length
    simp only [Array.length_toList] at e
    omega
theorem Inv.tuple (I : Inv X pins σ H s) (h : SqT X.K H a xs) : ∃ its : List Value, Vals xs its ∧ IsTup s.heap a its.toArray ∧ xs.length ≤ sizeLine := by
  rcases h with h | ⟨o, its, n, hk, hc, hs, hz, r⟩
  · obtain ⟨z, its, r, p⟩ := h.ok I.hok
    exact ⟨its, r, p, z⟩
  · refine ⟨its.toList, r, ⟨o, I.kIn a o hk, hc, n, by simpa using hs⟩, ?_⟩
    have e := r.length
    simp only [Array.length_toList] at e
    omega
theorem Inv.list_inj (I : Inv X pins σ H s) (h : SqL X.K H a xs) (h' : SqL X.K H a ys) : xs = ys := by
  obtain ⟨its, r, ⟨o, n, e, _, _, d⟩, _⟩ := I.list h
  obtain ⟨its', r', ⟨o', n', e', _, _, d'⟩, _⟩ := I.list h'
  rw [e] at e'; cases e'
  rw [d] at d'
  injection d' with d1 _
  have : its = its' := by simpa using congrArg Array.toList d1
  subst this
  exact r.inj r'
end
abbrev Cx.wish (X : Cx) (E : Value → Shared → Prop) : Cx := { X with xe := E }
/-- no exception leaves -/
abbrev Cx.nox (X : Cx) : Cx := X.wish fun _ _ => False
theorem Cx.Ok.wish {X : Cx} (ok : X.Ok) (E : Value → Shared → Prop) : (X.wish E).Ok :=
  ⟨ok.mod, ok.kind, ok.glob, ok.blt, ok.above, ok.inj, ok.has, ok.cab, ok.hd, ok.frames, ok.stk, ok.exf, ok.bs, ok.bsz, ok.noex, ok.exfs, ok.funs, ok.frf⟩
theorem Cx.Ok.unwish {X : Cx} {E : Value → Shared → Prop} (ok : (X.wish E).Ok) : X.Ok :=
  ⟨ok.mod, ok.kind, ok.glob, ok.blt, ok.above, ok.inj, ok.has, ok.cab, ok.hd, ok.frames, ok.stk, ok.exf, ok.bs, ok.bsz, ok.noex, ok.exfs, ok.funs, ok.frf⟩
section
variable {X : Cx} {pins : List (Addr × Obj)} {σ : St} {H : Hp} {s : Shared} {E : Value → Shared → Prop}
theorem Inv.wish (I : Inv X pins σ H s) (E : Value → Shared → Prop) : Inv (X.wish E) pins σ H s := ⟨I.ok.wish E, I.os, I.bare, I.base, I.loc, I.cell, I.free, I.freeC, I.pin, I.hok, I.len⟩
theorem Inv.unwish (I : Inv (X.wish E) pins σ H s) : Inv X pins σ H s := ⟨I.ok.unwish, I.os, I.bare, I.base, I.loc, I.cell, I.free, I.freeC, I.pin, I.hok, I.len⟩
theorem SP.unwish {D : Ends} {f : Flow} {s' : Shared} (h : SP (X.wish E) pins D f s') : SP X pins D f s' := by
  cases f with
  | next => obtain ⟨σ', H', I, q⟩ := h; exact ⟨σ', H', I.unwish, q⟩
  | brk => obtain ⟨σ', H', I, q⟩ := h; exact ⟨σ', H', I.unwish, q⟩
  | cont => obtain ⟨σ', H', I, q⟩ := h; exact ⟨σ', H', I.unwish, q⟩
  | ret u => obtain ⟨v, σ', H', I, r, q⟩ := h; exact ⟨v, σ', H', I.unwish, r, q⟩
theorem PSs.nox {st : List Stmt} {t : TS} (h : PSs X.nox st t) : PSs X st t := fun pins s σ H D I hw =>
  wpAny_mono (h pins s σ H D (I.wish _) hw) (fun _ _ q => q.unwish) fun _ _ z => False.elim z
end
section
variable {X : Cx} {st : Stmt} {rest : List Stmt} {t u : TS} {e : Expr} {te : TE} {pos : Pos}
def tNext : TS := fun D σ H => D.nx σ H
def tSeq (t u : TS) : TS := fun D σ H => t { D with nx := u D } σ H
theorem pss_nil : PSs X [] tNext := fun _ _ σ H _ I h => wpAny_execs_nil ⟨σ, H, I, h⟩
theorem pss_cons (h1 : PS X st t) (h2 : PSs X rest u) : PSs X (st :: rest) (tSeq t u) := by
  intro pins s σ H D I h
  refine wpAny_execs_cons (thn (h1 pins s σ H { D with nx := u D } I h) fun f s1 q => ?_)
  cases f with
  | next =>
    obtain ⟨σ', H', I', q⟩ := q
    exact h2 pins s1 σ' H' D I' q
  | ret v => exact q
  | brk => exact q
  | cont => exact q
theorem pss_one (h1 : PS X st t) : PSs X [st] t := by
  intro pins s σ H D I h
  refine wpAny_execs_cons (thn (h1 pins s σ H D I h) fun f s1 q => ?_)
  cases f with
  | next => exact wpAny_execs_nil q
  | ret v => exact q
  | brk => exact q
  | cont => exact q
/-- in a def's body nothing is shown -/
theorem Inv.quiet {pins : List (Addr × Obj)} {σ : St} {H : Hp} {s : Shared} (I : Inv X pins σ H s) : interactive X.env = false := by simp [interactive, I.ok.kind]
/-- an expression whose value is dropped -/
def tDrop (te : TE) : TS := fun D σ H => te σ H fun _ H1 => D.nx σ H1
theorem ps_expr (he : PE X e te) (hs : swapsWith e none pos.line X.env = pure false := by rfl) : PS X (.Expr e pos) (tDrop te) := by
  intro pins s σ H D I h
  exact wpAny_Expr_any (thn (he pins s σ H _ I h) fun v s1 ⟨x, H1, I1, r1, q1⟩ => ⟨σ, H1, I1, q1⟩) I.quiet hs
def tRet (te : TE) : TS := fun D σ H => te σ H D.rt
theorem ps_ret (he : PE X e te) : PS X (.Return (some e) pos) (tRet te) := by
  intro pins s σ H D I h
  exact wpAny_Return_some (thn (he pins s σ H _ I h) fun v s1 ⟨x, H1, I1, r1, q1⟩ => ⟨x, σ, H1, I1, r1, q1⟩)
def tIfS (c : TT) (t u : TS) : TS := fun D σ H => c σ H fun b H1 => if b = true then t D σ H1 else u D σ H1
theorem ps_if {c : Expr} {a b : List Stmt} {tc : TT} (hc : PT X c tc) (ha : PSs X a t) (hb : PSs X b u) : PS X (.If c a b pos) (tIfS tc t u) := by
  intro pins s σ H D I h
  refine wpAny_If (thn (hc pins s σ H _ I h) fun d s1 ⟨H1, I1, q1⟩ => ?_)
  cases d with
  | true => exact ha pins s1 σ H1 D I1 q1
  | false => exact hb pins s1 σ H1 D I1 q1
/-- code that the proof never comes to -/
def tNever : TS := fun _ _ _ => False
theorem pss_never {sts : List Stmt} : PSs X sts tNever := fun _ _ _ _ _ _ h => h.elim
end
abbrev TG := V → St → Hp → (St → Hp → Prop) → Prop
def PG (X : Cx) (target : Expr) (t : TG) : Prop :=
  ∀ (pins : List (Addr × Obj)) (s : Shared) (σ : St) (H : Hp) (v : V) (u : Value) (Q : St → Hp → Prop), Inv X pins σ H s → RelV v u → t v σ H Q →
    wpAny (model X.prog X.w) X.A (assign target X.env u) (fun _ s' => ∃ σ' H', Inv X pins σ' H' s' ∧ Q σ' H') X.xe s
section
variable {X : Cx} {pos : Pos}
def gName (i : Nat) : TG := fun v σ H Q => Q (σ.set i (some v)) H
theorem pg_name {i : Nat} {x : Str} (hN : X.N.Nodup) (hi : X.N[i]? = some x) (hx : Loc X.env.scope x) (hf : X.fn x = true ∨ X.env.scope.names.lookup x = some .local := by first | exact .inl rfl | exact .inr rfl | assumption) : PG X (.Name x pos) (gName i) := by
  intro pins s σ H v u Q I r h
  exact wpAny_assign_Name (store_ok I hN hi hx r (fun s' I' => ⟨_, H, I', h⟩) hf)
/-- target = value -/
def tAsg (te : TE) (g : TG) : TS := fun D σ H => te σ H fun x H1 => g x σ H1 D.nx
/-- name = value -/
theorem ps_set {i : Nat} {x : Str} {e : Expr} {te : TE} {pos' : Pos} (hN : X.N.Nodup) (hi : X.N[i]? = some x) (hx : Loc X.env.scope x) (he : PE X e te) (hs : swapsWith e (some (.Name x pos')) pos.line X.env = pure false := by rfl) (hf : X.fn x = true ∨ X.env.scope.names.lookup x = some .local := by first | exact .inl rfl | exact .inr rfl | assumption) :
    PS X (.Assign [.Name x pos'] e pos) (tAsg te (gName i)) := by
  intro pins s σ H D I h
  refine wpAny_Assign_Name (thn (he pins s σ H _ I h) fun v s1 ⟨y, H1, I1, r1, q1⟩ => ?_) hs
  exact store_ok I1 hN hi hx r1 (fun s2 I2 => ⟨_, H1, I2, q1⟩) hf
end
section
variable {X : Cx} {pos : Pos}
end
/-- at turn i: it yields x (the heap may grow), or it stops -/
structure It where
  go : Nat → Hp → Prop
  yld : Nat → Hp → V → Hp → Prop
  stop : Nat → Hp → Prop
/-- the iterator's own objects may turn: they are not the frame's, not pinned, younger than the entry (or a comprehension's own) -/
def FpOk (X : Cx) (pins : List (Addr × Obj)) (H : Hp) (b : Addr) : Prop :=
  H b = none ∧ b ≠ X.env.locals ∧ b ∉ X.fs ∧ (b ∈ X.ex ∨ X.s₀.heap.objs.size ≤ b) ∧ (∀ x c, X.env.cells.lookup x = some c → c ≠ b) ∧ ∀ p ∈ X.pn ++ pins, p.1 ≠ b
theorem Inv.fpOk {X : Cx} {pins : List (Addr × Obj)} {σ : St} {H H' : Hp} {s : Shared} {b : Addr} (I : Inv X pins σ H s) (hb : s.heap.objs.size ≤ b) (hn : H' b = none) : FpOk X pins H' b := by
  refine ⟨hn, Nat.ne_of_gt (Nat.lt_of_lt_of_le I.lt hb), I.nofs hb, .inr (Nat.le_trans I.sz hb), fun x c e z => ?_, fun p hp z => ?_⟩
  · obtain ⟨v, q⟩ := I.cell x c e
    exact absurd (Nat.lt_of_lt_of_le q.lt (by rw [z]; exact hb)) (Nat.lt_irrefl _)
  · exact absurd (Nat.lt_of_lt_of_le (Heap.lt_size (I.pin p hp).1) (by rw [z]; exact hb)) (Nat.lt_irrefl _)
structure Turn (P : Program) (w : World) (K : PySem.W.Frag) (tg : Expr) (J : It) (fp : List Addr) (it : Addr) (tn : Nat → Heap → Prop) : Prop where
  mem : it ∈ fp
  obj : ∀ i h, tn i h → ∀ b ∈ fp, ∃ o, h.get? b = some o ∧ ∀ v, o.data ≠ .cell v
  keep : ∀ i h h', tn i h → (∀ b ∈ fp, ∀ o, h.get? b = some o → h'.get? b = some o) → tn i h'
  item : ∀ (X : Cx), X.prog = P → X.w = w → X.K = K → X.calm = true → ∀ (i : Nat) (pins : List (Addr × Obj)) (s : Shared) (σ : St) (H : Hp) (E : Value → Shared → Prop), Inv X pins σ H s → (∀ b ∈ fp, FpOk X pins H b) → tn i s.heap → J.go i H →
    wpAny (model P w) X.A (pyNext (.ref it)) (fun r s1 => ∃ u, r = some u ∧
      wpAny (model P w) X.A (letOwnedTupleGo tg (.ref it) u) (fun _ s2 => ∃ x H', Inv X pins σ H' s2 ∧ RelV x u ∧ J.yld i H x H' ∧ tn (i + 1) s2.heap ∧ ∀ b ∈ fp, H' b = none) E s1) E s
  done : ∀ (X : Cx), X.prog = P → X.w = w → X.K = K → X.calm = true → ∀ (i : Nat) (pins : List (Addr × Obj)) (s : Shared) (σ : St) (H : Hp) (E : Value → Shared → Prop), Inv X pins σ H s → (∀ b ∈ fp, FpOk X pins H b) → tn i s.heap → J.stop i H →
    wpAny (model P w) X.A (pyNext (.ref it)) (fun r s1 => r = none ∧ Inv X pins σ H s1) E s
  self : ∀ (A : Around) (i : Nat) (s : Shared) (Q : Value → Shared → Prop) (E : Value → Shared → Prop), tn i s.heap → Q (.ref it) s → wpAny (model P w) A (pyIter (.ref it)) Q E s
abbrev TI := St → Hp → (It → Hp → Prop) → Prop
/-- an iterator has come -/
def PIE (X : Cx) (pins : List (Addr × Obj)) (σ : St) (tg : Expr) (R : It → Hp → Prop) (itv : Value) (s2 : Shared) : Prop :=
  ∃ (it : Addr) (fp : List Addr) (tn : Nat → Heap → Prop) (J : It) (H' : Hp), itv = .ref it ∧ Inv X pins σ H' s2 ∧ Turn X.prog X.w X.K tg J fp it tn ∧ tn 0 s2.heap ∧ (∀ b ∈ fp, FpOk X pins H' b) ∧ R J H'
def PI (X : Cx) (tg iter : Expr) (wi : TI) : Prop :=
  ∀ (pins : List (Addr × Obj)) (s : Shared) (σ : St) (H : Hp) (R : It → Hp → Prop), Inv X pins σ H s → wi σ H R →
    wpAny (model X.prog X.w) X.A (eval iter X.env) (fun v s1 => wpAny (model X.prog X.w) X.A (pyIter v) (PIE X pins σ tg R) X.xe s1) X.xe s

/-- the step ahead of the store is nothing for an iterator that keeps no tuple -/
theorem go_of {M : Model} {A : Around} {E : Value → Shared → Prop} {s : Shared} {tg : Expr} {it : Addr} {u : Value} {o : Obj} {n : String} {vs : Array Value} {Q : Unit → Shared → Prop} (ho : s.heap.get? it = some o) (hc : o.cls = .type n) (hd : o.data = .fields vs)
    (hn : ["enumerate", "zip", "dict_itemiterator", "dict_reverseitemiterator", "odict_iterator", "itertools.zip_longest", "itertools.pairwise"].contains n = false) (hQ : Q () s) : wpAny M A (letOwnedTupleGo tg (.ref it) u) Q E s := by
  unfold letOwnedTupleGo
  cases tg <;> first
    | exact wpAny_pure hQ
    | (cases u <;> first
        | exact wpAny_pure hQ
        | (refine wpAny_bind (wpAny_load ho ?_)
           rw [hc, hd]
           show wpAny M A (if (["enumerate", "zip", "dict_itemiterator", "dict_reverseitemiterator", "odict_iterator", "itertools.zip_longest", "itertools.pairwise"].contains n && vs[0]? == some (rawInt _)) = true then _ else _) Q E s
           rw [if_neg (by intro h; rw [hn, Bool.false_and] at h; cases h)]
           exact wpAny_pure hQ))

/-- the list at a, as it stands at each turn (a loop may append to it) -/
def Itl (K : PySem.W.Frag) (a : Addr) : It :=
  ⟨fun i H => ∃ xs x, SqL K H a xs ∧ xs[i]? = some x, fun i H x H' => H' = H ∧ ∀ xs, SqL K H a xs → xs[i]? = some x, fun i H => ∃ xs, SqL K H a xs ∧ xs.length ≤ i⟩
/-- lo, lo + 1, .. (n of them) -/
def Itr (lo : Int) (n : Nat) : It := ⟨fun i _ => i < n, fun i H x H' => H' = H ∧ x = .int (lo + i), fun i _ => n ≤ i⟩
theorem turn_list {P : Program} {w : World} {K : PySem.W.Frag} {tg : Expr} (a it : Addr) : Turn P w K tg (Itl K a) [it] it (fun i h => h.IsListIter it a i) where
  mem := by simp
  obj := fun i h st b hb => by
    have e : b = it := by simpa using hb
    subst e
    obtain ⟨o, e, c, d⟩ := st
    exact ⟨o, e, fun v z => by rw [d] at z; cases z⟩
  keep := fun i h h' st k => st.at fun o e => k it (by simp) o e
  item := by
    intro X hP hw hK hc i pins s σ H E I hf st hg
    subst hP hw hK
    obtain ⟨xs, x, hq, hx⟩ := hg
    obtain ⟨its, rv, p, hz⟩ := I.list hq
    obtain ⟨u, hu, ru⟩ := rv.get hx
    obtain ⟨f0, f1, f2, f3, f4, f5⟩ := hf it (by simp)
    refine wpAny_pyNext_list_item st p.isList (x := u) (by simpa using hu) fun h' st' sb => ?_
    have I1 : Inv X pins σ H { s with heap := h' } := I.turned (t' := s.toks) (fun b o hb e => (sb.2 b hb).trans e) f0 f1 f3 f4 f5
    obtain ⟨o, e, c, d⟩ := id st'
    exact ⟨u, rfl, go_of (s := { s with heap := h' }) e c d (by decide) ⟨x, H, I1, ru, ⟨rfl, fun ys hy => by rw [I.list_inj hy hq]; exact hx⟩, st', fun b hb => (hf b hb).1⟩⟩
  done := by
    intro X hP hw hK hc i pins s σ H E I hf st hg
    subst hP hw hK
    obtain ⟨xs, hq, hx⟩ := hg
    obtain ⟨its, rv, p, hz⟩ := I.list hq
    obtain ⟨f0, f1, f2, f3, f4, f5⟩ := hf it (by simp)
    have hl := rv.length
    exact wpAny_pyNext_list_end (I.ok.hd hc) st p.isList (by simp; omega) fun h' eb => ⟨rfl, I.turned (t' := s.toks) (fun b o hb e => eb b o hb e) f0 f1 f3 f4 f5⟩
  self := fun _ _ _ _ _ st h => wpAny_pyIter_listiter st h
theorem turn_range {P : Program} {w : World} {K : PySem.W.Frag} {tg : Expr} (it : Addr) (lo : Int) (n : Nat) : Turn P w K tg (Itr lo n) [it] it (fun i h => IsRangeIter h it (lo + (i : Nat) * 1) ((n : Int) - (i : Nat)) 1) where
  mem := by simp
  obj := fun i h st b hb => by
    have e : b = it := by simpa using hb
    subst e
    exact ⟨_, st, fun v z => by
      have z' : Data.fields _ = Data.cell v := z
      cases z'⟩
  keep := fun i h h' st k => k it (by simp) _ st
  item := by
    intro X hP hw hK hc i pins s σ H E I hf st hg
    subst hP hw hK
    obtain ⟨f0, f1, f2, f3, f4, f5⟩ := hf it (by simp)
    have W := Walks.range (prog := X.prog) (w := X.w) (I.ok.hd hc) it lo 1 n
    refine W.item i s _ _ hg st fun v h' tk hv st' kk => ?_
    obtain ⟨t, rfl⟩ := hv
    have I1 : Inv X pins σ H { s with heap := h', toks := tk } := I.turned (fun b o hb e => kk b o (by simpa using hb) e) f0 f1 f3 f4 f5
    refine ⟨_, rfl, go_of (s := { s with heap := h', toks := tk }) (n := "range_iterator") st' rfl rfl (by decide) ⟨.int (lo + i), H, I1, ⟨t, ?_⟩, ⟨rfl, rfl⟩, st', fun b hb => (hf b hb).1⟩⟩
    rw [Int.mul_one]
  done := by
    intro X hP hw hK hc i pins s σ H E I hf st hg
    subst hP hw hK
    obtain ⟨f0, f1, f2, f3, f4, f5⟩ := hf it (by simp)
    exact wpAny_pyNext_range_end (I.ok.hd hc) st (by have : n ≤ i := hg; omega) fun h' eb => ⟨rfl, I.turned (t' := s.toks) (fun b o hb e => eb b o hb e) f0 f1 f3 f4 f5⟩
  self := fun _ _ _ _ _ st h => wpAny_pyIter_rangeiter st h
end L2
namespace L2
open PySem PySem.Spec PyProof.Rows
section
variable {X : Cx} {tg : Expr}
def iList (K : PySem.W.Frag) (tl : TE) : TI := fun σ H R => tl σ H fun x H1 => ∃ a, x = .ref a ∧ (∃ xs, SqL K H1 a xs) ∧ R (Itl K a) H1
theorem pi_list {l : Expr} {tl : TE} (hl : PE X l tl) : PI X tg l (iList X.K tl) := by
  intro pins s σ H R I h
  refine thn (hl pins s σ H _ I h) fun v s1 ⟨x, H1, I1, r1, q1⟩ => ?_
  obtain ⟨a, e, ⟨xs, hq⟩, q⟩ := q1
  subst e
  cases r1
  obtain ⟨its, rv, p, hz⟩ := I1.list hq
  refine wpAny_pyIter_list p.isList ?_
  refine ⟨s1.heap.objs.size, [s1.heap.objs.size], _, _, H1, rfl, I1.kept (t' := s1.toks) fun b o e => Heap.get?_push_of_some _ e, turn_list a _, ⟨_, Heap.get?_push_size _ rfl, rfl, rfl⟩, fun b hb => ?_, q⟩
  have e : b = s1.heap.objs.size := by simpa using hb
  subst e
  exact I1.fpOk (Nat.le_refl _) (I1.hok.fresh (Nat.le_refl _))
/-- a range object just made, walked -/
theorem range_it {pins : List (Addr × Obj)} {σ : St} {H : Hp} {s : Shared} {R : It → Hp → Prop} {E : Value → Shared → Prop} {lo hi : Int} {t u v : Tok} {tk : Nat} (I : Inv X pins σ H s) (h1 : -(2 ^ 62) ≤ lo) (h2 : lo < 2 ^ 62) (h3 : -(2 ^ 62) ≤ hi) (h4 : hi < 2 ^ 62)
    (q : R (Itr lo (hi - lo).toNat) H) : wpAny (model X.prog X.w) X.A (pyIter (.ref s.heap.objs.size)) (PIE X pins σ tg R) E { s with heap := s.heap.push { cls := .type "range", data := .fields #[.int lo t, .int hi u, .int 1 v] }, toks := tk } := by
  refine wpAny_pyIter_range (IsRange.new ..) (small_one h1 h2 h3 h4) ?_
  have I1 : Inv X pins σ H { s with heap := s.heap.push { cls := .type "range", data := .fields #[.int lo t, .int hi u, .int 1 v] }, toks := tk } := I.kept fun b o e => Heap.get?_push_of_some _ e
  refine ⟨(s.heap.push { cls := .type "range", data := .fields #[.int lo t, .int hi u, .int 1 v] }).objs.size, [(s.heap.push { cls := .type "range", data := .fields #[.int lo t, .int hi u, .int 1 v] }).objs.size], _, _, H, rfl,
    I1.kept (t' := tk) fun b o e => Heap.get?_push_of_some _ e, turn_range _ lo (hi - lo).toNat, ?_, fun b hb => ?_, q⟩
  · have e1 : lo + ((0 : Nat) : Int) * 1 = lo := by simp
    have e2 : (((hi - lo).toNat : Nat) : Int) - ((0 : Nat) : Int) = Builtin.Range.rangeSize lo hi 1 := by rw [rangeSize_one]; split <;> omega
    show IsRangeIter _ _ (lo + ((0 : Nat) : Int) * 1) ((((hi - lo).toNat : Nat) : Int) - ((0 : Nat) : Int)) 1
    rw [e1, e2]
    exact Heap.get?_push_size _ rfl
  · have e : b = (s.heap.push { cls := .type "range", data := .fields #[.int lo t, .int hi u, .int 1 v] }).objs.size := by simpa using hb
    subst e
    exact I1.fpOk (Nat.le_refl _) (I1.hok.fresh (Nat.le_refl _))
def iRng1 (ta : TA) : TI := fun σ H R => ta σ H fun vs H1 => ∃ j : Int, vs = [.int j] ∧ -(2 ^ 62) ≤ j ∧ j < 2 ^ 62 ∧ R (Itr 0 j.toNat) H1
theorem pi_range1 {a : Expr} {ta : TA} {p pos : Pos} (hg : Gl X "range") (hm : X.mg "range" = none) (ha : PA X [a] ta) (hs : starEach [a] X.env = [(false, eval a X.env)] := by rfl) : PI X tg (.Call (.Name "range" p) [a] [] pos) (iRng1 ta) := by
  intro pins s σ H R I h
  refine Call_ (ld_blt I hg hm boot_range (PyProof.Rows.callWith_type1 (thn (ha pos pins s σ H _ I h) fun us s1 ⟨vs, H1, I1, r1, q1⟩ => ?_) hs rfl))
  obtain ⟨j, e, q1, q2, q⟩ := q1
  subst e
  cases r1 with
  | cons r rr =>
    cases rr
    obtain ⟨t, rfl⟩ := r
    exact call_range_1 (range_it I1 (by omega) (by omega) q1 q2 (by simpa using q))
/-- W: the invariant by the turn and a measure; N: what the body is to reach -/
def tFor (wi : TI) (g : TG) (tb : TS) : TS := fun D σ H => wi σ H fun J H1 => ∃ W : Nat → Nat → St → Hp → Prop, (∃ m, W 0 m σ H1) ∧ ∀ i m σ H, W i m σ H →
  (J.stop i H ∧ D.nx σ H) ∨ (J.go i H ∧ ∃ N : St → Hp → Prop, (∀ σ' H', N σ' H' → ∃ m', m' < m ∧ W (i + 1) m' σ' H') ∧ ∀ x H', J.yld i H x H' → g x σ H' fun σ2 H2 => tb { D with nx := N, ct := N, bk := D.nx } σ2 H2)
/-- the records at fp as they stand -/
def pinsAt (fp : List Addr) (h : Heap) : List (Addr × Obj) := fp.filterMap fun b => (h.get? b).map fun o => (b, o)
theorem mem_pinsAt {fp : List Addr} {h : Heap} {b : Addr} {o : Obj} (hb : b ∈ fp) (e : h.get? b = some o) : (b, o) ∈ pinsAt fp h := List.mem_filterMap.mpr ⟨b, hb, by rw [e]; rfl⟩
theorem of_pinsAt {fp : List Addr} {h : Heap} {p : Addr × Obj} (hp : p ∈ pinsAt fp h) : p.1 ∈ fp ∧ h.get? p.1 = some p.2 := by
  obtain ⟨b, hb, e⟩ := List.mem_filterMap.mp hp
  cases q : h.get? b with
  | none => rw [q] at e; cases e
  | some o =>
    rw [q] at e
    have e' : (b, o) = p := Option.some.inj e
    subst e'
    exact ⟨hb, q⟩
theorem Inv.pinned {pins : List (Addr × Obj)} {σ : St} {H : Hp} {s : Shared} {fp : List Addr} (I : Inv X pins σ H s) (hf : ∀ b ∈ fp, FpOk X pins H b) (ho : ∀ b ∈ fp, ∃ o, s.heap.get? b = some o ∧ ∀ v, o.data ≠ .cell v) : Inv X (pins ++ pinsAt fp s.heap) σ H s :=
  I.pins_of fun p hp => (List.mem_append.mp hp).elim (fun z => I.pin p (List.mem_append_right _ z)) fun z => by
    obtain ⟨hb, e⟩ := of_pinsAt z
    obtain ⟨f0, f1, f2, _⟩ := hf p.1 hb
    obtain ⟨o, e', d⟩ := ho p.1 hb
    rw [e] at e'; cases e'
    exact ⟨e, f0, f1, f2, d⟩
theorem Inv.unpinned {pins pl : List (Addr × Obj)} {σ : St} {H : Hp} {s : Shared} (I : Inv X (pins ++ pl) σ H s) : Inv X pins σ H s := I.pins_of fun p hp => I.pin p (List.mem_append_right _ (List.mem_append_left _ hp))
theorem ps_for {iter : Expr} {body : List Stmt} {wi : TI} {g : TG} {tb : TS} {pos : Pos} (hp : PassesOwn (model X.prog X.w) X.A X.env X.xe) (hc : X.calm = true) (hi : PI X tg iter wi) (hg : PG X tg g) (hb : PSs X body tb)
    (hs : ∀ x, foldedSetIterable iter X.env x = pure x := by intro _; rfl) : PS X (.For tg iter body [] pos) (tFor wi g tb) := by
  intro pins s σ H D I h
  refine wpAny_For (thn (hi pins s σ H _ I h) fun v s1 h1 => thn h1 fun itv s2 h2 => ?_) hs
  obtain ⟨it, fp, tn, J, H2, e, I2, T, st2, f2, W, ⟨m0, w0⟩, turn⟩ := h2
  subst e
  -- what stays true of the iterator's objects through the loop
  have stat : ∀ {H' : Hp}, (∀ b ∈ fp, H' b = none) → ∀ b ∈ fp, FpOk X pins H' b := fun hn b hb => ⟨hn b hb, (f2 b hb).2⟩
  refine codeAny_forLoop_any (fun n s' => ∃ i σ' H', Inv X pins σ' H' s' ∧ tn i s'.heap ∧ (∀ b ∈ fp, H' b = none) ∧ W i n σ' H') ?_ m0 ⟨0, σ, H2, I2, st2, fun b hb => (f2 b hb).1, w0⟩
  rintro n s3 ⟨i, σ3, H3, I3, st3, fr3, w3⟩
  rcases turn i n σ3 H3 w3 with ⟨stop, qn⟩ | ⟨go, N, hN, step⟩
  · refine wpAny_passesOwn hp (thn (T.done X rfl rfl rfl hc i pins s3 σ3 H3 X.xe I3 (stat fr3) st3 stop) fun r s4 ⟨hr, I4⟩ => ?_)
    subst hr
    exact wpAny_execs_nil ⟨σ3, H3, I4, qn⟩
  · refine wpAny_passesOwn hp (thn (T.item X rfl rfl rfl hc i pins s3 σ3 H3 X.xe I3 (stat fr3) st3 go) fun r s4 ⟨u, hr, h4⟩ => ?_)
    subst hr
    refine wpAny_passesOwn hp (thn h4 fun _ s5 ⟨x, H5, I5, r5, y5, st5, fr5⟩ => ?_)
    have I5' := I5.pinned (stat fr5) (T.obj _ _ st5)
    refine wpAny_passesOwn hp (thn (hg _ s5 σ3 H5 x u _ I5' r5 (step x H5 y5)) fun _ s6 ⟨σ6, H6, I6, q6⟩ => ?_)
    refine wpAny_passesOwn hp (thn (hb _ s6 σ6 H6 _ I6 q6) fun f s7 q7 => ?_)
    have again : ∀ {σ7 : St} {H7 : Hp}, Inv X (pins ++ pinsAt fp s5.heap) σ7 H7 s7 → N σ7 H7 → ∃ m, m < n ∧ ∃ i σ' H', Inv X pins σ' H' s7 ∧ tn i s7.heap ∧ (∀ b ∈ fp, H' b = none) ∧ W i m σ' H' := fun {σ7 H7} I7 n7 => by
      obtain ⟨m', hm, w7⟩ := hN σ7 H7 n7
      refine ⟨m', hm, i + 1, σ7, H7, I7.unpinned, T.keep _ _ _ st5 fun b hb o e => (I7.pin (b, o) (List.mem_append_right _ (List.mem_append_right _ (mem_pinsAt hb e)))).1, fun b hb => ?_, w7⟩
      obtain ⟨o, e, d⟩ := T.obj _ _ st5 b hb
      exact (I7.pin (b, o) (List.mem_append_right _ (List.mem_append_right _ (mem_pinsAt hb e)))).2.1
    cases f with
    | next => obtain ⟨σ7, H7, I7, n7⟩ := q7; exact again I7 n7
    | cont => obtain ⟨σ7, H7, I7, n7⟩ := q7; exact again I7 n7
    | brk => obtain ⟨σ7, H7, I7, q7⟩ := q7; exact ⟨σ7, H7, I7.unpinned, q7⟩
    | ret v => obtain ⟨x7, σ7, H7, I7, r7, q7⟩ := q7; exact ⟨x7, σ7, H7, I7.unpinned, r7, q7⟩
end
theorem for_range {lo : Int} {n : Nat} {g : TG} {tb : TS} {D : Ends} {σ : St} {H : Hp} (Pv : Nat → St → Hp → Prop) (h0 : Pv 0 σ H)
    (hs : ∀ i σ H, i < n → Pv i σ H → g (.int (lo + i)) σ H fun σ2 H2 => tb { D with nx := Pv (i + 1), ct := Pv (i + 1), bk := D.nx } σ2 H2) (hd : ∀ σ H, Pv n σ H → D.nx σ H) :
    ∃ W : Nat → Nat → St → Hp → Prop, (∃ m, W 0 m σ H) ∧ ∀ i m σ H, W i m σ H →
      ((Itr lo n).stop i H ∧ D.nx σ H) ∨ ((Itr lo n).go i H ∧ ∃ N : St → Hp → Prop, (∀ σ' H', N σ' H' → ∃ m', m' < m ∧ W (i + 1) m' σ' H') ∧ ∀ x H', (Itr lo n).yld i H x H' → g x σ H' fun σ2 H2 => tb { D with nx := N, ct := N, bk := D.nx } σ2 H2) := by
  refine ⟨fun i m σ H => m = n - i ∧ i ≤ n ∧ Pv i σ H, ⟨n, by simp, Nat.zero_le _, h0⟩, ?_⟩
  rintro i m σ H ⟨rfl, hi, p⟩
  by_cases hlt : i < n
  · refine .inr ⟨hlt, Pv (i + 1), fun σ' H' p' => ⟨n - (i + 1), by omega, rfl, hlt, p'⟩, fun x H' y => ?_⟩
    obtain ⟨e, y⟩ := y
    subst e y
    exact hs i σ _ hlt p
  · have e : i = n := by omega
    subst e
    exact .inl ⟨Nat.le_refl _, hd σ H p⟩
end L2
namespace L2
open PySem PySem.Spec PyProof.Rows
abbrev R2 := V → V → Hp → VK → Prop
/-- a two-place operation on values: f is binaryOp op, inplaceOp op or compareOp op -/
def OpR (X : Cx) (f : Value → Value → Sem Value) (r : R2) : Prop :=
  ∀ (pins : List (Addr × Obj)) (s : Shared) (σ : St) (H : Hp) (x y : V) (v u : Value) (Q : VK), Inv X pins σ H s → RelV x v → RelV y u → r x y H Q →
    wpAny (model X.prog X.w) X.A (f v u) (EP X pins σ Q) X.xe s
/-- a one-place operation -/
def UnR (X : Cx) (f : Value → Sem Value) (r : V → Hp → VK → Prop) : Prop :=
  ∀ (pins : List (Addr × Obj)) (s : Shared) (σ : St) (H : Hp) (x : V) (v : Value) (Q : VK), Inv X pins σ H s → RelV x v → r x H Q →
    wpAny (model X.prog X.w) X.A (f v) (EP X pins σ Q) X.xe s
/-- a call of a value that is known (a builtin, a type) with values -/
def CallR (X : Cx) (f : Value) (r : List V → Hp → VK → Prop) : Prop :=
  ∀ (pins : List (Addr × Obj)) (s : Shared) (σ : St) (H : Hp) (xs : List V) (us : List Value) (Q : VK), Inv X pins σ H s → Vals xs us → r xs H Q →
    wpAny (model X.prog X.w) X.A (call f us) (EP X pins σ Q) X.xe s
def tOp (r : R2) (ta tb : TE) : TE := fun σ H Q => ta σ H fun x H1 => tb σ H1 fun y H2 => r x y H2 Q
def tUn (r : V → Hp → VK → Prop) (ta : TE) : TE := fun σ H Q => ta σ H fun x H1 => r x H1 Q
/-- ints in, under C, and a value out -/
def rI (C : Int → Int → Prop) (g : Int → Int → V) : R2 := fun x y H Q => ∃ i j, x = .int i ∧ y = .int j ∧ C i j ∧ Q (g i j) H
def rI0 (g : Int → Int → V) : R2 := fun x y H Q => ∃ i j, x = .int i ∧ y = .int j ∧ Q (g i j) H
def rU (g : Int → V) : V → Hp → VK → Prop := fun x H Q => ∃ i, x = .int i ∧ Q (g i) H

section
variable {X : Cx} {a b c : Expr} {ta tb tc : TE} {pos : Pos}
theorem binT (ha : PE X a ta) (hb : PE X b tb) {pins : List (Addr × Obj)} {s : Shared} {σ : St} {H : Hp} {R : V → V → Hp → Prop} (I : Inv X pins σ H s)
    (h : ta σ H fun x H1 => tb σ H1 fun y H2 => R x y H2) {Q : Value → Shared → Prop} {f : Value → Value → Sem Value}
    (hf : ∀ v u s2 x y H2, Inv X pins σ H2 s2 → RelV x v → RelV y u → R x y H2 → wpAny (model X.prog X.w) X.A (f v u) Q X.xe s2) :
    wpAny (model X.prog X.w) X.A (eval a X.env) (fun v s₁ => wpAny (model X.prog X.w) X.A (eval b X.env) (fun u s₂ => wpAny (model X.prog X.w) X.A (f v u) Q X.xe s₂) X.xe s₁) X.xe s := by
  refine thn (ha pins s σ H _ I h) fun v s1 ⟨x, H1, I1, r1, q1⟩ => ?_
  refine thn (hb pins s1 σ H1 _ I1 q1) fun u s2 ⟨y, H2, I2, r2, q2⟩ => ?_
  exact hf v u s2 x y H2 I2 r1 r2 q2

theorem pe_op {op : Operator} {r : R2} (ho : OpR X (binaryOp op) r) (ha : PE X a ta) (hb : PE X b tb) : PE X (.BinOp a op b pos) (tOp r ta tb) := by
  intro pins s σ H Q I h
  exact wpAny_BinOp (binT ha hb I h fun v u s2 x y H2 I2 rx ry q => ho pins s2 σ H2 x y v u Q I2 rx ry q)
theorem pe_un {op : UnaryOp} {r : V → Hp → VK → Prop} (ho : UnR X (unaryOp op) r) (ha : PE X a ta) : PE X (.UnaryOp op a pos) (tUn r ta) := by
  intro pins s σ H Q I h
  exact UnaryOp_ (thn (ha pins s σ H _ I h) fun v s1 ⟨x, H1, I1, r1, q1⟩ => ho pins s1 σ H1 x v Q I1 r1 q1)
theorem opI {f : Value → Value → Sem Value} {C : Int → Int → Prop} {g : Int → Int → Int}
    (rule : ∀ (i j : Int) (t u : Tok) (s : Shared) (Q : Value → Shared → Prop) (E : Value → Shared → Prop), C i j → Q (.int (g i j) s.toks) { s with toks := s.toks + 1 } → wpAny (model X.prog X.w) X.A (f (.int i t) (.int j u)) Q E s) :
    OpR X f (rI C fun i j => .int (g i j)) := by
  intro pins s σ H x y v u Q I rx ry h
  obtain ⟨i, j, rfl, rfl, hc, q⟩ := h
  obtain ⟨t, rfl⟩ := rx
  obtain ⟨t', rfl⟩ := ry
  exact rule i j t t' s _ _ hc ⟨.int (g i j), H, I.tok _, ⟨_, rfl⟩, q⟩
theorem opI0 {f : Value → Value → Sem Value} {g : Int → Int → Int}
    (rule : ∀ (i j : Int) (t u : Tok) (s : Shared) (Q : Value → Shared → Prop) (E : Value → Shared → Prop), Q (.int (g i j) s.toks) { s with toks := s.toks + 1 } → wpAny (model X.prog X.w) X.A (f (.int i t) (.int j u)) Q E s) :
    OpR X f (rI0 fun i j => .int (g i j)) := by
  intro pins s σ H x y v u Q I rx ry h
  obtain ⟨i, j, rfl, rfl, q⟩ := h
  obtain ⟨t, rfl⟩ := rx
  obtain ⟨t', rfl⟩ := ry
  exact rule i j t t' s _ _ ⟨.int (g i j), H, I.tok _, ⟨_, rfl⟩, q⟩
theorem opB0 {f : Value → Value → Sem Value} {g : Int → Int → Bool}
    (rule : ∀ (i j : Int) (t u : Tok) (s : Shared) (Q : Value → Shared → Prop) (E : Value → Shared → Prop), Q (.bool (g i j)) s → wpAny (model X.prog X.w) X.A (f (.int i t) (.int j u)) Q E s) :
    OpR X f (rI0 fun i j => .bl (g i j)) := by
  intro pins s σ H x y v u Q I rx ry h
  obtain ⟨i, j, rfl, rfl, q⟩ := h
  obtain ⟨t, rfl⟩ := rx
  obtain ⟨t', rfl⟩ := ry
  exact rule i j t t' s _ _ ⟨.bl (g i j), H, I, rfl, q⟩

def CDiv (i j : Int) : Prop := 0 < j ∧ j < 1073741824
def CMul (i j : Int) : Prop := (-(2 ^ 64) < i ∧ i < 2 ^ 64) ∨ (-(2 ^ 64) < j ∧ j < 2 ^ 64)
theorem CMul.ok {i j : Int} (h : CMul i j) : IntMulOk i j := by
  rcases h with ⟨h1, h2⟩ | ⟨h1, h2⟩
  · exact .of_left (intBits_le_64 h1 h2)
  · exact .of_right (intBits_le_64 h1 h2)
theorem op_add : OpR X (binaryOp .Add) (rI0 fun i j => .int (i + j)) := opI0 fun _ _ _ _ _ _ _ q => add_int q
theorem op_sub : OpR X (binaryOp .Sub) (rI0 fun i j => .int (i - j)) := opI0 fun _ _ _ _ _ _ _ q => sub_int q
theorem op_mul : OpR X (binaryOp .Mult) (rI CMul fun i j => .int (i * j)) := opI fun _ _ _ _ _ _ _ hc q => mul_int q hc.ok
/-- // by a positive divisor -/
theorem op_fdiv : OpR X (binaryOp .FloorDiv) (rI CDiv fun i j => .int (i / j)) := opI fun i j _ _ _ _ _ hc q => by
  have h1 : (0 : Int) < j := hc.1
  have h2 : j < 1073741824 := hc.2
  exact floordiv_int (by omega) (by rw [Int.fdiv_eq_ediv_of_nonneg i (by omega)]; exact q) (.inl (PyProof.noPylong_small (by omega)))
/-- % by a positive divisor of any size -/
theorem op_mod : OpR X (binaryOp .Mod) (rI (fun _ j => 0 < j) fun i j => .int (i % j)) := opI fun i j _ _ _ _ _ hc q => by
  have h1 : (0 : Int) < j := hc
  exact mod_int' (by omega) (by rw [Int.fmod_eq_emod_of_nonneg i (by omega)]; exact q)
theorem unI {f : Value → Sem Value} {g : Int → Int}
    (rule : ∀ (i : Int) (t : Tok) (s : Shared) (Q : Value → Shared → Prop) (E : Value → Shared → Prop), Q (.int (g i) s.toks) { s with toks := s.toks + 1 } → wpAny (model X.prog X.w) X.A (f (.int i t)) Q E s) :
    UnR X f (rU fun i => .int (g i)) := by
  intro pins s σ H x v Q I rx h
  obtain ⟨i, rfl, q⟩ := h
  obtain ⟨t, rfl⟩ := rx
  exact rule i t s _ _ ⟨.int (g i), H, I.tok _, ⟨_, rfl⟩, q⟩
theorem un_neg : UnR X (unaryOp .USub) (rU fun i => .int (-i)) := unI fun _ _ _ _ _ q => neg_int q
end
/-- the scalars that == tells apart as data does -/
def scal : V → V → Bool
  | .non, .non => true | .non, .int _ => true | .int _, .non => true | .non, .bl _ => true | .bl _, .non => true | .non, .str _ => true | .str _, .non => true
  | .int _, .int _ => true | .bl _, .bl _ => true | .str _, .str _ => true | .byt _, .byt _ => true
  | .int _, .str _ => true | .str _, .int _ => true | .bl _, .str _ => true | .str _, .bl _ => true
  | _, _ => false
def rEq : R2 := fun x y H Q => scal x y = true ∧ Q (.bl (decide (x = y))) H
theorem dec_int {i j : Int} : decide (V.int i = V.int j) = (i == j) := by
  rw [Bool.eq_iff_iff]
  simp
theorem dec_bl {i j : Bool} : decide (V.bl i = V.bl j) = (i == j) := by
  rw [Bool.eq_iff_iff]
  simp
theorem dec_str {i j : Str} : decide (V.str i = V.str j) = (i == j) := by
  rw [Bool.eq_iff_iff]
  simp
theorem dec_byt {i j : Array UInt8} : decide (V.byt i = V.byt j) = (i.toList == j.toList) := by
  rw [Bool.eq_iff_iff]
  cases i
  cases j
  simp

section
variable {X : Cx} {a b c : Expr} {ta tb tc : TE} {pos : Pos}
theorem fin_bl {pins : List (Addr × Obj)} {σ : St} {H : Hp} {s : Shared} {Q : VK} {k k' : Bool} (I : Inv X pins σ H s) (q : Q (.bl k) H) (e : k = k') : EP X pins σ Q (.bool k') s := by
  subst e
  exact ⟨.bl k, H, I, rfl, q⟩
theorem op_eq : OpR X (compareOp .Eq) rEq := by
  intro pins s σ H x y v u Q I rx ry h
  obtain ⟨hs, q⟩ := h
  cases x with
  | non =>
    cases rx
    cases y with
    | non => cases ry; exact PySem.EqNone.eq_none_none (fin_bl I q (by simp))
    | bl j => cases ry; exact PySem.EqNone.eq_none_bool (fin_bl I q (by simp))
    | int j => obtain ⟨t', rfl⟩ := ry; exact PySem.EqNone.eq_none_int (fin_bl I q (by simp))
    | str j => obtain ⟨t', rfl⟩ := ry; exact PySem.EqNone.eq_none_str (fin_bl I q (by simp))
    | _ => exact absurd (show false = true from hs) Bool.false_ne_true
  | bl i =>
    cases rx
    cases y with
    | non => cases ry; exact PySem.EqNone.eq_bool_none (fin_bl I q (by simp))
    | bl j => cases ry; exact eq_bool (fin_bl I q dec_bl)
    | str j => obtain ⟨t', rfl⟩ := ry; exact PySem.EqMixed.eq_bool_str (fin_bl I q (by simp))
    | _ => exact absurd (show false = true from hs) Bool.false_ne_true
  | int i =>
    obtain ⟨t, rfl⟩ := rx
    cases y with
    | non => cases ry; exact PySem.EqNone.eq_int_none (fin_bl I q (by simp))
    | int j => obtain ⟨t', rfl⟩ := ry; exact eq_int (fin_bl I q dec_int)
    | str j => obtain ⟨t', rfl⟩ := ry; exact PySem.EqMixed.eq_int_str (fin_bl I q (by simp))
    | _ => exact absurd (show false = true from hs) Bool.false_ne_true
  | str i =>
    obtain ⟨t, rfl⟩ := rx
    cases y with
    | non => cases ry; exact PySem.EqNone.eq_str_none (fin_bl I q (by simp))
    | bl j => cases ry; exact PySem.EqMixed.eq_str_bool (fin_bl I q (by simp))
    | int j => obtain ⟨t', rfl⟩ := ry; exact PySem.EqMixed.eq_str_int (fin_bl I q (by simp))
    | str j => obtain ⟨t', rfl⟩ := ry; exact eq_str (fin_bl I q dec_str)
    | _ => exact absurd (show false = true from hs) Bool.false_ne_true
  | byt i =>
    obtain ⟨t, rfl⟩ := rx
    cases y with
    | byt j => obtain ⟨t', rfl⟩ := ry; exact PySem.W.eq_bytes (fin_bl I q dec_byt)
    | _ => exact absurd (show false = true from hs) Bool.false_ne_true
  | _ => cases y <;> exact absurd (show false = true from hs) Bool.false_ne_true
theorem op_lt : OpR X (compareOp .Lt) (rI0 fun i j => .bl (decide (i < j))) := opB0 fun _ _ _ _ _ _ _ q => lt_int q
theorem op_gt : OpR X (compareOp .Gt) (rI0 fun i j => .bl (decide (j < i))) := opB0 fun _ _ _ _ _ _ _ q => gt_int q
theorem op_ge : OpR X (compareOp .GtE) (rI0 fun i j => .bl (decide (j ≤ i))) := opB0 fun _ _ _ _ _ _ _ q => ge_int q
/-- is None, is not None: the right side a value none -/
theorem op_isN : OpR X (compareOp .Is) (fun x y H Q => y = .non ∧ Q (.bl (decide (x = .non))) H) := by
  intro pins s σ H x y v u Q I rx ry h
  obtain ⟨rfl, q⟩ := h
  cases ry
  refine is_none_gen (fin_bl I q ?_)
  cases x <;> first
    | (cases rx; rfl)
    | (obtain ⟨t, rfl⟩ := rx; rfl)
theorem nomark (b : Expr) {op : CmpOp} (h : op ≠ .In := by decide) (h2 : op ≠ .NotIn := by decide) : behindInMarks op b = false := by
  have e1 : (op == CmpOp.In) = false := by cases op <;> first | rfl | exact absurd rfl h
  have e2 : (op == CmpOp.NotIn) = false := by cases op <;> first | rfl | exact absurd rfl h2
  cases b <;> simp [behindInMarks, e1, e2]
/-- a comparison as a value; hm: nomark b, or (for in, not in) by with_unfolding_all rfl -/
theorem pe_cmpR {op : CmpOp} {r : R2} (ho : OpR X (compareOp op) r) (ha : PE X a ta) (hb : PE X b tb) (hm : behindInMarks op b = false) : PE X (.Compare a [op] [b] pos) (tOp r ta tb) := by
  intro pins s σ H Q I h
  exact wpAny_Compare1 (binT ha hb I h fun v u s2 x y H2 I2 rx ry q => ho pins s2 σ H2 x y v u Q I2 rx ry q) hm
/-- a reading of a value as a test -/
def tTest (t : TE) : TT := fun σ H Q => t σ H fun x H' => ∃ k, x = .bl k ∧ Q k H'
theorem pt_cmpR {op : CmpOp} {r : R2} (ho : OpR X (compareOp op) r) (ha : PE X a ta) (hb : PE X b tb) (hm : behindInMarks op b = false) : PT X (.Compare a [op] [b] pos) (tTest (tOp r ta tb)) := by
  intro pins s σ H Q I h
  refine wpAny_isTrue_Compare1 (thn (ha pins s σ H _ I h) fun v s1 ⟨x, H1, I1, r1, q1⟩ => thn (hb pins s1 σ H1 _ I1 q1) fun u s2 ⟨y, H2, I2, r2, q2⟩ =>
    thn (ho pins s2 σ H2 x y v u _ I2 r1 r2 q2) fun c s3 ⟨z, H3, I3, r3, k, e, q3⟩ => ?_) hm
  subst e
  cases r3
  exact wpAny_truthy_bool ⟨H3, I3, q3⟩
/-- a op1 b op2 c -/
def tChain (r r' : R2) (ta tb tc : TE) : TE := fun σ H Q => ta σ H fun x H1 => tb σ H1 fun y H2 => r x y H2 fun z H3 => ∃ k, z = .bl k ∧
  (if k = true then tc σ H3 fun w' H4 => r' y w' H4 Q else Q (.bl false) H3)
theorem pe_chain {op op' : CmpOp} {r r' : R2} (ho : OpR X (compareOp op) r) (ho' : OpR X (compareOp op') r') (ha : PE X a ta) (hb : PE X b tb) (hc : PE X c tc)
    (hm : lastMarks [op, op'] [b, c] = false := by with_unfolding_all rfl) : PE X (.Compare a [op, op'] [b, c] pos) (tChain r r' ta tb tc) := by
  intro pins s σ H Q I h
  refine Compare_chain (thn (ha pins s σ H _ I h) fun v s1 ⟨x, H1, I1, r1, q1⟩ => chain_link (thn (hb pins s1 σ H1 _ I1 q1) fun u s2 ⟨y, H2, I2, r2, q2⟩ =>
    thn (ho pins s2 σ H2 x y v u _ I2 r1 r2 q2) fun d s3 ⟨z, H3, I3, r3, k, e, q3⟩ => ?_)) hm
  subst e
  cases r3
  refine wpAny_truthy_bool ?_
  cases k with
  | false => exact ite_ff ⟨.bl false, H3, I3, rfl, q3⟩
  | true => exact ite_tt (chain_last (thn (hc pins s3 σ H3 _ I3 q3) fun w' s4 ⟨z', H4, I4, r4, q4⟩ => ho' pins s4 σ H4 y z' u w' Q I4 r2 r4 q4))
theorem line63 : (sizeLine : Nat) < 2 ^ 63 := by rw [sizeLine_eq]; decide
theorem op_add_str : OpR X (binaryOp .Add) (fun x y H Q => ∃ i j, x = .str i ∧ y = .str j ∧ i.length + j.length ≤ sizeLine ∧ Q (.str (i ++ j)) H) := by
  intro pins s σ H x y v u Q I rx ry h
  obtain ⟨i, j, rfl, rfl, hz, q⟩ := h
  obtain ⟨t, rfl⟩ := rx
  obtain ⟨t', rfl⟩ := ry
  exact add_str (fun t' tk => ⟨.str (i ++ j), H, I.tok _, ⟨_, rfl⟩, q⟩) hz
theorem vals1 {x : V} {us : List Value} (r : Vals [x] us) : ∃ u, us = [u] ∧ RelV x u := by
  cases r with
  | cons r1 r2 => cases r2; exact ⟨_, rfl, r1⟩
theorem vals2 {x y : V} {us : List Value} (r : Vals [x, y] us) : ∃ u w', us = [u, w'] ∧ RelV x u ∧ RelV y w' := by
  cases r with
  | cons r1 r2 =>
    cases r2 with
    | cons r3 r4 => cases r4; exact ⟨_, _, rfl, r1, r3⟩
theorem call_int1 : CallR X (.type "int") (fun xs H Q => (∃ i, xs = [.int i] ∧ Q (.int i) H) ∨ ∃ k, xs = [.bl k] ∧ Q (.int (if k then 1 else 0)) H) := by
  intro pins s σ H xs us Q I r h
  rcases h with ⟨i, rfl, q⟩ | ⟨k, rfl, q⟩
  · obtain ⟨u, rfl, t, rfl⟩ := vals1 r
    exact call_int_int ⟨.int i, H, I, ⟨_, rfl⟩, q⟩
  · obtain ⟨u, rfl, r1⟩ := vals1 r
    cases r1
    exact call_int_bool ⟨.int (if k then 1 else 0), H, I.tok _, ⟨_, rfl⟩, q⟩
end
end L2
namespace L2
open PySem PySem.Spec PyProof.Rows
structure ObjM (h : Heap) (x dx C : Addr) (mA : Str → Option Value) : Prop where
  obj : h.get? x = some (PySem.W.instObj C dx)
  ns : h.Ns1 dx mA
  ne : dx ≠ x

theorem lookIn_ns {h : Heap} {dx : Addr} {mA : Str → Option Value} (n : h.Ns1 dx mA) : ∃ od, h.get? dx = some od ∧ ∀ name, PySem.W.lookIn name od = some (mA name) := by
  obtain ⟨o, es, ep, ho, hd, hk, _, hm⟩ := n
  refine ⟨o, ho, fun name => ?_⟩
  have e := hm name
  unfold nsFind findBy at e
  rw [← Array.find?_toList] at e
  unfold PySem.W.lookIn
  rw [hd]
  dsimp only
  split
  · rename_i y q
    rw [q] at e
    exact congrArg some e
  · rename_i q
    rw [q] at e
    have a : es.toList.any (·.refKey) = false := by
      rw [List.any_eq_false]
      intro y hy
      obtain ⟨z, t, hkey⟩ := hk y (Array.mem_toList_iff.mp hy)
      simp [DictEntry.refKey, hkey]
    have a' : ¬ es.toList.any (·.refKey) = true := by rw [a]; exact Bool.false_ne_true
    rw [if_neg a']
    exact congrArg some e

theorem ObjM.look {h : Heap} {x dx C : Addr} {mA : Str → Option Value} (I : ObjM h x dx C mA) : ∃ od, PySem.W.InstAt h x (PySem.W.instObj C dx) C (some od) ∧ ∀ name, PySem.W.lookIn name od = some (mA name) :=
  let ⟨od, ho, hl⟩ := lookIn_ns I.ns
  ⟨od, ⟨I.obj, rfl, rfl, ho⟩, hl⟩

section
variable {prog : Program} {w : World} {A : Around} {E : Value → Shared → Prop} {s : Shared} {K : PySem.W.Frag} {x dx C f : Addr} {mA : Str → Option Value} {name : Str} {v : Value}
end
section
variable {P : Program} {w : World} {H H' : Hp} {h h' : Heap} {a C dx : Addr} {fs fs' : List (Str × V)}
theorem ins_get (hok : HOk P w H h) (e : H a = some (.ins C dx fs)) : ∃ mA, ObjM h a dx C mA ∧ (∀ f, RelO (fs.lookup f) (mA f)) ∧ PySem.Within mA (fs.map (·.1)) ∧ fs.length ≤ 1000 ∧ H dx = some (.own a) := by
  obtain ⟨d, z, ne, ob, mA, n, r, q⟩ := (show ObjOk P w H h a (.ins C dx fs) from hok a _ e)
  exact ⟨mA, ⟨ob, n, ne⟩, r, q, z, d⟩
end
structure Cls (K : PySem.W.Frag) (C : Addr) : Prop where
  pg : PySem.W.plainGet K C Str.empty = true
  hd : PySem.W.hasDictIn K C = true
  po : PySem.W.plainOver K C = true
  sa : PySem.W.findIn K (.ref C) "__setattr__" = some (some (.builtin "object.__setattr__"))
theorem Cls.get {K : PySem.W.Frag} {C : Addr} (c : Cls K C) (f : Str) : PySem.W.plainGet K C f = true := c.pg
section
variable {X : Cx} {pins : List (Addr × Obj)} {σ : St} {H : Hp} {s : Shared} {a C dx : Addr} {fs : List (Str × V)} {f : Str} {v : V} {A : Around} {E : Value → Shared → Prop}
end
section
variable {X : Cx} {o e value : Expr} {f : Str} {pos pos' tpos : Pos} {ta tv : TE}
end
section
variable {X : Cx} {pins : List (Addr × Obj)} {σ : St} {H : Hp} {s : Shared} {A : Around} {E : Value → Shared → Prop} {Q : Value → Shared → Prop} {c : Value} {b : Bool}
/-- the type of a value, as the fragment's deciders take it; for an instance its class -/
inductive TyOf (K : PySem.W.Frag) (H : Hp) : V → Value → Prop where
  | non : TyOf K H .non (.type "NoneType")
  | bl (x : Bool) : TyOf K H (.bl x) (.type "bool")
  | int (i : Int) : TyOf K H (.int i) (.type "int")
  | str (x : Str) : TyOf K H (.str x) (.type "str")
  | flt (x : UInt64) : TyOf K H (.flt x) (.type "float")
  | lst {a : Addr} {xs : List V} (e : H a = some (.lst xs)) : TyOf K H (.ref a) (.type "list")
  | frz {a : Addr} {o : Obj} {xs : List V} (e : H a = some (.frz o (.lst xs))) : TyOf K H (.ref a) (.type "list")
  | tup {a : Addr} {xs : List V} (e : H a = some (.tup xs)) : TyOf K H (.ref a) (.type "tuple")
  | dK {a : Addr} {kvs : List (Key × V)} (e : H a = some (.dK kvs)) : TyOf K H (.ref a) (.type "dict")
  | dT {a : Addr} {kvs : List (List Key × V)} (e : H a = some (.dT kvs)) : TyOf K H (.ref a) (.type "dict")
  | ins {a C dx : Addr} {fs : List (Str × V)} (e : H a = some (.ins C dx fs)) (cl : Cls K C) (ha : PySem.W.findIn K (.ref C) "__class__" = some (some (.builtin "object.__class__")))
      (hn : PySem.W.specialIn K (.builtin "object.__class__") "__get__" = some (some (.builtin "getset_descriptor.__get__"))) (htk : PySem.W.takesIn K (.builtin "object.__class__") = some true)
      (hm : PySem.W.mroIn K C (.type "object") = some true) : TyOf K H (.ref a) (.ref C)
/-- isinstance(x, c) for one class c, a built-in or an own one: kitOne's answer -/
theorem isinst_ok {x : V} {u t : Value} (I : Inv X pins σ H s) (rx : RelV x u) (ty : TyOf X.K H x t) (e : PySem.W.kitOne X.K t c = some b) (h : ∀ tk, Q (.bool b) { s with toks := tk }) :
    wpAny (model X.prog X.w) A (call (.builtin "isinstance") [u, c]) Q E s := by
  cases ty with
  | non => cases (show u = Value.none from rx); exact PySem.W.kia_one PySem.W.kitx_none I.kIn True.intro e (fun z => nomatch z) h
  | bl y => cases (show u = Value.bool y from rx); exact PySem.W.kia_one PySem.W.kitx_bool I.kIn True.intro e (fun z => nomatch z) h
  | int i => obtain ⟨t, q⟩ := (show ∃ t, u = Value.int i t from rx); cases q; exact PySem.W.kia_one PySem.W.kitx_int I.kIn True.intro e (fun z => nomatch z) h
  | str y => obtain ⟨t, q⟩ := (show ∃ t, u = Value.str y t from rx); cases q; exact PySem.W.kia_one PySem.W.kitx_str I.kIn True.intro e (fun z => nomatch z) h
  | flt y => obtain ⟨t, q⟩ := (show ∃ t, u = Value.float y t from rx); cases q; exact PySem.W.kia_one PySem.W.kitx_float I.kIn True.intro e (fun z => nomatch z) h
  | @lst a xs ea =>
    cases (show u = Value.ref a from rx)
    obtain ⟨_, _, n, _, h1⟩ := (show ObjOk X.prog X.w H s.heap a (.lst xs) from I.hok a _ ea)
    exact PySem.W.kia_one PySem.W.kitx_list I.kIn ⟨_, h1, rfl⟩ e (fun z => nomatch z) h
  | @frz a ob xs ea =>
    cases (show u = Value.ref a from rx)
    obtain ⟨_, _, _, n, _, h1⟩ := (show ObjOk X.prog X.w H s.heap a (.frz ob (.lst xs)) from I.hok a _ ea)
    exact PySem.W.kia_one PySem.W.kitx_list I.kIn ⟨_, h1, rfl⟩ e (fun z => nomatch z) h
  | @tup a xs ea =>
    cases (show u = Value.ref a from rx)
    obtain ⟨_, _, _, p⟩ := (show ObjOk X.prog X.w H s.heap a (.tup xs) from I.hok a _ ea)
    obtain ⟨o, h1, h2, _⟩ := p
    exact PySem.W.kia_one PySem.W.kitx_tuple I.kIn ⟨o, h1, h2⟩ e (fun z => nomatch z) h
  | @dK a kvs ea =>
    cases (show u = Value.ref a from rx)
    obtain ⟨_, _, vs, _, p⟩ := (show ObjOk X.prog X.w H s.heap a (.dK kvs) from I.hok a _ ea)
    obtain ⟨o, es, ep, h1, h2, _⟩ := p
    exact PySem.W.kia_one PySem.W.kitx_dict I.kIn ⟨o, h1, h2.1⟩ e (fun z => nomatch z) h
  | @dT a kvs ea =>
    cases (show u = Value.ref a from rx)
    obtain ⟨_, _, xs, _, o, es, ep, h1, h2, _⟩ := (show ObjOk X.prog X.w H s.heap a (.dT kvs) from I.hok a _ ea)
    exact PySem.W.kia_one PySem.W.kitx_dict I.kIn ⟨o, h1, h2.1⟩ e (fun z => nomatch z) h
  | @ins a C dx fs ea cl ha hn htk hm =>
    cases (show u = Value.ref a from rx)
    obtain ⟨mA, O, _⟩ := ins_get I.hok ea
    obtain ⟨od, J, _⟩ := O.look
    exact PySem.W.kia_one (PySem.W.kitx_own (cl.get _) cl.hd ha hn htk hm) I.kIn J e (fun z => nomatch z) h
end
end L2
namespace L2
open PySem PySem.Spec PyProof.Rows
structure Room (k : Nat) (A : Around) : Prop where
  hd : A.handled = none
  dp : A.depth + 3 * k + 5 < recursionLimit
  un : A.units + 16 * k + 200 < cLine
theorem Room.mono {j k : Nat} {A : Around} (r : Room k A) (h : j ≤ k) : Room j A := ⟨r.hd, by have := r.dp; omega, by have := r.un; omega⟩
theorem Room.deeper {k : Nat} {A : Around} (r : Room (k + 1) A) (env : Env) : Room k (A.deeper env) :=
  ⟨r.hd, by have := r.dp; show A.depth + 1 + 3 * k + 5 < _; omega, by have := r.un; show A.units + 3 + 16 * k + 200 < _; omega⟩
theorem Room.depth {k : Nat} {A : Around} (r : Room k A) : A.depth < recursionLimit := by have := r.dp; omega
theorem Room.units0 {k : Nat} {A : Around} (r : Room k A) : A.units < cLine := by have := r.un; omega

def tNil : TA := fun _ H Q => Q [] H
def tCons (ta : TE) (tr : TA) : TA := fun σ H Q => ta σ H fun x H1 => tr σ H1 fun xs H2 => Q (x :: xs) H2
section
variable {X : Cx} {e : Expr} {es : List Expr} {te : TE} {t : TA} {pos : Pos}
theorem pa_nil : PA X [] tNil := fun _ _ _ _ H Q I h => Calls.spliced_nil ⟨[], H, I, .nil, h⟩
theorem pa_cons (ha : PE X e te) (hr : PA X es t) (hs : starEach (e :: es) X.env = (false, eval e X.env) :: starEach es X.env := by rfl) : PA X (e :: es) (tCons te t) := by
  intro pos pins s σ H Q I h
  rw [hs]
  show wpAny _ _ (spliced ((false, eval e X.env) :: backTo pos (starEach es X.env))) _ _ s
  refine Calls.spliced_cons (thn (ha pins s σ H _ I h) fun u s1 ⟨x, H1, I1, r1, q1⟩ => ?_)
  exact thn (hr pos pins s1 σ H1 _ I1 q1) fun us s2 ⟨xs, H2, I2, r2, q2⟩ => ⟨x :: xs, H2, I2, .cons r1 r2, q2⟩

/-- a tuple, a list of written items -/
def tTup (t : TA) : TE := fun σ H Q => t σ H fun xs H1 => xs.length ≤ sizeLine ∧ ∀ p, H1 p = none → Q (.ref p) (upd H1 p (.tup xs))
def tLst (t : TA) : TE := fun σ H Q => t σ H fun xs H1 => xs.length ≤ sizeLine ∧ ∀ p, H1 p = none → Q (.ref p) (upd H1 p (.lst xs))
theorem pe_tup {x1} (h : PA X es t) : PE X (.Tuple es x1 pos) (tTup t) := by
  intro pins s σ H Q I hq
  refine wpAny_Tuple_spliced (thn (h pos pins s σ H _ I hq) fun us s1 ⟨xs, H1, I1, r, z, q⟩ => ⟨by rw [← r.length]; exact z, ?_⟩)
  have hf : H1 s1.heap.objs.size = none := I1.hok.fresh (Nat.le_refl _)
  refine ⟨.ref s1.heap.objs.size, upd H1 s1.heap.objs.size (.tup xs), I1.laid (t' := s1.toks) (fun b u e => Heap.get?_push_of_some _ e) (Nat.le_refl _) ?_, rfl, q _ hf⟩
  exact ⟨z, us, r, ⟨_, Heap.get?_push_size _ rfl, rfl, _, rfl⟩⟩
theorem pe_lst (h : PA X es t) : PE X (.List es pos) (tLst t) := by
  intro pins s σ H Q I hq
  refine wpAny_List_spliced (thn (h pos pins s σ H _ I hq) fun us s1 ⟨xs, H1, I1, r, z, q⟩ => ⟨by rw [← r.length]; exact z, ?_⟩)
  have hf : H1 s1.heap.objs.size = none := I1.hok.fresh (Nat.le_refl _)
  refine ⟨.ref s1.heap.objs.size, upd H1 s1.heap.objs.size (.lst xs), I1.laid (t' := s1.toks) (fun b u e => Heap.get?_push_of_some _ e) (Nat.le_refl _) ?_, rfl, q _ hf⟩
  exact ⟨z, us, 0, r, Heap.get?_push_size _ rfl⟩
end
/-- a def's promise: the bound arguments in the parameters' order, the heap, the wanted end, the wanted exception -/
abbrev Sp := List V → Hp → VK → XK → Prop
/-- how an exception lies behind a call (file 08 gives it): the callers' frames, abstract heap and state ahead of the call, the wish, the exception, the state -/
abbrev CXT := List Env → Hp → Shared → XK → Value → Shared → Prop

/-- the state at a call -/
structure Env0 (P : Program) (w : World) (K : PySem.W.Frag) (mg : Str → Option Value) (base : Heap) (A : Around) (outer : List Env) (s : Shared) (H : Hp) : Prop where
  frames : A.frames = some outer
  mod : Mod K mg base
  bs : ∀ b o, base.get? b = some o → s.heap.get? b = some o ∧ H b = none
  bsz : base.objs.size ≤ s.heap.objs.size
  funs : s.heap.FunFrames base outer
  frf : ∀ b ∈ frs outer, H b = none
  hok : HOk P w H s.heap
  bare : AllBare s.gens
/-- a call's end -/
def CE (outer : List Env) (P : Program) (w : World) (H : Hp) (s : Shared) (Q : VK) (u : Value) (s' : Shared) : Prop :=
  ∃ v H', s'.os = s.os ∧ AllBare s'.gens ∧ Un (frs outer) [] H H' s.heap s'.heap ∧ HOk P w H' s'.heap ∧ RelV v u ∧ Q v H'
def CR (CX : CXT) (outer : List Env) (P : Program) (w : World) (H : Hp) (s : Shared) (Q : VK) (E : XK) (r : Result) (s' : Shared) : Prop :=
  match r with
  | .ok (.ret u) => CE outer P w H s Q u s'
  | .ok _ => False
  | .error e => CX outer H s E e s'
structure FnOk (P : Program) (w : World) (K : PySem.W.Frag) (mg : Str → Option Value) (base : Heap) (CX : CXT) (k : Nat) (f : Addr) (fd : FuncData) (ps : List Str) (sp : Sp) : Prop where
  len : ∀ vs H Q E, sp vs H Q E → vs.length = ps.length
  run : ∀ (A : Around) (outer : List Env) (s : Shared) (H : Hp) (args : Args) (us : List Value) (vs : List V) (Q : VK) (E : XK), Room k A → Env0 P w K mg base A outer s H → BindsTo s fd args (ps.zip us) → Vals vs us → sp vs H Q E →
    codeAny (model P w) A (.call (.ref f) args) (CR CX outer P w H s Q E) s
section
variable {X : Cx} {pins : List (Addr × Obj)} {σ : St} {H : Hp} {s s' : Shared}
/-- from a body: what a callee wants -/
theorem Inv.env0 (I : Inv X pins σ H s) : Env0 X.prog X.w X.K X.mg X.base X.A X.stack s H :=
  ⟨I.ok.frames, I.ok.mod, I.bs, Nat.le_trans I.ok.bsz I.sz, I.stack, I.stkFree, I.hok, I.bare⟩
/-- behind a call -/
theorem Inv.after {Q : VK} {u : Value} (I : Inv X pins σ H s) (h : CE X.stack X.prog X.w H s Q u s') : EP X pins σ Q u s' := by
  obtain ⟨v, H', os, bare, un, hok, r, q⟩ := h
  obtain ⟨hh, g, d, t, os'⟩ := s'
  obtain rfl : os' = s.os := os
  exact ⟨v, H', I.call (h' := hh) (g' := g) (d' := d) (t' := t) (ch := []) un hok bare (fun b z => absurd z (by simp)), r, q⟩
end
/-- f(..): the written arguments, then the defaults dvs; E: what is wanted of an exception -/
def tCall (sp : Sp) (dvs : List V) (E : XK) (t : TA) : TE := fun σ H Q => t σ H fun vs H1 => sp (vs ++ dvs) H1 Q E
/-- how the parameters are bound: us the positional arguments, kw the keywords' values by name, ds the defaults that fill up -/
def Binds (K : PySem.W.Frag) (fd : FuncData) (ps : List Str) (ds : List Value) : Prop :=
  ∀ (s : Shared) (us : List Value), K.In s.heap → (us ++ ds).length = ps.length → BindsTo s fd ⟨us, []⟩ (ps.zip (us ++ ds))
/-- every parameter is given -/
theorem Binds.all {K : PySem.W.Frag} {fd : FuncData} {ps : List Str} (h : ∀ us : List Value, us.length = ps.length → bindArgs fd ⟨us, []⟩ = pure (ps.zip us)) : Binds K fd ps [] := fun s us _ hl => by
  rw [List.append_nil] at hl ⊢
  exact .of_eq (h us hl)

/-- an exception of a callee reaches what this body wants of exceptions -/
def Passes (CX : CXT) (X : Cx) (E : XK) : Prop := ∀ (pins : List (Addr × Obj)) (σ : St) (H : Hp) (s : Shared) (e : Value) (s' : Shared), Inv X pins σ H s → CX X.stack H s E e s' → X.xe e s'

section
variable {X : Cx} {CX : CXT} {k : Nat} {f C : Addr} {fd : FuncData} {ps : List Str} {sp : Sp} {dvs : List V} {ds : List Value} {E : XK} {x m : Str} {p pos apos : Pos} {e o : Expr} {es : List Expr} {ta : TE} {t : TA}
/-- the callee runs -/
theorem run_fn {pins : List (Addr × Obj)} {σ : St} {H : Hp} {s : Shared} {Q : VK} {us : List Value} {vs : List V} (F : FnOk X.prog X.w X.K X.mg X.base CX k f fd ps sp) (hr : Room k X.A) (hb : Binds X.K fd ps ds) (hd : Vals dvs ds) (hx : Passes CX X E)
    (I : Inv X pins σ H s) (r : Vals vs us) (h : sp (vs ++ dvs) H Q E) : wpAny (model X.prog X.w) X.A (call (.ref f) us) (EP X pins σ Q) X.xe s := by
  have r2 : Vals (vs ++ dvs) (us ++ ds) := r.append hd
  have hl : (us ++ ds).length = ps.length := by rw [← r2.length]; exact F.len _ _ _ _ h
  refine wpAny_call (codeAny_mono (F.run X.A X.stack s H ⟨us, []⟩ (us ++ ds) (vs ++ dvs) Q E hr I.env0 (hb s us I.kIn hl) r2 h) fun r s' hq => ?_)
  cases r with
  | error e => exact hx pins σ H s e s' I hq
  | ok fl =>
    cases fl with
    | ret u => exact I.after hq
    | next => exact False.elim hq
    | brk => exact False.elim hq
    | cont => exact False.elim hq

theorem pe_call (F : FnOk X.prog X.w X.K X.mg X.base CX k f fd ps sp) (hr : Room k X.A) (hg : Gl X x) (hm : X.mg x = some (.ref f)) (hk : PySem.W.keepIn X.K (.ref f) = true) (hb : Binds X.K fd ps ds) (hd : Vals dvs ds) (hx : Passes CX X E)
    (ha : PA X (e :: es) t) (hdb : (x == ("__debug__" : Str)) = false := by decide) (he : starEach (e :: es) X.env = (false, eval e X.env) :: starEach es X.env := by rfl) (hpl : (backTo pos (starEach es X.env)).any (·.1) = false := by rfl) :
    PE X (.Call (.Name x p) (e :: es) [] pos) (tCall sp dvs E t) := by
  intro pins s σ H Q I h
  refine wpAny_Call_Name_kw (ld_glob I hg hm ?_ hdb)
  refine PySem.W.callWith_K (h₀ := X.base) I.ok.mod.kin hk (thn (ha pos pins s σ H _ I h) fun us s1 ⟨vs, H1, I1, r, q⟩ => ⟨I1.kIn, ?_⟩) he hpl
  exact run_fn F hr hb hd hx I1 r q
end
section
variable {X : Cx} {CX : CXT} {k : Nat} {f C : Addr} {fd : FuncData} {ps ks : List Str} {sp : Sp} {E : XK} {x m : Str} {p pos apos kpos : Pos} {e o : Expr} {es : List Expr} {kws : List Keyword} {te ta : TE} {t tk : TA} {nm : Option Str}
variable {g : List Value → List Value → List Value} {gV : List V → List V → List V}
end
/-- names: the parameters first -/
structure FnScope (N P : List Str) (sc : Scope) : Prop where
  kind : sc.kind = .function
  co : sc.isCoroutine = false
  gen : sc.isGenerator = false
  nd : N.Nodup
  pre : N.take P.length = P
  par : ∀ x ∈ P, sc.names.lookup x = some .local ∨ sc.names.lookup x = some .cell
  nofree : ∀ y ∈ sc.names, y.2 ≠ .free

theorem bindL_out {kindOf : Str → Option NameKind} {x : Str} : ∀ {binds : List (Str × Value)} {m : Str → Option Value}, (∀ v, (x, v) ∉ binds) → bindL kindOf binds m x = m x
  | [], _, _ => rfl
  | (n, v) :: r, m, h => by
    unfold bindL
    rw [bindL_out fun w hw => h w (List.mem_cons_of_mem _ hw)]
    split
    · have : x ≠ n := by rintro rfl; exact h v List.mem_cons_self
      simp [this]
    · rfl
theorem bindC_out {kindOf : Str → Option NameKind} {x : Str} : ∀ {binds : List (Str × Value)} {m : Str → Option Value}, (∀ v, (x, v) ∉ binds) → bindC kindOf binds m x = m x
  | [], _, _ => rfl
  | (n, v) :: r, m, h => by
    unfold bindC
    rw [bindC_out fun w hw => h w (List.mem_cons_of_mem _ hw)]
    split
    · rfl
    · have : x ≠ n := by rintro rfl; exact h v List.mem_cons_self
      simp [this]
theorem bindL_get {kindOf : Str → Option NameKind} {x : Str} {v : Value} : ∀ {P : List Str} {vs : List Value} {i : Nat} {m : Str → Option Value}, P.Nodup → P[i]? = some x → vs[i]? = some v → kindOf x = some .local →
    bindL kindOf (P.zip vs) m x = some v
  | [], _, _, _, _, h, _, _ => by simp at h
  | _ :: _, [], _, _, _, _, h, _ => by simp at h
  | p :: P, w :: vs, 0, m, nd, h1, h2, hk => by
    simp at h1 h2; subst h1; subst h2
    show bindL kindOf ((p, w) :: P.zip vs) m p = _
    unfold bindL
    rw [bindL_out fun v hv => (List.nodup_cons.mp nd).1 (List.of_mem_zip hv).1, if_pos hk]
    simp
  | p :: P, w :: vs, i + 1, m, nd, h1, h2, hk => by
    show bindL kindOf ((p, w) :: P.zip vs) m x = _
    unfold bindL
    exact bindL_get (i := i) (List.nodup_cons.mp nd).2 (by simpa using h1) (by simpa using h2) hk
theorem bindC_get {kindOf : Str → Option NameKind} {x : Str} {v : Value} : ∀ {P : List Str} {vs : List Value} {i : Nat} {m : Str → Option Value}, P.Nodup → P[i]? = some x → vs[i]? = some v → kindOf x ≠ some .local →
    bindC kindOf (P.zip vs) m x = some v
  | [], _, _, _, _, h, _, _ => by simp at h
  | _ :: _, [], _, _, _, _, h, _ => by simp at h
  | p :: P, w :: vs, 0, m, nd, h1, h2, hk => by
    simp at h1 h2; subst h1; subst h2
    show bindC kindOf ((p, w) :: P.zip vs) m p = _
    unfold bindC
    rw [bindC_out fun v hv => (List.nodup_cons.mp nd).1 (List.of_mem_zip hv).1, if_neg hk]
    simp
  | p :: P, w :: vs, i + 1, m, nd, h1, h2, hk => by
    show bindC kindOf ((p, w) :: P.zip vs) m x = _
    unfold bindC
    exact bindC_get (i := i) (List.nodup_cons.mp nd).2 (by simpa using h1) (by simpa using h2) hk

/-- the names' values at the entry -/
def start (N : List Str) (vs : List V) : St := vs.map some ++ List.replicate (N.length - vs.length) none

/-- the context of a def's body, at its entry; an exception leaves the frame, then lies as CX says -/
def cxOf (CX : CXT) (P : Program) (w : World) (K : PySem.W.Frag) (mg : Str → Option Value) (base : Heap) (N : List Str) (qual : Str) (scope : Scope) (f : Addr) (cd : Value) (A : Around) (outer : List Env) (s : Shared) (H : Hp) (E : XK) : Cx where
  prog := P
  w := w
  K := K
  mg := mg
  base := base
  A := A.deeper (envOfC qual scope s.heap.objs.size f cd)
  N := N
  s₀ := s
  H₀ := H
  env := envOfC qual scope s.heap.objs.size f cd
  outer := outer
  stack := envOfC qual scope s.heap.objs.size f cd :: outer
  ex := []
  calm := true
  fn := fun _ => true
  pn := []
  xe := fun e s' => wpAny (model P w) (A.deeper (envOfC qual scope s.heap.objs.size f cd)) (leaving (envOfC qual scope s.heap.objs.size f cd) e) (fun _ s'' => CX outer H s E e s'') (fun e' s'' => CX outer H s E e' s'') s'

theorem cell_has {sc : Scope} {n : Nat} {x : Str} (h : sc.names.lookup x = some .cell) : ∃ c, (cellsFrom n sc.names []).lookup x = some c := by
  have q := PySem.W.cellsFrom_some sc.names n [] (.inl h)
  exact Option.isSome_iff_exists.mp q

theorem inv_start {CX : CXT} {P : Program} {w : World} {K : PySem.W.Frag} {mg : Str → Option Value} {base : Heap} {N ps : List Str} {qual : Str} {scope : Scope} {f : Addr} {cd : Value} {A : Around} {outer : List Env} {s s1 : Shared} {H : Hp} {E : XK} {us : List Value} {vs : List V}
    (S : FnScope N ps scope) (hd : A.handled = none) (e0 : Env0 P w K mg base A outer s H) (hl : vs.length = ps.length) (r : Vals vs us)
    (x : InCallC s s.heap.objs.size (bindL (envOfC qual scope s.heap.objs.size f cd).kindOf (ps.zip us) fun _ => none) (cellsFrom (s.heap.objs.size + 1) scope.names []) (bindC (envOfC qual scope s.heap.objs.size f cd).kindOf (ps.zip us) fun _ => none) s1) :
    Inv (cxOf CX P w K mg base N qual scope f cd A outer s H E) [] (start N vs) H s1 := by
  have hpl : ps.length ≤ N.length := by have := congrArg List.length S.pre; rw [List.length_take] at this; omega
  obtain ⟨h1, tk, rfl, hk⟩ := x.done
  have noA : ∀ b : Addr, b ∉ (cxOf CX P w K mg base N qual scope f cd A outer s H E).ex := fun b z => absurd (show b ∈ ([] : List Addr) from z) (by simp)
  refine ⟨⟨e0.mod, S.kind, rfl, rfl, Nat.le_refl _, fun y z c h1 h2 => ?_, fun y hy => ?_, fun y c _ h => ?_, fun _ => hd, Around.frames_deeper e0.frames, .inr ⟨rfl, rfl⟩, fun b z => absurd z (noA b), e0.bs, e0.bsz, fun b _ _ => noA b, fun b z => absurd z (noA b), e0.funs, e0.frf⟩,
    rfl, e0.bare, Un.kept hk, ⟨_, x.toInCall.ns, fun i y v h1 h2 h3 => ?_⟩, fun y c h => ⟨_, x.cell y c h⟩, e0.hok.fresh (Nat.le_refl _), fun y c h => ?_, fun p hp => absurd (show p ∈ ([] : List (Addr × Obj)) from hp) (by simp), e0.hok.kept hk, ?_⟩
  · exact name_of_addr x.apart (PySem.mem_of_lookup h1) (PySem.mem_of_lookup h2)
  · have hy : scope.names.lookup y = some .cell ∨ scope.names.lookup y = some .free := hy
    rcases hy with hy | hy
    · exact cell_has hy
    · exact absurd rfl (S.nofree _ (PySem.mem_of_lookup hy))
  · exact Nat.le_of_lt (x.above y c (PySem.mem_of_lookup h))
  · have hi : i < vs.length := by
      unfold start at h2
      by_cases hi : i < vs.length
      · exact hi
      · rw [List.getElem?_append_right (by simpa using hi)] at h2
        rw [List.getElem?_replicate] at h2
        split at h2 <;> cases h2
    have ha : vs[i]? = some v := by
      unfold start at h2
      rw [List.getElem?_append_left (by simpa using hi), List.getElem?_map] at h2
      cases e : vs[i]? with
      | none => rw [e] at h2; cases h2
      | some a => rw [e] at h2; cases h2; rfl
    obtain ⟨u, hu, rv⟩ := r.get ha
    have hp : ps[i]? = some y := by
      rw [← S.pre, List.getElem?_take_of_lt (by omega)]; exact h1
    have ndP : ps.Nodup := by rw [← S.pre]; exact S.nd.sublist (List.take_sublist _ _)
    refine ⟨u, rv, ?_⟩
    rcases S.par y (List.mem_of_getElem? hp) with k | k
    · exact .inl ⟨k, bindL_get ndP hp hu k⟩
    · obtain ⟨c, e⟩ := cell_has (n := s.heap.objs.size + 1) k
      refine .inr ⟨.inl k, c, e, ?_⟩
      have q := x.cell y c e
      rw [bindC_get ndP hp hu (by show scope.names.lookup y ≠ _; rw [k]; decide)] at q
      exact q
  · exact e0.hok.fresh (Nat.le_of_lt (x.above y c (PySem.mem_of_lookup h)))
  · unfold start
    show _ = N.length
    rw [List.length_append, List.length_map, List.length_replicate]
    omega

/-- THE RULE: a def (or a method) of the text, by its body. The body's reading t is chosen for each entry; it is run at the parameters' values -/
theorem fn_of {CX : CXT} {P : Program} {w : World} {K : PySem.W.Frag} {mg : Str → Option Value} {base : Heap} {k : Nat} {f : Addr} {name qual : Str} {params : Arguments} {body : List Stmt} {scope : Scope} {dV kV doc pm cdv ct oc : Value} {an od : Option Addr}
    {osl : Array (Option Value)} {N ps : List Str} {sp : Sp} (lk : K.lookup f = some ⟨oc, od, .func (PySem.W.fnOf name qual params body scope dV kV doc pm an cdv ct), osl⟩) (hcd : PySem.W.codeIn K cdv qual = true) (S : FnScope N ps scope)
    (len : ∀ vs H Q E, sp vs H Q E → vs.length = ps.length)
    (hbody : ∀ (A : Around) (outer : List Env) (s : Shared) (H : Hp) (vs : List V) (Q : VK) (E : XK), Room k (A.deeper (envOfC qual scope s.heap.objs.size f cdv)) → sp vs H Q E →
      ∃ t, PSs (cxOf CX P w K mg base N qual scope f cdv A outer s H E) body t ∧ t { nx := fun _ H' => Q .non H', rt := Q } (start N vs) H) :
    FnOk P w K mg base CX (k + 1) f (PySem.W.fnOf name qual params body scope dV kV doc pm an cdv ct) ps sp := by
  refine ⟨len, fun A outer s H args us vs Q E hr e0 hb r hsp => ?_⟩
  have hl := len _ _ _ _ hsp
  have KX : K.In s.heap := e0.mod.kin.keeps fun b o e => (e0.bs b o e).1
  have lim : s.heap.NoLimit := e0.mod.nolimit.keeps fun b o e => (e0.bs b o e).1
  have hkind : ∀ y ∈ ps.zip us, scope.names.lookup y.1 = some .local ∨ (scope.names.lookup y.1 = some .cell ∧ ((cellsFrom (s.heap.objs.size + 1) scope.names []).lookup y.1).isSome = true) := fun ⟨n, v⟩ hy => by
    rcases S.par n (List.of_mem_zip hy).1 with q | q
    · exact .inl q
    · exact .inr ⟨q, PySem.W.cellsFrom_some _ _ _ (.inl q)⟩
  refine codeAny_call_function hr.depth (KX _ _ lk) rfl S.co S.gen rfl (PySem.W.codeRec_of KX hcd) (hb _ _ _ _ ?_)
  refine wpAny_newFunctionEnv_cells S.kind hkind fun env he s1 x => ?_
  subst he
  refine ⟨lim.keeps x.toInCall.keep, codeAny_func ?_⟩
  obtain ⟨t, ht, hq⟩ := hbody A outer s H vs Q E (hr.deeper _) hsp
  have I : Inv (cxOf CX P w K mg base N qual scope f cdv A outer s H E) [] (start N vs) H s1 := inv_start S hr.hd e0 hl r x
  refine wpAny_mono (ht [] s1 (start N vs) H _ I hq) (fun fl s' hs => ?_) fun e s' hs => hs
  have fin : ∀ {σ' : St} {H' : Hp} {v : V} {u : Value}, Inv (cxOf CX P w K mg base N qual scope f cdv A outer s H E) [] σ' H' s' → RelV v u → Q v H' → CE outer P w H s Q u s' :=
    fun {σ' H' v u} J rv q => ⟨v, H', J.os, J.bare, J.base, J.hok, rv, q⟩
  cases fl with
  | ret u =>
    obtain ⟨v, σ', H', J, rv, q⟩ := hs
    exact fin J rv q
  | next =>
    obtain ⟨σ', H', J, q⟩ := hs
    exact fin (v := V.non) (u := Value.none) J rfl q
  | brk =>
    obtain ⟨_, _, _, q⟩ := hs
    exact False.elim q
  | cont =>
    obtain ⟨_, _, _, q⟩ := hs
    exact False.elim q
end L2
namespace L2
open PySem PySem.Spec PyProof.Rows
section
variable {X : Cx} {x : Str} {p pos : Pos} {e : Expr} {es : List Expr} {t : TA} {id T : String} {r : List V → Hp → VK → Prop}
def tCB (r : List V → Hp → VK → Prop) (t : TA) : TE := fun σ H Q => t σ H fun vs H1 => r vs H1 Q
/-- f(e, ..), f a built-in function -/
theorem pe_callB (hc : CallR X (.builtin id) r) (hg : Gl X x) (hm : X.mg x = none) (hv : bootBuiltins x = some (.builtin id)) (ha : PA X (e :: es) t) (hn : x ≠ "__name__" := by decide) (hdb : (x == ("__debug__" : Str)) = false := by decide)
    (he : starEach (e :: es) X.env = (false, eval e X.env) :: starEach es X.env := by rfl) (hpl : (backTo pos (starEach es X.env)).any (·.1) = false := by rfl) : PE X (.Call (.Name x p) (e :: es) [] pos) (tCB r t) := by
  intro pins s σ H Q I h
  refine wpAny_Call_Name_kw (ld_blt I hg hm hv ?_ hn hdb)
  exact PyProof.Rows.callWith_builtin1 (thn (ha pos pins s σ H _ I h) fun us s1 ⟨vs, H1, I1, r1, q1⟩ => hc pins s1 σ H1 vs us Q I1 r1 q1) he hpl
/-- T(e, ..), T a built-in type -/
theorem pe_callTy (hc : CallR X (.type T) r) (hg : Gl X x) (hm : X.mg x = none) (hv : bootBuiltins x = some (.type T)) (ha : PA X (e :: es) t) (hn : x ≠ "__name__" := by decide) (hdb : (x == ("__debug__" : Str)) = false := by decide)
    (he : starEach (e :: es) X.env = (false, eval e X.env) :: starEach es X.env := by rfl) (hpl : (backTo pos (starEach es X.env)).any (·.1) = false := by rfl) : PE X (.Call (.Name x p) (e :: es) [] pos) (tCB r t) := by
  intro pins s σ H Q I h
  refine wpAny_Call_Name_kw (ld_blt I hg hm hv ?_ hn hdb)
  exact PyProof.Rows.callWith_type1 (thn (ha pos pins s σ H _ I h) fun us s1 ⟨vs, H1, I1, r1, q1⟩ => hc pins s1 σ H1 vs us Q I1 r1 q1) he hpl
end
end L2
namespace HT
open PySem PyProof.Rows
section
open PySem.SeqAt
open PySem.AutoSeq1 (wpAny_loadPart')
open PySem.MeetsSeq PySem.MeetsSeq2 PySem.MeetsSeq3
end
section
variable {prog : Program} {w : World} {A : Around} {E : Value → Shared → Prop} {s : Shared}
/-- a slice's bound as a place among n (d where it is left out) -/
def sIx (n d : Nat) : Option Int → Nat
  | none => d
  | some v => if v < 0 then (v + (n : Int)).toNat else min v.toNat n
theorem sIx_none (n d : Nat) : sIx n d none = d := rfl
theorem sIx_nat (n d k : Nat) : sIx n d (some (k : Int)) = min k n := by
  show (if (k : Int) < 0 then ((k : Int) + (n : Int)).toNat else min (k : Int).toNat n) = min k n
  rw [if_neg (by omega), Int.toNat_natCast]
theorem sIx_le (n d : Nat) (hd : d ≤ n) (o : Option Int) : sIx n d o ≤ n := by
  cases o with
  | none => exact hd
  | some v =>
    show (if v < 0 then (v + (n : Int)).toNat else min v.toNat n) ≤ n
    by_cases hv : v < 0
    · rw [if_pos hv]; omega
    · rw [if_neg hv]; exact Nat.min_le_right _ _
end
end HT
namespace L2
open PySem PySem.Spec PyProof.Rows
abbrev TO := St → Hp → (Option Int → Hp → Prop) → Prop
/-- a slice's part (left out, or an int) -/
def PO (X : Cx) (e : Option Expr) (t : TO) : Prop :=
  ∀ (pins : List (Addr × Obj)) (s : Shared) (σ : St) (H : Hp) (Q : Option Int → Hp → Prop), Inv X pins σ H s → t σ H Q →
    wpAny (model X.prog X.w) X.A (evalPart e X.env) (fun u s' => ∃ o H', Inv X pins σ H' s' ∧ IsPart u o ∧ Q o H') X.xe s
def tNoPart : TO := fun _ H Q => Q none H
def tPart (t : TE) : TO := fun σ H Q => t σ H fun x H1 => ∃ i, x = .int i ∧ Q (some i) H1

section
variable {X : Cx} {e : Expr} {te : TE} {lo hi : Option Expr} {tl th : TO} {pos p2 : Pos}
theorem po_none : PO X none tNoPart := by
  intro pins s σ H Q I h
  rw [evalPart_none]
  exact wpAny_pure ⟨none, H, I, .none, h⟩
theorem po_some (h : PE X e te) : PO X (some e) (tPart te) := by
  intro pins s σ H Q I hw
  rw [evalPart_some]
  refine thn (h pins s σ H _ I hw) fun u s1 ⟨x, H1, I1, r1, q1⟩ => ?_
  obtain ⟨i, rfl, q⟩ := q1
  obtain ⟨t, rfl⟩ := r1
  exact ⟨some i, H1, I1, .int i t, q⟩

/-- what a slice of a value is, by values: the slice object stands at sl -/
def SlR (X : Cx) (r : V → Option Int → Option Int → Hp → VK → Prop) : Prop :=
  ∀ (pins : List (Addr × Obj)) (s : Shared) (σ : St) (H : Hp) (x : V) (v vl vu : Value) (lo hi : Option Int) (sl : Addr) (Q : VK), Inv X pins σ H s → RelV x v → s.heap.IsSliceOf sl vl vu .none → IsPart vl lo → IsPart vu hi → r x lo hi H Q →
    ∃ T id, typeLookup (.type T) "__getitem__" = pure (some (.builtin id)) ∧ s.TypeIs v T ∧ wpAny (model X.prog X.w) X.A (getItem v (.ref sl)) (EP X pins σ Q) X.xe s
def tSl (r : V → Option Int → Option Int → Hp → VK → Prop) (te : TE) (tl th : TO) : TE := fun σ H Q => te σ H fun x H1 => tl σ H1 fun l H2 => th σ H2 fun u H3 => r x l u H3 Q
/-- a[lo:hi], any a -/
theorem pe_slice {r : V → Option Int → Option Int → Hp → VK → Prop} (hr : SlR X r) (he : PE X e te) (hl : PO X lo tl) (hu : PO X hi th) : PE X (.Subscript e (.Slice lo hi none p2) pos) (tSl r te tl th) := by
  intro pins s σ H Q I h
  refine Subscript_ (thn (he pins s σ H _ I h) fun v s1 ⟨x, H1, I1, r1, q1⟩ => ?_)
  refine wpAny_Slice (thn (hl pins s1 σ H1 _ I1 q1) fun vl s2 ⟨l, H2, I2, pl, q2⟩ => thn (hu pins s2 σ H2 _ I2 q2) fun vu s3 ⟨u, H3, I3, pu, q3⟩ => ?_)
  rw [evalPart_none]
  refine wpAny_pure ?_
  have I4 : Inv X pins σ H3 { s3 with heap := s3.heap.push { cls := .type "slice", data := .fields #[vl, vu, .none] } } := I3.kept (t' := s3.toks) fun b ob q => Heap.get?_push_of_some _ q
  obtain ⟨T, id, hT, ht, hg⟩ := hr pins { s3 with heap := s3.heap.push { cls := .type "slice", data := .fields #[vl, vu, .none] } } σ H3 x v vl vu l u s3.heap.objs.size Q I4 r1 (Heap.IsSliceOf.new ..) pl pu q3
  show wpAny (model X.prog X.w) X.A (subscriptTail e (.Slice lo hi none p2) v (.ref s3.heap.objs.size)) (EP X pins σ Q) X.xe { s3 with heap := s3.heap.push { cls := .type "slice", data := .fields #[vl, vu, .none] } }
  exact tail_any (ops := [.ref s3.heap.objs.size, v]) ht hT hg (by with_unfolding_all rfl)

end
end L2
namespace L2
open PySem PySem.Spec PyProof.Rows
/-- the place that an index of any sign means -/
def ixN (n : Nat) (i : Int) : Option Nat := if 0 ≤ i then (if i < n then some i.toNat else none) else if -(n : Int) ≤ i then some (i + n).toNat else none
def atI {α : Type} (xs : List α) (i : Int) : Option α := (ixN xs.length i).bind fun j => xs[j]?
theorem ixN_seq {n : Nat} {i : Int} {j : Nat} (h : ixN n i = some j) : seqIndex? i n = some j ∧ j < n ∧ -(n : Int) ≤ i ∧ i < n := by
  unfold ixN at h
  by_cases h0 : 0 ≤ i
  · rw [if_pos h0] at h
    by_cases h1 : i < n
    · rw [if_pos h1] at h
      have e : i.toNat = j := Option.some.inj h
      exact ⟨by rw [seqIndex_of h0 h1, e], by omega, by omega, h1⟩
    · rw [if_neg h1] at h; cases h
  · rw [if_neg h0] at h
    by_cases h1 : -(n : Int) ≤ i
    · rw [if_pos h1] at h
      have e : (i + n).toNat = j := Option.some.inj h
      exact ⟨by rw [seqIndex_neg (by omega) h1, e], by omega, h1, by omega⟩
    · rw [if_neg h1] at h; cases h
theorem atI_get {α : Type} {xs : List α} {i : Int} {v : α} (h : atI xs i = some v) : ∃ j, seqIndex? i xs.length = some j ∧ xs[j]? = some v ∧ j < xs.length ∧ -(xs.length : Int) ≤ i ∧ i < xs.length := by
  unfold atI at h
  cases e : ixN xs.length i with
  | none => rw [e] at h; cases h
  | some j =>
    rw [e] at h
    obtain ⟨h1, h2, h3, h4⟩ := ixN_seq e
    exact ⟨j, h1, h, h2, h3, h4⟩
theorem atI_nat {α : Type} {xs : List α} {j : Nat} {v : α} (h : xs[j]? = some v) : atI xs (j : Int) = some v := by
  have hj : j < xs.length := (List.getElem?_eq_some_iff.mp h).1
  have e : ixN xs.length (j : Int) = some j := by
    unfold ixN
    rw [if_pos (by omega), if_pos (by omega)]; simp
  unfold atI; rw [e]; exact h
/-- what stands as an index of a plain subscript -/
def PlainIx (b : Expr) : Prop := ∀ o i, subscripted b false o i = operate [o, i] (getItem o i)
/-- a subscript by values -/
def IxR (X : Cx) (r : R2) : Prop :=
  ∀ (value slice : Expr) (pins : List (Addr × Obj)) (s : Shared) (σ : St) (H : Hp) (x y : V) (v u : Value) (Q : VK), Inv X pins σ H s → RelV x v → RelV y u → r x y H Q →
    subscripted slice false v u = operate [v, u] (getItem v u) → wpAny (model X.prog X.w) X.A (subscriptTail value slice v u) (EP X pins σ Q) X.xe s
/-- a call of a builtin's method by values: the receiver, the arguments -/
def MtR (X : Cx) (id : String) (r : V → List V → Hp → VK → Prop) : Prop :=
  ∀ (pins : List (Addr × Obj)) (s : Shared) (σ : St) (H : Hp) (x : V) (xs : List V) (v : Value) (us : List Value) (Q : VK), Inv X pins σ H s → RelV x v → Vals xs us → r x xs H Q →
    wpAny (model X.prog X.w) X.A (call (.builtin id) (v :: us)) (EP X pins σ Q) X.xe s
section
variable {X : Cx} {a b : Expr} {ta tb : TE} {pos : Pos}
/-- a[b] -/
theorem pe_ix {r : R2} (hr : IxR X r) (ha : PE X a ta) (hb : PE X b tb) (hs : PlainIx b) : PE X (.Subscript a b pos) (tOp r ta tb) := by
  intro pins s σ H Q I h
  exact Subscript_ (binT ha hb I h fun v u s2 x y H2 I2 rx ry q => hr a b pins s2 σ H2 x y v u Q I2 rx ry q (hs _ _))

def rIxL (K : PySem.W.Frag) : R2 := fun x y H Q => ∃ p xs i v, x = .ref p ∧ y = .int i ∧ SqL K H p xs ∧ atI xs i = some v ∧ Q v H
def rIxT (K : PySem.W.Frag) : R2 := fun x y H Q => ∃ p xs i v, x = .ref p ∧ y = .int i ∧ SqT K H p xs ∧ atI xs i = some v ∧ Q v H
def rIxS : R2 := fun x y H Q => ∃ z i c, x = .str z ∧ y = .int i ∧ z.length ≤ sizeLine ∧ atI z.cps.toList i = some c ∧ Q (.str ⟨#[c]⟩) H
theorem ix_list : IxR X (rIxL X.K) := by
  intro value slice pins s σ H x y v u Q I rx ry h hs
  obtain ⟨p, xs, i, z, rfl, rfl, hq, he, q⟩ := h
  cases rx
  obtain ⟨t, rfl⟩ := ry
  obtain ⟨its, r, pl, hz⟩ := I.list hq
  obtain ⟨j, h1, h2, h3, h4, h5⟩ := atI_get he
  obtain ⟨w, ew, rw'⟩ := r.get h2
  have hl := r.length
  have hn := line63
  have fin : EP X pins σ Q w s := ⟨z, H, I, rw', q⟩
  by_cases h0 : 0 ≤ i
  · have hj : i.toNat = j := by
      rw [seqIndex_of h0 h5] at h1
      exact Option.some.inj h1
    exact item_listR pl.isList h0 (by omega) (by rw [hj]; simpa using ew) fin hs
  · have hj : (i + (its.toArray.size : Int)).toNat = j := by
      rw [seqIndex_neg (by omega) h4] at h1
      rw [List.size_toArray, ← hl]
      exact Option.some.inj h1
    exact subscriptTail_builtinR (x := w) pl.isList.typeIs slot_list_getitem.lookup
      (wpAny_getItem_list_neg (Q := fun r s' => r = w ∧ EP X pins σ Q r s') pl.isList (by omega) (by rw [List.size_toArray] <;> omega) (by omega) (by rw [hj]; simpa using ew) ⟨rfl, fin⟩) hs
theorem ix_tup : IxR X (rIxT X.K) := by
  intro value slice pins s σ H x y v u Q I rx ry h hs
  obtain ⟨p, xs, i, z, rfl, rfl, hq, he, q⟩ := h
  cases rx
  obtain ⟨t, rfl⟩ := ry
  obtain ⟨its, r, pl, hz⟩ := I.tuple hq
  obtain ⟨j, h1, h2, h3, h4, h5⟩ := atI_get he
  obtain ⟨w, ew, rw'⟩ := r.get h2
  have hl := r.length
  have hn := line63
  have fin : EP X pins σ Q w s := ⟨z, H, I, rw', q⟩
  exact subscriptTail_builtinR (x := w) pl.typeIs slot_tuple_getitem.lookup
    (getItem_tuple (j := j) (Q := fun r s' => r = w ∧ EP X pins σ Q r s') pl (by omega) (by omega) (by rw [List.size_toArray, ← hl]; exact h1) (by simpa using ew) ⟨rfl, fin⟩) hs
theorem ix_str : IxR X rIxS := by
  intro value slice pins s σ H x y v u Q I rx ry h hs
  obtain ⟨z, i, c, rfl, rfl, hz, he, q⟩ := h
  obtain ⟨t, rfl⟩ := rx
  obtain ⟨t', rfl⟩ := ry
  obtain ⟨j, h1, h2, h3, h4, h5⟩ := atI_get he
  have hl : z.cps.toList.length = z.length := by simp [Str.length]
  rw [hl] at h1 h4 h5
  have hn := line63
  exact tail_any (typeIs_str s z t) slot_str_getitem.lookup (getItem_str (c := c) (by
    have e1 : decide (i < -(2 ^ 63 : Int)) = false := decide_eq_false (by omega)
    have e2 : decide (i ≥ 2 ^ 63) = false := decide_eq_false (by omega)
    rw [e1, e2, Bool.or_false]) (by rw [h1]; simpa using h2) ⟨.str ⟨#[c]⟩, H, I.tok _, ⟨_, rfl⟩, q⟩) hs
def flatV : V → Bool
  | .non => true
  | .bl _ => true
  | .int _ => true
  | .str _ => true
  | _ => false
/-- == of flat values -/
def eqV : V → V → Bool
  | .non, .non => true
  | .bl a, .bl b => a == b
  | .bl a, .int b => (if a then 1 else 0) == b
  | .int a, .bl b => a == (if b then 1 else 0)
  | .int a, .int b => a == b
  | .str a, .str b => a == b
  | _, _ => false
theorem eqAt_V {A : Around} {s : Shared} {y x : V} {u v : Value} (ry : RelV y u) (rx : RelV x v) (fy : flatV y = true) (fx : flatV x = true) : SeqAt.EqAt A s u v (eqV y x) := by
  cases y with
  | non =>
    cases ry
    cases x with
    | non => cases rx; exact SeqAt.EqAt.same _
    | bl b => cases rx; exact SeqAt.EqAt.none_bool b
    | int b => obtain ⟨t, rfl⟩ := rx; exact SeqAt.EqAt.none_int b t
    | str b => obtain ⟨t, rfl⟩ := rx; exact SeqAt.EqAt.none_str b t
    | _ => exact absurd (show false = true from fx) Bool.false_ne_true
  | bl a =>
    cases ry
    cases x with
    | non => cases rx; exact SeqAt.EqAt.bool_none a
    | bl b => cases rx; exact SeqAt.EqAt.bool_bool a b
    | int b => obtain ⟨t, rfl⟩ := rx; exact SeqAt.EqAt.bool_int a b t
    | str b => obtain ⟨t, rfl⟩ := rx; exact SeqAt.EqAt.bool_str a b t
    | _ => exact absurd (show false = true from fx) Bool.false_ne_true
  | int a =>
    obtain ⟨t', rfl⟩ := ry
    cases x with
    | non => cases rx; exact SeqAt.EqAt.int_none a t'
    | bl b => cases rx; exact SeqAt.EqAt.int_bool a t' b
    | int b => obtain ⟨t, rfl⟩ := rx; exact SeqAt.EqAt.int_int a t' b t
    | str b => obtain ⟨t, rfl⟩ := rx; exact SeqAt.EqAt.int_str a t' b t
    | _ => exact absurd (show false = true from fx) Bool.false_ne_true
  | str a =>
    obtain ⟨t', rfl⟩ := ry
    cases x with
    | non => cases rx; exact SeqAt.EqAt.str_none a t'
    | bl b => cases rx; exact SeqAt.EqAt.str_bool a t' b
    | int b => obtain ⟨t, rfl⟩ := rx; exact SeqAt.EqAt.str_int a t' b t
    | str b => obtain ⟨t, rfl⟩ := rx; exact SeqAt.EqAt.str_str a t' b t
    | _ => exact absurd (show false = true from fx) Bool.false_ne_true
  | _ => exact absurd (show false = true from fy) Bool.false_ne_true
theorem call_len_seq : CallR X (.builtin "len") (fun xs H Q => ∃ p ys, xs = [.ref p] ∧ (SqL X.K H p ys ∨ SqT X.K H p ys) ∧ Q (.int ys.length) H) := by
  intro pins s σ H xs us Q I r h
  obtain ⟨p, ys, rfl, hq, q⟩ := h
  obtain ⟨u, rfl, rx⟩ := vals1 r
  cases rx
  have hn := line63
  rcases hq with hq | hq
  · obtain ⟨its, r', pl, hz⟩ := I.list hq
    have hlen := r'.length
    exact Calls.call_len_list pl.isList (by simp only [List.size_toArray] <;> omega) ⟨.int ys.length, H, I.tok _, ⟨s.toks + 1, by rw [List.size_toArray, hlen]⟩, q⟩
  · obtain ⟨its, r', pl, hz⟩ := I.tuple hq
    have hlen := r'.length
    exact len_tuple pl (by simp only [List.size_toArray] <;> omega) ⟨.int ys.length, H, I.tok _, ⟨s.toks + 1, by rw [List.size_toArray, hlen]⟩, q⟩
theorem call_len_str : CallR X (.builtin "len") (fun xs H Q => ∃ z, xs = [.str z] ∧ z.length ≤ sizeLine ∧ Q (.int z.length) H) := by
  intro pins s σ H xs us Q I r h
  obtain ⟨z, rfl, hz, q⟩ := h
  obtain ⟨u, rfl, t, rfl⟩ := vals1 r
  have hn := line63
  exact len_str (by omega) ⟨.int z.length, H, I.tok _, ⟨_, rfl⟩, q⟩
/-- the value is of that builtin type -/
def tyV (K : PySem.W.Frag) (T : String) (x : V) (H : Hp) : Prop := match x with
  | .str _ => T = "str"
  | .int _ => T = "int"
  | .ref p => (T = "list" ∧ ∃ xs, SqL K H p xs) ∨ (T = "tuple" ∧ ∃ o, K.lookup p = some o ∧ o.cls = .type "tuple" ∧ o.dict = none) ∨
      (T = "dict" ∧ ((∃ kvs, H p = some (.dK kvs)) ∨ ∃ kvs, H p = some (.dT kvs))) ∨ (T = "set" ∧ ∃ S n, H p = some (.set S n))
  | _ => False
theorem tyV_is {pins : List (Addr × Obj)} {σ : St} {H : Hp} {s : Shared} {T : String} {x : V} {v : Value} (I : Inv X pins σ H s) (r : RelV x v) (ty : tyV X.K T x H) :
    s.TypeIs v T ∧ ∀ a, v = .ref a → ∃ ob, s.heap.get? a = some ob ∧ ob.dict = none := by
  cases x with
  | str z =>
    obtain ⟨t, rfl⟩ := r
    cases (show T = "str" from ty)
    exact ⟨typeIs_str s z t, fun _ e => nomatch e⟩
  | int i =>
    obtain ⟨t, rfl⟩ := r
    cases (show T = "int" from ty)
    exact ⟨typeIs_int s i t, fun _ e => nomatch e⟩
  | ref p =>
    cases r
    rcases ty with ⟨rfl, xs, hq⟩ | ⟨rfl, o, hk, hc, hd⟩ | ⟨rfl, hk⟩ | ⟨rfl, S, n, hk⟩
    · obtain ⟨its, _, pl, _⟩ := I.list hq
      refine ⟨pl.isList.typeIs, fun a e => ?_⟩
      cases e
      obtain ⟨o, n, e, c, hd, _⟩ := pl
      exact ⟨o, e, hd⟩
    · refine ⟨⟨o, I.kIn p o hk, hc⟩, fun a e => ?_⟩
      cases e
      exact ⟨o, I.kIn _ o hk, hd⟩
    · have z : ∃ o, s.heap.get? p = some o ∧ o.ExactDict := by
        rcases hk with ⟨kvs, hk⟩ | ⟨kvs, hk⟩
        · obtain ⟨_, _, _, _, o, _, _, e, ex, _⟩ := I.hok p _ hk
          exact ⟨o, e, ex⟩
        · obtain ⟨_, _, _, _, o, _, _, e, ex, _⟩ := I.hok p _ hk
          exact ⟨o, e, ex⟩
      obtain ⟨o, e, ex⟩ := z
      refine ⟨⟨o, e, ex.1⟩, fun a e2 => ?_⟩
      cases e2
      exact ⟨o, e, ex.2.1⟩
    · obtain ⟨o, _, _, _, e, ex, _⟩ := I.hok p _ hk
      refine ⟨⟨o, e, ex.1⟩, fun a e2 => ?_⟩
      cases e2
      exact ⟨o, e, ex.2.1⟩
  | _ => exact False.elim ty
def tBM (K : PySem.W.Frag) (T : String) (r : V → List V → Hp → VK → Prop) (to : TE) (t : TA) : TE := fun σ H Q => to σ H fun x H1 => tyV K T x H1 ∧ t σ H1 fun xs H2 => r x xs H2 Q
variable {o e : Expr} {es : List Expr} {to : TE} {t : TA} {name : Str} {apos cpos : Pos} {T id : String} {r : V → List V → Hp → VK → Prop}
theorem pe_bm (pa : PlainAttrs T) (slot : Slot T name id) (hty : typeOf (.builtin id) = pure (.type "method_descriptor")) (hm : MtR X id r) (ho : PE X o to) (ha : PA X (e :: es) t)
    (hbase : attributeBase o name X.env (eval o X.env) = eval o X.env := by rfl)
    (hfew : ((backTo cpos (starEach (e :: es) X.env)).all (fun x => !x.1) && (backToKw cpos (keywordEach [] X.env)).all (fun x => x.1.isSome)
      && decide ((e :: es).length + ([] : List Keyword).length + (if ([] : List Keyword).isEmpty then 0 else 1) < 30)) = true := by rfl)
    (hline : (apos.endLine == cpos.line) = true := by rfl) (hs : starEach (e :: es) X.env = (false, eval e X.env) :: starEach es X.env := by rfl) (hplain : (backTo cpos (starEach es X.env)).any (·.1) = false := by rfl) :
    PE X (.Call (.Attribute o name apos) (e :: es) [] cpos) (tBM X.K T r to t) := by
  intro pins s σ H Q I h
  refine wpAny_Call_method_late hbase hfew hline rfl (thn (ho pins s σ H _ I h) fun v s1 ⟨x, H1, I1, r1, ty, q1⟩ => ?_)
  obtain ⟨h1, h2⟩ := tyV_is I1 r1 ty
  refine ⟨T, id, pa, slot, hty, h1, h2, ?_⟩
  have hA := ha cpos pins s1 σ H1 _ I1 q1
  rw [hs] at hA ⊢
  refine Calls.callWith_builtin (by show (false || (backTo cpos (starEach es X.env)).any (·.1)) = false; rw [hplain] <;> rfl) (Calls.evalArgs_plain ?_)
  exact thn hA fun us s2 ⟨vs, H2, I2, r2, q2⟩ => hm pins s2 σ H2 x vs v us Q I2 r1 r2 q2
end
end L2
namespace L2
open PySem PySem.Spec PyProof.Rows
def MtM (X : Cx) (id : String) (r : V → List V → Hp → VK → Prop) : Prop :=
  ∀ (pins : List (Addr × Obj)) (s : Shared) (σ : St) (H : Hp) (x : V) (xs : List V) (v : Value) (us : List Value) (Q : VK), Inv X pins σ H s → RelV x v → Vals xs us → r x xs H Q →
    wpAny (model X.prog X.w) X.A (call (.builtin id) (v :: us)) (EP X pins σ Q) X.xe s

theorem Vals.one : ∀ {x : V} {us : List Value}, Vals [x] us → ∃ u, us = [u] ∧ RelV x u
  | _, _, .cons r .nil => ⟨_, rfl, r⟩
section
variable {X : Cx} {pins : List (Addr × Obj)} {σ : St} {H : Hp} {s : Shared} {l b : Addr} {xs ys zs : List V}
theorem Inv.lset {its its' : List Value} {n : Nat} {f : Array Value → Array Value} {t' : Nat} (I : Inv X pins σ H s) (hH : H l = some (.lst xs))
    (e : s.heap.get? l = some { cls := .type "list", data := .seq its.toArray n }) (hf : f its.toArray = its'.toArray) (hv : Vals ys its') (hz : ys.length ≤ sizeLine) :
    Inv X pins σ (upd H l (.lst ys)) { s with heap := s.heap.update l (Obj.mapSeq f), toks := t' } := by
  have q := PySem.IsL.update e f
  rw [hf] at q
  refine I.write (x := l) (e := l) (by rw [hH]; exact trivial) (.inl rfl) (fun b' u hb hu => (Heap.get?_update_other s.heap (Obj.mapSeq f) (Ne.symm hb)).trans hu) ⟨_, q⟩ ?_
  exact ⟨hz, its', _, hv, q⟩
theorem Inv.lnew {its : List Value} {t' : Nat} (I : Inv X pins σ H s) (hv : Vals ys its) (hz : ys.length ≤ sizeLine) :
    Inv X pins σ (upd H s.heap.objs.size (.lst ys)) { s with heap := s.heap.push { cls := .type "list", data := .seq its.toArray }, toks := t' } :=
  I.laid (fun _ _ q => Heap.get?_push_of_some _ q) (Nat.le_refl _) ⟨hz, its, 0, hv, Heap.get?_push_size _ rfl⟩
theorem Inv.fresh (I : Inv X pins σ H s) : H s.heap.objs.size = none := I.hok.fresh (Nat.le_refl _)
theorem Inv.lstM (I : Inv X pins σ H s) (hH : H l = some (.lst xs)) : xs.length ≤ sizeLine ∧ ∃ (its : List Value) (n : Nat), Vals xs its ∧ xs.length = its.length ∧ s.heap.get? l = some { cls := .type "list", data := .seq its.toArray n } := by
  obtain ⟨z, its, n, r, e⟩ := I.hok l _ hH
  exact ⟨z, its, n, r, r.length, e⟩

end
section
variable {X : Cx}
def rAppend : V → List V → Hp → VK → Prop := fun x vs H Q => ∃ l xs y, x = .ref l ∧ vs = [y] ∧ H l = some (.lst xs) ∧ xs.length < sizeLine ∧ Q .non (upd H l (.lst (xs ++ [y])))
theorem mt_append : MtM X "list.append" rAppend := by
  intro pins s σ H x vs v us Q I rx rv h
  obtain ⟨l, xs, y, rfl, rfl, hH, hz, q⟩ := h
  cases rx
  obtain ⟨u, rfl, ru⟩ := rv.one
  obtain ⟨z, its, n, r, hl, e⟩ := I.lstM hH
  refine call_meets F.slot_list_append ⟨_, e, rfl⟩ F.entry_list_append (F.args_list_append_2 _ _) (PySem.list_append l its.toArray n u (by rw [List.size_toArray]; omega)) ⟨e, ?_⟩
  refine ⟨.non, _, I.lset (its' := its ++ [u]) hH e (by simp) (r.append (.cons ru .nil)) ?_, rfl, q⟩
  rw [List.length_append, List.length_singleton]
  omega

def rCat : R2 := fun x y H Q => ∃ l b xs zs, x = .ref l ∧ y = .ref b ∧ H l = some (.lst xs) ∧ H b = some (.lst zs) ∧ xs.length + zs.length ≤ sizeLine ∧ ∀ p, H p = none → Q (.ref p) (upd H p (.lst (xs ++ zs)))
theorem op_cat : OpR X (binaryOp .Add) rCat := by
  intro pins s σ H x y v u Q I rx ry h
  obtain ⟨l, b, xs, zs, rfl, rfl, hH, hB, hz, q⟩ := h
  cases rx
  cases ry
  obtain ⟨z, its, n, r, hl, e⟩ := I.lstM hH
  obtain ⟨z2, its2, n2, r2, hl2, e2⟩ := I.lstM hB
  refine PySem.P.add_list e e2 ?_ (by rw [List.size_toArray, List.size_toArray]; omega)
  have ea : its.toArray ++ its2.toArray = (its ++ its2).toArray := by simp
  rw [ea]
  exact ⟨.ref _, _, I.lnew (t' := s.toks) (r.append r2) (by rw [List.length_append]; omega), rfl, q _ I.fresh⟩
end
section
variable {prog : Program} {w : World} {A : Around} {E : Value → Shared → Prop} {s : Shared}
end
section
variable {X : Cx}
end
end L2
namespace L2
open PySem PySem.Spec PyProof.Rows
section
variable {κ : Type} [DecidableEq κ]
end
section
variable {P : Program} {w : World} {H : Hp} {h : Heap} {a : Addr}
end
section
variable {X : Cx} {pins : List (Addr × Obj)} {σ : St} {H : Hp} {s : Shared} {a : Addr} {y v : V} {u r : Value} {o : Option V} {A : Around} {E : Value → Shared → Prop}
end
section
variable {X : Cx} {pins : List (Addr × Obj)} {σ : St} {H : Hp} {s : Shared} {a : Addr} {kvs : List (Key × V)} {k : Key} {u : Value} {A : Around} {E : Value → Shared → Prop}
end
section
variable {X : Cx} {o i e value : Expr} {pos pos' tpos : Pos} {td ty tv : TE}
end
section
variable {X : Cx} {pos : Pos}
end
section
variable {X : Cx} {pins : List (Addr × Obj)} {σ : St} {H : Hp} {s : Shared} {a : Addr} {y d : V} {u r : Value} {o : Option V} {A : Around} {E : Value → Shared → Prop}
end
section
variable {X : Cx} {o e f : Expr} {apos cpos : Pos} {td ty tx : TE}
end
section
variable {X : Cx} {pins : List (Addr × Obj)} {σ : St} {H : Hp} {s : Shared} {a : Addr} {kvs : List (Key × V)} {A : Around} {E : Value → Shared → Prop}
end
section
variable {X : Cx} {pins : List (Addr × Obj)} {σ : St} {H : Hp} {s : Shared} {a : Addr} {y : V} {u : Value} {A : Around} {E : Value → Shared → Prop}
end
end L2
namespace Att
open PySem PySem.W PySem.Calls PyProof.Rows
theorem ints_of_wellAll {P : Params} {h : Heap} : ∀ (ns : List Int) (vs : List Value), WellAll P h vs (ns.map WData.int) → IntsAre vs ns := by
  intro ns
  induction ns with
  | nil =>
    intro vs w
    rw [List.map_nil] at w
    cases w
    exact .nil
  | cons n ns ih =>
    intro vs w
    rw [List.map_cons] at w
    cases w with
    | cons a b =>
      cases a
      exact .cons _ _ (ih _ b)

theorem script_of {l : OpenLaw} {n : Nat} (hn : l.most = some n) {P : Params} {h : Heap} {args : List WData} {vals : List Value}
    (hpre : l.row.toRowW.claim.pre args = true) (hwl : WellAll P h vals args) :
    ∃ a vs ns, vals = [Value.ref a] ∧ args = [WData.list (ns.map WData.int)] ∧ h.get? a = some { cls := .type "list", data := .seq vs.toArray } ∧ IntsAre vs ns ∧ ns.length ≤ n := by
  have hsh : WShape.hasAll [] args [.list .int] = true := (pre_splitW hpre).1
  have hc : l.pre.holds [] { args := args } = true := (pre_splitW hpre).2
  obtain ⟨d, r, rfl, h1, h2⟩ := hasAllW_cons hsh
  obtain rfl := hasAllW_nil h2
  obtain ⟨xs, rfl, h3⟩ := hasW_list h1
  obtain ⟨ns, rfl⟩ := items_int h3
  have hlen : ns.length ≤ n := by
    unfold OpenLaw.pre at hc
    have h4 : (WTm.not (.lt (.lit (.int (n : Int))) (.len (.arg 0)))).holds [] { args := [.list (ns.map .int)] } = true := by
      have h4 := (holds_andW hc).1
      rw [hn] at h4
      exact h4
    have h5 := condW_of h4 (w_not (w_lt w_lit (w_len_list (w_arg rfl))))
    rw [List.length_map] at h5
    refine Nat.le_of_not_lt fun q => ?_
    have q' : (n : Int) < ((ns.length : Nat) : Int) := by omega
    first
      | (rw [decide_eq_true q'] at h5; exact absurd h5 (by decide))
      | (simp at h5; omega)
  cases hwl with
  | cons w1 w2 =>
    cases w2
    cases w1 with
    | list ho hall => exact ⟨_, _, ns, rfl, rfl, ho, ints_of_wellAll ns _ hall, hlen⟩

theorem post_true (l : OpenLaw) (args : List WData) : l.row.toRowW.claim.post args (.bool true) args = true :=
  postW_of (r := l.row.toRowW) (X := (true == true))
    (show WShape.has [] (.bool true) .bool = true by first | rfl | decide | simp [WShape.has, WShape.arms, WShape.armsAll])
    (show (WTm.eq .res (.lit (.bool true))).value [] { args := args, res := some (.bool true), after := args } = some (.bool (true == true)) from w_eq_bool (w_res rfl) w_lit) rfl

/-- the same from a codeAny of the CALL (for a layer whose function contracts speak of calls) -/
theorem attach_call {l : OpenLaw} {n : Nat} {q : Program} {loose : List Str} {XP : (Str → Option Value) → Heap → Prop} {YP : World → Heap → Prop} {d : DefRec}
    (hn : l.most = some n) (hdf : d.params.defaults = [])
    (call : ∀ (w : World) (s₀ s₁ : Shared) (mg mb : Str → Option Value) (fa : Addr) (o : Obj) (pm cd doc : Value) (a : Addr) (vs : List Value) (ns : List Int),
      Ground q loose [] XP w s₀ mg mb s₁.heap → YP w s₁.heap →
      s₁.heap.get? fa = some o → o.data = .func (docDef d.name d.params d.body d.scope pm cd doc) → s₁.heap.CodeRec cd d.name → mg d.name = some (.ref fa) →
      s₁.heap.get? a = some { cls := .type "list", data := .seq vs.toArray } → IntsAre vs ns → ns.length ≤ n → s₁.gens = #[] →
      codeAny (model l.prog w) callerA (.call (.ref fa) ⟨[.ref a], []⟩) (fun r s' => r = .ok (.ret (.bool true)) ∧ OldK s₁.heap s'.heap ∧ s'.os = s₁.os ∧ AllBare s'.gens) s₁) :
    WalkO q loose XP YP l.row.toRowW d [] (fun f vs => PySem.call f vs) := by
  intro w s₀ s₁ mg mb G Y fa o pm cd doc dV kV ho hd hcd hD hmg hg args vals as hpre hlay hrd hwl hlo
  obtain rfl : dV = .none := Dflts.none hD hdf
  obtain rfl : kV = .none := Dflts.noKw hD
  obtain ⟨a, vs, ns, rfl, rfl, hobj, hints, hlen⟩ := script_of hn hpre hwl
  refine enter_call (codeAny_mono (call w s₀ s₁ mg mb fa o pm cd doc a vs ns G Y ho (fd_plain hd) hcd hmg hobj hints hlen hg) fun r s' hq => ?_)
  obtain ⟨rfl, h2, h3, h4⟩ := hq
  exact ⟨.inl ⟨.bool true, .bool true, [], rfl, fun _ => rfl, .bool true, post_true l _, fun _ => ⟨List.Pairwise.nil, fun _ hm => (nomatch hm)⟩⟩, h2, h3, h4⟩

section
variable {prog : Program} {w : World} {A : Around} {E : Value → Shared → Prop} {s : Shared} {K : Frag}
end
end Att
namespace L2
open PySem PySem.Spec PyProof.Rows
theorem vals_ints : ∀ {vs : List Value} {ns : List Int}, IntsAre vs ns → Vals (ns.map V.int) vs
  | _, _, .nil => .nil
  | _, _, .cons n t h => .cons ⟨t, rfl⟩ (vals_ints h)

end L2
namespace L2
open PySem PySem.Spec PyProof.Rows
end L2
namespace L2
open PySem PySem.Spec PyProof.Rows
def defArgs (s : Stmt) : Arguments := match s with
  | .FunctionDef _ a _ _ _ _ _ _ _ _ => a
  | _ => { posonlyargs := [], args := [], vararg := none, kwonlyargs := [], kw_defaults := [], kwarg := none, defaults := [] }
def defBody (s : Stmt) : List Stmt := match s with
  | .FunctionDef _ _ b _ _ _ _ _ _ _ => b
  | _ => []
def defScope (s : Stmt) : Scope := match s with
  | .FunctionDef _ _ _ _ _ _ sc _ _ _ => sc
  | _ => { kind := .function, names := [], isGenerator := false, isCoroutine := false }

abbrev CX0 : CXT := fun _ _ _ _ _ _ => False
abbrev E0 : XK := fun _ _ _ => False
theorem pass0 {X : Cx} : Passes CX0 X E0 := fun _ _ _ _ _ _ _ h => h.elim

structure Fun (K : PySem.W.Frag) (x qual : Str) (st : Stmt) (f : Addr) (fd : FuncData) : Prop where
  ex : ∃ (oc : Value) (od : Option Addr) (kV doc pm : Value) (an : Option Addr) (cdv ct : Value) (osl : Array (Option Value)),
    fd = PySem.W.fnOf x qual (defArgs st) (defBody st) (defScope st) .none kV doc pm an cdv ct ∧ K.lookup f = some ⟨oc, od, .func fd, osl⟩ ∧ PySem.W.codeIn K cdv qual = true
  kp : PySem.W.keepIn K (.ref f) = true
section
variable {P : Program} {w : World} {K : PySem.W.Frag} {mg : Str → Option Value} {base : Heap}
/-- THE RULE for a def: its body as a term of rules, and the reading of that term -/
theorem Fun.ok {x qual : Str} {st : Stmt} {f : Addr} {fd : FuncData} {N ps : List Str} {k : Nat} {sp : Sp} (F : Fun K x qual st f fd) (S : FnScope N ps (defScope st)) (len : ∀ vs H Q E, sp vs H Q E → vs.length = ps.length)
    (hbody : ∀ (cdv : Value) (A : Around) (outer : List Env) (s : Shared) (H : Hp) (vs : List V) (Q : VK) (E : XK), Room k (A.deeper (envOfC qual (defScope st) s.heap.objs.size f cdv)) → sp vs H Q E →
      ∃ t, PSs (cxOf CX0 P w K mg base N qual (defScope st) f cdv A outer s H E).nox (defBody st) t ∧ t { nx := fun _ H' => Q .non H', rt := Q } (start N vs) H) : FnOk P w K mg base CX0 (k + 1) f fd ps sp := by
  obtain ⟨oc, od, kV, doc, pm, an, cdv, ct, osl, rfl, lk, hcd⟩ := F.ex
  refine fn_of lk hcd S len fun A outer s H vs Q E hr hsp => ?_
  obtain ⟨t, h, q⟩ := hbody cdv A outer s H vs Q E hr hsp
  exact ⟨t, h.nox, q⟩
/-- how its arguments bind (no defaults): h is «fun _ _ _ _ _ _ us hl => match us, hl with | [_, _], _ => rfl», one _ a parameter -/
theorem Fun.binds {x qual : Str} {st : Stmt} {f : Addr} {fd : FuncData} {ps : List Str} (F : Fun K x qual st f fd)
    (h : ∀ (kV doc pm : Value) (an : Option Addr) (cdv ct : Value) (us : List Value), us.length = ps.length → bindArgs (PySem.W.fnOf x qual (defArgs st) (defBody st) (defScope st) .none kV doc pm an cdv ct) ⟨us, []⟩ = pure (ps.zip us)) : Binds K fd ps [] := by
  obtain ⟨oc, od, kV, doc, pm, an, cdv, ct, osl, rfl, lk, hcd⟩ := F.ex
  exact .all (h kV doc pm an cdv ct)
theorem fun_mk {x qual : Str} {st : Stmt} {f : Addr} {oc : Value} {od an : Option Addr} {osl : Array (Option Value)} {kV doc pm cdv ct : Value} (l : K.lookup f = some ⟨oc, od, .func (PySem.W.fnOf x qual (defArgs st) (defBody st) (defScope st) .none kV doc pm an cdv ct), osl⟩)
    (c : PySem.W.codeIn K cdv qual = true) (k : PySem.W.keepIn K (.ref f) = true) : Fun K x qual st f (PySem.W.fnOf x qual (defArgs st) (defBody st) (defScope st) .none kV doc pm an cdv ct) := ⟨⟨oc, od, kV, doc, pm, an, cdv, ct, osl, rfl, l, c⟩, k⟩
end
section
variable {X : Cx}
theorem pv (i : Nat) {x : Str} {pos : Pos} (hN : X.N[i]? = some x := by rfl) (hv : Vis X.env.scope x := by first | exact Or.inl rfl | exact Or.inr (Or.inl rfl) | exact Or.inr (Or.inr rfl)) (hd : (x == ("__debug__" : Str)) = false := by decide)
    (hcd : (x == ("__classdict__" : Str)) = false := by decide) : PE X (.Name x pos) (tVar i) := pe_var hN hv hd hcd
end
theorem iteF {A B : Prop} (h : B) : if false = true then A else B := by
  rw [if_neg Bool.false_ne_true]
  exact h
theorem iteT {A B : Prop} (h : A) : if true = true then A else B := by
  rw [if_pos rfl]
  exact h
theorem ite2 {c A B : Prop} [Decidable c] (h1 : c → A) (h2 : ¬ c → B) : if c then A else B := by
  by_cases h : c
  · rw [if_pos h]
    exact h1 h
  · rw [if_neg h]
    exact h2 h
/-- all that was tracked is as it was -/
def Same (H H' : Hp) : Prop := ∀ b o, H b = some o → H' b = some o
theorem Same.refl (H : Hp) : Same H H := fun _ _ h => h
theorem Same.trans {H H1 H2 : Hp} (a : Same H H1) (b : Same H1 H2) : Same H H2 := fun c o h => b c o (a c o h)
theorem Same.free {H H' : Hp} (e : Same H H') {l : Addr} (h : H' l = Option.none) : H l = Option.none := by
  cases q : H l with
  | none => rfl
  | some o =>
    rw [e l o q] at h
    cases h
section
variable {κ : Type} [DecidableEq κ]
end
end L2
namespace L2
open PySem PySem.Spec PyProof.Rows
theorem compLoop_go {prog : Program} {w : World} {A : Around} {R : Result → Shared → Prop} {s : Shared} {elt target iter : Expr} {ifs : List Expr} {scope : Scope} {pos : Pos} {it acc : Value} {env : Env} (I : Nat → Shared → Prop)
    (turn : ∀ n s, I n s → wpAny (model prog w) A (pyNext it) (fun r s₁ => match r with
      | none => R (.ok .next) s₁
      | some v => wpAny (model prog w) A (letOwnedTupleGo target it v) (fun _ s₁' => wpAny (model prog w) A (assign target env v) (fun _ s₂ =>
          wpAny (model prog w) A (forIn ifs true fun c r => if r = true then do let ok ← isTrue c env (eval c env); pure (ForInStep.yield ok) else pure (ForInStep.yield r)) (fun ok s₃ =>
            if ok = true then wpAny (model prog w) A (eval elt env) (fun x s₄ =>
              wpAny (model prog w) A (call (.builtin "list.append") [acc, x]) (fun _ s₅ => ∃ m, m < n ∧ I m s₅) (fun _ _ => False) s₄) (fun _ _ => False) s₃
            else ∃ m, m < n ∧ I m s₃) (fun _ _ => False) s₂) (fun _ _ => False) s₁') (fun _ _ => False) s₁) (fun _ _ => False) s)
    (n : Nat) (h : I n s) :
    codeAny (model prog w) A (.compLoop (.ListComp elt [⟨target, iter, ifs, 0⟩] scope pos) 0 it acc env) R s := by
  refine codeAny_loop rfl I (fun n s hI => ?_) n h
  show wpAny _ A ((compTurn (.ListComp elt [⟨target, iter, ifs, 0⟩] scope pos) 0 it acc env).onRaise (fun x => do noteFrame x env; theTreesLotGoes x)) _ _ s
  refine wpAny_noted ?_
  rw [compTurn_list]
  refine wpAny_bind (wpAny_standAt (wpAny_bind (wpAny_mono (turn n s hI) (fun r s₁ h₁ => ?_) fun _ _ h' => h'.elim)))
  cases r with
  | none => exact wpAny_pure h₁
  | some v =>
    refine wpAny_bind (wpAny_mono h₁ (fun _ s₁' h₁' => ?_) fun _ _ h' => h'.elim)
    refine wpAny_bind (wpAny_mono h₁' (fun _ s₂ h₂ => wpAny_bind (wpAny_mono h₂ (fun ok s₃ h₃ => ?_) fun _ _ h' => h'.elim)) fun _ _ h' => h'.elim)
    cases ok with
    | false => exact wpAny_pure ⟨rfl, h₃⟩
    | true =>
      exact wpAny_bind (wpAny_bind (wpAny_mono h₃ (fun x s₄ h₄ => wpAny_bind (wpAny_mono h₄ (fun _ s₅ h₅ => wpAny_pure (wpAny_pure ⟨rfl, h₅⟩)) fun _ _ h' => h'.elim)) fun _ _ h' => h'.elim))

def clOf (env : Env) : List (Str × NameKind) → List (Str × Addr) → List (Str × Addr)
  | [], acc => acc
  | (n, k) :: r, acc => clOf env r (if (k == NameKind.free) = true then (match env.cells.lookup n with | some c => (n, c) :: acc | none => acc) else acc)
theorem forIn_clOf {env : Env} : ∀ (names : List (Str × NameKind)) (acc : List (Str × Addr)), (∀ y ∈ names, y.2 = .free → ∃ c, env.cells.lookup y.1 = some c) →
    (forIn names acc (fun (x : Str × NameKind) (cs : List (Str × Addr)) => match x with | (name, kind) => if (kind == NameKind.free) = true then do let c ← cellOf env name; pure (ForInStep.yield ((name, c) :: cs)) else pure (ForInStep.yield cs)) : Sem (List (Str × Addr))) = pure (clOf env names acc)
  | [], acc, _ => rfl
  | (n, k) :: r, acc, h => by
    rw [List.forIn_cons]
    have hr := fun acc' => forIn_clOf (env := env) r acc' fun y hy => h y (List.mem_cons_of_mem _ hy)
    unfold clOf
    by_cases hk : (k == NameKind.free) = true
    · obtain ⟨c, hc⟩ := h (n, k) List.mem_cons_self (by simpa using hk)
      simp only [hk, if_true, cellOf, hc, pure_bind]
      exact hr _
    · simp only [hk, if_false, pure_bind]
      exact hr _
theorem closure_clOf {env : Env} {scope : Scope} (h : ∀ y ∈ scope.names, y.2 = .free → ∃ c, env.cells.lookup y.1 = some c) : closureFor scope env = pure (clOf env scope.names []) := by
  unfold closureFor
  have q := forIn_clOf (env := env) scope.names [] h
  simp only [bind_pure] 
  exact q
theorem clOf_sub {env : Env} : ∀ (names : List (Str × NameKind)) (acc : List (Str × Addr)), (∀ x c, acc.lookup x = some c → env.cells.lookup x = some c) → ∀ x c, (clOf env names acc).lookup x = some c → env.cells.lookup x = some c
  | [], acc, h => h
  | (n, k) :: r, acc, h => by
    unfold clOf
    refine clOf_sub r _ fun x c => ?_
    split
    · split
      · rename_i c' hc'
        rw [List.lookup_cons]
        split
        · rename_i e
          have e' : x = n := by simpa using e
          subst e'
          intro z; rw [← z]; exact hc'
        · exact h x c
      · exact h x c
    · exact h x c
theorem clOf_has {env : Env} : ∀ (names : List (Str × NameKind)) (acc : List (Str × Addr)) (x : Str), ((x, NameKind.free) ∈ names ∧ (env.cells.lookup x).isSome = true) ∨ (acc.lookup x).isSome = true → ((clOf env names acc).lookup x).isSome = true
  | [], acc, x, h => by
    rcases h with ⟨h, _⟩ | h
    · cases h
    · exact h
  | (n, k) :: r, acc, x, h => by
    unfold clOf
    apply clOf_has r
    rcases h with ⟨h, hs⟩ | h
    · rcases List.mem_cons.mp h with e | h
      · cases e
        right
        obtain ⟨c, hc⟩ := Option.isSome_iff_exists.mp hs
        simp [hc, List.lookup_cons]
      · exact .inl ⟨h, hs⟩
    · right
      split
      · split
        · rw [List.lookup_cons]
          split
          · rfl
          · exact h
        · exact h
      · exact h

theorem relabel_free {env : Env} : ∀ {names : List (Str × NameKind)} {x : Str}, names.lookup x = some .free →
    (names.map fun (n, k) => if (k == NameKind.free && env.scope.kind == .function && env.kindOf n == some .cell) then (n, NameKind.cell) else (n, k)).lookup x = some .cell ∨
    (names.map fun (n, k) => if (k == NameKind.free && env.scope.kind == .function && env.kindOf n == some .cell) then (n, NameKind.cell) else (n, k)).lookup x = some .free
  | [], _, h => by simp at h
  | (n, k) :: r, x, h => by
    have ih := @relabel_free env r x
    show List.lookup x ((if (k == NameKind.free && env.scope.kind == .function && env.kindOf n == some .cell) = true then (n, NameKind.cell) else (n, k)) :: _) = _ ∨ List.lookup x ((if (k == NameKind.free && env.scope.kind == .function && env.kindOf n == some .cell) = true then (n, NameKind.cell) else (n, k)) :: _) = _
    cases hx : x == n with
    | true =>
      simp only [List.lookup_cons, hx] at h
      cases h
      split
      · left; simp [List.lookup_cons, hx]
      · right; simp [List.lookup_cons, hx]
    | false =>
      simp only [List.lookup_cons, hx] at h
      split <;> (simp only [List.lookup_cons, hx]; exact ih h)
theorem of_relabel {env : Env} : ∀ {names : List (Str × NameKind)} {x : Str}, (∀ y ∈ names, y.2 ≠ NameKind.cell) →
    ((names.map fun (n, k) => if (k == NameKind.free && env.scope.kind == .function && env.kindOf n == some .cell) then (n, NameKind.cell) else (n, k)).lookup x = some .cell ∨
    (names.map fun (n, k) => if (k == NameKind.free && env.scope.kind == .function && env.kindOf n == some .cell) then (n, NameKind.cell) else (n, k)).lookup x = some .free) → names.lookup x = some .free
  | [], _, _, h => by simp at h
  | (n, k) :: r, x, hn, h => by
    have ih := @of_relabel env r x (fun y hy => hn y (List.mem_cons_of_mem _ hy))
    have h' : List.lookup x ((if (k == NameKind.free && env.scope.kind == .function && env.kindOf n == some .cell) = true then (n, NameKind.cell) else (n, k)) :: (r.map fun (n, k) => if (k == NameKind.free && env.scope.kind == .function && env.kindOf n == some .cell) then (n, NameKind.cell) else (n, k))) = some .cell ∨ List.lookup x ((if (k == NameKind.free && env.scope.kind == .function && env.kindOf n == some .cell) = true then (n, NameKind.cell) else (n, k)) :: (r.map fun (n, k) => if (k == NameKind.free && env.scope.kind == .function && env.kindOf n == some .cell) then (n, NameKind.cell) else (n, k))) = some .free := h
    have hk := hn (n, k) List.mem_cons_self
    cases hx : x == n with
    | true =>
      simp only [List.lookup_cons, hx]
      by_cases c : (k == NameKind.free && env.scope.kind == .function && env.kindOf n == some .cell) = true
      · have c1 : k = NameKind.free := by
          simp only [Bool.and_eq_true] at c
          exact eq_of_beq c.1.1
        rw [c1]
      · rw [if_neg c] at h'
        simp only [List.lookup_cons, hx] at h'
        rcases h' with z | z
        · exact absurd (Option.some.inj z) hk
        · exact z
    | false =>
      simp only [List.lookup_cons, hx]
      by_cases c : (k == NameKind.free && env.scope.kind == .function && env.kindOf n == some .cell) = true
      · rw [if_pos c] at h'
        simp only [List.lookup_cons, hx] at h'
        exact ih h'
      · rw [if_neg c] at h'
        simp only [List.lookup_cons, hx] at h'
        exact ih h'

def cxComp (X : Cx) (N' : List Str) (scope : Scope) (cl : List (Str × Addr)) (C : Addr) (fp : List Addr) (s : Shared) (H : Hp) : Cx :=
  { X with env := compEnvC scope cl C X.env, N := N', s₀ := s, H₀ := H, outer := X.stack, ex := fp, fn := fun _ => false, pn := [], xe := fun _ _ => False }
/-- the block's names at its start: drawn in from the slot that ix names, or none -/
def mkIx (ix : List (Option Nat)) (σ : St) : St := ix.map fun o => match o with | none => none | some j => (σ[j]?).join
def okIx (N N' : List Str) (names : List (Str × NameKind)) : List (Option Nat) → Nat → Bool
  | [], _ => true
  | none :: r, i => okIx N N' names r (i + 1)
  | some j :: r, i => (match N'[i]? with | some x => decide (N[j]? = some x) && (names.lookup x == some .free) | none => false) && okIx N N' names r (i + 1)
theorem okIx_get {N N' : List Str} {names : List (Str × NameKind)} : ∀ {ix : List (Option Nat)} {k i j : Nat}, okIx N N' names ix k = true → ix[i]? = some (some j) → ∃ x, N'[k + i]? = some x ∧ N[j]? = some x ∧ names.lookup x = some .free
  | [], _, _, _, _, e => by simp at e
  | none :: r, k, 0, j, _, e => by simp at e
  | none :: r, k, i + 1, j, h, e => by
    have q := okIx_get (ix := r) (k := k + 1) (i := i) (j := j) h (by simpa using e)
    rw [show k + (i + 1) = k + 1 + i by omega]
    exact q
  | some j' :: r, k, 0, j, h, e => by
    have e' : j' = j := by simpa using e
    subst e'
    unfold okIx at h
    rw [Bool.and_eq_true] at h
    have h1 := h.1
    cases q : N'[k]? with
    | none => rw [q] at h1; cases h1
    | some x =>
      rw [q] at h1
      simp only [Bool.and_eq_true, decide_eq_true_eq] at h1
      exact ⟨x, by simpa using q, h1.1, eq_of_beq h1.2⟩
  | some j' :: r, k, i + 1, j, h, e => by
    unfold okIx at h
    rw [Bool.and_eq_true] at h
    have q := okIx_get (ix := r) (k := k + 1) (i := i) (j := j) h.2 (by simpa using e)
    rw [show k + (i + 1) = k + 1 + i by omega]
    exact q
structure CompOk (N N' : List Str) (ix : List (Option Nat)) (fsc scope : Scope) : Prop where
  kind : scope.kind = .function
  nocell : ∀ y ∈ scope.names, y.2 ≠ .cell
  names : ∀ y ∈ scope.names, y.2 = .local → scope.names.lookup y.1 = some .local
  free : ∀ y ∈ scope.names, y.2 = .free → (fsc.names.lookup y.1 = some .cell ∨ fsc.names.lookup y.1 = some .free)
  okx : okIx N N' scope.names ix 0 = true
  len : ix.length = N'.length

/-- the tests of a clause -/
def PTs (X : Cx) (ifs : List Expr) (t : TT) : Prop :=
  ∀ (pins : List (Addr × Obj)) (s : Shared) (σ : St) (H : Hp) (Q : Bool → Hp → Prop), Inv X pins σ H s → t σ H Q →
    wpAny (model X.prog X.w) X.A (forIn ifs true fun c r => if r = true then do let ok ← isTrue c X.env (eval c X.env); pure (ForInStep.yield ok) else pure (ForInStep.yield r)) (TP X pins σ Q) X.xe s
def tYes : TT := fun _ H Q => Q true H
theorem pts_nil {X : Cx} : PTs X [] tYes := fun _ _ _ H _ I h => wpAny_tests_nil ⟨H, I, h⟩
theorem pts_one {X : Cx} {c : Expr} {t : TT} (h : PT X c t) : PTs X [c] t := fun pins s σ H Q I q => wpAny_tests_one (h pins s σ H Q I q)

section
variable {X : Cx} {pins : List (Addr × Obj)} {σ : St} {H : Hp} {s : Shared} {N' : List Str} {ix : List (Option Nat)} {scope : Scope} {fp : List Addr}
theorem comp_ok (I : Inv X pins σ H s) (O : CompOk X.N N' ix X.env.scope scope) (f : ∀ b ∈ fp, FpOk X pins H b ∧ b < s.heap.objs.size) :
    (cxComp X N' scope (clOf X.env scope.names []) s.heap.objs.size fp s H).Ok := by
  have sub : ∀ x c, (clOf X.env scope.names []).lookup x = some c → X.env.cells.lookup x = some c := clOf_sub _ _ (fun x c z => by simp at z)
  refine ⟨I.ok.mod, O.kind, I.ok.glob, I.ok.blt, Nat.le_refl _, fun x y c h1 h2 => I.ok.inj x y c (sub x c h1) (sub y c h2), fun x hx => ?_, fun x c z => (nomatch (show false = true from z)), I.ok.hd, I.ok.frames, .inl rfl, fun b hb => ?_, I.bs, Nat.le_trans I.ok.bsz I.sz, fun b o e hb => ?_, fun b hb hb2 => ?_, I.stack, I.stkFree⟩
  · have hx' : scope.names.lookup x = some .free := of_relabel (env := X.env) O.nocell hx
    have hm : (x, NameKind.free) ∈ scope.names := PySem.mem_of_lookup hx'
    have hf := O.free _ hm rfl
    obtain ⟨c, hc⟩ := I.ok.has x hf
    have q := clOf_has (env := X.env) scope.names [] x (.inl ⟨hm, by rw [hc]; rfl⟩)
    exact Option.isSome_iff_exists.mp q
  · obtain ⟨⟨_, _, _, _, f4, _⟩, hlt⟩ := f b hb
    refine ⟨Nat.ne_of_lt hlt, fun x c e => f4 x c (sub x c e)⟩
  · obtain ⟨⟨_, _, _, f3, _, _⟩, hlt⟩ := f b hb
    rcases f3 with z | z
    · exact I.ok.noex b o e z
    · exact absurd (Nat.lt_of_lt_of_le (Heap.lt_size e) (Nat.le_trans I.ok.bsz z)) (Nat.lt_irrefl _)
  · obtain ⟨⟨_, f1, f2, _, _, _⟩, hlt⟩ := f b hb
    rcases List.mem_cons.mp (I.stkSub b hb2) with z | z
    · exact f1 z
    · exact f2 z

theorem comp_inv {h4 : Heap} {t4 : Nat} (I : Inv X pins σ H s) (O : CompOk X.N N' ix X.env.scope scope) (f : ∀ b ∈ fp, FpOk X pins H b ∧ b < s.heap.objs.size) {m : Str → Option Value}
    (hns : h4.Ns s.heap.objs.size m) (k : ∀ b o, s.heap.get? b = some o → h4.get? b = some o) :
    Inv (cxComp X N' scope (clOf X.env scope.names []) s.heap.objs.size fp s H) [] (mkIx ix σ) H { s with heap := h4, toks := t4 } := by
  have sub : ∀ x c, (clOf X.env scope.names []).lookup x = some c → X.env.cells.lookup x = some c := clOf_sub _ _ (fun x c z => by simp at z)
  refine ⟨comp_ok I O f, rfl, I.bare, Un.kept k, ⟨m, hns, fun i x v h1 h2 h3 => ?_⟩, fun x c e => ?_, I.hok.fresh (Nat.le_refl _), fun x c e => I.freeC x c (sub x c e), fun p hp => absurd (show p ∈ ([] : List (Addr × Obj)) from hp) (by simp), I.hok.kept k, ?_⟩
  · have h1' : N'[i]? = some x := h1
    unfold mkIx at h2
    rw [List.getElem?_map] at h2
    cases e : ix[i]? with
    | none => rw [e] at h2; cases h2
    | some o =>
      rw [e] at h2
      cases o with
      | none => cases h2
      | some j =>
        have h2' : (σ[j]?).join = some v := by simpa using h2
        obtain ⟨y, e1, e2, e3⟩ := okIx_get O.okx e
        rw [Nat.zero_add, h1'] at e1
        cases e1
        have e4 : σ[j]? = some (some v) := by
          cases q : σ[j]? with
          | none => rw [q] at h2'; cases h2'
          | some o => rw [q] at h2'; rw [show o = some v from h2']
        have hm : (x, NameKind.free) ∈ scope.names := PySem.mem_of_lookup e3
        have hf := O.free _ hm rfl
        obtain ⟨m0, _, hl⟩ := I.loc
        obtain ⟨u, ru, lk⟩ := hl j x v e2 e4 (.inr hf)
        refine ⟨u, ru, .inr ⟨relabel_free (env := X.env) e3, ?_⟩⟩
        have q := clOf_has (env := X.env) scope.names [] x (.inl ⟨hm, by obtain ⟨c, hc⟩ := I.ok.has x hf; rw [hc]; rfl⟩)
        obtain ⟨c, hc⟩ := Option.isSome_iff_exists.mp q
        rcases lk with ⟨k1, _⟩ | ⟨_, c', hc', hcell⟩
        · have k1' : X.env.scope.names.lookup x = some .local := k1
          rcases hf with z | z
          · exact absurd (k1'.symm.trans z) (by simp)
          · exact absurd (k1'.symm.trans z) (by simp)
        · have q2 := sub x c hc
          rw [hc'] at q2
          obtain rfl := Option.some.inj q2
          exact ⟨_, hc, hcell.keeps k⟩
  · obtain ⟨v, z⟩ := I.cell x c (sub x c e)
    exact ⟨v, z.keeps k⟩
  · unfold mkIx
    rw [List.length_map]
    exact O.len

/-- behind the block -/
theorem comp_back {cl : List (Str × Addr)} {C : Addr} {pins' : List (Addr × Obj)} {σ' : St} {H' : Hp} {s' : Shared} (I : Inv X pins σ H s) (f : ∀ b ∈ fp, FpOk X pins H b ∧ b < s.heap.objs.size)
    (J : Inv (cxComp X N' scope cl C fp s H) pins' σ' H' s') : Inv X pins σ H' s' := by
  refine I.call' (ch := fp) J.os J.base J.hok J.bare fun b hb => ?_
  obtain ⟨⟨_, f1, _, f3, f4, f5⟩, _⟩ := f b hb
  exact ⟨f3, f1, f4, f5⟩
/-- the block's own record may turn -/
theorem comp_let {C : Addr} {H' : Hp} {s' : Shared} {h' : Heap} {σ2 : St} (I : Inv X pins σ H s) (hC : s.heap.objs.size ≤ C) (J : Inv X pins σ2 H' s') (hn : H' C = none) (hs : Heap.SameBut C s'.heap h') : Inv X pins σ2 H' { s' with heap := h' } := by
  refine J.turned (it := C) (t' := s'.toks) (fun b o hb e => (hs.2 b hb).trans e) hn (Nat.ne_of_gt (Nat.lt_of_lt_of_le I.lt hC)) (.inr (Nat.le_trans I.sz hC)) (fun x c e z => ?_) fun p hp z => ?_
  · obtain ⟨v, q⟩ := I.cell x c e
    exact absurd (Nat.lt_of_lt_of_le q.lt (by rw [z]; exact hC)) (Nat.lt_irrefl _)
  · exact absurd (Nat.lt_of_lt_of_le (Heap.lt_size (I.pin p hp).1) (by rw [z]; exact hC)) (Nat.lt_irrefl _)
end
/-- [e for tg in it if c]: D is the new list; W: the word by the turn and a measure -/
def tCompW (J : It) (g : TG) (tc : TT) (te : TE) (D : Addr) (W : Nat → Nat → St → Hp → Prop) (Q : Hp → Prop) : Prop := ∀ i m σ' H', W i m σ' H' →
    (J.stop i H' ∧ Q H') ∨ (J.go i H' ∧ ∀ x H2, J.yld i H' x H2 → g x σ' H2 fun σ3 H3 => tc σ3 H3 fun b H4 =>
      if b = true then te σ3 H4 fun y H5 => ∃ ys, H5 D = some (.lst ys) ∧ ys.length < sizeLine ∧ ∃ m', m' < m ∧ W (i + 1) m' σ3 (upd H5 D (.lst (ys ++ [y])))
      else ∃ m', m' < m ∧ W (i + 1) m' σ3 H4)
def tComp (wi : TI) (g : TG) (tc : TT) (te : TE) (ix : List (Option Nat)) : TE := fun σ H Q =>
  wi σ H fun J H1 => ∀ D, H1 D = none → ∃ W : Nat → Nat → St → Hp → Prop, (∃ m, W 0 m (mkIx ix σ) (upd H1 D (.lst []))) ∧ tCompW J g tc te D W (Q (.ref D))

section
variable {X : Cx} {elt tg iter : Expr} {ifs : List Expr} {scope : Scope} {pos : Pos} {N' : List Str} {ix : List (Option Nat)} {wi : TI} {g : TG} {tc : TT} {te : TE}
theorem comp_run {pins : List (Addr × Obj)} {σ : St} {H2 : Hp} {s2 : Shared} {Q : Addr → Hp → Prop} {it : Addr} {fp : List Addr} {tn : Nat → Heap → Prop} {J : It} {RR : Value → Addr → Result → Shared → Prop} {E : Value → Shared → Prop}
    (O : CompOk X.N N' ix X.env.scope scope) (hc : X.calm = true)
    (hg : ∀ cl C fp s H, PG (cxComp X N' scope cl C fp s H) tg g)
    (hifs : ∀ cl C fp s H, PTs (cxComp X N' scope cl C fp s H) ifs tc)
    (he : ∀ cl C fp s H, PE (cxComp X N' scope cl C fp s H) elt te)
    (I2 : Inv X pins σ H2 s2) (T : Turn X.prog X.w X.K tg J fp it tn) (st2 : tn 0 s2.heap) (f2 : ∀ b ∈ fp, FpOk X pins H2 b)
    (hq : ∀ D, H2 D = none → ∃ W : Nat → Nat → St → Hp → Prop, (∃ m, W 0 m (mkIx ix σ) (upd H2 D (.lst []))) ∧ tCompW J g tc te D W (Q D))
    (hRR : ∀ D C H' s' m, H2 D = none → Inv X pins σ H' s' → s'.heap.Ns C m → H' C = none → (∀ h' σ2 s3, Inv X pins σ2 H' s3 → Heap.SameBut C s3.heap h' → Inv X pins σ2 H' { s3 with heap := h' }) →
      (C ≠ X.env.locals ∧ ∀ x c, X.env.cells.lookup x = some c → c ≠ C) → Q D H' → RR (.ref D) C (.ok .next) s') :
    wpAny (model X.prog X.w) X.A (newList []) (fun acc s₃ => wpAny (model X.prog X.w) X.A (newFunctionEnv scope X.env.globals (clOf X.env scope.names []) [] X.env.qual none .none (some X.env)) (fun cenv s₄ =>
      codeAny (model X.prog X.w) X.A (.compStart (.ListComp elt [⟨tg, iter, ifs, 0⟩] scope pos) 0 (.ref it) acc { cenv with scope := relabel scope X.env }) (RR acc cenv.locals) s₄) E s₃) E s2 := by
  refine wpAny_newObj_type (wpAny_newFunctionEnv O.nocell (by intro y hy; simp at hy) (fun h₄ hns hsb => ?_) O.kind)
  dsimp only at hns hsb ⊢
  have hD := I2.fresh
  obtain ⟨W, ⟨m0, w0⟩, turn⟩ := hq s2.heap.objs.size hD
  have I3 : Inv X pins σ (upd H2 s2.heap.objs.size (.lst [])) { s2 with heap := s2.heap.push { cls := .type "list", data := .seq ([] : List Value).toArray }, toks := s2.toks } := I2.lnew (its := []) .nil (Nat.zero_le _)
  generalize hh3 : s2.heap.push { cls := .type "list", data := .seq ([] : List Value).toArray } = h3 at hns hsb I3 ⊢
  have hC : h3.objs.size = s2.heap.objs.size + 1 := by rw [← hh3, Heap.size_push]
  have up : ∀ b o, s2.heap.get? b = some o → h3.get? b = some o := fun b o e => by rw [← hh3]; exact Heap.get?_push_of_some _ e
  have k4 : ∀ b o, h3.get? b = some o → h₄.get? b = some o := fun b o e => hsb.extBut b o (Nat.ne_of_lt (Heap.lt_size e)) (Heap.get?_push_of_some _ e)
  have f3 : ∀ b ∈ fp, FpOk X pins (upd H2 s2.heap.objs.size (.lst [])) b ∧ b < h3.objs.size := fun b hb => by
    obtain ⟨o, e, _⟩ := T.obj _ _ st2 b hb
    have hlt := Heap.lt_size e
    obtain ⟨f0, fr⟩ := f2 b hb
    exact ⟨⟨by rw [upd_ne (Nat.ne_of_lt hlt)]; exact f0, fr⟩, by rw [hC]; exact Nat.lt_succ_of_lt hlt⟩
  have J0 := comp_inv (s := { s2 with heap := h3, toks := s2.toks }) (t4 := s2.toks + ([] : List (Str × Value)).length) I3 O f3 hns k4
  have st4 : tn 0 h₄ := T.keep _ _ _ st2 fun b hb o e => k4 b o (up b o e)
  have stat : ∀ {H' : Hp}, (∀ b ∈ fp, H' b = none) → ∀ b ∈ fp, FpOk (cxComp X N' scope (clOf X.env scope.names []) h3.objs.size fp { s2 with heap := h3, toks := s2.toks } (upd H2 s2.heap.objs.size (.lst []))) [] H' b := fun hn b hb =>
    ⟨hn b hb, (J0.ok.exf b hb).1, J0.ok.exfs b hb, .inl hb, (J0.ok.exf b hb).2, fun p hp => absurd (show p ∈ ([] : List (Addr × Obj)) from hp) (by simp)⟩
  have loop : codeAny (model X.prog X.w) X.A (.compLoop (.ListComp elt [⟨tg, iter, ifs, 0⟩] scope pos) 0 (.ref it) (.ref s2.heap.objs.size) (compEnvC scope (clOf X.env scope.names []) h3.objs.size X.env)) (RR (.ref s2.heap.objs.size) h3.objs.size)
      { s2 with heap := h₄, toks := s2.toks + ([] : List (Str × Value)).length } := by
    refine compLoop_go (fun n s' => ∃ i σ' H', Inv (cxComp X N' scope (clOf X.env scope.names []) h3.objs.size fp { s2 with heap := h3, toks := s2.toks } (upd H2 s2.heap.objs.size (.lst []))) [] σ' H' s' ∧ tn i s'.heap ∧ (∀ b ∈ fp, H' b = none) ∧ W i n σ' H') ?_ m0
      ⟨0, mkIx ix σ, _, J0, st4, fun b hb => (f3 b hb).1.1, w0⟩
    rintro n s5 ⟨i, σ5, H5, I5, st5, fr5, w5⟩
    rcases turn i n σ5 H5 w5 with ⟨stop, qn⟩ | ⟨go, step⟩
    · refine thn (T.done (cxComp X N' scope (clOf X.env scope.names []) h3.objs.size fp { s2 with heap := h3, toks := s2.toks } (upd H2 s2.heap.objs.size (.lst []))) rfl rfl rfl hc i [] s5 σ5 H5 _ I5 (stat fr5) st5 stop) fun r s6 ⟨hr, I6⟩ => ?_
      subst hr
      obtain ⟨m, hm, _⟩ := I6.loc
      refine hRR _ _ H5 s6 m hD (comp_back I3 f3 I6) hm I6.free (fun h' σ2 s3 J hs => comp_let I3 (Nat.le_refl _) J I6.free hs) ⟨Nat.ne_of_gt I3.lt, fun x c e z => ?_⟩ qn
      obtain ⟨v, q⟩ := I3.cell x c e
      exact absurd q.lt (by rw [z]; exact Nat.lt_irrefl _)
    · refine thn (T.item (cxComp X N' scope (clOf X.env scope.names []) h3.objs.size fp { s2 with heap := h3, toks := s2.toks } (upd H2 s2.heap.objs.size (.lst []))) rfl rfl rfl hc i [] s5 σ5 H5 _ I5 (stat fr5) st5 go) fun r s6 ⟨u, hr, h6⟩ => ?_
      subst hr
      refine thn h6 fun _ s7 ⟨x, H7, I7, r7, y7, st7, fr7⟩ => ?_
      have I7' := I7.pinned (stat fr7) (T.obj _ _ st7)
      have again : ∀ {σ' : St} {H' : Hp} {s' : Shared} {m' : Nat}, Inv (cxComp X N' scope (clOf X.env scope.names []) h3.objs.size fp { s2 with heap := h3, toks := s2.toks } (upd H2 s2.heap.objs.size (.lst []))) ([] ++ pinsAt fp s7.heap) σ' H' s' → W (i + 1) m' σ' H' →
          ∃ i σ'' H'', Inv (cxComp X N' scope (clOf X.env scope.names []) h3.objs.size fp { s2 with heap := h3, toks := s2.toks } (upd H2 s2.heap.objs.size (.lst []))) [] σ'' H'' s' ∧ tn i s'.heap ∧ (∀ b ∈ fp, H'' b = none) ∧ W i m' σ'' H'' := fun {σ' H' s' m'} J w => by
        refine ⟨i + 1, σ', H', J.unpinned, T.keep _ _ _ st7 fun b hb o e => (J.pin (b, o) (List.mem_append_right _ (List.mem_append_right _ (mem_pinsAt hb e)))).1, fun b hb => ?_, w⟩
        obtain ⟨o, e, d⟩ := T.obj _ _ st7 b hb
        exact (J.pin (b, o) (List.mem_append_right _ (List.mem_append_right _ (mem_pinsAt hb e)))).2.1
      refine thn (hg _ _ _ _ _ _ s7 σ5 H7 x u _ I7' r7 (step x H7 y7)) fun _ s8 ⟨σ8, H8, I8, q8⟩ => ?_
      refine thn (hifs _ _ _ _ _ _ s8 σ8 H8 _ I8 q8) fun b s9 ⟨H9, I9, q9⟩ => ?_
      cases b with
      | false =>
        obtain ⟨m', hm, w9⟩ := q9
        exact ⟨m', hm, again I9 w9⟩
      | true =>
        refine thn (he _ _ _ _ _ _ s9 σ8 H9 _ I9 q9) fun y s10 ⟨yv, H10, I10, r10, ys, hys, hlen, m', hm, w10⟩ => ?_
        exact thn (mt_append _ s10 σ8 H10 (.ref s2.heap.objs.size) [yv] (.ref s2.heap.objs.size) [y] (fun _ H11 => W (i + 1) m' σ8 H11) I10 rfl (.cons r10 .nil) ⟨_, ys, yv, rfl, rfl, hys, hlen, w10⟩) fun _ s11 ⟨_, H11, I11, _, q11⟩ => ⟨m', hm, again I11 q11⟩
  exact codeAny_compStart_list loop (T.self _ 0 _ _ _ st4 loop)

theorem pe_comp {N : List Str} {fsc : Scope} (O : CompOk N N' ix fsc scope) (hc : X.calm = true) (hi : PI X tg iter wi)
    (hg : ∀ cl C fp s H, PG (cxComp X N' scope cl C fp s H) tg g)
    (hifs : ∀ cl C fp s H, PTs (cxComp X N' scope cl C fp s H) ifs tc)
    (he : ∀ cl C fp s H, PE (cxComp X N' scope cl C fp s H) elt te)
    (hs : ∀ x, foldedSetIterable iter X.env x = pure x := by intro _; rfl) (hNN : X.N = N := by rfl) (hsc : X.env.scope = fsc := by rfl) : PE X (.ListComp elt [⟨tg, iter, ifs, 0⟩] scope pos) (tComp wi g tc te ix) := by
  subst hNN hsc
  intro pins s σ H Q I h
  rw [eval_ListComp]
  refine wpAny_comprehension_free (use := none) rfl hs (closure_clOf fun y hy e => I.ok.has y.1 (O.free y hy e)) O.kind O.names (thn (hi pins s σ H _ I h) fun xv s1 h1 => thn h1 fun itv s2 h2 => ?_)
  obtain ⟨it, fp, tn, J, H2, e, I2, T, st2, f2, hq⟩ := h2
  subst e
  exact comp_run (Q := fun D H' => Q (.ref D) H') (RR := fun acc C => compPost (model X.prog X.w) X.A X.xe none (EP X pins σ Q) acc C) O hc hg hifs he I2 T st2 f2 hq
    fun D C H' s' m hD J' hm hn hl hC q => ⟨m, hm, fun h' hs' => ⟨.ref D, H', hl h' σ s' J' hs', rfl, q⟩⟩

end
/-- what is walked: the items xs, as long as P holds of the heap -/
structure ItIs (J : It) (P : Hp → Prop) (xs : List V) : Prop where
  go : ∀ i H, P H → i < xs.length → J.go i H
  yld : ∀ i H x H', P H → J.yld i H x H' → i < xs.length → H' = H ∧ xs[i]? = some x
  stop : ∀ H, P H → J.stop xs.length H
theorem itis_range (lo : Int) (n : Nat) : ItIs (Itr lo n) (fun _ => True) ((List.range n).map fun k => V.int (lo + (k : Nat))) where
  go := fun i H _ h => by rw [List.length_map, List.length_range] at h; exact h
  yld := fun i H x H' _ y h => by
    rw [List.length_map, List.length_range] at h
    obtain ⟨rfl, rfl⟩ := y
    refine ⟨rfl, ?_⟩
    rw [List.getElem?_map, List.getElem?_range h]
    rfl
  stop := fun H _ => by rw [List.length_map, List.length_range]; exact Nat.le_refl _
theorem itis_list {K : PySem.W.Frag} (a : Addr) (xs : List V) : ItIs (Itl K a) (fun H => SqL K H a xs) xs where
  go := fun i H q h => ⟨xs, xs[i], q, by simp [h]⟩
  yld := fun i H x H' q y _ => ⟨y.1, y.2 xs q⟩
  stop := fun H q => ⟨xs, q, Nat.le_refl _⟩
theorem same_upd {H H' : Hp} {p : Addr} (h : H p = none) (g : Same H H') (o : HO) : Same H (upd H' p o) := fun b u q => by rw [upd_ne (ne_of_none q h)]; exact g b u q
theorem same_new {H : Hp} {p : Addr} (h : H p = none) (o : HO) : Same H (upd H p o) := same_upd h (Same.refl H) o

theorem paired_snoc {α β : Type} {F : α → β → Prop} {a : α} {b : β} : ∀ {l₁ : List α} {l₂ : List β}, Paired F l₁ l₂ → F a b → Paired F (l₁ ++ [a]) (l₂ ++ [b])
  | _, _, .nil, h => .cons h .nil
  | _, _, .cons r t, h => .cons r (paired_snoc t h)
theorem paired_map {α β : Type} {f : α → β} : ∀ {l₁ : List α} {l₂ : List β}, Paired (fun a b => b = f a) l₁ l₂ → l₂ = l₁.map f
  | _, _, .nil => rfl
  | _, _, .cons r t => by rw [List.map_cons, ← r, ← paired_map t]

/-- the tuples are as they were -/
def SameT (H H' : Hp) : Prop := ∀ b xs, H b = some (.tup xs) → H' b = some (.tup xs)
theorem Same.t {H H' : Hp} (g : Same H H') : SameT H H' := fun b xs e => g b _ e
theorem sameT_lst {H : Hp} {D : Addr} {ys zs : List V} (e : H D = some (.lst ys)) : SameT H (upd H D (.lst zs)) := fun b xs q => by
  rw [upd_ne (ne_of q e (fun z => by cases z))]
  exact q

/-- a comprehension whose elements are told by a relation that stays true -/
theorem comp_rel {J : It} {g : TG} {tc : TT} {te : TE} {D : Addr} {σ₀ : St} {H1 : Hp} {xs : List V} {P : Hp → Prop} {Q : Hp → Prop} (p : V → Bool) (R : V → V → Hp → Prop) (up : V → St)
    (hR : ∀ x y H H', SameT H H' → R x y H → R x y H') (hD : H1 D = none) (hl : xs.length ≤ sizeLine) (hJ : ItIs J P xs) (hP : ∀ H', Same H1 H' → P H')
    (hg : ∀ (i : Nat) x σ H K, xs[i]? = some x → (σ = σ₀ ∨ ∃ z, σ = up z) → Same H1 H → K (up x) H → g x σ H K)
    (ht : ∀ (i : Nat) x H K, xs[i]? = some x → Same H1 H → (∀ H', Same H H' → K (p x) H') → tc (up x) H K)
    (he : ∀ (i : Nat) x H K, xs[i]? = some x → p x = true → Same H1 H → (∀ y H', Same H H' → R x y H' → K y H') → te (up x) H K)
    (hQ : ∀ ys H', Same H1 H' → H' D = some (.lst ys) → Paired (fun x y => R x y H') (xs.filter p) ys → Q H') :
    ∃ W : Nat → Nat → St → Hp → Prop, (∃ m, W 0 m σ₀ (upd H1 D (.lst []))) ∧ tCompW J g tc te D W Q := by
  refine ⟨fun i m σ H => m = xs.length - i ∧ i ≤ xs.length ∧ (σ = σ₀ ∨ ∃ z, σ = up z) ∧ Same H1 H ∧ ∃ ys, H D = some (.lst ys) ∧ Paired (fun x y => R x y H) ((xs.take i).filter p) ys, ⟨_, rfl, Nat.zero_le _, .inl rfl, same_new hD _, [], upd_same, by rw [List.take_zero]; exact .nil⟩, ?_⟩
  rintro i m σ H ⟨rfl, hi, hσ, hS, ys, hys, hr⟩
  have hp := hP H hS
  by_cases hlt : i < xs.length
  · refine .inr ⟨hJ.go i H hp hlt, fun x H2 hy => ?_⟩
    obtain ⟨rfl, hx⟩ := hJ.yld i H x H2 hp hy hlt
    refine hg i x σ _ _ hx hσ hS (ht i x _ _ hx hS fun H4 g4 => ?_)
    have tk : xs.take (i + 1) = xs.take i ++ [x] := by rw [List.take_add_one, hx]; rfl
    cases hpx : p x with
    | false =>
      refine ⟨xs.length - (i + 1), by omega, rfl, hlt, .inr ⟨x, rfl⟩, hS.trans g4, ys, g4 _ _ hys, ?_⟩
      rw [tk, List.filter_append]
      simp only [List.filter_cons, hpx, List.filter_nil, Bool.false_eq_true, if_false, List.append_nil]
      exact Paired.mapP hr fun a b => hR a b _ _ g4.t
    | true =>
      refine he i x H4 _ hx hpx (hS.trans g4) fun y H5 g5 ry => ?_
      have e5 : H5 D = some (.lst ys) := g5 _ _ (g4 _ _ hys)
      have hlen : ys.length < sizeLine := by
        have e1 := Paired.length hr
        have e2 : ((xs.take i).filter p).length ≤ (xs.take i).length := List.length_filter_le _ _
        rw [List.length_take] at e2
        omega
      have tD : SameT H5 (upd H5 D (.lst (ys ++ [y]))) := sameT_lst e5
      refine ⟨ys, e5, hlen, xs.length - (i + 1), by omega, rfl, hlt, .inr ⟨x, rfl⟩, same_upd hD (hS.trans (g4.trans g5)) _, ys ++ [y], upd_same, ?_⟩
      rw [tk, List.filter_append]
      simp only [List.filter_cons, hpx, List.filter_nil, if_true]
      refine paired_snoc (Paired.mapP hr fun a b z => hR a b _ _ tD (hR a b _ _ g5.t (hR a b _ _ g4.t z))) (hR _ _ _ _ tD ry)
  · have e : i = xs.length := by omega
    subst e
    rw [List.take_length] at hr
    exact .inl ⟨hJ.stop H hp, hQ ys H hS hys hr⟩
/-- a comprehension whose elements are values told by a function -/
theorem comp_map {J : It} {g : TG} {tc : TT} {te : TE} {D : Addr} {σ₀ : St} {H1 : Hp} {xs : List V} {P : Hp → Prop} {Q : Hp → Prop} (p : V → Bool) (f : V → V) (up : V → St)
    (hD : H1 D = none) (hl : xs.length ≤ sizeLine) (hJ : ItIs J P xs) (hP : ∀ H', Same H1 H' → P H')
    (hg : ∀ (i : Nat) x σ H K, xs[i]? = some x → (σ = σ₀ ∨ ∃ z, σ = up z) → Same H1 H → K (up x) H → g x σ H K)
    (ht : ∀ (i : Nat) x H K, xs[i]? = some x → Same H1 H → (∀ H', Same H H' → K (p x) H') → tc (up x) H K)
    (he : ∀ (i : Nat) x H K, xs[i]? = some x → p x = true → Same H1 H → (∀ H', Same H H' → K (f x) H') → te (up x) H K)
    (hQ : ∀ H', Same H1 H' → H' D = some (.lst ((xs.filter p).map f)) → Q H') :
    ∃ W : Nat → Nat → St → Hp → Prop, (∃ m, W 0 m σ₀ (upd H1 D (.lst []))) ∧ tCompW J g tc te D W Q :=
  comp_rel p (fun x y _ => y = f x) up (fun _ _ _ _ _ h => h) hD hl hJ hP hg ht (fun i x H K h1 h2 h3 h4 => he i x H K h1 h2 h3 fun H' g' => h4 (f x) H' g' rfl)
    fun ys H' g' e r => hQ H' g' (by rw [e, paired_map r])
end L2
namespace L2
open PySem PySem.Spec PyProof.Rows
/-- the text of these code points -/
def S (l : List Nat) : Str := ⟨l.toArray⟩
theorem S_list (l : List Nat) : (S l).cps.toList = l := rfl
theorem S_len (l : List Nat) : (S l).length = l.length := by simp [S, Str.length]
theorem S_inj {a b : List Nat} (h : S a = S b) : a = b := congrArg (fun z : Str => z.cps.toList) h
theorem S_app (a b : List Nat) : S a ++ S b = S (a ++ b) := by
  show Str.append _ _ = _
  simp [S, Str.append]
theorem S_dec (a b : List Nat) : decide (S a = S b) = decide (a = b) := by
  by_cases h : a = b
  · subst h; simp
  · rw [decide_eq_false h, decide_eq_false fun z => h (S_inj z)]
theorem S_beq (a b : List Nat) : (S a == S b) = decide (a = b) := by
  rw [← S_dec]
  by_cases h : S a = S b
  · rw [h]; simp
  · rw [decide_eq_false h]; exact beq_eq_false_iff_ne.mpr h
/-- what l[lo:hi] cuts out -/
def cutL (l : List Nat) (lo hi : Option Int) : List Nat := (l.drop (HT.sIx l.length 0 lo)).take (HT.sIx l.length l.length hi - HT.sIx l.length 0 lo)
theorem cutL_length (l : List Nat) (lo hi : Option Int) : (cutL l lo hi).length ≤ l.length := by
  unfold cutL
  rw [List.length_take, List.length_drop]
  omega
theorem cutL_to_le (l : List Nat) {k : Int} (h : 0 ≤ k) : ((cutL l none (some k)).length : Int) ≤ k := by
  unfold cutL
  rw [List.length_take]
  have e : HT.sIx l.length l.length (some k) = min k.toNat l.length := by
    show (if k < 0 then _ else _) = _
    rw [if_neg (by omega)]
  rw [e]
  omega
open Builtin Builtin.Str in
theorem idx_clip (lo hi : Option Int) (n : Nat) : strSliceIndices lo hi 1 n = strSliceIndices (some ((HT.sIx n 0 lo : Nat) : Int)) (some ((HT.sIx n n hi : Nat) : Int)) 1 n := by
  have h1 : ((1 : Int) > 0) = True := by simp
  have e1 : (match lo with | none => (0 : Int) | some i => max 0 (min (if i < 0 then i + (n : Int) else i) (n : Int))) = max 0 (min (if ((HT.sIx n 0 lo : Nat) : Int) < 0 then ((HT.sIx n 0 lo : Nat) : Int) + (n : Int) else ((HT.sIx n 0 lo : Nat) : Int)) (n : Int)) := by
    have hle := HT.sIx_le n 0 (Nat.zero_le _) lo
    rw [if_neg (by omega)]
    cases lo with
    | none => show (0 : Int) = max 0 (min ((0 : Nat) : Int) n); omega
    | some v =>
      show max 0 (min (if v < 0 then v + (n : Int) else v) (n : Int)) = max 0 (min (((if v < 0 then (v + (n : Int)).toNat else min v.toNat n : Nat)) : Int) (n : Int))
      by_cases hv : v < 0
      · simp only [if_pos hv]; omega
      · simp only [if_neg hv]; omega
  have e2 : (match hi with | none => (n : Int) | some i => max 0 (min (if i < 0 then i + (n : Int) else i) (n : Int))) = max 0 (min (if ((HT.sIx n n hi : Nat) : Int) < 0 then ((HT.sIx n n hi : Nat) : Int) + (n : Int) else ((HT.sIx n n hi : Nat) : Int)) (n : Int)) := by
    have hle := HT.sIx_le n n (Nat.le_refl _) hi
    rw [if_neg (by omega)]
    cases hi with
    | none => show (n : Int) = max 0 (min ((n : Nat) : Int) n); omega
    | some v =>
      show max 0 (min (if v < 0 then v + (n : Int) else v) (n : Int)) = max 0 (min (((if v < 0 then (v + (n : Int)).toNat else min v.toNat n : Nat)) : Int) (n : Int))
      by_cases hv : v < 0
      · simp only [if_pos hv]; omega
      · simp only [if_neg hv]; omega
  simp only [strSliceIndices, h1, if_true]
  rw [← e1, ← e2]
  cases lo <;> cases hi <;> rfl
open Builtin Builtin.Str in
theorem idx_none {a b n : Nat} (ha : a ≤ n) (h : b ≤ a) : strSliceIndices (some (a : Int)) (some (b : Int)) 1 n = [] := by
  have h1 : ((1 : Int) > 0) = True := by simp
  have e1 : ¬ ((a : Int) < 0) := by omega
  have e2 : ¬ ((b : Int) < 0) := by omega
  have e3 : max (0 : Int) (min (a : Int) (n : Int)) = a := by omega
  have e4 : max (0 : Int) (min (b : Int) (n : Int)) = b := by omega
  simp only [strSliceIndices, sliceRange, h1, if_true, e1, e2, if_false, e3, e4]
  have : ¬ ((a : Int) < b) := by omega
  simp [this]
  try omega
theorem cut_eq (x : Str) (lo hi : Option Int) : Txt.slice x lo hi = S (cutL x.cps.toList lo hi) := by
  have hl : x.cps.toList.length = x.length := by simp [Str.length]
  have ha := HT.sIx_le x.length 0 (Nat.zero_le _) lo
  have hb := HT.sIx_le x.length x.length (Nat.le_refl _) hi
  unfold cutL
  rw [hl]
  have e : Txt.slice x lo hi = StrLaws.sliceText x (some ((HT.sIx x.length 0 lo : Nat) : Int)) (some ((HT.sIx x.length x.length hi : Nat) : Int)) := by
    unfold Txt.slice StrLaws.sliceText
    rw [idx_clip]
  rw [e]
  by_cases hab : HT.sIx x.length 0 lo ≤ HT.sIx x.length x.length hi
  · exact StrLaws.sliceText_nat x hab hb
  · have z : HT.sIx x.length x.length hi - HT.sIx x.length 0 lo = 0 := by omega
    rw [z, List.take_zero]
    unfold StrLaws.sliceText
    rw [idx_none ha (by omega)]
    split
    · rename_i h
      have h' : x.length = 0 := by
        have := h
        simp at this
        omega
      show x = S []
      have : x.cps = #[] := Array.eq_empty_of_size_eq_zero h'
      cases x
      simp [S] at *
      exact this
    · rfl
section
variable {X : Cx}
theorem pe_strS {x : Str} {l : List Nat} {j pos} (h : x = S l) : PE X (.Constant (.str x) j pos) (tC (.str (S l))) := by
  subst h
  exact pe_str

def rSlS : V → Option Int → Option Int → Hp → VK → Prop := fun x lo hi H Q => ∃ l, x = .str (S l) ∧ l.length ≤ sizeLine ∧ Q (.str (S (cutL l lo hi))) H
theorem sl_str : SlR X rSlS := by
  intro pins s σ H x v vl vu lo hi sl Q I rx hs pl pu h
  obtain ⟨l, rfl, hz, q⟩ := h
  obtain ⟨t, rfl⟩ := rx
  refine ⟨"str", _, F.slot_str_getitem.lookup, typeIs_str _ _ _, ?_⟩
  have hz' : (S l).length ≤ sizeLine := by rw [S_len]; exact hz
  have fin : ∀ t' k, EP X pins σ Q (.str (Txt.slice (S l) lo hi) t') { s with toks := k } := fun t' k => by
    rw [cut_eq, S_list]
    exact ⟨.str (S (cutL l lo hi)), H, I.tok _, ⟨_, rfl⟩, q⟩
  cases pl with
  | none =>
    cases pu with
    | none => exact wpAny_getItem_str_slice (l := none) (u := none) (st := none) hs rfl (post_val_or_str ⟨Nat.le_trans (Txt.slice_le (S l) none none) hz', fin⟩)
    | int j uj => exact wpAny_getItem_str_slice (l := none) (u := some (j, uj)) (st := none) hs rfl (post_val_or_str ⟨Nat.le_trans (Txt.slice_le (S l) none (some j)) hz', fin⟩)
  | int i ui =>
    cases pu with
    | none => exact wpAny_getItem_str_slice (l := some (i, ui)) (u := none) (st := none) hs rfl (post_val_or_str ⟨Nat.le_trans (Txt.slice_le (S l) (some i) none) hz', fin⟩)
    | int j uj => exact wpAny_getItem_str_slice (l := some (i, ui)) (u := some (j, uj)) (st := none) hs rfl (post_val_or_str ⟨Nat.le_trans (Txt.slice_le (S l) (some i) (some j)) hz', fin⟩)

def rAddS : R2 := fun x y H Q => ∃ a b, x = .str (S a) ∧ y = .str (S b) ∧ a.length + b.length ≤ sizeLine ∧ Q (.str (S (a ++ b))) H
theorem op_addS : OpR X (binaryOp .Add) rAddS := by
  intro pins s σ H x y v u Q I rx ry h
  obtain ⟨a, b, rfl, rfl, hz, q⟩ := h
  refine op_add_str pins s σ H _ _ v u Q I rx ry ⟨S a, S b, rfl, rfl, by rw [S_len, S_len]; exact hz, ?_⟩
  rw [S_app]
  exact q
theorem foldl_cps (l : List Nat) : ∀ (k : Nat) (acc : List Nat), List.foldl (fun x1 x2 => x1 ++ x2) acc.toArray (List.replicate k l.toArray) = (acc ++ (List.replicate k l).flatten).toArray
  | 0, acc => by simp
  | k + 1, acc => by
    have e : acc.toArray ++ l.toArray = (acc ++ l).toArray := by simp
    have e2 : (acc ++ l) ++ (List.replicate k l).flatten = acc ++ (List.replicate (k + 1) l).flatten := by
      rw [List.replicate_succ, List.flatten_cons, List.append_assoc]
    rw [← e2, ← foldl_cps l k (acc ++ l), ← e, List.replicate_succ, List.foldl_cons]
def repL (l : List Nat) (k : Int) : List Nat := (List.replicate k.toNat l).flatten
theorem repL_length (l : List Nat) (k : Int) : (repL l k).length = k.toNat * l.length := by
  unfold repL
  rw [List.length_flatten, List.map_replicate, List.sum_replicate_nat]
def rMulS : R2 := fun x y H Q => ∃ l k, x = .str (S l) ∧ y = .int k ∧ 0 ≤ k ∧ k < 1000000 ∧ l.length * k.toNat ≤ 1000000 ∧ Q (.str (S (repL l k))) H
theorem op_mulS : OpR X (binaryOp .Mult) rMulS := by
  intro pins s σ H x y v u Q I rx ry h
  obtain ⟨l, k, rfl, rfl, h0, h1, h2, q⟩ := h
  obtain ⟨t, rfl⟩ := rx
  obtain ⟨t', rfl⟩ := ry
  have hbig : (1000000 : Nat) ≤ sizeLine := by rw [sizeLine_eq]; decide
  have done : ∀ (z : Str) (t2 : Tok) (tk : Nat), z = S (repL l k) → EP X pins σ Q (.str z t2) { s with toks := tk } := fun z t2 tk e => by
    subst e
    exact ⟨.str _, H, I.tok _, ⟨_, rfl⟩, q⟩
  refine P.mul_str ?_ ?_ ?_ ?_
  · rw [decide_eq_false (by omega), decide_eq_false (by omega)]
    rfl
  · intro hk _ hgt
    rw [S_len] at hgt
    have hk' : 1 ≤ k := by omega
    have e1 : (l.length : Int) * k ≤ 1000000 := by
      have : ((l.length * k.toNat : Nat) : Int) ≤ 1000000 := by omega
      rw [Int.natCast_mul, Int.toNat_of_nonneg h0] at this
      exact this
    have e2 : (l.length : Int) ≤ 1000000 := by
      have e4 : (l.length : Int) * 1 ≤ (l.length : Int) * k := Int.mul_le_mul_of_nonneg_left hk' (by omega)
      omega
    have e3 : (1000000 : Int) ≤ (2 ^ 63 - 1) / k := by
      rw [Int.le_ediv_iff_mul_le (by omega)]
      omega
    omega
  · intro _ _
    unfold Builtin.Str.tooLong
    rw [S_len]
    exact decide_eq_false (by omega)
  · by_cases hk : k < 1
    · rw [if_pos hk]
      have e : repL l k = [] := by
        unfold repL
        rw [show k.toNat = 0 by omega]
        rfl
      exact ⟨by show (0 : Nat) ≤ sizeLine; exact Nat.zero_le _, done _ _ _ (by rw [e]; rfl)⟩
    · rw [if_neg hk]
      by_cases h1' : (k == 1 || (S l).length == 0) = true
      · rw [if_pos h1']
        refine done _ _ s.toks ?_
        rw [Bool.or_eq_true] at h1'
        rcases h1' with z | z
        · have z' : k = 1 := eq_of_beq z
          subst z'
          show S l = S (repL l 1)
          unfold repL
          simp
        · have z' : l.length = 0 := by rw [S_len] at z; exact eq_of_beq z
          have z2 : l = [] := List.length_eq_zero_iff.mp z'
          subst z2
          unfold repL
          simp
      · rw [if_neg h1']
        have e : (⟨(List.replicate k.toNat (S l).cps).foldl (· ++ ·) #[]⟩ : Str) = S (repL l k) := by
          have := foldl_cps l k.toNat []
          rw [List.nil_append] at this
          exact congrArg Str.mk this
        refine ⟨?_, done _ _ _ e⟩
        rw [e, S_len, repL_length, Nat.mul_comm]
        omega

def rCmpS (p : List Nat → List Nat → Bool) : R2 := fun x y H Q => ∃ a b, x = .str (S a) ∧ y = .str (S b) ∧ Q (.bl (p a b)) H
theorem op_ltS : OpR X (compareOp .Lt) (rCmpS fun a b => decide (a < b)) := by
  intro pins s σ H x y v u Q I rx ry h
  obtain ⟨a, b, rfl, rfl, q⟩ := h
  obtain ⟨t, rfl⟩ := rx
  obtain ⟨t', rfl⟩ := ry
  exact lt_str ⟨.bl _, H, I, rfl, q⟩
theorem op_leS : OpR X (compareOp .LtE) (rCmpS fun a b => !decide (b < a)) := by
  intro pins s σ H x y v u Q I rx ry h
  obtain ⟨a, b, rfl, rfl, q⟩ := h
  obtain ⟨t, rfl⟩ := rx
  obtain ⟨t', rfl⟩ := ry
  exact P.le_str ⟨.bl _, H, I, rfl, q⟩
theorem dec_strS (a b : List Nat) : decide (V.str (S a) = V.str (S b)) = decide (a = b) := by rw [dec_str, S_beq]
theorem op_eqS : OpR X (compareOp .Eq) (rCmpS fun a b => decide (a = b)) := by
  intro pins s σ H x y v u Q I rx ry h
  obtain ⟨a, b, rfl, rfl, q⟩ := h
  exact op_eq pins s σ H _ _ v u Q I rx ry ⟨rfl, by rw [dec_strS]; exact q⟩
def rLenS : List V → Hp → VK → Prop := fun xs H Q => ∃ l, xs = [.str (S l)] ∧ l.length ≤ sizeLine ∧ Q (.int l.length) H
theorem call_lenS : CallR X (.builtin "len") rLenS := by
  intro pins s σ H xs us Q I r h
  obtain ⟨l, rfl, hz, q⟩ := h
  exact call_len_str pins s σ H _ us Q I r ⟨S l, rfl, by rw [S_len]; exact hz, by rw [S_len]; exact q⟩
def rIxS' : R2 := fun x y H Q => ∃ l i c, x = .str (S l) ∧ y = .int i ∧ l.length ≤ sizeLine ∧ atI l i = some c ∧ Q (.str (S [c])) H
theorem ix_strS : IxR X rIxS' := by
  intro value slice pins s σ H x y v u Q I rx ry h hs
  obtain ⟨l, i, c, rfl, rfl, hz, he, q⟩ := h
  exact ix_str value slice pins s σ H _ _ v u Q I rx ry ⟨S l, i, c, rfl, rfl, by rw [S_len]; exact hz, he, q⟩ hs

def Its (l : List Nat) : It := ⟨fun i _ => i < l.length, fun i H x H' => H' = H ∧ ∃ c, l[i]? = some c ∧ x = .str (S [c]), fun i _ => l.length ≤ i⟩
theorem turn_str {P : Program} {w : World} {K : PySem.W.Frag} {tg : Expr} {it : Addr} {l : List Nat} {n : String} {t : Tok}
    (hn : ["enumerate", "zip", "dict_itemiterator", "dict_reverseitemiterator", "odict_iterator", "itertools.zip_longest", "itertools.pairwise"].contains n = false)
    (W : ∀ A' : Around, A'.handled = none → Walks P w A' it [it] [it] l.length (SignAt (S l)) (fun i h => h.IsStrIter it n (S l) t i))
    (hself : ∀ (A : Around) (i : Nat) (s : Shared) (Q : Value → Shared → Prop) (E : Value → Shared → Prop), s.heap.IsStrIter it n (S l) t i → Q (.ref it) s → wpAny (model P w) A (pyIter (.ref it)) Q E s) :
    Turn P w K tg (Its l) [it] it (fun i h => h.IsStrIter it n (S l) t i ∧ i ≤ l.length) where
  mem := by simp
  obj := fun i h st b hb => by
    have e : b = it := by simpa using hb
    subst e
    obtain ⟨⟨o, e, c, d⟩, _⟩ := st
    exact ⟨o, e, fun v z => by rw [d] at z; cases z⟩
  keep := fun i h h' st k => let ⟨⟨o, e, r⟩, hi⟩ := st; ⟨⟨o, k it (by simp) o e, r⟩, hi⟩
  item := by
    intro X hP hw hK hc i pins s σ H E I hf st hg
    subst hP hw hK
    obtain ⟨f0, f1, f2, f3, f4, f5⟩ := hf it (by simp)
    refine (W X.A (I.ok.hd hc)).item i s _ _ hg st.1 fun v h' tk hv st' kk => ?_
    obtain ⟨c, u, hcu, rfl⟩ := hv
    have I1 : Inv X pins σ H { s with heap := h', toks := tk } := I.turned (fun b o hb e => kk b o (by simpa using hb) e) f0 f1 f3 f4 f5
    obtain ⟨o, e, c', d⟩ := id st'
    have hcl : l[i]? = some c := by simpa [S] using hcu
    exact ⟨_, rfl, go_of (s := { s with heap := h', toks := tk }) e c' d hn ⟨.str (S [c]), H, I1, ⟨_, rfl⟩, ⟨rfl, c, hcl, rfl⟩, ⟨st', hg⟩, fun b hb => (hf b hb).1⟩⟩
  done := by
    intro X hP hw hK hc i pins s σ H E I hf st hg
    subst hP hw hK
    obtain ⟨f0, f1, f2, f3, f4, f5⟩ := hf it (by simp)
    have hi : i = l.length := Nat.le_antisymm st.2 hg
    refine (W X.A (I.ok.hd hc)).done s _ _ (hi ▸ st.1) fun h' tk kk => ⟨rfl, I.turned (fun b o hb e => kk b o (by simpa using hb) e) f0 f1 f3 f4 f5⟩
  self := fun A i s Q E st h => hself A i s Q E st.1 h
def iStr (tl : TE) : TI := fun σ H R => tl σ H fun x H1 => ∃ l, x = .str (S l) ∧ R (Its l) H1
theorem pi_str {tg l : Expr} {tl : TE} (hl : PE X l tl) : PI X tg l (iStr tl) := by
  intro pins s σ H R I h
  refine thn (hl pins s σ H _ I h) fun v s1 ⟨x, H1, I1, r1, q1⟩ => ?_
  obtain ⟨ls, e, q⟩ := q1
  subst e
  obtain ⟨t, rfl⟩ := r1
  have hsz : (S ls).cps.size = ls.length := by simp [S]
  have fp : ∀ b ∈ [s1.heap.objs.size], FpOk X pins H1 b := fun b hb => by
    have e : b = s1.heap.objs.size := by simpa using hb
    subst e
    exact I1.fpOk (Nat.le_refl _) (I1.hok.fresh (Nat.le_refl _))
  cases ha : (S ls).cps.all (· < 128)
  · refine wpAny_pyIter_wide ha ?_
    exact ⟨s1.heap.objs.size, [s1.heap.objs.size], _, _, H1, rfl, I1.kept (t' := s1.toks) fun b o e => Heap.get?_push_of_some _ e,
      turn_str (n := "str_iterator") (t := t) (by decide) (fun A' hA => by have := Walks.strWide (prog := X.prog) (w := X.w) hA s1.heap.objs.size (S ls) t; rw [hsz] at this; exact this) (fun A i s Q E st h => wpAny_pyIter_striter_wide st h),
      ⟨⟨_, Heap.get?_push_size _ rfl, rfl, rfl⟩, Nat.zero_le _⟩, fp, q⟩
  · refine wpAny_pyIter_ascii ha ?_
    exact ⟨s1.heap.objs.size, [s1.heap.objs.size], _, _, H1, rfl, I1.kept (t' := s1.toks) fun b o e => Heap.get?_push_of_some _ e,
      turn_str (n := "str_ascii_iterator") (t := t) (by decide) (fun A' hA => by have := Walks.strAscii (prog := X.prog) (w := X.w) hA s1.heap.objs.size (S ls) t; rw [hsz] at this; exact this) (fun A i s Q E st h => wpAny_pyIter_striter_ascii st h),
      ⟨⟨_, Heap.get?_push_size _ rfl, rfl, rfl⟩, Nat.zero_le _⟩, fp, q⟩
theorem itis_str (l : List Nat) : ItIs (Its l) (fun _ => True) (l.map fun c => V.str (S [c])) where
  go := fun i H _ h => by rw [List.length_map] at h; exact h
  yld := fun i H x H' _ y h => by
    obtain ⟨rfl, c, hc, rfl⟩ := y
    refine ⟨rfl, ?_⟩
    rw [List.getElem?_map, hc]
    rfl
  stop := fun H _ => by rw [List.length_map]; exact Nat.le_refl _

theorem vals_of : ∀ {xs : List V} {us : List Value}, xs.length = us.length → (∀ (j : Nat) x u, xs[j]? = some x → us[j]? = some u → RelV x u) → Vals xs us
  | [], [], _, _ => .nil
  | [], _ :: _, h, _ => by cases h
  | _ :: _, [], h, _ => by cases h
  | x :: xs, u :: us, h, r => .cons (r 0 x u rfl rfl) (vals_of (by simpa using h) fun j y v h1 h2 => r (j + 1) y v (by simpa using h1) (by simpa using h2))

def rAll (K : PySem.W.Frag) : List V → Hp → VK → Prop := fun xs H Q => ∃ (p : Addr) (bs : List Bool), xs = [.ref p] ∧ SqL K H p (bs.map V.bl) ∧ Q (.bl (bs.all fun b => b)) H
theorem all_range (bs : List Bool) : ((List.range bs.length).all fun i => bs.getD i true) = bs.all fun b => b := by
  rw [Bool.eq_iff_iff, List.all_eq_true, List.all_eq_true]
  constructor
  · intro h b hb
    obtain ⟨i, hi, e⟩ := List.mem_iff_getElem.mp hb
    have := h i (List.mem_range.mpr hi)
    rw [List.getD_eq_getElem?_getD, List.getElem?_eq_getElem hi] at this
    rw [← e]
    exact this
  · intro h i hi
    have hi' := List.mem_range.mp hi
    rw [List.getD_eq_getElem?_getD, List.getElem?_eq_getElem hi']
    exact h _ (List.getElem_mem hi')
theorem call_all (hc : X.calm = true) : CallR X (.builtin "all") (rAll X.K) := by
  intro pins s σ H xs us Q I r h
  obtain ⟨p, bs, rfl, hq, q⟩ := h
  obtain ⟨u, rfl, rx⟩ := vals1 r
  cases rx
  obtain ⟨its, rv, pl, hz⟩ := I.list hq
  have hl : its.length = bs.length := by rw [← rv.length, List.length_map]
  refine call_all_walk (wpAny_pyIter_list pl.isList ?_)
  have hlt : p < s.heap.objs.size := let ⟨o, e, _⟩ := pl.isList; Heap.lt_size e
  refine ⟨s.heap.objs.size, _, _, _, _, _, fun i => bs.getD i true, rfl, Walks.list (show X.A.in1.handled = none from I.ok.hd hc) s.heap.objs.size p (Nat.ne_of_lt hlt) its.toArray, ⟨⟨_, Heap.get?_push_size _ rfl, rfl, rfl⟩, ?_⟩, fun i v s' Q' E' hP hQ => ?_, fun h' tk kk => ?_⟩
  · exact pl.isList.at fun o e => Heap.get?_push_of_some _ e
  · have hi : i < bs.length := by
      have := (Array.getElem?_eq_some_iff.mp hP).1
      simp at this
      omega
    obtain ⟨u, hu, ru⟩ := rv.get (i := i) (x := .bl bs[i]) (by simp [hi])
    have e : v = u := by
      have h1 : its[i]? = some v := by simpa using hP
      rw [hu] at h1
      exact (Option.some.inj h1).symm
    cases (show u = Value.bool bs[i] from ru)
    subst e
    have hQ' : Q' (bs.getD i true) s' := hQ
    rw [List.getD_eq_getElem?_getD, List.getElem?_eq_getElem hi] at hQ'
    exact wpAny_truthy_bool hQ'
  · refine ⟨.bl _, H, I.kept fun b o e => kk b o (fun z => absurd (Heap.lt_size e) (by rw [List.mem_singleton.mp z]; exact Nat.lt_irrefl _)) (Heap.get?_push_of_some _ e), rfl, ?_⟩
    rw [List.size_toArray, hl, all_range]
    exact q

def eqVs : List V → List V → Bool
  | [], [] => true
  | x :: xs, y :: ys => eqV x y && eqVs xs ys
  | _, _ => false
theorem eqVs_len : ∀ {xs ys : List V}, eqVs xs ys = true → xs.length = ys.length
  | [], [], _ => rfl
  | x :: xs, y :: ys, h => by
    unfold eqVs at h
    rw [Bool.and_eq_true] at h
    rw [List.length_cons, List.length_cons, eqVs_len h.2]
  | [], _ :: _, h => by cases h
  | _ :: _, [], h => by cases h
theorem eqVs_range : ∀ (xs ys : List V), xs.length = ys.length → ((List.range xs.length).all fun j => eqV (xs.getD j .non) (ys.getD j .non)) = eqVs xs ys
  | [], [], _ => rfl
  | [], _ :: _, h => by cases h
  | _ :: _, [], h => by cases h
  | x :: xs, y :: ys, h => by
    have ih := eqVs_range xs ys (by simpa using h)
    rw [List.length_cons, List.range_succ_eq_map, List.all_cons, List.all_map]
    show (eqV x y && _) = (eqV x y && eqVs xs ys)
    rw [← ih]
    rfl
theorem get_flat {xs : List V} (f : xs.all flatV = true) (j : Nat) (hj : j < xs.length) : flatV (xs.getD j .non) = true := by
  rw [List.getD_eq_getElem?_getD, List.getElem?_eq_getElem hj]
  exact List.all_eq_true.mp f _ (List.getElem_mem hj)
theorem get_rel {xs : List V} {us : List Value} (r : Vals xs us) (j : Nat) (hj : j < us.toArray.size) : RelV (xs.getD j .non) us.toArray[j] := by
  have hj' : j < xs.length := by rw [r.length]; simpa using hj
  obtain ⟨u, hu, ru⟩ := r.get (i := j) (x := xs[j]) (by simp [hj'])
  rw [List.getD_eq_getElem?_getD, List.getElem?_eq_getElem hj']
  have e : us.toArray[j] = u := by
    have : us[j]? = some us[j] := List.getElem?_eq_getElem (by simpa using hj)
    rw [this] at hu
    simpa using Option.some.inj hu
  rw [e]
  exact ru
theorem rc_lists {pins : List (Addr × Obj)} {σ : St} {H : Hp} {s : Shared} {A : Around} {a b : Addr} {xs ys : List V} (I : Inv X pins σ H s) (hu : A.units < cLine) (ha : SqL X.K H a xs) (hb : SqL X.K H b ys) (fx : xs.all flatV = true) (fy : ys.all flatV = true) :
    SeqAt.RcAt A s (.ref a) (.ref b) (eqVs xs ys) := by
  obtain ⟨us, ru, pu, zu⟩ := I.list ha
  obtain ⟨ws, rw', pw, zw⟩ := I.list hb
  have l1 := ru.length
  have l2 := rw'.length
  by_cases hl : xs.length = ys.length
  · rw [← eqVs_range xs ys hl]
    have := SeqAt.RcAt.lists (A := A) (e := fun j => eqV (xs.getD j .non) (ys.getD j .non)) pu.isList pw.isList (by simp; omega) hu fun j h1 h2 => eqAt_V (get_rel ru j h1) (get_rel rw' j h2) (get_flat fx j (by simp at h1; omega)) (get_flat fy j (by simp at h2; omega))
    rw [List.size_toArray, ← l1] at this
    exact this
  · have e : eqVs xs ys = false := by
      cases q : eqVs xs ys with
      | false => rfl
      | true => exact absurd (eqVs_len q) hl
    rw [e]
    exact SeqAt.RcAt.lists_lengths pu.isList pw.isList (by simp; omega) hu
def rEqL (K : PySem.W.Frag) : R2 := fun x y H Q => ∃ a b xs ys, x = .ref a ∧ y = .ref b ∧ SqL K H a xs ∧ SqL K H b ys ∧ xs.all flatV = true ∧ ys.all flatV = true ∧ Q (.bl (eqVs xs ys)) H
theorem op_eqL (hu : X.A.units < cLine) : OpR X (compareOp .Eq) (rEqL X.K) := by
  intro pins s σ H x y v u Q I rx ry h
  obtain ⟨a, b, xs, ys, rfl, rfl, ha, hb, fx, fy, q⟩ := h
  cases rx
  cases ry
  exact EqBoolInt.of_rc (rc_lists I hu ha hb fx fy) ⟨.bl _, H, I, rfl, q⟩

def rIsi (K : PySem.W.Frag) : List V → Hp → VK → Prop := fun xs H Q => ∃ x T t b, xs = [x, .ty T] ∧ TyOf K H x t ∧ PySem.W.kitOne K t (.type T) = some b ∧ Q (.bl b) H
theorem call_isi : CallR X (.builtin "isinstance") (rIsi X.K) := by
  intro pins s σ H xs us Q I r h
  obtain ⟨x, T, t, b, rfl, ty, e, q⟩ := h
  obtain ⟨u, w', rfl, ru, rw'⟩ := vals2 r
  cases (show w' = Value.type T from rw')
  exact isinst_ok I ru ty e fun tk => ⟨.bl b, H, I.tok tk, rfl, q⟩
end
section
variable {X : Cx} {K : PySem.W.Frag}
theorem CallR.k {f : Value} (r : PySem.W.Frag → List V → Hp → VK → Prop) (q : CallR X f (r X.K)) (h : X.K = K) : CallR X f (r K) := h ▸ q
theorem pe_bmK {o e : Expr} {es : List Expr} {to : TE} {t : TA} {name : Str} {apos cpos : Pos} {T id : String} {r : V → List V → Hp → VK → Prop} (K : PySem.W.Frag) (pa : PlainAttrs T) (slot : Slot T name id) (hty : typeOf (.builtin id) = pure (.type "method_descriptor")) (hm : MtR X id r) (ho : PE X o to) (ha : PA X (e :: es) t)
    (hK : X.K = K := by rfl) (hbase : attributeBase o name X.env (eval o X.env) = eval o X.env := by rfl)
    (hfew : ((backTo cpos (starEach (e :: es) X.env)).all (fun x => !x.1) && (backToKw cpos (keywordEach [] X.env)).all (fun x => x.1.isSome)
      && decide ((e :: es).length + ([] : List Keyword).length + (if ([] : List Keyword).isEmpty then 0 else 1) < 30)) = true := by rfl)
    (hline : (apos.endLine == cpos.line) = true := by rfl) (hs : starEach (e :: es) X.env = (false, eval e X.env) :: starEach es X.env := by rfl) (hplain : (backTo cpos (starEach es X.env)).any (·.1) = false := by rfl) :
    PE X (.Call (.Attribute o name apos) (e :: es) [] cpos) (tBM K T r to t) := hK ▸ pe_bm pa slot hty hm ho ha hbase hfew hline hs hplain
end
end L2
set_option Elab.async false
set_option linter.all false
set_option maxRecDepth 100000
namespace TS
open PySem PyProof.Rows
def gallop' : Bool → Keyed → Array Keyed → Nat → Nat → Nat → StateT SortSt Sem (Option Nat) := sortPriv% PySem.Builtin.gallop
def setMinGallop' : Nat → StateT SortSt Sem Unit := sortPriv% PySem.Builtin.setMinGallop
def mergeLo' : Array Keyed → Array Keyed → StateT SortSt Sem (Array Keyed) := sortPriv% PySem.Builtin.mergeLo
def mergeHi' : Array Keyed → Array Keyed → StateT SortSt Sem (Array Keyed) := sortPriv% PySem.Builtin.mergeHi
theorem gallop'_eq (left : Bool) (key : Keyed) (arr : Array Keyed) (base n hint : Nat) : gallop' left key arr base n hint = (do
  let beyond (i : Nat) : StateT SortSt Sem (Option Bool) := do
    let x ← elem' arr (base + i)
    if left then lt' x key else return (← lt' key x).map (!·)
  let mut lastofs := 0
  let mut ofs := 1
  let mut lo := 0
  let mut hi := 0
  let some right ← beyond hint | return none
  if right then
    let maxofs := n - hint
    for _ in [0:n] do
      if ofs ≥ maxofs then break
      let some more ← beyond (hint + ofs) | return none
      if !more then break
      lastofs := ofs
      ofs := 2 * ofs + 1
    lo := hint + lastofs + 1
    hi := hint + min ofs maxofs
  else
    let maxofs := hint + 1
    for _ in [0:n] do
      if ofs ≥ maxofs then break
      let some found ← beyond (hint - ofs) | return none
      if found then break
      lastofs := ofs
      ofs := 2 * ofs + 1
    lo := hint + 1 - min ofs maxofs
    hi := hint - lastofs
  for _ in [0:n] do
    if lo ≥ hi then break
    let m := lo + (hi - lo) / 2
    let some more ← beyond m | return none
    if more then lo := m + 1 else hi := m
  return some hi) := rfl
section
variable {prog : Program} {w : World} {A : Around} {E : Value → Shared → Prop} {s : Shared} {κ : PyProof.Rows.KeyKind} {kd : SortKind}
def key (κ : PyProof.Rows.KeyKind) (p : Keyed) : κ.α := (κ.keyOf p.1).getD κ.dflt
def Has (κ : PyProof.Rows.KeyKind) (p : Keyed) : Prop := ∃ a, κ.keyOf p.1 = some a
theorem Has.key {p : Keyed} (h : Has κ p) : κ.keyOf p.1 = some (key κ p) := by
  obtain ⟨a, e⟩ := h
  unfold TS.key
  rw [e]
  rfl
/-- two keys are compared as κ says, and nothing is changed by it -/
def LtOk (κ : PyProof.Rows.KeyKind) (kd : SortKind) (prog : Program) (w : World) (A : Around) (s : Shared) : Prop :=
  ∀ (E : Value → Shared → Prop) (x y : Value) (a b : κ.α) (Q : Bool → Shared → Prop), κ.keyOf x = some a → κ.keyOf y = some b → Q (κ.blt a b) s → wpAny (model prog w) A (keyLt' kd x y) Q E s

theorem wpS_lt (L : LtOk κ kd prog w A s) {st : SortSt} {x y : Keyed} {Q : Option Bool → SortSt → Prop} (hk : kindOf st = kd) (hx : Has κ x) (hy : Has κ y) (q : Q (some (κ.blt (key κ x) (key κ y))) st) :
    wpS (model prog w) A E s (lt' x y) Q st := by
  rw [lt'_eq]
  refine wpS_bind (wpS_get ?_)
  rw [hk]
  refine wpS_bind (wpS_lift (wpAny_attempt (L _ x.1 y.1 _ _ _ hx.key hy.key ⟨rfl, ?_⟩)))
  exact wpS_pure q
theorem wpS_elem {st : SortSt} {arr : Array Keyed} {i : Nat} {p : Keyed} {Q : Keyed → SortSt → Prop} (h : arr[i]? = some p) (q : Q p st) : wpS (model prog w) A E s (elem' arr i) Q st := by
  rw [elem'_eq, h]
  exact wpS_pure q

/-- on which side of the key an item lies -/
def side (κ : PyProof.Rows.KeyKind) (left : Bool) (k x : Keyed) : Bool := if left = true then κ.blt (key κ x) (key κ k) else !κ.blt (key κ k) (key κ x)

theorem wpS_gallop (L : LtOk κ kd prog w A s) {st : SortSt} {left : Bool} {k : Keyed} {arr : Array Keyed} {base n hint : Nat} {g : Nat → Keyed} {Q : Option Nat → SortSt → Prop} (hk : kindOf st = kd) (hkey : Has κ k)
    (harr : ∀ i, i < n → arr[base + i]? = some (g i) ∧ Has κ (g i)) (hh : hint < n) (mono : ∀ i j, i ≤ j → j < n → side κ left k (g j) = true → side κ left k (g i) = true)
    (q : ∀ r, r ≤ n → (∀ i, i < r → side κ left k (g i) = true) → (∀ i, r ≤ i → i < n → side κ left k (g i) = false) → Q (some r) st) :
    wpS (model prog w) A E s (gallop' left k arr base n hint) Q st := by
  have hb : ∀ (i : Nat) (Q : Option Bool → SortSt → Prop), i < n → Q (some (side κ left k (g i))) st →
      wpS (model prog w) A E s (do let x ← elem' arr (base + i); if left = true then lt' x k else do let r ← lt' k x; pure (r.map (!·))) Q st := by
    intro i Q hi hq
    obtain ⟨e, hg⟩ := harr i hi
    refine wpS_bind (wpS_elem e ?_)
    unfold side at hq
    cases left with
    | true =>
      simp only [if_true] at hq ⊢
      exact wpS_lt L hk hg hkey hq
    | false =>
      simp only [Bool.false_eq_true, if_false] at hq ⊢
      exact wpS_bind (wpS_lt L hk hkey hg (wpS_pure hq))
  rw [gallop'_eq]
  dsimp only
  refine wpS_bind (hb hint _ hh ?_)
  dsimp only
  cases hf0 : side κ left k (g hint) with
  | true =>
    simp only [if_true]
    refine wpS_bind (wpS_mono (wpS_forRange (I := fun x c st' => st = st' ∧ ∃ l o, c = (none, l, o) ∧ l < o ∧ x < o ∧ hint + l < n ∧ side κ left k (g (hint + l)) = true)
      (Q := fun c st' => st = st' ∧ ∃ l o, c = (none, l, o) ∧ l < o ∧ hint + l < n ∧ side κ left k (g (hint + l)) = true ∧ (n - hint ≤ o ∨ (hint + o < n ∧ side κ left k (g (hint + o)) = false))) ?_ ?_ ⟨rfl, 0, 1, rfl, by omega, by omega, hh, hf0⟩) ?_)
    · rintro x c st' _ hx ⟨rfl, l, o, rfl, hlo, hxo, hln, hfl⟩
      dsimp only
      by_cases hge : o ≥ n - hint
      · rw [if_pos hge]
        exact wpS_pure ⟨rfl, l, o, rfl, hlo, hln, hfl, .inl hge⟩
      · rw [if_neg hge]
        refine wpS_bind (hb _ _ (by omega) ?_)
        dsimp only
        cases hf : side κ left k (g (hint + o)) with
        | true =>
          simp only [Bool.not_true, Bool.false_eq_true, if_false]
          exact wpS_pure ⟨rfl, o, _, rfl, by omega, by omega, by omega, hf⟩
        | false =>
          simp only [Bool.not_false, if_true]
          exact wpS_pure ⟨rfl, l, o, rfl, hlo, hln, hfl, .inr ⟨by omega, hf⟩⟩
    · rintro c st' ⟨rfl, l, o, rfl, hlo, hxo, hln, hfl⟩
      exact ⟨rfl, l, o, rfl, hlo, hln, hfl, .inl (by omega)⟩
    · rintro c st' ⟨rfl, l, o, rfl, hlo, hln, hfl, hor⟩
      dsimp only
      refine wpS_bind (wpS_mono (wpS_forRange (I := fun x c st' => st = st' ∧ ∃ l h, c = (none, l, h) ∧ l ≤ h ∧ h ≤ n ∧ h - l ≤ n - x ∧ (∀ i, i < l → side κ left k (g i) = true) ∧ (∀ i, h ≤ i → i < n → side κ left k (g i) = false))
        (Q := fun c st' => st = st' ∧ ∃ l h, c = (none, l, h) ∧ h ≤ n ∧ (∀ i, i < h → side κ left k (g i) = true) ∧ (∀ i, h ≤ i → i < n → side κ left k (g i) = false)) ?_ ?_ ⟨rfl, _, _, rfl, ?_, ?_, ?_, ?_, ?_⟩) ?_)
      · rintro x c st' _ hx ⟨rfl, l, h, rfl, hlh, hhn, hm, h1, h2⟩
        dsimp only
        by_cases hge : l ≥ h
        · rw [if_pos hge]
          have e : l = h := by omega
          subst e
          exact wpS_pure ⟨rfl, l, l, rfl, hhn, h1, h2⟩
        · rw [if_neg hge]
          refine wpS_bind (hb _ _ (by omega) ?_)
          dsimp only
          cases hf : side κ left k (g (l + (h - l) / 2)) with
          | true =>
            simp only [if_true]
            exact wpS_pure ⟨rfl, _, _, rfl, by omega, hhn, by omega, fun i hi => mono i (l + (h - l) / 2) (by omega) (by omega) hf, h2⟩
          | false =>
            simp only [Bool.false_eq_true, if_false]
            refine wpS_pure ⟨rfl, _, _, rfl, by omega, by omega, by omega, h1, fun i hi hin => ?_⟩
            cases hfi : side κ left k (g i) with
            | false => rfl
            | true => rw [mono _ i hi hin hfi] at hf; cases hf
      · rintro c st' ⟨rfl, l, h, rfl, hlh, hhn, hm, h1, h2⟩
        have e : l = h := by omega
        subst e
        exact ⟨rfl, l, l, rfl, hhn, h1, h2⟩
      · rcases hor with z | z <;> omega
      · omega
      · omega
      · intro i hi
        exact mono i (hint + l) (by omega) hln hfl
      · intro i hi hin
        rcases hor with z | ⟨z1, z2⟩
        · omega
        · cases hfi : side κ left k (g i) with
          | false => rfl
          | true => rw [mono (hint + o) i (by omega) hin hfi] at z2; cases z2
      · rintro c st' ⟨rfl, l, h, rfl, hhn, h1, h2⟩
        exact wpS_pure (q h hhn h1 h2)
  | false =>
    simp only [Bool.false_eq_true, if_false]
    refine wpS_bind (wpS_mono (wpS_forRange (I := fun x c st' => st = st' ∧ ∃ l o, c = (none, l, o) ∧ l < o ∧ x < o ∧ l ≤ hint ∧ side κ left k (g (hint - l)) = false)
      (Q := fun c st' => st = st' ∧ ∃ l o, c = (none, l, o) ∧ l < o ∧ l ≤ hint ∧ side κ left k (g (hint - l)) = false ∧ (hint + 1 ≤ o ∨ (o ≤ hint ∧ side κ left k (g (hint - o)) = true))) ?_ ?_ ⟨rfl, 0, 1, rfl, by omega, by omega, by omega, hf0⟩) ?_)
    · rintro x c st' _ hx ⟨rfl, l, o, rfl, hlo, hxo, hln, hfl⟩
      dsimp only
      by_cases hge : o ≥ hint + 1
      · rw [if_pos hge]
        exact wpS_pure ⟨rfl, l, o, rfl, hlo, hln, hfl, .inl hge⟩
      · rw [if_neg hge]
        refine wpS_bind (hb _ _ (by omega) ?_)
        dsimp only
        cases hf : side κ left k (g (hint - o)) with
        | true =>
          simp only [if_true]
          exact wpS_pure ⟨rfl, l, o, rfl, hlo, hln, hfl, .inr ⟨by omega, hf⟩⟩
        | false =>
          simp only [Bool.false_eq_true, if_false]
          exact wpS_pure ⟨rfl, o, _, rfl, by omega, by omega, by omega, hf⟩
    · rintro c st' ⟨rfl, l, o, rfl, hlo, hxo, hln, hfl⟩
      exact ⟨rfl, l, o, rfl, hlo, hln, hfl, .inl (by omega)⟩
    · rintro c st' ⟨rfl, l, o, rfl, hlo, hln, hfl, hor⟩
      dsimp only
      refine wpS_bind (wpS_mono (wpS_forRange (I := fun x c st' => st = st' ∧ ∃ l h, c = (none, l, h) ∧ l ≤ h ∧ h ≤ n ∧ h - l ≤ n - x ∧ (∀ i, i < l → side κ left k (g i) = true) ∧ (∀ i, h ≤ i → i < n → side κ left k (g i) = false))
        (Q := fun c st' => st = st' ∧ ∃ l h, c = (none, l, h) ∧ h ≤ n ∧ (∀ i, i < h → side κ left k (g i) = true) ∧ (∀ i, h ≤ i → i < n → side κ left k (g i) = false)) ?_ ?_ ⟨rfl, _, _, rfl, ?_, ?_, ?_, ?_, ?_⟩) ?_)
      · rintro x c st' _ hx ⟨rfl, l, h, rfl, hlh, hhn, hm, h1, h2⟩
        dsimp only
        by_cases hge : l ≥ h
        · rw [if_pos hge]
          have e : l = h := by omega
          subst e
          exact wpS_pure ⟨rfl, l, l, rfl, hhn, h1, h2⟩
        · rw [if_neg hge]
          refine wpS_bind (hb _ _ (by omega) ?_)
          dsimp only
          cases hf : side κ left k (g (l + (h - l) / 2)) with
          | true =>
            simp only [if_true]
            exact wpS_pure ⟨rfl, _, _, rfl, by omega, hhn, by omega, fun i hi => mono i (l + (h - l) / 2) (by omega) (by omega) hf, h2⟩
          | false =>
            simp only [Bool.false_eq_true, if_false]
            refine wpS_pure ⟨rfl, _, _, rfl, by omega, by omega, by omega, h1, fun i hi hin => ?_⟩
            cases hfi : side κ left k (g i) with
            | false => rfl
            | true => rw [mono _ i hi hin hfi] at hf; cases hf
      · rintro c st' ⟨rfl, l, h, rfl, hlh, hhn, hm, h1, h2⟩
        have e : l = h := by omega
        subst e
        exact ⟨rfl, l, l, rfl, hhn, h1, h2⟩
      · rcases hor with z | z <;> omega
      · omega
      · omega
      · intro i hi
        rcases hor with z | ⟨z1, z2⟩
        · omega
        · exact mono i (hint - o) (by omega) (by omega) z2
      · intro i hi hin
        cases hfi : side κ left k (g i) with
        | false => rfl
        | true => rw [mono (hint - l) i (by omega) hin hfi] at hfl; cases hfl
      · rintro c st' ⟨rfl, l, h, rfl, hhn, h1, h2⟩
        exact wpS_pure (q h hhn h1 h2)
end
end TS
set_option Elab.async false
set_option linter.all false
set_option maxRecDepth 100000
namespace TS
open PySem PyProof.Rows
theorem setMinGallop'_eq (g : Nat) : setMinGallop' g = modify fun s => SortSt.mk' (kindOf s) (arrOf s) (pendingOf s) g (failedOf s) := rfl
theorem mergeLo'_eq (a b : Array Keyed) : mergeLo' a b = (do
  rule "list.sort.merge-lo"
  let total := a.size + b.size
  let done (out : Array Keyed) (ia ib : Nat) := out ++ a.extract ia a.size ++ b.extract ib b.size
  let lastOfA (out : Array Keyed) (ia ib : Nat) := out ++ b.extract ib b.size ++ a.extract ia a.size
  let mut out : Array Keyed := #[← elem' b 0]
  let mut ia := 0
  let mut ib := 1
  if ib == b.size then return done out ia ib
  if ia + 1 == a.size then return lastOfA out ia ib
  let mut minGallop := gallopOf (← get)
  for _ in [0:total] do
    let mut acount := 0
    let mut bcount := 0
    for _ in [0:total] do
      let some bWins ← lt' (← elem' b ib) (← elem' a ia) | return done out ia ib
      if bWins then
        out := out.push (← elem' b ib); ib := ib + 1; bcount := bcount + 1; acount := 0
        if ib == b.size then return done out ia ib
        if bcount ≥ minGallop then break
      else
        out := out.push (← elem' a ia); ia := ia + 1; acount := acount + 1; bcount := 0
        if ia + 1 == a.size then return lastOfA out ia ib
        if acount ≥ minGallop then break
    rule "list.sort.gallop"
    minGallop := minGallop + 1
    for _ in [0:total] do
      if minGallop > 1 then minGallop := minGallop - 1
      setMinGallop' minGallop
      let some k ← gallop' false (← elem' b ib) a ia (a.size - ia) 0 | return done out ia ib
      acount := k
      if k > 0 then
        out := out ++ a.extract ia (ia + k); ia := ia + k
        if ia + 1 == a.size then return lastOfA out ia ib
        if ia == a.size then return done out ia ib
      out := out.push (← elem' b ib); ib := ib + 1
      if ib == b.size then return done out ia ib
      let some k ← gallop' true (← elem' a ia) b ib (b.size - ib) 0 | return done out ia ib
      bcount := k
      if k > 0 then
        out := out ++ b.extract ib (ib + k); ib := ib + k
        if ib == b.size then return done out ia ib
      out := out.push (← elem' a ia); ia := ia + 1
      if ia + 1 == a.size then return lastOfA out ia ib
      if acount < 7 && bcount < 7 then break
    minGallop := minGallop + 1
    setMinGallop' minGallop
  unsupported "internal:list.sort.merge-bound") := rfl
section
variable {κ : PyProof.Rows.KeyKind}
abbrev Le (κ : PyProof.Rows.KeyKind) (p q : Keyed) : Prop := κ.kle (key κ p) (key κ q)
theorem Le.trans {p q r : Keyed} (h1 : Le κ p q) (h2 : Le κ q r) : Le κ p r := PyProof.Rows.KeyOrd.kle_trans h1 h2
/-- a merge under way: out has what was taken of both -/
structure MW (κ : PyProof.Rows.KeyKind) (a b out : List Keyed) (ia ib : Nat) : Prop where
  la : ia ≤ a.length
  lb : ib ≤ b.length
  perm : out.Perm (a.take ia ++ b.take ib)
  oa : (out ++ a.drop ia).Pairwise (Le κ)
  ob : (out ++ b.drop ib).Pairwise (Le κ)
def Good (κ : PyProof.Rows.KeyKind) (a b r : List Keyed) : Prop := r.Perm (a ++ b) ∧ r.Pairwise (Le κ)
variable {a b out : List Keyed} {ia ib : Nat}
theorem MW.size (h : MW κ a b out ia ib) : out.length = ia + ib := by
  have := h.perm.length_eq
  rw [List.length_append, List.length_take, List.length_take] at this
  have := h.la
  have := h.lb
  omega
theorem MW.done (h : MW κ a b out ia ib) (e : ib = b.length ∨ ia = a.length) : Good κ a b (out ++ a.drop ia ++ b.drop ib) := by
  constructor
  · have p1 : (out ++ a.drop ia ++ b.drop ib).Perm ((a.take ia ++ b.take ib) ++ a.drop ia ++ b.drop ib) := (h.perm.append_right _).append_right _
    refine p1.trans ?_
    have p2 : (a.take ia ++ b.take ib ++ a.drop ia).Perm (a.take ia ++ a.drop ia ++ b.take ib) := by
      rw [List.append_assoc, List.append_assoc]
      exact List.Perm.append_left _ List.perm_append_comm
    refine (p2.append_right _).trans ?_
    rw [List.append_assoc, List.take_append_drop, List.take_append_drop]
  · rcases e with e | e
    · rw [e, List.drop_length, List.append_nil]
      exact h.oa
    · rw [e, List.drop_length, List.append_nil]
      exact h.ob
theorem MW.last (h : MW κ a b out ia ib) (e : ia + 1 = a.length) (hb : ∀ q ∈ b, ∀ p ∈ a.drop ia, Le κ q p) : Good κ a b (out ++ b.drop ib ++ a.drop ia) := by
  constructor
  · have p1 : (out ++ b.drop ib ++ a.drop ia).Perm ((a.take ia ++ b.take ib) ++ b.drop ib ++ a.drop ia) := (h.perm.append_right _).append_right _
    refine p1.trans ?_
    rw [List.append_assoc (a.take ia), List.take_append_drop, List.append_assoc]
    refine (List.Perm.append_left (a.take ia) List.perm_append_comm).trans ?_
    rw [← List.append_assoc, List.take_append_drop]
  · have h1 := List.pairwise_append.mp h.oa
    have h2 := List.pairwise_append.mp h.ob
    refine List.pairwise_append.mpr ⟨h.ob, h1.2.1, fun x hx y hy => ?_⟩
    rcases List.mem_append.mp hx with hx | hx
    · exact h1.2.2 x hx y hy
    · exact hb x (List.mem_of_mem_drop hx) y hy
theorem MW.appB (h : MW κ a b out ia ib) {k : Nat} (hk : ib + k ≤ b.length) (hle : ∀ q ∈ (b.drop ib).take k, ∀ p ∈ a.drop ia, Le κ q p) : MW κ a b (out ++ (b.drop ib).take k) ia (ib + k) := by
  have e1 : b.take (ib + k) = b.take ib ++ (b.drop ib).take k := by rw [List.take_add]
  have e2 : (b.drop ib).take k ++ b.drop (ib + k) = b.drop ib := by rw [← List.drop_drop, List.take_append_drop]
  have h1 := List.pairwise_append.mp h.oa
  have h2 := List.pairwise_append.mp h.ob
  refine ⟨h.la, hk, ?_, ?_, ?_⟩
  · rw [e1, ← List.append_assoc]
    exact h.perm.append_right _
  · rw [List.append_assoc]
    refine List.pairwise_append.mpr ⟨h1.1, List.pairwise_append.mpr ⟨h2.2.1.sublist (List.take_sublist _ _), h1.2.1, fun x hx y hy => hle x hx y hy⟩, fun x hx y hy => ?_⟩
    rcases List.mem_append.mp hy with hy | hy
    · exact h2.2.2 x hx y (List.mem_of_mem_take hy)
    · exact h1.2.2 x hx y hy
  · rw [List.append_assoc, e2]
    exact h.ob
theorem MW.appA (h : MW κ a b out ia ib) {k : Nat} (hk : ia + k ≤ a.length) (hle : ∀ p ∈ (a.drop ia).take k, ∀ q ∈ b.drop ib, Le κ p q) : MW κ a b (out ++ (a.drop ia).take k) (ia + k) ib := by
  have e1 : a.take (ia + k) = a.take ia ++ (a.drop ia).take k := by rw [List.take_add]
  have e2 : (a.drop ia).take k ++ a.drop (ia + k) = a.drop ia := by rw [← List.drop_drop, List.take_append_drop]
  have h1 := List.pairwise_append.mp h.oa
  have h2 := List.pairwise_append.mp h.ob
  refine ⟨hk, h.lb, ?_, ?_, ?_⟩
  · rw [e1]
    refine (h.perm.append_right _).trans ?_
    rw [List.append_assoc, List.append_assoc]
    exact List.Perm.append_left _ List.perm_append_comm
  · rw [List.append_assoc, e2]
    exact h.oa
  · rw [List.append_assoc]
    refine List.pairwise_append.mpr ⟨h2.1, List.pairwise_append.mpr ⟨h1.2.1.sublist (List.take_sublist _ _), h2.2.1, fun x hx y hy => hle x hx y hy⟩, fun x hx y hy => ?_⟩
    rcases List.mem_append.mp hy with hy | hy
    · exact h1.2.2 x hx y (List.mem_of_mem_take hy)
    · exact h2.2.2 x hx y hy
theorem take1 {l : List Keyed} {i : Nat} (h : i < l.length) : (l.drop i).take 1 = [l[i]] := by
  rw [List.drop_eq_getElem_cons h]
  rfl
theorem MW.pushB (h : MW κ a b out ia ib) (hb : ib < b.length) (hle : ∀ p ∈ a.drop ia, Le κ b[ib] p) : MW κ a b (out ++ [b[ib]]) ia (ib + 1) := by
  have := h.appB (k := 1) (by omega) (fun q hq p hp => by rw [take1 hb] at hq; rw [List.mem_singleton.mp hq]; exact hle p hp)
  rw [take1 hb] at this
  exact this
theorem MW.pushA (h : MW κ a b out ia ib) (ha : ia < a.length) (hle : ∀ q ∈ b.drop ib, Le κ a[ia] q) : MW κ a b (out ++ [a[ia]]) (ia + 1) ib := by
  have := h.appA (k := 1) (by omega) (fun q hq p hp => by rw [take1 ha] at hq; rw [List.mem_singleton.mp hq]; exact hle p hp)
  rw [take1 ha] at this
  exact this
theorem le_rest {l : List Keyed} (hs : l.Pairwise (Le κ)) {i : Nat} (h : i < l.length) : ∀ p ∈ l.drop i, Le κ l[i] p := by
  intro p hp
  have hs' : (l.drop i).Pairwise (Le κ) := hs.sublist (List.drop_sublist _ _)
  rw [List.drop_eq_getElem_cons h] at hs' hp
  rcases List.mem_cons.mp hp with e | hp
  · rw [e]; exact PyProof.Rows.KeyOrd.kle_refl _
  · exact (List.pairwise_cons.mp hs').1 p hp
end
end TS
set_option Elab.async false
set_option linter.all false
set_option maxRecDepth 100000
namespace TS
open PySem PyProof.Rows
section
variable {prog : Program} {w : World} {A : Around} {E : Value → Shared → Prop} {s : Shared} {κ : PyProof.Rows.KeyKind} {kd : SortKind}
theorem side_le {left : Bool} {k x : Keyed} (h : side κ left k x = true) : Le κ x k := by
  unfold side at h
  cases left with
  | true => simp only [if_true] at h; exact PyProof.Rows.KeyOrd.kle_of_klt h
  | false =>
    simp only [Bool.false_eq_true, if_false, Bool.not_eq_true'] at h
    exact h
theorem side_ge {left : Bool} {k x : Keyed} (h : side κ left k x = false) : Le κ k x := by
  unfold side at h
  cases left with
  | true => simp only [if_true] at h; exact h
  | false =>
    simp only [Bool.false_eq_true, if_false, Bool.not_eq_false'] at h
    exact PyProof.Rows.KeyOrd.kle_of_klt h
theorem side_mono {left : Bool} {k x y : Keyed} (hxy : Le κ x y) (h : side κ left k y = true) : side κ left k x = true := by
  unfold side at h ⊢
  cases left with
  | true =>
    simp only [if_true] at h ⊢
    exact PyProof.Rows.KeyOrd.klt_of_kle_of_klt hxy h
  | false =>
    simp only [Bool.false_eq_true, if_false, Bool.not_eq_true'] at h ⊢
    cases hb : κ.blt (key κ k) (key κ x) with
    | false => rfl
    | true =>
      have := PyProof.Rows.KeyOrd.klt_of_klt_of_kle (O := κ.toKeyOrd) hb hxy
      unfold PyProof.Rows.KeyOrd.klt at this
      rw [h] at this
      cases this

theorem wpS_gallopL (L : LtOk κ kd prog w A s) {st : SortSt} {left : Bool} {k : Keyed} {arr : Array Keyed} {base n hint : Nat} {seg : List Keyed} {Q : Option Nat → SortSt → Prop} (hk : kindOf st = kd) (hkey : Has κ k)
    (hn : seg.length = n) (harr : ∀ i (h : i < seg.length), arr[base + i]? = some seg[i]) (hhas : ∀ p ∈ seg, Has κ p) (hs : seg.Pairwise (Le κ)) (hh : hint < n)
    (q : ∀ r, r ≤ n → (∀ p ∈ seg.take r, Le κ p k) → (∀ p ∈ seg.drop r, Le κ k p) → Q (some r) st) :
    wpS (model prog w) A E s (gallop' left k arr base n hint) Q st := by
  subst hn
  have get : ∀ i (h : i < seg.length), (seg[i]?).getD k = seg[i] := fun i h => by rw [List.getElem?_eq_getElem h]; rfl
  refine wpS_gallop L (g := fun i => (seg[i]?).getD k) hk hkey (fun i hi => ?_) hh (fun i j hij hj h => ?_) fun r hr h1 h2 => ?_
  · refine ⟨?_, ?_⟩
    · rw [get i hi]; exact harr i hi
    · rw [get i hi]; exact hhas _ (List.getElem_mem hi)
  · have hi : i < seg.length := by omega
    rw [get j hj] at h
    rw [get i hi]
    by_cases e : i = j
    · subst e; exact h
    · exact side_mono (List.pairwise_iff_getElem.mp hs i j hi hj (by omega)) h
  · refine q r hr (fun p hp => ?_) (fun p hp => ?_)
    · obtain ⟨i, hi, e⟩ := List.mem_iff_getElem.mp hp
      rw [List.length_take] at hi
      rw [List.getElem_take] at e
      have := h1 i (by omega)
      rw [get i (by omega), e] at this
      exact side_le this
    · obtain ⟨i, hi, e⟩ := List.mem_iff_getElem.mp hp
      rw [List.length_drop] at hi
      rw [List.getElem_drop] at e
      have := h2 (r + i) (by omega) (by omega)
      rw [get (r + i) (by omega), e] at this
      exact side_ge this

/-- only the gallop's threshold may differ -/
def Eqv (st st' : SortSt) : Prop := kindOf st' = kindOf st ∧ arrOf st' = arrOf st ∧ pendingOf st' = pendingOf st ∧ failedOf st' = failedOf st
theorem Eqv.refl (st : SortSt) : Eqv st st := ⟨rfl, rfl, rfl, rfl⟩
theorem Eqv.trans {a b c : SortSt} (h : Eqv a b) (g : Eqv b c) : Eqv a c := ⟨g.1.trans h.1, g.2.1.trans h.2.1, g.2.2.1.trans h.2.2.1, g.2.2.2.trans h.2.2.2⟩
theorem wpS_setMin {st : SortSt} {g : Nat} {Q : Unit → SortSt → Prop} (q : ∀ st', Eqv st st' → Q () st') : wpS (model prog w) A E s (setMinGallop' g) Q st := by
  rw [setMinGallop'_eq]
  exact wpS_modify (q _ ⟨rfl, rfl, rfl, rfl⟩)
theorem ex_all (a : Array Keyed) (i : Nat) : (a.extract i a.size).toList = a.toList.drop i := by
  rw [Array.toList_extract]
  simp only [List.extract]
  exact List.take_of_length_le (by rw [List.length_drop]; simp)
theorem ex_k (a : Array Keyed) (i k : Nat) : (a.extract i (i + k)).toList = (a.toList.drop i).take k := by
  rw [Array.toList_extract]
  simp [List.extract]
theorem at_list {a : Array Keyed} {i : Nat} (h : i < a.toList.length) : a[i]? = some a.toList[i] := by
  have h' : i < a.size := by simpa using h
  rw [Array.getElem?_eq_getElem h']
  simp
theorem blt_le {x y : Keyed} (h : κ.blt (key κ x) (key κ y) = true) : Le κ x y := PyProof.Rows.KeyOrd.kle_of_klt h
theorem nblt_le {x y : Keyed} (h : κ.blt (key κ x) (key κ y) = false) : Le κ y x := h

def MI (κ : PyProof.Rows.KeyKind) (a b : List Keyed) (out : Array Keyed) (ia ib : Nat) : Prop := MW κ a b out.toList ia ib ∧ ia + 1 < a.length ∧ ib < b.length
theorem MI.size {a b : List Keyed} {out : Array Keyed} {ia ib : Nat} (h : MI κ a b out ia ib) : out.size = ia + ib := by
  have := h.1.size
  simpa using this

set_option maxHeartbeats 4000000 in
theorem wpS_mergeLo (L : LtOk κ kd prog w A s) {st : SortSt} {a b : Array Keyed} {Q : Array Keyed → SortSt → Prop} (hk : kindOf st = kd) (ha : ∀ p ∈ a.toList, Has κ p) (hb : ∀ p ∈ b.toList, Has κ p)
    (sa : a.toList.Pairwise (Le κ)) (sb : b.toList.Pairwise (Le κ)) (na : 0 < a.toList.length) (nb : 0 < b.toList.length) (first : ∀ p ∈ a.toList, Le κ b.toList[0] p)
    (lastA : ∀ q ∈ b.toList, ∀ p ∈ a.toList.drop (a.toList.length - 1), Le κ q p) (q : ∀ r st', Eqv st st' → Good κ a.toList b.toList r.toList → Q r st') : wpS (model prog w) A E s (mergeLo' a b) Q st := by
  have sza : a.toList.length = a.size := by simp
  have szb : b.toList.length = b.size := by simp
  have dn : ∀ {out : Array Keyed} {ia ib : Nat}, MW κ a.toList b.toList out.toList ia ib → (ib = b.size ∨ ia = a.size) → Good κ a.toList b.toList (out ++ a.extract ia a.size ++ b.extract ib b.size).toList := fun h e => by
    rw [Array.toList_append, Array.toList_append, ex_all, ex_all]
    exact h.done (by rw [sza, szb]; exact e)
  have ls : ∀ {out : Array Keyed} {ia ib : Nat}, MW κ a.toList b.toList out.toList ia ib → ia + 1 = a.size → Good κ a.toList b.toList (out ++ b.extract ib b.size ++ a.extract ia a.size).toList := fun {out ia ib} h e => by
    rw [Array.toList_append, Array.toList_append, ex_all, ex_all]
    refine h.last (by rw [sza]; exact e) ?_
    rw [show ia = a.toList.length - 1 by omega]
    exact lastA
  have pB : ∀ {out : Array Keyed} {ia ib : Nat} (h : ib < b.toList.length), MW κ a.toList b.toList out.toList ia ib → (∀ p ∈ a.toList.drop ia, Le κ b.toList[ib] p) → MW κ a.toList b.toList (out.push b.toList[ib]).toList ia (ib + 1) := fun h m hle => by
    rw [Array.toList_push]
    exact m.pushB h hle
  have pA : ∀ {out : Array Keyed} {ia ib : Nat} (h : ia < a.toList.length), MW κ a.toList b.toList out.toList ia ib → (∀ p ∈ b.toList.drop ib, Le κ a.toList[ia] p) → MW κ a.toList b.toList (out.push a.toList[ia]).toList (ia + 1) ib := fun h m hle => by
    rw [Array.toList_push]
    exact m.pushA h hle
  have m0 : MW κ a.toList b.toList (#[b.toList[0]] : Array Keyed).toList 0 1 := by
    have z : MW κ a.toList b.toList [] 0 0 := ⟨Nat.zero_le _, Nat.zero_le _, by simp, by simpa using sa, by simpa using sb⟩
    exact z.pushB nb (by simpa using first)
  rw [mergeLo'_eq]
  dsimp only
  refine wpS_bind (wpS_lift (wpAny_rule ⟨rfl, ?_⟩))
  refine wpS_bind (wpS_elem (at_list nb) ?_)
  by_cases e1 : (1 == b.size) = true
  · rw [if_pos e1]
    exact wpS_pure (q _ _ (Eqv.refl _) (dn m0 (.inl (by simpa using e1))))
  rw [if_neg e1]
  by_cases e2 : (0 + 1 == a.size) = true
  · rw [if_pos e2]
    exact wpS_pure (q _ _ (Eqv.refl _) (ls m0 (by simpa using e2)))
  rw [if_neg e2]
  have e1' : 1 < b.toList.length := by
    have : 1 ≠ b.size := by simpa using e1
    omega
  have e2' : 0 + 1 < a.toList.length := by
    have : 0 + 1 ≠ a.size := by simpa using e2
    omega
  refine wpS_bind (wpS_get ?_)
  refine wpS_bind (wpS_mono (wpS_forRange
    (I := fun x c st' => Eqv st st' ∧ ∃ out ia ib mg, c = (none, out, ia, ib, mg) ∧ MI κ a.toList b.toList out ia ib ∧ x + 1 ≤ out.size)
    (Q := fun c st' => Eqv st st' ∧ ∃ r out ia ib mg, c = (some r, out, ia, ib, mg) ∧ Good κ a.toList b.toList r.toList) ?step ?fin ⟨Eqv.refl _, _, _, _, _, rfl, ⟨m0, e2', e1'⟩, by simp⟩) ?post)
  case fin =>
    rintro c st' ⟨_, out, ia, ib, mg, _, m, hx⟩
    have := m.size
    have := m.2.1
    have := m.2.2
    omega
  case post =>
    rintro c st' ⟨e, r, out, ia, ib, mg, rfl, g⟩
    exact wpS_pure (q r st' e g)
  case step =>
    rintro x c st1 _ hx ⟨ev1, out0, ia0, ib0, mg0, rfl, mi0, hx0⟩
    dsimp only
    have hk1 : kindOf st1 = kd := ev1.1.trans hk
    -- one at a time
    refine wpS_bind (wpS_mono (wpS_forRange
      (I := fun y c st' => st1 = st' ∧ ∃ out ia ib ac bc, c = (none, out, ia, ib, ac, bc) ∧ MI κ a.toList b.toList out ia ib ∧ x + 1 + min y 1 ≤ out.size)
      (Q := fun c st' => st1 = st' ∧ ∃ o out ia ib ac bc, c = (o, out, ia, ib, ac, bc) ∧ ((∃ r, o = some r ∧ Good κ a.toList b.toList r.toList) ∨ (o = none ∧ MI κ a.toList b.toList out ia ib ∧ x + 2 ≤ out.size))) ?s1 ?f1 ⟨rfl, _, _, _, _, _, rfl, mi0, by simpa using hx0⟩) ?p1)
    case f1 =>
      rintro c st' ⟨rfl, out, ia, ib, ac, bc, rfl, m, hy⟩
      exact ⟨rfl, _, _, _, _, _, _, rfl, .inr ⟨rfl, m, by omega⟩⟩
    case s1 =>
      rintro y c st' _ hy ⟨rfl, out, ia, ib, ac, bc, rfl, m, hsz⟩
      dsimp only
      have hia : ia < a.toList.length := by have := m.2.1; omega
      have hibb : ib < b.toList.length := m.2.2
      refine wpS_bind (wpS_elem (at_list m.2.2) (wpS_bind (wpS_elem (at_list hia) (wpS_bind (wpS_lt L hk1 (hb _ (List.getElem_mem _)) (ha _ (List.getElem_mem _)) ?_)))))
      dsimp only
      cases hw : κ.blt (key κ b.toList[ib]) (key κ a.toList[ia]) with
      | true =>
        simp only [if_true]
        refine wpS_bind (wpS_elem (at_list m.2.2) ?_)
        have mB := pB m.2.2 m.1 fun p hp => (blt_le hw).trans (le_rest sa hia p hp)
        by_cases c1 : (ib + 1 == b.size) = true
        · rw [if_pos c1]
          exact wpS_pure ⟨rfl, _, _, _, _, _, _, rfl, .inl ⟨_, rfl, dn mB (.inl (by simpa using c1))⟩⟩
        · rw [if_neg c1]
          have c1' : ib + 1 < b.toList.length := by
            have : ib + 1 ≠ b.size := by simpa using c1
            have := m.2.2
            omega
          have mi : MI κ a.toList b.toList (out.push b.toList[ib]) ia (ib + 1) := ⟨mB, m.2.1, c1'⟩
          have s2 : (out.push b.toList[ib]).size = out.size + 1 := Array.size_push _
          by_cases c2 : bc + 1 ≥ mg0
          · rw [if_pos c2]
            exact wpS_pure ⟨rfl, _, _, _, _, _, _, rfl, .inr ⟨rfl, mi, by omega⟩⟩
          · rw [if_neg c2]
            exact wpS_pure ⟨rfl, _, _, _, _, _, rfl, mi, by omega⟩
      | false =>
        simp only [Bool.false_eq_true, if_false]
        refine wpS_bind (wpS_elem (at_list hia) ?_)
        have mA := pA hia m.1 fun p hp => (nblt_le hw).trans (le_rest sb m.2.2 p hp)
        by_cases c1 : (ia + 1 + 1 == a.size) = true
        · rw [if_pos c1]
          exact wpS_pure ⟨rfl, _, _, _, _, _, _, rfl, .inl ⟨_, rfl, ls mA (by simpa using c1)⟩⟩
        · rw [if_neg c1]
          have c1' : ia + 1 + 1 < a.toList.length := by
            have : ia + 1 + 1 ≠ a.size := by simpa using c1
            have := m.2.1
            omega
          have mi : MI κ a.toList b.toList (out.push a.toList[ia]) (ia + 1) ib := ⟨mA, c1', m.2.2⟩
          have s2 : (out.push a.toList[ia]).size = out.size + 1 := Array.size_push _
          by_cases c2 : ac + 1 ≥ mg0
          · rw [if_pos c2]
            exact wpS_pure ⟨rfl, _, _, _, _, _, _, rfl, .inr ⟨rfl, mi, by omega⟩⟩
          · rw [if_neg c2]
            exact wpS_pure ⟨rfl, _, _, _, _, _, rfl, mi, by omega⟩
    case p1 =>
      rintro c st' ⟨rfl, o, out1, ia1, ib1, ac1, bc1, rfl, hor⟩
      dsimp only
      rcases hor with ⟨r, rfl, g⟩ | ⟨rfl, mi1, hx1⟩
      · exact wpS_pure ⟨ev1, _, _, _, _, _, rfl, g⟩
      dsimp only
      refine wpS_bind (wpS_lift (wpAny_rule ⟨rfl, ?_⟩))
      -- by gallops
      refine wpS_bind (wpS_mono (wpS_forRange
        (I := fun y c st' => Eqv st st' ∧ ∃ out ia ib mg ac bc, c = (none, out, ia, ib, mg, ac, bc) ∧ MI κ a.toList b.toList out ia ib ∧ x + 2 ≤ out.size)
        (Q := fun c st' => Eqv st st' ∧ ∃ o out ia ib mg ac bc, c = (o, out, ia, ib, mg, ac, bc) ∧ ((∃ r, o = some r ∧ Good κ a.toList b.toList r.toList) ∨ (o = none ∧ MI κ a.toList b.toList out ia ib ∧ x + 2 ≤ out.size))) ?s2 ?f2 ⟨ev1, _, _, _, _, _, _, rfl, mi1, hx1⟩) ?p2)
      case f2 =>
        rintro c st' ⟨e, out, ia, ib, mg, ac, bc, rfl, m, hy⟩
        exact ⟨e, _, _, _, _, _, _, _, rfl, .inr ⟨rfl, m, hy⟩⟩
      case p2 =>
        rintro c st' ⟨e, o, out, ia, ib, mg, ac, bc, rfl, hor⟩
        dsimp only
        rcases hor with ⟨r, rfl, g⟩ | ⟨rfl, mi, hx⟩
        · exact wpS_pure ⟨e, _, _, _, _, _, rfl, g⟩
        · dsimp only
          exact wpS_bind (wpS_setMin fun st'' e' => wpS_pure ⟨e.trans e', _, _, _, _, rfl, mi, by omega⟩)
      case s2 =>
        rintro y c st2 _ hy ⟨ev2, out, ia, ib, mg, ac, bc, rfl, m, hsz⟩
        dsimp only
        have hia : ia < a.toList.length := by have := m.2.1; omega
        have hibb : ib < b.toList.length := m.2.2
        -- the rest of a turn, whatever the threshold
        by_cases cm : mg > 1
        · rw [if_pos cm]
          refine wpS_bind (wpS_setMin fun st3 e3 => ?_)
          have ev3 := ev2.trans e3
          have hk3 : kindOf st3 = kd := ev3.1.trans hk
          refine wpS_bind (wpS_elem (at_list m.2.2) ?_)
          refine wpS_bind (wpS_gallopL L (seg := a.toList.drop ia) hk3 (hb _ (List.getElem_mem _)) (by rw [List.length_drop, sza]) (fun i hi => by rw [List.getElem_drop]; exact at_list _) (fun p hp => ha p (List.mem_of_mem_drop hp)) (sa.sublist (List.drop_sublist _ _)) (by omega) fun k hk1' hlo hhi => ?_)
          dsimp only
          by_cases ck : k > 0
          · rw [if_pos ck]
            have mA : MW κ a.toList b.toList (out ++ a.extract ia (ia + k)).toList (ia + k) ib := by
              rw [Array.toList_append, ex_k]
              exact m.1.appA (by omega) fun p hp q' hq' => (hlo p hp).trans (le_rest sb m.2.2 q' hq')
            have hhi' : ∀ p ∈ a.toList.drop (ia + k), Le κ b.toList[ib] p := fun p hp => hhi p (by rw [List.drop_drop]; exact hp)
            by_cases c1 : (ia + k + 1 == a.size) = true
            · rw [if_pos c1]
              exact wpS_pure ⟨ev3, _, _, _, _, _, _, _, rfl, .inl ⟨_, rfl, ls mA (by simpa using c1)⟩⟩
            rw [if_neg c1]
            by_cases c2 : (ia + k == a.size) = true
            · rw [if_pos c2]
              exact wpS_pure ⟨ev3, _, _, _, _, _, _, _, rfl, .inl ⟨_, rfl, dn mA (.inr (by simpa using c2))⟩⟩
            rw [if_neg c2]
            have sz3 : (out ++ a.extract ia (ia + k)).size = out.size + k := by
              rw [Array.size_append, Array.size_extract]
              omega
            have hka : ia + k + 1 < a.toList.length := by
              have h1 : ia + k + 1 ≠ a.size := by simpa using c1
              have h2 : ia + k ≠ a.size := by simpa using c2
              omega
            refine wpS_bind (wpS_elem (at_list m.2.2) ?_)
            have mB := pB (out := out ++ a.extract ia (ia + k)) m.2.2 mA hhi'
            by_cases c3 : (ib + 1 == b.size) = true
            · rw [if_pos c3]
              exact wpS_pure ⟨ev3, _, _, _, _, _, _, _, rfl, .inl ⟨_, rfl, dn mB (.inl (by simpa using c3))⟩⟩
            rw [if_neg c3]
            have hib : ib + 1 < b.toList.length := by
              have h1 : ib + 1 ≠ b.size := by simpa using c3
              have := m.2.2
              omega
            have hia2 : ia + k < a.toList.length := by omega
            refine wpS_bind (wpS_elem (at_list hia2) ?_)
            refine wpS_bind (wpS_gallopL L (seg := b.toList.drop (ib + 1)) hk3 (ha _ (List.getElem_mem _)) (by rw [List.length_drop, szb]) (fun i hi => by rw [List.getElem_drop]; exact at_list _) (fun p hp => hb p (List.mem_of_mem_drop hp)) (sb.sublist (List.drop_sublist _ _)) (by omega) fun j hj hlo2 hhi2 => ?_)
            dsimp only
            have szB : ((out ++ a.extract ia (ia + k)).push b.toList[ib]).size = (out ++ a.extract ia (ia + k)).size + 1 := Array.size_push _
            by_cases cj : j > 0
            · rw [if_pos cj]
              have mC : MW κ a.toList b.toList ((out ++ a.extract ia (ia + k)).push b.toList[ib] ++ b.extract (ib + 1) (ib + 1 + j)).toList (ia + k) (ib + 1 + j) := by
                rw [Array.toList_append, ex_k]
                exact mB.appB (by omega) fun p hp q' hq' => (hlo2 p hp).trans (le_rest sa hia2 q' hq')
              have hhi2' : ∀ p ∈ b.toList.drop (ib + 1 + j), Le κ a.toList[ia + k] p := fun p hp => hhi2 p (by rw [List.drop_drop]; exact hp)
              by_cases c4 : (ib + 1 + j == b.size) = true
              · rw [if_pos c4]
                exact wpS_pure ⟨ev3, _, _, _, _, _, _, _, rfl, .inl ⟨_, rfl, dn mC (.inl (by simpa using c4))⟩⟩
              rw [if_neg c4]
              have hjb : ib + 1 + j < b.toList.length := by
                have h1 : ib + 1 + j ≠ b.size := by simpa using c4
                omega
              have szC : ((out ++ a.extract ia (ia + k)).push b.toList[ib] ++ b.extract (ib + 1) (ib + 1 + j)).size ≥ ((out ++ a.extract ia (ia + k)).push b.toList[ib]).size := by
                rw [Array.size_append]
                omega
              refine wpS_bind (wpS_elem (at_list hia2) ?_)
              have mD := pA (out := (out ++ a.extract ia (ia + k)).push b.toList[ib] ++ b.extract (ib + 1) (ib + 1 + j)) hia2 mC hhi2'
              by_cases c5 : (ia + k + 1 + 1 == a.size) = true
              · rw [if_pos c5]
                exact wpS_pure ⟨ev3, _, _, _, _, _, _, _, rfl, .inl ⟨_, rfl, ls mD (by simpa using c5)⟩⟩
              rw [if_neg c5]
              have hend : ia + k + 1 + 1 < a.toList.length := by
                have h1 : ia + k + 1 + 1 ≠ a.size := by simpa using c5
                omega
              have szD := Array.size_push (xs := (out ++ a.extract ia (ia + k)).push b.toList[ib] ++ b.extract (ib + 1) (ib + 1 + j)) a.toList[ia + k]
              by_cases c6 : (decide (k < 7) && decide (j < 7)) = true
              · rw [if_pos c6]
                exact wpS_pure ⟨ev3, _, _, _, _, _, _, _, rfl, .inr ⟨rfl, ⟨mD, hend, hjb⟩, by omega⟩⟩
              · rw [if_neg c6]
                exact wpS_pure ⟨ev3, _, _, _, _, _, _, rfl, ⟨mD, hend, hjb⟩, by omega⟩
            · rw [if_neg cj]
              have ej : j = 0 := by omega
              have hhi2' : ∀ p ∈ b.toList.drop (ib + 1), Le κ a.toList[ia + k] p := fun p hp => hhi2 p (by rw [ej]; exact hp)
              refine wpS_bind (wpS_elem (at_list hia2) ?_)
              have mD := pA (out := (out ++ a.extract ia (ia + k)).push b.toList[ib]) hia2 mB hhi2'
              by_cases c5 : (ia + k + 1 + 1 == a.size) = true
              · rw [if_pos c5]
                exact wpS_pure ⟨ev3, _, _, _, _, _, _, _, rfl, .inl ⟨_, rfl, ls mD (by simpa using c5)⟩⟩
              rw [if_neg c5]
              have hend : ia + k + 1 + 1 < a.toList.length := by
                have h1 : ia + k + 1 + 1 ≠ a.size := by simpa using c5
                omega
              have szD := Array.size_push (xs := (out ++ a.extract ia (ia + k)).push b.toList[ib]) a.toList[ia + k]
              by_cases c6 : (decide (k < 7) && decide (j < 7)) = true
              · rw [if_pos c6]
                exact wpS_pure ⟨ev3, _, _, _, _, _, _, _, rfl, .inr ⟨rfl, ⟨mD, hend, hib⟩, by omega⟩⟩
              · rw [if_neg c6]
                exact wpS_pure ⟨ev3, _, _, _, _, _, _, rfl, ⟨mD, hend, hib⟩, by omega⟩
          · rw [if_neg ck]
            have ek : k = 0 := by omega
            have hhi' : ∀ p ∈ a.toList.drop ia, Le κ b.toList[ib] p := fun p hp => hhi p (by rw [ek]; exact hp)
            have mA := m.1
            have hka : ia + 1 < a.toList.length := m.2.1
            have sz3 : out.size = out.size := rfl
            refine wpS_bind (wpS_elem (at_list m.2.2) ?_)
            have mB := pB (out := out) m.2.2 mA hhi'
            by_cases c3 : (ib + 1 == b.size) = true
            · rw [if_pos c3]
              exact wpS_pure ⟨ev3, _, _, _, _, _, _, _, rfl, .inl ⟨_, rfl, dn mB (.inl (by simpa using c3))⟩⟩
            rw [if_neg c3]
            have hib : ib + 1 < b.toList.length := by
              have h1 : ib + 1 ≠ b.size := by simpa using c3
              have := m.2.2
              omega
            have hia2 : ia < a.toList.length := by omega
            refine wpS_bind (wpS_elem (at_list hia2) ?_)
            refine wpS_bind (wpS_gallopL L (seg := b.toList.drop (ib + 1)) hk3 (ha _ (List.getElem_mem _)) (by rw [List.length_drop, szb]) (fun i hi => by rw [List.getElem_drop]; exact at_list _) (fun p hp => hb p (List.mem_of_mem_drop hp)) (sb.sublist (List.drop_sublist _ _)) (by omega) fun j hj hlo2 hhi2 => ?_)
            dsimp only
            have szB : ((out).push b.toList[ib]).size = (out).size + 1 := Array.size_push _
            by_cases cj : j > 0
            · rw [if_pos cj]
              have mC : MW κ a.toList b.toList ((out).push b.toList[ib] ++ b.extract (ib + 1) (ib + 1 + j)).toList (ia) (ib + 1 + j) := by
                rw [Array.toList_append, ex_k]
                exact mB.appB (by omega) fun p hp q' hq' => (hlo2 p hp).trans (le_rest sa hia2 q' hq')
              have hhi2' : ∀ p ∈ b.toList.drop (ib + 1 + j), Le κ a.toList[ia] p := fun p hp => hhi2 p (by rw [List.drop_drop]; exact hp)
              by_cases c4 : (ib + 1 + j == b.size) = true
              · rw [if_pos c4]
                exact wpS_pure ⟨ev3, _, _, _, _, _, _, _, rfl, .inl ⟨_, rfl, dn mC (.inl (by simpa using c4))⟩⟩
              rw [if_neg c4]
              have hjb : ib + 1 + j < b.toList.length := by
                have h1 : ib + 1 + j ≠ b.size := by simpa using c4
                omega
              have szC : ((out).push b.toList[ib] ++ b.extract (ib + 1) (ib + 1 + j)).size ≥ ((out).push b.toList[ib]).size := by
                rw [Array.size_append]
                omega
              refine wpS_bind (wpS_elem (at_list hia2) ?_)
              have mD := pA (out := (out).push b.toList[ib] ++ b.extract (ib + 1) (ib + 1 + j)) hia2 mC hhi2'
              by_cases c5 : (ia + 1 + 1 == a.size) = true
              · rw [if_pos c5]
                exact wpS_pure ⟨ev3, _, _, _, _, _, _, _, rfl, .inl ⟨_, rfl, ls mD (by simpa using c5)⟩⟩
              rw [if_neg c5]
              have hend : ia + 1 + 1 < a.toList.length := by
                have h1 : ia + 1 + 1 ≠ a.size := by simpa using c5
                omega
              have szD := Array.size_push (xs := (out).push b.toList[ib] ++ b.extract (ib + 1) (ib + 1 + j)) a.toList[ia]
              by_cases c6 : (decide (k < 7) && decide (j < 7)) = true
              · rw [if_pos c6]
                exact wpS_pure ⟨ev3, _, _, _, _, _, _, _, rfl, .inr ⟨rfl, ⟨mD, hend, hjb⟩, by omega⟩⟩
              · rw [if_neg c6]
                exact wpS_pure ⟨ev3, _, _, _, _, _, _, rfl, ⟨mD, hend, hjb⟩, by omega⟩
            · rw [if_neg cj]
              have ej : j = 0 := by omega
              have hhi2' : ∀ p ∈ b.toList.drop (ib + 1), Le κ a.toList[ia] p := fun p hp => hhi2 p (by rw [ej]; exact hp)
              refine wpS_bind (wpS_elem (at_list hia2) ?_)
              have mD := pA (out := (out).push b.toList[ib]) hia2 mB hhi2'
              by_cases c5 : (ia + 1 + 1 == a.size) = true
              · rw [if_pos c5]
                exact wpS_pure ⟨ev3, _, _, _, _, _, _, _, rfl, .inl ⟨_, rfl, ls mD (by simpa using c5)⟩⟩
              rw [if_neg c5]
              have hend : ia + 1 + 1 < a.toList.length := by
                have h1 : ia + 1 + 1 ≠ a.size := by simpa using c5
                omega
              have szD := Array.size_push (xs := (out).push b.toList[ib]) a.toList[ia]
              by_cases c6 : (decide (k < 7) && decide (j < 7)) = true
              · rw [if_pos c6]
                exact wpS_pure ⟨ev3, _, _, _, _, _, _, _, rfl, .inr ⟨rfl, ⟨mD, hend, hib⟩, by omega⟩⟩
              · rw [if_neg c6]
                exact wpS_pure ⟨ev3, _, _, _, _, _, _, rfl, ⟨mD, hend, hib⟩, by omega⟩
        · rw [if_neg cm]
          refine wpS_bind (wpS_setMin fun st3 e3 => ?_)
          have ev3 := ev2.trans e3
          have hk3 : kindOf st3 = kd := ev3.1.trans hk
          refine wpS_bind (wpS_elem (at_list m.2.2) ?_)
          refine wpS_bind (wpS_gallopL L (seg := a.toList.drop ia) hk3 (hb _ (List.getElem_mem _)) (by rw [List.length_drop, sza]) (fun i hi => by rw [List.getElem_drop]; exact at_list _) (fun p hp => ha p (List.mem_of_mem_drop hp)) (sa.sublist (List.drop_sublist _ _)) (by omega) fun k hk1' hlo hhi => ?_)
          dsimp only
          by_cases ck : k > 0
          · rw [if_pos ck]
            have mA : MW κ a.toList b.toList (out ++ a.extract ia (ia + k)).toList (ia + k) ib := by
              rw [Array.toList_append, ex_k]
              exact m.1.appA (by omega) fun p hp q' hq' => (hlo p hp).trans (le_rest sb m.2.2 q' hq')
            have hhi' : ∀ p ∈ a.toList.drop (ia + k), Le κ b.toList[ib] p := fun p hp => hhi p (by rw [List.drop_drop]; exact hp)
            by_cases c1 : (ia + k + 1 == a.size) = true
            · rw [if_pos c1]
              exact wpS_pure ⟨ev3, _, _, _, _, _, _, _, rfl, .inl ⟨_, rfl, ls mA (by simpa using c1)⟩⟩
            rw [if_neg c1]
            by_cases c2 : (ia + k == a.size) = true
            · rw [if_pos c2]
              exact wpS_pure ⟨ev3, _, _, _, _, _, _, _, rfl, .inl ⟨_, rfl, dn mA (.inr (by simpa using c2))⟩⟩
            rw [if_neg c2]
            have sz3 : (out ++ a.extract ia (ia + k)).size = out.size + k := by
              rw [Array.size_append, Array.size_extract]
              omega
            have hka : ia + k + 1 < a.toList.length := by
              have h1 : ia + k + 1 ≠ a.size := by simpa using c1
              have h2 : ia + k ≠ a.size := by simpa using c2
              omega
            refine wpS_bind (wpS_elem (at_list m.2.2) ?_)
            have mB := pB (out := out ++ a.extract ia (ia + k)) m.2.2 mA hhi'
            by_cases c3 : (ib + 1 == b.size) = true
            · rw [if_pos c3]
              exact wpS_pure ⟨ev3, _, _, _, _, _, _, _, rfl, .inl ⟨_, rfl, dn mB (.inl (by simpa using c3))⟩⟩
            rw [if_neg c3]
            have hib : ib + 1 < b.toList.length := by
              have h1 : ib + 1 ≠ b.size := by simpa using c3
              have := m.2.2
              omega
            have hia2 : ia + k < a.toList.length := by omega
            refine wpS_bind (wpS_elem (at_list hia2) ?_)
            refine wpS_bind (wpS_gallopL L (seg := b.toList.drop (ib + 1)) hk3 (ha _ (List.getElem_mem _)) (by rw [List.length_drop, szb]) (fun i hi => by rw [List.getElem_drop]; exact at_list _) (fun p hp => hb p (List.mem_of_mem_drop hp)) (sb.sublist (List.drop_sublist _ _)) (by omega) fun j hj hlo2 hhi2 => ?_)
            dsimp only
            have szB : ((out ++ a.extract ia (ia + k)).push b.toList[ib]).size = (out ++ a.extract ia (ia + k)).size + 1 := Array.size_push _
            by_cases cj : j > 0
            · rw [if_pos cj]
              have mC : MW κ a.toList b.toList ((out ++ a.extract ia (ia + k)).push b.toList[ib] ++ b.extract (ib + 1) (ib + 1 + j)).toList (ia + k) (ib + 1 + j) := by
                rw [Array.toList_append, ex_k]
                exact mB.appB (by omega) fun p hp q' hq' => (hlo2 p hp).trans (le_rest sa hia2 q' hq')
              have hhi2' : ∀ p ∈ b.toList.drop (ib + 1 + j), Le κ a.toList[ia + k] p := fun p hp => hhi2 p (by rw [List.drop_drop]; exact hp)
              by_cases c4 : (ib + 1 + j == b.size) = true
              · rw [if_pos c4]
                exact wpS_pure ⟨ev3, _, _, _, _, _, _, _, rfl, .inl ⟨_, rfl, dn mC (.inl (by simpa using c4))⟩⟩
              rw [if_neg c4]
              have hjb : ib + 1 + j < b.toList.length := by
                have h1 : ib + 1 + j ≠ b.size := by simpa using c4
                omega
              have szC : ((out ++ a.extract ia (ia + k)).push b.toList[ib] ++ b.extract (ib + 1) (ib + 1 + j)).size ≥ ((out ++ a.extract ia (ia + k)).push b.toList[ib]).size := by
                rw [Array.size_append]
                omega
              refine wpS_bind (wpS_elem (at_list hia2) ?_)
              have mD := pA (out := (out ++ a.extract ia (ia + k)).push b.toList[ib] ++ b.extract (ib + 1) (ib + 1 + j)) hia2 mC hhi2'
              by_cases c5 : (ia + k + 1 + 1 == a.size) = true
              · rw [if_pos c5]
                exact wpS_pure ⟨ev3, _, _, _, _, _, _, _, rfl, .inl ⟨_, rfl, ls mD (by simpa using c5)⟩⟩
              rw [if_neg c5]
              have hend : ia + k + 1 + 1 < a.toList.length := by
                have h1 : ia + k + 1 + 1 ≠ a.size := by simpa using c5
                omega
              have szD := Array.size_push (xs := (out ++ a.extract ia (ia + k)).push b.toList[ib] ++ b.extract (ib + 1) (ib + 1 + j)) a.toList[ia + k]
              by_cases c6 : (decide (k < 7) && decide (j < 7)) = true
              · rw [if_pos c6]
                exact wpS_pure ⟨ev3, _, _, _, _, _, _, _, rfl, .inr ⟨rfl, ⟨mD, hend, hjb⟩, by omega⟩⟩
              · rw [if_neg c6]
                exact wpS_pure ⟨ev3, _, _, _, _, _, _, rfl, ⟨mD, hend, hjb⟩, by omega⟩
            · rw [if_neg cj]
              have ej : j = 0 := by omega
              have hhi2' : ∀ p ∈ b.toList.drop (ib + 1), Le κ a.toList[ia + k] p := fun p hp => hhi2 p (by rw [ej]; exact hp)
              refine wpS_bind (wpS_elem (at_list hia2) ?_)
              have mD := pA (out := (out ++ a.extract ia (ia + k)).push b.toList[ib]) hia2 mB hhi2'
              by_cases c5 : (ia + k + 1 + 1 == a.size) = true
              · rw [if_pos c5]
                exact wpS_pure ⟨ev3, _, _, _, _, _, _, _, rfl, .inl ⟨_, rfl, ls mD (by simpa using c5)⟩⟩
              rw [if_neg c5]
              have hend : ia + k + 1 + 1 < a.toList.length := by
                have h1 : ia + k + 1 + 1 ≠ a.size := by simpa using c5
                omega
              have szD := Array.size_push (xs := (out ++ a.extract ia (ia + k)).push b.toList[ib]) a.toList[ia + k]
              by_cases c6 : (decide (k < 7) && decide (j < 7)) = true
              · rw [if_pos c6]
                exact wpS_pure ⟨ev3, _, _, _, _, _, _, _, rfl, .inr ⟨rfl, ⟨mD, hend, hib⟩, by omega⟩⟩
              · rw [if_neg c6]
                exact wpS_pure ⟨ev3, _, _, _, _, _, _, rfl, ⟨mD, hend, hib⟩, by omega⟩
          · rw [if_neg ck]
            have ek : k = 0 := by omega
            have hhi' : ∀ p ∈ a.toList.drop ia, Le κ b.toList[ib] p := fun p hp => hhi p (by rw [ek]; exact hp)
            have mA := m.1
            have hka : ia + 1 < a.toList.length := m.2.1
            have sz3 : out.size = out.size := rfl
            refine wpS_bind (wpS_elem (at_list m.2.2) ?_)
            have mB := pB (out := out) m.2.2 mA hhi'
            by_cases c3 : (ib + 1 == b.size) = true
            · rw [if_pos c3]
              exact wpS_pure ⟨ev3, _, _, _, _, _, _, _, rfl, .inl ⟨_, rfl, dn mB (.inl (by simpa using c3))⟩⟩
            rw [if_neg c3]
            have hib : ib + 1 < b.toList.length := by
              have h1 : ib + 1 ≠ b.size := by simpa using c3
              have := m.2.2
              omega
            have hia2 : ia < a.toList.length := by omega
            refine wpS_bind (wpS_elem (at_list hia2) ?_)
            refine wpS_bind (wpS_gallopL L (seg := b.toList.drop (ib + 1)) hk3 (ha _ (List.getElem_mem _)) (by rw [List.length_drop, szb]) (fun i hi => by rw [List.getElem_drop]; exact at_list _) (fun p hp => hb p (List.mem_of_mem_drop hp)) (sb.sublist (List.drop_sublist _ _)) (by omega) fun j hj hlo2 hhi2 => ?_)
            dsimp only
            have szB : ((out).push b.toList[ib]).size = (out).size + 1 := Array.size_push _
            by_cases cj : j > 0
            · rw [if_pos cj]
              have mC : MW κ a.toList b.toList ((out).push b.toList[ib] ++ b.extract (ib + 1) (ib + 1 + j)).toList (ia) (ib + 1 + j) := by
                rw [Array.toList_append, ex_k]
                exact mB.appB (by omega) fun p hp q' hq' => (hlo2 p hp).trans (le_rest sa hia2 q' hq')
              have hhi2' : ∀ p ∈ b.toList.drop (ib + 1 + j), Le κ a.toList[ia] p := fun p hp => hhi2 p (by rw [List.drop_drop]; exact hp)
              by_cases c4 : (ib + 1 + j == b.size) = true
              · rw [if_pos c4]
                exact wpS_pure ⟨ev3, _, _, _, _, _, _, _, rfl, .inl ⟨_, rfl, dn mC (.inl (by simpa using c4))⟩⟩
              rw [if_neg c4]
              have hjb : ib + 1 + j < b.toList.length := by
                have h1 : ib + 1 + j ≠ b.size := by simpa using c4
                omega
              have szC : ((out).push b.toList[ib] ++ b.extract (ib + 1) (ib + 1 + j)).size ≥ ((out).push b.toList[ib]).size := by
                rw [Array.size_append]
                omega
              refine wpS_bind (wpS_elem (at_list hia2) ?_)
              have mD := pA (out := (out).push b.toList[ib] ++ b.extract (ib + 1) (ib + 1 + j)) hia2 mC hhi2'
              by_cases c5 : (ia + 1 + 1 == a.size) = true
              · rw [if_pos c5]
                exact wpS_pure ⟨ev3, _, _, _, _, _, _, _, rfl, .inl ⟨_, rfl, ls mD (by simpa using c5)⟩⟩
              rw [if_neg c5]
              have hend : ia + 1 + 1 < a.toList.length := by
                have h1 : ia + 1 + 1 ≠ a.size := by simpa using c5
                omega
              have szD := Array.size_push (xs := (out).push b.toList[ib] ++ b.extract (ib + 1) (ib + 1 + j)) a.toList[ia]
              by_cases c6 : (decide (k < 7) && decide (j < 7)) = true
              · rw [if_pos c6]
                exact wpS_pure ⟨ev3, _, _, _, _, _, _, _, rfl, .inr ⟨rfl, ⟨mD, hend, hjb⟩, by omega⟩⟩
              · rw [if_neg c6]
                exact wpS_pure ⟨ev3, _, _, _, _, _, _, rfl, ⟨mD, hend, hjb⟩, by omega⟩
            · rw [if_neg cj]
              have ej : j = 0 := by omega
              have hhi2' : ∀ p ∈ b.toList.drop (ib + 1), Le κ a.toList[ia] p := fun p hp => hhi2 p (by rw [ej]; exact hp)
              refine wpS_bind (wpS_elem (at_list hia2) ?_)
              have mD := pA (out := (out).push b.toList[ib]) hia2 mB hhi2'
              by_cases c5 : (ia + 1 + 1 == a.size) = true
              · rw [if_pos c5]
                exact wpS_pure ⟨ev3, _, _, _, _, _, _, _, rfl, .inl ⟨_, rfl, ls mD (by simpa using c5)⟩⟩
              rw [if_neg c5]
              have hend : ia + 1 + 1 < a.toList.length := by
                have h1 : ia + 1 + 1 ≠ a.size := by simpa using c5
                omega
              have szD := Array.size_push (xs := (out).push b.toList[ib]) a.toList[ia]
              by_cases c6 : (decide (k < 7) && decide (j < 7)) = true
              · rw [if_pos c6]
                exact wpS_pure ⟨ev3, _, _, _, _, _, _, _, rfl, .inr ⟨rfl, ⟨mD, hend, hib⟩, by omega⟩⟩
              · rw [if_neg c6]
                exact wpS_pure ⟨ev3, _, _, _, _, _, _, rfl, ⟨mD, hend, hib⟩, by omega⟩
end
end TS
set_option Elab.async false
set_option linter.all false
set_option maxRecDepth 100000
namespace TS
open PySem PyProof.Rows
theorem mergeHi'_eq (a b : Array Keyed) : mergeHi' a b = (do
  rule "list.sort.merge-hi"
  let total := a.size + b.size
  let done (out : Array Keyed) (na nb : Nat) := a.extract 0 na ++ b.extract 0 nb ++ out.reverse
  let firstOfB (out : Array Keyed) (na nb : Nat) := b.extract 0 nb ++ a.extract 0 na ++ out.reverse
  let mut na := a.size - 1
  let mut nb := b.size
  let mut out : Array Keyed := #[← elem' a na]
  if na == 0 then return done out na nb
  if nb == 1 then return firstOfB out na nb
  let mut minGallop := gallopOf (← get)
  for _ in [0:total] do
    let mut acount := 0
    let mut bcount := 0
    for _ in [0:total] do
      let some aWins ← lt' (← elem' b (nb - 1)) (← elem' a (na - 1)) | return done out na nb
      if aWins then
        na := na - 1; out := out.push (← elem' a na); acount := acount + 1; bcount := 0
        if na == 0 then return done out na nb
        if acount ≥ minGallop then break
      else
        nb := nb - 1; out := out.push (← elem' b nb); bcount := bcount + 1; acount := 0
        if nb == 1 then return firstOfB out na nb
        if bcount ≥ minGallop then break
    rule "list.sort.gallop"
    minGallop := minGallop + 1
    for _ in [0:total] do
      if minGallop > 1 then minGallop := minGallop - 1
      setMinGallop' minGallop
      let some at_ ← gallop' false (← elem' b (nb - 1)) a 0 na (na - 1) | return done out na nb
      let k := na - at_
      acount := k
      if k > 0 then
        out := out ++ (a.extract at_ na).reverse; na := at_
        if na == 0 then return done out na nb
      nb := nb - 1; out := out.push (← elem' b nb)
      if nb == 1 then return firstOfB out na nb
      let some at_ ← gallop' true (← elem' a (na - 1)) b 0 nb (nb - 1) | return done out na nb
      let k := nb - at_
      bcount := k
      if k > 0 then
        out := out ++ (b.extract at_ nb).reverse; nb := at_
        if nb == 1 then return firstOfB out na nb
        if nb == 0 then return done out na nb
      na := na - 1; out := out.push (← elem' a na)
      if na == 0 then return done out na nb
      if acount < 7 && bcount < 7 then break
    minGallop := minGallop + 1
    setMinGallop' minGallop
  unsupported "internal:list.sort.merge-bound") := rfl
section
variable {κ : PyProof.Rows.KeyKind}
/-- a merge from the end under way: out has what was taken of both -/
structure MH (κ : PyProof.Rows.KeyKind) (a b out : List Keyed) (na nb : Nat) : Prop where
  la : na ≤ a.length
  lb : nb ≤ b.length
  perm : out.Perm (a.drop na ++ b.drop nb)
  oa : (a.take na ++ out).Pairwise (Le κ)
  ob : (b.take nb ++ out).Pairwise (Le κ)
variable {a b out : List Keyed} {na nb : Nat}
theorem MH.size (h : MH κ a b out na nb) : out.length + na + nb = a.length + b.length := by
  have := h.perm.length_eq
  rw [List.length_append, List.length_drop, List.length_drop] at this
  have := h.la
  have := h.lb
  omega
theorem MH.all (h : MH κ a b out na nb) : (a.take na ++ b.take nb ++ out).Perm (a ++ b) := by
  have p1 : (a.take na ++ b.take nb ++ out).Perm (a.take na ++ b.take nb ++ (a.drop na ++ b.drop nb)) := List.Perm.append_left _ h.perm
  refine p1.trans ?_
  have p2 : (b.take nb ++ (a.drop na ++ b.drop nb)).Perm (a.drop na ++ (b.take nb ++ b.drop nb)) := by
    rw [← List.append_assoc, ← List.append_assoc]
    exact List.Perm.append_right _ List.perm_append_comm
  rw [List.append_assoc]
  refine (List.Perm.append_left _ p2).trans ?_
  rw [← List.append_assoc, List.take_append_drop, List.take_append_drop]
theorem MH.done (h : MH κ a b out na nb) (e : na = 0 ∨ nb = 0) : Good κ a b (a.take na ++ b.take nb ++ out) := by
  refine ⟨h.all, ?_⟩
  rcases e with e | e
  · rw [e, List.take_zero, List.nil_append]
    exact h.ob
  · rw [e, List.take_zero, List.append_nil]
    exact h.oa
theorem MH.first (h : MH κ a b out na nb) (hb : ∀ q ∈ b.take nb, ∀ p ∈ a, Le κ q p) : Good κ a b (b.take nb ++ a.take na ++ out) := by
  refine ⟨(List.Perm.append_right _ List.perm_append_comm).trans h.all, ?_⟩
  have h1 := List.pairwise_append.mp h.oa
  have h2 := List.pairwise_append.mp h.ob
  rw [List.append_assoc]
  refine List.pairwise_append.mpr ⟨h2.1, h.oa, fun x hx y hy => ?_⟩
  rcases List.mem_append.mp hy with hy | hy
  · exact hb x hx y (List.mem_of_mem_take hy)
  · exact h2.2.2 x hx y hy
theorem seg_take {l : List Keyed} {i n : Nat} (h : i ≤ n) : l.take n = l.take i ++ (l.take n).drop i := by
  have e : (l.take n).take i = l.take i := by rw [List.take_take, Nat.min_eq_left h]
  rw [← e, List.take_append_drop]
theorem seg_drop' {l : List Keyed} {i n : Nat} (h : i ≤ n) (hn : n ≤ l.length) : l.drop i = (l.take n).drop i ++ l.drop n := by
  rw [← List.drop_append_of_le_length (by rw [List.length_take]; omega), List.take_append_drop]
theorem MH.appA (h : MH κ a b out na nb) {i : Nat} (hi : i ≤ na) (hle : ∀ p ∈ (a.take na).drop i, ∀ q ∈ b.take nb, Le κ q p) : MH κ a b ((a.take na).drop i ++ out) i nb := by
  have h1 := List.pairwise_append.mp h.oa
  have h2 := List.pairwise_append.mp h.ob
  refine ⟨Nat.le_trans hi h.la, h.lb, ?_, ?_, ?_⟩
  · refine (List.Perm.append_left _ h.perm).trans ?_
    rw [← List.append_assoc, ← seg_drop' hi h.la]
  · rw [← List.append_assoc, ← seg_take hi]
    exact h.oa
  · refine List.pairwise_append.mpr ⟨h2.1, List.pairwise_append.mpr ⟨h1.1.sublist (List.drop_sublist _ _), h2.2.1, fun x hx y hy => h1.2.2 x (List.mem_of_mem_drop hx) y hy⟩, fun x hx y hy => ?_⟩
    rcases List.mem_append.mp hy with hy | hy
    · exact hle y hy x hx
    · exact h2.2.2 x hx y hy
theorem MH.appB (h : MH κ a b out na nb) {i : Nat} (hi : i ≤ nb) (hle : ∀ p ∈ (b.take nb).drop i, ∀ q ∈ a.take na, Le κ q p) : MH κ a b ((b.take nb).drop i ++ out) na i := by
  have h1 := List.pairwise_append.mp h.oa
  have h2 := List.pairwise_append.mp h.ob
  refine ⟨h.la, Nat.le_trans hi h.lb, ?_, ?_, ?_⟩
  · refine (List.Perm.append_left _ h.perm).trans ?_
    rw [seg_drop' (l := b) hi h.lb, ← List.append_assoc, ← List.append_assoc]
    exact List.Perm.append_right _ List.perm_append_comm
  · refine List.pairwise_append.mpr ⟨h1.1, List.pairwise_append.mpr ⟨h2.1.sublist (List.drop_sublist _ _), h1.2.1, fun x hx y hy => h2.2.2 x (List.mem_of_mem_drop hx) y hy⟩, fun x hx y hy => ?_⟩
    rcases List.mem_append.mp hy with hy | hy
    · exact hle y hy x hx
    · exact h1.2.2 x hx y hy
  · rw [← List.append_assoc, ← seg_take hi]
    exact h.ob
theorem last1 {l : List Keyed} {n : Nat} (h0 : 0 < n) (h : n ≤ l.length) : (l.take n).drop (n - 1) = [l[n - 1]'(by omega)] := by
  have hn : n - 1 < (l.take n).length := by rw [List.length_take]; omega
  rw [List.drop_eq_getElem_cons hn, List.drop_of_length_le (by rw [List.length_take]; omega), List.getElem_take]
theorem MH.pushA (h : MH κ a b out na nb) (h0 : 0 < na) (hle : ∀ q ∈ b.take nb, Le κ q (a[na - 1]'(by have := h.la; omega))) : MH κ a b ((a[na - 1]'(by have := h.la; omega)) :: out) (na - 1) nb := by
  have := h.appA (i := na - 1) (by omega) (fun p hp q hq => by rw [last1 h0 h.la] at hp; rw [List.mem_singleton.mp hp]; exact hle q hq)
  rw [last1 h0 h.la] at this
  exact this
theorem MH.pushB (h : MH κ a b out na nb) (h0 : 0 < nb) (hle : ∀ q ∈ a.take na, Le κ q (b[nb - 1]'(by have := h.lb; omega))) : MH κ a b ((b[nb - 1]'(by have := h.lb; omega)) :: out) na (nb - 1) := by
  have := h.appB (i := nb - 1) (by omega) (fun p hp q hq => by rw [last1 h0 h.lb] at hp; rw [List.mem_singleton.mp hp]; exact hle q hq)
  rw [last1 h0 h.lb] at this
  exact this
theorem le_upto {l : List Keyed} (hs : l.Pairwise (Le κ)) {n : Nat} (h0 : 0 < n) (h : n ≤ l.length) : ∀ p ∈ l.take n, Le κ p (l[n - 1]'(by omega)) := by
  intro p hp
  obtain ⟨i, hi, e⟩ := List.mem_iff_getElem.mp hp
  rw [List.length_take] at hi
  rw [List.getElem_take] at e
  by_cases hin : i = n - 1
  · subst hin; rw [← e]; exact PyProof.Rows.KeyOrd.kle_refl _
  · rw [← e]
    exact List.pairwise_iff_getElem.mp hs i (n - 1) (by omega) (by omega) (by omega)
end
section
variable {prog : Program} {w : World} {A : Around} {E : Value → Shared → Prop} {s : Shared} {κ : PyProof.Rows.KeyKind} {kd : SortKind}
theorem ex_to (a : Array Keyed) (n : Nat) : (a.extract 0 n).toList = a.toList.take n := by
  rw [Array.toList_extract]
  simp [List.extract]
theorem ex_seg (a : Array Keyed) (i n : Nat) : (a.extract i n).toList = (a.toList.take n).drop i := by
  rw [Array.toList_extract]
  simp only [List.extract]
  rw [List.drop_take]
def MJ (κ : PyProof.Rows.KeyKind) (a b : List Keyed) (out : Array Keyed) (na nb : Nat) : Prop := MH κ a b out.toList.reverse na nb ∧ 0 < na ∧ 1 < nb
theorem MJ.size {a b : List Keyed} {out : Array Keyed} {na nb : Nat} (h : MJ κ a b out na nb) : out.size + na + nb = a.length + b.length := by
  have := h.1.size
  simpa using this

set_option maxHeartbeats 4000000 in
theorem wpS_mergeHi (L : LtOk κ kd prog w A s) {st : SortSt} {a b : Array Keyed} {Q : Array Keyed → SortSt → Prop} (hk : kindOf st = kd) (ha : ∀ p ∈ a.toList, Has κ p) (hb : ∀ p ∈ b.toList, Has κ p)
    (sa : a.toList.Pairwise (Le κ)) (sb : b.toList.Pairwise (Le κ)) (na : 0 < a.toList.length) (nb : 0 < b.toList.length) (first : ∀ p ∈ a.toList, Le κ b.toList[0] p)
    (lastA : ∀ q ∈ b.toList, Le κ q (a.toList[a.toList.length - 1]'(by omega))) (q : ∀ r st', Eqv st st' → Good κ a.toList b.toList r.toList → Q r st') : wpS (model prog w) A E s (mergeHi' a b) Q st := by
  have sza : a.toList.length = a.size := by simp
  have szb : b.toList.length = b.size := by simp
  have dn : ∀ {out : Array Keyed} {na nb : Nat}, MH κ a.toList b.toList out.toList.reverse na nb → (na = 0 ∨ nb = 0) → Good κ a.toList b.toList (a.extract 0 na ++ b.extract 0 nb ++ out.reverse).toList := fun h e => by
    rw [Array.toList_append, Array.toList_append, ex_to, ex_to, Array.toList_reverse]
    exact h.done e
  have fs : ∀ {out : Array Keyed} {na nb : Nat}, MH κ a.toList b.toList out.toList.reverse na nb → nb = 1 → Good κ a.toList b.toList (b.extract 0 nb ++ a.extract 0 na ++ out.reverse).toList := fun {out na' nb'} h e => by
    rw [Array.toList_append, Array.toList_append, ex_to, ex_to, Array.toList_reverse]
    refine h.first fun x hx p hp => ?_
    rw [e] at hx
    have e1 : b.toList.take 1 = [b.toList[0]] := by
      have := take1 (l := b.toList) (i := 0) nb
      simpa using this
    rw [e1] at hx
    rw [List.mem_singleton.mp hx]
    exact first p hp
  have pB : ∀ {out : Array Keyed} {na nb : Nat} (h0 : 0 < nb) (h : nb ≤ b.toList.length), MH κ a.toList b.toList out.toList.reverse na nb → (∀ p ∈ a.toList.take na, Le κ p (b.toList[nb - 1]'(by omega))) → MH κ a.toList b.toList (out.push (b.toList[nb - 1]'(by omega))).toList.reverse na (nb - 1) := fun h0 h m hle => by
    rw [Array.toList_push, List.reverse_append]
    exact m.pushB h0 hle
  have pA : ∀ {out : Array Keyed} {na nb : Nat} (h0 : 0 < na) (h : na ≤ a.toList.length), MH κ a.toList b.toList out.toList.reverse na nb → (∀ p ∈ b.toList.take nb, Le κ p (a.toList[na - 1]'(by omega))) → MH κ a.toList b.toList (out.push (a.toList[na - 1]'(by omega))).toList.reverse (na - 1) nb := fun h0 h m hle => by
    rw [Array.toList_push, List.reverse_append]
    exact m.pushA h0 hle
  have m0 : MH κ a.toList b.toList (#[a.toList[a.toList.length - 1]'(by omega)] : Array Keyed).toList.reverse (a.toList.length - 1) b.toList.length := by
    have z : MH κ a.toList b.toList [] a.toList.length b.toList.length := ⟨Nat.le_refl _, Nat.le_refl _, by simp, by rw [List.take_length, List.append_nil]; exact sa, by rw [List.take_length, List.append_nil]; exact sb⟩
    exact z.pushA na (by rw [List.take_length]; exact lastA)
  rw [mergeHi'_eq]
  dsimp only
  refine wpS_bind (wpS_lift (wpAny_rule ⟨rfl, ?_⟩))
  rw [← sza, ← szb]
  refine wpS_bind (wpS_elem (at_list (by omega)) ?_)
  by_cases e1 : (a.toList.length - 1 == 0) = true
  · rw [if_pos e1]
    exact wpS_pure (q _ _ (Eqv.refl _) (dn m0 (.inl (by simpa using e1))))
  rw [if_neg e1]
  by_cases e2 : (b.toList.length == 1) = true
  · rw [if_pos e2]
    exact wpS_pure (q _ _ (Eqv.refl _) (fs m0 (by simpa using e2)))
  rw [if_neg e2]
  have e1' : 0 < a.toList.length - 1 := by
    have : a.toList.length - 1 ≠ 0 := by simpa using e1
    omega
  have e2' : 1 < b.toList.length := by
    have : b.toList.length ≠ 1 := by simpa using e2
    omega
  refine wpS_bind (wpS_get ?_)
  refine wpS_bind (wpS_mono (wpS_forRange
    (I := fun x c st' => Eqv st st' ∧ ∃ out na nb mg, c = (none, na, nb, out, mg) ∧ MJ κ a.toList b.toList out na nb ∧ x + 1 ≤ out.size)
    (Q := fun c st' => Eqv st st' ∧ ∃ (r out : Array Keyed) (na nb mg : Nat), c = (some r, na, nb, out, mg) ∧ Good κ a.toList b.toList r.toList) ?step ?fin ⟨Eqv.refl _, _, _, _, _, rfl, ⟨m0, e1', e2'⟩, Nat.le_refl 1⟩) ?post)
  case fin =>
    rintro c st' ⟨_, out, na, nb, mg, _, m, hx⟩
    have := m.size
    have := m.2.1
    have := m.2.2
    omega
  case post =>
    rintro c st' ⟨e, r, out, na, nb, mg, rfl, g⟩
    exact wpS_pure (q r st' e g)
  case step =>
    rintro x c st1 _ hx ⟨ev1, out0, na0, nb0, mg0, rfl, mi0, hx0⟩
    dsimp only
    have hk1 : kindOf st1 = kd := ev1.1.trans hk
    refine wpS_bind (wpS_mono (wpS_forRange
      (I := fun y c st' => st1 = st' ∧ ∃ out na nb ac bc, c = (none, na, nb, out, ac, bc) ∧ MJ κ a.toList b.toList out na nb ∧ x + 1 + min y 1 ≤ out.size)
      (Q := fun c st' => st1 = st' ∧ ∃ o out na nb ac bc, c = (o, na, nb, out, ac, bc) ∧ ((∃ r : Array Keyed, o = some r ∧ Good κ a.toList b.toList r.toList) ∨ (o = none ∧ MJ κ a.toList b.toList out na nb ∧ x + 2 ≤ out.size))) ?s1 ?f1 ⟨rfl, _, _, _, _, _, rfl, mi0, by simpa using hx0⟩) ?p1)
    case f1 =>
      rintro c st' ⟨rfl, out, na, nb, ac, bc, rfl, m, hy⟩
      exact ⟨rfl, _, _, _, _, _, _, rfl, .inr ⟨rfl, m, by omega⟩⟩
    case s1 =>
      rintro y c st' _ hy ⟨rfl, out, na, nb, ac, bc, rfl, m, hsz⟩
      dsimp only
      have hla := m.1.la
      have hlb := m.1.lb
      have h0a := m.2.1
      have h1b := m.2.2
      have hia : na - 1 < a.toList.length := by omega
      have hib : nb - 1 < b.toList.length := by omega
      refine wpS_bind (wpS_elem (at_list hib) (wpS_bind (wpS_elem (at_list hia) (wpS_bind (wpS_lt L hk1 (hb _ (List.getElem_mem _)) (ha _ (List.getElem_mem _)) ?_)))))
      dsimp only
      cases hw : κ.blt (key κ b.toList[nb - 1]) (key κ a.toList[na - 1]) with
      | true =>
        simp only [if_true]
        refine wpS_bind (wpS_elem (at_list hia) ?_)
        have mA := pA h0a hla m.1 fun p hp => (le_upto sb (by omega) hlb p hp).trans (blt_le hw)
        by_cases c1 : (na - 1 == 0) = true
        · rw [if_pos c1]
          exact wpS_pure ⟨rfl, _, _, _, _, _, _, rfl, .inl ⟨_, rfl, dn mA (.inl (by simpa using c1))⟩⟩
        · rw [if_neg c1]
          have c1' : 0 < na - 1 := by
            have : na - 1 ≠ 0 := by simpa using c1
            omega
          have mi : MJ κ a.toList b.toList (out.push a.toList[na - 1]) (na - 1) nb := ⟨mA, c1', h1b⟩
          have s2 : (out.push a.toList[na - 1]).size = out.size + 1 := Array.size_push _
          by_cases c2 : ac + 1 ≥ mg0
          · rw [if_pos c2]
            exact wpS_pure ⟨rfl, _, _, _, _, _, _, rfl, .inr ⟨rfl, mi, by omega⟩⟩
          · rw [if_neg c2]
            exact wpS_pure ⟨rfl, _, _, _, _, _, rfl, mi, by omega⟩
      | false =>
        simp only [Bool.false_eq_true, if_false]
        refine wpS_bind (wpS_elem (at_list hib) ?_)
        have mB := pB (by omega) hlb m.1 fun p hp => (le_upto sa h0a hla p hp).trans (nblt_le hw)
        by_cases c1 : (nb - 1 == 1) = true
        · rw [if_pos c1]
          exact wpS_pure ⟨rfl, _, _, _, _, _, _, rfl, .inl ⟨_, rfl, fs mB (by simpa using c1)⟩⟩
        · rw [if_neg c1]
          have c1' : 1 < nb - 1 := by
            have : nb - 1 ≠ 1 := by simpa using c1
            omega
          have mi : MJ κ a.toList b.toList (out.push b.toList[nb - 1]) na (nb - 1) := ⟨mB, h0a, c1'⟩
          have s2 : (out.push b.toList[nb - 1]).size = out.size + 1 := Array.size_push _
          by_cases c2 : bc + 1 ≥ mg0
          · rw [if_pos c2]
            exact wpS_pure ⟨rfl, _, _, _, _, _, _, rfl, .inr ⟨rfl, mi, by omega⟩⟩
          · rw [if_neg c2]
            exact wpS_pure ⟨rfl, _, _, _, _, _, rfl, mi, by omega⟩
    case p1 =>
      rintro c st' ⟨rfl, o, out1, na1, nb1, ac1, bc1, rfl, hor⟩
      dsimp only
      rcases hor with ⟨r, rfl, g⟩ | ⟨rfl, mi1, hx1⟩
      · exact wpS_pure ⟨ev1, _, _, _, _, _, rfl, g⟩
      dsimp only
      refine wpS_bind (wpS_lift (wpAny_rule ⟨rfl, ?_⟩))
      refine wpS_bind (wpS_mono (wpS_forRange
        (I := fun y c st' => Eqv st st' ∧ ∃ out na nb mg ac bc, c = (none, na, nb, out, mg, ac, bc) ∧ MJ κ a.toList b.toList out na nb ∧ x + 2 ≤ out.size)
        (Q := fun c st' => Eqv st st' ∧ ∃ o out na nb mg ac bc, c = (o, na, nb, out, mg, ac, bc) ∧ ((∃ r : Array Keyed, o = some r ∧ Good κ a.toList b.toList r.toList) ∨ (o = none ∧ MJ κ a.toList b.toList out na nb ∧ x + 2 ≤ out.size))) ?s2 ?f2 ⟨ev1, _, _, _, _, _, _, rfl, mi1, hx1⟩) ?p2)
      case f2 =>
        rintro c st' ⟨e, out, na, nb, mg, ac, bc, rfl, m, hy⟩
        exact ⟨e, _, _, _, _, _, _, _, rfl, .inr ⟨rfl, m, hy⟩⟩
      case p2 =>
        rintro c st' ⟨e, o, out, na, nb, mg, ac, bc, rfl, hor⟩
        dsimp only
        rcases hor with ⟨r, rfl, g⟩ | ⟨rfl, mi, hx⟩
        · exact wpS_pure ⟨e, _, _, _, _, _, rfl, g⟩
        · dsimp only
          exact wpS_bind (wpS_setMin fun st'' e' => wpS_pure ⟨e.trans e', _, _, _, _, rfl, mi, by omega⟩)
      case s2 =>
        rintro y c st2 _ hy ⟨ev2, out, na, nb, mg, ac, bc, rfl, m, hsz⟩
        dsimp only
        have hla := m.1.la
        have hlb := m.1.lb
        have h0a := m.2.1
        have h1b := m.2.2
        have hib : nb - 1 < b.toList.length := by omega
        by_cases cm : mg > 1
        · rw [if_pos cm]
          refine wpS_bind (wpS_setMin fun st3 e3 => ?_)
          have ev3 := ev2.trans e3
          have hk3 : kindOf st3 = kd := ev3.1.trans hk
          refine wpS_bind (wpS_elem (at_list hib) ?_)
          refine wpS_bind (wpS_gallopL L (seg := a.toList.take na) hk3 (hb _ (List.getElem_mem _)) (by rw [List.length_take]; omega) (fun i hi => by rw [List.getElem_take, Nat.zero_add]; exact at_list _) (fun p hp => ha p (List.mem_of_mem_take hp)) (sa.sublist (List.take_sublist _ _)) (by omega) fun i hi hlo hhi => ?_)
          dsimp only
          have hlo' : ∀ p ∈ a.toList.take i, Le κ p b.toList[nb - 1] := fun p hp => hlo p (by rw [List.take_take, Nat.min_eq_left hi]; exact hp)
          by_cases ck : na - i > 0
          · rw [if_pos ck]
            have mA : MH κ a.toList b.toList (out ++ (a.extract i na).reverse).toList.reverse i nb := by
              rw [Array.toList_append, Array.toList_reverse, List.reverse_append, List.reverse_reverse, ex_seg]
              exact m.1.appA hi fun p hp q' hq' => (le_upto sb (by omega) hlb q' hq').trans (hhi p hp)
            by_cases c1 : (i == 0) = true
            · rw [if_pos c1]
              exact wpS_pure ⟨ev3, _, _, _, _, _, _, _, rfl, .inl ⟨_, rfl, dn mA (.inl (by simpa using c1))⟩⟩
            rw [if_neg c1]
            have h0i : 0 < i := by
              have : i ≠ 0 := by simpa using c1
              omega
            have hli : i ≤ a.toList.length := by omega
            have sz3 : (out ++ (a.extract i na).reverse).size ≥ out.size := by
              rw [Array.size_append]
              omega
            refine wpS_bind (wpS_elem (at_list hib) ?_)
            have mB := pB (out := out ++ (a.extract i na).reverse) (by omega) hlb mA hlo'
            by_cases c3 : (nb - 1 == 1) = true
            · rw [if_pos c3]
              exact wpS_pure ⟨ev3, _, _, _, _, _, _, _, rfl, .inl ⟨_, rfl, fs mB (by simpa using c3)⟩⟩
            rw [if_neg c3]
            have hnb : 1 < nb - 1 := by
              have h1 : nb - 1 ≠ 1 := by simpa using c3
              omega
            have hia2 : i - 1 < a.toList.length := by omega
            refine wpS_bind (wpS_elem (at_list hia2) ?_)
            refine wpS_bind (wpS_gallopL L (seg := b.toList.take (nb - 1)) hk3 (ha _ (List.getElem_mem _)) (by rw [List.length_take]; omega) (fun i hi => by rw [List.getElem_take, Nat.zero_add]; exact at_list _) (fun p hp => hb p (List.mem_of_mem_take hp)) (sb.sublist (List.take_sublist _ _)) (by omega) fun j hj hlo2 hhi2 => ?_)
            dsimp only
            have szB : ((out ++ (a.extract i na).reverse).push b.toList[nb - 1]).size = (out ++ (a.extract i na).reverse).size + 1 := Array.size_push _
            have hlo2' : ∀ p ∈ b.toList.take j, Le κ p a.toList[i - 1] := fun p hp => hlo2 p (by rw [List.take_take, Nat.min_eq_left hj]; exact hp)
            by_cases cj : nb - 1 - j > 0
            · rw [if_pos cj]
              have mC : MH κ a.toList b.toList ((out ++ (a.extract i na).reverse).push b.toList[nb - 1] ++ (b.extract j (nb - 1)).reverse).toList.reverse (i) j := by
                rw [Array.toList_append, Array.toList_reverse, List.reverse_append, List.reverse_reverse, ex_seg]
                exact mB.appB hj fun p hp q' hq' => (le_upto sa h0i hli q' hq').trans (hhi2 p hp)
              by_cases c4 : (j == 1) = true
              · rw [if_pos c4]
                exact wpS_pure ⟨ev3, _, _, _, _, _, _, _, rfl, .inl ⟨_, rfl, fs mC (by simpa using c4)⟩⟩
              rw [if_neg c4]
              by_cases c4' : (j == 0) = true
              · rw [if_pos c4']
                exact wpS_pure ⟨ev3, _, _, _, _, _, _, _, rfl, .inl ⟨_, rfl, dn mC (.inr (by simpa using c4'))⟩⟩
              rw [if_neg c4']
              have hj1 : 1 < j := by
                have h1 : j ≠ 1 := by simpa using c4
                have h2 : j ≠ 0 := by simpa using c4'
                omega
              have szC : ((out ++ (a.extract i na).reverse).push b.toList[nb - 1] ++ (b.extract j (nb - 1)).reverse).size ≥ ((out ++ (a.extract i na).reverse).push b.toList[nb - 1]).size := by
                rw [Array.size_append]
                omega
              refine wpS_bind (wpS_elem (at_list hia2) ?_)
              have mD := pA (out := (out ++ (a.extract i na).reverse).push b.toList[nb - 1] ++ (b.extract j (nb - 1)).reverse) h0i hli mC hlo2'
              by_cases c5 : (i - 1 == 0) = true
              · rw [if_pos c5]
                exact wpS_pure ⟨ev3, _, _, _, _, _, _, _, rfl, .inl ⟨_, rfl, dn mD (.inl (by simpa using c5))⟩⟩
              rw [if_neg c5]
              have hend : 0 < i - 1 := by
                have h1 : i - 1 ≠ 0 := by simpa using c5
                omega
              have szD := Array.size_push (xs := (out ++ (a.extract i na).reverse).push b.toList[nb - 1] ++ (b.extract j (nb - 1)).reverse) a.toList[i - 1]
              by_cases c6 : (decide (na - i < 7) && decide (nb - 1 - j < 7)) = true
              · rw [if_pos c6]
                exact wpS_pure ⟨ev3, _, _, _, _, _, _, _, rfl, .inr ⟨rfl, ⟨mD, hend, hj1⟩, by omega⟩⟩
              · rw [if_neg c6]
                exact wpS_pure ⟨ev3, _, _, _, _, _, _, rfl, ⟨mD, hend, hj1⟩, by omega⟩
            · rw [if_neg cj]
              have ej : j = nb - 1 := by omega
              rw [ej] at hlo2'
              refine wpS_bind (wpS_elem (at_list hia2) ?_)
              have mD := pA (out := (out ++ (a.extract i na).reverse).push b.toList[nb - 1]) h0i hli mB hlo2'
              by_cases c5 : (i - 1 == 0) = true
              · rw [if_pos c5]
                exact wpS_pure ⟨ev3, _, _, _, _, _, _, _, rfl, .inl ⟨_, rfl, dn mD (.inl (by simpa using c5))⟩⟩
              rw [if_neg c5]
              have hend : 0 < i - 1 := by
                have h1 : i - 1 ≠ 0 := by simpa using c5
                omega
              have szD := Array.size_push (xs := (out ++ (a.extract i na).reverse).push b.toList[nb - 1]) a.toList[i - 1]
              by_cases c6 : (decide (na - i < 7) && decide (nb - 1 - j < 7)) = true
              · rw [if_pos c6]
                exact wpS_pure ⟨ev3, _, _, _, _, _, _, _, rfl, .inr ⟨rfl, ⟨mD, hend, hnb⟩, by omega⟩⟩
              · rw [if_neg c6]
                exact wpS_pure ⟨ev3, _, _, _, _, _, _, rfl, ⟨mD, hend, hnb⟩, by omega⟩
          · rw [if_neg ck]
            have ei : i = na := by omega
            have h0i : 0 < na := h0a
            have hli : na ≤ a.toList.length := hla
            have mA := m.1
            rw [ei] at hlo'
            have sz3 : out.size ≥ out.size := Nat.le_refl _
            refine wpS_bind (wpS_elem (at_list hib) ?_)
            have mB := pB (out := out) (by omega) hlb mA hlo'
            by_cases c3 : (nb - 1 == 1) = true
            · rw [if_pos c3]
              exact wpS_pure ⟨ev3, _, _, _, _, _, _, _, rfl, .inl ⟨_, rfl, fs mB (by simpa using c3)⟩⟩
            rw [if_neg c3]
            have hnb : 1 < nb - 1 := by
              have h1 : nb - 1 ≠ 1 := by simpa using c3
              omega
            have hia2 : na - 1 < a.toList.length := by omega
            refine wpS_bind (wpS_elem (at_list hia2) ?_)
            refine wpS_bind (wpS_gallopL L (seg := b.toList.take (nb - 1)) hk3 (ha _ (List.getElem_mem _)) (by rw [List.length_take]; omega) (fun i hi => by rw [List.getElem_take, Nat.zero_add]; exact at_list _) (fun p hp => hb p (List.mem_of_mem_take hp)) (sb.sublist (List.take_sublist _ _)) (by omega) fun j hj hlo2 hhi2 => ?_)
            dsimp only
            have szB : ((out).push b.toList[nb - 1]).size = (out).size + 1 := Array.size_push _
            have hlo2' : ∀ p ∈ b.toList.take j, Le κ p a.toList[na - 1] := fun p hp => hlo2 p (by rw [List.take_take, Nat.min_eq_left hj]; exact hp)
            by_cases cj : nb - 1 - j > 0
            · rw [if_pos cj]
              have mC : MH κ a.toList b.toList ((out).push b.toList[nb - 1] ++ (b.extract j (nb - 1)).reverse).toList.reverse (na) j := by
                rw [Array.toList_append, Array.toList_reverse, List.reverse_append, List.reverse_reverse, ex_seg]
                exact mB.appB hj fun p hp q' hq' => (le_upto sa h0i hli q' hq').trans (hhi2 p hp)
              by_cases c4 : (j == 1) = true
              · rw [if_pos c4]
                exact wpS_pure ⟨ev3, _, _, _, _, _, _, _, rfl, .inl ⟨_, rfl, fs mC (by simpa using c4)⟩⟩
              rw [if_neg c4]
              by_cases c4' : (j == 0) = true
              · rw [if_pos c4']
                exact wpS_pure ⟨ev3, _, _, _, _, _, _, _, rfl, .inl ⟨_, rfl, dn mC (.inr (by simpa using c4'))⟩⟩
              rw [if_neg c4']
              have hj1 : 1 < j := by
                have h1 : j ≠ 1 := by simpa using c4
                have h2 : j ≠ 0 := by simpa using c4'
                omega
              have szC : ((out).push b.toList[nb - 1] ++ (b.extract j (nb - 1)).reverse).size ≥ ((out).push b.toList[nb - 1]).size := by
                rw [Array.size_append]
                omega
              refine wpS_bind (wpS_elem (at_list hia2) ?_)
              have mD := pA (out := (out).push b.toList[nb - 1] ++ (b.extract j (nb - 1)).reverse) h0i hli mC hlo2'
              by_cases c5 : (na - 1 == 0) = true
              · rw [if_pos c5]
                exact wpS_pure ⟨ev3, _, _, _, _, _, _, _, rfl, .inl ⟨_, rfl, dn mD (.inl (by simpa using c5))⟩⟩
              rw [if_neg c5]
              have hend : 0 < na - 1 := by
                have h1 : na - 1 ≠ 0 := by simpa using c5
                omega
              have szD := Array.size_push (xs := (out).push b.toList[nb - 1] ++ (b.extract j (nb - 1)).reverse) a.toList[na - 1]
              by_cases c6 : (decide (na - i < 7) && decide (nb - 1 - j < 7)) = true
              · rw [if_pos c6]
                exact wpS_pure ⟨ev3, _, _, _, _, _, _, _, rfl, .inr ⟨rfl, ⟨mD, hend, hj1⟩, by omega⟩⟩
              · rw [if_neg c6]
                exact wpS_pure ⟨ev3, _, _, _, _, _, _, rfl, ⟨mD, hend, hj1⟩, by omega⟩
            · rw [if_neg cj]
              have ej : j = nb - 1 := by omega
              rw [ej] at hlo2'
              refine wpS_bind (wpS_elem (at_list hia2) ?_)
              have mD := pA (out := (out).push b.toList[nb - 1]) h0i hli mB hlo2'
              by_cases c5 : (na - 1 == 0) = true
              · rw [if_pos c5]
                exact wpS_pure ⟨ev3, _, _, _, _, _, _, _, rfl, .inl ⟨_, rfl, dn mD (.inl (by simpa using c5))⟩⟩
              rw [if_neg c5]
              have hend : 0 < na - 1 := by
                have h1 : na - 1 ≠ 0 := by simpa using c5
                omega
              have szD := Array.size_push (xs := (out).push b.toList[nb - 1]) a.toList[na - 1]
              by_cases c6 : (decide (na - i < 7) && decide (nb - 1 - j < 7)) = true
              · rw [if_pos c6]
                exact wpS_pure ⟨ev3, _, _, _, _, _, _, _, rfl, .inr ⟨rfl, ⟨mD, hend, hnb⟩, by omega⟩⟩
              · rw [if_neg c6]
                exact wpS_pure ⟨ev3, _, _, _, _, _, _, rfl, ⟨mD, hend, hnb⟩, by omega⟩
        · rw [if_neg cm]
          refine wpS_bind (wpS_setMin fun st3 e3 => ?_)
          have ev3 := ev2.trans e3
          have hk3 : kindOf st3 = kd := ev3.1.trans hk
          refine wpS_bind (wpS_elem (at_list hib) ?_)
          refine wpS_bind (wpS_gallopL L (seg := a.toList.take na) hk3 (hb _ (List.getElem_mem _)) (by rw [List.length_take]; omega) (fun i hi => by rw [List.getElem_take, Nat.zero_add]; exact at_list _) (fun p hp => ha p (List.mem_of_mem_take hp)) (sa.sublist (List.take_sublist _ _)) (by omega) fun i hi hlo hhi => ?_)
          dsimp only
          have hlo' : ∀ p ∈ a.toList.take i, Le κ p b.toList[nb - 1] := fun p hp => hlo p (by rw [List.take_take, Nat.min_eq_left hi]; exact hp)
          by_cases ck : na - i > 0
          · rw [if_pos ck]
            have mA : MH κ a.toList b.toList (out ++ (a.extract i na).reverse).toList.reverse i nb := by
              rw [Array.toList_append, Array.toList_reverse, List.reverse_append, List.reverse_reverse, ex_seg]
              exact m.1.appA hi fun p hp q' hq' => (le_upto sb (by omega) hlb q' hq').trans (hhi p hp)
            by_cases c1 : (i == 0) = true
            · rw [if_pos c1]
              exact wpS_pure ⟨ev3, _, _, _, _, _, _, _, rfl, .inl ⟨_, rfl, dn mA (.inl (by simpa using c1))⟩⟩
            rw [if_neg c1]
            have h0i : 0 < i := by
              have : i ≠ 0 := by simpa using c1
              omega
            have hli : i ≤ a.toList.length := by omega
            have sz3 : (out ++ (a.extract i na).reverse).size ≥ out.size := by
              rw [Array.size_append]
              omega
            refine wpS_bind (wpS_elem (at_list hib) ?_)
            have mB := pB (out := out ++ (a.extract i na).reverse) (by omega) hlb mA hlo'
            by_cases c3 : (nb - 1 == 1) = true
            · rw [if_pos c3]
              exact wpS_pure ⟨ev3, _, _, _, _, _, _, _, rfl, .inl ⟨_, rfl, fs mB (by simpa using c3)⟩⟩
            rw [if_neg c3]
            have hnb : 1 < nb - 1 := by
              have h1 : nb - 1 ≠ 1 := by simpa using c3
              omega
            have hia2 : i - 1 < a.toList.length := by omega
            refine wpS_bind (wpS_elem (at_list hia2) ?_)
            refine wpS_bind (wpS_gallopL L (seg := b.toList.take (nb - 1)) hk3 (ha _ (List.getElem_mem _)) (by rw [List.length_take]; omega) (fun i hi => by rw [List.getElem_take, Nat.zero_add]; exact at_list _) (fun p hp => hb p (List.mem_of_mem_take hp)) (sb.sublist (List.take_sublist _ _)) (by omega) fun j hj hlo2 hhi2 => ?_)
            dsimp only
            have szB : ((out ++ (a.extract i na).reverse).push b.toList[nb - 1]).size = (out ++ (a.extract i na).reverse).size + 1 := Array.size_push _
            have hlo2' : ∀ p ∈ b.toList.take j, Le κ p a.toList[i - 1] := fun p hp => hlo2 p (by rw [List.take_take, Nat.min_eq_left hj]; exact hp)
            by_cases cj : nb - 1 - j > 0
            · rw [if_pos cj]
              have mC : MH κ a.toList b.toList ((out ++ (a.extract i na).reverse).push b.toList[nb - 1] ++ (b.extract j (nb - 1)).reverse).toList.reverse (i) j := by
                rw [Array.toList_append, Array.toList_reverse, List.reverse_append, List.reverse_reverse, ex_seg]
                exact mB.appB hj fun p hp q' hq' => (le_upto sa h0i hli q' hq').trans (hhi2 p hp)
              by_cases c4 : (j == 1) = true
              · rw [if_pos c4]
                exact wpS_pure ⟨ev3, _, _, _, _, _, _, _, rfl, .inl ⟨_, rfl, fs mC (by simpa using c4)⟩⟩
              rw [if_neg c4]
              by_cases c4' : (j == 0) = true
              · rw [if_pos c4']
                exact wpS_pure ⟨ev3, _, _, _, _, _, _, _, rfl, .inl ⟨_, rfl, dn mC (.inr (by simpa using c4'))⟩⟩
              rw [if_neg c4']
              have hj1 : 1 < j := by
                have h1 : j ≠ 1 := by simpa using c4
                have h2 : j ≠ 0 := by simpa using c4'
                omega
              have szC : ((out ++ (a.extract i na).reverse).push b.toList[nb - 1] ++ (b.extract j (nb - 1)).reverse).size ≥ ((out ++ (a.extract i na).reverse).push b.toList[nb - 1]).size := by
                rw [Array.size_append]
                omega
              refine wpS_bind (wpS_elem (at_list hia2) ?_)
              have mD := pA (out := (out ++ (a.extract i na).reverse).push b.toList[nb - 1] ++ (b.extract j (nb - 1)).reverse) h0i hli mC hlo2'
              by_cases c5 : (i - 1 == 0) = true
              · rw [if_pos c5]
                exact wpS_pure ⟨ev3, _, _, _, _, _, _, _, rfl, .inl ⟨_, rfl, dn mD (.inl (by simpa using c5))⟩⟩
              rw [if_neg c5]
              have hend : 0 < i - 1 := by
                have h1 : i - 1 ≠ 0 := by simpa using c5
                omega
              have szD := Array.size_push (xs := (out ++ (a.extract i na).reverse).push b.toList[nb - 1] ++ (b.extract j (nb - 1)).reverse) a.toList[i - 1]
              by_cases c6 : (decide (na - i < 7) && decide (nb - 1 - j < 7)) = true
              · rw [if_pos c6]
                exact wpS_pure ⟨ev3, _, _, _, _, _, _, _, rfl, .inr ⟨rfl, ⟨mD, hend, hj1⟩, by omega⟩⟩
              · rw [if_neg c6]
                exact wpS_pure ⟨ev3, _, _, _, _, _, _, rfl, ⟨mD, hend, hj1⟩, by omega⟩
            · rw [if_neg cj]
              have ej : j = nb - 1 := by omega
              rw [ej] at hlo2'
              refine wpS_bind (wpS_elem (at_list hia2) ?_)
              have mD := pA (out := (out ++ (a.extract i na).reverse).push b.toList[nb - 1]) h0i hli mB hlo2'
              by_cases c5 : (i - 1 == 0) = true
              · rw [if_pos c5]
                exact wpS_pure ⟨ev3, _, _, _, _, _, _, _, rfl, .inl ⟨_, rfl, dn mD (.inl (by simpa using c5))⟩⟩
              rw [if_neg c5]
              have hend : 0 < i - 1 := by
                have h1 : i - 1 ≠ 0 := by simpa using c5
                omega
              have szD := Array.size_push (xs := (out ++ (a.extract i na).reverse).push b.toList[nb - 1]) a.toList[i - 1]
              by_cases c6 : (decide (na - i < 7) && decide (nb - 1 - j < 7)) = true
              · rw [if_pos c6]
                exact wpS_pure ⟨ev3, _, _, _, _, _, _, _, rfl, .inr ⟨rfl, ⟨mD, hend, hnb⟩, by omega⟩⟩
              · rw [if_neg c6]
                exact wpS_pure ⟨ev3, _, _, _, _, _, _, rfl, ⟨mD, hend, hnb⟩, by omega⟩
          · rw [if_neg ck]
            have ei : i = na := by omega
            have h0i : 0 < na := h0a
            have hli : na ≤ a.toList.length := hla
            have mA := m.1
            rw [ei] at hlo'
            have sz3 : out.size ≥ out.size := Nat.le_refl _
            refine wpS_bind (wpS_elem (at_list hib) ?_)
            have mB := pB (out := out) (by omega) hlb mA hlo'
            by_cases c3 : (nb - 1 == 1) = true
            · rw [if_pos c3]
              exact wpS_pure ⟨ev3, _, _, _, _, _, _, _, rfl, .inl ⟨_, rfl, fs mB (by simpa using c3)⟩⟩
            rw [if_neg c3]
            have hnb : 1 < nb - 1 := by
              have h1 : nb - 1 ≠ 1 := by simpa using c3
              omega
            have hia2 : na - 1 < a.toList.length := by omega
            refine wpS_bind (wpS_elem (at_list hia2) ?_)
            refine wpS_bind (wpS_gallopL L (seg := b.toList.take (nb - 1)) hk3 (ha _ (List.getElem_mem _)) (by rw [List.length_take]; omega) (fun i hi => by rw [List.getElem_take, Nat.zero_add]; exact at_list _) (fun p hp => hb p (List.mem_of_mem_take hp)) (sb.sublist (List.take_sublist _ _)) (by omega) fun j hj hlo2 hhi2 => ?_)
            dsimp only
            have szB : ((out).push b.toList[nb - 1]).size = (out).size + 1 := Array.size_push _
            have hlo2' : ∀ p ∈ b.toList.take j, Le κ p a.toList[na - 1] := fun p hp => hlo2 p (by rw [List.take_take, Nat.min_eq_left hj]; exact hp)
            by_cases cj : nb - 1 - j > 0
            · rw [if_pos cj]
              have mC : MH κ a.toList b.toList ((out).push b.toList[nb - 1] ++ (b.extract j (nb - 1)).reverse).toList.reverse (na) j := by
                rw [Array.toList_append, Array.toList_reverse, List.reverse_append, List.reverse_reverse, ex_seg]
                exact mB.appB hj fun p hp q' hq' => (le_upto sa h0i hli q' hq').trans (hhi2 p hp)
              by_cases c4 : (j == 1) = true
              · rw [if_pos c4]
                exact wpS_pure ⟨ev3, _, _, _, _, _, _, _, rfl, .inl ⟨_, rfl, fs mC (by simpa using c4)⟩⟩
              rw [if_neg c4]
              by_cases c4' : (j == 0) = true
              · rw [if_pos c4']
                exact wpS_pure ⟨ev3, _, _, _, _, _, _, _, rfl, .inl ⟨_, rfl, dn mC (.inr (by simpa using c4'))⟩⟩
              rw [if_neg c4']
              have hj1 : 1 < j := by
                have h1 : j ≠ 1 := by simpa using c4
                have h2 : j ≠ 0 := by simpa using c4'
                omega
              have szC : ((out).push b.toList[nb - 1] ++ (b.extract j (nb - 1)).reverse).size ≥ ((out).push b.toList[nb - 1]).size := by
                rw [Array.size_append]
                omega
              refine wpS_bind (wpS_elem (at_list hia2) ?_)
              have mD := pA (out := (out).push b.toList[nb - 1] ++ (b.extract j (nb - 1)).reverse) h0i hli mC hlo2'
              by_cases c5 : (na - 1 == 0) = true
              · rw [if_pos c5]
                exact wpS_pure ⟨ev3, _, _, _, _, _, _, _, rfl, .inl ⟨_, rfl, dn mD (.inl (by simpa using c5))⟩⟩
              rw [if_neg c5]
              have hend : 0 < na - 1 := by
                have h1 : na - 1 ≠ 0 := by simpa using c5
                omega
              have szD := Array.size_push (xs := (out).push b.toList[nb - 1] ++ (b.extract j (nb - 1)).reverse) a.toList[na - 1]
              by_cases c6 : (decide (na - i < 7) && decide (nb - 1 - j < 7)) = true
              · rw [if_pos c6]
                exact wpS_pure ⟨ev3, _, _, _, _, _, _, _, rfl, .inr ⟨rfl, ⟨mD, hend, hj1⟩, by omega⟩⟩
              · rw [if_neg c6]
                exact wpS_pure ⟨ev3, _, _, _, _, _, _, rfl, ⟨mD, hend, hj1⟩, by omega⟩
            · rw [if_neg cj]
              have ej : j = nb - 1 := by omega
              rw [ej] at hlo2'
              refine wpS_bind (wpS_elem (at_list hia2) ?_)
              have mD := pA (out := (out).push b.toList[nb - 1]) h0i hli mB hlo2'
              by_cases c5 : (na - 1 == 0) = true
              · rw [if_pos c5]
                exact wpS_pure ⟨ev3, _, _, _, _, _, _, _, rfl, .inl ⟨_, rfl, dn mD (.inl (by simpa using c5))⟩⟩
              rw [if_neg c5]
              have hend : 0 < na - 1 := by
                have h1 : na - 1 ≠ 0 := by simpa using c5
                omega
              have szD := Array.size_push (xs := (out).push b.toList[nb - 1]) a.toList[na - 1]
              by_cases c6 : (decide (na - i < 7) && decide (nb - 1 - j < 7)) = true
              · rw [if_pos c6]
                exact wpS_pure ⟨ev3, _, _, _, _, _, _, _, rfl, .inr ⟨rfl, ⟨mD, hend, hnb⟩, by omega⟩⟩
              · rw [if_neg c6]
                exact wpS_pure ⟨ev3, _, _, _, _, _, _, rfl, ⟨mD, hend, hnb⟩, by omega⟩
end
end TS
set_option Elab.async false
set_option linter.all false
set_option maxRecDepth 100000
namespace TS
open PySem PyProof.Rows
theorem mergeAt'_eq (i : Nat) : mergeAt' i = (do
  let s ← get
  let (some (sa, na, power), some (sb, nb, _)) := ((pendingOf s)[i]?, (pendingOf s)[i + 1]?) | unsupported "internal:list.sort.pending"
  set (setPending s (((pendingOf s).setIfInBounds i (sa, na + nb, power)).eraseIdxIfInBounds (i + 1)))
  let some k ← gallop' false (← elem' (arrOf s) sb) (arrOf s) sa na 0 | return false
  let (sa, na) := (sa + k, na - k)
  if na == 0 then return true
  let some nb ← gallop' true (← elem' (arrOf s) (sa + na - 1)) (arrOf s) sb nb (nb - 1) | return false
  if nb == 0 then return true
  let x := (arrOf s).extract sa sb
  let y := (arrOf s).extract sb (sb + nb)
  let merged ← if na ≤ nb then mergeLo' x y else mergeHi' x y
  modify fun s => setArr s (merged.toList.zipIdx.foldl (fun a (p, j) => a.setIfInBounds (sa + j) p) (arrOf s))
  return (failedOf (← get)).isNone) := rfl

theorem splice (i : Nat) : ∀ (m : List Keyed) (k : Nat) (arr : Array Keyed), i + k + m.length ≤ arr.size →
    ((m.zipIdx k).foldl (fun (a : Array Keyed) (x : Keyed × Nat) => match x with | (p, j) => a.setIfInBounds (i + j) p) arr).toList = arr.toList.take (i + k) ++ m ++ arr.toList.drop (i + k + m.length)
  | [], k, arr, h => by simp
  | p :: m, k, arr, h => by
    rw [List.length_cons] at h
    rw [List.zipIdx_cons, List.foldl_cons]
    have ih := splice i m (k + 1) (arr.setIfInBounds (i + k) p) (by rw [Array.size_setIfInBounds]; omega)
    rw [ih, Array.toList_setIfInBounds]
    have hlt : i + k < arr.toList.length := by simpa using (by omega : i + k < arr.size)
    have e1 : (arr.toList.set (i + k) p).take (i + (k + 1)) = arr.toList.take (i + k) ++ [p] := by
      rw [← Nat.add_assoc, List.take_add_one, List.getElem?_set_self hlt, List.take_set_of_le (Nat.le_refl _)]
      rfl
    have e2 : (arr.toList.set (i + k) p).drop (i + (k + 1) + m.length) = arr.toList.drop (i + k + (m.length + 1)) := by
      rw [List.drop_set_of_lt (by omega)]
      congr 1
      omega
    rw [e1, e2, List.length_cons]
    simp

section
variable {prog : Program} {w : World} {A : Around} {E : Value → Shared → Prop} {s : Shared} {κ : PyProof.Rows.KeyKind} {kd : SortKind} {a₀ : Array Keyed}
def seg (l : List Keyed) (i n : Nat) : List Keyed := (l.drop i).take n
theorem seg_length {l : List Keyed} {i n : Nat} (h : i + n ≤ l.length) : (seg l i n).length = n := by
  unfold seg
  rw [List.length_take, List.length_drop]
  omega
theorem seg_get {arr : Array Keyed} {i n j : Nat} (h : j < (seg arr.toList i n).length) : arr[i + j]? = some (seg arr.toList i n)[j] := by
  have h' : j < ((arr.toList.drop i).take n).length := h
  have e : (seg arr.toList i n)[j]? = ((arr.toList.drop i).take n)[j]? := rfl
  rw [List.getElem?_eq_getElem h, List.getElem?_eq_getElem h', List.getElem_take, List.getElem_drop] at e
  rw [e]
  rw [List.length_take, List.length_drop] at h'
  exact at_list (by omega)
theorem seg_split {l : List Keyed} {i k n : Nat} (h : k ≤ n) : seg l i n = seg l i k ++ seg l (i + k) (n - k) := by
  unfold seg
  rw [← List.drop_drop]
  generalize l.drop i = t
  have e : t.take n = t.take (k + (n - k)) := by congr 1; omega
  rw [e, List.take_add]
theorem seg_mem {l : List Keyed} {i n : Nat} {p : Keyed} (h : p ∈ seg l i n) : p ∈ l := List.mem_of_mem_drop (List.mem_of_mem_take h)
theorem seg_tk {l : List Keyed} {i k n : Nat} (h : k ≤ n) : (seg l i n).take k = seg l i k := by
  unfold seg
  rw [List.take_take, Nat.min_eq_left h]
theorem seg_dp {l : List Keyed} {i k n : Nat} : (seg l i n).drop k = seg l (i + k) (n - k) := by
  unfold seg
  rw [List.drop_take, List.drop_drop]
theorem seg_ext (a : Array Keyed) (i n : Nat) : (a.extract i (i + n)).toList = seg a.toList i n := ex_k a i n
theorem whole {l : List Keyed} {i n : Nat} : l = l.take i ++ seg l i n ++ l.drop (i + n) := by
  unfold seg
  rw [List.append_assoc, ← List.drop_drop, List.take_append_drop, List.take_append_drop]

structure TB (κ : PyProof.Rows.KeyKind) (kd : SortKind) (a₀ : Array Keyed) (st : SortSt) : Prop where
  perm : (arrOf st).Perm a₀
  kind : kindOf st = kd
  failed : failedOf st = none
theorem TB.size {st : SortSt} (h : TB κ kd a₀ st) : (arrOf st).toList.length = a₀.size := by simpa using h.perm.size_eq
theorem TB.has {st : SortSt} (h : TB κ kd a₀ st) (h0 : ∀ p ∈ a₀.toList, Has κ p) : ∀ p ∈ (arrOf st).toList, Has κ p := fun p hp => h0 p ((Array.perm_iff_toList_perm.mp h.perm).mem_iff.mp hp)

/-- what a merge leaves -/
structure Merged (κ : PyProof.Rows.KeyKind) (l l' : List Keyed) (i n : Nat) : Prop where
  ex : ∃ m, l' = l.take i ++ m ++ l.drop (i + n) ∧ m.Perm (seg l i n) ∧ m.Pairwise (Le κ)
theorem Merged.same {l : List Keyed} {i n : Nat} (h : (seg l i n).Pairwise (Le κ)) : Merged κ l l i n := ⟨_, whole, List.Perm.refl _, h⟩

set_option maxHeartbeats 4000000 in
theorem wpS_mergeAt (L : LtOk κ kd prog w A s) (h0 : ∀ p ∈ a₀.toList, Has κ p) {st : SortSt} {i sa na sb nb pw pw2 : Nat} {Q : Bool → SortSt → Prop} (hB : TB κ kd a₀ st)
    (hi : (pendingOf st)[i]? = some (sa, na, pw)) (hi2 : (pendingOf st)[i + 1]? = some (sb, nb, pw2)) (hsb : sb = sa + na) (hna : 0 < na) (hnb : 0 < nb) (hle : sb + nb ≤ a₀.size)
    (sA : (seg (arrOf st).toList sa na).Pairwise (Le κ)) (sB : (seg (arrOf st).toList sb nb).Pairwise (Le κ))
    (q : ∀ st', kindOf st' = kd → failedOf st' = none → pendingOf st' = ((pendingOf st).setIfInBounds i (sa, na + nb, pw)).eraseIdxIfInBounds (i + 1) → Merged κ (arrOf st).toList (arrOf st').toList sa (na + nb) → Q true st') :
    wpS (model prog w) A E s (mergeAt' i) Q st := by
  have hlen := hB.size
  have hH := hB.has h0
  rw [mergeAt'_eq]
  refine wpS_bind (wpS_get ?_)
  rw [hi, hi2]
  dsimp only
  generalize hl : (arrOf st).toList = l at *
  have lenA : (seg l sa na).length = na := seg_length (by omega)
  have lenB : (seg l sb nb).length = nb := seg_length (by omega)
  have gA : ∀ j (h : j < (seg l sa na).length), (arrOf st)[sa + j]? = some (seg l sa na)[j] := fun j h => by subst hl; exact seg_get h
  have gB : ∀ j (h : j < (seg l sb nb).length), (arrOf st)[sb + j]? = some (seg l sb nb)[j] := fun j h => by subst hl; exact seg_get h
  have hasA : ∀ p ∈ seg l sa na, Has κ p := fun p hp => hH p (seg_mem hp)
  have hasB : ∀ p ∈ seg l sb nb, Has κ p := fun p hp => hH p (seg_mem hp)
  have hset : ∀ {Q' : PUnit → SortSt → Prop} {st2 : SortSt}, Q' ⟨⟩ st2 → wpS (model prog w) A E s (set st2 : StateT SortSt Sem PUnit) Q' st := fun {Q' st2} h => by
    unfold wpS
    rw [StateT.run_set]
    exact wpAny_pure ⟨rfl, h⟩
  refine wpS_bind (hset ?_)
  have g0 := gB 0 (by omega)
  rw [Nat.add_zero] at g0
  refine wpS_bind (wpS_elem g0 ?_)
  refine wpS_bind (wpS_gallopL L (seg := seg l sa na) hB.kind (hasB _ (List.getElem_mem _)) lenA gA hasA sA hna fun k hk hlo hhi => ?_)
  dsimp only
  have b0le : ∀ p ∈ seg l sb nb, Le κ ((seg l sb nb)[0]'(by omega)) p := fun p hp => le_rest sB (by omega) p (by simpa using hp)
  by_cases c1 : (na - k == 0) = true
  · rw [if_pos c1]
    have ek : k = na := by
      have : na - k = 0 := by simpa using c1
      omega
    refine wpS_pure (q _ hB.kind hB.failed rfl ?_)
    show Merged κ l (arrOf st).toList sa (na + nb)
    rw [hl]
    refine Merged.same ?_
    rw [seg_split (k := na) (by omega), show na + nb - na = nb by omega, ← hsb]
    refine List.pairwise_append.mpr ⟨sA, sB, fun x hx y hy => ?_⟩
    have : x ∈ (seg l sa na).take k := by rw [ek, List.take_of_length_le (by omega)]; exact hx
    exact (hlo x this).trans (b0le y hy)
  rw [if_neg c1]
  have hkn : k < na := by
    have : na - k ≠ 0 := by simpa using c1
    omega
  have gl := gA (na - 1) (by omega)
  rw [show sa + (na - 1) = sa + k + (na - k) - 1 by omega] at gl
  refine wpS_bind (wpS_elem gl ?_)
  refine wpS_bind (wpS_gallopL L (seg := seg l sb nb) hB.kind (hasA _ (List.getElem_mem _)) lenB gB hasB sB (by omega) fun j hj hlo2 hhi2 => ?_)
  dsimp only
  have leA : ∀ p ∈ seg l sa na, Le κ p ((seg l sa na)[na - 1]'(by omega)) := fun p hp => le_upto sA hna (by omega) p (by rw [List.take_of_length_le (by omega)]; exact hp)
  by_cases c2 : (j == 0) = true
  · rw [if_pos c2]
    have ej : j = 0 := by simpa using c2
    refine wpS_pure (q _ hB.kind hB.failed rfl ?_)
    show Merged κ l (arrOf st).toList sa (na + nb)
    rw [hl]
    refine Merged.same ?_
    rw [seg_split (k := na) (by omega), show na + nb - na = nb by omega, ← hsb]
    refine List.pairwise_append.mpr ⟨sA, sB, fun x hx y hy => ?_⟩
    exact (leA x hx).trans (hhi2 y (by rw [ej]; exact hy))
  rw [if_neg c2]
  have hj0 : 0 < j := by
    have : j ≠ 0 := by simpa using c2
    omega
  have ex : ((arrOf st).extract (sa + k) sb).toList = seg l (sa + k) (na - k) := by
    rw [hsb, show sa + na = sa + k + (na - k) by omega, seg_ext, hl]
  have ey : ((arrOf st).extract sb (sb + j)).toList = seg l sb j := by rw [seg_ext, hl]
  have exD : seg l (sa + k) (na - k) = (seg l sa na).drop k := seg_dp.symm
  have eyT : seg l sb j = (seg l sb nb).take j := (seg_tk hj).symm
  have lx : ((arrOf st).extract (sa + k) sb).toList.length = na - k := by rw [ex]; exact seg_length (by omega)
  have ly : ((arrOf st).extract sb (sb + j)).toList.length = j := by rw [ey]; exact seg_length (by omega)
  have sx : ((arrOf st).extract (sa + k) sb).toList.Pairwise (Le κ) := by rw [ex, exD]; exact sA.sublist (List.drop_sublist _ _)
  have sy : ((arrOf st).extract sb (sb + j)).toList.Pairwise (Le κ) := by rw [ey, eyT]; exact sB.sublist (List.take_sublist _ _)
  have hx : ∀ p ∈ ((arrOf st).extract (sa + k) sb).toList, Has κ p := fun p hp => by rw [ex] at hp; exact hH p (seg_mem hp)
  have hy : ∀ p ∈ ((arrOf st).extract sb (sb + j)).toList, Has κ p := fun p hp => by rw [ey] at hp; exact hH p (seg_mem hp)
  have y0 : ((arrOf st).extract sb (sb + j)).toList[0]'(by omega) = (seg l sb nb)[0]'(by omega) := by
    have : ((arrOf st).extract sb (sb + j)).toList[0]? = (seg l sb nb)[0]? := by
      rw [ey, eyT, List.getElem?_take_of_lt hj0]
    rw [List.getElem?_eq_getElem (by omega), List.getElem?_eq_getElem (by omega)] at this
    exact Option.some.inj this
  have first : ∀ p ∈ ((arrOf st).extract (sa + k) sb).toList, Le κ (((arrOf st).extract sb (sb + j)).toList[0]'(by omega)) p := fun p hp => by
    rw [y0]
    rw [ex, exD] at hp
    exact hhi p hp
  have xl : ((arrOf st).extract (sa + k) sb).toList[((arrOf st).extract (sa + k) sb).toList.length - 1]'(by omega) = (seg l sa na)[na - 1]'(by omega) := by
    have : ((arrOf st).extract (sa + k) sb).toList[((arrOf st).extract (sa + k) sb).toList.length - 1]? = (seg l sa na)[na - 1]? := by
      rw [lx, ex, exD, List.getElem?_drop, show k + (na - k - 1) = na - 1 by omega]
    rw [List.getElem?_eq_getElem (by omega), List.getElem?_eq_getElem (by omega)] at this
    exact Option.some.inj this
  have lastA : ∀ q' ∈ ((arrOf st).extract sb (sb + j)).toList, Le κ q' (((arrOf st).extract (sa + k) sb).toList[((arrOf st).extract (sa + k) sb).toList.length - 1]'(by omega)) := fun q' hq' => by
    rw [xl]
    rw [ey, eyT] at hq'
    exact hlo2 q' hq'
  have lastA' : ∀ q' ∈ ((arrOf st).extract sb (sb + j)).toList, ∀ p ∈ ((arrOf st).extract (sa + k) sb).toList.drop (((arrOf st).extract (sa + k) sb).toList.length - 1), Le κ q' p := fun q' hq' p hp => by
    rw [List.drop_eq_getElem_cons (by omega), List.drop_of_length_le (by omega)] at hp
    rw [List.mem_singleton.mp hp]
    exact lastA q' hq'
  -- what is left
  have fin : ∀ (r : Array Keyed) (st' : SortSt), Eqv (setPending st (((pendingOf st).setIfInBounds i (sa, na + nb, pw)).eraseIdxIfInBounds (i + 1))) st' → Good κ ((arrOf st).extract (sa + k) sb).toList ((arrOf st).extract sb (sb + j)).toList r.toList →
      wpS (model prog w) A E s (do
        modify fun s => setArr s (List.foldl (fun (a : Array Keyed) (x : Keyed × Nat) => a.setIfInBounds (sa + k + x.snd) x.fst) (arrOf s) r.toList.zipIdx)
        let z ← get
        pure (failedOf z).isNone) Q st' := by
    intro r st' ev g
    refine wpS_bind (wpS_modify (wpS_bind (wpS_get ?_)))
    have hf : failedOf st' = none := ev.2.2.2.trans hB.failed
    have harr : arrOf st' = arrOf st := ev.2.1
    have lr : r.toList.length = na - k + j := by
      have := g.1.length_eq
      rw [List.length_append, lx, ly] at this
      exact this
    show wpS (model prog w) A E s (pure (failedOf st').isNone) Q (setArr st' (List.foldl (fun (a : Array Keyed) (x : Keyed × Nat) => a.setIfInBounds (sa + k + x.snd) x.fst) (arrOf st') r.toList.zipIdx))
    rw [hf]
    refine wpS_pure (q _ (ev.1.trans hB.kind) hf ev.2.2.1 ?_)
    have sp := splice (sa + k) r.toList 0 (arrOf st') (by rw [harr, lr]; have : (arrOf st).size = l.length := by rw [← hl]; simp
                                                          omega)
    rw [Nat.add_zero] at sp
    refine ⟨⟨seg l sa k ++ r.toList ++ seg l (sb + j) (nb - j), ?_, ?_, ?_⟩⟩
    · show (List.foldl (fun (a : Array Keyed) (x : Keyed × Nat) => a.setIfInBounds (sa + k + x.snd) x.fst) (arrOf st') r.toList.zipIdx).toList = _
      refine Eq.trans sp ?_
      rw [harr, hl, lr]
      have e1 : l.take (sa + k) = l.take sa ++ seg l sa k := by unfold seg; rw [List.take_add]
      have e2 : l.drop (sa + k + (na - k + j)) = seg l (sb + j) (nb - j) ++ l.drop (sa + (na + nb)) := by
        have e3 : l.drop (sb + j) = seg l (sb + j) (nb - j) ++ l.drop (sb + j + (nb - j)) := by
          have h := List.take_append_drop (nb - j) (l.drop (sb + j))
          rw [List.drop_drop] at h
          exact h.symm
        rw [show sa + k + (na - k + j) = sb + j by omega, e3, show sb + j + (nb - j) = sa + (na + nb) by omega]
      rw [e1, e2]
      simp only [List.append_assoc]
    · rw [seg_split (l := l) (i := sa) (k := k) (n := na + nb) (by omega)]
      rw [List.append_assoc]
      refine List.Perm.append_left _ ?_
      have e4 : seg l (sa + k) (na + nb - k) = seg l (sa + k) (na - k) ++ (seg l sb j ++ seg l (sb + j) (nb - j)) := by
        rw [seg_split (k := na - k) (by omega), show sa + k + (na - k) = sb by omega, show na + nb - k - (na - k) = nb by omega, seg_split (l := l) (i := sb) (k := j) hj]
      rw [e4, ← List.append_assoc]
      refine List.Perm.append_right _ ?_
      have := g.1
      rw [ex, ey] at this
      exact this
    · have memR : ∀ p ∈ r.toList, p ∈ (seg l sa na).drop k ∨ p ∈ (seg l sb nb).take j := fun p hp => by
        have := g.1.mem_iff.mp hp
        rw [ex, ey, exD, eyT] at this
        exact List.mem_append.mp this
      have tA : seg l sa k = (seg l sa na).take k := (seg_tk hk).symm
      have dB : seg l (sb + j) (nb - j) = (seg l sb nb).drop j := seg_dp.symm
      have pA := sA
      rw [← List.take_append_drop k (seg l sa na)] at pA
      have pA' := List.pairwise_append.mp pA
      have pB := sB
      rw [← List.take_append_drop j (seg l sb nb)] at pB
      have pB' := List.pairwise_append.mp pB
      rw [tA, dB]
      refine List.pairwise_append.mpr ⟨List.pairwise_append.mpr ⟨pA'.1, g.2, fun x hx y hy => ?_⟩, pB'.2.1, fun x hx y hy => ?_⟩
      · rcases memR y hy with z | z
        · exact pA'.2.2 x hx y z
        · exact (hlo x hx).trans (b0le y (List.mem_of_mem_take z))
      · rcases List.mem_append.mp hx with hx | hx
        · exact (leA x (List.mem_of_mem_take hx)).trans (hhi2 y hy)
        · rcases memR x hx with z | z
          · exact (leA x (List.mem_of_mem_drop z)).trans (hhi2 y hy)
          · exact pB'.2.2 x z y hy
  by_cases c3 : na - k ≤ j
  · rw [if_pos c3]
    exact wpS_bind (wpS_mergeLo L hB.kind hx hy sx sy (by omega) (by omega) first lastA' fin)
  · rw [if_neg c3]
    exact wpS_bind (wpS_mergeHi L hB.kind hx hy sx sy (by omega) (by omega) first lastA fin)
end
end TS
set_option Elab.async false
set_option linter.all false
set_option maxRecDepth 100000
namespace TS
open PySem PyProof.Rows
open PyProof.Rows.KeyOrd (kle_refl kle_trans kle_of_klt kle_antisymm klt_of_klt_of_kle)
def ascL (lo a nrem : Nat) : StateT SortSt Sem (Option (Option Nat) × Nat) :=
  forIn [a:nrem] (none, a) fun (_ : Nat) (s : Option (Option Nat) × Nat) => do
    let x ← ltAt' (lo + s.snd) (lo + s.snd - 1)
    match x with
    | some smaller => if smaller = true then pure (ForInStep.done (none, s.snd)) else pure (ForInStep.yield (none, s.snd + 1))
    | _ => pure (ForInStep.done (some none, s.snd))
def descL (lo n nrem : Nat) : StateT SortSt Sem (Option (Option Nat) × Nat × Nat) :=
  forIn [n:nrem] (none, n, 0) fun (_ : Nat) (s : Option (Option Nat) × Nat × Nat) => do
    let x ← ltAt' (lo + s.snd.fst) (lo + s.snd.fst - 1)
    match x with
    | some smaller =>
      if smaller = true then
        if s.snd.snd > 0 then do
          reverseSlice' (lo + s.snd.fst - (s.snd.snd + 1)) (lo + s.snd.fst)
          pure (ForInStep.yield (none, s.snd.fst + 1, 0))
        else pure (ForInStep.yield (none, s.snd.fst + 1, 0))
      else do
        let x ← ltAt' (lo + s.snd.fst - 1) (lo + s.snd.fst)
        match x with
        | some larger => if larger = true then pure (ForInStep.done (none, s.snd.fst, s.snd.snd)) else pure (ForInStep.yield (none, s.snd.fst + 1, s.snd.snd + 1))
        | _ => pure (ForInStep.done (some none, s.snd.fst, s.snd.snd))
    | _ => pure (ForInStep.done (some none, s.snd.fst, s.snd.snd))
section
variable {prog : Program} {w : World} {A : Around} {E : Value → Shared → Prop} {s : Shared} {κ : PyProof.Rows.KeyKind} {kd : SortKind} {st₀ : SortSt}
/-- the array turned within [lo, lo + n) alone -/
structure SB (κ : PyProof.Rows.KeyKind) (kd : SortKind) (st₀ : SortSt) (lo n : Nat) (st : SortSt) : Prop where
  perm : (arrOf st).Perm (arrOf st₀)
  kind : kindOf st = kd
  failed : failedOf st = none
  pend : pendingOf st = pendingOf st₀
  out : ∀ i : Nat, i < lo ∨ lo + n ≤ i → (arrOf st)[i]? = (arrOf st₀)[i]?
theorem SB.size {lo n : Nat} {st : SortSt} (h : SB κ kd st₀ lo n st) : (arrOf st).size = (arrOf st₀).size := h.perm.size_eq
theorem SB.setArr {lo n : Nat} {st : SortSt} (h : SB κ kd st₀ lo n st) {xs : Array Keyed} (hp : xs.Perm (arrOf st)) (ho : ∀ i : Nat, i < lo ∨ lo + n ≤ i → xs[i]? = (arrOf st)[i]?) : SB κ kd st₀ lo n (setArr st xs) :=
  ⟨hp.trans h.perm, h.kind, h.failed, h.pend, fun i hi => (ho i hi).trans (h.out i hi)⟩
theorem KK_key {xs : Array Keyed} {i : Nat} (h : i < xs.size) : KK κ xs i = key κ xs[i] := by
  unfold KK key
  rw [Array.getElem?_eq_getElem h]
theorem wpS_ltI (L : LtOk κ kd prog w A s) (h0 : ∀ p ∈ (arrOf st₀).toList, Has κ p) {lo n : Nat} {st : SortSt} {i j : Nat} {Q : Option Bool → SortSt → Prop} (hB : SB κ kd st₀ lo n st) (hi : i < (arrOf st₀).size) (hj : j < (arrOf st₀).size)
    (h : Q (some (κ.blt (KK κ (arrOf st) i) (KK κ (arrOf st) j))) st) : wpS (model prog w) A E s (ltAt' i j) Q st := by
  have hi' : i < (arrOf st).size := by rw [hB.size]; exact hi
  have hj' : j < (arrOf st).size := by rw [hB.size]; exact hj
  have hm : ∀ p ∈ (arrOf st).toList, Has κ p := fun p hp => h0 p ((Array.perm_iff_toList_perm.mp hB.perm).mem_iff.mp hp)
  rw [KK_key hi', KK_key hj'] at h
  rw [ltAt'_eq]
  refine wpS_bind (wpS_get ?_)
  refine wpS_bind (wpS_elem (Array.getElem?_eq_getElem hi') (wpS_bind (wpS_elem (Array.getElem?_eq_getElem hj') ?_)))
  exact wpS_lt L hB.kind (hm _ (by simp)) (hm _ (by simp)) h
def Asc (κ : PyProof.Rows.KeyKind) (st : SortSt) (lo m : Nat) : Prop := ∀ i j, i ≤ j → j < m → κ.kle (KK κ (arrOf st) (lo + i)) (KK κ (arrOf st) (lo + j))
def Desc (κ : PyProof.Rows.KeyKind) (xs : Array Keyed) (lo m : Nat) : Prop := ∀ i j, i ≤ j → j < m → κ.kle (KK κ xs (lo + j)) (KK κ xs (lo + i))

theorem wpS_ascL (L : LtOk κ kd prog w A s) (h0 : ∀ p ∈ (arrOf st₀).toList, Has κ p) {st : SortSt} {lo a nrem : Nat} {Q : Option (Option Nat) × Nat → SortSt → Prop} (hn : lo + nrem ≤ (arrOf st₀).size) (ha : 1 ≤ a) (han : a ≤ nrem) (hB : SB κ kd st₀ lo nrem st)
    (hs : Asc κ st lo a)
    (h : ∀ n, a ≤ n → n ≤ nrem → Asc κ st lo n → (n = nrem ∨ κ.klt (KK κ (arrOf st) (lo + n)) (KK κ (arrOf st) (lo + n - 1))) → Q (none, n) st) :
    wpS (model prog w) A E s (ascL lo a nrem) Q st := by
  unfold ascL
  refine wpS_forRange (I := fun x c st' => st = st' ∧ c = (none, x) ∧ Asc κ st lo x) ?step ?fin ⟨rfl, rfl, hs⟩
  case fin =>
    rintro c st' ⟨rfl, rfl, hs'⟩
    rw [show max a nrem = nrem by omega] at hs' ⊢
    exact h nrem han (Nat.le_refl _) hs' (.inl rfl)
  case step =>
    rintro x c st' hax hxn ⟨rfl, rfl, hs'⟩
    dsimp only
    refine wpS_bind (wpS_ltI L h0 hB (by omega) (by omega) ?_)
    cases hless : κ.blt (KK κ (arrOf st) (lo + x)) (KK κ (arrOf st) (lo + x - 1))
    case true =>
      simp only [if_true]
      exact wpS_pure (h x hax (by omega) hs' (.inr hless))
    case false =>
      simp only [Bool.false_eq_true, if_false]
      refine wpS_pure ⟨rfl, rfl, fun i j hij hj => ?_⟩
      by_cases hjx : j < x
      · exact hs' i j hij hjx
      · have hj' : j = x := by omega
        subst hj'
        by_cases hi' : i = j
        · subst hi'; exact kle_refl _
        · have e : lo + j - 1 = lo + (j - 1) := by omega
          rw [e] at hless
          exact kle_trans (hs' i (j - 1) (by omega) (by omega)) hless

theorem mirror_out {xs : Array Keyed} {i j : Nat} (hj : j ≤ xs.size) {lo n : Nat} (h1 : lo ≤ i) (h2 : j ≤ lo + n) : ∀ k : Nat, k < lo ∨ lo + n ≤ k → (mirror xs i j ((j - i) / 2))[k]? = xs[k]? := fun k hk => by
  rw [getElem?_mirror_all hj, if_neg (by omega)]
theorem wpS_rev {st : SortSt} {i j : Nat} {Q : Unit → SortSt → Prop} (h : Q () (setArr st (mirror (arrOf st) i j ((j - i) / 2)))) : wpS (model prog w) A E s (reverseSlice' i j) Q st := by
  rw [reverseSlice'_eq]
  exact wpS_modify h

theorem wpS_tailA (L : LtOk κ kd prog w A s) (h0 : ∀ p ∈ (arrOf st₀).toList, Has κ p) {st : SortSt} {lo n nrem : Nat} {Q : Option (Option Nat) × Nat → SortSt → Prop} (hn : lo + nrem ≤ (arrOf st₀).size) (h1 : 1 ≤ n) (hnn : n ≤ nrem) (hB : SB κ kd st₀ lo nrem st)
    (hs : Desc κ (arrOf st) lo n) (h : ∀ m st', SB κ kd st₀ lo nrem st' → 1 ≤ m → m ≤ nrem → Asc κ st' lo m → Q (none, m) st') :
    wpS (model prog w) A E s (ascL lo n nrem) Q (setArr st (mirror (arrOf st) lo (lo + n) ((lo + n - lo) / 2))) := by
  have hsz : lo + n ≤ (arrOf st).size := by rw [hB.size]; omega
  have hB' : SB κ kd st₀ lo nrem (setArr st (mirror (arrOf st) lo (lo + n) ((lo + n - lo) / 2))) := hB.setArr (mirror_perm _ _ _ _) (mirror_out hsz (Nat.le_refl _) (by omega))
  refine wpS_ascL L h0 hn h1 hnn hB' ?_ fun m hm1 hm2 hsm _ => h m _ hB' (by omega) hm2 hsm
  intro i j hij hj
  show κ.kle (KK κ (mirror (arrOf st) lo (lo + n) ((lo + n - lo) / 2)) (lo + i)) (KK κ (mirror (arrOf st) lo (lo + n) ((lo + n - lo) / 2)) (lo + j))
  rw [KK_mirror hsz, KK_mirror hsz, if_pos (by omega), if_pos (by omega)]
  have e1 : lo + (lo + n) - 1 - (lo + i) = lo + (n - 1 - i) := by omega
  have e2 : lo + (lo + n) - 1 - (lo + j) = lo + (n - 1 - j) := by omega
  rw [e1, e2]
  exact hs _ _ (by omega) (by omega)

theorem wpS_descL (L : LtOk κ kd prog w A s) (h0 : ∀ p ∈ (arrOf st₀).toList, Has κ p) {st : SortSt} {lo n nrem : Nat} {Q : Option (Option Nat) × Nat × Nat → SortSt → Prop} (hn : lo + nrem ≤ (arrOf st₀).size) (h1 : 1 ≤ n) (hnn : n ≤ nrem) (hB : SB κ kd st₀ lo nrem st)
    (hs : Desc κ (arrOf st) lo n)
    (h : ∀ m neq st', SB κ kd st₀ lo nrem st' → n ≤ m → m ≤ nrem → Desc κ (arrOf st') lo m → neq + 1 ≤ m → (∀ i, lo + m - (neq + 1) ≤ i → i < lo + m → KK κ (arrOf st') i = KK κ (arrOf st') (lo + m - 1)) → Q (none, m, neq) st') :
    wpS (model prog w) A E s (descL lo n nrem) Q st := by
  unfold descL
  refine wpS_forRange (I := fun x c st' => ∃ neq, c = (none, x, neq) ∧ SB κ kd st₀ lo nrem st' ∧ Desc κ (arrOf st') lo x ∧ neq + 1 ≤ x ∧
      (∀ i, lo + x - (neq + 1) ≤ i → i < lo + x → KK κ (arrOf st') i = KK κ (arrOf st') (lo + x - 1))) ?step ?fin ⟨0, rfl, hB, hs, by omega, fun i h1 h2 => by congr 1; omega⟩
  case fin =>
    rintro c st' ⟨neq, rfl, hB', hs', hq, he⟩
    rw [show max n nrem = nrem by omega] at hs' hq he ⊢
    exact h nrem neq st' hB' hnn (Nat.le_refl _) hs' hq he
  case step =>
    rintro x c st' hax hxn ⟨neq, rfl, hB', hs', hq, he⟩
    dsimp only
    have hsz : lo + x ≤ (arrOf st').size := by rw [hB'.size]; omega
    have ex : lo + x - 1 = lo + (x - 1) := by omega
    refine wpS_bind (wpS_ltI L h0 hB' (by omega) (by omega) ?_)
    cases hless : κ.blt (KK κ (arrOf st') (lo + x)) (KK κ (arrOf st') (lo + x - 1))
    case true =>
      simp only [if_true]
      have step1 : ∀ xs : Array Keyed, (∀ k, KK κ xs k = KK κ (arrOf st') k) → Desc κ xs lo (x + 1) := by
        intro xs hk i j hij hj
        rw [hk, hk]
        by_cases hjx : j < x
        · exact hs' i j hij hjx
        · have hj' : j = x := by omega
          subst hj'
          by_cases hi' : i = j
          · subst hi'; exact kle_refl _
          · rw [ex] at hless
            exact kle_trans (kle_of_klt hless) (hs' i (j - 1) (by omega) (by omega))
      by_cases hneq : neq > 0
      · rw [if_pos hneq]
        refine wpS_bind (wpS_rev (wpS_pure ⟨0, rfl, hB'.setArr (mirror_perm _ _ _ _) (mirror_out hsz (by omega) (by omega)), step1 _ (KK_mirror_equal hsz he), by omega, fun i h1 h2 => by congr 1; omega⟩))
      · rw [if_neg hneq]
        exact wpS_pure ⟨0, rfl, hB', step1 _ (fun _ => rfl), by omega, fun i h1 h2 => by congr 1; omega⟩
    case false =>
      simp only [Bool.false_eq_true, if_false]
      refine wpS_bind (wpS_ltI L h0 hB' (by omega) (by omega) ?_)
      cases hlarger : κ.blt (KK κ (arrOf st') (lo + x - 1)) (KK κ (arrOf st') (lo + x))
      case true =>
        simp only [if_true]
        exact wpS_pure (h x neq st' hB' hax (by omega) hs' hq he)
      case false =>
        simp only [Bool.false_eq_true, if_false]
        have heqx : KK κ (arrOf st') (lo + x) = KK κ (arrOf st') (lo + x - 1) := kle_antisymm hlarger hless
        refine wpS_pure ⟨neq + 1, rfl, hB', fun i j hij hj => ?_, by omega, fun i h1 h2 => ?_⟩
        · by_cases hjx : j < x
          · exact hs' i j hij hjx
          · have hj' : j = x := by omega
            subst hj'
            by_cases hi' : i = j
            · subst hi'; exact kle_refl _
            · rw [heqx, ex]; exact hs' i (j - 1) (by omega) (by omega)
        · rw [show lo + (x + 1) - 1 = lo + x by omega]
          by_cases hix : i = lo + x
          · subst hix; rfl
          · rw [heqx]; exact he i (by omega) (by omega)

theorem wpS_countRunL (L : LtOk κ kd prog w A s) (h0 : ∀ p ∈ (arrOf st₀).toList, Has κ p) {st : SortSt} {lo nrem : Nat} {Q : Option Nat → SortSt → Prop} (hn : lo + nrem ≤ (arrOf st₀).size) (h1 : 1 ≤ nrem) (hB : SB κ kd st₀ lo nrem st)
    (h : ∀ m st', SB κ kd st₀ lo nrem st' → 1 ≤ m → m ≤ nrem → Asc κ st' lo m → Q (some m) st') :
    wpS (model prog w) A E s (countRun' lo nrem) Q st := by
  rw [countRun'_eq]
  dsimp only
  refine wpS_bind (show wpS (model prog w) A E s (ascL lo 1 nrem) _ st from wpS_ascL L h0 hn (Nat.le_refl 1) h1 hB (fun i j hij hj => by have : i = j := (by omega); subst this; exact kle_refl _) fun n hn1 hn2 hsn hor => ?_)
  dsimp only
  by_cases hnn : n = nrem
  · rw [if_pos (by simpa using hnn)]
    exact wpS_pure (h n st hB hn1 hn2 hsn)
  · rw [if_neg (by simpa using hnn)]
    have hlt : κ.klt (KK κ (arrOf st) (lo + n)) (KK κ (arrOf st) (lo + n - 1)) := hor.resolve_left hnn
    by_cases hgt : n > 1
    · rw [if_pos hgt]
      refine wpS_bind (wpS_ltI L h0 hB (by omega) (by omega) ?_)
      cases hrose : κ.blt (KK κ (arrOf st) lo) (KK κ (arrOf st) (lo + n - 1))
      case true =>
        simp only [if_true]
        exact wpS_pure (h n st hB hn1 hn2 hsn)
      case false =>
        simp only [Bool.false_eq_true, if_false]
        have hsz : lo + n ≤ (arrOf st).size := by rw [hB.size]; omega
        have en : lo + n - 1 = lo + (n - 1) := by omega
        have hall : ∀ k, lo ≤ k → k < lo + n → KK κ (arrOf st) k = KK κ (arrOf st) (lo + n - 1) := by
          intro k hk1 hk2
          have a1 := hsn 0 (k - lo) (by omega) (by omega)
          have a2 := hsn (k - lo) (n - 1) (by omega) (by omega)
          rw [Nat.add_zero] at a1
          rw [show lo + (k - lo) = k by omega] at a1 a2
          rw [en] at hrose ⊢
          exact kle_antisymm a2 (kle_trans hrose a1)
        refine wpS_bind (wpS_rev ?_)
        refine wpS_bind (wpS_lift (wpAny_rule ⟨rfl, ?_⟩))
        have hB2 := (hB.setArr (mirror_perm _ _ _ _) (mirror_out hsz (Nat.le_refl _) (by omega)) : SB κ kd st₀ lo nrem (setArr st (mirror (arrOf st) lo (lo + n) ((lo + n - lo) / 2))))
        have hD2 : Desc κ (arrOf (setArr st (mirror (arrOf st) lo (lo + n) ((lo + n - lo) / 2)))) lo (n + 1) := by
          intro i j hij hj
          show κ.kle (KK κ (mirror (arrOf st) lo (lo + n) ((lo + n - lo) / 2)) (lo + j)) (KK κ (mirror (arrOf st) lo (lo + n) ((lo + n - lo) / 2)) (lo + i))
          rw [KK_mirror_equal hsz hall, KK_mirror_equal hsz hall]
          by_cases hjn : j < n
          · rw [hall (lo + i) (by omega) (by omega), hall (lo + j) (by omega) (by omega)]; exact kle_refl _
          · have hj' : j = n := by omega
            subst hj'
            by_cases hi' : i = j
            · subst hi'; exact kle_refl _
            · rw [hall (lo + i) (by omega) (by omega)]; exact kle_of_klt hlt
        refine wpS_bind (show wpS (model prog w) A E s (descL lo (n + 1) nrem) _ _ from wpS_descL L h0 hn (by omega) (by omega) hB2 hD2 fun m neq st' hB' hm1 hm2 hs' hq he => ?_)
        dsimp only
        have hszm : lo + m ≤ (arrOf st').size := by rw [hB'.size]; omega
        by_cases hneq : neq > 0
        · rw [if_pos hneq]
          refine wpS_bind (wpS_rev ?_)
          have hB3 : SB κ kd st₀ lo nrem (setArr st' (mirror (arrOf st') (lo + m - (neq + 1)) (lo + m) ((lo + m - (lo + m - (neq + 1))) / 2))) := hB'.setArr (mirror_perm _ _ _ _) (mirror_out hszm (by omega) (by omega))
          have hD3 : Desc κ (mirror (arrOf st') (lo + m - (neq + 1)) (lo + m) ((lo + m - (lo + m - (neq + 1))) / 2)) lo m := by
            intro i j hij hj
            rw [KK_mirror_equal hszm he, KK_mirror_equal hszm he]
            exact hs' i j hij hj
          refine wpS_bind (wpS_rev ?_)
          exact wpS_bind (show wpS (model prog w) A E s (ascL lo m nrem) _ _ from wpS_tailA L h0 hn (by omega) hm2 hB3 hD3 fun m' st'' hB'' h1' h2' hs'' => wpS_pure (h m' st'' hB'' h1' h2' hs''))
        · rw [if_neg hneq]
          refine wpS_bind (wpS_rev ?_)
          exact wpS_bind (show wpS (model prog w) A E s (ascL lo m nrem) _ _ from wpS_tailA L h0 hn (by omega) hm2 hB' hs' fun m' st'' hB'' h1' h2' hs'' => wpS_pure (h m' st'' hB'' h1' h2' hs''))
    · rw [if_neg hgt]
      have hn1' : n = 1 := by omega
      subst hn1'
      refine wpS_bind (wpS_lift (wpAny_rule ⟨rfl, ?_⟩))
      have hB2 := hB
      have hD2 : Desc κ (arrOf st) lo (1 + 1) := by
        intro i j hij hj
        by_cases hi' : i = j
        · subst hi'; exact kle_refl _
        · have hi0 : i = 0 := by omega
          have hj1 : j = 1 := by omega
          subst hi0; subst hj1
          exact kle_of_klt hlt
      refine wpS_bind (show wpS (model prog w) A E s (descL lo (1 + 1) nrem) _ _ from wpS_descL L h0 hn (by omega) (by omega) hB2 hD2 fun m neq st' hB' hm1 hm2 hs' hq he => ?_)
      dsimp only
      have hszm : lo + m ≤ (arrOf st').size := by rw [hB'.size]; omega
      by_cases hneq : neq > 0
      · rw [if_pos hneq]
        refine wpS_bind (wpS_rev ?_)
        have hB3 : SB κ kd st₀ lo nrem (setArr st' (mirror (arrOf st') (lo + m - (neq + 1)) (lo + m) ((lo + m - (lo + m - (neq + 1))) / 2))) := hB'.setArr (mirror_perm _ _ _ _) (mirror_out hszm (by omega) (by omega))
        have hD3 : Desc κ (mirror (arrOf st') (lo + m - (neq + 1)) (lo + m) ((lo + m - (lo + m - (neq + 1))) / 2)) lo m := by
          intro i j hij hj
          rw [KK_mirror_equal hszm he, KK_mirror_equal hszm he]
          exact hs' i j hij hj
        refine wpS_bind (wpS_rev ?_)
        exact wpS_bind (show wpS (model prog w) A E s (ascL lo m nrem) _ _ from wpS_tailA L h0 hn (by omega) hm2 hB3 hD3 fun m' st'' hB'' h1' h2' hs'' => wpS_pure (h m' st'' hB'' h1' h2' hs''))
      · rw [if_neg hneq]
        refine wpS_bind (wpS_rev ?_)
        exact wpS_bind (show wpS (model prog w) A E s (ascL lo m nrem) _ _ from wpS_tailA L h0 hn (by omega) hm2 hB' hs' fun m' st'' hB'' h1' h2' hs'' => wpS_pure (h m' st'' hB'' h1' h2' hs''))

theorem bubble_out {xs : Array Keyed} {src d : Nat} (hs : src < xs.size) (hd : d ≤ src) {lo n : Nat} (h1 : lo ≤ src - d) (h2 : src < lo + n) : ∀ k : Nat, k < lo ∨ lo + n ≤ k → (bubble xs src d)[k]? = xs[k]? := fun k hk => by
  rw [getElem?_bubble hs d hd, if_neg (by omega), if_neg (by omega)]

theorem wpS_binarySortL (L : LtOk κ kd prog w A s) (h0 : ∀ p ∈ (arrOf st₀).toList, Has κ p) {st : SortSt} {lo n ok N : Nat} {Q : Bool → SortSt → Prop} (hN : n ≤ N) (hn : lo + N ≤ (arrOf st₀).size) (hok : ok ≤ n) (hB : SB κ kd st₀ lo N st) (hs : Asc κ st lo ok)
    (h : ∀ st', SB κ kd st₀ lo N st' → Asc κ st' lo n → Q true st') : wpS (model prog w) A E s (binarySort' lo n ok) Q st := by
  rw [binarySort'_eq]
  dsimp only
  refine wpS_bind (wpS_mono (wpS_forRange (I := fun k c st' => c = (none, ()) ∧ SB κ kd st₀ lo N st' ∧ Asc κ st' lo (min k n))
    (Q := fun c st' => c = (none, ()) ∧ SB κ kd st₀ lo N st' ∧ Asc κ st' lo n) ?step ?fin ?init) ?post)
  case post =>
    rintro c st' ⟨rfl, hB', hs'⟩
    exact wpS_pure (h st' hB' hs')
  case init =>
    refine ⟨rfl, hB, fun i j hij hj => ?_⟩
    by_cases h1 : ok = 0
    · have : i = j := by omega
      subst this; exact kle_refl _
    · exact hs i j hij (by omega)
  case fin =>
    rintro c st' ⟨hc, hB', hs'⟩
    refine ⟨hc, hB', ?_⟩
    rwa [show min (max (max ok 1) n) n = n by omega] at hs'
  case step =>
    rintro k c st' hak hkn ⟨rfl, hB', hs'⟩
    rw [show min k n = k by omega] at hs'
    refine wpS_bind (wpS_mono (wpS_forRange (I := fun x c st'' => st' = st'' ∧ ∃ l r, c = (none, l, r) ∧ l ≤ r ∧ r ≤ k ∧ r - l ≤ k - x ∧
        (∀ i, i < l → κ.kle (KK κ (arrOf st') (lo + i)) (KK κ (arrOf st') (lo + k))) ∧ (∀ i, r ≤ i → i < k → κ.klt (KK κ (arrOf st') (lo + k)) (KK κ (arrOf st') (lo + i))))
      (Q := fun c st'' => st' = st'' ∧ ∃ l r, c = (none, l, r) ∧ l ≤ k ∧
        (∀ i, i < l → κ.kle (KK κ (arrOf st') (lo + i)) (KK κ (arrOf st') (lo + k))) ∧ (∀ i, l ≤ i → i < k → κ.klt (KK κ (arrOf st') (lo + k)) (KK κ (arrOf st') (lo + i)))) ?istep ?ifin ?iinit) ?ipost)
    case iinit => exact ⟨rfl, 0, k, rfl, by omega, by omega, by omega, fun i hi => by omega, fun i h1 h2 => by omega⟩
    case ifin =>
      rintro c st'' ⟨rfl, l, r, rfl, hlr, hrk, hm, hlo, hhi⟩
      have : l = r := by omega
      subst this
      exact ⟨rfl, l, l, rfl, hrk, hlo, hhi⟩
    case istep =>
      rintro x c st'' _ hxk ⟨rfl, l, r, rfl, hlr, hrk, hm, hlo, hhi⟩
      dsimp only
      by_cases hge : l ≥ r
      · rw [if_pos hge]
        have : l = r := by omega
        subst this
        exact wpS_pure ⟨rfl, l, l, rfl, hrk, hlo, hhi⟩
      · rw [if_neg hge]
        refine wpS_bind (wpS_ltI L h0 hB' (by omega) (by omega) ?_)
        cases hless : κ.blt (KK κ (arrOf st') (lo + k)) (KK κ (arrOf st') (lo + (l + r) / 2))
        case true =>
          simp only [if_true]
          refine wpS_pure ⟨rfl, l, (l + r) / 2, rfl, by omega, by omega, by omega, hlo, fun i h1 h2 => ?_⟩
          exact klt_of_klt_of_kle hless (hs' _ _ h1 h2)
        case false =>
          simp only [Bool.false_eq_true, if_false]
          refine wpS_pure ⟨rfl, (l + r) / 2 + 1, r, rfl, by omega, by omega, by omega, fun i h1 => ?_, hhi⟩
          exact kle_trans (hs' i ((l + r) / 2) (by omega) (by omega)) (show κ.kle _ _ from hless)
    case ipost =>
      rintro c st'' ⟨rfl, l, r, rfl, hlk, hlo, hhi⟩
      dsimp only
      rw [moveDown'_eq]
      have hks : lo + k < (arrOf st').size := by rw [hB'.size]; omega
      refine wpS_bind (wpS_modify (wpS_pure ⟨rfl, hB'.setArr (bubble_perm _ _ _) (bubble_out hks (by omega) (by omega) (by omega)), ?_⟩))
      rw [show min (k + 1) n = k + 1 by omega]
      intro i j hij hj
      show κ.kle (KK κ (bubble (arrOf st') (lo + k) (lo + k - (lo + l))) (lo + i)) (KK κ (bubble (arrOf st') (lo + k) (lo + k - (lo + l))) (lo + j))
      rw [KK_bubble hks (by omega), KK_bubble hks (by omega), show lo + k - (lo + k - (lo + l)) = lo + l by omega]
      have sub1 : ∀ m, 0 < m → lo + m - 1 = lo + (m - 1) := fun m hm => by omega
      repeat' split
      all_goals first
        | (exfalso; omega)
        | exact kle_refl _
        | exact hlo _ (by omega)
        | exact kle_of_klt (hhi _ (by omega) (by omega))
        | exact hs' _ _ (by omega) (by omega)
        | (rw [sub1 _ (by omega)]; exact hlo _ (by omega))
        | (rw [sub1 _ (by omega)]; exact kle_of_klt (hhi _ (by omega) (by omega)))
        | (rw [sub1 _ (by omega)]; exact hs' _ _ (by omega) (by omega))
        | (rw [sub1 i (by omega), sub1 j (by omega)]; exact hs' _ _ (by omega) (by omega))
end
end TS
set_option Elab.async false
set_option linter.all false
set_option maxRecDepth 100000
namespace TS
open PySem PyProof.Rows
/-- the runs that lie one behind the other from a to b -/
def Runs : List (Nat × Nat × Nat) → Nat → Nat → Prop
  | [], a, b => a = b
  | x :: r, a, b => x.1 = a ∧ 0 < x.2.1 ∧ Runs r (a + x.2.1) b
theorem Runs.append : ∀ {l r : List (Nat × Nat × Nat)} {a b : Nat}, Runs (l ++ r) a b ↔ ∃ c, Runs l a c ∧ Runs r c b
  | [], r, a, b => by
    constructor
    · intro h; exact ⟨a, rfl, h⟩
    · rintro ⟨c, e, h⟩
      have e' : a = c := e
      subst e'; exact h
  | x :: l, r, a, b => by
    show (x.1 = a ∧ 0 < x.2.1 ∧ Runs (l ++ r) (a + x.2.1) b) ↔ _
    rw [Runs.append (l := l)]
    constructor
    · rintro ⟨h1, h2, c, h3, h4⟩; exact ⟨c, ⟨h1, h2, h3⟩, h4⟩
    · rintro ⟨c, ⟨h1, h2, h3⟩, h4⟩; exact ⟨h1, h2, c, h3, h4⟩
theorem Runs.le : ∀ {l : List (Nat × Nat × Nat)} {a b : Nat}, Runs l a b → a + l.length ≤ b
  | [], a, b, h => by
    have h' : a = b := h
    rw [List.length_nil]; omega
  | x :: l, a, b, h => by
    obtain ⟨h1, h2, h3⟩ := h
    have := Runs.le h3
    rw [List.length_cons]; omega
theorem Runs.mem : ∀ {l : List (Nat × Nat × Nat)} {a b : Nat} {x : Nat × Nat × Nat}, Runs l a b → x ∈ l → a ≤ x.1 ∧ x.1 + x.2.1 ≤ b
  | [], _, _, _, _, h => by cases h
  | y :: l, a, b, x, h, hx => by
    obtain ⟨h1, h2, h3⟩ := h
    have := Runs.le h3
    rcases List.mem_cons.mp hx with rfl | hx
    · omega
    · have := Runs.mem h3 hx; omega

section
variable {κ : PyProof.Rows.KeyKind}
theorem seg_before {l t : List Keyed} {i s n : Nat} (hi : i ≤ l.length) (h : s + n ≤ i) : seg (l.take i ++ t) s n = seg l s n := by
  unfold seg
  rw [List.drop_append_of_le_length (by rw [List.length_take]; omega), List.take_append_of_le_length (by rw [List.length_drop, List.length_take]; omega), List.drop_take, List.take_take, Nat.min_eq_left (by omega)]
theorem seg_after {l u : List Keyed} {e s n : Nat} (hu : u.length = e) (h : e ≤ s) : seg (u ++ l.drop e) s n = seg l s n := by
  unfold seg
  rw [List.drop_append, List.drop_of_length_le (by omega), List.nil_append, List.drop_drop, hu, show e + (s - e) = s by omega]
theorem seg_mid {u m t : List Keyed} {i n : Nat} (hu : u.length = i) (hm : m.length = n) : seg (u ++ m ++ t) i n = m := by
  unfold seg
  rw [List.append_assoc, List.drop_append_of_le_length (by omega), List.drop_of_length_le (by omega), List.nil_append, List.take_append_of_le_length (by omega), List.take_of_length_le (by omega)]
theorem seg_same {xs ys : Array Keyed} {s n : Nat} (h : ∀ i : Nat, s ≤ i → i < s + n → xs[i]? = ys[i]?) : seg xs.toList s n = seg ys.toList s n := by
  unfold seg
  apply List.ext_getElem?
  intro i
  by_cases hi : i < n
  · rw [List.getElem?_take_of_lt hi, List.getElem?_take_of_lt hi, List.getElem?_drop, List.getElem?_drop]
    have := h (s + i) (by omega) (by omega)
    simpa using this
  · rw [List.getElem?_eq_none (by rw [List.length_take]; omega), List.getElem?_eq_none (by rw [List.length_take]; omega)]
theorem asc_seg {st : SortSt} {lo m : Nat} (hs : Asc κ st lo m) (hsz : lo + m ≤ (arrOf st).size) : (seg (arrOf st).toList lo m).Pairwise (Le κ) := by
  rw [List.pairwise_iff_getElem]
  intro i j hi hj hij
  have hj' : j < m := by rw [seg_length (by simpa using hsz)] at hj; exact hj
  have g1 := seg_get (arr := arrOf st) hi
  have g2 := seg_get (arr := arrOf st) hj
  have k1 : KK κ (arrOf st) (lo + i) = key κ (seg (arrOf st).toList lo m)[i] := by unfold KK key; rw [g1]
  have k2 : KK κ (arrOf st) (lo + j) = key κ (seg (arrOf st).toList lo m)[j] := by unfold KK key; rw [g2]
  have := hs i j (by omega) hj'
  rw [k1, k2] at this
  exact this
end
section
variable {prog : Program} {w : World} {A : Around} {E : Value → Shared → Prop} {s : Shared} {κ : PyProof.Rows.KeyKind} {kd : SortKind} {a₀ : Array Keyed}
structure RI (κ : PyProof.Rows.KeyKind) (kd : SortKind) (a₀ : Array Keyed) (hi : Nat) (st : SortSt) : Prop where
  tb : TB κ kd a₀ st
  runs : Runs (pendingOf st).toList 0 hi
  srt : ∀ x ∈ (pendingOf st).toList, (seg (arrOf st).toList x.1 x.2.1).Pairwise (Le κ)

theorem wpS_mergeR (L : LtOk κ kd prog w A s) (h0 : ∀ p ∈ a₀.toList, Has κ p) {st : SortSt} {i hi : Nat} {Q : Bool → SortSt → Prop} (R : RI κ kd a₀ hi st) (hhi : hi ≤ a₀.size) (hi1 : i + 1 < (pendingOf st).size)
    (q : ∀ st', RI κ kd a₀ hi st' → (pendingOf st').size + 1 = (pendingOf st).size → (∀ s n, hi ≤ s → seg (arrOf st').toList s n = seg (arrOf st).toList s n) → Q true st') : wpS (model prog w) A E s (mergeAt' i) Q st := by
  have hlen := R.tb.size
  have hlp : (pendingOf st).toList.length = (pendingOf st).size := by simp
  have hp : (pendingOf st).toList = (pendingOf st).toList.take i ++ (pendingOf st).toList[i]'(by omega) :: (pendingOf st).toList[i + 1]'(by omega) :: (pendingOf st).toList.drop (i + 2) := by
    rw [← List.drop_eq_getElem_cons (by omega), ← List.drop_eq_getElem_cons (by omega), List.take_append_drop]
  have g1 : (pendingOf st)[i]? = some ((pendingOf st).toList[i]'(by omega)) := by
    rw [Array.getElem?_eq_getElem (by omega)]; simp
  have g2 : (pendingOf st)[i + 1]? = some ((pendingOf st).toList[i + 1]'(by omega)) := by
    rw [Array.getElem?_eq_getElem (by omega)]; simp
  have ht : ((pendingOf st).toList.take i).length = i := by rw [List.length_take]; omega
  generalize hx : (pendingOf st).toList[i]'(by omega) = x at hp g1
  generalize hy : (pendingOf st).toList[i + 1]'(by omega) = y at hp g2
  obtain ⟨sa, na, pw⟩ := x
  obtain ⟨sb, nb, pw2⟩ := y
  have rr := R.runs
  rw [hp] at rr
  obtain ⟨c, r1, r2⟩ := Runs.append.mp rr
  obtain ⟨e1, hna, e2, hnb, r3⟩ := r2
  dsimp only at e1 hna e2 hnb r3
  have l1 := r1.le
  have l3 := r3.le
  have m1 : (sa, na, pw) ∈ (pendingOf st).toList := by rw [hp]; simp
  have m2 : (sb, nb, pw2) ∈ (pendingOf st).toList := by rw [hp]; simp
  refine wpS_mergeAt L h0 R.tb g1 g2 (by omega) hna hnb (by omega) (R.srt _ m1) (R.srt _ m2) fun st' hk hf hpd hm => ?_
  obtain ⟨m, el, pm, sm⟩ := hm.ex
  have lm : m.length = na + nb := by rw [pm.length_eq]; exact seg_length (by omega)
  have htk : ((arrOf st).toList.take sa).length = sa := by rw [List.length_take]; omega
  have pl : (pendingOf st').toList = (pendingOf st).toList.take i ++ (sa, na + nb, pw) :: (pendingOf st).toList.drop (i + 2) := by
    rw [hpd, Array.toList_eraseIdxIfInBounds, Array.toList_setIfInBounds]
    conv => lhs; rw [hp]
    rw [List.set_append, if_neg (by omega), ht, Nat.sub_self, List.set_cons_zero, List.eraseIdx_append_of_length_le (by omega), ht, show i + 1 - i = 1 by omega]
    rfl
  refine q st' ⟨⟨?_, hk, hf⟩, ?_, ?_⟩ ?_ (fun s n hs => by rw [el, seg_after (by rw [List.length_append, htk, lm]) (by omega)])
  · refine Array.Perm.trans ?_ R.tb.perm
    rw [Array.perm_iff_toList_perm, el]
    conv => rhs; rw [whole (l := (arrOf st).toList) (i := sa) (n := na + nb)]
    exact List.Perm.append_right _ (List.Perm.append_left _ pm)
  · rw [pl]
    refine Runs.append.mpr ⟨c, r1, e1, by show 0 < na + nb; omega, ?_⟩
    show Runs _ (c + (na + nb)) hi
    rw [← Nat.add_assoc]
    exact r3
  · intro z hz
    rw [pl] at hz
    rw [el]
    rcases List.mem_append.mp hz with hz | hz
    · have b := r1.mem hz
      rw [List.append_assoc, seg_before (by omega) (by omega)]
      exact R.srt z (by rw [hp]; exact List.mem_append_left _ hz)
    · rcases List.mem_cons.mp hz with rfl | hz
      · rw [seg_mid htk lm]
        exact sm
      · have b := r3.mem hz
        rw [seg_after (by rw [List.length_append, htk, lm]) (by omega)]
        exact R.srt z (by rw [hp]; exact List.mem_append_right _ (List.mem_cons_of_mem _ (List.mem_cons_of_mem _ hz)))
  · have z1 : (pendingOf st').toList.length = (pendingOf st').size := by simp
    rw [← z1, pl, ← hlp, List.length_append, List.length_cons, List.length_drop, ht]
    omega


theorem ite_pred {c : Prop} [Decidable c] (n : Nat) : (if c then n - 1 else n) ≤ n := by
  split <;> omega
theorem RI.sb {st st2 : SortSt} {lo N : Nat} (R : RI κ kd a₀ lo st) (B : SB κ kd st lo N st2) : RI κ kd a₀ lo st2 := by
  refine ⟨⟨B.perm.trans R.tb.perm, B.kind, B.failed⟩, by rw [B.pend]; exact R.runs, fun x hx => ?_⟩
  rw [B.pend] at hx
  have b := R.runs.mem hx
  rw [seg_same (ys := arrOf st) fun i h1 h2 => B.out i (.inl (by omega))]
  exact R.srt x hx
theorem RI.push {st : SortSt} {lo n : Nat} (R : RI κ kd a₀ lo st) (hn : 0 < n) (hs : (seg (arrOf st).toList lo n).Pairwise (Le κ)) : RI κ kd a₀ (lo + n) (setPending st ((pendingOf st).push (lo, n, 0))) := by
  have e : ((pendingOf st).push (lo, n, 0)).toList = (pendingOf st).toList ++ [(lo, n, 0)] := Array.toList_push
  refine ⟨⟨R.tb.perm, R.tb.kind, R.tb.failed⟩, ?_, ?_⟩
  · show Runs ((pendingOf st).push (lo, n, 0)).toList 0 (lo + n)
    rw [e]
    exact Runs.append.mpr ⟨lo, R.runs, rfl, hn, rfl⟩
  · show ∀ x ∈ ((pendingOf st).push (lo, n, 0)).toList, (seg (arrOf st).toList x.1 x.2.1).Pairwise (Le κ)
    rw [e]
    intro x hx
    rcases List.mem_append.mp hx with hx | hx
    · exact R.srt x hx
    · rw [List.mem_singleton.mp hx]; exact hs
theorem Runs.modify {f : Nat × Nat × Nat → Nat × Nat × Nat} (hf : ∀ x, (f x).1 = x.1 ∧ (f x).2.1 = x.2.1) : ∀ {l : List (Nat × Nat × Nat)} {i a b : Nat}, Runs l a b → Runs (l.modify i f) a b
  | [], i, a, b, h => by rw [List.modify_nil]; exact h
  | x :: l, 0, a, b, h => by
    rw [List.modify_zero_cons]
    obtain ⟨h1, h2, h3⟩ := h
    exact ⟨(hf x).1.trans h1, by rw [(hf x).2]; exact h2, by rw [(hf x).2]; exact h3⟩
  | x :: l, i + 1, a, b, h => by
    rw [List.modify_succ_cons]
    obtain ⟨h1, h2, h3⟩ := h
    exact ⟨h1, h2, Runs.modify hf h3⟩
theorem mem_modify {f : Nat × Nat × Nat → Nat × Nat × Nat} (hf : ∀ x, (f x).1 = x.1 ∧ (f x).2.1 = x.2.1) : ∀ {l : List (Nat × Nat × Nat)} {i : Nat} {x : Nat × Nat × Nat}, x ∈ l.modify i f → ∃ y ∈ l, x.1 = y.1 ∧ x.2.1 = y.2.1
  | [], i, x, h => by rw [List.modify_nil] at h; cases h
  | y :: l, 0, x, h => by
    rw [List.modify_zero_cons] at h
    rcases List.mem_cons.mp h with rfl | h
    · exact ⟨y, List.mem_cons_self, hf y⟩
    · exact ⟨x, List.mem_cons_of_mem _ h, rfl, rfl⟩
  | y :: l, i + 1, x, h => by
    rw [List.modify_succ_cons] at h
    rcases List.mem_cons.mp h with rfl | h
    · exact ⟨x, List.mem_cons_self, rfl, rfl⟩
    · obtain ⟨z, hz, e⟩ := mem_modify hf h
      exact ⟨z, List.mem_cons_of_mem _ hz, e⟩
theorem RI.modify {st : SortSt} {lo i : Nat} {f : Nat × Nat × Nat → Nat × Nat × Nat} (hf : ∀ x, (f x).1 = x.1 ∧ (f x).2.1 = x.2.1) (R : RI κ kd a₀ lo st) : RI κ kd a₀ lo (setPending st ((pendingOf st).modify i f)) := by
  have e : ((pendingOf st).modify i f).toList = (pendingOf st).toList.modify i f := Array.toList_modify
  refine ⟨⟨R.tb.perm, R.tb.kind, R.tb.failed⟩, ?_, ?_⟩
  · show Runs ((pendingOf st).modify i f).toList 0 lo
    rw [e]
    exact Runs.modify hf R.runs
  · show ∀ x ∈ ((pendingOf st).modify i f).toList, (seg (arrOf st).toList x.1 x.2.1).Pairwise (Le κ)
    rw [e]
    intro x hx
    obtain ⟨y, hy, e1, e2⟩ := mem_modify hf hx
    rw [e1, e2]
    exact R.srt y hy

set_option maxHeartbeats 4000000 in
theorem wpS_sortRuns (L : LtOk κ kd prog w A s) (h0 : ∀ p ∈ a₀.toList, Has κ p) {st : SortSt} {Q : Unit → SortSt → Prop} (hB : TB κ kd a₀ st) (hp : pendingOf st = #[]) (h2 : 2 ≤ a₀.size)
    (q : ∀ st', (arrOf st').Perm a₀ → failedOf st' = none → (arrOf st').toList.Pairwise (Le κ) → Q () st') : wpS (model prog w) A E s sortRuns' Q st := by
  rw [sortRuns'_eq]
  dsimp only
  refine wpS_bind (wpS_get ?_)
  have hsz : (arrOf st).size = a₀.size := hB.perm.size_eq
  rw [hsz]
  generalize hmr : minRun' a₀.size a₀.size 0 = mr
  have R0 : RI κ kd a₀ 0 st := ⟨hB, by rw [hp]; rfl, fun x hx => by rw [hp] at hx; cases hx⟩
  refine wpS_bind (wpS_mono (wpS_forRange
    (I := fun x c st' => ∃ lo, c = (none, lo) ∧ RI κ kd a₀ lo st' ∧ lo ≤ a₀.size ∧ x ≤ lo)
    (Q := fun c st' => c = (none, a₀.size) ∧ RI κ kd a₀ a₀.size st') ?step ?fin ⟨0, rfl, R0, Nat.zero_le _, Nat.le_refl _⟩) ?post)
  case fin =>
    rintro c st' ⟨lo, rfl, R, h1, h2⟩
    have e : lo = a₀.size := by omega
    subst e
    exact ⟨rfl, R⟩
  case post =>
    rintro c st' ⟨rfl, R⟩
    dsimp only
    refine wpS_bind (wpS_mono (wpS_forRange
      (I := fun x c st'' => c = (none, ()) ∧ RI κ kd a₀ a₀.size st'' ∧ (pendingOf st'').size ≤ max 1 (a₀.size - x))
      (Q := fun c st'' => c = (none, ()) ∧ RI κ kd a₀ a₀.size st'' ∧ (pendingOf st'').size ≤ 1) ?s2 ?f2 ?i2) ?p2)
    case i2 =>
      refine ⟨rfl, R, ?_⟩
      have := R.runs.le
      have e : (pendingOf st').toList.length = (pendingOf st').size := by simp
      omega
    case f2 =>
      rintro c st'' ⟨rfl, R', h⟩
      exact ⟨rfl, R', by omega⟩
    case p2 =>
      rintro c st'' ⟨rfl, R', h⟩
      refine wpS_pure (q st'' R'.tb.perm R'.tb.failed ?_)
      have rr := R'.runs
      have ss := R'.srt
      have e : (pendingOf st'').toList.length = (pendingOf st'').size := by simp
      cases hl : (pendingOf st'').toList with
      | nil =>
        rw [hl] at rr
        have : 0 = a₀.size := rr
        omega
      | cons x r =>
        rw [hl] at rr ss e
        have hr : r = [] := by
          rw [List.length_cons] at e
          exact List.length_eq_zero_iff.mp (by omega)
        subst hr
        obtain ⟨e1, _, e2⟩ := rr
        have e2' : 0 + x.2.1 = a₀.size := e2
        have := ss x List.mem_cons_self
        rw [e1] at this
        have hlen := R'.tb.size
        unfold seg at this
        rw [List.drop_zero, List.take_of_length_le (by omega)] at this
        exact this
    case s2 =>
      rintro x c st'' _ hx ⟨rfl, R', h⟩
      refine wpS_bind (wpS_get ?_)
      by_cases c1 : (pendingOf st'').size ≤ 1
      · rw [if_pos c1]
        exact wpS_pure ⟨rfl, R', c1⟩
      rw [if_neg c1]
      refine wpS_bind (wpS_mergeR L h0 R' (Nat.le_refl _) ?_ fun st3 R3 hs3 _ => ?_)
      · exact Nat.lt_of_le_of_lt (Nat.succ_le_succ (ite_pred _)) (by omega)
      · exact wpS_pure ⟨rfl, R3, by omega⟩
  case step =>
    rintro x c st1 _ hx ⟨lo, rfl, R1, hlo, hxl⟩
    dsimp only
    by_cases c1 : lo ≥ a₀.size
    · rw [if_pos c1]
      have e : lo = a₀.size := by omega
      subst e
      exact wpS_pure ⟨rfl, R1⟩
    rw [if_neg c1]
    have hs1 : (arrOf st1).size = a₀.size := R1.tb.perm.size_eq
    have hH1 := R1.tb.has h0
    have B1 : SB κ kd st1 lo (a₀.size - lo) st1 := ⟨Array.Perm.refl _, R1.tb.kind, R1.tb.failed, rfl, fun _ _ => rfl⟩
    refine wpS_bind (wpS_countRunL L hH1 (by omega) (by omega) B1 fun m st2 B2 hm1 hm2 hs2 => ?_)
    dsimp only
    by_cases c2 : m < mr
    · rw [if_pos c2]
      refine wpS_bind (wpS_lift (wpAny_rule ⟨rfl, ?_⟩))
      refine wpS_bind (wpS_binarySortL L hH1 (n := min (a₀.size - lo) mr) (by omega) (by omega) (by omega) B2 hs2 fun st3 B3 hs3 => ?_)
      rw [if_neg (by simp)]
      have R3 := R1.sb B3
      have hsz3 : (arrOf st3).size = a₀.size := R3.tb.perm.size_eq
      have sg := asc_seg hs3 (by omega)
      generalize hn : min (a₀.size - lo) mr = n at sg
      have hn0 : 0 < n := by omega
      have hnl : lo + n ≤ a₀.size := by omega
      refine wpS_bind (wpS_get ?_)
      cases hbk : (pendingOf st3).back? with
      | none =>
        dsimp only
        exact wpS_bind (wpS_modify (wpS_pure ⟨_, rfl, R3.push hn0 sg, hnl, by omega⟩))
      | some z =>
        obtain ⟨s1, n1, p1⟩ := z
        dsimp only
        refine wpS_bind (wpS_mono (wpS_forRange
          (I := fun _ c st' => c = (none, ()) ∧ RI κ kd a₀ lo st' ∧ (seg (arrOf st').toList lo n).Pairwise (Le κ))
          (Q := fun c st' => c = (none, ()) ∧ RI κ kd a₀ lo st' ∧ (seg (arrOf st').toList lo n).Pairwise (Le κ)) ?_ (fun _ _ h => h) ⟨rfl, R3, sg⟩) ?_)
        · rintro y c st4 _ hy ⟨rfl, R4, sg4⟩
          refine wpS_bind (wpS_get ?_)
          by_cases c4 : (pendingOf st4).size > 1
          · rw [if_pos c4]
            have g : (pendingOf st4)[(pendingOf st4).size - 2]? = some ((pendingOf st4)[(pendingOf st4).size - 2]'(by omega)) := Array.getElem?_eq_getElem (by omega)
            rw [g]
            dsimp only
            split
            · exact wpS_pure ⟨rfl, R4, sg4⟩
            · refine wpS_bind (wpS_mergeR L h0 R4 (by omega) (by omega) fun st5 R5 _ hs5 => ?_)
              exact wpS_pure ⟨rfl, R5, by rw [hs5 lo n (Nat.le_refl _)]; exact sg4⟩
          · rw [if_neg c4]
            exact wpS_pure ⟨rfl, R4, sg4⟩
        · rintro c st4 ⟨rfl, R4, sg4⟩
          dsimp only
          refine wpS_bind (wpS_modify (wpS_bind (wpS_modify (wpS_pure ⟨_, rfl, ?_, hnl, by omega⟩))))
          refine RI.push (RI.modify ?_ R4) hn0 sg4
          exact fun _ => ⟨rfl, rfl⟩
    · rw [if_neg c2]
      have R3 := R1.sb B2
      have hsz3 : (arrOf st2).size = a₀.size := R3.tb.perm.size_eq
      have sg := asc_seg hs2 (by omega)
      have hn0 : 0 < m := by omega
      have hnl : lo + m ≤ a₀.size := by omega
      refine wpS_bind (wpS_get ?_)
      cases hbk : (pendingOf st2).back? with
      | none =>
        dsimp only
        exact wpS_bind (wpS_modify (wpS_pure ⟨_, rfl, R3.push hn0 sg, hnl, by omega⟩))
      | some z =>
        obtain ⟨s1, n1, p1⟩ := z
        dsimp only
        refine wpS_bind (wpS_mono (wpS_forRange
          (I := fun _ c st' => c = (none, ()) ∧ RI κ kd a₀ lo st' ∧ (seg (arrOf st').toList lo m).Pairwise (Le κ))
          (Q := fun c st' => c = (none, ()) ∧ RI κ kd a₀ lo st' ∧ (seg (arrOf st').toList lo m).Pairwise (Le κ)) ?_ (fun _ _ h => h) ⟨rfl, R3, sg⟩) ?_)
        · rintro y c st4 _ hy ⟨rfl, R4, sg4⟩
          refine wpS_bind (wpS_get ?_)
          by_cases c4 : (pendingOf st4).size > 1
          · rw [if_pos c4]
            have g : (pendingOf st4)[(pendingOf st4).size - 2]? = some ((pendingOf st4)[(pendingOf st4).size - 2]'(by omega)) := Array.getElem?_eq_getElem (by omega)
            rw [g]
            dsimp only
            split
            · exact wpS_pure ⟨rfl, R4, sg4⟩
            · refine wpS_bind (wpS_mergeR L h0 R4 (by omega) (by omega) fun st5 R5 _ hs5 => ?_)
              exact wpS_pure ⟨rfl, R5, by rw [hs5 lo m (Nat.le_refl _)]; exact sg4⟩
          · rw [if_neg c4]
            exact wpS_pure ⟨rfl, R4, sg4⟩
        · rintro c st4 ⟨rfl, R4, sg4⟩
          dsimp only
          refine wpS_bind (wpS_modify (wpS_bind (wpS_modify (wpS_pure ⟨_, rfl, ?_, hnl, by omega⟩))))
          refine RI.push (RI.modify ?_ R4) hn0 sg4
          exact fun _ => ⟨rfl, rfl⟩
end
end TS
set_option Elab.async false
set_option linter.all false
set_option maxRecDepth 100000
namespace TS
open PySem PyProof.Rows
section
variable {prog : Program} {w : World} {A : Around} {E : Value → Shared → Prop} {s : Shared} {κ : PyProof.Rows.KeyKind} {kd : SortKind}
def kv (κ : PyProof.Rows.KeyKind) (v : Value) : κ.α := (κ.keyOf v).getD κ.dflt
/-- a list in the order of its keys -/
def Sorted (κ : PyProof.Rows.KeyKind) (l : List Value) : Prop := l.Pairwise fun u v => κ.kle (kv κ u) (kv κ v)
theorem mem_pairs {vs : List Value} {p : Keyed} (h : p ∈ (pairsOf vs).toList) : p.1 = p.2 ∧ p.1 ∈ vs := by
  rw [pairsOf_toList] at h
  exact mem_zip_self h
theorem out_perm {vs : List Value} {xs : Array Keyed} (hp : xs.Perm (pairsOf vs)) : (xs.map (·.2)).toList.Perm vs := by
  have h1 : xs.toList.Perm (vs.zip vs) := by rw [← pairsOf_toList]; exact Array.perm_iff_toList_perm.mp hp
  have h2 := h1.map (·.2)
  rw [Array.toList_map]
  rwa [List.map_snd_zip (Nat.le_refl _)] at h2
theorem out_sorted {vs : List Value} {xs : Array Keyed} (hp : xs.Perm (pairsOf vs)) (hs : xs.toList.Pairwise (Le κ)) : Sorted κ (xs.map (·.2)).toList := by
  unfold Sorted
  rw [Array.toList_map, List.pairwise_map]
  refine hs.imp_of_mem fun {p q} hp' hq' h => ?_
  have e1 := (mem_pairs ((Array.perm_iff_toList_perm.mp hp).mem_iff.mp hp')).1
  have e2 := (mem_pairs ((Array.perm_iff_toList_perm.mp hp).mem_iff.mp hq')).1
  show κ.kle (kv κ p.2) (kv κ q.2)
  rw [← e1, ← e2]
  exact h

theorem pw_short {α : Type} {R : α → α → Prop} : ∀ {l : List α}, l.length < 2 → l.Pairwise R
  | [], _ => .nil
  | [x], _ => List.pairwise_singleton _ _
  | _ :: _ :: _, h => absurd h (by rw [List.length_cons, List.length_cons]; omega)

theorem list_sort_gen {a : Addr} {vs : List Value} {n : Nat} {P : PySem.Fin → Shared → Prop} (ho : s.heap.get? a = some (seqObj "list" vs.toArray n)) (h0 : ∀ v ∈ vs, ∃ k, κ.keyOf v = some k)
    (hkk : ∀ h', (∀ b o, b ≠ a → s.heap.get? b = some o → h'.get? b = some o) → 2 ≤ vs.length → ∀ (Q : SortKind → Shared → Prop), Q kd { s with heap := h' } → wpAny (model prog w) A (keyKind' vs.toArray) Q E { s with heap := h' })
    (hL : ∀ h', (∀ b o, b ≠ a → s.heap.get? b = some o → h'.get? b = some o) → LtOk κ kd prog w A { s with heap := h' }) (hz : vs.length ≤ sizeLine)
    (h : ∀ out : Array Value, out.toList.Perm vs → Sorted κ out.toList → P (.done (.ret .none)) { s with heap := sortedHeap s.heap a vs out }) :
    wpAny (model prog w) A (Builtin.«list.sort» ⟨[.ref a], []⟩) P E s := by
  rw [list_sort_plain]
  have ha : a < s.heap.objs.size := Heap.lt_size ho
  refine wpAny_bind (listItems_at ho rfl ?_)
  refine wpAny_bind (listUpdate_at ho rfl ?_)
  obtain ⟨e1, ho1⟩ : ∃ e1, (s.heap.update a (Obj.mapSeq fun _ => #[])).get? a = some (seqObj "list" #[] e1) := ⟨_, get?_update_seq ho (fun _ => #[])⟩
  refine wpAny_bind (seqEpoch_at ho1 rfl ?_)
  refine wpAny_bind (wpAny_newTuple ?_)
  refine wpAny_bind (wpAny_newList ?_)
  refine wpAny_holding ?_
  have ho6 : (((s.heap.update a (Obj.mapSeq fun _ => #[])).push (seqObj "tuple" vs.toArray 0)).push (seqObj "list" #[] 0)).get? a = some (seqObj "list" #[] e1) := by
    rw [Heap.get?_push_ne _ _ _ (by rw [size_push', Heap.size_update]; exact Nat.ne_of_lt (Nat.lt_succ_of_lt ha)), Heap.get?_push_ne _ _ _ (by rw [Heap.size_update]; exact Nat.ne_of_lt ha)]
    exact ho1
  have kp : ∀ b o, b ≠ a → s.heap.get? b = some o → (((s.heap.update a (Obj.mapSeq fun _ => #[])).push (seqObj "tuple" vs.toArray 0)).push (seqObj "list" #[] 0)).get? b = some o := fun b o hb e =>
    Heap.get?_push_of_some _ (Heap.get?_push_of_some _ ((Heap.get?_update_other _ _ (Ne.symm hb)).trans e))
  show wpAny (model prog w) A _ P E { s with heap := ((s.heap.update a (Obj.mapSeq fun _ => #[])).push (seqObj "tuple" vs.toArray 0)).push (seqObj "list" #[] 0) }
  dsimp only
  have hsz : vs.toArray.size = vs.length := by simp
  by_cases h2 : vs.toArray.size < 2
  · rw [if_pos h2, if_pos h2]
    refine wpAny_bind (wpAny_pure ?_)
    rw [StateT.run_pure]
    refine wpAny_bind (wpAny_pure ?_)
    dsimp only
    refine wpAny_bind (seqEpoch_at ho6 rfl ?_)
    refine wpAny_bind (listUpdate_at ho6 rfl ?_ (hsz2 := by rw [Array.size_map]; show (pairsOf vs).size ≤ _; rw [pairsOf_size]; exact Nat.le_succ_of_le hz))
    simp only [bne_self_eq_false, Bool.false_eq_true, if_false]
    refine wpAny_pure (h _ (out_perm (Array.Perm.refl (pairsOf vs))) ?_)
    exact pw_short (Nat.lt_of_le_of_lt (Nat.le_of_eq (out_perm (Array.Perm.refl (pairsOf vs))).length_eq) (by omega))
  · rw [if_neg h2, if_neg h2]
    refine wpAny_bind (hkk _ kp (by omega) _ ?_)
    refine wpAny_bind (wpAny_mono (wpS_sortRuns (hL _ kp) (a₀ := pairsOf vs) (st := SortSt.mk' kd (vs.toArray.zip vs.toArray) #[] 7 none)
      (Q := fun _ st' => (arrOf st').Perm (pairsOf vs) ∧ failedOf st' = none ∧ (arrOf st').toList.Pairwise (Le κ))
      (fun p hp => h0 _ (mem_pairs hp).2) ⟨Array.Perm.refl _, rfl, rfl⟩ rfl (by rw [pairsOf_size]; omega) fun st' a1 a2 a3 => ⟨a1, a2, a3⟩) ?_ fun _ _ e => e)
    rintro ⟨⟨⟩, st'⟩ s' ⟨rfl, hp, hf, hs⟩
    dsimp only
    refine wpAny_bind (seqEpoch_at ho6 rfl ?_)
    refine wpAny_bind (listUpdate_at ho6 rfl ?_ (hsz2 := by refine Nat.le_trans (Nat.le_of_eq ((Array.size_map ..).trans (hp.size_eq.trans (pairsOf_size _)))) (Nat.le_succ_of_le hz)))
    rw [hf]
    simp only [bne_self_eq_false, Bool.false_eq_true, if_false]
    exact wpAny_pure (h _ (out_perm hp) (out_sorted hp hs))

/-- what stood there stands, and the new list -/
theorem sortedHeap_keep {h : Heap} {vs : List Value} {out : Array Value} {b : Addr} {o : Obj} (e : h.get? b = some o) : (sortedHeap (h.push (seqObj "list" vs.toArray 0)) h.objs.size vs out).get? b = some o := by
  rw [sortedHeap_old (Nat.ne_of_lt (Heap.lt_size e)) (by rw [size_push']; exact Nat.lt_succ_of_lt (Heap.lt_size e))]
  exact Heap.get?_push_of_some _ e
theorem sortedHeap_new {h : Heap} {vs : List Value} {out : Array Value} : ∃ e, (sortedHeap (h.push (seqObj "list" vs.toArray 0)) h.objs.size vs out).get? h.objs.size = some (seqObj "list" out e) :=
  sortedHeap_at (Heap.get?_push_size _ rfl)
end
end TS
set_option Elab.async false
set_option linter.all false
set_option maxRecDepth 100000
namespace TS
open PySem PyProof.Rows
section
variable {prog : Program} {w : World} {A : Around} {E : Value → Shared → Prop} {s : Shared} {κ : PyProof.Rows.KeyKind} {kd : SortKind}
/-- what is asked of what was collected -/
structure Col (κ : PyProof.Rows.KeyKind) (kd : SortKind) (prog : Program) (w : World) (E : Value → Shared → Prop) (vs : List Value) (s2 : Shared) : Prop where
  keys : ∀ v ∈ vs, ∃ k, κ.keyOf v = some k
  kind : ∀ (A' : Around) h', (∀ b o, s2.heap.get? b = some o → h'.get? b = some o) → 2 ≤ vs.length → ∀ (Q : SortKind → Shared → Prop), Q kd { s2 with heap := h' } → wpAny (model prog w) A' (keyKind' vs.toArray) Q E { s2 with heap := h' }
  lt : ∀ (A' : Around) h', (∀ b o, s2.heap.get? b = some o → h'.get? b = some o) → LtOk κ kd prog w A' { s2 with heap := h' }
  size : vs.length ≤ sizeLine
theorem sorted_gen2 {x : Value} {Q : Value → Shared → Prop}
    (hcol : ∀ (A' : Around), A'.handled = A.handled → wpAny (model prog w) A' (collect x) (fun vs s2 => Col κ kd prog w E vs s2 ∧ ∀ (out : Array Value) h', out.toList.Perm vs → Sorted κ out.toList → (∀ b o, s2.heap.get? b = some o → h'.get? b = some o) →
      (∃ e, h'.get? s2.heap.objs.size = some (seqObj "list" out e)) → Q (.ref s2.heap.objs.size) { s2 with heap := h' }) E s) :
    wpAny (model prog w) A (call (.builtin "sorted") [x]) Q E s := by
  refine Calls.call_function_entry kind_sorted plain_sorted entry_sorted (args_sorted1 _) ?_
  unfold Builtin.«sorted»
  refine wpAny_bind (m := checkCount "sorted" 1 1 _) (wpAny_pure ?_)
  refine wpAny_bind (wpAny_mono (hcol _ rfl) (fun vs s2 hc => ?_) fun _ _ e => e)
  obtain ⟨⟨h0, hkk, hL, hz⟩, h⟩ := hc
  refine wpAny_bind (wpAny_newList ?_)
  have hoL : (s2.heap.push (seqObj "list" vs.toArray 0)).get? s2.heap.objs.size = some (seqObj "list" vs.toArray 0) := Heap.get?_push_size _ rfl
  have up : ∀ {h' : Heap}, (∀ b o, b ≠ s2.heap.objs.size → (s2.heap.push (seqObj "list" vs.toArray 0)).get? b = some o → h'.get? b = some o) → ∀ b o, s2.heap.get? b = some o → h'.get? b = some o := fun k b o e =>
    k b o (Nat.ne_of_lt (Heap.lt_size e)) (Heap.get?_push_of_some _ e)
  show wpAny _ _ _ _ _ { s2 with heap := s2.heap.push (seqObj "list" vs.toArray 0) }
  refine wpAny_bind (wpAny_holding (wpAny_call_entry slot_list_sort ⟨_, hoL, rfl⟩ entry_list_sort (list_sort_gen hoL h0 (fun h' k hl Q' hq => hkk _ h' (up k) hl Q' hq) (fun h' k => hL _ h' (up k)) hz fun out a1 a2 => ⟨_, rfl, ?_⟩) (args_list_sort _)))
  exact wpAny_pure ⟨_, rfl, h out _ a1 a2 (fun b o e => sortedHeap_keep e) sortedHeap_new⟩

theorem lt_strs : LtOk PyProof.Rows.strKind oneType' prog w A s := by
  intro E x y a b Q ha hb h
  rw [keyLt'_oneType]
  exact strKind_oneLt prog w A E s x y a b ha hb h
theorem kind_strs {vs : List Value} (hv : ∀ v ∈ vs, ∃ x t, v = Value.str x t) (h2 : 2 ≤ vs.length) {Q : SortKind → Shared → Prop} (h : Q oneType' s) : wpAny (model prog w) A (keyKind' vs.toArray) Q E s :=
  PySem.W.kas_kind (T := .type "str") h2 (fun v hm => by obtain ⟨x, t, rfl⟩ := hv v hm; exact PySem.W.Looks.of_pure rfl) (by decide) (by decide) h
end
end TS
set_option Elab.async false
set_option linter.all false
set_option maxRecDepth 100000
namespace SW
open PySem PyProof.Rows
section
variable {prog : Program} {w : World} {A : Around} {E : Value → Shared → Prop} {s : Shared}
end
section
variable {prog : Program} {w : World} {A : Around} {R : Result → Shared → Prop} {I : Addr} {fp wr : List Addr} {G : Array GenState → Array GenState → Prop} {n : Nat} {P : Nat → Value → Prop} {St : Nat → Shared → Prop}
end
section
variable {prog : Program} {w : World} {A : Around} {E : Value → Shared → Prop} {s : Shared}
end
end SW
set_option Elab.async false
set_option linter.all false
set_option maxRecDepth 100000
namespace SW
open PySem PyProof.Rows
section
variable {M : Model} {A : Around} {E : Value → Shared → Prop} {s : Shared}
end
section
variable {prog : Program} {w : World} {A : Around} {E : Value → Shared → Prop} {s : Shared} {it a : Addr} {n ep i : Nat} {first : Value}
end
end SW
set_option Elab.async false
set_option linter.all false
set_option maxRecDepth 100000
namespace SW
open PySem PyProof.Rows
section
variable {prog : Program} {w : World} {A : Around} {E : Value → Shared → Prop} {s : Shared} {it a : Addr} {n ep i : Nat} {first : Value}
end
end SW
set_option Elab.async false
set_option linter.all false
set_option maxRecDepth 100000
namespace SW
open PySem PyProof.Rows
section
variable {prog : Program} {w : World} {A : Around} {E : Value → Shared → Prop} {s : Shared}
/-- a list or a tuple collected; the heap only grows -/
theorem col_seq {Q : List Value → Shared → Prop} (it : Addr) {T : String} {o : Obj} {items : Array Value} {n : Nat} (hT : T = "list" ∨ T = "tuple") (ho : s.heap.get? it = some o) (hc : o.cls = .type T) (hd : o.data = .seq items n)
    (hQ : ∀ h', (∀ b u, s.heap.get? b = some u → h'.get? b = some u) → s.heap.objs.size ≤ h'.objs.size → Q items.toList { s with heap := h' }) (hsz : items.size ≤ sizeLine) : wpAny (model prog w) A (collect (.ref it)) Q E s := by
  unfold collect
  refine wpAny_bind (wpAny_runValue (codeAny_builtin PySem.F.entry_proto_collect ?_))
  rw [Around.under_plainId PySem.F.plain_proto_collect _]
  show wpAny _ A.in1 (newList [] >>= fun l => again (.builtin "list.__iadd__" ⟨[l, .ref it], []⟩)) _ _ s
  refine wpAny_bind (wpAny_newObj_type ?_)
  refine wpAny_pure ⟨plainId_quiet PySem.F.plain_list_iadd _, codeAny_builtin PySem.F.entry_list_iadd ?_⟩
  rw [Around.under_plainId PySem.F.plain_list_iadd _]
  show wpAny _ A.in1 (Builtin.List.listExtendWith (.ref s.heap.objs.size) (.ref it) (.ref s.heap.objs.size)) _ _ _
  have hS : (s.heap.push { cls := .type "list", data := .seq ([] : List Value).toArray }).get? s.heap.objs.size = some { cls := .type "list", data := .seq #[] 0 } := Heap.get?_push_size _ rfl
  have hS2 := Heap.get?_update_self (Obj.mapSeq (· ++ items)) hS rfl
  have fin2 : wpAny (model prog w) A (match Value.ref s.heap.objs.size with
      | Value.ref a => do
        match (← load a).data with
          | Data.seq xs _ => pure xs.toList
          | _ => unsupported "internal:collect"
      | _ => unsupported "internal:collect") Q E { s with heap := (s.heap.push { cls := .type "list", data := .seq ([] : List Value).toArray }).update s.heap.objs.size (Obj.mapSeq (· ++ items)) } := by
    show wpAny _ A (load s.heap.objs.size >>= _) _ _ _
    refine wpAny_bind (wpAny_load hS2 (wpAny_pure ?_))
    have e : ((#[] : Array Value) ++ items).toList = items.toList := by simp
    show Q ((#[] : Array Value) ++ items).toList _
    rw [e]
    refine hQ _ (fun b u hb => (Heap.get?_update_other _ _ (Nat.ne_of_gt (Heap.lt_size hb))).trans (Heap.get?_push_of_some _ hb)) ?_
    rw [Heap.size_update, Heap.size_push]
    exact Nat.le_succ _
  refine wpAny_mono (wpAny_extend_seq (hsz := hsz) (A := A) (R := fun r s' => r = .ok (.ret (.ref s.heap.objs.size)) ∧ s' = { s with heap := (s.heap.push { cls := .type "list", data := .seq ([] : List Value).toArray }).update s.heap.objs.size (Obj.mapSeq (· ++ items)) })
    (s := { s with heap := s.heap.push { cls := .type "list", data := .seq ([] : List Value).toArray } }) _ it _ 0 hT hS (Heap.get?_push_of_some _ ho) hc hd ⟨rfl, rfl⟩) (fun fin s' h => ?_) (fun e s' h => ?_)
  · cases fin with
    | done f =>
      obtain ⟨e, rfl⟩ := h
      cases e
      exact fin2
    | again c => exact ⟨h.1, codeAny_mono h.2 fun r s2 hr => by obtain ⟨rfl, rfl⟩ := hr; exact fin2⟩
  · exact absurd h.1 (by simp)
end
end SW
set_option linter.all false
namespace MA
end MA
set_option linter.all false
namespace MB
open MA
end MB
namespace MT
theorem lt_total (a b : List Nat) : a < b ∨ a = b ∨ b < a := by
  by_cases h : a < b
  · exact .inl h
  · by_cases k : b < a
    · exact .inr (.inr k)
    · exact .inr (.inl (List.le_antisymm (List.not_lt.mp k) (List.not_lt.mp h)))
end MT
namespace MP
def turn (t : List Nat) (i : Nat) : List Nat := t.drop i ++ t.take i
def turns (t : List Nat) : List (List Nat) := (List.range t.length).map (turn t)
theorem turn_len {t : List Nat} {i : Nat} (h : i ≤ t.length) : (turn t i).length = t.length := by unfold turn; rw [List.length_append, List.length_drop, List.length_take]; omega
structure IsRows (t : List Nat) (rows : List (List Nat)) : Prop where
  perm : rows.Perm (turns t)
  ord : rows.Pairwise fun x y => ¬ y < x
theorem eq_of_perm_ord : ∀ {a b : List (List Nat)}, a.Perm b → (a.Pairwise fun x y => ¬ y < x) → (b.Pairwise fun x y => ¬ y < x) → a = b
  | [], b, h, _, _ => (List.nil_perm.mp h).symm
  | x :: a, [], h, _, _ => absurd h.length_eq (by simp)
  | x :: a, y :: b, h, ha, hb => by
    obtain ⟨ha1, ha2⟩ := List.pairwise_cons.mp ha
    obtain ⟨hb1, hb2⟩ := List.pairwise_cons.mp hb
    have e : x = y := by
      have hx : x ∈ y :: b := h.mem_iff.mp (by simp)
      have hy : y ∈ x :: a := h.mem_iff.mpr (by simp)
      rcases List.mem_cons.mp hx with e | hx
      · exact e
      rcases List.mem_cons.mp hy with e | hy
      · exact e.symm
      rcases MT.lt_total x y with c | c | c
      · exact absurd c (hb1 x hx)
      · exact c
      · exact absurd c (ha1 y hy)
    subst e
    rw [eq_of_perm_ord ((List.perm_cons x).mp h) ha2 hb2]
theorem IsRows.uniq {t : List Nat} {a b : List (List Nat)} (h : IsRows t a) (k : IsRows t b) : a = b := eq_of_perm_ord (h.perm.trans k.perm.symm) h.ord k.ord
theorem IsRows.len {t : List Nat} {a : List (List Nat)} (h : IsRows t a) : a.length = t.length := by rw [h.perm.length_eq, turns, List.length_map, List.length_range]
theorem IsRows.row {t : List Nat} {a : List (List Nat)} (h : IsRows t a) {r : List Nat} (hr : r ∈ a) : r.length = t.length ∧ ∀ c ∈ r, c ∈ t := by
  obtain ⟨i, hi, rfl⟩ := List.mem_map.mp (h.perm.mem_iff.mp hr)
  refine ⟨turn_len (by have := List.mem_range.mp hi; omega), fun c hc => ?_⟩
  rcases List.mem_append.mp hc with hc | hc
  · exact List.mem_of_mem_drop hc
  · exact List.mem_of_mem_take hc
def lastC (r : List Nat) : Nat := r.getD (r.length - 1) 0
def lastOf (rows : List (List Nat)) : List Nat := rows.map lastC
def placeOf (t : List Nat) (rows : List (List Nat)) : Nat := (rows.filter fun r => decide (r < t)).length
/-- the first place of t among the rows -/
theorem placeOf_first {t : List Nat} : ∀ {rows : List (List Nat)}, (rows.Pairwise fun x y => ¬ y < x) → t ∈ rows → rows[placeOf t rows]? = some t ∧ ∀ i, i < placeOf t rows → rows[i]? ≠ some t
  | [], _, h => absurd h (by simp)
  | x :: a, ho, h => by
    obtain ⟨h1, h2⟩ := List.pairwise_cons.mp ho
    by_cases c : x < t
    · have e : placeOf t (x :: a) = placeOf t a + 1 := by unfold placeOf; rw [List.filter_cons, if_pos (decide_eq_true c), List.length_cons]
      have hm : t ∈ a := by
        rcases List.mem_cons.mp h with e | h
        · exact absurd c (e ▸ List.lt_irrefl _)
        · exact h
      obtain ⟨k1, k2⟩ := placeOf_first h2 hm
      rw [e]
      refine ⟨by rw [List.getElem?_cons_succ]; exact k1, fun i hi => ?_⟩
      cases i with
      | zero => intro z; rw [List.getElem?_cons_zero] at z; cases z; exact List.lt_irrefl _ c
      | succ i => rw [List.getElem?_cons_succ]; exact k2 i (by omega)
    · have hx : x = t := by
        rcases List.mem_cons.mp h with e | h
        · exact e.symm
        · rcases MT.lt_total x t with d | d | d
          · exact absurd d c
          · exact d
          · exact absurd d (h1 t h)
      subst hx
      have e : placeOf x (x :: a) = 0 := by
        unfold placeOf
        rw [List.length_eq_zero_iff, List.filter_eq_nil_iff]
        intro y hy
        rw [decide_eq_true_eq]
        rcases List.mem_cons.mp hy with rfl | hy
        · exact List.lt_irrefl _
        · exact h1 y hy
      rw [e]
      exact ⟨rfl, fun i hi => by omega⟩
theorem self_mem {t : List Nat} {rows : List (List Nat)} (h : IsRows t rows) (ht : t ≠ []) : t ∈ rows := by
  refine h.perm.mem_iff.mpr (List.mem_map.mpr ⟨0, List.mem_range.mpr (List.length_pos_iff.mpr ht), ?_⟩)
  unfold turn
  rw [List.drop_zero, List.take_zero, List.append_nil]
end MP
namespace MQ
def rotL : List Nat → List Nat
  | [] => []
  | a :: x => x ++ [a]
def rotR (w : List Nat) : List Nat := MP.lastC w :: w.dropLast
structure IsStab (last zs : List Nat) : Prop where
  perm : zs.Perm (List.range last.length)
  ord : zs.Pairwise fun i j => [last.getD i 0] < [last.getD j 0] ∨ ([last.getD i 0] = [last.getD j 0] ∧ i < j)
theorem IsStab.len {last zs : List Nat} (h : IsStab last zs) : zs.length = last.length := by rw [h.perm.length_eq, List.length_range]
theorem IsStab.lt {last zs : List Nat} (h : IsStab last zs) {r : Nat} (hr : r < last.length) : zs.getD r 0 < last.length := by
  have : zs.getD r 0 ∈ zs := by
    rw [List.getD_eq_getElem?_getD, List.getElem?_eq_getElem (by rw [h.len]; exact hr)]
    exact List.getElem_mem _
  exact List.mem_range.mp (h.perm.mem_iff.mp this)
theorem rotR_rotL {w : List Nat} (h : w ≠ []) : rotL (rotR w) = w := by
  show w.dropLast ++ [MP.lastC w] = w
  have h0 : 0 < w.length := List.length_pos_iff.mpr h
  have e : [MP.lastC w] = [w.getLast h] := by
    unfold MP.lastC
    rw [List.getD_eq_getElem?_getD, List.getElem?_eq_getElem (by omega), List.getLast_eq_getElem]
    rfl
  rw [e]
  exact List.dropLast_concat_getLast h
theorem lastC_snoc (x : List Nat) (a : Nat) : MP.lastC (x ++ [a]) = a := by
  unfold MP.lastC
  rw [List.getD_eq_getElem?_getD, List.length_append, List.length_singleton, List.getElem?_append_right (by omega)]
  simp
theorem rotR_snoc (x : List Nat) (a : Nat) : rotR (x ++ [a]) = a :: x := by
  unfold rotR
  rw [lastC_snoc, List.dropLast_concat]
theorem turn_succ {t : List Nat} {i : Nat} (hi : i < t.length) : rotL (MP.turn t i) = MP.turn t (i + 1) := by
  unfold MP.turn
  rw [List.drop_eq_getElem_cons hi]
  show (t.drop (i + 1) ++ t.take i) ++ [t[i]] = _
  rw [List.append_assoc, List.take_add_one, List.getElem?_eq_getElem hi]
  rfl
theorem turn_full (t : List Nat) : MP.turn t t.length = t := by unfold MP.turn; rw [List.drop_length, List.take_length, List.nil_append]
theorem turn_zero (t : List Nat) : MP.turn t 0 = t := by unfold MP.turn; rw [List.drop_zero, List.take_zero, List.append_nil]
theorem rotR_turn {t : List Nat} {i : Nat} (hi : i < t.length) : rotR (MP.turn t (i + 1)) = MP.turn t i := by
  have e : MP.turn t (i + 1) = (t.drop (i + 1) ++ t.take i) ++ [t[i]] := by
    unfold MP.turn
    rw [List.append_assoc, List.take_add_one, List.getElem?_eq_getElem hi]
    rfl
  rw [e, rotR_snoc]
  unfold MP.turn
  rw [List.drop_eq_getElem_cons hi]
  rfl
theorem turns_rotR (t : List Nat) : ((MP.turns t).map rotR).Perm (MP.turns t) := by
  unfold MP.turns
  rw [List.map_map]
  cases hn : t.length with
  | zero => exact List.Perm.refl _
  | succ n =>
    have e1 : (List.range (n + 1)).map (rotR ∘ MP.turn t) = MP.turn t n :: (List.range n).map (MP.turn t) := by
      rw [List.range_succ_eq_map, List.map_cons, List.map_map]
      congr 1
      · show rotR (MP.turn t 0) = _
        rw [turn_zero, ← turn_full t, hn, rotR_turn (by omega)]
        rw [← hn, turn_full]
      · refine List.map_congr_left fun i hi => ?_
        show rotR (MP.turn t (i + 1)) = _
        exact rotR_turn (by have := List.mem_range.mp hi; omega)
    have e2 : (List.range (n + 1)).map (MP.turn t) = (List.range n).map (MP.turn t) ++ [MP.turn t n] := by
      rw [List.range_succ, List.map_append]
      rfl
    rw [e1, e2]
    exact (List.perm_append_singleton _ _).symm
theorem rows_rotR {t : List Nat} {rows : List (List Nat)} (h : MP.IsRows t rows) : (rows.map rotR).Perm rows := ((h.perm.map rotR).trans (turns_rotR t)).trans h.perm.symm
/-- of two rows that are equally long the heads are in the same order -/
theorem dropLast_ord : ∀ {x y : List Nat}, x.length = y.length → ¬ y < x → ¬ y.dropLast < x.dropLast
  | [], [], _, _ => List.lt_irrefl _
  | [], _ :: _, h, _ => by simp at h
  | _ :: _, [], h, _ => by simp at h
  | [a], [b], _, _ => List.lt_irrefl _
  | [a], _ :: _ :: _, h, _ => by simp at h
  | _ :: _ :: _, [b], h, _ => by simp at h
  | a :: a' :: x, b :: b' :: y, h, n => by
    show ¬ (b :: (b' :: y).dropLast) < a :: (a' :: x).dropLast
    rw [List.cons_lt_cons_iff] at n ⊢
    intro z
    rcases z with z | ⟨z, z'⟩
    · exact n (.inl z)
    · exact dropLast_ord (x := a' :: x) (y := b' :: y) (by simpa using h) (fun k => n (.inr ⟨z, k⟩)) z'
theorem getD_mem {l : List (List Nat)} {i : Nat} (h : i < l.length) : l.getD i [] ∈ l := by
  rw [List.getD_eq_getElem?_getD, List.getElem?_eq_getElem h]
  exact List.getElem_mem _
theorem last_getD {rows : List (List Nat)} {i : Nat} (h : i < rows.length) : (MP.lastOf rows).getD i 0 = MP.lastC (rows.getD i []) := by
  unfold MP.lastOf
  rw [List.getD_eq_getElem?_getD, List.getElem?_map, List.getD_eq_getElem?_getD, List.getElem?_eq_getElem h]
  rfl
theorem last_len {t : List Nat} {rows : List (List Nat)} (h : MP.IsRows t rows) : (MP.lastOf rows).length = t.length := by
  unfold MP.lastOf
  rw [List.length_map, h.len]
/-- the walk goes from a row to the one that is turned by one letter -/
theorem back {t zs : List Nat} {rows : List (List Nat)} (h : MP.IsRows t rows) (hz : IsStab (MP.lastOf rows) zs) : (zs.map fun r => rotR (rows.getD r [])) = rows := by
  have hn := h.len
  have hl := last_len h
  refine MP.eq_of_perm_ord ?_ ?_ h.ord
  · refine ((hz.perm.map fun r => rotR (rows.getD r [])).trans ?_).trans (rows_rotR h)
    rw [hl]
    have e : (List.range t.length).map (fun r => rotR (rows.getD r [])) = rows.map rotR := by
      apply List.ext_getElem?
      intro i
      rw [List.getElem?_map, List.getElem?_map]
      by_cases hi : i < t.length
      · rw [List.getElem?_range hi, List.getElem?_eq_getElem (by omega)]
        show some (rotR (rows.getD i [])) = _
        rw [List.getD_eq_getElem?_getD, List.getElem?_eq_getElem (by omega)]
        rfl
      · rw [List.getElem?_eq_none (by rw [List.length_range]; omega), List.getElem?_eq_none (by omega)]
        rfl
    rw [e]
  · rw [List.pairwise_map]
    refine List.Pairwise.imp_of_mem (fun {i j} hi hj o => ?_) hz.ord
    have hi' := List.mem_range.mp (hz.perm.mem_iff.mp hi)
    have hj' := List.mem_range.mp (hz.perm.mem_iff.mp hj)
    rw [last_getD (by omega), last_getD (by omega)] at o
    unfold rotR
    rw [List.cons_lt_cons_iff]
    intro z
    rcases o with o | ⟨o, oij⟩
    · have o' : MP.lastC (rows.getD i []) < MP.lastC (rows.getD j []) := by
        rw [List.cons_lt_cons_iff] at o
        rcases o with o | ⟨_, o⟩
        · exact o
        · exact absurd o (List.lt_irrefl _)
      rcases z with z | ⟨z, _⟩ <;> omega
    · have o' : MP.lastC (rows.getD i []) = MP.lastC (rows.getD j []) := by injection o
      rcases z with z | ⟨_, z⟩
      · omega
      · have r1 := h.row (getD_mem (l := rows) (i := i) (by omega))
        have r2 := h.row (getD_mem (l := rows) (i := j) (by omega))
        refine dropLast_ord (r1.1.trans r2.1.symm) ?_ z
        have p := List.pairwise_iff_getElem.mp h.ord i j (by omega) (by omega) oij
        rw [List.getD_eq_getElem?_getD, List.getD_eq_getElem?_getD, List.getElem?_eq_getElem (by omega), List.getElem?_eq_getElem (by omega)]
        exact p
theorem back_at {t zs : List Nat} {rows : List (List Nat)} (h : MP.IsRows t rows) (hz : IsStab (MP.lastOf rows) zs) {r : Nat} (hr : r < t.length) : rows.getD (zs.getD r 0) [] = rotL (rows.getD r []) := by
  have hn := h.len
  have hl := last_len h
  have e := congrArg (fun l => l.getD r []) (back h hz)
  have lt := hz.lt (r := r) (by omega)
  have hzr : r < zs.length := by rw [hz.len]; omega
  have e' : rotR (rows.getD (zs.getD r 0) []) = rows.getD r [] := by
    rw [← e]
    show _ = (zs.map fun r => rotR (rows.getD r [])).getD r []
    rw [List.getD_eq_getElem?_getD (l := zs.map _), List.getElem?_map, List.getElem?_eq_getElem hzr, List.getD_eq_getElem?_getD (l := zs), List.getElem?_eq_getElem hzr]
    rfl
  have r1 := (h.row (getD_mem (l := rows) (i := zs.getD r 0) (by omega))).1
  rw [← e', rotR_rotL (fun z => by rw [z] at r1; simp at r1; omega)]
/-- the row after i steps -/
def rowAt (zs : List Nat) (p : Nat) : Nat → Nat
  | 0 => p
  | i + 1 => zs.getD (rowAt zs p i) 0
theorem rowAt_lt {last zs : List Nat} (h : IsStab last zs) {p : Nat} (hp : p < last.length) : ∀ i, rowAt zs p i < last.length
  | 0 => hp
  | i + 1 => h.lt (rowAt_lt h hp i)
def walk (last zs : List Nat) (p k : Nat) : List Nat := (List.range k).map fun i => last.getD (rowAt zs p (i + 1)) 0
theorem walk_step (last zs : List Nat) (p k : Nat) : walk last zs p (k + 1) = walk last zs p k ++ [last.getD (rowAt zs p (k + 1)) 0] := by
  unfold walk
  rw [List.range_succ, List.map_append]
  rfl
theorem walk_len (last zs : List Nat) (p k : Nat) : (walk last zs p k).length = k := by unfold walk; rw [List.length_map, List.length_range]
theorem rows_walk {t zs : List Nat} {rows : List (List Nat)} (h : MP.IsRows t rows) (hz : IsStab (MP.lastOf rows) zs) (ht : t ≠ []) : ∀ i, i ≤ t.length → rows.getD (rowAt zs (MP.placeOf t rows) i) [] = MP.turn t i
  | 0, _ => by
    have e := (MP.placeOf_first h.ord (MP.self_mem h ht)).1
    show rows.getD (MP.placeOf t rows) [] = _
    rw [List.getD_eq_getElem?_getD, e, turn_zero]
    rfl
  | i + 1, hi => by
    have ih := rows_walk h hz ht i (by omega)
    have e := (MP.placeOf_first h.ord (MP.self_mem h ht)).1
    have hp : MP.placeOf t rows < (MP.lastOf rows).length := by
      rw [last_len h, ← h.len]
      exact (List.getElem?_eq_some_iff.mp e).1
    have lt := rowAt_lt hz hp i
    rw [last_len h] at lt
    show rows.getD (zs.getD (rowAt zs (MP.placeOf t rows) i) 0) [] = _
    rw [back_at h hz lt, ih, turn_succ (by omega)]
theorem place_lt {t : List Nat} {rows : List (List Nat)} (h : MP.IsRows t rows) (ht : t ≠ []) : MP.placeOf t rows < t.length := by
  rw [← h.len]
  exact (List.getElem?_eq_some_iff.mp (MP.placeOf_first h.ord (MP.self_mem h ht)).1).1
/-- what was packed is walked back -/
theorem walk_text {t zs : List Nat} {rows : List (List Nat)} (h : MP.IsRows t rows) (hz : IsStab (MP.lastOf rows) zs) (ht : t ≠ []) : walk (MP.lastOf rows) zs (MP.placeOf t rows) t.length = t := by
  have hp := place_lt h ht
  unfold walk
  apply List.ext_getElem?
  intro i
  rw [List.getElem?_map]
  by_cases hi : i < t.length
  · rw [List.getElem?_range hi, List.getElem?_eq_getElem hi]
    have lt := rowAt_lt hz (p := MP.placeOf t rows) (by rw [last_len h]; exact hp) (i + 1)
    rw [last_len h] at lt
    show some ((MP.lastOf rows).getD (rowAt zs (MP.placeOf t rows) (i + 1)) 0) = _
    rw [last_getD (by rw [h.len]; exact lt), rows_walk h hz ht (i + 1) hi]
    have e : MP.turn t (i + 1) = (t.drop (i + 1) ++ t.take i) ++ [t[i]] := by
      unfold MP.turn
      rw [List.append_assoc, List.take_add_one, List.getElem?_eq_getElem hi]
      rfl
    rw [e, lastC_snoc]
  · rw [List.getElem?_eq_none (by rw [List.length_range]; omega), List.getElem?_eq_none (by omega)]
    rfl
end MQ
namespace L2
open PySem PySem.Spec PyProof.Rows
structure Cal (P : Program) (w : World) (K : PySem.W.Frag) (mg : Str → Option Value) (base : Heap) (k : Nat) (x : Str) (ps : List Str) (sp : Sp) : Prop where
  ex : ∃ f fd, FnOk P w K mg base CX0 k f fd ps sp ∧ Binds K fd ps [] ∧ PySem.W.keepIn K (.ref f) = true ∧ mg x = some (.ref f)
section
variable {X : Cx} {pins : List (Addr × Obj)} {σ : St} {H : Hp} {s : Shared}
theorem pe_own {k j : Nat} {x : Str} {ps : List Str} {sp : Sp} {e : Expr} {es : List Expr} {t : TA} {p pos : Pos} (C : Cal X.prog X.w X.K X.mg X.base k x ps sp) (hr : Room j X.A) (hg : Gl X x) (ha : PA X (e :: es) t) (hk : k ≤ j := by omega)
    (hdb : (x == ("__debug__" : Str)) = false := by decide) (he : starEach (e :: es) X.env = (false, eval e X.env) :: starEach es X.env := by rfl) (hpl : (backTo pos (starEach es X.env)).any (·.1) = false := by rfl) :
    PE X (.Call (.Name x p) (e :: es) [] pos) (tCall sp [] E0 t) := by
  obtain ⟨f, fd, F, b, kp, m⟩ := C.ex
  exact pe_call F (hr.mono hk) hg m kp b .nil pass0 ha hdb he hpl

theorem Inv.other (I : Inv X pins σ H s) {s' : Shared} (h1 : s'.heap = s.heap) (h2 : s'.os = s.os) (h3 : AllBare s'.gens) : Inv X pins σ H s' := by
  obtain ⟨h, g, d, t, o⟩ := s'
  obtain rfl : h = s.heap := h1
  obtain rfl : o = s.os := h2
  exact ⟨I.ok, I.os, h3, I.base, I.loc, I.cell, I.free, I.freeC, I.pin, I.hok, I.len⟩
/-- a new object, in any later state that keeps what stood -/
theorem Inv.grown (I : Inv X pins σ H s) {s' : Shared} {p : Addr} {o : HO} (k : ∀ b u, s.heap.get? b = some u → s'.heap.get? b = some u) (h2 : s'.os = s.os) (h3 : AllBare s'.gens) (hp : s.heap.objs.size ≤ p) (new : ObjOk X.prog X.w (upd H p o) s'.heap p o) :
    Inv X pins σ (upd H p o) s' := (I.laid (t' := s'.toks) (h' := s'.heap) k hp new).other rfl h2 h3

abbrev strsV (ls : List (List Nat)) : List V := ls.map fun l => V.str (S l)
theorem vals_at {xs : List V} {us : List Value} (r : Vals xs us) {i : Nat} {u : Value} (h : us[i]? = some u) : ∃ x, xs[i]? = some x ∧ RelV x u := by
  have hi : i < us.length := (List.getElem?_eq_some_iff.mp h).1
  have hi' : i < xs.length := by rw [r.length]; exact hi
  obtain ⟨u', h1, h2⟩ := r.get (i := i) (List.getElem?_eq_getElem hi')
  rw [h] at h1
  cases h1
  exact ⟨_, List.getElem?_eq_getElem hi', h2⟩
theorem vals_perm {us vs : List Value} (p : us.Perm vs) : ∀ {xs : List V}, Vals xs vs → ∃ ys, Vals ys us ∧ ys.Perm xs := by
  induction p with
  | nil => intro xs r; cases r; exact ⟨[], .nil, .nil⟩
  | cons x p ih =>
    intro xs r
    cases r with
    | cons r t =>
      obtain ⟨ys, a, b⟩ := ih t
      exact ⟨_ :: ys, .cons r a, b.cons _⟩
  | swap x y l =>
    intro xs r
    cases r with
    | cons r t =>
      cases t with
      | cons r' t' => exact ⟨_, .cons r' (.cons r t'), .swap _ _ _⟩
  | trans p q ih1 ih2 =>
    intro xs r
    obtain ⟨zs, a, b⟩ := ih2 r
    obtain ⟨ys, c, d⟩ := ih1 a
    exact ⟨ys, c, d.trans b⟩
theorem perm_map_inv {α β : Type} {f : α → β} {ys ws : List β} (p : ys.Perm ws) : ∀ {zs : List α}, ws = zs.map f → ∃ zs' : List α, ys = zs'.map f ∧ zs'.Perm zs := by
  induction p with
  | nil => intro zs e; rw [eq_comm, List.map_eq_nil_iff] at e; subst e; exact ⟨[], rfl, .nil⟩
  | cons x p ih =>
    intro zs e
    cases zs with
    | nil => cases e
    | cons z zs =>
      rw [List.map_cons] at e
      injection e with e1 e2
      obtain ⟨zs', a, b⟩ := ih e2
      exact ⟨z :: zs', by rw [List.map_cons, a, e1], b.cons z⟩
  | swap x y l =>
    intro zs e
    match zs, e with
    | z1 :: z2 :: r, e =>
      rw [List.map_cons, List.map_cons] at e
      injection e with e1 e2
      injection e2 with e2 e3
      exact ⟨z2 :: z1 :: r, by rw [List.map_cons, List.map_cons, e1, e2, e3], .swap _ _ _⟩
  | trans p q ih1 ih2 =>
    intro zs e
    obtain ⟨zs1, a, b⟩ := ih2 e
    obtain ⟨zs2, c, d⟩ := ih1 a
    exact ⟨zs2, c, d.trans b⟩
theorem keys_map {α : Type} {κ : PyProof.Rows.KeyKind} {f : α → V} {kf : α → κ.α} : ∀ {zs : List α} {us : List Value}, Vals (zs.map f) us → (∀ z ∈ zs, ∀ u, RelV (f z) u → κ.keyOf u = some (kf z)) → us.map (TS.kv κ) = zs.map kf
  | [], _, r, _ => by cases r; rfl
  | z :: zs, _, r, h => by
    cases r with
    | cons r t =>
      rw [List.map_cons, List.map_cons, keys_map t fun z hz => h z (List.mem_cons_of_mem _ hz)]
      congr 1
      unfold TS.kv
      rw [h z List.mem_cons_self _ r]
      rfl
theorem sorted_fin {α : Type} {κ : PyProof.Rows.KeyKind} {f : α → V} {kf : α → κ.α} {zs : List α} {vs : List Value} {out : Array Value} (r : Vals (zs.map f) vs) (hk : ∀ z ∈ zs, ∀ u, RelV (f z) u → κ.keyOf u = some (kf z)) (hp : out.toList.Perm vs) (hs : TS.Sorted κ out.toList) :
    ∃ zs' : List α, Vals (zs'.map f) out.toList ∧ zs'.Perm zs ∧ zs'.Pairwise fun x y => κ.kle (kf x) (kf y) := by
  obtain ⟨ys, a, b⟩ := vals_perm hp r
  obtain ⟨zs', c, d⟩ := perm_map_inv b rfl
  subst c
  refine ⟨zs', a, d, ?_⟩
  have e := keys_map (κ := κ) (kf := kf) a fun z hz => hk z (d.mem_iff.mp hz)
  have h1 : (out.toList.map (TS.kv κ)).Pairwise κ.kle := List.pairwise_map.mpr hs
  rw [e] at h1
  exact List.pairwise_map.mp h1
theorem lst_new {s' : Shared} {p : Addr} {xs : List V} {out : Array Value} (hz : xs.length ≤ sizeLine) (r : Vals xs out.toList) (hn : ∃ e, s'.heap.get? p = some (seqObj "list" out e)) : ObjOk X.prog X.w (upd H p (.lst xs)) s'.heap p (.lst xs) := by
  obtain ⟨e, hn⟩ := hn
  exact ⟨hz, out.toList, e, r, by rw [hn]; try simp [seqObj]⟩
theorem sorted_seq {α : Type} {κ : PyProof.Rows.KeyKind} {kd : SortKind} {f : α → V} {kf : α → κ.α} {zs : List α} {a : Addr} {Q : VK} (I : Inv X pins σ H s) (hq : SqL X.K H a (zs.map f) ∨ SqT X.K H a (zs.map f))
    (hk : ∀ z ∈ zs, ∀ u, RelV (f z) u → κ.keyOf u = some (kf z))
    (hkind : ∀ (vs : List Value) (h' : Heap) (A' : Around), Vals (zs.map f) vs → (∀ b o, s.heap.get? b = some o → h'.get? b = some o) → 2 ≤ vs.length → ∀ (Q : SortKind → Shared → Prop), Q kd { s with heap := h' } → wpAny (model X.prog X.w) A' (keyKind' vs.toArray) Q X.xe { s with heap := h' })
    (hlt : ∀ (h' : Heap) (A' : Around), (∀ b o, s.heap.get? b = some o → h'.get? b = some o) → TS.LtOk κ kd X.prog X.w A' { s with heap := h' })
    (q : ∀ p (zs' : List α), H p = none → zs'.Perm zs → (zs'.Pairwise fun x y => κ.kle (kf x) (kf y)) → Q (.ref p) (upd H p (.lst (zs'.map f)))) :
    wpAny (model X.prog X.w) X.A (call (.builtin "sorted") [.ref a]) (EP X pins σ Q) X.xe s := by
  have core : ∀ (T : String) (o : Obj) (n : Nat) (its : List Value), T = "list" ∨ T = "tuple" → s.heap.get? a = some o → o.cls = .type T → o.data = .seq its.toArray n → Vals (zs.map f) its → (zs.map f).length ≤ sizeLine →
      wpAny (model X.prog X.w) X.A (call (.builtin "sorted") [.ref a]) (EP X pins σ Q) X.xe s := by
    intro T o n its hT ho hc hd r hz
    have hlen := r.length
    refine TS.sorted_gen2 (κ := κ) (kd := kd) fun A' hA => SW.col_seq a hT ho hc hd (fun h2 k2 hsz => ?_) (by rw [List.size_toArray]; omega)
    rw [List.toList_toArray]
    refine ⟨⟨fun v hv => ?_, fun A' h' k h2 Q' q' => hkind its h' A' r (fun b o e => k b o (k2 b o e)) h2 Q' q', fun A' h' k => hlt h' A' fun b o e => k b o (k2 b o e), by omega⟩, fun out h' hp hs k hn => ?_⟩
    · obtain ⟨i, hi, rfl⟩ := List.getElem_of_mem hv
      obtain ⟨x, hx, rx⟩ := vals_at r (List.getElem?_eq_getElem hi)
      rw [List.getElem?_map] at hx
      cases hl : zs[i]? with
      | none => rw [hl] at hx; cases hx
      | some z =>
        rw [hl] at hx
        cases hx
        exact ⟨_, hk z (List.mem_of_getElem? hl) _ rx⟩
    · obtain ⟨zs', r', p1, p2⟩ := sorted_fin r hk hp hs
      have hzl : (zs'.map f).length ≤ sizeLine := by rw [List.length_map, p1.length_eq, ← List.length_map (f := f)]; exact hz
      refine ⟨.ref h2.objs.size, _, I.grown (s' := { s with heap := h' }) (fun b u e => k b u (k2 b u e)) rfl I.bare hsz (lst_new hzl r' hn), rfl, q _ zs' (I.hok.fresh hsz) p1 p2⟩
  rcases hq with hq | hq
  · obtain ⟨its, r, pl, hz⟩ := I.list hq
    obtain ⟨o, ho, hc, n, hd⟩ := pl.isList
    exact core "list" o n its (.inl rfl) ho hc hd r hz
  · obtain ⟨its, r, pl, hz⟩ := I.tuple hq
    obtain ⟨o, ho, hc, n, hd⟩ := pl
    exact core "tuple" o n its (.inr rfl) ho hc hd r hz
end
end L2
namespace L2
open PySem PySem.Spec PyProof.Rows
section
variable {X : Cx} {pins : List (Addr × Obj)} {σ : St} {H : Hp} {s : Shared}
theorem vals_all {α : Type} {f : α → V} {P : Value → Prop} : ∀ {zs : List α} {vs : List Value}, Vals (zs.map f) vs → (∀ z ∈ zs, ∀ u, RelV (f z) u → P u) → ∀ v ∈ vs, P v
  | [], _, r, _, v, hv => by cases r; cases hv
  | z :: zs, _, r, h, v, hv => by
    cases r with
    | cons r t =>
      rcases List.mem_cons.mp hv with rfl | hv
      · exact h z List.mem_cons_self _ r
      · exact vals_all t (fun z hz => h z (List.mem_cons_of_mem _ hz)) v hv
def rSortS (K : PySem.W.Frag) : List V → Hp → VK → Prop := fun xs H Q => ∃ a ls, xs = [.ref a] ∧ (SqL K H a (strsV ls) ∨ SqT K H a (strsV ls)) ∧ ∀ p ls', H p = none → ls'.Perm ls → (ls'.Pairwise fun x y => ¬ y < x) → Q (.ref p) (upd H p (.lst (strsV ls')))
theorem call_sortedS : CallR X (.builtin "sorted") (rSortS X.K) := by
  intro pins s σ H xs us Q I r h
  obtain ⟨a, ls, rfl, hq, q⟩ := h
  obtain ⟨u, rfl, rx⟩ := vals1 r
  cases rx
  refine sorted_seq (κ := PyProof.Rows.strKind) (kd := oneType') (f := fun l => V.str (S l)) (kf := fun z => z) I hq (fun z _ u ru => by obtain ⟨t, rfl⟩ := ru; rfl) (fun vs h' A' rv k h2 Q' q' => TS.kind_strs (vals_all rv fun z _ u ru => by obtain ⟨t, rfl⟩ := ru; exact ⟨_, _, rfl⟩) h2 q') (fun h' A' k => TS.lt_strs) fun p ls' hp p1 p2 => q p ls' hp p1 (p2.imp fun {x y} z => ?_)
  have z' : decide (y < x) = false := z
  exact of_decide_eq_false z'
/-- a for over what is known -/
theorem for_is {J : It} {P : Hp → Prop} {xs : List V} {g : TG} {tb : TS} {D : Ends} {σ : St} {H : Hp} (hJ : ItIs J P xs) (Pv : Nat → St → Hp → Prop) (h0 : Pv 0 σ H) (hl : ∀ i σ H, i ≤ xs.length → Pv i σ H → P H)
    (hs : ∀ i x σ H, xs[i]? = some x → Pv i σ H → g x σ H fun σ2 H2 => tb { D with nx := Pv (i + 1), ct := Pv (i + 1), bk := D.nx } σ2 H2) (hd : ∀ σ H, Pv xs.length σ H → D.nx σ H) :
    ∃ W : Nat → Nat → St → Hp → Prop, (∃ m, W 0 m σ H) ∧ ∀ i m σ H, W i m σ H →
      (J.stop i H ∧ D.nx σ H) ∨ (J.go i H ∧ ∃ N : St → Hp → Prop, (∀ σ' H', N σ' H' → ∃ m', m' < m ∧ W (i + 1) m' σ' H') ∧ ∀ x H', J.yld i H x H' → g x σ H' fun σ2 H2 => tb { D with nx := N, ct := N, bk := D.nx } σ2 H2) := by
  refine ⟨fun i m σ H => m = xs.length - i ∧ i ≤ xs.length ∧ Pv i σ H, ⟨xs.length, by simp, Nat.zero_le _, h0⟩, ?_⟩
  rintro i m σ H ⟨rfl, hi, p⟩
  have q := hl i σ H hi p
  by_cases hlt : i < xs.length
  · refine .inr ⟨hJ.go i H q hlt, Pv (i + 1), fun σ' H' p' => ⟨xs.length - (i + 1), by omega, rfl, hlt, p'⟩, fun x H' y => ?_⟩
    obtain ⟨e, y2⟩ := hJ.yld i H x H' q y hlt
    subst e
    exact hs i x σ _ y2 p
  · have e : i = xs.length := by omega
    subst e
    exact .inl ⟨hJ.stop H q, hd σ H p⟩

theorem eqVs_tup (xs ys : List V) : ((List.range (min xs.length ys.length)).all (fun j => eqV (xs.getD j .non) (ys.getD j .non)) && xs.length == ys.length) = eqVs xs ys := by
  by_cases hl : xs.length = ys.length
  · rw [← eqVs_range xs ys hl, hl, Nat.min_self, beq_self_eq_true, Bool.and_true]
  · have e : eqVs xs ys = false := by
      cases q : eqVs xs ys with
      | false => rfl
      | true => exact absurd (eqVs_len q) hl
    rw [e, beq_eq_false_iff_ne.mpr hl, Bool.and_false]
def rEqT (K : PySem.W.Frag) (neg : Bool) : R2 := fun x y H Q => ∃ a b xs ys, x = .ref a ∧ y = .ref b ∧ SqT K H a xs ∧ SqT K H b ys ∧ xs.all flatV = true ∧ ys.all flatV = true ∧ Q (.bl (if neg then !eqVs xs ys else eqVs xs ys)) H
theorem op_eqT (hu : X.A.units < cLine) : OpR X (compareOp .Eq) (rEqT X.K false) := by
  intro pins s σ H x y v u Q I rx ry h
  obtain ⟨a, b, xs, ys, rfl, rfl, ha, hb, fx, fy, q⟩ := h
  cases rx
  cases ry
  obtain ⟨us, ru, pu, zu⟩ := I.tuple ha
  obtain ⟨ws, rw', pw, zw⟩ := I.tuple hb
  have l1 := ru.length
  have l2 := rw'.length
  have := SeqAt.RcAt.tuples (A := X.A) (s := s) (e := fun j => eqV (xs.getD j .non) (ys.getD j .non)) (show s.heap.IsTuple a us.toArray from pu) (show s.heap.IsTuple b ws.toArray from pw) hu fun j h1 h2 => eqAt_V (get_rel ru j h1) (get_rel rw' j h2) (get_flat fx j (by simp at h1; omega)) (get_flat fy j (by simp at h2; omega))
  rw [List.size_toArray, List.size_toArray, ← l1, ← l2, eqVs_tup] at this
  exact EqBoolInt.of_rc this ⟨.bl _, H, I, rfl, q⟩
theorem op_neT (hu : X.A.units < cLine) : OpR X (compareOp .NotEq) (rEqT X.K true) := by
  intro pins s σ H x y v u Q I rx ry h
  obtain ⟨a, b, xs, ys, rfl, rfl, ha, hb, fx, fy, q⟩ := h
  cases rx
  cases ry
  obtain ⟨us, ru, pu, zu⟩ := I.tuple ha
  obtain ⟨ws, rw', pw, zw⟩ := I.tuple hb
  have l1 := ru.length
  have l2 := rw'.length
  have := SeqAt.RcNeAt.tuples (A := X.A) (s := s) (e := fun j => eqV (xs.getD j .non) (ys.getD j .non)) (show s.heap.IsTuple a us.toArray from pu) (show s.heap.IsTuple b ws.toArray from pw) hu fun j h1 h2 => eqAt_V (get_rel ru j h1) (get_rel rw' j h2) (get_flat fx j (by simp at h1; omega)) (get_flat fy j (by simp at h2; omega))
  rw [List.size_toArray, List.size_toArray, ← l1, ← l2, eqVs_tup] at this
  exact EqBoolInt.of_rcne this ⟨.bl _, H, I, rfl, q⟩
end
end L2
namespace L2
open PySem PySem.Spec PyProof.Rows
theorem comp_zr {α : Type} {zs : List α} {fx : α → V} {J : It} {P : Hp → Prop} {g : TG} {tc : TT} {te : TE} {D : Addr} {σ₀ : St} {H1 : Hp} {Q : Hp → Prop} (hJ : ItIs J P (zs.map fx)) (p : α → Bool) (R : α → V → Hp → Prop) (up : α → St)
    (hR : ∀ x y H H', SameT H H' → R x y H → R x y H') (hD : H1 D = none) (hl : zs.length ≤ sizeLine) (hP : ∀ H', Same H1 H' → P H')
    (hg : ∀ z σ H K, z ∈ zs → (σ = σ₀ ∨ ∃ y, σ = up y) → Same H1 H → K (up z) H → g (fx z) σ H K)
    (ht : ∀ z H K, z ∈ zs → Same H1 H → (∀ H', Same H H' → K (p z) H') → tc (up z) H K)
    (he : ∀ z H K, z ∈ zs → p z = true → Same H1 H → (∀ y H', Same H H' → R z y H' → K y H') → te (up z) H K)
    (hQ : ∀ ys H', Same H1 H' → H' D = some (.lst ys) → Paired (fun x y => R x y H') (zs.filter p) ys → Q H') :
    ∃ W : Nat → Nat → St → Hp → Prop, (∃ m, W 0 m σ₀ (upd H1 D (.lst []))) ∧ tCompW J g tc te D W Q := by
  refine ⟨fun i m σ H => m = zs.length - i ∧ i ≤ zs.length ∧ (σ = σ₀ ∨ ∃ z, σ = up z) ∧ Same H1 H ∧ ∃ ys, H D = some (.lst ys) ∧ Paired (fun x y => R x y H) ((zs.take i).filter p) ys, ⟨_, rfl, Nat.zero_le _, .inl rfl, same_new hD _, [], upd_same, by rw [List.take_zero]; exact .nil⟩, ?_⟩
  rintro i m σ H ⟨rfl, hi, hσ, hS, ys, hys, hr⟩
  have hp := hP H hS
  by_cases hlt : i < zs.length
  · refine .inr ⟨hJ.go i H hp (by rw [List.length_map]; exact hlt), fun x H2 hy => ?_⟩
    obtain ⟨rfl, hx⟩ := hJ.yld i H x H2 hp hy (by rw [List.length_map]; exact hlt)
    rw [List.getElem?_map, List.getElem?_eq_getElem hlt] at hx
    cases hx
    have hm : zs[i] ∈ zs := List.getElem_mem hlt
    refine hg zs[i] σ _ _ hm hσ hS (ht zs[i] _ _ hm hS fun H4 g4 => ?_)
    have tk : zs.take (i + 1) = zs.take i ++ [zs[i]] := by rw [List.take_add_one, List.getElem?_eq_getElem hlt]; rfl
    cases hpx : p zs[i] with
    | false =>
      refine ⟨zs.length - (i + 1), by omega, rfl, hlt, .inr ⟨_, rfl⟩, hS.trans g4, ys, g4 _ _ hys, ?_⟩
      rw [tk, List.filter_append]
      simp only [List.filter_cons, hpx, List.filter_nil, Bool.false_eq_true, if_false, List.append_nil]
      exact Paired.mapP hr fun a b => hR a b _ _ g4.t
    | true =>
      refine he zs[i] H4 _ hm hpx (hS.trans g4) fun y H5 g5 ry => ?_
      have e5 : H5 D = some (.lst ys) := g5 _ _ (g4 _ _ hys)
      have hlen : ys.length < sizeLine := by
        have e1 := Paired.length hr
        have e2 : ((zs.take i).filter p).length ≤ (zs.take i).length := List.length_filter_le _ _
        rw [List.length_take] at e2
        omega
      have tD : SameT H5 (upd H5 D (.lst (ys ++ [y]))) := sameT_lst e5
      refine ⟨ys, e5, hlen, zs.length - (i + 1), by omega, rfl, hlt, .inr ⟨_, rfl⟩, same_upd hD (hS.trans (g4.trans g5)) _, ys ++ [y], upd_same, ?_⟩
      rw [tk, List.filter_append]
      simp only [List.filter_cons, hpx, List.filter_nil, if_true]
      refine paired_snoc (Paired.mapP hr fun a b z => hR a b _ _ tD (hR a b _ _ g5.t (hR a b _ _ g4.t z))) (hR _ _ _ _ tD ry)
  · have e : i = zs.length := by omega
    subst e
    rw [List.take_length] at hr
    have hst := hJ.stop H hp
    rw [List.length_map] at hst
    exact .inl ⟨hst, hQ ys H hS hys hr⟩
theorem comp_zs {α : Type} {zs : List α} {fx : α → V} {J : It} {P : Hp → Prop} {g : TG} {tc : TT} {te : TE} {D : Addr} {σ₀ : St} {H1 : Hp} {Q : Hp → Prop} (hJ : ItIs J P (zs.map fx)) (p : α → Bool) (f : α → V) (up : α → St)
    (hD : H1 D = none) (hl : zs.length ≤ sizeLine) (hP : ∀ H', Same H1 H' → P H')
    (hg : ∀ z σ H K, z ∈ zs → (σ = σ₀ ∨ ∃ y, σ = up y) → Same H1 H → K (up z) H → g (fx z) σ H K)
    (ht : ∀ z H K, z ∈ zs → Same H1 H → (∀ H', Same H H' → K (p z) H') → tc (up z) H K)
    (he : ∀ z H K, z ∈ zs → p z = true → Same H1 H → (∀ H', Same H H' → K (f z) H') → te (up z) H K)
    (hQ : ∀ H', Same H1 H' → H' D = some (.lst ((zs.filter p).map f)) → Q H') :
    ∃ W : Nat → Nat → St → Hp → Prop, (∃ m, W 0 m σ₀ (upd H1 D (.lst []))) ∧ tCompW J g tc te D W Q :=
  comp_zr hJ p (fun x y _ => y = f x) up (fun _ _ _ _ _ h => h) hD hl hP hg ht (fun z H K h1 h2 h3 h4 => he z H K h1 h2 h3 fun H' g' => h4 (f z) H' g' rfl)
    fun ys H' g' e r => hQ H' g' (by rw [e, paired_map r])
/-- a def as it stands, for its callers -/
theorem Cal.mk' {P : Program} {w : World} {K : PySem.W.Frag} {mg : Str → Option Value} {base : Heap} {k : Nat} {x : Str} {ps : List Str} {sp : Sp} {f : Addr} {fd : FuncData} (F : FnOk P w K mg base CX0 k f fd ps sp) (b : Binds K fd ps []) (kp : PySem.W.keepIn K (.ref f) = true) (m : mg x = some (.ref f)) :
    Cal P w K mg base k x ps sp := ⟨f, fd, F, b, kp, m⟩
end L2
namespace L2
open PySem PySem.Spec PyProof.Rows
section
variable {X : Cx}
theorem ix_listK (K : PySem.W.Frag) (h : X.K = K := by rfl) : IxR X (rIxL K) := h ▸ ix_list
theorem ix_tupK (K : PySem.W.Frag) (h : X.K = K := by rfl) : IxR X (rIxT K) := h ▸ ix_tup
theorem op_eqLK (K : PySem.W.Frag) (hu : X.A.units < cLine) (h : X.K = K := by rfl) : OpR X (compareOp .Eq) (rEqL K) := h ▸ op_eqL hu
theorem op_eqTK (K : PySem.W.Frag) (hu : X.A.units < cLine) (h : X.K = K := by rfl) : OpR X (compareOp .Eq) (rEqT K false) := h ▸ op_eqT hu
theorem op_neTK (K : PySem.W.Frag) (hu : X.A.units < cLine) (h : X.K = K := by rfl) : OpR X (compareOp .NotEq) (rEqT K true) := h ▸ op_neT hu
def rLenQ (K : PySem.W.Frag) : List V → Hp → VK → Prop := fun xs H Q => ∃ p ys, xs = [.ref p] ∧ (SqL K H p ys ∨ SqT K H p ys) ∧ Q (.int ys.length) H
theorem call_len_seqK (K : PySem.W.Frag) (h : X.K = K := by rfl) : CallR X (.builtin "len") (rLenQ K) := CallR.k rLenQ call_len_seq h
theorem call_isiK (K : PySem.W.Frag) (h : X.K = K := by rfl) : CallR X (.builtin "isinstance") (rIsi K) := h ▸ call_isi
theorem call_sortedSK (K : PySem.W.Frag) (h : X.K = K := by rfl) : CallR X (.builtin "sorted") (rSortS K) := h ▸ call_sortedS
theorem hu0 {A : Around} {k : Nat} (hr : Room k A) : A.units < cLine := hr.units0
end
end L2
namespace L2
open PySem PySem.Spec PyProof.Rows
section
variable {K : PySem.W.Frag}
theorem kit_str_str : PySem.W.kitOne K (.type "str") (.type "str") = some true := by with_unfolding_all rfl
end
end L2
namespace L2
open PySem PySem.Spec PyProof.Rows
end L2
namespace L2
open PySem PySem.Spec PyProof.Rows
section
variable {X : Cx} {tg : Expr}
def RngO (p : Addr) (lo hi : Int) : HO := .ext fun h => ∃ t u v, IsRange h p lo hi 1 t u v
theorem rngO_ok {P : Program} {w : World} {H : Hp} {h : Heap} {p : Addr} {lo hi : Int} (x : ∃ t u v, IsRange h p lo hi 1 t u v) : ObjOk P w H h p (RngO p lo hi) :=
  ⟨x, let ⟨_, _, _, e⟩ := x; ⟨_, e⟩, fun h1 h2 p' k => let ⟨t, u, v, e⟩ := p'; ⟨t, u, v, by first | exact k _ e | exact k _ _ e | exact (k ▸ e)⟩⟩
theorem call_rangeO1 : CallR X (.type "range") (fun xs H Q => ∃ j : Int, xs = [.int j] ∧ ∀ p, H p = none → Q (.ref p) (upd H p (RngO p 0 j))) := by
  intro pins s σ H xs us Q I r h
  obtain ⟨j, rfl, q⟩ := h
  obtain ⟨u, rfl, t, rfl⟩ := vals1 r
  exact call_range_1 ⟨.ref s.heap.objs.size, _, I.laid (fun b o e => Heap.get?_push_of_some _ e) (Nat.le_refl _) (rngO_ok ⟨_, _, _, Heap.get?_push_size _ rfl⟩), rfl, q _ (I.hok.fresh (Nat.le_refl _))⟩
theorem strs_are : ∀ {ls : List (List Nat)} {us : List Value}, Vals (strsV ls) us → StrsAre us (ls.map S)
  | [], _, r => by cases r; exact .nil
  | l :: ls, _, r => by
    cases r with
    | cons r1 r2 =>
      obtain ⟨t, rfl⟩ := r1
      exact .cons _ _ (strs_are r2)
theorem join_flat : ∀ ls : List (List Nat), Str.join (S []) (ls.map S) = S ls.flatten
  | [] => rfl
  | [x] => by show S x = _; simp
  | x :: y :: r => by
    have h := join_flat (y :: r)
    show S x ++ S [] ++ Str.join (S []) ((y :: r).map S) = _
    rw [h, S_app, S_app, List.append_nil]
    rfl
def rJoin0 (K : PySem.W.Frag) : V → List V → Hp → VK → Prop := fun x xs H Q => ∃ (a : Addr) (ls : List (List Nat)), x = .str (S []) ∧ xs = [.ref a] ∧ (SqL K H a (strsV ls) ∨ SqT K H a (strsV ls)) ∧ ls.flatten.length ≤ 1000000 ∧ Q (.str (S ls.flatten)) H
theorem sum_flat : ∀ ls : List (List Nat), ((ls.map S).map (·.length)).sum = ls.flatten.length
  | [] => rfl
  | x :: r => by rw [List.map_cons, List.map_cons, List.sum_cons, sum_flat r, S_len, List.flatten_cons, List.length_append]
theorem mt_join0 : MtR X "str.join" (rJoin0 X.K) := by
  intro pins s σ H x xs v us Q I rx rs h
  obtain ⟨a, ls, rfl, rfl, hq, hz, q⟩ := h
  obtain ⟨t, rfl⟩ := rx
  obtain ⟨u, rfl, ru⟩ := vals1 rs
  cases ru
  have fin : ∀ t' k, EP X pins σ Q (.str (Txt.join (S []) (ls.map S)) t') { s with toks := k } := fun t' k =>
    ⟨.str (S ls.flatten), H, I.tok _, ⟨t', by rw [show Txt.join (S []) (ls.map S) = S ls.flatten from by rw [← join_flat]; exact StrLaws.glued_eq_join _ _]⟩, q⟩
  have hok : ((ls.map S).map (·.length)).sum + (ls.map S).length * (S []).length ≤ 16777216 := by rw [sum_flat, S_len, List.length_nil]; omega
  rcases hq with hq | hq
  · obtain ⟨its, r', pl, _⟩ := I.list hq
    exact join_list pl.isList (strs_are r') hok fin
  · obtain ⟨its, r', pl, _⟩ := I.tuple hq
    exact join_tuple pl (strs_are r') hok fin
theorem mt_join0K (K : PySem.W.Frag) (h : X.K = K := by rfl) : MtR X "str.join" (rJoin0 K) := h ▸ mt_join0

end
end L2
namespace L2
open PySem PySem.Spec PyProof.Rows
section
variable {X : Cx}
end
end L2
namespace L2
open PySem PySem.Spec PyProof.Rows
section
variable {X : Cx}
end
end L2
namespace L2
open PySem PySem.Spec PyProof.Rows
section
variable {X : Cx}
end
end L2
namespace L2
open PySem PySem.Spec PyProof.Rows
section
variable {X : Cx}
def rIdxS (K : PySem.W.Frag) : V → List V → Hp → VK → Prop := fun x xs H Q => ∃ (a : Addr) (ls : List (List Nat)) (l : List Nat) (j : Nat), x = .ref a ∧ xs = [.str (S l)] ∧ SqL K H a (strsV ls) ∧ ls.length ≤ 1000000 ∧ ls[j]? = some l ∧ (∀ i, i < j → ls[i]? ≠ some l) ∧ Q (.int (j : Nat)) H
def isS (l : List Nat) : Value → Bool
  | .str z _ => z == S l
  | _ => false
theorem mt_indexS : MtR X "list.index" (rIdxS X.K) := by
  intro pins s σ H x xs v us Q I rx rs h
  obtain ⟨a, ls, l, j, rfl, rfl, hq, hz, hj, hno, q⟩ := h
  obtain ⟨u, rfl, t, rfl⟩ := vals1 rs
  cases rx
  obtain ⟨its, rv, pl, _⟩ := I.list hq
  obtain ⟨⟨cls, dd, data, sl⟩, ho, hc, n, hd⟩ := id pl.isList
  simp only at hc hd
  subst hc hd
  have hlen := rv.length
  rw [List.length_map] at hlen
  have hjl : j < ls.length := (List.getElem?_eq_some_iff.mp hj).1
  have at' : ∀ (i : Nat) (hi : i < its.length), ∃ t, its[i] = Value.str (S (ls[i]'(by omega))) t := fun i hi => by
    obtain ⟨x, hx, rx⟩ := vals_at rv (List.getElem?_eq_getElem hi)
    rw [List.getElem?_map, List.getElem?_eq_getElem (by omega)] at hx
    cases hx
    exact rx
  refine call_meets PySem.F.slot_list_index ⟨_, ho, rfl⟩ PySem.F.entry_list_index (PySem.F.args_list_index_2 _ _)
    (SeqAt.list_indexAt a its.toArray n dd sl (.str (S l) t) (isS l) j (by rw [List.size_toArray]; omega) (by omega) ?_ ?_) ⟨ho, fun y hy => ?_, ⟨.int (j : Nat), H, I.tok _, ⟨_, rfl⟩, q⟩⟩
  · obtain ⟨t', e⟩ := at' j (by omega)
    show isS l (its.toArray[j]) = true
    rw [List.getElem_toArray, e]
    show (S ls[j] == S l) = true
    rw [S_beq, decide_eq_true_eq]
    rw [List.getElem?_eq_getElem hjl] at hj
    exact Option.some.inj hj
  · intro m hm hmj
    have hm' : m < its.length := by simpa using hm
    obtain ⟨t', e⟩ := at' m hm'
    show isS l (its.toArray[m]) = false
    rw [List.getElem_toArray, e]
    show (S ls[m] == S l) = false
    rw [S_beq, decide_eq_false_iff_not]
    intro z
    exact hno m hmj (by rw [List.getElem?_eq_getElem (by omega), z])
  · have hy' : y ∈ its := by simpa using hy
    obtain ⟨i, hi, rfl⟩ := List.getElem_of_mem hy'
    obtain ⟨t', e⟩ := at' i hi
    rw [e]
    exact SeqAt.EqAt.str_str _ _ _ _
theorem mt_indexSK (K : PySem.W.Frag) (h : X.K = K := by rfl) : MtR X "list.index" (rIdxS K) := h ▸ mt_indexS
end
end L2
namespace TK
open PySem PyProof.Rows
section
variable {κ : PyProof.Rows.KeyKind} {tag : Keyed → Nat} {xs : Array Keyed}
/-- the tag of what stands at i -/
def T (tag : Keyed → Nat) (xs : Array Keyed) (i : Nat) : Nat := (xs[i]?.map tag).getD 0
/-- i is to stand ahead of j: by its key, and where these are alike by its tag -/
def Lx (κ : PyProof.Rows.KeyKind) (tag : Keyed → Nat) (xs : Array Keyed) (i j : Nat) : Prop := κ.klt (KK κ xs i) (KK κ xs j) ∨ (KK κ xs i = KK κ xs j ∧ T tag xs i < T tag xs j)
/-- up to k all is in order, and from there on nothing was moved yet (N in all) -/
structure Run (κ : PyProof.Rows.KeyKind) (tag : Keyed → Nat) (N : Nat) (xs : Array Keyed) (k : Nat) : Prop where
  ord : ∀ i j, i < j → j < k → Lx κ tag xs i j
  new : ∀ i j, i < j → k ≤ j → j < N → T tag xs i < T tag xs j
/-- the same, falling -/
structure Fall (κ : PyProof.Rows.KeyKind) (tag : Keyed → Nat) (N : Nat) (xs : Array Keyed) (k : Nat) : Prop where
  ord : ∀ i j, i < j → j < k → Lx κ tag xs j i
  new : ∀ i j, i < j → k ≤ j → j < N → T tag xs i < T tag xs j
/-- falling, but that the keys from b on are alike and in their first order -/
structure Steps (κ : PyProof.Rows.KeyKind) (tag : Keyed → Nat) (N : Nat) (xs : Array Keyed) (b k : Nat) : Prop where
  lt : b < k
  far : ∀ i j, i < b → b ≤ j → j < k → κ.klt (KK κ xs j) (KK κ xs i)
  ord : ∀ i j, i < j → j < b → Lx κ tag xs j i
  eq : ∀ i, b ≤ i → i < k → KK κ xs i = KK κ xs (k - 1)
  up : ∀ i j, b ≤ i → i < j → j < k → T tag xs i < T tag xs j
  new : ∀ i j, i < j → k ≤ j → j < N → T tag xs i < T tag xs j

theorem T_at {ys : Array Keyed} {i j : Nat} (h : xs[i]? = ys[j]?) : T tag xs i = T tag ys j := congrArg (fun o => (o.map tag).getD 0) h
theorem T_turn {i j : Nat} (hj : j ≤ xs.size) (k : Nat) : T tag (mirror xs i j ((j - i) / 2)) k = T tag xs (if i ≤ k ∧ k < j then i + j - 1 - k else k) := by
  apply T_at
  rw [getElem?_mirror_all hj]
  split <;> rfl
theorem K_turn {i j : Nat} (hj : j ≤ xs.size) (k : Nat) : KK κ (mirror xs i j ((j - i) / 2)) k = KK κ xs (if i ≤ k ∧ k < j then i + j - 1 - k else k) := by
  apply KK_congr
  rw [getElem?_mirror_all hj]
  split <;> rfl
theorem new_turn {i j n : Nat} (h : ∀ a b, a < b → j ≤ b → b < n → T tag xs a < T tag xs b) (hj : j ≤ xs.size) : ∀ a b, a < b → j ≤ b → b < n → T tag (mirror xs i j ((j - i) / 2)) a < T tag (mirror xs i j ((j - i) / 2)) b := fun a b h1 h2 h3 => by
  rw [T_turn hj, T_turn hj, if_neg (show ¬ (i ≤ b ∧ b < j) by omega)]
  exact h _ _ (by split <;> omega) h2 h3
/-- where what stands at k is put to l: which one stands at i then -/
def from_ (k l i : Nat) : Nat := if i = l then k else if l < i ∧ i ≤ k then i - 1 else i
theorem put_at {k l : Nat} (hk : k < xs.size) (hl : l ≤ k) (i : Nat) : (bubble xs k (k - l))[i]? = xs[from_ k l i]? := by
  rw [getElem?_bubble hk _ (Nat.sub_le _ _), show k - (k - l) = l by omega]
  unfold from_
  repeat' split
  all_goals rfl
theorem Lx.trans {i j k : Nat} : Lx κ tag xs i j → Lx κ tag xs j k → Lx κ tag xs i k
  | .inl a, .inl b => .inl (KeyOrd.klt_of_klt_of_kle a (KeyOrd.kle_of_klt b))
  | .inl a, .inr b => .inl (b.1 ▸ a)
  | .inr a, .inl b => .inl (a.1 ▸ b)
  | .inr a, .inr b => .inr ⟨a.1.trans b.1, Nat.lt_trans a.2 b.2⟩
theorem Lx.of_le {i j : Nat} (a : κ.kle (KK κ xs i) (KK κ xs j)) (b : T tag xs i < T tag xs j) : Lx κ tag xs i j := by
  by_cases h : κ.klt (KK κ xs i) (KK κ xs j)
  · exact .inl h
  · exact .inr ⟨KeyOrd.kle_antisymm a (KeyOrd.kle_of_not_klt h), b⟩
theorem Lx.le {i j : Nat} : Lx κ tag xs i j → κ.kle (KK κ xs i) (KK κ xs j)
  | .inl a => KeyOrd.kle_of_klt a
  | .inr a => a.1 ▸ KeyOrd.kle_refl _
theorem Run.le {N k i j : Nat} (h : Run κ tag N xs k) (hij : i ≤ j) (hj : j < k) : κ.kle (KK κ xs i) (KK κ xs j) := by
  rcases Nat.lt_or_eq_of_le hij with e | rfl
  · exact (h.ord i j e hj).le
  · exact KeyOrd.kle_refl _
theorem Run.next {N k : Nat} (h : Run κ tag N xs k) (h1 : 1 ≤ k) (hN : k < N) (hle : κ.kle (KK κ xs (k - 1)) (KK κ xs k)) : Run κ tag N xs (k + 1) where
  new := fun i j a b c => h.new i j a (by omega) c
  ord := fun i j a b => by
    have e : Lx κ tag xs (k - 1) k := .of_le hle (h.new _ _ (by omega) (Nat.le_refl _) hN)
    rcases Nat.lt_or_ge j k with z | z
    · exact h.ord i j a z
    · obtain rfl : j = k := by omega
      rcases Nat.lt_or_ge i (j - 1) with y | y
      · exact (h.ord i _ y (by omega)).trans e
      · obtain rfl : i = j - 1 := by omega
        exact e
theorem Fall.turn {N k : Nat} (h : Fall κ tag N xs k) (hs : k ≤ xs.size) : Run κ tag N (mirror xs 0 k ((k - 0) / 2)) k where
  new := new_turn h.new hs
  ord := fun i j a b => by
    unfold Lx
    rw [K_turn hs, K_turn hs, T_turn hs, T_turn hs, if_pos (by omega), if_pos (by omega)]
    exact h.ord _ _ (by omega) (by omega)
theorem Steps.keys {N b k : Nat} (h : Steps κ tag N xs b k) (hs : k ≤ xs.size) (i : Nat) : KK κ (mirror xs b k ((k - b) / 2)) i = KK κ xs i := by
  rw [K_turn hs]
  split
  · rw [h.eq _ (by omega) (by omega), h.eq i (by omega) (by omega)]
  · rfl
theorem Steps.turn {N b k : Nat} (h : Steps κ tag N xs b k) (hs : k ≤ xs.size) : Fall κ tag N (mirror xs b k ((k - b) / 2)) k where
  new := new_turn h.new hs
  ord := fun i j a c => by
    unfold Lx
    rw [h.keys hs, h.keys hs]
    rcases Nat.lt_or_ge i b with z | z
    · rcases Nat.lt_or_ge j b with y | y
      · rw [T_turn hs, T_turn hs, if_neg (by omega), if_neg (by omega)]
        exact h.ord i j a y
      · exact .inl (h.far i j z y c)
    · refine .inr ⟨(h.eq j (by omega) c).trans (h.eq i z (by omega)).symm, ?_⟩
      rw [T_turn hs, T_turn hs, if_pos (by omega), if_pos (by omega)]
      exact h.up _ _ (by omega) (by omega) (by omega)
theorem Steps.fall {N k : Nat} (h : Steps κ tag N xs (k - 1) k) : Fall κ tag N xs k where
  new := h.new
  ord := fun i j a c => by
    rcases Nat.lt_or_ge j (k - 1) with y | y
    · exact h.ord i j a y
    · exact .inl (h.far i j (by omega) y c)
theorem Fall.step {N k : Nat} (h : Fall κ tag N xs k) (h1 : 1 ≤ k) (hl : κ.klt (KK κ xs k) (KK κ xs (k - 1))) : Steps κ tag N xs k (k + 1) where
  lt := Nat.lt_succ_self _
  far := fun i j a b c => by
    obtain rfl : j = k := by omega
    rcases Nat.lt_or_ge i (j - 1) with y | y
    · exact KeyOrd.klt_of_klt_of_kle hl (h.ord i _ y (by omega)).le
    · obtain rfl : i = j - 1 := by omega
      exact hl
  ord := h.ord
  eq := fun i a b => congrArg _ (by omega)
  up := fun i j a b c => absurd c (by omega)
  new := fun i j a b c => h.new i j a (by omega) c
theorem Steps.same {N b k : Nat} (h : Steps κ tag N xs b k) (hN : k < N) (he : KK κ xs k = KK κ xs (k - 1)) : Steps κ tag N xs b (k + 1) where
  lt := Nat.lt_succ_of_lt h.lt
  far := fun i j a c d => by
    have hl := h.lt
    rcases Nat.lt_or_ge j k with y | y
    · exact h.far i j a c y
    · obtain rfl : j = k := by omega
      exact he ▸ h.far i _ a (by omega) (by omega)
  ord := h.ord
  eq := fun i a c => by
    rcases Nat.lt_or_ge i k with y | y
    · exact (h.eq i a y).trans he.symm
    · exact congrArg _ (by omega)
  up := fun i j a c d => by
    rcases Nat.lt_or_ge j k with y | y
    · exact h.up i j a c y
    · exact h.new i j c y (by omega)
  new := fun i j a c d => h.new i j a (by omega) d
/-- what stands at k is put to l, where it belongs -/
theorem Run.put {N k l : Nat} (h : Run κ tag N xs k) (hk : k < xs.size) (hN : k < N) (hl : l ≤ k) (lo : ∀ i, i < l → κ.kle (KK κ xs i) (KK κ xs k)) (hi : ∀ i, l ≤ i → i < k → κ.klt (KK κ xs k) (KK κ xs i)) : Run κ tag N (bubble xs k (k - l)) (k + 1) := by
  have eK : ∀ i, KK κ (bubble xs k (k - l)) i = KK κ xs (from_ k l i) := fun i => KK_congr (put_at hk hl i)
  have eT : ∀ i, T tag (bubble xs k (k - l)) i = T tag xs (from_ k l i) := fun i => T_at (put_at hk hl i)
  constructor
  · intro i j a b
    unfold Lx
    rw [eK, eK, eT, eT]
    by_cases z : i = l
    · rw [show from_ k l i = k from if_pos z, show from_ k l j = j - 1 by unfold from_; rw [if_neg (by omega), if_pos (by omega)]]
      exact .inl (hi _ (by omega) (by omega))
    · by_cases y : j = l
      · rw [show from_ k l j = k from if_pos y, show from_ k l i = i by unfold from_; rw [if_neg z, if_neg (by omega)]]
        exact Lx.of_le (lo i (by omega)) (h.new _ _ (by omega) (Nat.le_refl _) hN)
      · have f : from_ k l i < from_ k l j ∧ from_ k l j < k := by
          unfold from_
          rw [if_neg z, if_neg y]
          constructor
          · split <;> split <;> omega
          · split <;> omega
        exact h.ord _ _ f.1 f.2
  · intro i j a b c
    rw [eT, eT, show from_ k l j = j by unfold from_; rw [if_neg (by omega), if_neg (by omega)]]
    exact h.new _ _ (by unfold from_; split <;> (try split) <;> omega) (by omega) c
end
section
variable {prog : Program} {w : World} {A : Around} {E : Value → Shared → Prop} {s : Shared} {a₀ : Array Keyed} {κ : PyProof.Rows.KeyKind} {tag : Keyed → Nat} {st : SortSt} {N n : Nat}
/-- a comparison, and what follows it -/
theorem ask {β : Type} {i j : Nat} {f : Option Bool → StateT SortSt Sem β} {Q : β → SortSt → Prop} (hO : κ.OneLt) (h0 : KeysOf κ a₀) (hB : SBase a₀ st) (hi : i < a₀.size) (hj : j < a₀.size)
    (yes : κ.klt (KK κ (arrOf st) i) (KK κ (arrOf st) j) → wpS (model prog w) A E s (f (some true)) Q st)
    (no : κ.kle (KK κ (arrOf st) j) (KK κ (arrOf st) i) → wpS (model prog w) A E s (f (some false)) Q st) : wpS (model prog w) A E s (ltAt' i j >>= f) Q st := by
  apply wpS_bind
  apply wpS_ltKK hO hB h0 hi hj
  cases e : κ.blt (KK κ (arrOf st) i) (KK κ (arrOf st) j) with
  | true => exact yes e
  | false => exact no e

theorem asc {a : Nat} {Q : AscSt → SortSt → Prop} (hO : κ.OneLt) (h0 : KeysOf κ a₀) (hN : N ≤ a₀.size) (ha : 1 ≤ a) (haN : a ≤ N) (hB : SBase a₀ st) (r : Run κ tag N (arrOf st) a)
    (q : ∀ m, a ≤ m → m ≤ N → Run κ tag N (arrOf st) m → (m = N ∨ κ.klt (KK κ (arrOf st) m) (KK κ (arrOf st) (m - 1))) → Q (none, m) st) : wpS (model prog w) A E s (ascLoop a N) Q st := by
  unfold ascLoop
  apply wpS_forRange (fun x c t => t = st ∧ c = (none, x) ∧ Run κ tag N (arrOf st) x) (h := ⟨rfl, rfl, r⟩)
  · intro x c t h1 h2 h3
    obtain ⟨rfl, rfl, r'⟩ := h3
    exact ask hO h0 hB (by omega) (by omega) (fun y => wpS_pure (q x h1 (Nat.le_of_lt h2) r' (.inr y))) fun z => wpS_pure ⟨rfl, rfl, r'.next (by omega) h2 z⟩
  · intro c t h3
    obtain ⟨rfl, rfl, r'⟩ := h3
    rw [Nat.max_eq_right haN] at r' ⊢
    exact q N haN (Nat.le_refl _) r' (.inl rfl)

theorem turned {Q : Option Nat → SortSt → Prop} (hO : κ.OneLt) (h0 : KeysOf κ a₀) (hN : N ≤ a₀.size) (h1 : 1 ≤ n) (hn : n ≤ N) (hB : SBase a₀ st) (r : Fall κ tag N (arrOf st) n)
    (q : ∀ m t, SBase a₀ t → 1 ≤ m → m ≤ N → Run κ tag N (arrOf t) m → Q (some m) t) : wpS (model prog w) A E s (tail3 n N) Q st := by
  have B := hB.setArr (mirror_perm (arrOf st) 0 n ((n - 0) / 2))
  unfold tail3
  apply wpS_bind
  apply wpS_reverse
  exact wpS_bind (asc hO h0 hN h1 hn B (r.turn (by rw [hB.size]; omega)) fun m a b c _ => wpS_pure (q m _ B (by omega) b c))

theorem desc {Q : DescSt → SortSt → Prop} (hO : κ.OneLt) (h0 : KeysOf κ a₀) (hN : N ≤ a₀.size) (h1 : 1 ≤ n) (hn : n ≤ N) (hB : SBase a₀ st) (r : Steps κ tag N (arrOf st) (n - 1) n)
    (q : ∀ m e t, SBase a₀ t → n ≤ m → m ≤ N → Steps κ tag N (arrOf t) (m - (e + 1)) m → Q (none, m, e) t) : wpS (model prog w) A E s (descLoop n N) Q st := by
  unfold descLoop
  apply wpS_forRange (fun x c t => ∃ e, e + 1 ≤ x ∧ c = (none, x, e) ∧ SBase a₀ t ∧ Steps κ tag N (arrOf t) (x - (e + 1)) x) (h := ⟨0, h1, rfl, hB, r⟩)
  · intro x c t g1 g2 g3
    obtain ⟨e, he, rfl, B, d⟩ := g3
    have hs : x ≤ (arrOf t).size := by rw [B.size]; omega
    dsimp only
    refine ask hO h0 B (by omega) (by omega) (fun y => ?_) fun z => ?_
    · show wpS _ _ _ _ (if e > 0 then _ else _) _ _
      by_cases h : e > 0
      · rw [if_pos h]
        apply wpS_bind
        apply wpS_reverse
        refine wpS_pure ⟨0, by omega, rfl, B.setArr (mirror_perm _ _ _ _), (d.turn hs).step (by omega) ?_⟩
        rw [d.keys hs, d.keys hs]
        exact y
      · obtain rfl : e = 0 := by omega
        exact wpS_pure ⟨0, by omega, rfl, B, d.fall.step (by omega) y⟩
    · refine ask hO h0 B (by omega) (by omega) (fun _ => wpS_pure (q x e t B g1 (Nat.le_of_lt g2) d)) fun z' => wpS_pure ⟨e + 1, by omega, rfl, B, ?_⟩
      rw [show x + 1 - (e + 1 + 1) = x - (e + 1) by omega]
      exact d.same g2 (KeyOrd.kle_antisymm z' z)
  · intro c t g3
    obtain ⟨e, he, rfl, B, d⟩ := g3
    rw [Nat.max_eq_right hn] at d ⊢
    exact q N e t B hn (Nat.le_refl _) d

theorem fell {Q : Option Nat → SortSt → Prop} (hO : κ.OneLt) (h0 : KeysOf κ a₀) (hN : N ≤ a₀.size) (hn : n + 1 ≤ N) (hB : SBase a₀ st) (r : Steps κ tag N (arrOf st) n (n + 1))
    (q : ∀ m t, SBase a₀ t → 1 ≤ m → m ≤ N → Run κ tag N (arrOf t) m → Q (some m) t) : wpS (model prog w) A E s (descPart n N) Q st := by
  unfold descPart
  apply wpS_bind
  apply wpS_lift
  apply wpAny_rule
  refine ⟨rfl, wpS_bind (desc hO h0 hN (by omega) hn hB r fun m e t B g1 g2 d => ?_)⟩
  show wpS _ _ _ _ (if e > 0 then _ else _) _ _
  by_cases h : e > 0
  · rw [if_pos h]
    apply wpS_bind
    apply wpS_reverse
    exact turned (n := m) hO h0 hN (show 1 ≤ m by omega) g2 (B.setArr (mirror_perm _ _ _ _)) (d.turn (by rw [B.size]; omega)) q
  · obtain rfl : e = 0 := by omega
    rw [if_neg h]
    exact turned (n := m) hO h0 hN (show 1 ≤ m by omega) g2 B d.fall q

theorem firstRun {Q : Option Nat → SortSt → Prop} (hO : κ.OneLt) (h0 : KeysOf κ a₀) (hN : N ≤ a₀.size) (h1 : 1 ≤ N) (hB : SBase a₀ st) (r : Run κ tag N (arrOf st) 0)
    (q : ∀ m t, SBase a₀ t → 1 ≤ m → m ≤ N → Run κ tag N (arrOf t) m → Q (some m) t) : wpS (model prog w) A E s (countRun' 0 N) Q st := by
  have r1 : Run κ tag N (arrOf st) 1 := ⟨fun i j a b => absurd b (by omega), fun i j a b c => r.new i j a (Nat.zero_le _) c⟩
  rw [countRun0_eq]
  refine wpS_bind (asc hO h0 hN (Nat.le_refl 1) h1 hB r1 fun n g1 g2 rn hor => ?_)
  show wpS _ _ _ _ (if (n == N) = true then _ else _) _ _
  have hs : n ≤ (arrOf st).size := by rw [hB.size]; omega
  by_cases e : n = N
  · rw [if_pos (beq_iff_eq.mpr e)]
    exact wpS_pure (q n st hB g1 g2 rn)
  have lt := hor.resolve_left e
  rw [if_neg (fun z => e (beq_iff_eq.mp z))]
  by_cases g : n > 1
  · rw [if_pos g]
    refine ask hO h0 hB (by omega) (by omega) (fun _ => wpS_pure (q n st hB g1 g2 rn)) fun z => ?_
    have all : ∀ i, 0 ≤ i → i < n → KK κ (arrOf st) i = KK κ (arrOf st) (n - 1) := fun i _ hi => KeyOrd.kle_antisymm (rn.le (by omega) (by omega)) (KeyOrd.kle_trans z (rn.le (Nat.zero_le _) hi))
    have d : Steps κ tag N (arrOf st) 0 n := ⟨by omega, fun i j a => absurd a (by omega), fun i j _ b => absurd b (by omega), all, fun i j _ b c => r.new i j b (Nat.zero_le _) (by omega), fun i j b c d => r.new i j b (Nat.zero_le _) d⟩
    apply wpS_bind
    apply wpS_reverse
    refine fell hO h0 hN (by omega) (hB.setArr (mirror_perm _ _ _ _)) ((d.turn hs).step g1 ?_) q
    rw [d.keys hs, d.keys hs]
    exact lt
  · obtain rfl : n = 1 := by omega
    rw [if_neg g]
    exact fell hO h0 hN (by omega) hB (Fall.step ⟨fun i j a b => absurd b (by omega), r1.new⟩ (Nat.le_refl _) lt) q

theorem placed {ok : Nat} {Q : Bool → SortSt → Prop} (hO : κ.OneLt) (h0 : KeysOf κ a₀) (hN : N ≤ a₀.size) (h1 : 1 ≤ ok) (hok : ok ≤ N) (hB : SBase a₀ st) (r : Run κ tag N (arrOf st) ok)
    (q : ∀ t, SBase a₀ t → Run κ tag N (arrOf t) N → Q true t) : wpS (model prog w) A E s (binarySort' 0 N ok) Q st := by
  rw [binarySort'_eq, Nat.max_eq_left h1]
  simp only [Nat.zero_add]
  refine wpS_bind (wpS_mono (wpS_forRange (fun k c t => c = (none, ()) ∧ SBase a₀ t ∧ Run κ tag N (arrOf t) k) (Q := fun c t => c = (none, ()) ∧ SBase a₀ t ∧ Run κ tag N (arrOf t) N) ?_ ?_ ⟨rfl, hB, r⟩) ?_)
  · rintro k c t g1 g2 ⟨rfl, B, rk⟩
    refine wpS_bind (wpS_mono (wpS_forRange (fun x c u => u = t ∧ ∃ lo hi, c = (none, lo, hi) ∧ lo ≤ hi ∧ hi ≤ k ∧ hi - lo ≤ k - x ∧ (∀ i, i < lo → κ.kle (KK κ (arrOf t) i) (KK κ (arrOf t) k)) ∧ ∀ i, hi ≤ i → i < k → κ.klt (KK κ (arrOf t) k) (KK κ (arrOf t) i))
      (Q := fun c u => u = t ∧ ∃ lo hi, c = (none, lo, hi) ∧ lo ≤ k ∧ (∀ i, i < lo → κ.kle (KK κ (arrOf t) i) (KK κ (arrOf t) k)) ∧ ∀ i, lo ≤ i → i < k → κ.klt (KK κ (arrOf t) k) (KK κ (arrOf t) i))
      ?_ ?_ ⟨rfl, 0, k, rfl, Nat.zero_le _, Nat.le_refl _, Nat.le_refl _, fun i h => absurd h (Nat.not_lt_zero _), fun i a b => absurd b (Nat.not_lt.mpr a)⟩) ?_)
    · rintro x c u e1 e2 ⟨rfl, lo, hi, rfl, e3, e4, e5, below, above⟩
      dsimp only
      by_cases e : lo ≥ hi
      · obtain rfl : lo = hi := Nat.le_antisymm e3 e
        rw [if_pos e]
        exact wpS_pure ⟨rfl, lo, lo, rfl, e4, below, above⟩
      · rw [if_neg e]
        exact ask hO h0 B (by omega) (by omega)
          (fun y => wpS_pure ⟨rfl, lo, _, rfl, by omega, by omega, by omega, below, fun i a b => KeyOrd.klt_of_klt_of_kle y (rk.le a b)⟩)
          fun y => wpS_pure ⟨rfl, _, hi, rfl, by omega, by omega, by omega, fun i a => KeyOrd.kle_trans (rk.le (Nat.le_of_lt_succ a) (by omega)) y, above⟩
    · rintro c u ⟨rfl, lo, hi, rfl, e3, e4, e5, below, above⟩
      obtain rfl : lo = hi := by omega
      exact ⟨rfl, lo, lo, rfl, e4, below, above⟩
    · rintro c u ⟨rfl, lo, hi, rfl, e4, below, above⟩
      show wpS _ _ _ _ (moveDown' k lo >>= fun _ => pure (ForInStep.yield (none, ()))) _ _
      rw [moveDown'_eq]
      exact wpS_bind (wpS_modify (wpS_pure ⟨rfl, B.setArr (bubble_perm _ _ _), rk.put (by rw [B.size]; omega) g2 e4 below above⟩))
  · rintro c t ⟨rfl, B, rk⟩
    rw [Nat.max_eq_right hok] at rk
    exact ⟨rfl, B, rk⟩
  · rintro c t ⟨rfl, B, rk⟩
    exact wpS_pure (q t B rk)

/-- what is left behind: all in one run, in order -/
def Done (κ : PyProof.Rows.KeyKind) (tag : Keyed → Nat) (a₀ : Array Keyed) (t : SortSt) : Prop := ((arrOf t).Perm a₀ ∧ failedOf t = none ∧ Run κ tag a₀.size (arrOf t) a₀.size) ∧ pendingOf t = #[(0, a₀.size, 0)]
theorem sortRuns {Q : Unit → SortSt → Prop} (hO : κ.OneLt) (h0 : KeysOf κ a₀) (hB : SBase a₀ st) (r : Run κ tag a₀.size (arrOf st) 0) (h2 : 2 ≤ a₀.size) (h64 : a₀.size < 64)
    (q : ∀ t, (arrOf t).Perm a₀ → failedOf t = none → Run κ tag a₀.size (arrOf t) a₀.size → Q () t) : wpS (model prog w) A E s sortRuns' Q st := by
  have one : minRun' a₀.size a₀.size 0 = a₀.size := by
    cases e : a₀.size with
    | zero => omega
    | succ f => rw [minRun'_succ, if_pos (show f + 1 < 64 by omega)]; first | rfl | done
  have push : ∀ {t : SortSt}, SBase a₀ t → Run κ tag a₀.size (arrOf t) a₀.size → Done κ tag a₀ (setPending t ((pendingOf t).push (0, a₀.size, 0))) := fun B d => ⟨⟨B.perm, B.failed, d⟩, congrArg (fun p => Array.push p (0, a₀.size, 0)) B.pend⟩
  rw [sortRuns'_eq]
  apply wpS_bind
  apply wpS_get
  dsimp only
  simp only [hB.size, one]
  refine wpS_bind (wpS_mono (wpS_forRange (fun x c t => (x = 0 ∧ c = (none, 0) ∧ t = st) ∨ (1 ≤ x ∧ c = (none, a₀.size) ∧ Done κ tag a₀ t)) (Q := fun c t => c = (none, a₀.size) ∧ Done κ tag a₀ t) ?_ ?_ (.inl ⟨rfl, rfl, rfl⟩)) ?_)
  · intro x c t _ _ g
    rcases g with ⟨rfl, rfl, rfl⟩ | ⟨g1, rfl, d⟩
    · have last : ∀ {m : Nat} {u : SortSt}, SBase a₀ u → Run κ tag a₀.size (arrOf u) a₀.size → (pendingOf u).back? = none := fun B _ => congrArg Array.back? B.pend
      dsimp only
      rw [if_neg (by omega)]
      simp only [Nat.sub_zero, Nat.min_self, Nat.zero_add]
      refine wpS_bind (firstRun (tag := tag) hO h0 (Nat.le_refl _) (by omega) hB r fun m u B m1 m2 ru => ?_)
      dsimp only
      by_cases hm : m < a₀.size
      · rw [if_pos hm]
        apply wpS_bind
        apply wpS_lift
        apply wpAny_rule
        refine ⟨rfl, wpS_bind (placed (tag := tag) hO h0 (Nat.le_refl _) m1 m2 B ru fun v Bv rv => ?_)⟩
        simp only [Bool.not_true, Bool.false_eq_true, if_false]
        apply wpS_bind
        apply wpS_get
        rw [last (m := m) Bv rv]
        exact wpS_bind (wpS_modify (wpS_pure (.inr ⟨Nat.le_refl _, rfl, push Bv rv⟩)))
      · obtain rfl : m = a₀.size := by omega
        rw [if_neg hm]
        apply wpS_bind
        apply wpS_get
        rw [last (m := 0) B ru]
        exact wpS_bind (wpS_modify (wpS_pure (.inr ⟨Nat.le_refl _, rfl, push B ru⟩)))
    · dsimp only
      rw [if_pos (Nat.le_refl _)]
      exact wpS_pure ⟨rfl, d⟩
  · intro c t g
    rcases g with ⟨g1, _⟩ | ⟨_, g2, d⟩
    · omega
    · exact ⟨g2, d⟩
  · rintro c t ⟨rfl, d⟩
    refine wpS_bind (wpS_mono (wpS_forRange (fun _ c u => u = t ∧ c = (none, ())) (Q := fun c u => u = t ∧ c = (none, ())) (fun x c u _ _ g => ?_) (fun _ _ g => g) ⟨rfl, rfl⟩) fun c u g => ?_)
    · obtain ⟨rfl, rfl⟩ := g
      apply wpS_bind
      apply wpS_get
      rw [if_pos (by rw [d.2]; exact Nat.le_refl 1)]
      exact wpS_pure ⟨rfl, rfl⟩
    · obtain ⟨rfl, rfl⟩ := g
      exact wpS_pure (q _ d.1.1 d.1.2.1 d.1.2.2)
end
end TK
namespace TK
open PySem PyProof.Rows
/-- what came out: the pairs of key and thing, put in order -/
def Out (tg : Value → Nat) (kf : Nat → Str) (vs : List Value) (out : Array Value) : Prop :=
  ∃ (keys : Array Value) (xs : Array Keyed), keys.size = vs.length ∧ (∀ (i : Nat) v, keys[i]? = some v → ∃ t, v = .str (kf i) t) ∧ xs.Perm (keys.zip vs.toArray) ∧ Run strKind (fun p => tg p.2) xs.size xs xs.size ∧ out = xs.map (·.2)
theorem zip_at {keys : Array Value} {vs : List Value} {i : Nat} {p : Keyed} (h : (keys.zip vs.toArray)[i]? = some p) : keys[i]? = some p.1 ∧ vs[i]? = some p.2 := by
  rw [Array.getElem?_zip_eq_some] at h
  simpa using h
section
variable {prog : Program} {w : World} {A : Around} {E : Value → Shared → Prop} {s : Shared} {P : PySem.Fin → Shared → Prop} {tg : Value → Nat} {kf : Nat → Str} {vs : List Value} {J : Shared → Prop} {Fz : Addr → Prop} {a kS : Addr} {f : Value} {e e1 : Nat}
/-- what is asked of the calls: J holds ahead and behind, and writing our own scratch things does no harm -/
structure Calls (prog : Program) (w : World) (A : Around) (J : Shared → Prop) (Fz : Addr → Prop) (f : Value) (vs : List Value) (kf : Nat → Str) : Prop where
  wr : ∀ (s' : Shared) (h' : Heap) (tk : Tok) (b : Addr), J s' → Fz b → (∀ c o, c ≠ b → s'.heap.get? c = some o → h'.get? c = some o) → J { s' with heap := h', toks := tk }
  run : ∀ (E : Value → Shared → Prop) (i : Nat) (x : Value) (s' : Shared), vs[i]? = some x → J s' → wpAny (model prog w) A (call f [x]) (fun k s'' => J s'' ∧ (∃ t, k = .str (kf i) t) ∧ ∀ b o, Fz b → s'.heap.get? b = some o → s''.heap.get? b = some o) E s'
theorem key_tail (C : Calls prog w A J Fz f vs kf) {keys : Array Value} {st : SortSt} (hJ : J s) (hk : s.heap.get? kS = some (seqObj "list" keys e)) (ha : s.heap.get? a = some (seqObj "list" #[] e1)) (hne : a ≠ kS) (fk : Fz kS) (fa : Fz a)
    (hs : keys.size = vs.length) (hv : ∀ (i : Nat) v, keys[i]? = some v → ∃ t, v = .str (kf i) t) (h64 : vs.length < 64) (hp : (arrOf st).Perm (keys.zip vs.toArray)) (hr : Run strKind (fun p => tg p.2) (arrOf st).size (arrOf st) (arrOf st).size) (hf : failedOf st = none)
    (h : ∀ s' out c, J s' → s'.heap.get? a = some (seqObj "list" out c) → Out tg kf vs out → (∀ b o, b ≠ a → b ≠ kS → s.heap.get? b = some o → s'.heap.get? b = some o) → P (.done (.ret .none)) s') : wpAny (model prog w) A (ksk_tail a false e1 (.ref kS) st) P E s := by
  have hz : (arrOf st).size = vs.length := by rw [hp.size_eq, Array.size_zip, hs, List.size_toArray, Nat.min_self]
  have a1 : (s.heap.update kS (Obj.mapSeq fun _ => (#[] : Array Value))).get? a = some (seqObj "list" #[] e1) := (Heap.get?_update_other _ _ (Ne.symm hne)).trans ha
  have hc2 := get?_update_seq a1 fun _ => (arrOf st).map (·.2)
  unfold ksk_tail
  refine wpAny_bind (listUpdate_at hk rfl ?_ (by rw [hs, sizeLine_eq]; omega) (Nat.zero_le _))
  refine wpAny_bind (wpAny_letGo ?_)
  refine wpAny_bind (seqEpoch_at a1 rfl ?_)
  refine wpAny_bind (listUpdate_at a1 rfl ?_ (Nat.zero_le _) (by simp only [Bool.false_eq_true, if_false, Array.size_map]; rw [hz, sizeLine_eq]; omega))
  rw [hf]
  simp only [bne_self_eq_false, Bool.false_eq_true, if_false]
  have J1 := C.wr s (s.heap.update kS (Obj.mapSeq fun _ => (#[] : Array Value))) s.toks kS hJ fk fun c o hc q => (Heap.get?_update_other _ _ (Ne.symm hc)).trans q
  have J2 := C.wr _ ((s.heap.update kS (Obj.mapSeq fun _ => (#[] : Array Value))).update a (Obj.mapSeq fun _ => (arrOf st).map (·.2))) s.toks a J1 fa fun c o hc q => (Heap.get?_update_other _ _ (Ne.symm hc)).trans q
  exact wpAny_pure (h _ _ _ J2 hc2 ⟨keys, arrOf st, hs, hv, hp, hr, rfl⟩ fun b o n1 n2 q => (Heap.get?_update_other _ _ (Ne.symm n1)).trans ((Heap.get?_update_other _ _ (Ne.symm n2)).trans q))

theorem key_end (C : Calls prog w A J Fz f vs kf) {keys : Array Value} (hJ : J s) (hk : s.heap.get? kS = some (seqObj "list" keys e)) (ha : s.heap.get? a = some (seqObj "list" #[] e1)) (hne : a ≠ kS) (fk : Fz kS) (fa : Fz a)
    (hs : keys.size = vs.length) (hv : ∀ (i : Nat) v, keys[i]? = some v → ∃ t, v = .str (kf i) t) (h64 : vs.length < 64) (ht : ∀ (i j : Nat) v u, i < j → vs[i]? = some v → vs[j]? = some u → tg v < tg u)
    (h : ∀ s' out c, J s' → s'.heap.get? a = some (seqObj "list" out c) → Out tg kf vs out → (∀ b o, b ≠ a → b ≠ kS → s.heap.get? b = some o → s'.heap.get? b = some o) → P (.done (.ret .none)) s') : wpAny (model prog w) A (ksk_end a false vs.toArray e1 (.ref kS) keys) P E s := by
  have hzs : (keys.zip vs.toArray).size = vs.length := by rw [Array.size_zip, hs, List.size_toArray, Nat.min_self]
  have tags : ∀ (i : Nat) p, (keys.zip vs.toArray)[i]? = some p → T (fun p => tg p.2) (keys.zip vs.toArray) i = tg p.2 := fun i p e => by unfold T; rw [e]; rfl
  have r0 : Run strKind (fun p => tg p.2) vs.length (keys.zip vs.toArray) 0 := ⟨fun i j _ b => absurd b (Nat.not_lt_zero _), fun i j b _ c => by
    have e1 := Array.getElem?_eq_getElem (xs := keys.zip vs.toArray) (i := i) (by omega)
    have e2 := Array.getElem?_eq_getElem (xs := keys.zip vs.toArray) (i := j) (by omega)
    rw [tags i _ e1, tags j _ e2]
    exact ht i j _ _ b (zip_at e1).2 (zip_at e2).2⟩
  unfold ksk_end
  simp only [Bool.false_eq_true, if_false]
  by_cases h2 : vs.toArray.size < 2
  · rw [if_pos h2, if_pos h2]
    rw [List.size_toArray] at h2
    refine wpAny_bind (wpAny_pure ?_)
    rw [StateT.run_pure]
    refine wpAny_bind (wpAny_pure ?_)
    refine key_tail (st := SortSt.mk' general' (keys.zip vs.toArray) #[] 7 none) C hJ hk ha hne fk fa hs hv h64 (Array.Perm.refl _) ?_ rfl h
    show Run strKind (fun p => tg p.2) (keys.zip vs.toArray).size (keys.zip vs.toArray) (keys.zip vs.toArray).size
    rw [hzs]
    exact ⟨fun i j b c => absurd c (by omega), fun i j b c d => absurd d (by omega)⟩
  · rw [if_neg h2, if_neg h2]
    rw [List.size_toArray] at h2
    have kk : ∀ {Q : SortKind → Shared → Prop}, Q oneType' s → wpAny (model prog w) A (keyKind' keys) Q E s := fun {Q} q => by
      have z := TS.kind_strs (prog := prog) (w := w) (A := A) (E := E) (s := s) (vs := keys.toList) (fun v hm => by
        obtain ⟨i, hi, rfl⟩ := List.getElem_of_mem hm
        obtain ⟨t, e⟩ := hv i keys.toList[i] (by rw [← Array.getElem?_toList, List.getElem?_eq_getElem hi])
        exact ⟨_, t, e⟩) (by rw [Array.length_toList, hs]; omega) q
      rw [Array.toArray_toList] at z
      exact z
    refine wpAny_bind (kk ?_)
    refine wpAny_bind (wpAny_mono (sortRuns (κ := strKind) (tag := fun p => tg p.2) (a₀ := keys.zip vs.toArray) (st := SortSt.mk' oneType' (keys.zip vs.toArray) #[] 7 none)
      (Q := fun _ t => (arrOf t).Perm (keys.zip vs.toArray) ∧ failedOf t = none ∧ Run strKind (fun p => tg p.2) (keys.zip vs.toArray).size (arrOf t) (keys.zip vs.toArray).size)
      strKind_oneLt (fun p hp => ?_) ⟨Array.Perm.refl _, rfl, rfl, rfl⟩ (by rw [hzs]; exact r0) (by rw [hzs]; omega) (by rw [hzs]; exact h64) fun t x1 x2 x3 => ⟨x1, x2, x3⟩) ?_ fun _ _ z => z)
    · obtain ⟨i, hi, rfl⟩ := List.getElem_of_mem hp
      have q : (keys.zip vs.toArray)[i]? = some (keys.zip vs.toArray).toList[i] := by rw [← Array.getElem?_toList, List.getElem?_eq_getElem hi]
      obtain ⟨t, e⟩ := hv i _ (zip_at q).1
      exact ⟨(kf i).cps.toList, by rw [e]⟩
    · rintro ⟨⟨⟩, t⟩ s' ⟨rfl, x1, x2, x3⟩
      exact key_tail C hJ hk ha hne fk fa hs hv h64 x1 (by rw [x1.size_eq]; exact x3) x2 h

theorem key_rest (C : Calls prog w A J Fz f vs kf) (hJ : J s) (hk : s.heap.get? kS = some (seqObj "list" #[] e)) (ha : s.heap.get? a = some (seqObj "list" #[] e1)) (hne : a ≠ kS) (fk : Fz kS) (fa : Fz a)
    (h64 : vs.length < 64) (ht : ∀ (i j : Nat) v u, i < j → vs[i]? = some v → vs[j]? = some u → tg v < tg u)
    (h : ∀ s' out c, J s' → s'.heap.get? a = some (seqObj "list" out c) → Out tg kf vs out → P (.done (.ret .none)) s') : wpAny (model prog w) A (ksk_rest a f false vs.toArray e1 (.ref kS)) P E s := by
  unfold ksk_rest
  refine wpAny_bind (wpAny_rule ?_)
  rw [List.forIn_toArray]
  refine wpAny_bind (ksk_fold (fun i s' => J s' ∧ s'.heap.get? a = some (seqObj "list" #[] e1) ∧ ∃ keys c, s'.heap.get? kS = some (seqObj "list" keys c) ∧ keys.size = i ∧ ∀ (j : Nat) v, keys[j]? = some v → ∃ t, v = .str (kf j) t) vs 0 s
    ⟨hJ, ha, #[], e, hk, rfl, fun j v z => by simp at z⟩ ?_ ?_)
  · rintro j x s' hx ⟨J', a', keys, c, k', hs, hv⟩
    rw [Nat.zero_add] at hs ⊢
    have hj : j < vs.length := (List.getElem?_eq_some_iff.mp hx).1
    refine wpAny_bind (wpAny_attempt (wpAny_mono (C.run (fun _ _ => False) j x s' hx J') (fun k s'' z => ?_) fun _ _ z => z.elim))
    obtain ⟨J'', ⟨t, rfl⟩, kp⟩ := z
    have k2 := kp kS _ fk k'
    have a2 := kp a _ fa a'
    refine wpAny_bind (listUpdate_at k2 rfl ?_ (by rw [sizeLine_eq]; omega) (Nat.le_trans (Nat.le_of_eq (Array.size_push ..)) (by rw [sizeLine_eq]; omega)))
    refine wpAny_pure ⟨rfl, C.wr s'' _ s''.toks kS J'' fk fun b o hb q => (Heap.get?_update_other _ _ (Ne.symm hb)).trans q, (Heap.get?_update_other _ _ (Ne.symm hne)).trans a2, keys.push (.str (kf j) t), _, get?_update_seq k2 (·.push (.str (kf j) t)), by rw [Array.size_push, hs], fun i v z => ?_⟩
    rw [Array.getElem?_push] at z
    split at z
    · rename_i hi
      cases z
      exact ⟨t, by rw [hi, hs]⟩
    · exact hv i v z
  · rintro s' ⟨J', a', keys, c, k', hs, hv⟩
    rw [Nat.zero_add] at hs
    refine wpAny_bind (listItems_at k' rfl ?_)
    exact key_end C J' k' a' hne fk fa hs hv h64 ht fun s'' out c' x1 x2 x3 _ => h s'' out c' x1 x2 x3

theorem key_sort {n : Nat} (C : Calls prog w A J Fz f vs kf) (hJ : J s) (ho : s.heap.get? a = some (seqObj "list" vs.toArray n)) (fa : Fz a) (fz : ∀ b, s.heap.objs.size ≤ b → Fz b)
    (h64 : vs.length < 64) (ht : ∀ (i j : Nat) v u, i < j → vs[i]? = some v → vs[j]? = some u → tg v < tg u)
    (h : ∀ s' out c, J s' → s'.heap.get? a = some (seqObj "list" out c) → Out tg kf vs out → P (.done (.ret .none)) s') : wpAny (model prog w) A (ksk_tree a f false) P E s := by
  have hlt : a < s.heap.objs.size := Heap.lt_size ho
  obtain ⟨e1, ho1⟩ : ∃ e1, (s.heap.update a (Obj.mapSeq fun _ => (#[] : Array Value))).get? a = some (seqObj "list" #[] e1) := ⟨_, get?_update_seq ho fun _ => #[]⟩
  have J1 := C.wr s (s.heap.update a (Obj.mapSeq fun _ => (#[] : Array Value))) s.toks a hJ fa fun c o hc q => (Heap.get?_update_other _ _ (Ne.symm hc)).trans q
  have J2 := C.wr _ ((s.heap.update a (Obj.mapSeq fun _ => (#[] : Array Value))).push (seqObj "tuple" vs.toArray 0)) s.toks a J1 fa fun c o hc q => Heap.get?_push_of_some _ q
  have J3 := C.wr _ (((s.heap.update a (Obj.mapSeq fun _ => (#[] : Array Value))).push (seqObj "tuple" vs.toArray 0)).push (seqObj "list" #[] 0)) s.toks a J2 fa fun c o hc q => Heap.get?_push_of_some _ q
  have sz : ((s.heap.update a (Obj.mapSeq fun _ => (#[] : Array Value))).push (seqObj "tuple" vs.toArray 0)).objs.size = s.heap.objs.size + 1 := by rw [size_push', Heap.size_update]
  unfold ksk_tree
  refine wpAny_bind (listItems_at ho rfl ?_)
  refine wpAny_bind (listUpdate_at ho rfl ?_ (by rw [List.size_toArray, sizeLine_eq]; omega) (Nat.zero_le _))
  refine wpAny_bind (seqEpoch_at ho1 rfl ?_)
  refine wpAny_bind (wpAny_newTuple ?_ (by show vs.length ≤ _; rw [sizeLine_eq]; omega))
  refine wpAny_bind (wpAny_newList ?_ (Nat.zero_le _))
  refine wpAny_holding ?_
  refine key_rest (kS := ((s.heap.update a (Obj.mapSeq fun _ => (#[] : Array Value))).push (seqObj "tuple" vs.toArray 0)).objs.size) (e := 0) (e1 := e1) C J3 (Heap.get?_push_size _ rfl) (Heap.get?_push_of_some _ (Heap.get?_push_of_some _ ho1)) (by rw [sz]; exact Nat.ne_of_lt (Nat.lt_succ_of_lt hlt)) (fz _ (by rw [sz]; exact Nat.le_succ _)) fa h64 ht h
end
section
variable {prog : Program} {w : World} {A : Around} {E : Value → Shared → Prop} {s : Shared}
/-- what is collected of a range -/
theorem col_range {Q : List Value → Shared → Prop} {r : Addr} {lo hi st : Int} {t u v : Tok} {n : Nat} (hh : A.handled = none) (hr : IsRange s.heap r lo hi st t u v) (hsm : Builtin.Range.small lo hi st = true) (hn : Builtin.Range.rangeSize lo hi st = n) (hl : n ≤ 2 ^ 24)
    (q : ∀ h' tk (acc : Array Value), (∀ b o, s.heap.get? b = some o → h'.get? b = some o) → s.heap.objs.size ≤ h'.objs.size → ItemsOf (fun i v => ∃ t, v = .int (lo + i * st) t) acc n → Q acc.toList { s with heap := h', toks := tk }) : wpAny (model prog w) A (collect (.ref r)) Q E s := by
  unfold collect
  refine wpAny_bind (wpAny_runValue (codeAny_builtin PySem.F.entry_proto_collect ?_))
  rw [Around.under_plainId PySem.F.plain_proto_collect _]
  show wpAny _ A.in1 (newList [] >>= fun l => again (.builtin "list.__iadd__" ⟨[l, .ref r], []⟩)) _ _ s
  refine wpAny_bind (wpAny_newObj_type ?_)
  refine wpAny_pure ⟨plainId_quiet PySem.F.plain_list_iadd _, codeAny_builtin PySem.F.entry_list_iadd ?_⟩
  rw [Around.under_plainId PySem.F.plain_list_iadd _]
  show wpAny _ A.in1 (Builtin.List.listExtendWith (.ref s.heap.objs.size) (.ref r) (.ref s.heap.objs.size)) _ _ _
  have hS : (s.heap.push { cls := .type "list", data := .seq ([] : List Value).toArray }).get? s.heap.objs.size = some { cls := .type "list", data := .seq #[] 0 } := Heap.get?_push_size _ rfl
  refine wpAny_extend_range (R := fun r s' => match r with
      | .ok (.ret v) => wpAny (model prog w) A (match v with
        | .ref a => do
          match (← load a).data with
            | .seq xs _ => pure xs.toList
            | _ => unsupported "internal:collect"
        | _ => unsupported "internal:collect") Q E s'
      | .ok _ => False
      | .error e => E e s') (s := { s with heap := s.heap.push { cls := .type "list", data := .seq ([] : List Value).toArray } }) hh (Heap.get?_push_of_some _ hr) hsm hn hl s.heap.objs.size (.ref s.heap.objs.size) 0 hS fun h' tk acc c kp e it => ?_
  show wpAny _ A (load s.heap.objs.size >>= _) _ _ _
  refine wpAny_bind (wpAny_load e (wpAny_pure ?_))
  refine q h' tk acc (fun b o z => kp b o (Nat.ne_of_lt (Heap.lt_size z)) (Heap.get?_push_of_some _ z)) (Nat.le_of_lt (Heap.lt_size e)) it
end
end TK
namespace L2
open PySem PySem.Spec PyProof.Rows
structure LamOk (N N' : List Str) (ix : List (Option Nat)) (fsc scope : Scope) (p : Str) : Prop where
  kind : scope.kind = .function
  co : scope.isCoroutine = false
  gen : scope.isGenerator = false
  nocell : ∀ y ∈ scope.names, y.2 ≠ .cell
  free : ∀ y ∈ scope.names, y.2 = .free → (fsc.names.lookup y.1 = some .cell ∨ fsc.names.lookup y.1 = some .free)
  okx : okIx N N' scope.names ix 0 = true
  len : ix.length = N'.length
  par : N'[0]? = some p ∧ scope.names.lookup p = some .local
def cxLam (X : Cx) (A' : Around) (N' : List Str) (qual : Str) (scope : Scope) (cl : List (Str × Addr)) (f c' : Addr) (s : Shared) (H : Hp) : Cx where
  prog := X.prog
  w := X.w
  K := X.K
  mg := X.mg
  base := X.base
  A := A'.deeper (PySem.W.envX qual scope s.heap.objs.size f (.ref c') cl)
  N := N'
  s₀ := s
  H₀ := H
  env := PySem.W.envX qual scope s.heap.objs.size f (.ref c') cl
  outer := X.stack
  stack := PySem.W.envX qual scope s.heap.objs.size f (.ref c') cl :: X.stack
  ex := []
  fn := fun _ => false
  calm := X.calm
  pn := []
  xe := fun _ _ => False
section
variable {X : Cx} {pins : List (Addr × Obj)} {σ : St} {H : Hp} {s : Shared} {A' : Around} {N' : List Str} {ix : List (Option Nat)} {scope : Scope} {p qual : Str} {f c' : Addr}
theorem lam_ok (I : Inv X pins σ H s) (O : LamOk X.N N' ix X.env.scope scope p) (hA : A'.frames = X.A.frames) (hh : A'.handled = X.A.handled) : (cxLam X A' N' qual scope (clOf X.env scope.names []) f c' s H).Ok := by
  have sub : ∀ x c, (clOf X.env scope.names []).lookup x = some c → X.env.cells.lookup x = some c := clOf_sub _ _ (fun x c z => by simp at z)
  refine ⟨I.ok.mod, O.kind, rfl, rfl, Nat.le_refl _, fun x y c h1 h2 => I.ok.inj x y c (sub x c h1) (sub y c h2), fun x hx => ?_, fun x c z => (nomatch (show false = true from z)), fun z => hh.trans (I.ok.hd z), Around.frames_deeper (hA.trans I.ok.frames), .inr ⟨rfl, rfl⟩,
    fun b hb => absurd (show b ∈ ([] : List Addr) from hb) (by simp), I.bs, Nat.le_trans I.ok.bsz I.sz, fun b o e hb => absurd (show b ∈ ([] : List Addr) from hb) (by simp), fun b hb => absurd (show b ∈ ([] : List Addr) from hb) (by simp), I.stack, I.stkFree⟩
  have hx' : scope.names.lookup x = some .free := by
    rcases hx with z | z
    · exact absurd rfl (O.nocell _ (PySem.mem_of_lookup z))
    · exact z
  have hm : (x, NameKind.free) ∈ scope.names := PySem.mem_of_lookup hx'
  obtain ⟨c, hc⟩ := I.ok.has x (O.free _ hm rfl)
  exact Option.isSome_iff_exists.mp (clOf_has (env := X.env) scope.names [] x (.inl ⟨hm, by rw [hc]; rfl⟩))

theorem lam_inv {h4 : Heap} {t4 : Nat} {v : V} {u : Value} (I : Inv X pins σ H s) (O : LamOk X.N N' ix X.env.scope scope p) (hA : A'.frames = X.A.frames) (hh : A'.handled = X.A.handled) (r : RelV v u)
    (hns : h4.Ns s.heap.objs.size (fun y => ([(p, u)] : List (Str × Value)).reverse.lookup y)) (k : ∀ b o, s.heap.get? b = some o → h4.get? b = some o) :
    Inv (cxLam X A' N' qual scope (clOf X.env scope.names []) f c' s H) [] ((mkIx ix σ).set 0 (some v)) H { s with heap := h4, toks := t4 } := by
  have sub : ∀ x c, (clOf X.env scope.names []).lookup x = some c → X.env.cells.lookup x = some c := clOf_sub _ _ (fun x c z => by simp at z)
  refine ⟨lam_ok I O hA hh, rfl, I.bare, Un.kept k, ⟨_, hns, fun i x v' h1 h2 h3 => ?_⟩, fun x c e => ?_, I.hok.fresh (Nat.le_refl _), fun x c e => I.freeC x c (sub x c e), fun p hp => absurd (show p ∈ ([] : List (Addr × Obj)) from hp) (by simp), I.hok.kept k, ?_⟩
  · have h1' : N'[i]? = some x := h1
    by_cases hi : i = 0
    · subst hi
      rw [O.par.1] at h1'
      cases h1'
      have hl : 0 < (mkIx ix σ).length := by
        have := (List.getElem?_eq_some_iff.mp O.par.1).1
        unfold mkIx
        rw [List.length_map, O.len]
        exact this
      rw [List.getElem?_set_self hl] at h2
      cases h2
      exact ⟨u, r, .inl ⟨O.par.2, by simp⟩⟩
    · rw [List.getElem?_set_ne (Ne.symm hi)] at h2
      unfold mkIx at h2
      rw [List.getElem?_map] at h2
      cases e : ix[i]? with
      | none => rw [e] at h2; cases h2
      | some o =>
        rw [e] at h2
        cases o with
        | none => cases h2
        | some j =>
          have h2' : (σ[j]?).join = some v' := by simpa using h2
          obtain ⟨y, e1, e2, e3⟩ := okIx_get O.okx e
          rw [Nat.zero_add, h1'] at e1
          cases e1
          have e4 : σ[j]? = some (some v') := by
            cases q : σ[j]? with
            | none => rw [q] at h2'; cases h2'
            | some o => rw [q] at h2'; rw [show o = some v' from h2']
          have hm : (x, NameKind.free) ∈ scope.names := PySem.mem_of_lookup e3
          have hf := O.free _ hm rfl
          obtain ⟨m0, _, hl⟩ := I.loc
          obtain ⟨u, ru, lk⟩ := hl j x v' e2 e4 (.inr hf)
          refine ⟨u, ru, .inr ⟨.inr e3, ?_⟩⟩
          have q := clOf_has (env := X.env) scope.names [] x (.inl ⟨hm, by obtain ⟨c, hc⟩ := I.ok.has x hf; rw [hc]; rfl⟩)
          obtain ⟨c, hc⟩ := Option.isSome_iff_exists.mp q
          rcases lk with ⟨k1, _⟩ | ⟨_, c', hc', hcell⟩
          · have k1' : X.env.scope.names.lookup x = some .local := k1
            rcases hf with z | z
            · exact absurd (k1'.symm.trans z) (by simp)
            · exact absurd (k1'.symm.trans z) (by simp)
          · have q2 := sub x c hc
            rw [hc'] at q2
            obtain rfl := Option.some.inj q2
            exact ⟨_, hc, hcell.keeps k⟩
  · obtain ⟨v, z⟩ := I.cell x c (sub x c e)
    exact ⟨v, z.keeps k⟩
  · show ((mkIx ix σ).set 0 (some v)).length = N'.length
    unfold mkIx
    rw [List.length_set, List.length_map]
    exact O.len

theorem lam_call {name : Str} {params : Arguments} {body : Expr} {pm ctv : Value} {te : TE} {v : V} {u : Value} {Q : VK} {E : Value → Shared → Prop} (I : Inv X pins σ H s) (O : LamOk X.N N' ix X.env.scope scope p) (hA : A'.frames = X.A.frames) (hh : A'.handled = X.A.handled) (hd : A'.depth < recursionLimit)
    (ho : s.heap.get? f = some (PySem.W.kla_obj name qual params body scope (clOf X.env scope.names []) pm c' ctv)) (hcd : s.heap.CodeRec (.ref c') qual)
    (hb : bindArgs (PySem.W.kla_fn name qual params body scope (clOf X.env scope.names []) pm (.ref c') ctv) ⟨[u], []⟩ = pure [(p, u)])
    (he : ∀ A' cl f c' s H, PE (cxLam X A' N' qual scope cl f c' s H) body te) (r : RelV v u) (h : te ((mkIx ix σ).set 0 (some v)) H Q) :
    wpAny (model X.prog X.w) A' (call (.ref f) [u]) (CE X.stack X.prog X.w H s Q) E s := by
  refine wpAny_call (PySem.W.kla_callFunE hd ho rfl O.co O.gen rfl hcd ?_)
  rw [hb]
  refine wpAny_pure (wpAny_newFunctionEnv O.nocell (fun y hy => by rw [List.mem_singleton.mp hy]; exact O.par.2) (fun h₁ hns hsb => ?_) O.kind)
  have k : ∀ b o, s.heap.get? b = some o → h₁.get? b = some o := fun b o e => hsb.extBut b o (Nat.ne_of_lt (Heap.lt_size e)) (Heap.get?_push_of_some _ e)
  refine ⟨I.nolimit.keeps k, ?_⟩
  show codeAny _ _ (.expr body (PySem.W.envX qual scope s.heap.objs.size f (.ref c') (clOf X.env scope.names []))) _ _
  refine PySem.W.kla_codeExpr (wpAny_mono (he A' _ f c' s H [] _ _ H Q (lam_inv I O hA hh r hns k) h) (fun w s' z => ?_) fun _ _ z => z.elim)
  obtain ⟨v', H', J, rv, q⟩ := z
  exact ⟨v', H', J.os, J.bare, J.base, J.hok, rv, q⟩
end
def CodeO (c : Addr) (q : Str) : HO := .ext fun h => h.CodeRec (.ref c) q
theorem codeO_ok {P : Program} {w : World} {H : Hp} {h : Heap} {c : Addr} {q : Str} (x : h.CodeRec (.ref c) q) : ObjOk P w H h c (CodeO c q) :=
  ⟨x, let ⟨c', o, _, _, e, g, _⟩ := x; by cases e; exact ⟨o, g⟩, fun h1 h2 y k => let ⟨c', o, vs, t, e, g, r⟩ := y; by cases e; exact ⟨c, o, vs, t, rfl, k _ g, r⟩⟩
def TblOk (P : Addr) (pos : Pos) (q : Str) (H : Hp) : Prop := ∃ ps, H P = some (.tbl ps) ∧ TriplesOk ps.toList ∧ (codeAmong pos ps.toList = none ∨ ∃ c', codeAmong pos ps.toList = some (.ref c') ∧ H c' = some (CodeO c' q))
/-- all that was tracked is as it was, but that the table may have got its entry -/
structure SameB (P : Addr) (pos : Pos) (q : Str) (H H' : Hp) : Prop where
  keep : ∀ b o, H b = some o → (∀ ps, o ≠ .tbl ps) → H' b = some o
  tab : TblOk P pos q H → TblOk P pos q H'
  free : ∀ {b}, H' b = none → H b = none
section
variable {P : Addr} {pos : Pos} {q : Str} {H H' H'' : Hp}
theorem SameB.refl : SameB P pos q H H := ⟨fun _ _ h _ => h, fun t => t, fun h => h⟩
theorem SameB.trans (a : SameB P pos q H H') (b : SameB P pos q H' H'') : SameB P pos q H H'' := ⟨fun c o h n => b.keep c o (a.keep c o h n) n, fun t => b.tab (a.tab t), fun h => a.free (b.free h)⟩
theorem Same.b (g : Same H H') : SameB P pos q H H' := ⟨fun c o h _ => g c o h, fun ⟨ps, a, b, c⟩ => ⟨ps, g _ _ a, b, c.elim .inl fun ⟨c', x, y⟩ => .inr ⟨c', x, g _ _ y⟩⟩, fun h => g.free h⟩
theorem SameB.upd (g : SameB P pos q H H') {p : Addr} (h : H' p = none) (o : HO) : SameB P pos q H (upd H' p o) := g.trans (same_new h o).b
end
/-- the module of the built-ins, as the globals name it -/
def BM (mg : Str → Option Value) (h : Heap) : Prop := ∃ bm ob, mg "__builtins__" = some (.ref bm) ∧ bm ≠ builtinsNs ∧ h.get? bm = some ob ∧ ob.cls = .type "module" ∧ ob.dict = some builtinsNs ∧ ob.data = .plain

section
variable {X : Cx} {pins : List (Addr × Obj)} {σ : St} {H : Hp} {s : Shared} {P c : Addr} {pos : Pos} {q : Str}
/-- the table gets its entry -/
theorem tbl_un {fs : List Addr} {ps more : Array Value} {h h' : Heap} {c' : Addr} (hP : H P = some (.tbl ps)) (k : ∀ b o, b ≠ P → h.get? b = some o → h'.get? b = some o) (hP' : ∃ o, h'.get? P = some o) (hc : h.objs.size ≤ c') (hn : H c' = none) (o : HO) :
    Un fs [] H (upd (upd H P (.tbl (ps ++ more))) c' o) h h' := by
  have nP : ∀ b, H b = none → b ≠ P := fun b n z => by rw [z, hP] at n; cases n
  have nc : ∀ {b o}, h.get? b = some o → b ≠ c' := fun e => Nat.ne_of_lt (Nat.lt_of_lt_of_le (Heap.lt_size e) hc)
  refine ⟨fun b o e n _ _ => k b o (nP b n) e, fun b o e n _ _ => ⟨o.slots, k b o (nP b n) e⟩, fun b o e n _ => ?_, fun b o e _ => ?_, fun b xs e => ?_, fun b o u e => ?_, fun b qs e => ?_⟩
  · rw [upd_ne (nc e), upd_ne (nP b n)]; exact n
  · by_cases z : b = P
    · rw [z]; exact hP'
    · exact ⟨o, k b o z e⟩
  · rw [upd_ne (ne_of_none e hn), upd_ne (ne_of e hP fun z => nomatch z)]; exact e
  · rw [upd_ne (ne_of_none e hn), upd_ne (ne_of e hP fun z => nomatch z)]; exact e
  · rw [upd_ne (ne_of_none e hn)]
    by_cases z : b = P
    · subst z
      rw [hP] at e
      cases e
      exact ⟨more, upd_same⟩
    · exact ⟨#[], by rw [upd_ne z, e]; simp⟩
theorem tbl_hok {Pr : Program} {w : World} {ps ps' : Array Value} {h h' : Heap} {c' : Addr} (ok : HOk Pr w H h) (hP : H P = some (.tbl ps)) (k : ∀ b o, b ≠ P → h.get? b = some o → h'.get? b = some o) (hP' : h'.get? P = some (PySem.W.tabObj ps')) (hc : h.objs.size ≤ c') (hrec : h'.CodeRec (.ref c') q) :
    HOk Pr w (upd (upd H P (.tbl ps')) c' (CodeO c' q)) h' := by
  have hn := ok.fresh hc
  intro b u e
  by_cases z : b = c'
  · subst z
    rw [upd_same] at e
    cases e
    exact codeO_ok hrec
  rw [upd_ne z] at e
  by_cases y : b = P
  · subst y
    rw [upd_same] at e
    cases e
    exact hP'
  rw [upd_ne y] at e
  refine (ok b u e).stay (fun d v hd g => k d v ?_ g) (fun d r => ?_) fun d xs r => ?_
  · rcases hd with rfl | hd
    · exact y
    · exact ne_of hd hP fun z => nomatch z
  · rw [upd_ne (ne_of_none r hn), upd_ne (ne_of r hP fun z => nomatch z)]; exact r
  · rw [upd_ne (ne_of_none r hn), upd_ne (ne_of r hP fun z => nomatch z)]; exact r
theorem tbl_same {ps : Array Value} {c' : Addr} (hP : H P = some (.tbl ps)) (ht : TriplesOk ps.toList) (hnf : codeAmong pos ps.toList = none) (hn : H c' = none) :
    SameB P pos q H (upd (upd H P (.tbl (ps ++ #[rawInt pos.line, rawInt pos.col, .ref c']))) c' (CodeO c' q)) ∧ TblOk P pos q (upd (upd H P (.tbl (ps ++ #[rawInt pos.line, rawInt pos.col, .ref c']))) c' (CodeO c' q)) := by
  have tb : TblOk P pos q (upd (upd H P (.tbl (ps ++ #[rawInt pos.line, rawInt pos.col, .ref c']))) c' (CodeO c' q)) := by
    refine ⟨_, by rw [upd_ne (ne_of_none hP hn)]; exact upd_same, ?_, .inr ⟨c', ?_, upd_same⟩⟩
    · rw [Array.toList_append]; exact TriplesOk_snoc _ _ _ _ ht
    · rw [Array.toList_append]; exact codeAmong_snoc _ ht hnf
  refine ⟨⟨fun b o e n => ?_, fun _ => tb, fun {b} e => ?_⟩, tb⟩
  · rw [upd_ne (ne_of_none e hn), upd_ne (ne_of e hP (n _))]; exact e
  · by_cases z : b = c'
    · rw [z, upd_same] at e; cases e
    · rw [upd_ne z] at e
      by_cases y : b = P
      · rw [y, upd_same] at e; cases e
      · rw [upd_ne y] at e; exact e

theorem lam_make {params : Arguments} {body : Expr} {scope : Scope} {A : Around} {E : Value → Shared → Prop} {Q : Value → Shared → Prop} (I : Inv X pins σ H s) (hcd : X.env.code = .ref c) (C : PySem.W.CodeHd X.base c P) (bm : BM X.mg X.base) (t : TblOk P pos q H) (hq : X.env.qual ++ "<lambda>" = q) (hdef : defaultsOf params X.env = ([], []))
    (hfree : ∀ y ∈ scope.names, y.2 = .free → (X.env.scope.names.lookup y.1 = some .cell ∨ X.env.scope.names.lookup y.1 = some .free))
    (k : ∀ f c' pm ctv H1 s1, Inv X pins σ H1 s1 → SameB P pos q H H1 → TblOk P pos q H1 → s1.heap.get? f = some (PySem.W.kla_obj "<lambda>" q params body scope (clOf X.env scope.names []) pm c' ctv) → H1 f = none → s.heap.objs.size ≤ f → s.heap.objs.size ≤ s1.heap.objs.size → s1.heap.CodeRec (.ref c') q → H1 c' = some (CodeO c' q) → Q (.ref f) s1) :
    wpAny (model X.prog X.w) A (eval (.Lambda params body scope pos) X.env) Q E s := by
  subst hq
  obtain ⟨ps, hP, ht, hor⟩ := t
  obtain ⟨bmA, ob, b1, b2, b3, b4, b5, b6⟩ := bm
  have hPo : s.heap.get? P = some (PySem.W.tabObj ps) := I.hok _ _ hP
  have hg := I.mod.glob.keeps I.bk
  have neT : ∀ {b : Addr} {o : Obj}, X.base.get? b = some o → b ≠ P := fun e z => by
    have := (I.bs _ _ e).2
    rw [z, hP] at this
    cases this
  have hgP : mainGlobals ≠ P := by
    obtain ⟨o, es, ep, e, _⟩ := I.mod.glob
    exact neT e
  have hbG : bmA ≠ mainGlobals := fun z => by
    obtain ⟨o, es, ep, e, hd, _⟩ := I.mod.glob
    rw [z, e] at b3
    cases b3
    rw [hd] at b6
    cases b6
  have hb : s.heap.BuiltinsAt X.mg P := ⟨bmA, ob, b1, b2, hbG, neT b3, I.bk _ _ b3, b4, b5, b6⟩
  have hcl : closureFor scope X.env = pure (clOf X.env scope.names []) := closure_clOf fun y hy e => I.ok.has y.1 (hfree y hy e)
  refine PySem.W.kla_eval hdef ?_
  rcases hor with hnf | ⟨c', hf, hc'⟩
  · refine PySem.W.kla_makeFunction (mg := X.mg) hcl I.ok.glob hg hcd (C.keeps I.bk) hPo ht hnf hgP hb fun c' ctv h' tk hx hge hlt hrec htb => ?_
    have hn := I.hok.fresh hge
    have sz : s.heap.objs.size ≤ h'.objs.size := Nat.le_of_lt (Nat.lt_of_le_of_lt hge hlt)
    have k1 : ∀ (fo : Obj) b o, b ≠ P → s.heap.get? b = some o → (h'.push fo).get? b = some o := fun fo b o z e => Heap.get?_push_of_some _ (hx b o z e)
    have hP' : ∀ fo : Obj, (h'.push fo).get? P = some (PySem.W.tabObj (ps ++ #[rawInt pos.line, rawInt pos.col, .ref c'])) := fun fo => Heap.get?_push_of_some _ htb
    obtain ⟨s1, s2⟩ := tbl_same (q := X.env.qual ++ "<lambda>") hP ht hnf hn
    have fr : upd (upd H P (.tbl (ps ++ #[rawInt pos.line, rawInt pos.col, .ref c']))) c' (CodeO c' (X.env.qual ++ "<lambda>")) h'.objs.size = none := by
      rw [upd_ne (Nat.ne_of_gt hlt), upd_ne (Ne.symm (Nat.ne_of_lt (Heap.lt_size htb)))]
      exact I.hok.fresh sz
    refine k h'.objs.size c' _ ctv _ _ (I.un (t' := tk) (tbl_un hP (k1 _) ⟨_, hP' _⟩ hge hn _) (tbl_hok I.hok hP (k1 _) (hP' _) hge (hrec.keeps fun b o e => Heap.get?_push_of_some _ e))) s1 s2 (Heap.get?_push_size _ rfl) fr sz ?_ (hrec.keeps fun b o e => Heap.get?_push_of_some _ e) upd_same
    show s.heap.objs.size ≤ (h'.push _).objs.size
    rw [Heap.size_push]
    exact Nat.le_succ_of_le sz
  · have hrec : s.heap.CodeRec (.ref c') (X.env.qual ++ "<lambda>") := (I.hok _ _ hc').1
    refine PySem.W.kla_makeFunctionHit (mg := X.mg) hcl I.ok.glob hg hcd (C.keeps I.bk) hPo ht hf hb fun ctv h' tk hk sz => ?_
    refine k h'.objs.size c' _ ctv H _ (I.kept (t' := tk) fun b o e => Heap.get?_push_of_some _ (hk b o e)) .refl ⟨ps, hP, ht, .inr ⟨c', hf, hc'⟩⟩ (Heap.get?_push_size _ rfl) (I.hok.fresh sz) sz ?_ (hrec.keeps fun b o e => Heap.get?_push_of_some _ (hk b o e)) hc'
    show s.heap.objs.size ≤ (h'.push _).objs.size
    rw [Heap.size_push]
    exact Nat.le_succ_of_le sz
end
end L2
namespace L2
open PySem PySem.Spec PyProof.Rows
section
variable {X : Cx} {pins : List (Addr × Obj)} {σ : St} {H : Hp} {s : Shared}
/-- a thing of ours that was not told of yet is told of -/
theorem Inv.adopt {a : Addr} {o : HO} (I : Inv X pins σ H s) (h0 : X.s₀.heap.objs.size ≤ a) (hn : H a = none) (hL : a ≠ X.env.locals) (hc : ∀ x c, X.env.cells.lookup x = some c → c ≠ a) (hp : ∀ p ∈ X.pn ++ pins, p.1 ≠ a)
    (new : ObjOk X.prog X.w (upd H a o) s.heap a o) : Inv X pins σ (upd H a o) s := by
  refine ⟨I.ok, I.os, I.bare, ⟨I.base.keep, I.base.slot, fun b ob e n hx => ?_, I.base.there, fun b xs e => ?_, fun b ob u e => ?_, fun b ps e => ?_⟩, I.loc, I.cell, ?_, fun x c e => ?_, fun p h => ?_, fun b u e => ?_, I.len⟩
  · rw [upd_ne (Nat.ne_of_lt (Nat.lt_of_lt_of_le (Heap.lt_size e) h0))]; exact I.base.free b ob e n hx
  · have q := I.base.tups b xs e
    rw [upd_ne (ne_of_none q hn)]; exact q
  · have q := I.base.frzs b ob u e
    rw [upd_ne (ne_of_none q hn)]; exact q
  · obtain ⟨m, q⟩ := I.base.tbls b ps e
    exact ⟨m, by rw [upd_ne (ne_of_none q hn)]; exact q⟩
  · rw [upd_ne (Ne.symm hL)]; exact I.free
  · rw [upd_ne (hc x c e)]; exact I.freeC x c e
  · obtain ⟨e, n, r⟩ := I.pin p h
    exact ⟨e, by rw [upd_ne (hp p h)]; exact n, r⟩
  · by_cases z : b = a
    · subst z
      rw [upd_same] at e
      cases e
      exact new
    · rw [upd_ne z] at e
      exact (I.hok b u e).stay (fun _ _ _ g => g) (fun c g => by rw [upd_ne (ne_of_none g hn)]; exact g) fun c xs g => by rw [upd_ne (ne_of_none g hn)]; exact g
/-- an address that was not there yet -/
structure Fz (X : Cx) (pins : List (Addr × Obj)) (b : Addr) : Prop where
  s0 : X.s₀.heap.objs.size ≤ b
  loc : b ≠ X.env.locals
  cell : ∀ x c, X.env.cells.lookup x = some c → c ≠ b
  pin : ∀ p ∈ X.pn ++ pins, p.1 ≠ b
  frm : b ∉ frs X.stack
theorem Inv.fz {b : Addr} (I : Inv X pins σ H s) (h : s.heap.objs.size ≤ b) : Fz X pins b where
  s0 := Nat.le_trans I.sz h
  loc := Nat.ne_of_gt (Nat.lt_of_lt_of_le I.lt h)
  cell := fun x c e z => by
    obtain ⟨v, q⟩ := I.cell x c e
    exact absurd (Nat.lt_of_lt_of_le q.lt (by rw [z]; exact h)) (Nat.lt_irrefl _)
  pin := fun p hp z => absurd (Nat.lt_of_lt_of_le (Heap.lt_size (I.pin p hp).1) (by rw [z]; exact h)) (Nat.lt_irrefl _)
  frm := fun hb => by
    rcases List.mem_cons.mp (I.stkSub b hb) with z | z
    · exact absurd (Nat.lt_of_lt_of_le I.lt h) (by rw [z]; exact Nat.lt_irrefl _)
    · exact I.nofs h z
end
def tgI : Value → Nat
  | .int i _ => i.toNat
  | _ => 0
theorem out_ints {ks : Nat → List Nat} {n : Nat} {vs : List Value} {out : Array Value} (hl : vs.length = n) (hv : ∀ (i : Nat) v, vs[i]? = some v → ∃ t, v = .int (i : Nat) t) (o : TK.Out tgI (fun i => S (ks i)) vs out) :
    ∃ zs : List Nat, Vals (zs.map fun (k : Nat) => V.int k) out.toList ∧ zs.Perm (List.range n) ∧ zs.Pairwise fun i j => ks i < ks j ∨ (ks i = ks j ∧ i < j) := by
  obtain ⟨keys, xs, hs, hk, hp, hr, rfl⟩ := o
  have all : ∀ p ∈ xs.toList, ∃ k t u, p = (Value.str (S (ks k)) t, Value.int (k : Nat) u) := fun p hm => by
    have hm' := (Array.perm_iff_toList_perm.mp hp).mem_iff.mp hm
    obtain ⟨i, hi, rfl⟩ := List.getElem_of_mem hm'
    have e : (keys.zip vs.toArray)[i]? = some (keys.zip vs.toArray).toList[i] := by rw [← Array.getElem?_toList, List.getElem?_eq_getElem hi]
    obtain ⟨e1, e2⟩ := TK.zip_at e
    obtain ⟨t, h1⟩ := hk i _ e1
    obtain ⟨u, h2⟩ := hv i _ e2
    exact ⟨i, t, u, Prod.ext h1 h2⟩
  refine ⟨xs.toList.map fun p => tgI p.2, ?_, ?_, ?_⟩
  · rw [Array.toList_map, List.map_map]
    refine vals_of (by rw [List.length_map, List.length_map]) fun i x u hx hu => ?_
    rw [List.getElem?_map] at hx hu
    cases e : xs.toList[i]? with
    | none => rw [e] at hx; cases hx
    | some p =>
      rw [e] at hx hu
      obtain ⟨k, t, w, rfl⟩ := all p (List.mem_of_getElem? e)
      cases hx
      cases hu
      exact ⟨w, rfl⟩
  · have h1 := (Array.perm_iff_toList_perm.mp hp).map fun p : Keyed => tgI p.2
    have h2 : ((keys.zip vs.toArray).toList.map fun p : Keyed => tgI p.2) = List.range n := by
      apply List.ext_getElem?
      intro i
      rw [List.getElem?_map]
      by_cases hi : i < n
      · have hz : i < (keys.zip vs.toArray).size := by rw [Array.size_zip, hs, List.size_toArray]; omega
        have e := Array.getElem?_eq_getElem hz
        obtain ⟨u, h2⟩ := hv i _ (TK.zip_at e).2
        rw [Array.getElem?_toList, e, List.getElem?_range hi, Option.map_some, h2]
        rfl
      · rw [List.getElem?_eq_none (l := List.range n) (by rw [List.length_range]; omega), List.getElem?_eq_none (by rw [Array.length_toList, Array.size_zip, hs, List.size_toArray]; omega)]
        rfl
    rw [h2] at h1
    exact h1
  · rw [List.pairwise_map, List.pairwise_iff_getElem]
    intro i j hi hj hij
    have li : i < xs.size := by simpa using hi
    have lj : j < xs.size := by simpa using hj
    obtain ⟨k, t, u, e⟩ := all _ (List.getElem_mem hi)
    obtain ⟨k', t', u', e'⟩ := all _ (List.getElem_mem hj)
    have g1 : xs[i]? = some (Value.str (S (ks k)) t, Value.int (k : Nat) u) := by rw [← e, ← Array.getElem?_toList, List.getElem?_eq_getElem hi]
    have g2 : xs[j]? = some (Value.str (S (ks k')) t', Value.int (k' : Nat) u') := by rw [← e', ← Array.getElem?_toList, List.getElem?_eq_getElem hj]
    have K1 : KK strKind xs i = ks k := by unfold KK; rw [g1]; show (S (ks k)).cps.toList = _; exact S_list _
    have K2 : KK strKind xs j = ks k' := by unfold KK; rw [g2]; show (S (ks k')).cps.toList = _; exact S_list _
    have T1 : TK.T (fun p : Keyed => tgI p.2) xs i = k := by unfold TK.T; rw [g1]; rfl
    have T2 : TK.T (fun p : Keyed => tgI p.2) xs j = k' := by unfold TK.T; rw [g2]; rfl
    have q := hr.ord i j hij lj
    unfold TK.Lx at q
    rw [K1, K2, T1, T2] at q
    rw [e, e']
    show ks k < ks k' ∨ (ks k = ks k' ∧ k < k')
    rcases q with q | q
    · exact .inl (of_decide_eq_true q)
    · exact .inr q

def tSortL (P : Addr) (pos : Pos) (q : Str) (ta : TA) (te : TE) (ix : List (Option Nat)) : TE := fun σ H Q => ta σ H fun vs H1 => ∃ (r : Addr) (n : Nat) (ks : Nat → List Nat), vs = [.ref r] ∧ H1 r = some (RngO r 0 n) ∧ n < 64 ∧ TblOk P pos q H1 ∧ ∀ H2, SameB P pos q H1 H2 →
  (∀ i, i < n → te ((mkIx ix σ).set 0 (some (.int (i : Nat)))) H2 fun v H3 => H3 = H2 ∧ v = .str (S (ks i))) ∧
  ∀ p (zs : List Nat), H2 p = none → zs.Perm (List.range n) → (zs.Pairwise fun i j => ks i < ks j ∨ (ks i = ks j ∧ i < j)) → Q (.ref p) (upd H2 p (.lst (zs.map fun (k : Nat) => V.int k)))
section
variable {X : Cx}
theorem pe_sortLam {N N' : List Str} {ix : List (Option Nat)} {fsc : Scope} {c P : Addr} {pn q : Str} {e body : Expr} {params : Arguments} {scope : Scope} {lp : Pos} {ta : TA} {te : TE} {p pos kp : Pos} (hg : Gl X "sorted") (hm : X.mg "sorted" = none) (hc : X.calm = true) (hr : Room 3 X.A) (ha : PA X [e] ta)
    (O : LamOk N N' ix fsc scope pn) (hcd : X.env.code = .ref c) (C : PySem.W.CodeHd X.base c P) (bm : BM X.mg X.base) (he : ∀ A' cl f c' s H, PE (cxLam X A' N' q scope cl f c' s H) body te)
    (hNN : X.N = N := by rfl) (hsc : X.env.scope = fsc := by rfl) (hq : X.env.qual ++ "<lambda>" = q := by rfl) (hdef : defaultsOf params X.env = ([], []) := by rfl)
    (hb : ∀ cl pm c ctv u, bindArgs (PySem.W.kla_fn "<lambda>" q params body scope cl pm (.ref c) ctv) ⟨[u], []⟩ = pure [(pn, u)] := by intros; rfl)
    (hea : backTo pos (starEach [e] X.env) = (false, eval e X.env) :: backTo pos (starEach [] X.env) := by rfl)
    (hplain : (backTo pos (starEach [e] X.env)).any (·.1) = false := by rfl)
    (hall : (backToKw pos (keywordEach [⟨some "key", .Lambda params body scope lp, kp⟩] X.env)).all (·.1.isSome) = true := by rfl)
    (hkw : (backToKw pos (keywordEach [⟨some "key", .Lambda params body scope lp, kp⟩] X.env)).any (·.1.isNone) = false := by rfl)
    (hnm : (backToKw pos (keywordEach [⟨some "key", .Lambda params body scope lp, kp⟩] X.env)).filterMap (·.1) = [Str.ofString "key"] := by rfl) :
    PE X (.Call (.Name "sorted" p) [e] [⟨some "key", .Lambda params body scope lp, kp⟩] pos) (tSortL P lp q ta te ix) := by
  subst hNN hsc
  intro pins s σ H Q I h
  refine wpAny_Call_Name_kw (ld_blt I hg hm boot_sorted ?_)
  refine callWith_kw (thn (ha pos pins s σ H _ I h) fun us s1 ⟨vs, H1, I1, r1, q1⟩ => ?_) hea hplain hall hkw
  obtain ⟨r, n, ks, rfl, hrn, hn, tb, q2⟩ := q1
  obtain ⟨u, rfl, ru⟩ := vals1 r1
  cases ru
  refine kws_cons (lam_make I1 hcd C bm tb hq hdef O.free fun f c' pm ctv H2 s2 I2 sb tb2 fo ff fsz ssz rec hc' => kws_nil ?_)
  rw [hnm]
  show wpAny _ _ (call (.builtin "sorted") [.ref r] [(Str.ofString "key", .ref f)]) _ _ s2
  obtain ⟨qk, qz⟩ := q2 H2 sb
  have hr2 : H2 r = some (RngO r 0 n) := sb.keep _ _ hrn fun _ z => nomatch z
  obtain ⟨⟨t, u, v, er⟩, _⟩ := I2.hok r _ hr2
  have flt : f < s2.heap.objs.size := Heap.lt_size fo
  refine call_function_entry_kw kind_sorted plain_sorted entry_sorted (ksk_s1 _ _) ?_
  unfold Builtin.«sorted»
  refine wpAny_bind (m := checkCount "sorted" 1 1 _) (wpAny_pure ?_)
  refine wpAny_bind (TK.col_range (n := n) (I2.ok.hd hc) er (small_one (by omega) (by omega) (by omega) (by omega)) (by rw [rangeSize_one]; split <;> omega) (by omega) fun h' tk acc kp sz it => ?_)
  have hlen : acc.toList.length = n := by rw [Array.length_toList]; exact it.1
  have hitem : ∀ (i : Nat) v, acc.toList[i]? = some v → ∃ t, v = .int (i : Nat) t := fun i v hv => by
    obtain ⟨t, rfl⟩ := it.2 i v (by rw [← Array.getElem?_toList]; exact hv)
    exact ⟨t, by rw [Int.zero_add, Int.mul_one]⟩
  refine wpAny_bind (wpAny_newList ?_ (by rw [hlen, sizeLine_eq]; omega))
  have hoL : (h'.push (seqObj "list" acc.toList.toArray 0)).get? h'.objs.size = some (seqObj "list" acc.toList.toArray 0) := Heap.get?_push_size _ rfl
  have I3 : Inv X pins σ H2 { s2 with heap := h'.push (seqObj "list" acc.toList.toArray 0), toks := tk } := I2.kept fun b o e => Heap.get?_push_of_some _ (kp b o e)
  show wpAny _ _ _ _ _ { s2 with heap := h'.push (seqObj "list" acc.toList.toArray 0), toks := tk }
  refine wpAny_bind (wpAny_holding (wpAny_call_entry_kw slot_list_sort ⟨_, hoL, rfl⟩ entry_list_sort ?_ (ksk_l1 _ _)))
  rw [ksk_t1]
  have rm := hr.un
  have rd := hr.dp
  have ff' : f ∉ frs X.stack := (I1.fz fsz).frm
  refine TK.key_sort (tg := tgI) (kf := fun i => S (ks i)) (n := 0) (J := fun s' => Inv X pins σ H2 s' ∧ s'.heap.get? f = some (PySem.W.kla_obj "<lambda>" q params body scope (clOf X.env scope.names []) pm c' ctv)) (Fz := fun b => s2.heap.objs.size ≤ b) ⟨?_, ?_⟩ ⟨I3, Heap.get?_push_of_some _ (kp _ _ fo)⟩ hoL sz (fun b hb => ?_) (by rw [hlen]; exact hn) (fun i j v w hij hv hw => ?_) fun s' out cc hJ ho hO => ⟨_, rfl, wpAny_pure ⟨_, rfl, ?_⟩⟩
  · rintro s' h4 tk' b ⟨J, fo'⟩ hb k
    have z := I2.fz hb
    exact ⟨J.turned k (I2.hok.fresh hb) z.loc (.inr z.s0) z.cell z.pin, k _ _ (Nat.ne_of_lt (Nat.lt_of_lt_of_le flt hb)) fo'⟩
  · rintro E i x s' hx ⟨J, fo'⟩
    obtain ⟨t, rfl⟩ := hitem i x hx
    have hi : i < n := by have := (List.getElem?_eq_some_iff.mp hx).1; omega
    refine wpAny_mono (lam_call (v := .int (i : Nat)) (te := te) (E := E) J O rfl rfl (by show X.A.depth < _; omega) fo' (J.hok _ _ hc').1 (hb _ _ _ _ _) he ⟨t, rfl⟩ (qk i hi)) (fun k s'' hk => ?_) fun _ _ z => z
    have hk' := hk
    obtain ⟨v, H3, _, _, un, _, rv, rfl, rfl⟩ := hk'
    obtain ⟨v', H4, J', _, e1, _⟩ := J.after hk
    subst e1
    exact ⟨⟨J', un.keep f _ fo' ff ff' (by simp)⟩, rv, fun b o hb e => un.keep b o e (I2.hok.fresh hb) (I2.fz hb).frm (by simp)⟩
  · have hz : (h'.push (seqObj "list" acc.toList.toArray 0)).objs.size ≤ b := hb
    rw [size_push'] at hz
    show s2.heap.objs.size ≤ b
    omega
  · obtain ⟨t, rfl⟩ := hitem i v hv
    obtain ⟨t', rfl⟩ := hitem j w hw
    show ((i : Nat) : Int).toNat < ((j : Nat) : Int).toNat
    omega
  · obtain ⟨J, _⟩ := hJ
    obtain ⟨zs, a1, a2, a3⟩ := out_ints hlen hitem hO
    have z := I2.fz sz
    have hz : (zs.map fun (k : Nat) => V.int k).length ≤ sizeLine := by rw [List.length_map, a2.length_eq, List.length_range, sizeLine_eq]; omega
    exact ⟨.ref h'.objs.size, _, J.adopt z.s0 (I2.hok.fresh sz) z.loc z.cell z.pin (lst_new (X := X) hz a1 ⟨cc, ho⟩), rfl, qz _ zs (I2.hok.fresh sz) a2 a3⟩
end
end L2
namespace L2
open PySem PySem.Spec PyProof.Rows
theorem Fun.okC {P : Program} {w : World} {K : PySem.W.Frag} {mg : Str → Option Value} {base : Heap} {x qual : Str} {st : Stmt} {f : Addr} {fd : FuncData} {N ps : List Str} {k : Nat} {sp : Sp} (F : Fun K x qual st f fd) (S : FnScope N ps (defScope st)) (len : ∀ vs H Q E, sp vs H Q E → vs.length = ps.length)
    (hbody : ∀ (cdv : Value) (A : Around) (outer : List Env) (s : Shared) (H : Hp) (vs : List V) (Q : VK) (E : XK), fd.code = cdv → Room k (A.deeper (envOfC qual (defScope st) s.heap.objs.size f cdv)) → sp vs H Q E →
      ∃ t, PSs (cxOf CX0 P w K mg base N qual (defScope st) f cdv A outer s H E).nox (defBody st) t ∧ t { nx := fun _ H' => Q .non H', rt := Q } (start N vs) H) : FnOk P w K mg base CX0 (k + 1) f fd ps sp := by
  obtain ⟨oc, od, kV, doc, pm, an, cdv, ct, osl, rfl, lk, hcd⟩ := F.ex
  refine fn_of lk hcd S len fun A outer s H vs Q E hr hsp => ?_
  obtain ⟨t, h, q⟩ := hbody cdv A outer s H vs Q E rfl hr hsp
  exact ⟨t, h.nox, q⟩
theorem law_callT {P : Program} {w : World} {K : PySem.W.Frag} {mg mb : Str → Option Value} {CX : CXT} {k : Nat} {fa a c Tb : Addr} {fd : FuncData} {x : Str} {sp : Sp} {s₁ : Shared} {vs : List Value} {ns : List Int}
    (KX : K.In s₁.heap) (hns : s₁.heap.Ns mainGlobals mg) (hb : s₁.heap.Ns builtinsNs mb) (hbb : ∀ x : Str, x ≠ "__name__" → mb x = bootBuiltins x) (hlim : s₁.heap.NoLimit) (hg : s₁.gens = #[])
    (ha : s₁.heap.get? a = some { cls := .type "list", data := .seq vs.toArray }) (hi : IntsAre vs ns) (hl : ns.length ≤ sizeLine) (hr : Room k callerA)
    (hT : PySem.W.CodeHd s₁.heap c Tb) (hTo : s₁.heap.get? Tb = some (PySem.W.tabObj #[])) (hTK : K.lookup Tb = none) (bm : BM mg s₁.heap)
    (F : ∀ base : Heap, K.In base → base.Ns mainGlobals mg → PySem.W.CodeHd base c Tb → BM mg base → FnOk P w K mg base CX k fa fd [x] sp) (hbind : ∀ (s : Shared) (u : Value), BindsTo s fd ⟨[u], []⟩ [(x, u)])
    (hsp : ∀ H : Hp, H Tb = some (.tbl #[]) → SqL K H a (ns.map V.int) → sp [.ref a] H (fun v _ => v = .bl true) fun _ _ _ => False)
    (hCX : ∀ H e s', CX [] H s₁ (fun _ _ _ => False) e s' → False) :
    codeAny (model P w) callerA (.call (.ref fa) ⟨[.ref a], []⟩) (fun r s' => r = .ok (.ret (.bool true)) ∧ OldK s₁.heap s'.heap ∧ s'.os = s₁.os ∧ AllBare s'.gens) s₁ := by
  have rv := vals_ints hi
  have lenV := hi.length
  have aT : a ≠ Tb := fun z => by rw [z, hTo] at ha; cases ha
  have core : ∀ H : Hp, H Tb = some (.tbl #[]) → SqL K H a (ns.map V.int) → HOk P w H s₁.heap → (∀ b, b ≠ Tb → H b = none ∨ (b = a ∧ K.lookup a = none ∧ ∃ o xs, H b = some (.frz o (.lst xs)))) →
      codeAny (model P w) callerA (.call (.ref fa) ⟨[.ref a], []⟩) (fun r s' => r = .ok (.ret (.bool true)) ∧ OldK s₁.heap s'.heap ∧ s'.os = s₁.os ∧ AllBare s'.gens) s₁ := by
    intro H hHT hS hok hA
    have free : ∀ {b : Addr} {o : Obj}, s₁.heap.get? b = some o → o ≠ { cls := .type "list", data := .seq vs.toArray } → o ≠ PySem.W.tabObj #[] → H b = none := fun {b o} e n1 n2 => by
      rcases hA b (fun z => n2 (by rw [z, hTo] at e; exact (Option.some.inj e).symm)) with z | ⟨z, _⟩
      · exact z
      · rw [z, ha] at e
        exact absurd (Option.some.inj e).symm n1
    have nsK : ∀ {b : Addr} {m : Str → Option Value}, s₁.heap.Ns b m → (hidT s₁.heap H).Ns b m := fun {b m} ⟨o, es, ep, e, d, r⟩ => ⟨o, es, ep, hidT_get e (free e (fun z => by rw [z] at d; cases d) fun z => by rw [z] at d; cases d), d, r⟩
    have hKb : K.In (hidT s₁.heap H) := fun b o e => hidT_get (KX b o e) (by
      rcases hA b (fun z => by rw [z, hTK] at e; cases e) with z | ⟨z, y, _⟩
      · exact z
      · rw [z, y] at e; cases e)
    have hM : Mod K mg (hidT s₁.heap H) := ⟨hKb, nsK hns, ⟨mb, nsK hb, hbb⟩, let ⟨mc, h1, h2⟩ := hlim; ⟨mc, nsK h1, h2⟩⟩
    have hC : PySem.W.CodeHd (hidT s₁.heap H) c Tb := by
      obtain ⟨o, u, file, tf, flags, tg, inF, text, tt, e1, r1, r⟩ := hT
      exact ⟨o, u, file, tf, flags, tg, inF, text, tt, hidT_get e1 (free e1 (fun z => by rw [z] at r1; exact absurd (Value.type.inj r1) (by decide)) fun z => by rw [z] at r1; cases r1), r1, r⟩
    have hBM : BM mg (hidT s₁.heap H) := by
      obtain ⟨b, ob, b1, b2, b3, b4, r⟩ := bm
      exact ⟨b, ob, b1, b2, hidT_get b3 (free b3 (fun z => by rw [z] at b4; exact absurd (Value.type.inj b4) (by decide)) fun z => by rw [z] at b4; cases b4), b4, r⟩
    have e0 : Env0 P w K mg (hidT s₁.heap H) callerA [] s₁ H := ⟨rfl, hM, fun b o e => of_hidT e, Nat.le_of_eq (hidT_size _ _), trivial, fun b hb => absurd (show b ∈ ([] : List Addr) from hb) (by simp), hok, .of_eq hg⟩
    refine codeAny_mono ((F _ hKb (nsK hns) hC hBM).run callerA [] s₁ H ⟨[.ref a], []⟩ [.ref a] [.ref a] _ _ hr e0 (hbind s₁ (.ref a)) (.cons rfl .nil) (hsp H hHT hS)) fun r s' h => ?_
    cases r with
    | error e => exact (hCX H e s' h).elim
    | ok fl =>
      cases fl with
      | next => exact False.elim h
      | brk => exact False.elim h
      | cont => exact False.elim h
      | ret u =>
        obtain ⟨v, H', os, bare, un, hok', r', q⟩ := h
        have q' : v = .bl true := q
        subst q'
        obtain rfl : u = Value.bool true := r'
        obtain ⟨more, eT⟩ := un.tbls Tb _ hHT
        have hT' : s'.heap.get? Tb = some (PySem.W.tabObj (#[] ++ more)) := hok' _ _ eT
        have other : ∀ b o, b ≠ Tb → s₁.heap.get? b = some o → s'.heap.get? b = some o := fun b o hb e => by
          rcases hA b hb with z | ⟨_, _, ob, xs, z⟩
          · exact un.keep b o e z (by intro z; exact absurd (show b ∈ ([] : List Addr) from z) (by simp)) (by simp)
          · have z2 := un.frzs b ob _ z
            obtain ⟨e1, _⟩ := hok b _ z
            obtain ⟨e2, _⟩ := hok' b _ z2
            rw [e] at e1; cases e1
            exact e2
        refine ⟨rfl, ⟨fun b o e => ?_, fun b o e => ?_⟩, os, bare⟩
        · by_cases hb : b = Tb
          · subst hb
            rw [hTo] at e
            cases e
            exact .inr (.inl ⟨(hT.tab hTo).isCodeTable, rfl, #[], more, rfl, hT'⟩)
          · exact .inl (other b o hb e)
        · by_cases hb : b = Tb
          · rw [hb]; exact ⟨_, hT'⟩
          · exact ⟨o, other b o hb e⟩
  cases hk : K.lookup a with
  | some o =>
    have e := KX a o hk
    rw [ha] at e
    cases e
    refine core (fun b => if b = Tb then some (.tbl #[]) else none) (if_pos rfl) (.inr ⟨_, vs.toArray, _, hk, rfl, rfl, rfl, by rw [List.size_toArray, lenV]; exact hl, by simpa using rv⟩) (fun b u z => ?_) fun b z => .inl (if_neg z)
    by_cases hb : b = Tb
    · have z' := (if_pos hb).symm.trans z
      cases z'
      subst hb
      exact hTo
    · have z' := (if_neg hb).symm.trans z
      cases z'
  | none =>
    refine core (fun b => if b = Tb then some (.tbl #[]) else if b = a then some (.frz { cls := .type "list", data := .seq vs.toArray } (.lst (ns.map V.int))) else none) (if_pos rfl) (.inl (.inr ⟨{ cls := .type "list", data := .seq vs.toArray }, (if_neg aT).trans (if_pos rfl)⟩)) (fun b u z => ?_) (fun b z => ?_)
    · by_cases hb : b = Tb
      · have z' := (if_pos hb).symm.trans z
        cases z'
        subst hb
        exact hTo
      · have z1 := (if_neg hb).symm.trans z
        by_cases hb : b = a
        · have z' := (if_pos hb).symm.trans z1
          cases z'
          subst hb
          exact ⟨ha, by rw [List.length_map]; exact hl, vs, _, rv, ha⟩
        · have z' := (if_neg hb).symm.trans z1
          cases z'
    · by_cases hb : b = a
      · exact .inr ⟨hb, hk, _, _, (if_neg z).trans (if_pos hb)⟩
      · exact .inl ((if_neg z).trans (if_neg hb))

/-- the goal that k_head leaves, where the def y makes a lambda: F tells where y's code and its table lie -/
theorem walk_ofT {l : PySem.W.OpenLaw} {n k : Nat} {q : Program} {loose : List Str} {XP : (Str → Option Value) → Heap → Prop} {YP : World → Heap → Prop} {d dy : DefRec} {K : Params → PySem.W.Frag} {CX : World → CXT} {sp : World → Addr → Sp} {x y : Str}
    (hn : l.most = some n) (hn2 : n ≤ sizeLine) (hdf : d.params.defaults = []) (hr : Room k callerA) (hy : ((recsOf q).find? fun e => e.name == y) = some dy)
    (hY : ∀ (w : World) (h : Heap), YP w h → (K w.params).In h)
    (F : ∀ (w : World) (mg : Str → Option Value) (fa : Addr) (h : Heap), (K w.params).In h → h.Ns mainGlobals mg → mg d.name = some (.ref fa) →
      ∃ (fd : FuncData) (c Tb : Addr), PySem.W.tabIn (K w.params) y = some (c, Tb) ∧ (K w.params).lookup Tb = none ∧ (∀ (s : Shared) (u : Value), BindsTo s fd ⟨[u], []⟩ [(x, u)]) ∧
        ∀ base : Heap, (K w.params).In base → base.Ns mainGlobals mg → PySem.W.CodeHd base c Tb → BM mg base → FnOk l.prog w (K w.params) mg base (CX w) k fa fd [x] (sp w Tb))
    (hsp : ∀ (w : World) (H : Hp) (a Tb : Addr) (ns : List Int), ns.length ≤ n → H Tb = some (.tbl #[]) → SqL (K w.params) H a (ns.map V.int) → sp w Tb [.ref a] H (fun v _ => v = .bl true) fun _ _ _ => False)
    (hCX : ∀ (w : World) (H : Hp) (s : Shared) (e : Value) (s' : Shared), CX w [] H s (fun _ _ _ => False) e s' → False) :
    PySem.W.WalkO q loose XP YP l.row.toRowW d [] (fun f vs => PySem.call f vs) := by
  refine Att.attach_call hn hdf fun w s₀ s₁ mg mb fa o pm cd doc a vs ns G Y ho hd hcd hmg hobj hints hlen hg => ?_
  have KX := hY w _ Y
  obtain ⟨fd, c, Tb, ht, hTK, hb, hF⟩ := F w mg fa _ KX G.T.g hmg
  obtain ⟨hC, hTo⟩ := PySem.W.tab_of G.T KX hy ht
  exact law_callT KX G.T.g G.T.b G.T.builtins G.T.nolimit hg hobj hints (Nat.le_trans hlen hn2) hr hC hTo hTK G.T.bmain hF hb (fun H hO hS => hsp w H a Tb ns hlen hO hS) fun H e s' => hCX w H s₁ e s'
end L2
namespace L2
open PySem PySem.Spec PyProof.Rows
/-- the exception at e, of class cls, its newest traceback entry at T, which flies in fl -/
structure Fly (h : Heap) (e T : Addr) (cls fl : Value) : Prop where
  ex : ∃ oe vs, h.get? e = some oe ∧ oe.cls = cls ∧ oe.data = .fields vs ∧ vs[1]? = some (.ref T) ∧ oe.dict = none
  ne : T ≠ e
  tb : ∃ oT ts, h.get? T = some oT ∧ oT.data = .fields ts ∧ ts[3]? = some fl
/-- all stays but the records at ch; of the frames fs the slots may change -/
structure Near (fs ch : List Addr) (h h' : Heap) : Prop where
  keep : ∀ b o, b ∉ ch → b ∉ fs → h.get? b = some o → h'.get? b = some o
  slot : ∀ b o, b ∉ ch → h.get? b = some o → ∃ sl, h'.get? b = some { o with slots := sl }
  there : ∀ b o, h.get? b = some o → ∃ o', h'.get? b = some o'
theorem Near.trans {fs ch : List Addr} {h h1 h2 : Heap} (a : Near fs ch h h1) (b : Near fs ch h1 h2) : Near fs ch h h2 where
  keep := fun c o h3 h4 e => b.keep c o h3 h4 (a.keep c o h3 h4 e)
  slot := fun c o h3 e => by
    obtain ⟨sl, e1⟩ := a.slot c o h3 e
    obtain ⟨sl', e2⟩ := b.slot c _ h3 e1
    exact ⟨sl', e2⟩
  there := fun c o e => let ⟨o1, e1⟩ := a.there c o e; b.there c o1 e1
theorem Near.mono {fs fs' ch ch' : List Addr} {h h' : Heap} (a : Near fs ch h h') (hf : ∀ b ∈ fs, b ∈ fs') (hc : ∀ b ∈ ch, b ∈ ch') : Near fs' ch' h h' :=
  ⟨fun b o h1 h2 e => a.keep b o (fun z => h1 (hc b z)) (fun z => h2 (hf b z)) e, fun b o h1 e => a.slot b o (fun z => h1 (hc b z)) e, a.there⟩
section
variable {M : Model} {A : Around} {E : Value → Shared → Prop} {s : Shared}
theorem setField_near {b : Addr} {o : Obj} {vs : Array Value} {i : Nat} {v : Value} {Q : Unit → Shared → Prop} (hb : s.heap.get? b = some o) (hd : o.data = .fields vs) (hi : i < vs.size)
    (h : ∀ h', Near [] [b] s.heap h' → h'.get? b = some (o.mapFields (·.setIfInBounds i v)) → Q () { s with heap := h' }) : wpAny M A (setField (.ref b) i v) Q E s := by
  have hd3 := Obj.data_mapFields hd (·.setIfInBounds i v)
  have hs := Heap.get?_update_self (Obj.mapFields (·.setIfInBounds i v)) hb (Obj.isFreed_of_fields hd3)
  have other : ∀ c, c ≠ b → (s.heap.update b (Obj.mapFields (·.setIfInBounds i v))).get? c = s.heap.get? c := fun c hc => Heap.get?_update_other _ _ (Ne.symm hc)
  refine wpAny_setField hb hd hi (h _ ⟨fun c u hc _ e => (other c fun z => hc (by simp [z])).trans e, fun c u hc e => ⟨u.slots, (other c fun z => hc (by simp [z])).trans e⟩, fun c u e => ?_⟩ hs)
  by_cases hc : c = b
  · subst hc; exact ⟨_, hs⟩
  · exact ⟨u, (other c hc).trans e⟩
theorem dict_mapFields (o : Obj) (f : Array Value → Array Value) : (o.mapFields f).dict = o.dict := by unfold Obj.mapFields; first | rfl | (split <;> rfl)
/-- a new entry at the head of the traceback -/
theorem entry_near {base : Heap} {env : Env} {outer : List Env} {L e : Addr} {oe : Obj} {vs : Array Value} {head : Value} {hadNext : Bool} {Q : Unit → Shared → Prop}
    (hfr : A.frames = some (env :: outer)) (hl : s.heap.FunFrames base (env :: outer)) (hf : env.frame = some L) (he : s.heap.get? e = some oe) (hd : oe.data = .fields vs) (hsz : 1 < vs.size) (hdi : oe.dict = none)
    (h : ∀ h' T, Near (frs (env :: outer)) [e] s.heap h' → s.heap.get? T = none → s.heap.objs.size ≤ T → Fly h' e T oe.cls (rawInt L) → Q () { s with heap := h' }) :
    wpAny M A (do let a ← frameOf env; let pl ← entryPlaceOf L hadNext; let b ← EntryCells.newEntry head a .none (rawInt L) .none pl; setField (.ref e) 1 b) Q E s := by
  have hene : e ∉ (env :: outer).filterMap (·.frame) := fun hm => by
    obtain ⟨_, o, ho, hnf⟩ := hl.mem hm
    rw [he] at ho; injection ho with ho; subst ho; exact hnf vs hd
  refine wpAny_bind (wpAny_frameOf_fun hfr hl hf fun h₁ hs₁ => ?_)
  refine wpAny_bind (wpAny_entryPlaceOf fun pl hpl => ?_)
  unfold EntryCells.newEntry newFields
  refine wpAny_bind (wpAny_newObj_type ?_ (hpl.sizeOk5 _ _ _ _ _))
  have he₁ : h₁.get? e = some oe := (hs₁.2.1 e hene).trans he
  generalize hob : ({ cls := .type "traceback", dict := none, data := .fields ([head, .ref L, .none, rawInt L, .none] ++ (if pl.isEmpty then List.replicate 6 Value.none else pl)).toArray } : Obj) = ob
  have he₂ := Heap.get?_push_of_some (h := h₁) ob he₁
  have hTe : h₁.objs.size ≠ e := Nat.ne_of_gt (Heap.lt_size he₁)
  refine setField_near he₂ hd hsz fun h' nr hself => h h' h₁.objs.size ?_ ?_ (by rw [hs₁.1]; exact Nat.le_refl _) ?_
  · have n1 : Near (frs (env :: outer)) [e] s.heap (h₁.push ob) := ⟨fun b o _ h2 q => Heap.get?_push_of_some _ ((hs₁.2.1 b h2).trans q), fun b o _ q => let ⟨sl, q'⟩ := hs₁.2.2 b o q; ⟨sl, Heap.get?_push_of_some _ q'⟩, fun b o q => let ⟨sl, q'⟩ := hs₁.2.2 b o q; ⟨_, Heap.get?_push_of_some _ q'⟩⟩
    exact n1.trans (nr.mono (fun _ z => nomatch z) fun _ z => z)
  · rw [hs₁.1]
    cases q : s.heap.get? s.heap.objs.size with
    | none => rfl
    | some o => exact absurd (Heap.lt_size q) (Nat.lt_irrefl _)
  · refine ⟨⟨_, _, hself, Obj.cls_mapFields _ _, Obj.data_mapFields hd _, by simp [hsz], (dict_mapFields _ _).trans hdi⟩, hTe, ob, _, nr.keep _ _ (by simp [hTe]) (by simp) (by subst hob; exact Heap.get?_push_size h₁ rfl), by subst hob; rfl, ?_⟩
    first | (simp; done) | (rcases hpl with rfl | ⟨_, _, _, _, _, _, _, rfl⟩ <;> simp)
/-- an exception just made notes its first frame -/
theorem note_new {base : Heap} {env : Env} {outer : List Env} {L e : Addr} {oe : Obj} {vs : Array Value} {Q : Unit → Shared → Prop}
    (hfr : A.frames = some (env :: outer)) (hl : s.heap.FunFrames base (env :: outer)) (hf : env.frame = some L) (he : s.heap.get? e = some oe) (hd : oe.data = .fields vs) (h1 : vs[1]? = some .none) (hdi : oe.dict = none)
    (h : ∀ h' T, Near (frs (env :: outer)) [e] s.heap h' → s.heap.get? T = none → s.heap.objs.size ≤ T → Fly h' e T oe.cls (rawInt L) → Q () { s with heap := h' }) : wpAny M A (noteFrame (.ref e) env) Q E s := by
  unfold noteFrame
  simp only [hf]
  refine wpAny_bind (wpAny_field he hd h1 ?_)
  rw [if_neg (by decide)]
  exact entry_near hfr hl hf he hd (Array.getElem?_eq_some_iff.mp h1).1 hdi h
/-- one that flew notes one more frame -/
theorem note_next {base : Heap} {env : Env} {outer : List Env} {L e T : Addr} {cls : Value} {Q : Unit → Shared → Prop}
    (hfr : A.frames = some (env :: outer)) (hl : s.heap.FunFrames base (env :: outer)) (hf : env.frame = some L) (ht : Fly s.heap e T cls .none)
    (h : ∀ h' T', Near (frs (env :: outer)) [e, T] s.heap h' → s.heap.get? T' = none → Fly h' e T' cls (rawInt L) → Q () { s with heap := h' }) : wpAny M A (noteFrame (.ref e) env) Q E s := by
  obtain ⟨⟨oe, vs, he, hcls, hd, h1, hdi⟩, hTe, oT, ts, hT, hdT, h3⟩ := ht
  subst hcls
  unfold noteFrame
  simp only [hf]
  refine wpAny_bind (wpAny_field he hd h1 ?_)
  rw [if_pos (show (Value.ref T != Value.none) = true from by simp)]
  refine wpAny_bind (wpAny_field hT hdT h3 ?_)
  rw [if_neg (show ¬ ((Value.none == rawInt L) = true) from by simp [rawInt])]
  refine wpAny_bind (setField_near hT hdT (Array.getElem?_eq_some_iff.mp h3).1 fun h1' n1 _ => ?_)
  have noRecord : ∀ b o, s.heap.get? b = some o → (∀ vs, o.data ≠ .fields vs) → b ≠ T := fun b o hb hnf q => by
    rw [q, hT] at hb; injection hb with hb; subst hb; exact hnf ts hdT
  refine entry_near (s := { s with heap := h1' }) hfr (hl.of_keeps fun b o hb hnf => ⟨o, n1.keep b o (by simp [noRecord b o hb hnf]) (by simp) hb, rfl⟩) hf (n1.keep e oe (by simp [Ne.symm hTe]) (by simp) he) hd (Array.getElem?_eq_some_iff.mp h1).1 hdi fun h' T' n2 hT' hz fl => ?_
  exact h h' T' ((n1.mono (fun _ z => nomatch z) (by simp)).trans (n2.mono (fun _ z => z) (by simp))) (by
    cases q : s.heap.get? T' with
    | none => rfl
    | some o => obtain ⟨o', q'⟩ := n1.there T' o q; rw [q'] at hT'; cases hT') fl
/-- it flies in no frame -/
theorem land {e T : Addr} {cls fl : Value} {Q : Unit → Shared → Prop} (ht : Fly s.heap e T cls fl) (h : ∀ h', Near [] [T] s.heap h' → Fly h' e T cls .none → Q () { s with heap := h' }) : wpAny M A (setFlight (.ref e) none) Q E s := by
  obtain ⟨⟨oe, vs, he, hcls, hd, h1, hdi⟩, hTe, oT, ts, hT, hdT, h3⟩ := ht
  have hsz3 : 3 < ts.size := (Array.getElem?_eq_some_iff.mp h3).1
  unfold setFlight
  refine wpAny_bind (wpAny_field he hd h1 ?_)
  rw [if_pos (show (Value.ref T != Value.none) = true from by simp)]
  refine setField_near hT hdT hsz3 fun h' n1 hs => h h' n1 ⟨⟨oe, vs, n1.keep e oe (by simp [Ne.symm hTe]) (by simp) he, hcls, hd, h1, hdi⟩, hTe, _, _, hs, Obj.data_mapFields hdT _, by simp [hsz3]⟩
end
end L2
namespace L2
open PySem PySem.Spec PyProof.Rows
def CXE (P : Program) (w : World) : CXT := fun outer H s E e s' => ∃ (ea C T : Addr) (H' : Hp), e = .ref ea ∧ s'.os = s.os ∧ AllBare s'.gens ∧ Un (frs outer) [] H H' s.heap s'.heap ∧ HOk P w H' s'.heap ∧
  s.heap.get? ea = none ∧ s.heap.get? T = none ∧ H' ea = none ∧ H' T = none ∧ Fly s'.heap ea T (.ref C) .none ∧ E e (some C) H'
theorem HOk.near {P : Program} {w : World} {H : Hp} {h h' : Heap} {fs ch : List Addr} (x : HOk P w H h) (n : Near fs ch h h') (hf : ∀ b ∈ fs, H b = none) (hc : ∀ b ∈ ch, H b = none) : HOk P w H h' := fun a o e => by
  refine (x a o e).stay (fun b u hb q => n.keep b u (fun z => ?_) (fun z => ?_) q) (fun _ q => q) fun _ _ q => q
  · have := hc b z; simp_all
  · have := hf b z; simp_all
theorem Un.behind {H H1 : Hp} {h h1 h2 : Heap} {fs fs' ch : List Addr} (u : Un fs [] H H1 h h1) (n : Near fs' ch h1 h2) (hf : ∀ b o, h.get? b = some o → b ∈ fs' → b ∈ fs) (hc : ∀ b ∈ ch, h.get? b = none) : Un fs [] H H1 h h2 where
  keep := fun b o q n1 h1 hx => n.keep b o (fun z => by rw [hc b z] at q; cases q) (fun z => h1 (hf b o q z)) (u.keep b o q n1 h1 hx)
  slot := fun b o q n1 hb hx => by
    obtain ⟨sl, q1⟩ := u.slot b o q n1 hb hx
    obtain ⟨sl', q2⟩ := n.slot b _ (fun z => by rw [hc b z] at q; cases q) q1
    exact ⟨sl', q2⟩
  free := u.free
  there := fun b o q hx => let ⟨o1, q1⟩ := u.there b o q hx; n.there b o1 q1
  tups := u.tups
  frzs := u.frzs
  tbls := u.tbls
theorem ObjOk.here {P : Program} {w : World} {H : Hp} {h : Heap} {a : Addr} {o : HO} (x : ObjOk P w H h a o) : ∃ u, h.get? a = some u := by
  cases o with
  | lst xs => obtain ⟨_, _, _, _, e⟩ := x; exact ⟨_, e⟩
  | tup xs => obtain ⟨_, _, _, o, e, _⟩ := x; exact ⟨_, e⟩
  | dK kvs => obtain ⟨_, _, _, _, o, _, _, e, _⟩ := x; exact ⟨_, e⟩
  | dT kvs => obtain ⟨_, _, _, _, o, _, _, e, _⟩ := x; exact ⟨_, e⟩
  | set S n => obtain ⟨o, _, _, _, e, _⟩ := x; exact ⟨_, e⟩
  | ins C dx fs => obtain ⟨_, _, _, e, _⟩ := x; exact ⟨_, e⟩
  | own y => exact x
  | xd fs => obtain ⟨_, ⟨_, _, _, e, _⟩, _⟩ := x; exact ⟨_, e⟩
  | rng lo hi => obtain ⟨_, _, _, e⟩ := x; exact ⟨_, e⟩
  | frz ob u => obtain ⟨e, _⟩ := x; exact ⟨_, e⟩
  | tbl ps => exact ⟨_, x⟩
  | met f y => exact ⟨_, x⟩
  | ext φ => exact x.2.1
theorem HOk.no {P : Program} {w : World} {H : Hp} {h : Heap} {a : Addr} (x : HOk P w H h) (e : h.get? a = none) : H a = none := by
  cases q : H a with
  | none => rfl
  | some o => obtain ⟨u, hu⟩ := (x a o q).here; rw [e] at hu; cases hu
section
variable {P : Program} {w : World} {K : PySem.W.Frag} {mg : Str → Option Value} {base : Heap} {N : List Str} {qual : Str} {scope : Scope} {f : Addr} {cd : Value} {A : Around} {outer : List Env} {s : Shared} {H : Hp} {E : XK} {pins : List (Addr × Obj)} {σ : St} {H1 : Hp} {s1 : Shared}
/-- an exception made here leaves the def -/
theorem raise_out {h1 : Heap} {ea C : Addr} {args : List Value} (I : Inv (cxOf (CXE P w) P w K mg base N qual scope f cd A outer s H E) pins σ H1 s1) (hm : Heap.MadeExcOf s1.heap h1 ea (.ref C) args) (hE : E (.ref ea) (some C) H1) :
    (cxOf (CXE P w) P w K mg base N qual scope f cd A outer s H E).xe (.ref ea) { s1 with heap := h1 } := by
  obtain ⟨t, he, htn, ht⟩ := hm.there
  have I1 : Inv (cxOf (CXE P w) P w K mg base N qual scope f cd A outer s H E) pins σ H1 { s1 with heap := h1 } := I.kept (t' := s1.toks) hm.keeps
  show wpAny _ _ (leaving _ _) _ _ _
  unfold leaving
  refine wpAny_bind (note_new (base := base) (env := envOfC qual scope s.heap.objs.size f cd) (outer := outer) (L := s.heap.objs.size) I1.ok.frames I1.stack rfl he rfl rfl rfl fun h2 T n2 hT hz fl => ?_)
  refine land fl fun h3 n3 fl3 => ?_
  have n : Near (frs (envOfC qual scope s.heap.objs.size f cd :: outer)) [ea, T] h1 h3 := (n2.mono (fun _ z => z) (by simp)).trans (n3.mono (fun _ z => nomatch z) (by simp))
  have e1 : H1 ea = none := I.hok.no hm.new
  have e2 : H1 T = none := I1.hok.no hT
  have old : ∀ b, s1.heap.get? b = none → s.heap.get? b = none := fun b hb => by
    cases q : s.heap.get? b with
    | none => rfl
    | some o => obtain ⟨o', q'⟩ := I.base.there b o q (by intro z; cases z); rw [hb] at q'; cases q'
  have oldT : s.heap.get? T = none := by
    cases q : s.heap.get? T with
    | none => rfl
    | some o => obtain ⟨o', q'⟩ := I1.base.there T o q (by intro z; cases z); rw [show h1.get? T = none from hT] at q'; cases q'
  refine ⟨ea, C, T, H1, rfl, I.os, I.bare, Un.behind I1.base n (fun b o q hb => ?_) (fun b hb => ?_), I1.hok.near n I1.stkFree (fun b hb => ?_), old ea hm.new, oldT, e1, e2, fl3, hE⟩
  · have hb' : b ∈ s.heap.objs.size :: frs outer := hb
    rcases List.mem_cons.mp hb' with rfl | hb'
    · exact absurd (Heap.lt_size q) (Nat.lt_irrefl _)
    · exact hb'
  · rcases List.mem_cons.mp hb with rfl | hb
    · exact old _ hm.new
    · rw [List.mem_singleton.mp hb]; exact oldT
  · rcases List.mem_cons.mp hb with rfl | hb
    · exact e1
    · rw [List.mem_singleton.mp hb]; exact e2
end
end L2
namespace L2
open PySem PySem.Spec PyProof.Rows
/-- a class of exceptions of the program's own, by the written part -/
theorem own_mk {K : PySem.W.Frag} {h : Heap} {mg : Str → Option Value} {x : Str} {C : Addr} {bmB : List Value} {newId : String} (X : K.In h) (m : mg x = some (.ref C)) (q : PySem.W.excIn K C bmB newId = true) : OwnCls x C bmB newId mg h := by
  refine ⟨m, ?_⟩
  unfold PySem.W.excIn at q
  split at q
  next dd cd sl ho =>
    split at q
    next C' bm k0 k1 k2 k3 n k5 hm hs =>
      simp only [Bool.and_eq_true, beq_iff_eq, Bool.not_eq_true'] at q
      obtain ⟨⟨⟨⟨⟨e1, e2⟩, hdel⟩, ht⟩, hok⟩, hni⟩ := q
      subst e1 e2
      obtain ⟨nm, bs, mro, ns, qn, hd, sn, sub, ab, col, del⟩ := cd
      dsimp only at hm hdel hok hni
      subst hm hdel
      obtain ⟨l⟩ := sl
      dsimp only at hs
      subst hs
      exact ⟨bm, ns, nm, qn, bs, hd, sn, sub, ab, col, dd, k0, k1, k2, k3, k5, _, X _ _ ho, .of_isNs (PySem.W.isNs_of_in X hok), PySem.W.nsMap_none_of_in X hok hni, PySem.W.tail_of_in X ht⟩
    next => cases q
  next => cases q
section
variable {P : Program} {w : World} {K : PySem.W.Frag} {mg : Str → Option Value} {base : Heap} {N : List Str} {qual : Str} {scope : Scope} {f : Addr} {cd : Value} {A : Around} {outer : List Env} {s : Shared} {H : Hp} {E : XK}
/-- raise C(e, ..), C a class of the program's own -/
theorem ps_raise {x : Str} {C : Addr} {B newId initId : String} {bmB : List Value} {e₀ : Expr} {rest : List Expr} {ta : TA} {np cpos pos : Pos} (O : OwnCls x C bmB newId mg base) (FB : ExcBaseFacts B newId initId bmB)
    (hg : Gl (cxOf (CXE P w) P w K mg base N qual scope f cd A outer s H E) x) (ha : PA (cxOf (CXE P w) P w K mg base N qual scope f cd A outer s H E) (e₀ :: rest) ta) (hd : (x == ("__debug__" : Str)) = false := by decide)
    (he : starEach (e₀ :: rest) (envOfC qual scope s.heap.objs.size f cd) = (false, eval e₀ (envOfC qual scope s.heap.objs.size f cd)) :: starEach rest (envOfC qual scope s.heap.objs.size f cd) := by rfl)
    (hplain : (backTo cpos (starEach rest (envOfC qual scope s.heap.objs.size f cd))).any (·.1) = false := by rfl) :
    PS (cxOf (CXE P w) P w K mg base N qual scope f cd A outer s H E) (.Raise (some (.Call (.Name x np) (e₀ :: rest) [] cpos)) none pos) (fun _ σ H0 => ta σ H0 fun vs H1 => vs.length ≤ sizeLine ∧ ∀ ea, E (.ref ea) (some C) H1) := by
  intro pins s0 σ H0 D I h
  obtain ⟨tl, Nn, nm, q, bs, hdct, sn, sub, ab, col, dd, k0, k1, k2, k3, k5, mN, hC, hN, hni, T⟩ := O.obj
  refine wpAny_Raise_call_subT (C := C) (nm := nm) (q := q) (N := Nn) (bs := bs) (bm := tl) (hdct := hdct) (sn := sn) (sub := sub) (ab := ab) (col := col) (dd := dd) (k0 := k0) (k1 := k1) (k2 := k2) (k3 := k3) (k5 := k5)
    FB (mN := mN) (T.hasType FB.hasBase) (I.ok.hd rfl) (by show (backTo cpos (starEach (e₀ :: rest) (envOfC qual scope s.heap.objs.size f cd))).any (·.1) = false; rw [he]; show (false || (backTo cpos (starEach rest (envOfC qual scope s.heap.objs.size f cd))).any (·.1)) = false; rw [hplain]; rfl) hni (ld_glob I hg O.bound ⟨rfl, ?_⟩ hd)
  have h' := ha cpos pins s0 σ H0 _ I h
  have he' : starEach (e₀ :: rest) (cxOf (CXE P w) P w K mg base N qual scope f cd A outer s H E).env = (false, eval e₀ (envOfC qual scope s.heap.objs.size f cd)) :: starEach rest (envOfC qual scope s.heap.objs.size f cd) := he
  rw [he'] at h' ⊢
  refine Calls.evalArgs_plain ?_
  refine wpAny_mono h' (fun us s1 ⟨vs, H1, I1, r1, hz, q1⟩ => ?_) fun _ _ y => y
  exact ⟨rfl, by rw [← r1.length]; exact hz, I1.bk _ _ hC, hN.keeps I1.bk, T.keeps I1.bk, fun h' e hm => raise_out I1 hm (q1 e)⟩
end
end L2
namespace L2
open PySem PySem.Spec PyProof.Rows
theorem frames_slots {h h' base : Heap} : ∀ {l : List Env}, (∀ b o, b ∈ frs l → h.get? b = some o → ∃ sl, h'.get? b = some { o with slots := sl }) → h.FunFrames base l → h'.FunFrames base l
  | [], _, _ => trivial
  | env :: r, k, hl => by
    obtain ⟨hk, ⟨L, o, hf, hn, ho, hd⟩, hr⟩ := hl
    have sub : ∀ b ∈ frs r, b ∈ frs (env :: r) := fun b hb => by unfold frs; rw [List.filterMap_cons, hf]; exact List.mem_cons_of_mem _ hb
    obtain ⟨sl, ho'⟩ := k L o (by unfold frs; rw [List.filterMap_cons, hf]; exact List.mem_cons_self) ho
    exact ⟨hk, ⟨L, _, hf, hn, ho', hd⟩, frames_slots (fun b u hb q => k b u (sub b hb) q) hr⟩
section
variable {P : Program} {w : World} {K : PySem.W.Frag} {mg : Str → Option Value} {base : Heap} {N : List Str} {qual : Str} {scope : Scope} {f : Addr} {cd : Value} {A : Around} {outer : List Env} {s : Shared} {H : Hp} {E : XK}
end
/-- a def that may raise -/
theorem Fun.okE {P : Program} {w : World} {K : PySem.W.Frag} {mg : Str → Option Value} {base : Heap} {x qual : Str} {st : Stmt} {f : Addr} {fd : FuncData} {N ps : List Str} {k : Nat} {sp : Sp} (F : Fun K x qual st f fd) (S : FnScope N ps (defScope st)) (len : ∀ vs H Q E, sp vs H Q E → vs.length = ps.length)
    (hbody : ∀ (cdv : Value) (A : Around) (outer : List Env) (s : Shared) (H : Hp) (vs : List V) (Q : VK) (E : XK), Room k (A.deeper (envOfC qual (defScope st) s.heap.objs.size f cdv)) → sp vs H Q E →
      ∃ t, PSs (cxOf (CXE P w) P w K mg base N qual (defScope st) f cdv A outer s H E) (defBody st) t ∧ t { nx := fun _ H' => Q .non H', rt := Q } (start N vs) H) : FnOk P w K mg base (CXE P w) (k + 1) f fd ps sp := by
  obtain ⟨oc, od, kV, doc, pm, an, cdv, ct, osl, rfl, lk, hcd⟩ := F.ex
  exact fn_of lk hcd S len fun A outer s H vs Q E hr hsp => hbody cdv A outer s H vs Q E hr hsp
structure CalE (P : Program) (w : World) (K : PySem.W.Frag) (mg : Str → Option Value) (base : Heap) (k : Nat) (x : Str) (ps : List Str) (sp : Sp) : Prop where
  ex : ∃ f fd, FnOk P w K mg base (CXE P w) k f fd ps sp ∧ Binds K fd ps [] ∧ PySem.W.keepIn K (.ref f) = true ∧ mg x = some (.ref f)
/-- f(e, ..), f a def that may raise, where hx says what becomes of it -/
theorem pe_ownE {X : Cx} {k j : Nat} {x : Str} {ps : List Str} {sp : Sp} {E : XK} {e : Expr} {es : List Expr} {t : TA} {p pos : Pos} (C : CalE X.prog X.w X.K X.mg X.base k x ps sp) (hr : Room j X.A) (hg : Gl X x) (hx : Passes (CXE X.prog X.w) X E) (ha : PA X (e :: es) t) (hk : k ≤ j := by omega)
    (hdb : (x == ("__debug__" : Str)) = false := by decide) (he : starEach (e :: es) X.env = (false, eval e X.env) :: starEach es X.env := by rfl) (hpl : (backTo pos (starEach es X.env)).any (·.1) = false := by rfl) :
    PE X (.Call (.Name x p) (e :: es) [] pos) (tCall sp [] E t) := by
  obtain ⟨f, fd, F, b, kp, m⟩ := C.ex
  exact pe_call F (hr.mono hk) hg m kp b .nil hx ha hdb he hpl
end L2
namespace L2
open PySem PySem.Spec PyProof.Rows
/-- an exception of class C -/
def IsExc (ea C : Addr) (h : Heap) : Prop := ∃ o, h.get? ea = some o ∧ o.cls = .ref C ∧ o.dict = none ∧ ∃ vs, o.data = .fields vs
def ExcO (ea C : Addr) : HO := .ext (IsExc ea C)
theorem excO_ok {P : Program} {w : World} {H : Hp} {h : Heap} {ea C : Addr} (x : IsExc ea C h) : ObjOk P w H h ea (ExcO ea C) :=
  ⟨x, let ⟨o, e, _⟩ := x; ⟨o, e⟩, fun _ _ ⟨o, e, c⟩ k => ⟨o, k o e, c⟩⟩
theorem Un.track {H H1 : Hp} {h h1 : Heap} {fs : List Addr} {ea : Addr} {o : HO} (u : Un fs [] H H1 h h1) (e1 : h.get? ea = none) (e2 : H ea = none) : Un fs [] H (upd H1 ea o) h h1 where
  keep := u.keep
  slot := u.slot
  free := fun b ob q n hx => by rw [upd_ne (fun z => by rw [z, e1] at q; cases q)]; exact u.free b ob q n hx
  there := u.there
  tups := fun b xs q => by rw [upd_ne (fun z => by rw [z, e2] at q; cases q)]; exact u.tups b xs q
  frzs := fun b ob xs q => by rw [upd_ne (fun z => by rw [z, e2] at q; cases q)]; exact u.frzs b ob xs q
  tbls := fun b ps q => by rw [upd_ne (fun z => by rw [z, e2] at q; cases q)]; exact u.tbls b ps q
theorem HOk.track {P : Program} {w : World} {H : Hp} {h : Heap} {ea : Addr} {o : HO} (x : HOk P w H h) (e : H ea = none) (new : ObjOk P w (upd H ea o) h ea o) : HOk P w (upd H ea o) h := fun b u q => by
  by_cases hb : b = ea
  · subst hb; rw [upd_same] at q; cases q; exact new
  · rw [upd_ne hb] at q
    refine (x b u q).stay (fun _ _ _ z => z) (fun c z => ?_) fun c xs z => ?_
    · rw [upd_ne (fun y => by rw [y, e] at z; cases z)]; exact z
    · rw [upd_ne (fun y => by rw [y, e] at z; cases z)]; exact z
/-- the body of a try: other pins for good, another wish -/
abbrev Cx.tryC (X : Cx) (pn : List (Addr × Obj)) (E : Value → Shared → Prop) : Cx := { X with pn := pn, xe := E }
/-- within an except suite -/
abbrev Cx.inh (X : Cx) (ea : Addr) : Cx := { X with A := X.A.mark (some (.ref ea)), calm := false, xe := fun _ _ => False }
section
variable {X : Cx} {pins : List (Addr × Obj)} {σ : St} {H : Hp} {s : Shared}
theorem Cx.Ok.tryC (ok : X.Ok) (pn : List (Addr × Obj)) (E : Value → Shared → Prop) : (X.tryC pn E).Ok :=
  ⟨ok.mod, ok.kind, ok.glob, ok.blt, ok.above, ok.inj, ok.has, ok.cab, ok.hd, ok.frames, ok.stk, ok.exf, ok.bs, ok.bsz, ok.noex, ok.exfs, ok.funs, ok.frf⟩
theorem Inv.toTry (I : Inv X pins σ H s) (E : Value → Shared → Prop) : Inv (X.tryC (X.pn ++ pins) E) [] σ H s :=
  ⟨I.ok.tryC _ E, I.os, I.bare, I.base, I.loc, I.cell, I.free, I.freeC, fun p hp => I.pin p (by simpa using hp), I.hok, I.len⟩
theorem Inv.ofTry {E : Value → Shared → Prop} {q : List (Addr × Obj)} (hX : X.Ok) (I : Inv (X.tryC (X.pn ++ pins) E) q σ H s) : Inv X pins σ H s :=
  ⟨hX, I.os, I.bare, I.base, I.loc, I.cell, I.free, I.freeC, fun p hp => I.pin p (List.mem_append.mpr (.inl hp)), I.hok, I.len⟩
theorem Inv.toInh (I : Inv X pins σ H s) (ea : Addr) : Inv (X.inh ea) pins σ H s :=
  ⟨⟨I.ok.mod, I.ok.kind, I.ok.glob, I.ok.blt, I.ok.above, I.ok.inj, I.ok.has, I.ok.cab, fun z => (by cases z), I.ok.frames, I.ok.stk, I.ok.exf, I.ok.bs, I.ok.bsz, I.ok.noex, I.ok.exfs, I.ok.funs, I.ok.frf⟩, I.os, I.bare, I.base, I.loc, I.cell, I.free, I.freeC, I.pin, I.hok, I.len⟩
theorem Inv.ofInh {ea : Addr} (hX : X.Ok) (I : Inv (X.inh ea) pins σ H s) : Inv X pins σ H s := ⟨hX, I.os, I.bare, I.base, I.loc, I.cell, I.free, I.freeC, I.pin, I.hok, I.len⟩
/-- the handler's name goes -/
theorem name_goes {M : Model} {A : Around} {E : Value → Shared → Prop} {i : Nat} {n : Str} {pos : Pos} {Q : Unit → Shared → Prop} (I : Inv X pins σ H s) (hN : X.N.Nodup) (hi : X.N[i]? = some n) (hk : X.env.scope.names.lookup n = some .local)
    (h : ∀ s', Inv X pins (σ.set i none) H s' → Q () s') : wpAny M A (do bindName X.env n .none; unbindBehindTheSuite X.env n pos) Q E s := by
  obtain ⟨m, hn, hl⟩ := id I.loc
  have hcls : (X.env.scope.kind == .class || (X.env.scope.kind == .module && X.env.locals != X.env.globals)) = false := by rw [I.ok.kind]; rfl
  have hiσ : i < σ.length := by rw [I.len]; exact (List.getElem?_eq_some_iff.mp hi).1
  have cne := I.cne
  refine wpAny_nameGoes_keeps hk hn hcls fun h' v hn' hs => ?_
  have far : ∀ b o, X.s₀.heap.get? b = some o → h'.get? b = s.heap.get? b := fun b o e => hs.2 b (Nat.ne_of_lt (Nat.lt_of_lt_of_le (Heap.lt_size e) I.ok.above))
  refine h _ ⟨I.ok, I.os, I.bare, ⟨fun b o e n hb hx => (far b o e).trans (I.base.keep b o e n hb hx), fun b o e n hb hx => ?_, I.base.free, fun b o e hx => ?_, I.base.tups, I.base.frzs, I.base.tbls⟩, ⟨_, hn', fun j y v' e1 e2 e3 => ?_⟩, fun y c e => ?_, I.free, I.freeC, fun p hp => ?_, fun b ob e => ?_, by simpa using I.len⟩
  · obtain ⟨sl, q⟩ := I.base.slot b o e n hb hx
    exact ⟨sl, (far b o e).trans q⟩
  · obtain ⟨o', q⟩ := I.base.there b o e hx
    exact ⟨o', (far b o e).trans q⟩
  · by_cases hj : j = i
    · subst hj
      rw [List.getElem?_set_self hiσ] at e2
      cases e2
    · rw [List.getElem?_set_ne (Ne.symm hj)] at e2
      obtain ⟨u', r', q⟩ := hl j y v' e1 e2 e3
      refine ⟨u', r', ?_⟩
      rcases q with ⟨k, e⟩ | ⟨k, c, e, z⟩
      · refine .inl ⟨k, ?_⟩
        have : y ≠ n := fun e => hj (nodup_ix hN e1 (e ▸ hi))
        simp [this, e]
      · exact .inr ⟨k, c, e, z.sameBut hs (cne y c e)⟩
  · obtain ⟨w', z⟩ := I.cell y c e
    exact ⟨w', z.sameBut hs (cne y c e)⟩
  · obtain ⟨e, n, ne, nf, d⟩ := I.pin p hp
    exact ⟨(hs.2 p.1 ne).trans e, n, ne, nf, d⟩
  · refine (I.hok b ob e).stay (fun c w' hc q => (hs.2 c ?_).trans q) (fun _ q => q) fun _ _ q => q
    rintro rfl
    rcases hc with rfl | hc
    · rw [I.free] at e; cases e
    · rw [I.free] at hc; cases hc
end
end L2
namespace L2
open PySem PySem.Spec PyProof.Rows
/-- what is wished of an exception in the body of a try: it is of class C, and the suite th returns as wished, whatever the names hold -/
def xTry (N : List Str) (i : Nat) (C : Addr) (th : TS) (rt : VK) : XK := fun e c H' => c = some C ∧ ∃ ea, e = .ref ea ∧ ∀ σ : St, σ.length = N.length → H' ea = none →
  th { nx := fun _ _ => False, ct := fun _ _ => False, bk := fun _ _ => False, rt := rt } (σ.set i (some (.ref ea))) (upd H' ea (ExcO ea C))
section
variable {X : Cx}
theorem ps_try {x n : Str} {C : Addr} {bmB : List Value} {newId : String} {i : Nat} {body : List Stmt} {b₀ : Stmt} {suite : List Stmt} {np hpos pos : Pos} {tb : XK → TS} {th : TS}
    (hstk : X.stack = X.env :: X.outer) (hfr : X.env.frame = some X.env.locals) (O : OwnCls x C bmB newId X.mg X.base) (hbase : bmB.contains (.type "BaseException") = true)
    (hN : X.N.Nodup) (hi : X.N[i]? = some n) (hk : X.env.scope.names.lookup n = some .local) (hg : Gl X x)
    (hb : ∀ (pn : List (Addr × Obj)) (EH : Value → Shared → Prop) (E : XK), Passes (CXE X.prog X.w) (X.tryC pn EH) E → PSs (X.tryC pn EH) body (tb E))
    (hh : ∀ ea, PSs (X.inh ea) (b₀ :: suite) th) (hd : (x == ("__debug__" : Str)) = false := by decide) :
    PS X (.Try body [.ExceptHandler (some (.Name x np)) (some n) (b₀ :: suite) hpos] [] [] pos) (fun D σ H => tb (xTry X.N i C th D.rt) D σ H) := by
  intro pins s σ H D I h
  refine wpAny_Try_except ?_
  have ok := I.ok
  have key := hb (X.pn ++ pins) (fun e s₁ => wpAny (model X.prog X.w) X.A (noteFrame e X.env) (fun _ s₂ => wpAny (model X.prog X.w) X.A (setFlight e none) (fun _ s₃ => wpAny (model X.prog X.w) X.A (handleBy e X.env [.ExceptHandler (some (.Name x np)) (some n) (b₀ :: suite) hpos]) (SP X pins D) X.xe s₃) X.xe s₂) X.xe s₁) (xTry X.N i C th D.rt) ?pass [] s σ H D (I.toTry _) h
  case pass =>
    intro pins' σ' H0 s0 e s' I0 hcx
    have J0 : Inv X pins σ' H0 s0 := Inv.ofTry ok I0
    obtain ⟨ea, C', T, H', rfl, hos, hbr, hu, hok, h1, h2, h3, h4, fl, hE⟩ := hcx
    obtain ⟨hc, ea', hea, hth⟩ := hE
    cases hc
    cases hea
    have hu' : Un (frs X.stack) [] H0 H' s0.heap s'.heap := hu
    have hst0 : s0.heap.FunFrames X.base (X.env :: X.outer) := by have := J0.stack; rwa [hstk] at this
    have hst : s'.heap.FunFrames X.base (X.env :: X.outer) := frames_slots (fun b o hm q => hu'.any q (J0.stkFree b (by rw [hstk]; exact hm)) (by intro z; cases z)) hst0
    show wpAny _ _ (noteFrame _ _) _ _ _
    refine note_next (base := X.base) (env := X.env) (outer := X.outer) (by rw [ok.frames, hstk]) hst hfr fl fun g2 T' n2 hT' fl2 => ?_
    refine land fl2 fun g3 n3 fl3 => ?_
    -- the test
    have none' : ∀ b, s0.heap.get? b = none → X.base.get? b = none := fun b hb => by
      cases q : X.base.get? b with
      | none => rfl
      | some o => have := J0.bk b o q; rw [hb] at this; cases this
    have hT0 : s0.heap.get? T' = none := by
      cases q : s0.heap.get? T' with
      | none => rfl
      | some o => obtain ⟨o', q'⟩ := hu'.there T' o q (by intro z; cases z); rw [hT'] at q'; cases q'
    -- a state behind changes of the exception's own records
    have behind : ∀ g, Near (frs X.stack) [ea, T, T'] s'.heap g → IsExc ea C g → ∀ t', Inv X pins σ' (upd H' ea (ExcO ea C)) { s' with heap := g, toks := t' } := fun g n hex t' => by
      have u1 : Un (frs X.stack) [] H0 H' s0.heap g := Un.behind hu' n (fun _ _ _ z => z) (fun b hb => by
        simp only [List.mem_cons, List.not_mem_nil, or_false] at hb
        rcases hb with rfl | rfl | rfl
        · exact h1
        · exact h2
        · exact hT0)
      have hfree : ∀ b ∈ frs X.stack, H' b = none := fun b hb => by
        obtain ⟨_, o, ho, _⟩ := J0.stack.mem hb
        exact hu'.free b o ho (J0.stkFree b hb) (by intro z; cases z)
      have k1 : HOk X.prog X.w H' g := hok.near n hfree (fun b hb => by
        simp only [List.mem_cons, List.not_mem_nil, or_false] at hb
        rcases hb with rfl | rfl | rfl
        · exact h3
        · exact h4
        · exact hok.no hT')
      exact J0.call' (s' := { s' with heap := g, toks := t' }) (ch := []) hos (u1.track h1 (J0.hok.no h1)) (k1.track h3 (excO_ok hex)) hbr (fun _ z => nomatch z)
    have n23 : Near (frs X.stack) [ea, T, T'] s'.heap g3 := ((n2.mono (fun b z => by rw [hstk]; exact z) (by simp)).trans (n3.mono (fun _ z => nomatch z) (by simp)))
    have cls3 : IsExc ea C g3 := let ⟨oe, vs, q1, q2, q3, _, q4⟩ := fl3.ex; ⟨oe, q1, q2, q4, vs, q3⟩
    have I3 := behind g3 n23 cls3 s'.toks
    obtain ⟨tl, Nn, nm, q, bs, hdct, sn, sub, ab, col, dd, k0, k1, k2, k3, k5, mN, hC, hNn, hni, Tl⟩ := O.obj
    refine wpAny_handleBy_cons (codeAny_handlers_test ?_) (by intro z; cases z)
    refine ld_glob (X := X.inh ea) (I3.toInh ea) hg O.bound ?_ hd
    obtain ⟨oe3, e3, c3, _⟩ := cls3
    refine wpAny_excMatches_sub_self (I3.bk _ _ hC) e3 c3 (Tl.hasType hbase) ?_
    show codeAny _ _ _ _ _
    refine codeAny_handlers_suite_as ?_
    refine land fl3 fun g4 n4 fl4 => ?_
    have n24 := n23.trans (n4.mono (fun _ z => nomatch z) (by simp) : Near (frs X.stack) [ea, T, T'] g3 g4)
    have I4 := behind g4 n24 (let ⟨oe, vs, q1, q2, q3, _, q4⟩ := fl4.ex; ⟨oe, q1, q2, q4, vs, q3⟩) s'.toks
    refine store_ok (v := .ref ea) I4 hN hi (.inl hk) rfl (fun s5 I5 => ?_) (.inr hk)
    have run := hh ea pins s5 _ _ _ (I5.toInh ea) (hth σ' (by rw [J0.len]) h3)
    refine wpAny_mono run (fun f s6 q6 => ?_) fun _ _ z => False.elim z
    show wpAny _ _ _ _ _ _
    cases f with
    | next => obtain ⟨_, _, _, z⟩ := q6; exact z.elim
    | brk => obtain ⟨_, _, _, z⟩ := q6; exact z.elim
    | cont => obtain ⟨_, _, _, z⟩ := q6; exact z.elim
    | ret u =>
      obtain ⟨v, σ6, H6, I6, r6, z6⟩ := q6
      exact name_goes (I6.ofInh ok) hN hi hk fun s7 I7 => ⟨v, _, H6, I7, r6, z6⟩
  refine wpAny_mono key (fun f s1 q1 => ?_) fun _ _ z => z
  cases f with
  | next =>
    obtain ⟨σ', H', J, z⟩ := q1
    exact wpAny_pure ⟨σ', H', Inv.ofTry ok J, z⟩
  | brk => obtain ⟨σ', H', J, z⟩ := q1; exact ⟨σ', H', Inv.ofTry ok J, z⟩
  | cont => obtain ⟨σ', H', J, z⟩ := q1; exact ⟨σ', H', Inv.ofTry ok J, z⟩
  | ret u => obtain ⟨v, σ', H', J, r, z⟩ := q1; exact ⟨v, σ', H', Inv.ofTry ok J, r, z⟩
end
end L2
namespace L2
open PySem PySem.Spec PyProof.Rows
/-- what the written part tells of a class of exceptions -/
structure ExcCls (K : PySem.W.Frag) (D : Addr) : Prop where
  cls : ∃ cd, PySem.W.clsIn K D = some cd
  obj : ∃ c d cd sl, K.lookup D = some ⟨c, d, .cls cd, sl⟩
  ga : PySem.W.findIn K (.ref D) "__getattribute__" = some (some (.builtin "BaseException.__getattribute__"))
  gt : PySem.W.findIn K (.ref D) "__getattr__" = some none
  ca : PySem.W.findIn K (.ref D) "__class__" = some (some (.builtin "object.__class__"))
  gs : PySem.W.specialIn K (.builtin "object.__class__") "__get__" = some (some (.builtin "getset_descriptor.__get__"))
  tk : PySem.W.takesIn K (.builtin "object.__class__") = some true
  mo : PySem.W.mroIn K D (.type "object") = some true
  sb : PySem.W.subIn K (.ref D) (.type "BaseException") = some true
theorem ExcCls.mk' {K : PySem.W.Frag} {D : Addr} {c : Value} {d : Option Addr} {cd : ClassData} {sl : Array (Option Value)} (l : K.lookup D = some ⟨c, d, .cls cd, sl⟩)
    (ga : PySem.W.findIn K (.ref D) "__getattribute__" = some (some (.builtin "BaseException.__getattribute__"))) (gt : PySem.W.findIn K (.ref D) "__getattr__" = some none)
    (ca : PySem.W.findIn K (.ref D) "__class__" = some (some (.builtin "object.__class__"))) (gs : PySem.W.specialIn K (.builtin "object.__class__") "__get__" = some (some (.builtin "getset_descriptor.__get__")))
    (tk : PySem.W.takesIn K (.builtin "object.__class__") = some true) (mo : PySem.W.mroIn K D (.type "object") = some true) (sb : PySem.W.subIn K (.ref D) (.type "BaseException") = some true) : ExcCls K D :=
  ⟨⟨cd, by unfold PySem.W.clsIn; rw [l]⟩, ⟨c, d, cd, sl, l⟩, ga, gt, ca, gs, tk, mo, sb⟩
theorem bx_kind : builtinKind "BaseException.__getattribute__" = some .slot := by decide +kernel
theorem bx_split : splitId "BaseException.__getattribute__" = some ("BaseException", "__getattribute__") := by decide +kernel
theorem chk {M : Model} {A : Around} {E : Value → Shared → Prop} {s : Shared} {i owner n : String} {self : Value} {rest : List Value} {kw : List (Str × Value)} {Q : Unit → Shared → Prop}
    (hk : builtinKind i = some .slot) (hs : splitId i = some (owner, n)) (hi : PySem.W.Looks M s.heap (isInstance self (.type owner)) true) (ha : argsOk i ⟨self :: rest, kw⟩) (q : Q () s) :
    wpAny M A (checkBuiltinCall i ⟨self :: rest, kw⟩) Q E s := PySem.W.check_slot hk hs hi ha q
theorem exc_check {M : Model} {A : Around} {E : Value → Shared → Prop} {s : Shared} {x : Addr} {nm : Value} {i : String} {Q : Unit → Shared → Prop} (hi : i = "BaseException.__getattribute__") (LS : PySem.W.Looks M s.heap (isInstance (.ref x) (.type "BaseException")) true) (q : Q () s) :
    wpAny M A (checkBuiltinCall i ⟨.ref x :: [nm], []⟩) Q E s :=
  chk (owner := "BaseException") (n := "__getattribute__") (by rw [hi]; exact bx_kind) (by rw [hi]; exact bx_split) LS (by rw [hi]; exact PySem.F.args_bexc_ga (.ref x) nm) q
section
variable {prog : Program} {w : World} {A : Around} {E : Value → Shared → Prop} {s : Shared} {K : PySem.W.Frag} {x D : Addr}
theorem IsExc.inst {h : Heap} (e : IsExc x D h) : ∃ ox, PySem.W.InstAt h x ox D none := by
  obtain ⟨o, e1, e2, e3, vs, e4⟩ := e
  exact ⟨o, e1, e2, by unfold PySem.W.notCls; rw [e4], by rw [e3]; trivial⟩
set_option maxHeartbeats 400000 in
theorem exc_class {Q : Option Value → Shared → Prop} (C : ExcCls K D) (X : K.In s.heap) (e : IsExc x D s.heap) (q : Q (some (.ref D)) { s with toks := s.toks + 1 }) : wpAny (model prog w) A (getAttr? (.ref x) "__class__") Q E s := by
  obtain ⟨ox, I⟩ := e.inst
  have hf : PySem.W.findObj K D none "__class__" = some (.bind (.builtin "getset_descriptor.__get__") (.builtin "object.__class__")) := by
    obtain ⟨cd, hc⟩ := C.cls
    unfold PySem.W.findObj
    rw [hc, Option.bind_some, C.ca, Option.bind_some]
    simp [C.gs, C.tk]
  obtain ⟨hh, g, d, t, os⟩ := s
  have L0 := I.type (M := model prog w)
  have L1 := PySem.W.looks_findIn (M := model prog w) X C.ga
  have L2 := PySem.W.looks_findIn (M := model prog w) X C.gt
  have LF := PySem.W.looks_find (M := model prog w) X I hf
  have LS : PySem.W.Looks (model prog w) hh (isInstance (.ref x) (.type "BaseException")) true := L0.andThen (PySem.W.looks_subIn X C.sb)
  unfold getAttr? getAttrBy? getAttrBy
  refine wpAny_bind (wpAny_mkText (wpAny_bind (wpAny_attempt (wpAny_holding (wpAny_bind (L0.at (wpAny_bind (L1.at ?_))))))))
  show wpAny _ _ (getAttrByItsOwn _ _ _ _ _ _) _ _ _
  unfold getAttrByItsOwn
  refine wpAny_bind (show wpAny _ _ (typeLookup (.ref D) "__getattr__") _ _ _ from L2.at ?_)
  refine wpAny_bind (wpAny_attempt (wpAny_holding (show wpAny _ _ (boundAndCalled _ _ _) _ _ _ from ?_)))
  unfold boundAndCalled
  rw [PySem.F.excAttr_ValueError.ga.bind (.ref x)]
  refine wpAny_bind (wpAny_pure (wpAny_call ?_))
  refine codeAny_call_builtin PySem.F.excAttr_ValueError.ga.plain PySem.F.entry_bexc_ga ?_
  show wpAny _ _ (checkBuiltinCall "BaseException.__getattribute__" ⟨.ref x :: [.str "__class__" t], []⟩) _ _ _
  generalize hi : ("BaseException.__getattribute__" : String) = i0
  refine exc_check (s := ⟨hh, g, d, t + 1, os⟩) (nm := .str "__class__" t) hi.symm LS ?_
  unfold Builtin.«object.__getattribute__»
  refine wpAny_bind (wpAny_pure (wpAny_bind (wpAny_pure (wpAny_bind (L0.at (wpAny_bind (LF.at ?_)))))))
  refine wpAny_bind (wpAny_holding (wpAny_call (PySem.W.class_get X I C.mo ?_)))
  exact wpAny_pure (PySem.W.handed_on rfl (wpAny_pure q))
theorem kitx_exc (C : ExcCls K D) : PySem.W.KitX K (.ref x) (.ref D) (IsExc x D) where
  ty := fun _ _ _ e => let ⟨_, I⟩ := e.inst; I.type
  it := fun _ _ X _ => by
    obtain ⟨c, d, cd, sl, l⟩ := C.obj
    intro A' Q' E' s' k q
    unfold isType loadHead
    exact wpAny_bind (wpAny_loadPart (k _ _ (X _ _ l)) (wpAny_pure q))
  ne := fun h tp dd its n sl X htp => by
    obtain ⟨c, d, cd, sl', l⟩ := C.obj
    refine Bool.eq_false_iff.mpr fun q => ?_
    obtain rfl : D = tp := Value.ref.inj (beq_iff_eq.mp q)
    have z := (X _ _ l).symm.trans htp
    cases z
  ca := fun X e q => exc_class C X e q
end
/-- the class that a V names -/
def cV : V → Value
  | .ref a => .ref a
  | .ty n => .type n
  | _ => .none
def rIsiE (K : PySem.W.Frag) : List V → Hp → VK → Prop := fun xs H Q => ∃ ea D b c, xs = [.ref ea, c] ∧ H ea = some (ExcO ea D) ∧ ExcCls K D ∧ (c = .non → False) ∧ (∀ u, RelV c u → u = cV c) ∧ PySem.W.kitOne K (.ref D) (cV c) = some b ∧ Q (.bl b) H
theorem call_isiE {X : Cx} : CallR X (.builtin "isinstance") (rIsiE X.K) := by
  intro pins s σ H xs us Q I r h
  obtain ⟨ea, D, b, c, rfl, he, C, _, hc, e, q⟩ := h
  obtain ⟨u, w', rfl, ru, rw'⟩ := vals2 r
  cases ru
  rw [hc w' rw']
  exact PySem.W.kia_one (kitx_exc C) I.kIn (I.hok _ _ he).1 e (fun z => nomatch z) fun tk => ⟨.bl b, H, I.tok tk, rfl, q⟩
theorem call_isiEK {X : Cx} (K : PySem.W.Frag) (h : X.K = K := by rfl) : CallR X (.builtin "isinstance") (rIsiE K) := h ▸ call_isiE
end L2
namespace K31
open PySem L2
def top (i : Nat) : Stmt := PySem.Challenge.pw_tailyard_k31_whole_unpacked.main.body.getD i (.Pass ⟨0, 0, 0, 0⟩)
abbrev sCell : Stmt := top 12
abbrev sMixed : Stmt := top (12 + 1)
abbrev sDrawn : Stmt := top (12 + 2)
abbrev sText : Stmt := top (12 + 3)
abbrev Low (l : List Nat) : Prop := ∀ c ∈ l, 97 ≤ c ∧ c ≤ 122
theorem small {n : Nat} (h : n ≤ 1000000) : n ≤ sizeLine := by rw [sizeLine_eq]; omega

def spCell (K : PySem.W.Frag) : Sp := fun vs H Q _ => ∃ (a : Addr) (ns : List Int) (k : Int), vs = [.ref a, .int k] ∧ SqL K H a (ns.map V.int) ∧ ns.length ≤ 63 ∧ 0 ≤ k ∧ ∀ v, Q (.int v) H
def spMixed (K : PySem.W.Frag) : Sp := fun vs H Q _ => ∃ (a : Addr) (ns : List Int) (k : Int), vs = [.ref a, .int k] ∧ SqL K H a (ns.map V.int) ∧ ns.length ≤ 63 ∧ 0 ≤ k ∧ k ≤ 1000 ∧ ∀ v, 0 ≤ v → v < 2147483629 → Q (.int v) H
def spDrawn : Sp := fun vs H Q _ => ∃ n k : Int, vs = [.int n, .int k] ∧ 0 ≤ n ∧ n < 2147483629 ∧ 0 ≤ k ∧ k ≤ 1000 ∧ ∀ v, 0 ≤ v → v < 2147483629 → Q (.int v) H
def spText : Sp := fun vs H Q _ => ∃ n m : Int, vs = [.int n, .int m] ∧ 0 ≤ n ∧ n < 2147483629 ∧ 0 ≤ m ∧ m ≤ 100 ∧ ∀ l H', Same H H' → (l.length : Int) ≤ m → Low l → Q (.str (S l)) H'

theorem scCell : FnScope ["_law_script", "_law_k"] ["_law_script", "_law_k"] (defScope sCell) := ⟨rfl, rfl, rfl, by decide +kernel, rfl, by decide +kernel, by decide +kernel⟩
theorem scMixed : FnScope ["_law_script", "_law_k", "_law_drawn_here"] ["_law_script", "_law_k"] (defScope sMixed) := ⟨rfl, rfl, rfl, by decide +kernel, rfl, by decide +kernel, by decide +kernel⟩
theorem scDrawn : FnScope ["_law_number", "_law_k", "_law_drawn_here"] ["_law_number", "_law_k"] (defScope sDrawn) := ⟨rfl, rfl, rfl, by decide +kernel, rfl, by decide +kernel, by decide +kernel⟩
theorem scText : FnScope ["_law_number", "_law_most", "_law_letters", "_law_many", "_law_found", "_law_k", "_law_by"] ["_law_number", "_law_most"] (defScope sText) := ⟨rfl, rfl, rfl, by decide +kernel, rfl, by decide +kernel, by decide +kernel⟩

def ltrs : List V := [.str (S [97]), .str (S [97, 98]), .str (S [97, 98]), .str (S [97, 98, 99]), .str (S [97, 98, 99, 100]), .str (S [120, 121, 122]), .str (S [98, 109]),
  .str (S [97, 98, 99, 100, 101, 102, 103, 104, 105, 106, 107, 108, 109, 110, 111, 112, 113, 114, 115, 116, 117, 118, 119, 120, 121, 122])]
theorem ltrs_at {i : Int} (h0 : 0 ≤ i) (h8 : i < 8) : ∃ l : List Nat, atI ltrs i = some (.str (S l)) ∧ 1 ≤ l.length ∧ l.length ≤ 26 ∧ Low l := by
  have : i = 0 ∨ i = 1 ∨ i = 2 ∨ i = 3 ∨ i = 4 ∨ i = 5 ∨ i = 6 ∨ i = 7 := by omega
  rcases this with rfl | rfl | rfl | rfl | rfl | rfl | rfl | rfl <;> exact ⟨_, rfl, by decide, by decide, by unfold Low; decide⟩
theorem low_get {l : List Nat} (h : Low l) {i : Int} (h0 : 0 ≤ i) (h1 : i < l.length) : ∃ c, atI l i = some c ∧ 97 ≤ c ∧ c ≤ 122 := by
  have hk : i.toNat < l.length := by omega
  have e : atI l ((i.toNat : Nat) : Int) = some l[i.toNat] := atI_nat (List.getElem?_eq_getElem hk)
  rw [show ((i.toNat : Nat) : Int) = i by omega] at e
  exact ⟨_, e, h _ (List.getElem_mem hk)⟩
theorem low_app {a b : List Nat} (ha : Low a) (hb : Low b) : Low (a ++ b) := fun c hc => (List.mem_append.mp hc).elim (ha c) (hb c)
theorem low_cut {a : List Nat} (ha : Low a) (lo hi : Option Int) : Low (cutL a lo hi) := fun c hc => ha c (List.mem_of_mem_drop (List.mem_of_mem_take hc))
theorem low_rep {a : List Nat} (ha : Low a) (k : Int) : Low (repL a k) := fun c hc => by
  unfold repL at hc
  obtain ⟨l, hl, hc⟩ := List.mem_flatten.mp hc
  rw [(List.mem_replicate.mp hl).2] at hc
  exact ha c hc

section
variable {P : Program} {w : World} {K : PySem.W.Frag} {mg : Str → Option Value} {base : Heap} {f g : Addr} {fd gd : FuncData}
theorem okCell (F : Fun K "_law_cell_at" "_law_cell_at" sCell f fd) (ml : mg "len" = none) : FnOk P w K mg base CX0 1 f fd ["_law_script", "_law_k"] (spCell K) := by
  refine F.ok scCell (fun vs H Q E h => ?_) (fun cdv A outer s H vs Q E hr h => ?_)
  · obtain ⟨a, ns, k, rfl, _⟩ := h
    rfl
  obtain ⟨a, ns, k, rfl, hS, h63, h0, q⟩ := h
  refine ⟨_, pss_cons (ps_if (pt_cmpR op_lt (pv 1) (pe_callB call_len_seq rfl ml PySem.boot_len (pa_cons (pv 0) pa_nil)) (nomark _)) (pss_one (ps_ret (pe_ix ix_list (pv 0) (pv 1) (fun _ _ => rfl)))) pss_nil) (pss_one (ps_ret pe_int)), ?_⟩
  refine ⟨_, rfl, _, rfl, a, _, rfl, .inl hS, _, _, rfl, rfl, _, rfl, ?_⟩
  refine ite2 (fun c => ?_) (fun c => ?_)
  · have c' : k < (((ns.map V.int).length : Nat) : Int) := of_decide_eq_true c
    rw [List.length_map] at c'
    have hk : k.toNat < ns.length := by omega
    have e : atI (ns.map V.int) ((k.toNat : Nat) : Int) = some (.int ns[k.toNat]) := atI_nat (by rw [List.getElem?_map, List.getElem?_eq_getElem hk] <;> rfl)
    rw [show ((k.toNat : Nat) : Int) = k by omega] at e
    exact ⟨_, rfl, _, rfl, a, _, _, _, rfl, rfl, hS, e, q _⟩
  · exact q 0

theorem okMixed (F : Fun K "_law_mixed" "_law_mixed" sMixed f fd) (G : FnOk P w K mg base CX0 1 g gd ["_law_script", "_law_k"] (spCell K)) (bG : Binds K gd ["_law_script", "_law_k"] []) (kG : PySem.W.keepIn K (.ref g) = true) (mG : mg "_law_cell_at" = some (.ref g)) :
    FnOk P w K mg base CX0 2 f fd ["_law_script", "_law_k"] (spMixed K) := by
  refine F.ok scMixed (fun vs H Q E h => ?_) (fun cdv A outer s H vs Q E hr h => ?_)
  · obtain ⟨a, ns, k, rfl, _⟩ := h
    rfl
  obtain ⟨a, ns, k, rfl, hS, h63, h0, h1, q⟩ := h
  refine ⟨_, pss_cons (ps_set (i := 2) scMixed.nd rfl (Or.inl rfl) (pe_op op_mod (pe_op op_mul (pe_op op_add (pe_op op_add (pe_call G hr rfl mG kG bG .nil pass0 (pa_cons (pv 0) (pa_cons (pv 1) pa_nil))) (pe_op op_mul pe_int (pv 1))) pe_int) pe_int) pe_int))
    (pss_one (ps_ret (pe_op op_mod (pe_op op_add (pe_op op_add (pe_op op_mul (pv 2) (pv 2)) (pe_op op_mul pe_int (pv 2))) (pv 1)) pe_int))), ?_⟩
  refine ⟨_, rfl, _, rfl, a, ns, k, rfl, hS, h63, h0, fun v => ?_⟩
  refine ⟨_, rfl, _, _, rfl, rfl, .inl ⟨by decide, by decide⟩, _, _, rfl, rfl, _, _, rfl, rfl, _, _, rfl, rfl, .inr ⟨by decide, by decide⟩, _, _, rfl, rfl, (by show (0 : Int) < _; decide), ?_⟩
  have b0 := Int.emod_nonneg ((v + 7919 * k + 1) * 48271) (show (2147483647 : Int) ≠ 0 by decide)
  have b1 := Int.emod_lt_of_pos ((v + 7919 * k + 1) * 48271) (show (0 : Int) < 2147483647 by decide)
  refine ⟨_, rfl, _, rfl, _, _, rfl, rfl, .inl ⟨by omega, by omega⟩, _, rfl, _, _, rfl, rfl, .inl ⟨by decide, by decide⟩, _, _, rfl, rfl, _, rfl, _, _, rfl, rfl, _, _, rfl, rfl, (by show (0 : Int) < _; decide), ?_⟩
  exact q _ (Int.emod_nonneg _ (by decide)) (Int.emod_lt_of_pos _ (by decide))

theorem okDrawn (F : Fun K "_law_drawn" "_law_drawn" sDrawn f fd) : FnOk P w K mg base CX0 1 f fd ["_law_number", "_law_k"] spDrawn := by
  refine F.ok scDrawn (fun vs H Q E h => ?_) (fun cdv A outer s H vs Q E hr h => ?_)
  · obtain ⟨n, k, rfl, _⟩ := h
    rfl
  obtain ⟨n, k, rfl, hn0, hn1, h0, h1, q⟩ := h
  refine ⟨_, pss_cons (ps_set (i := 2) scDrawn.nd rfl (Or.inl rfl) (pe_op op_mod (pe_op op_mul (pe_op op_add (pe_op op_add (pv 0) (pe_op op_mul pe_int (pv 1))) pe_int) pe_int) pe_int))
    (pss_one (ps_ret (pe_op op_mod (pe_op op_add (pe_op op_add (pe_op op_mul (pv 2) (pv 2)) (pe_op op_mul pe_int (pv 2))) (pv 1)) pe_int))), ?_⟩
  refine ⟨_, rfl, _, rfl, _, _, rfl, rfl, .inl ⟨by decide, by decide⟩, _, _, rfl, rfl, _, _, rfl, rfl, _, _, rfl, rfl, .inr ⟨by decide, by decide⟩, _, _, rfl, rfl, (by show (0 : Int) < _; decide), ?_⟩
  have b0 := Int.emod_nonneg ((n + 104729 * k + 17) * 69621) (show (2147483647 : Int) ≠ 0 by decide)
  have b1 := Int.emod_lt_of_pos ((n + 104729 * k + 17) * 69621) (show (0 : Int) < 2147483647 by decide)
  refine ⟨_, rfl, _, rfl, _, _, rfl, rfl, .inl ⟨by omega, by omega⟩, _, rfl, _, _, rfl, rfl, .inl ⟨by decide, by decide⟩, _, _, rfl, rfl, _, rfl, _, _, rfl, rfl, _, _, rfl, rfl, (by show (0 : Int) < _; decide), ?_⟩
  exact q _ (Int.emod_nonneg _ (by decide)) (Int.emod_lt_of_pos _ (by decide))

set_option maxHeartbeats 4000000 in
theorem okText (F : Fun K "_law_text" "_law_text" sText f fd) (G : FnOk P w K mg base CX0 1 g gd ["_law_number", "_law_k"] spDrawn) (bG : Binds K gd ["_law_number", "_law_k"] []) (kG : PySem.W.keepIn K (.ref g) = true) (mG : mg "_law_drawn" = some (.ref g)) (ml : mg "len" = none) (mr : mg "range" = none) :
    FnOk P w K mg base CX0 2 f fd ["_law_number", "_law_most"] spText := by
  refine F.ok scText (fun vs H Q E h => ?_) (fun cdv A outer s H vs Q E hr h => ?_)
  · obtain ⟨n, m, rfl, _⟩ := h
    rfl
  obtain ⟨n, m, rfl, hn0, hn1, hm0, hm1, q⟩ := h
  refine ⟨_, pss_cons (ps_set (i := 2) scText.nd rfl (Or.inl rfl) (pe_ix ix_tup (pe_tup (pa_cons (pe_strS (l := [97]) rfl) (pa_cons (pe_strS (l := [97, 98]) rfl) (pa_cons (pe_strS (l := [97, 98]) rfl) (pa_cons (pe_strS (l := [97, 98, 99]) rfl) (pa_cons (pe_strS (l := [97, 98, 99, 100]) rfl)
      (pa_cons (pe_strS (l := [120, 121, 122]) rfl) (pa_cons (pe_strS (l := [98, 109]) rfl) (pa_cons (pe_strS (l := [97, 98, 99, 100, 101, 102, 103, 104, 105, 106, 107, 108, 109, 110, 111, 112, 113, 114, 115, 116, 117, 118, 119, 120, 121, 122]) rfl) pa_nil))))))))) (pe_op op_mod (pv 0) pe_int) (fun _ _ => rfl)))
    (pss_cons (ps_set (i := 3) scText.nd rfl (Or.inl rfl) (pe_op op_mod (pe_op op_fdiv (pv 0) pe_int) (pe_op op_add (pv 1) pe_int)))
    (pss_cons (ps_set (i := 4) scText.nd rfl (Or.inl rfl) (pe_strS (l := []) rfl))
    (pss_cons (ps_for PassesOwn.never rfl (pi_range1 rfl mr (pa_cons (pv 3) pa_nil)) (pg_name (i := 5) scText.nd rfl (Or.inl rfl))
      (pss_one (ps_set (i := 4) scText.nd rfl (Or.inl rfl) (pe_op op_addS (pv 4) (pe_ix ix_strS (pv 2) (pe_op op_mod (pe_call G hr rfl mG kG bG .nil pass0 (pa_cons (pv 0) (pa_cons (pv 5) pa_nil))) (pe_callB call_lenS rfl ml PySem.boot_len (pa_cons (pv 2) pa_nil))) (fun _ _ => rfl))))))
    (pss_cons (ps_if (PW.pt (pw_and (pt_cmpR op_eq (pe_op op_mod (pe_op op_fdiv (pv 0) pe_int) pe_int) pe_int (nomark _)) (pw_and1 (pt_cmpR op_gt (pv 3) pe_int (nomark _)))))
      (pss_cons (ps_set (i := 6) scText.nd rfl (Or.inl rfl) (pe_op op_add pe_int (pe_op op_mod (pe_op op_fdiv (pv 0) pe_int) (pe_op op_sub (pv 3) pe_int))))
        (pss_one (ps_set (i := 4) scText.nd rfl (Or.inl rfl) (pe_slice sl_str (pe_op op_mulS (pe_slice sl_str (pv 4) po_none (po_some (pv 6))) (pv 3)) po_none (po_some (pv 3)))))) pss_nil)
    (pss_one (ps_ret (pv 4))))))), ?_⟩
  refine ⟨(by show 8 ≤ sizeLine; exact small (by omega)), fun p hp => ?_⟩
  obtain ⟨lt, hlt, hl1, hl26, hlow⟩ := ltrs_at (Int.emod_nonneg n (by decide)) (Int.emod_lt_of_pos n (show (0 : Int) < 8 by decide))
  refine ⟨_, rfl, _, _, rfl, rfl, (by show (0 : Int) < _; decide), p, ltrs, _, _, rfl, rfl, SqT.of upd_same, hlt, ?_⟩
  have hm : 0 < m + 1 := by omega
  refine ⟨_, rfl, _, _, rfl, rfl, ⟨by decide, by decide⟩, _, rfl, _, _, rfl, rfl, _, _, rfl, rfl, hm, ?_⟩
  have a0 := Int.emod_nonneg (n / 8) (show m + 1 ≠ 0 by omega)
  have a1 := Int.emod_lt_of_pos (n / 8) hm
  refine ⟨_, rfl, _, rfl, by omega, by omega, ?_⟩
  have g0 : Same H (upd H p (.tup ltrs)) := same_new hp _
  refine for_range (n := (n / 8 % (m + 1)).toNat) (fun i σ H' => Same H H' ∧ ∃ l o, σ = [some (.int n), some (.int m), some (.str (S lt)), some (.int (n / 8 % (m + 1))), some (.str (S l)), o, none] ∧ l.length = i ∧ Low l) ⟨g0, [], _, rfl, rfl, fun c hc => by cases hc⟩ ?_ ?_
  · rintro i σ H' hi ⟨g1, l, o, rfl, hl, hL⟩
    refine ⟨_, rfl, _, rfl, _, rfl, _, rfl, n, _, rfl, hn0, hn1, by omega, by omega, fun v v0 v1 => ?_⟩
    refine ⟨_, rfl, lt, rfl, small (by omega), _, _, rfl, rfl, by omega, ?_⟩
    obtain ⟨c, hc, c0, c1⟩ := low_get hlow (Int.emod_nonneg v (show (lt.length : Int) ≠ 0 by omega)) (Int.emod_lt_of_pos v (show (0 : Int) < lt.length by omega))
    refine ⟨lt, _, c, rfl, rfl, small (by omega), hc, l, [c], rfl, rfl, small (by simp only [List.length_singleton]; omega), ?_⟩
    refine ⟨g1, l ++ [c], _, rfl, by rw [List.length_append, List.length_singleton, hl], low_app hL fun d hd => ?_⟩
    rw [List.mem_singleton.mp hd]
    exact ⟨c0, c1⟩
  · rintro σ H' ⟨g1, l, o, rfl, hl, hL⟩
    refine ⟨_, rfl, _, _, rfl, rfl, ⟨by decide, by decide⟩, _, _, rfl, rfl, (by show (0 : Int) < _; decide), rfl, _, rfl, ?_⟩
    refine ite2 (fun _ => ?_) (fun _ => ?_)
    · refine ⟨_, rfl, _, _, rfl, rfl, _, rfl, ?_⟩
      refine ite2 (fun c => ?_) (fun _ => ?_)
      · have c' : 1 < n / 8 % (m + 1) := of_decide_eq_true c
        refine ⟨_, rfl, _, _, rfl, rfl, ⟨by decide, by decide⟩, _, rfl, _, _, rfl, rfl, _, _, rfl, rfl, by omega, _, _, rfl, rfl, ?_⟩
        refine ⟨_, rfl, _, rfl, _, rfl, l, rfl, small (by omega), _, rfl, _, _, rfl, rfl, by omega, by omega, ?_, _, rfl, _, rfl, _, rfl, ?_, ?_⟩
        · have b1 := cutL_length l none (some (1 + n / 2400 % (n / 8 % (m + 1) - 1)))
          have b2 : (n / 8 % (m + 1)).toNat ≤ 100 := by omega
          exact Nat.le_trans (Nat.mul_le_mul (Nat.le_trans b1 (by omega : l.length ≤ 100)) b2) (by omega)
        · rw [repL_length]
          have b1 := cutL_length l none (some (1 + n / 2400 % (n / 8 % (m + 1) - 1)))
          have b2 : (n / 8 % (m + 1)).toNat ≤ 100 := by omega
          exact small (Nat.le_trans (Nat.mul_le_mul b2 (Nat.le_trans b1 (by omega : l.length ≤ 100))) (by omega))
        · refine ⟨_, rfl, ?_⟩
          refine q _ _ g1 ?_ (low_cut (low_rep (low_cut hL _ _) _) _ _)
          have := cutL_to_le (repL (cutL l none (some (1 + n / 2400 % (n / 8 % (m + 1) - 1)))) (n / 8 % (m + 1))) (k := n / 8 % (m + 1)) a0
          omega
      · exact ⟨_, rfl, q _ _ g1 (by omega) hL⟩
    · exact ⟨_, rfl, q _ _ g1 (by omega) hL⟩
end
end K31
namespace K31
open PySem L2
def packV (t : List Nat) (rows : List (List Nat)) : List V := [.str (S (MP.lastOf rows)), .int (MP.placeOf t rows : Nat)]
def spPacked : Sp := fun vs H Q _ => ∃ t, vs = [.str (S t)] ∧ t.length ≤ 24 ∧ Low t ∧ ∀ rows p H', MP.IsRows t rows → Same H H' → H' p = some (.tup (packV t rows)) → Q (.ref p) H'
theorem cut_head (t : List Nat) (k : Nat) : cutL t none (some (k : Int)) = t.take k := by
  unfold cutL
  rw [HT.sIx_none, HT.sIx_nat, List.drop_zero, Nat.sub_zero]
  by_cases h : k ≤ t.length
  · rw [Nat.min_eq_left h]
  · rw [Nat.min_eq_right (by omega), List.take_length, List.take_of_length_le (by omega)]
theorem cut_tail (t : List Nat) (k : Nat) : cutL t (some (k : Int)) none = t.drop k := by
  unfold cutL
  rw [HT.sIx_none, HT.sIx_nat]
  by_cases h : k ≤ t.length
  · rw [Nat.min_eq_left h, List.take_of_length_le (by rw [List.length_drop]; omega)]
  · rw [Nat.min_eq_right (by omega), List.drop_length, List.take_nil, List.drop_eq_nil_of_le (by omega)]
theorem at_last {r : List Nat} (h : r ≠ []) : atI r (-1) = some (MP.lastC r) := by
  have h0 : 0 < r.length := List.length_pos_iff.mpr h
  unfold atI ixN
  rw [if_neg (by omega), if_pos (by omega)]
  show r[(-1 + (r.length : Int)).toNat]? = _
  rw [show (-1 + (r.length : Int)).toNat = r.length - 1 by omega, List.getElem?_eq_getElem (by omega)]
  unfold MP.lastC
  rw [List.getD_eq_getElem?_getD, List.getElem?_eq_getElem (by omega)]
  rfl
end K31
namespace K31
open PySem L2
abbrev s_all_letters : Stmt := top 5
theorem sc_all_letters : FnScope ["signs"] ["signs"] (defScope s_all_letters) := ⟨rfl, rfl, rfl, by decide +kernel, rfl, by decide +kernel, by decide +kernel⟩
def az (c : Nat) : Bool := decide (97 ≤ c) && decide (c ≤ 122)
def vAz : V → V
  | .str z => .bl (z.cps.toList.all az)
  | _ => .non
theorem lt1 (a b : Nat) : decide ([a] < [b]) = decide (a < b) := by
  by_cases h : a < b
  · rw [decide_eq_true h, decide_eq_true (List.cons_lt_cons_iff.mpr (.inl h))]
  · rw [decide_eq_false h, decide_eq_false]
    intro z
    rcases List.cons_lt_cons_iff.mp z with z | ⟨_, z⟩
    · exact h z
    · exact List.lt_irrefl _ z
theorem low_az {l : List Nat} (h : Low l) : l.all az = true := by
  rw [List.all_eq_true]
  intro c hc
  have := h c hc
  unfold az
  rw [decide_eq_true (show 97 ≤ c by omega), decide_eq_true (show c ≤ 122 by omega)]
  rfl
def spAllL : Sp := fun vs H Q _ => ∃ l, vs = [.str (S l)] ∧ l.length ≤ 1000 ∧ ∀ H', Same H H' → Q (.bl (l.all az)) H'
section
variable {P : Program} {w : World} {K : PySem.W.Frag} {mg : Str → Option Value} {base : Heap} {f g : Addr} {fd gd : FuncData}
theorem okAllL (F : Fun K "all_letters" "all_letters" s_all_letters f fd) (m_all : mg "all" = none) : FnOk P w K mg base CX0 1 f fd ["signs"] spAllL := by
  refine F.ok sc_all_letters (fun vs H Q E h => ?_) (fun cdv A outer s H vs Q E hr h => ?_)
  · obtain ⟨l, rfl, _⟩ := h
    rfl
  obtain ⟨l, rfl, hl, q⟩ := h
  refine ⟨_, pss_one (ps_ret (pe_callB (call_all rfl) rfl m_all PyProof.Rows.boot_all (pa_cons (pe_comp (N := ["signs"]) (N' := ["sign"]) (ix := [none]) (fsc := defScope s_all_letters) (by exact ⟨rfl, by decide +kernel, by decide +kernel, by decide +kernel, by decide +kernel, rfl⟩) rfl (pi_str (pv 0))
      (fun _ _ _ _ _ => pg_name (i := 0) (show (["sign"] : List Str).Nodup by decide +kernel) rfl (Or.inl rfl)) (fun _ _ _ _ _ => pts_nil) (fun _ _ _ _ _ => pe_chain op_leS op_leS (pe_strS (l := [97]) rfl) (pv 0) (pe_strS (l := [122]) rfl))) pa_nil))), ?_⟩
  refine ⟨_, rfl, l, rfl, fun D hD => ?_⟩
  refine comp_map (fun _ => true) vAz (fun x => [some x]) hD (by rw [List.length_map]; exact small (by omega)) (itis_str l) (fun _ _ => trivial) ?_ (fun i x H K _ _ k => k H (Same.refl H)) ?_ ?_
  · rintro i x σ H K _ (rfl | ⟨z, rfl⟩) _ k
    · exact k
    · exact k
  · intro i x H K hx _ _ k
    rw [List.getElem?_map] at hx
    cases hc : l[i]? with
    | none => rw [hc] at hx; cases hx
    | some c =>
      rw [hc] at hx
      cases hx
      have k0 := k H (Same.refl H)
      have e : vAz (.str (S [c])) = .bl (az c) := by
        show V.bl (List.all [c] az) = _
        simp
      rw [e] at k0
      refine ⟨_, rfl, [97], [c], rfl, rfl, _, rfl, ?_⟩
      show if (!decide ([c] < [97])) = true then _ else _
      rw [lt1]
      refine ite2 (fun h => ?_) (fun h => ?_)
      · refine ⟨[c], [122], rfl, rfl, ?_⟩
        have h' : ¬ c < 97 := by simpa using h
        show K (.bl (!decide ([122] < [c]))) H
        rw [lt1]
        have e2 : az c = !decide (122 < c) := by
          unfold az
          rw [decide_eq_true (show 97 ≤ c by omega), Bool.true_and]
          by_cases z : c ≤ 122
          · rw [decide_eq_true z, decide_eq_false (by omega)]; rfl
          · rw [decide_eq_false z, decide_eq_true (by omega)]; rfl
        rw [← e2]
        exact k0
      · have h' : c < 97 := by simpa using h
        have e2 : az c = false := by
          unfold az
          rw [decide_eq_false (show ¬ 97 ≤ c by omega), Bool.false_and]
        rw [e2] at k0
        exact k0
  · intro H' g' e
    refine ⟨D, l.map az, rfl, SqL.of ?_, ?_⟩
    · rw [e, List.filter_eq_self.mpr fun _ _ => rfl, List.map_map, List.map_map]
      congr 2
      refine List.map_congr_left fun c _ => ?_
      show V.bl (List.all [c] az) = V.bl (az c)
      simp
    · have e2 : ((l.map az).all fun b => b) = l.all az := by rw [List.all_map]; rfl
      rw [e2]
      exact q H' g'
end
end K31
namespace K31
open PySem L2
abbrev s_turnings : Stmt := top 8
theorem sc_turnings : FnScope ["text"] ["text"] (defScope s_turnings) := ⟨rfl, rfl, rfl, by decide +kernel, rfl, by decide +kernel, by decide +kernel⟩
abbrev s_packed : Stmt := top 7
theorem sc_packed : FnScope ["text", "ordered", "last"] ["text"] (defScope s_packed) := ⟨rfl, rfl, rfl, by decide +kernel, rfl, by decide +kernel, by decide +kernel⟩
abbrev s_walked_back : Stmt := top 10
theorem sc_walked_back : FnScope ["last", "place", "further", "letters", "row", "step"] ["last", "place"] (defScope s_walked_back) := ⟨rfl, rfl, rfl, by decide +kernel, rfl, by decide +kernel, by decide +kernel⟩
def posT : Pos := match defBody s_walked_back with
  | [_, .Assign _ (.Call _ _ [⟨_, .Lambda _ _ _ lp, _⟩] _) _, _, _, _, _] => lp
  | _ => default
abbrev qT : Str := "walked_back.<locals>.<lambda>"
abbrev TabOk (Tb : Addr) (H : Hp) : Prop := TblOk Tb posT qT H
abbrev SameL (Tb : Addr) (H H' : Hp) : Prop := SameB Tb posT qT H H'
def spTurns : Sp := fun vs H Q _ => ∃ t, vs = [.str (S t)] ∧ t.length ≤ 24 ∧ ∀ D H', Same H H' → H' D = some (.lst (strsV (MP.turns t))) → Q (.ref D) H'
def spWalk (Tb : Addr) : Sp := fun vs H Q _ => ∃ (l : List Nat) (p : Int), vs = [.str (S l), .int p] ∧ l.length ≤ 24 ∧ TabOk Tb H ∧ (p < 0 ∨ (l.length : Int) ≤ p → Q (.str (S [])) H) ∧ (0 ≤ p → p < (l.length : Int) → ∀ zs H', MQ.IsStab l zs → SameL Tb H H' → Q (.str (S (MQ.walk l zs p.toNat l.length))) H')
theorem iteF' {b : Bool} {P Q : Prop} (h : b = false) (q : Q) : if b = true then P else Q := by subst h; exact q
theorem iteT' {b : Bool} {P Q : Prop} (h : b = true) (q : P) : if b = true then P else Q := by subst h; exact q
theorem flat_last (rows : List (List Nat)) : (rows.map fun r => [MP.lastC r]).flatten = MP.lastOf rows := by
  unfold MP.lastOf
  induction rows with
  | nil => rfl
  | cons x r ih => rw [List.map_cons, List.flatten_cons, ih]; rfl
theorem flat_one (l : List Nat) : (l.map fun c => [c]).flatten = l := by
  induction l with
  | nil => rfl
  | cons x r ih => rw [List.map_cons, List.flatten_cons, ih]; rfl
theorem at_getD {t : List Nat} {i : Nat} (h : i < t.length) : atI t (i : Int) = some (t.getD i 0) := by
  rw [atI_nat (List.getElem?_eq_getElem h), List.getD_eq_getElem?_getD, List.getElem?_eq_getElem h]
  rfl
theorem rows_nil : MP.IsRows [] [] := ⟨List.Perm.refl _, .nil⟩
section
variable {P : Program} {w : World} {K : PySem.W.Frag} {mg : Str → Option Value} {base : Heap} {f g c Tb : Addr} {fd gd : FuncData}
set_option maxHeartbeats 4000000 in
theorem okTurns (F : Fun K "turnings" "turnings" s_turnings f fd) (m_len : mg "len" = none) (m_range : mg "range" = none) : FnOk P w K mg base CX0 1 f fd ["text"] spTurns := by
  refine F.ok sc_turnings (fun vs H Q E h => ?_) (fun cdv A outer s H vs Q E hr h => ?_)
  · obtain ⟨t, rfl, _⟩ := h
    rfl
  obtain ⟨t, rfl, ht, q⟩ := h
  refine ⟨_, pss_one (ps_ret (pe_comp (N := ["text"]) (N' := ["place", "text"]) (ix := [none, some 0]) (fsc := defScope s_turnings) (by exact ⟨rfl, by decide +kernel, by decide +kernel, by decide +kernel, by decide +kernel, rfl⟩) rfl (pi_range1 rfl m_range (pa_cons (pe_callB call_lenS rfl m_len PySem.boot_len (pa_cons (pv 0) pa_nil)) pa_nil))
      (fun _ _ _ _ _ => pg_name (i := 0) (show (["place", "text"] : List Str).Nodup by decide +kernel) rfl (Or.inl rfl)) (fun _ _ _ _ _ => pts_nil) (fun _ _ _ _ _ => pe_op op_addS (pe_slice sl_str (pv 1) (po_some (pv 0)) po_none) (pe_slice sl_str (pv 1) po_none (po_some (pv 0)))))), ?_⟩
  refine ⟨_, rfl, t, rfl, small (by omega), _, rfl, by omega, by omega, fun D hD => ?_⟩
  rw [Int.toNat_natCast]
  refine comp_zs (itis_range 0 _) (fun _ => true) (fun i => .str (S (MP.turn t i))) (fun i => [some (.int (0 + (i : Int))), some (.str (S t))]) hD (by rw [List.length_range]; exact small (by omega)) (fun _ _ => trivial) ?_ ?_ ?_ ?_
  · rintro z σ H K _ (rfl | ⟨y, rfl⟩) _ k
    · exact k
    · exact k
  · intro z H2 K hz hS k1
    exact k1 H2 (Same.refl H2)
  · intro z H2 K hz _ hS k1
    refine ⟨_, rfl, _, rfl, _, rfl, t, rfl, small (by omega), _, rfl, _, rfl, _, rfl, t, rfl, small (by omega), _, _, rfl, rfl, ?_, ?_⟩
    · have b1 := cutL_length t (some (0 + (z : Int))) none
      have b2 := cutL_length t none (some (0 + (z : Int)))
      exact small (by omega)
    · rw [Int.zero_add, cut_tail, cut_head]
      exact k1 H2 (Same.refl H2)
  intro H2 g2 e2
  rw [List.filter_eq_self.mpr fun _ _ => rfl] at e2
  exact q D H2 g2 (by rw [e2, strsV, MP.turns, List.map_map]; rfl)
set_option maxHeartbeats 4000000 in
theorem okPacked (F : Fun K "packed" "packed" s_packed f fd) (C_turnings : Cal P w K mg base 1 "turnings" ["text"] spTurns) (m_sorted : mg "sorted" = none) : FnOk P w K mg base CX0 2 f fd ["text"] spPacked := by
  refine F.ok sc_packed (fun vs H Q E h => ?_) (fun cdv A outer s H vs Q E hr h => ?_)
  · obtain ⟨t, rfl, _⟩ := h
    rfl
  obtain ⟨t, rfl, ht, hL, q⟩ := h
  refine ⟨_, pss_cons (ps_if (pt_cmpR op_eqS (pv 0) (pe_strS (l := []) rfl) (nomark _)) (pss_one (ps_ret (pe_tup (pa_cons (pe_strS (l := []) rfl) (pa_cons (pe_int) pa_nil))))) (pss_nil))
    (pss_cons (ps_set (i := 1) sc_packed.nd rfl (Or.inl rfl) (pe_callB (call_sortedSK K) rfl m_sorted PyProof.Rows.boot_sorted (pa_cons (pe_own C_turnings hr rfl (pa_cons (pv 0) pa_nil)) pa_nil)))
    (pss_cons (ps_set (i := 2) sc_packed.nd rfl (Or.inl rfl) (pe_bmK K PySem.F.plainAttrs_str PySem.F.slot_str_join PySem.F.type_str_join (mt_join0K K) (pe_strS (l := []) rfl) (pa_cons (pe_comp (N := ["text", "ordered", "last"]) (N' := ["turning"]) (ix := [none]) (fsc := defScope s_packed) (by exact ⟨rfl, by decide +kernel, by decide +kernel, by decide +kernel, by decide +kernel, rfl⟩) rfl (pi_list (pv 1))
      (fun _ _ _ _ _ => pg_name (i := 0) (show (["turning"] : List Str).Nodup by decide +kernel) rfl (Or.inl rfl)) (fun _ _ _ _ _ => pts_nil) (fun _ _ _ _ _ => pe_ix ix_strS (pv 0) (pe_un un_neg (pe_int)) (fun _ _ => rfl))) pa_nil)))
    (pss_one (ps_ret (pe_tup (pa_cons (pv 2) (pa_cons (pe_bmK K PySem.F.plainAttrs_list PySem.F.slot_list_index PySem.F.type_list_index (mt_indexSK K) (pv 1) (pa_cons (pv 0) pa_nil)) pa_nil))))))), ?_⟩
  refine ⟨_, rfl, t, [], rfl, rfl, _, rfl, ?_⟩
  refine ite2 (fun e => ?_) (fun e => ?_)
  · obtain rfl : t = [] := of_decide_eq_true e
    exact ⟨(by show 2 ≤ sizeLine; exact small (by omega)), fun pt hpt => q [] pt _ rows_nil (same_new hpt _) upd_same⟩
  have hne : t ≠ [] := of_decide_eq_false (Bool.eq_false_iff.mpr e)
  refine ⟨_, rfl, t, rfl, ht, fun D H2 g2 h2 => ?_⟩
  refine ⟨D, MP.turns t, rfl, .inl (SqL.of h2), fun p rows hp perm ord => ?_⟩
  have hR : MP.IsRows t rows := ⟨perm, ord⟩
  have hlen := hR.len
  have g3 := g2.trans (same_new hp (.lst (strsV rows)))
  have h3 : upd H2 p (.lst (strsV rows)) p = some (.lst (strsV rows)) := upd_same
  generalize upd H2 p (.lst (strsV rows)) = H3 at g3 h3 ⊢
  refine ⟨rfl, _, rfl, p, rfl, ⟨_, SqL.of h3⟩, fun D2 hD2 => ?_⟩
  refine comp_zs (zs := rows) (fx := fun r => V.str (S r)) (itis_list p _) (fun _ => true) (fun r => .str (S [MP.lastC r])) (fun r => [some (.str (S r))]) hD2 (small (by omega)) (fun H' gg => SqL.of (gg _ _ h3)) ?_ ?_ ?_ ?_
  · rintro z σ H K _ (rfl | ⟨y, rfl⟩) _ k
    · exact k
    · exact k
  · intro z H4 K hz hS k1
    exact k1 H4 (Same.refl H4)
  · intro z H4 K hz _ hS k1
    have hr := hR.row hz
    have hz0 : z ≠ [] := fun e => by
      rw [e] at hr
      have := hr.1
      have h0 : 0 < t.length := List.length_pos_iff.mpr hne
      simp at this
      omega
    exact ⟨_, rfl, _, rfl, z, _, MP.lastC z, rfl, rfl, small (by omega), at_last hz0, k1 H4 (Same.refl H4)⟩
  intro H4 g4 e4
  rw [List.filter_eq_self.mpr fun _ _ => rfl] at e4
  refine ⟨D2, rows.map fun r => [MP.lastC r], rfl, rfl, .inl (SqL.of (by rw [e4, strsV, List.map_map]; rfl)), ?_, ?_⟩
  · rw [flat_last]; unfold MP.lastOf; rw [List.length_map]; omega
  rw [flat_last]
  have h4 := g4 _ _ h3
  obtain ⟨f1, f2⟩ := MP.placeOf_first hR.ord (MP.self_mem hR hne)
  refine ⟨_, rfl, _, rfl, .inl ⟨rfl, _, SqL.of h4⟩, _, rfl, p, rows, t, MP.placeOf t rows, rfl, rfl, SqL.of h4, by omega, f1, f2, ?_⟩
  exact ⟨(by show 2 ≤ sizeLine; exact small (by omega)), fun pt hpt => q rows pt _ hR ((g3.trans g4).trans (same_new hpt _)) upd_same⟩
set_option maxHeartbeats 4000000 in
theorem okWalk (F : Fun K "walked_back" "walked_back" s_walked_back f fd) (hcode : fd.code = .ref c) (CH : PySem.W.CodeHd base c Tb) (bm : BM mg base) (m_len : mg "len" = none) (m_range : mg "range" = none) (m_sorted : mg "sorted" = none) :
    FnOk P w K mg base CX0 4 f fd ["last", "place"] (spWalk Tb) := by
  refine F.okC sc_walked_back (fun vs H Q E h => ?_) (fun cdv A outer s H vs Q E hcv hr h => ?_)
  · obtain ⟨l, p, rfl, _⟩ := h
    rfl
  obtain ⟨l, p, rfl, hl, tb, q0, q1⟩ := h
  have hcd : cdv = .ref c := hcv.symm.trans hcode
  refine ⟨_, pss_cons (ps_if (PW.pt (pw_or (pt_cmpR op_lt (pv 1) (pe_int) (nomark _)) (pw_or1 (pt_cmpR op_ge (pv 1) (pe_callB call_lenS rfl m_len PySem.boot_len (pa_cons (pv 0) pa_nil)) (nomark _))))) (pss_one (ps_ret (pe_strS (l := []) rfl))) (pss_nil))
    (pss_cons (ps_set (i := 2) sc_walked_back.nd rfl (Or.inl rfl) (pe_sortLam (N := ["last", "place", "further", "letters", "row", "step"]) (N' := ["row", "last"]) (ix := [none, some 0]) (fsc := defScope s_walked_back) (pn := "row") (q := "walked_back.<locals>.<lambda>") rfl m_sorted rfl (hr.mono (by decide)) (pa_cons (pe_callTy call_rangeO1 rfl m_range PyProof.Rows.boot_range (pa_cons (pe_callB call_lenS rfl m_len PySem.boot_len (pa_cons (pv 0) pa_nil)) pa_nil)) pa_nil)
      (by exact ⟨rfl, rfl, rfl, by decide +kernel, by decide +kernel, by decide +kernel, rfl, by decide +kernel⟩) hcd CH bm (fun _ _ _ _ _ _ => pe_ix ix_strS (pv 1) (pv 0) (fun _ _ => rfl))))
    (pss_cons (ps_set (i := 3) sc_walked_back.nd rfl (Or.inl rfl) (pe_lst (pa_nil)))
    (pss_cons (ps_set (i := 4) sc_walked_back.nd rfl (Or.inl rfl) (pv 1))
    (pss_cons (ps_for PassesOwn.never rfl (pi_range1 rfl m_range (pa_cons (pe_callB call_lenS rfl m_len PySem.boot_len (pa_cons (pv 0) pa_nil)) pa_nil)) (pg_name (i := 5) sc_walked_back.nd rfl (Or.inl rfl))
      (pss_cons (ps_set (i := 4) sc_walked_back.nd rfl (Or.inl rfl) (pe_ix (ix_listK K) (pv 2) (pv 4) (fun _ _ => rfl)))
    (pss_one (ps_expr (pe_bm PySem.F.plainAttrs_list PySem.F.slot_list_append PySem.F.type_list_append mt_append (pv 3) (pa_cons (pe_ix ix_strS (pv 0) (pv 4) (fun _ _ => rfl)) pa_nil))))))
    (pss_one (ps_ret (pe_bmK K PySem.F.plainAttrs_str PySem.F.slot_str_join PySem.F.type_str_join (mt_join0K K) (pe_strS (l := []) rfl) (pa_cons (pv 3) pa_nil)))))))), ?_⟩
  refine ⟨_, rfl, _, _, rfl, rfl, _, rfl, ?_⟩
  refine ite2 (fun c1 => ?_) (fun c1 => ?_)
  · exact q0 (.inl (of_decide_eq_true c1))
  have c1' : ¬ p < 0 := of_decide_eq_false (Bool.eq_false_iff.mpr c1)
  refine ⟨_, rfl, _, rfl, l, rfl, small (by omega), _, _, rfl, rfl, _, rfl, ?_⟩
  refine ite2 (fun c2 => ?_) (fun c2 => ?_)
  · exact q0 (.inr (of_decide_eq_true c2))
  have c2' : ¬ (l.length : Int) ≤ p := of_decide_eq_false (Bool.eq_false_iff.mpr c2)
  refine ⟨_, rfl, l, rfl, small (by omega), _, rfl, fun pr hpr => ?_⟩
  refine ⟨pr, l.length, fun i => [l.getD i 0], rfl, upd_same, by omega, (same_new hpr _).b.tab tb, fun H2 g2 => ⟨fun i hi => ?_, fun D zs hD perm ord => ?_⟩⟩
  · exact ⟨_, rfl, _, rfl, l, _, l.getD i 0, rfl, rfl, small (by omega), at_getD hi, rfl, rfl⟩
  have hZ : MQ.IsStab l zs := ⟨perm, ord⟩
  have hzl := hZ.len
  refine ⟨Nat.zero_le _, fun Ls hLs => ?_⟩
  refine ⟨_, rfl, ?_⟩
  refine ⟨_, rfl, l, rfl, small (by omega), _, rfl, by omega, by omega, ?_⟩
  rw [Int.toNat_natCast]
  have g3 : SameL Tb H (upd (upd H2 D (.lst (zs.map fun (k : Nat) => V.int k))) Ls (.lst [])) := (((same_new hpr _).b.trans g2).upd hD _).upd hLs _
  have hDz : upd (upd H2 D (.lst (zs.map fun (k : Nat) => V.int k))) Ls (.lst []) D = some (.lst (zs.map fun (k : Nat) => V.int k)) := (same_new hLs _) _ _ upd_same
  have hD0 : (upd H2 D (.lst (zs.map fun (k : Nat) => V.int k))) D = some (.lst (zs.map fun (k : Nat) => V.int k)) := upd_same
  generalize hH3 : upd H2 D (.lst (zs.map fun (k : Nat) => V.int k)) = H3 at g3 hDz hLs hD0 ⊢
  have pn : p = ((p.toNat : Nat) : Int) := by omega
  have hp : p.toNat < l.length := by omega
  refine for_range (fun i σ H' => SameL Tb H H' ∧ H' D = some (.lst (zs.map fun (k : Nat) => V.int k)) ∧ H' Ls = some (.lst (strsV ((MQ.walk l zs p.toNat i).map fun c => [c]))) ∧ ∃ o, σ = [some (.str (S l)), some (.int p), some (.ref D), some (.ref Ls), some (.int ((MQ.rowAt zs p.toNat i : Nat) : Int)), o])
    ⟨g3, hDz, upd_same, none, (show [some (V.str (S l)), some (V.int p), some (V.ref D), some (V.ref Ls), some (V.int p), none] = [some (V.str (S l)), some (V.int p), some (V.ref D), some (V.ref Ls), some (V.int ((p.toNat : Nat) : Int)), none] by rw [← pn])⟩ ?_ ?_
  · rintro i σ H4 hi ⟨g4, d4, l4, o, rfl⟩
    have r1 := MQ.rowAt_lt hZ hp i
    have r2 := MQ.rowAt_lt hZ hp (i + 1)
    have e1 : atI (zs.map fun (k : Nat) => V.int k) ((MQ.rowAt zs p.toNat i : Nat) : Int) = some (.int ((MQ.rowAt zs p.toNat (i + 1) : Nat) : Int)) := by
      refine atI_nat ?_
      rw [List.getElem?_map, List.getElem?_eq_getElem (by omega)]
      show some (V.int ((zs[MQ.rowAt zs p.toNat i] : Nat) : Int)) = some (V.int ((zs.getD (MQ.rowAt zs p.toNat i) 0 : Nat) : Int))
      rw [List.getD_eq_getElem?_getD, List.getElem?_eq_getElem (by omega)]
      rfl
    refine ⟨_, rfl, _, rfl, D, _, _, _, rfl, rfl, SqL.of d4, e1, ?_⟩
    refine ⟨_, rfl, .inl ⟨rfl, _, SqL.of l4⟩, _, rfl, _, rfl, l, _, l.getD (MQ.rowAt zs p.toNat (i + 1)) 0, rfl, rfl, small (by omega), at_getD r2, Ls, _, _, rfl, rfl, l4, ?_, ?_⟩
    · unfold strsV; rw [List.length_map, List.length_map, MQ.walk_len, sizeLine_eq]; omega
    have ne : D ≠ Ls := fun z => by rw [z] at hD0; rw [hLs] at hD0; cases hD0
    refine ⟨?_, ?_, ?_, _, rfl⟩
    · have hnone : H Ls = none := (((same_new hpr (RngO pr 0 (l.length : Int))).b (P := Tb) (pos := posT) (q := qT)).trans g2).free (by
        cases e : H2 Ls with
        | none => rfl
        | some u =>
          have : H3 Ls = some u := by rw [← hH3]; exact (same_new hD _) _ _ e
          rw [hLs] at this
          cases this)
      refine ⟨fun b ob e n => by rw [upd_ne (ne_of_none e hnone)]; exact g4.keep b ob e n, fun t => ?_, fun {b} e => ?_⟩
      · obtain ⟨ps, a1, a2, a3⟩ := g4.tab t
        refine ⟨ps, by rw [upd_ne (ne_of a1 l4 fun z => nomatch z)]; exact a1, a2, a3.elim .inl fun ⟨c', x, y⟩ => .inr ⟨c', x, by rw [upd_ne (ne_of y l4 fun z => nomatch z)]; exact y⟩⟩
      · by_cases z : b = Ls
        · rw [z]; exact hnone
        · rw [upd_ne z] at e; exact g4.free e
    · rw [upd_ne ne]; exact d4
    · rw [upd_same, MQ.walk_step, List.map_append]
      unfold strsV
      rw [List.map_append]
      rfl
  · rintro σ H4 ⟨g4, d4, l4, o, rfl⟩
    refine ⟨rfl, _, rfl, Ls, (MQ.walk l zs p.toNat l.length).map fun c => [c], rfl, rfl, .inl (SqL.of l4), ?_, ?_⟩
    · rw [flat_one, MQ.walk_len]; omega
    rw [flat_one]
    exact q1 (by omega) (by omega) zs H4 hZ g4
end
end K31
namespace K31
open PySem L2
abbrev s_unpacked : Stmt := top 9
theorem sc_unpacked : FnScope ["last", "place", "text"] ["last", "place"] (defScope s_unpacked) := ⟨rfl, rfl, rfl, by decide +kernel, rfl, by decide +kernel, by decide +kernel⟩
/-- the pair of t is (l, p) -/
def PairOf (t l : List Nat) (p : Int) : Prop := ∃ rows, MP.IsRows t rows ∧ MP.lastOf rows = l ∧ ((MP.placeOf t rows : Nat) : Int) = p
theorem pair_eq {t l : List Nat} {p : Int} {rows : List (List Nat)} (h : MP.IsRows t rows) : eqVs (packV t rows) [.str (S l), .int p] = true ↔ PairOf t l p := by
  have a : eqV (.str (S (MP.lastOf rows))) (.str (S l)) = decide (MP.lastOf rows = l) := by show (S _ == S _) = _; exact S_beq _ _
  have b : eqV (.int (MP.placeOf t rows : Nat)) (.int p) = decide (((MP.placeOf t rows : Nat) : Int) = p) := by
    show (((MP.placeOf t rows : Nat) : Int) == p) = _
    rw [Bool.eq_iff_iff, beq_iff_eq, decide_eq_true_eq]
  unfold packV
  simp only [eqVs, a, b, Bool.and_true, Bool.and_eq_true, decide_eq_true_eq]
  constructor
  · rintro ⟨x, y⟩
    exact ⟨rows, h, x, y⟩
  · rintro ⟨rows', h', x, y⟩
    rw [h.uniq h']
    exact ⟨x, y⟩
def spUnpackedE (Tb C : Addr) : Sp := fun vs H Q E => ∃ (l : List Nat) (p : Int), vs = [.str (S l), .int p] ∧ l.length ≤ 24 ∧ Low l ∧ TabOk Tb H ∧
  (∀ t H', t.length ≤ 24 → Low t → PairOf t l p → SameL Tb H H' → Q (.str (S t)) H') ∧ ((∀ t, ¬ PairOf t l p) → ∀ ea H', SameL Tb H H' → E (.ref ea) (some C) H')
theorem walk_mem {l zs : List Nat} {p k : Nat} (hZ : MQ.IsStab l zs) (hp : p < l.length) {c : Nat} (hc : c ∈ MQ.walk l zs p k) : c ∈ l := by
  obtain ⟨i, _, rfl⟩ := List.mem_map.mp hc
  have := MQ.rowAt_lt hZ hp (i + 1)
  rw [List.getD_eq_getElem?_getD, List.getElem?_eq_getElem this]
  exact List.getElem_mem _
theorem pair_out {t l : List Nat} {p : Int} (h : PairOf t l p) (ho : p < 0 ∨ (l.length : Int) ≤ p) : t = [] := by
  obtain ⟨rows, hR, rfl, rfl⟩ := h
  by_cases e : t = []
  · exact e
  · have h1 := MQ.place_lt hR e
    have h2 := MQ.last_len hR
    omega
theorem pair_in {t l zs : List Nat} {p : Int} (h : PairOf t l p) (hZ : MQ.IsStab l zs) (h0 : 0 ≤ p) (h1 : p < (l.length : Int)) : t = MQ.walk l zs p.toNat l.length := by
  obtain ⟨rows, hR, rfl, rfl⟩ := h
  have h2 := MQ.last_len hR
  have e : t ≠ [] := fun z => by rw [z] at h2; simp only [List.length_nil] at h2; omega
  have w := MQ.walk_text hR hZ e
  rw [Int.toNat_natCast, h2, w]
section
variable {P : Program} {w : World} {K : PySem.W.Frag} {mg : Str → Option Value} {base : Heap} {f g c Tb A_NoPack : Addr} {fd gd : FuncData}
set_option maxHeartbeats 4000000 in
theorem okUnpackedE (F : Fun K "unpacked" "unpacked" s_unpacked f fd) (C_walked_back : Cal P w K mg base 4 "walked_back" ["last", "place"] (spWalk Tb)) (C_all_letters : Cal P w K mg base 1 "all_letters" ["signs"] spAllL) (C_packed : Cal P w K mg base 2 "packed" ["text"] spPacked)
    (O_NoPack : PyProof.Rows.OwnCls "NoPack" A_NoPack [.type "ValueError", .type "Exception", .type "BaseException", .type "object"] "ValueError.__new__" mg base) : FnOk P w K mg base (CXE P w) 5 f fd ["last", "place"] (spUnpackedE Tb A_NoPack) := by
  refine F.okE sc_unpacked (fun vs H Q E h => ?_) (fun cdv A outer s H vs Q E hr h => ?_)
  · obtain ⟨l, p, rfl, _⟩ := h
    rfl
  obtain ⟨l, p, rfl, hl, hL, tb, qv, qe⟩ := h
  obtain ⟨tr, prr, rr⟩ : ∃ tr, PSs (cxOf (CXE P w) P w K mg base ["last", "place", "text"] "unpacked" (defScope s_unpacked) f cdv A outer s H E) ((defBody s_unpacked).drop 1) tr ∧
      ∀ t H2, t.length ≤ 24 → Low t → SameL Tb H H2 → (∀ t', PairOf t' l p → t' = t) → tr { nx := fun _ H' => Q .non H', rt := Q } [some (.str (S l)), some (.int p), some (.str (S t))] H2 := by
    refine ⟨_, pss_cons (ps_if (PW.pt (pw_or (pt_not (pt_val (pe_own C_all_letters hr rfl (pa_cons (pv 0) pa_nil)))) (pw_or1 (pt_cmpR (op_neTK K (hu0 hr)) (pe_own C_packed hr rfl (pa_cons (pv 2) pa_nil)) (pe_tup (pa_cons (pv 0) (pa_cons (pv 1) pa_nil))) (nomark _))))) (pss_one (ps_raise O_NoPack PySem.F.excBase_ValueError rfl (pa_cons (pe_strS (l := [116, 104, 101, 32, 112, 97, 105, 114, 32, 111, 102, 32, 110, 111, 32, 116, 101, 120, 116]) rfl) pa_nil))) (pss_nil))
    (pss_one (ps_ret (pv 2))), fun t H2 ht hLt g2 un => ?_⟩
    refine ⟨_, rfl, l, rfl, by omega, fun H3 g3 => ?_⟩
    refine ⟨_, rfl, ?_⟩
    rw [low_az hL]
    refine iteF ?_
    refine ⟨_, rfl, t, rfl, ht, hLt, fun rows pk H4 hR g4 h4 => ?_⟩
    refine ⟨_, rfl, _, rfl, (by show 2 ≤ sizeLine; exact small (by omega)), fun pt hpt => ?_⟩
    have h4' := (same_new hpt (.tup [.str (S l), .int p])) _ _ h4
    have g5 : SameL Tb H (upd H4 pt (.tup [.str (S l), .int p])) := (g2.trans (g3.trans g4).b).upd hpt _
    refine ⟨pk, pt, packV t rows, [.str (S l), .int p], rfl, rfl, SqT.of h4', SqT.of upd_same, rfl, rfl, _, rfl, ?_⟩
    by_cases e : PairOf t l p
    · rw [(pair_eq hR).mpr e]
      refine iteF ?_
      exact ⟨_, rfl, qv t _ ht hLt e g5⟩
    · have e' : eqVs (packV t rows) [.str (S l), .int p] = false := Bool.eq_false_iff.mpr fun z => e ((pair_eq hR).mp z)
      rw [e']
      refine iteT ?_
      refine ⟨(by show 1 ≤ sizeLine; exact small (by omega)), fun ea => qe (fun t' h' => ?_) ea _ g5⟩
      have := un t' h'
      subst this
      exact e h'
  refine ⟨_, pss_cons (ps_set (i := 2) sc_unpacked.nd rfl (Or.inl rfl) (pe_own C_walked_back hr rfl (pa_cons (pv 0) (pa_cons (pv 1) pa_nil))))
    (prr), ?_⟩
  refine ⟨_, rfl, _, rfl, l, p, rfl, hl, tb, fun h0 => ?_, fun h0 h1 zs H2 hZ g2 => ?_⟩
  · exact rr [] H (by simp) (fun c hc => by cases hc) SameB.refl fun t' h' => pair_out h' h0
  · exact rr _ H2 (by rw [MQ.walk_len]; exact hl) (fun c hc => hL c (walk_mem hZ (by omega) hc)) g2 fun t' h' => pair_in h' hZ h0 h1
end
end K31
namespace K31
open PySem L2
abbrev s__law_told : Stmt := top 16
theorem sc__law_told : FnScope ["_law_last", "_law_place", "_law_found", "e", "_law_good"] ["_law_last", "_law_place"] (defScope s__law_told) := ⟨rfl, rfl, rfl, by decide +kernel, rfl, by decide +kernel, by decide +kernel⟩
abbrev s__law_mingled : Stmt := top 17
theorem sc__law_mingled : FnScope ["_law_letters", "_law_found", "_law_at"] ["_law_letters"] (defScope s__law_mingled) := ⟨rfl, rfl, rfl, by decide +kernel, rfl, by decide +kernel, by decide +kernel⟩
abbrev s__law_packed : Stmt := top 18
theorem sc__law_packed : FnScope ["_law_text_here", "_law_rows", "_law_last", "_law_row"] ["_law_text_here"] (defScope s__law_packed) := ⟨rfl, rfl, rfl, by decide +kernel, rfl, by decide +kernel, by decide +kernel⟩
abbrev s_law : Stmt := top 19
theorem sc_law : FnScope ["_law_script", "_law_number", "_law_last", "_law_place", "_law_found"] ["_law_script"] (defScope s_law) := ⟨rfl, rfl, rfl, by decide +kernel, rfl, by decide +kernel, by decide +kernel⟩
theorem boot_VE : bootBuiltins "ValueError" = some (.type "ValueError") := by decide +kernel
def spTold (Tb : Addr) : Sp := fun vs H Q _ => ∃ (l : List Nat) (p : Int), vs = [.str (S l), .int p] ∧ l.length ≤ 24 ∧ Low l ∧ TabOk Tb H ∧
  (∀ t H', t.length ≤ 24 → Low t → PairOf t l p → SameL Tb H H' → Q (.str (S t)) H') ∧ ((∀ t, ¬ PairOf t l p) → ∀ H', SameL Tb H H' → Q .non H')
section
variable {P : Program} {w : World} {K : PySem.W.Frag} {mg : Str → Option Value} {base : Heap} {f g c Tb A_NoPack A_TailError A_NoMachine : Addr} {fd gd : FuncData}
set_option maxHeartbeats 4000000 in
theorem okTold (F : Fun K "_law_told" "_law_told" s__law_told f fd) (C_unpacked : CalE P w K mg base 5 "unpacked" ["last", "place"] (spUnpackedE Tb A_NoPack))
    (O_NoPack : PyProof.Rows.OwnCls "NoPack" A_NoPack [.type "ValueError", .type "Exception", .type "BaseException", .type "object"] "ValueError.__new__" mg base) (X_NoPack : ExcCls K A_NoPack) (M_TailError : mg "TailError" = some (.ref A_TailError)) (M_NoMachine : mg "NoMachine" = some (.ref A_NoMachine))
    (k1 : PySem.W.kitOne K (.ref A_NoPack) (.ref A_TailError) = some true) (k2 : PySem.W.kitOne K (.ref A_NoPack) (.type "ValueError") = some true) (k3 : PySem.W.kitOne K (.ref A_NoPack) (.ref A_NoMachine) = some false)
    (m_int : mg "int" = none) (m_isinstance : mg "isinstance" = none) (m_ValueError : mg "ValueError" = none) : FnOk P w K mg base CX0 6 f fd ["_law_last", "_law_place"] (spTold Tb) := by
  refine F.ok sc__law_told (fun vs H Q E h => ?_) (fun cdv A outer s H vs Q E hr h => ?_)
  · obtain ⟨l, p, rfl, _⟩ := h
    rfl
  obtain ⟨l, p, rfl, hl, hL, tb, qv, qe⟩ := h
  refine ⟨_, pss_cons (ps_try (i := 3) rfl rfl O_NoPack (by decide) sc__law_told.nd rfl rfl rfl (fun pn EH E hp => pss_one (ps_set (i := 2) sc__law_told.nd rfl (Or.inl rfl) (pe_ownE C_unpacked hr rfl hp (pa_cons (pv 0) (pa_cons (pv 1) pa_nil))))) (fun ea => pss_cons (ps_set (i := 4) sc__law_told.nd rfl (Or.inl rfl) (pe_and (pe_callB (call_isiEK K) rfl m_isinstance PyProof.Rows.boot_isinstance (pa_cons (pv 3) (pa_cons (pe_glob (v := .ref A_TailError) rfl M_TailError rfl) pa_nil))) (pe_and (pe_callB (call_isiEK K) rfl m_isinstance PyProof.Rows.boot_isinstance (pa_cons (pv 3) (pa_cons (pe_bltn (v := .ty "ValueError") rfl m_ValueError boot_VE rfl) pa_nil))) (pe_one (pe_not (pe_callB (call_isiEK K) rfl m_isinstance PyProof.Rows.boot_isinstance (pa_cons (pv 3) (pa_cons (pe_glob (v := .ref A_NoMachine) rfl M_NoMachine rfl) pa_nil))))))))
    (pss_one (ps_ret (pe_ix (ix_listK K) (pe_lst (pa_cons (pe_int) (pa_cons (pe_non) pa_nil))) (pe_callTy call_int1 rfl m_int PyProof.Rows.boot_int (pa_cons (pv 4) pa_nil)) (fun _ _ => rfl))))))
    (pss_one (ps_ret (pe_ix (ix_listK K) (pe_lst (pa_cons (pv 2) (pa_cons (pe_int) pa_nil))) (pe_callTy call_int1 rfl m_int PyProof.Rows.boot_int (pa_cons (pe_cmpR op_isN (pv 2) (pe_non) (nomark _)) pa_nil)) (fun _ _ => rfl)))), ?_⟩
  refine ⟨_, rfl, _, rfl, l, p, rfl, hl, hL, tb, fun t H2 ht hLt hp g2 => ?_, fun no ea H2 g2 => ⟨rfl, ea, rfl, fun σ hσ hn => ?_⟩⟩
  · refine ⟨_, rfl, (by show 2 ≤ sizeLine; exact small (by omega)), fun pl hpl => ?_⟩
    refine ⟨_, rfl, rfl, .inr ⟨_, rfl, ?_⟩⟩
    refine ⟨pl, _, _, _, rfl, rfl, SqL.of upd_same, rfl, ?_⟩
    exact qv t _ ht hLt hp (g2.upd hpl _)
  · have hl5 : σ.length = 5 := hσ
    have e0 : (σ.set 3 (some (V.ref ea)))[3]? = some (some (V.ref ea)) := List.getElem?_set_self (by omega)
    have hx : upd H2 ea (ExcO ea A_NoPack) ea = some (ExcO ea A_NoPack) := upd_same
    refine ⟨_, e0, ea, A_NoPack, true, .ref A_TailError, rfl, hx, X_NoPack, (fun z => nomatch z), (fun u r => r), k1, true, rfl, iteT ?_⟩
    refine ⟨_, e0, ea, A_NoPack, true, .ty "ValueError", rfl, hx, X_NoPack, (fun z => nomatch z), (fun u r => r), k2, true, rfl, iteT ?_⟩
    refine ⟨_, e0, ea, A_NoPack, false, .ref A_NoMachine, rfl, hx, X_NoPack, (fun z => nomatch z), (fun u r => r), k3, false, rfl, ?_⟩
    have e1 : ((σ.set 3 (some (V.ref ea))).set 4 (some (V.bl true)))[4]? = some (some (V.bl true)) := List.getElem?_set_self (by rw [List.length_set]; omega)
    refine ⟨(by show 2 ≤ sizeLine; exact small (by omega)), fun pl hpl => ?_⟩
    refine ⟨_, e1, .inr ⟨_, rfl, ?_⟩⟩
    refine ⟨pl, _, _, _, rfl, rfl, SqL.of upd_same, rfl, ?_⟩
    exact qe no _ ((g2.upd hn _).upd hpl _)
end
def fac : Nat → Nat
  | 0 => 1
  | n + 1 => (n + 1) * fac n
theorem fac_le : ∀ n, n ≤ 5 → fac n ≤ 120
  | 0, _ => by decide
  | 1, _ => by decide
  | 2, _ => by decide
  | 3, _ => by decide
  | 4, _ => by decide
  | 5, _ => by decide
  | n + 6, h => by omega
def spMing (n : Nat) : Sp := fun vs H Q _ => ∃ l : List Nat, vs = [.str (S l)] ∧ l.length ≤ n ∧ n ≤ 5 ∧
  ∀ D (xs : List (List Nat)) H', Same H H' → H' D = some (.lst (strsV xs)) → (∀ x ∈ xs, x.length = l.length ∧ ∀ c ∈ x, c ∈ l) → xs.length ≤ fac l.length → Q (.ref D) H'
def spLPacked : Sp := fun vs H Q _ => ∃ t, vs = [.str (S t)] ∧ t.length ≤ 24 ∧ ∀ rows p H', MP.IsRows t rows → Same H H' → H' p = some (.tup (packV t rows)) → Q (.ref p) H'
theorem cut_from (t : List Nat) (k : Nat) : cutL t (some ((k : Int) + 1)) none = t.drop (k + 1) := by
  rw [show ((k : Nat) : Int) + 1 = ((k + 1 : Nat) : Int) by omega, cut_tail]
section
variable {P : Program} {w : World} {K : PySem.W.Frag} {mg : Str → Option Value} {base : Heap} {f g c Tb A_NoPack A_TailError A_NoMachine : Addr} {fd gd : FuncData}
set_option maxHeartbeats 4000000 in
theorem okMing0 (F : Fun K "_law_mingled" "_law_mingled" s__law_mingled f fd) : FnOk P w K mg base CX0 1 f fd ["_law_letters"] (spMing 0) := by
  refine F.ok sc__law_mingled (fun vs H Q E h => ?_) (fun cdv A outer s H vs Q E hr h => ?_)
  · obtain ⟨l, rfl, _⟩ := h
    rfl
  obtain ⟨l, rfl, hl, _, q⟩ := h
  obtain rfl : l = [] := List.length_eq_zero_iff.mp (by omega)
  refine ⟨_, pss_cons (ps_if (pt_cmpR op_eqS (pv 0) (pe_strS (l := []) rfl) (nomark _)) (pss_one (ps_ret (pe_lst (pa_cons (pe_strS (l := []) rfl) pa_nil)))) (pss_nil))
    (pss_never), ?_⟩
  refine ⟨_, rfl, [], [], rfl, rfl, _, rfl, iteT' rfl ?_⟩
  exact ⟨(by show 1 ≤ sizeLine; exact small (by omega)), fun pl hpl => q pl [[]] _ (same_new hpl _) upd_same (fun x hx => by rw [List.mem_singleton.mp hx]; exact ⟨rfl, fun c hc => hc⟩) (Nat.le_refl 1)⟩
set_option maxHeartbeats 4000000 in
theorem okMing1 {n : Nat} (F : Fun K "_law_mingled" "_law_mingled" s__law_mingled f fd) (C__law_mingled : Cal P w K mg base (n + 1) "_law_mingled" ["_law_letters"] (spMing n)) (m_len : mg "len" = none) (m_range : mg "range" = none) :
    FnOk P w K mg base CX0 (n + 1 + 1) f fd ["_law_letters"] (spMing (n + 1)) := by
  refine F.ok sc__law_mingled (fun vs H Q E h => ?_) (fun cdv A outer s H vs Q E hr h => ?_)
  · obtain ⟨l, rfl, _⟩ := h
    rfl
  obtain ⟨l, rfl, hl, hn5, q⟩ := h
  refine ⟨_, pss_cons (ps_if (pt_cmpR op_eqS (pv 0) (pe_strS (l := []) rfl) (nomark _)) (pss_one (ps_ret (pe_lst (pa_cons (pe_strS (l := []) rfl) pa_nil)))) (pss_nil))
    (pss_cons (ps_set (i := 1) sc__law_mingled.nd rfl (Or.inl rfl) (pe_lst (pa_nil)))
    (pss_cons (ps_for PassesOwn.never rfl (pi_range1 rfl m_range (pa_cons (pe_callB call_lenS rfl m_len PySem.boot_len (pa_cons (pv 0) pa_nil)) pa_nil)) (pg_name (i := 2) sc__law_mingled.nd rfl (Or.inr rfl))
      (pss_one (ps_set (i := 1) sc__law_mingled.nd rfl (Or.inl rfl) (pe_op op_cat (pv 1) (pe_comp (N := ["_law_letters", "_law_found", "_law_at"]) (N' := ["_law_rest", "_law_letters", "_law_at"]) (ix := [none, some 0, some 2]) (fsc := defScope s__law_mingled) (by exact ⟨rfl, by decide +kernel, by decide +kernel, by decide +kernel, by decide +kernel, rfl⟩) rfl (pi_list (pe_own C__law_mingled hr rfl (pa_cons (pe_op op_addS (pe_slice sl_str (pv 0) po_none (po_some (pv 2))) (pe_slice sl_str (pv 0) (po_some (pe_op op_add (pv 2) (pe_int))) po_none)) pa_nil)))
      (fun _ _ _ _ _ => pg_name (i := 0) (show (["_law_rest", "_law_letters", "_law_at"] : List Str).Nodup by decide +kernel) rfl (Or.inl rfl)) (fun _ _ _ _ _ => pts_nil) (fun _ _ _ _ _ => pe_op op_addS (pe_ix ix_strS (pv 1) (pv 2) (fun _ _ => rfl)) (pv 0)))))))
    (pss_one (ps_ret (pv 1))))), ?_⟩
  refine ⟨_, rfl, l, [], rfl, rfl, _, rfl, ?_⟩
  refine ite2 (fun e => ?_) (fun e => ?_)
  · obtain rfl : l = [] := of_decide_eq_true e
    exact ⟨(by show 1 ≤ sizeLine; exact small (by omega)), fun pl hpl => q pl [[]] _ (same_new hpl _) upd_same (fun x hx => by rw [List.mem_singleton.mp hx]; exact ⟨rfl, fun c hc => hc⟩) (Nat.le_refl 1)⟩
  have hne : l ≠ [] := of_decide_eq_false (Bool.eq_false_iff.mpr e)
  have h0 : 0 < l.length := List.length_pos_iff.mpr hne
  refine ⟨Nat.zero_le _, fun D0 hD0 => ?_⟩
  refine ⟨_, rfl, l, rfl, small (by omega), _, rfl, by omega, by omega, ?_⟩
  rw [Int.toNat_natCast]
  have f120 := fac_le (l.length - 1) (by omega)
  refine for_range (fun i σ H' => Same H H' ∧ ∃ D xs o, σ = [some (.str (S l)), some (.ref D), o] ∧ H' D = some (.lst (strsV xs)) ∧ (∀ x ∈ xs, x.length = l.length ∧ ∀ c ∈ x, c ∈ l) ∧ xs.length ≤ i * fac (l.length - 1))
    ⟨same_new hD0 _, D0, [], none, rfl, upd_same, (fun x hx => by cases hx), Nat.zero_le _⟩ ?_ ?_
  · rintro i σ H1 hi ⟨g1, D, xs, o, rfl, hD, hxs, hlen⟩
    rw [Int.zero_add]
    have b1 := cutL_length l none (some (i : Int))
    have b2 := cutL_length l (some ((i : Int) + 1)) none
    refine ⟨_, rfl, _, rfl, _, rfl, _, rfl, l, rfl, small (by omega), _, rfl, _, rfl, _, _, rfl, rfl, _, rfl, l, rfl, small (by omega), _, _, rfl, rfl, small (by omega), ?_⟩
    rw [cut_head, cut_from]
    have ll : (l.take i ++ l.drop (i + 1)).length = l.length - 1 := by rw [List.length_append, List.length_take, List.length_drop]; omega
    refine ⟨l.take i ++ l.drop (i + 1), rfl, by omega, by omega, fun D2 ys H2 g2 h2 hys hyl => ?_⟩
    rw [ll] at hyl
    refine ⟨D2, rfl, ⟨_, SqL.of h2⟩, fun D3 hD3 => ?_⟩
    refine comp_zs (zs := ys) (fx := fun r => V.str (S r)) (itis_list D2 _) (fun _ => true) (fun r => .str (S ([l.getD i 0] ++ r))) (fun r => [some (.str (S r)), some (.str (S l)), some (.int (i : Int))]) hD3 (small (by omega)) (fun H' gg => SqL.of (gg _ _ h2)) ?_ ?_ ?_ ?_
    · rintro z σ H K _ (rfl | ⟨y, rfl⟩) _ k
      · exact k
      · exact k
    · intro z H3 K hz hS k1
      exact k1 H3 (Same.refl H3)
    · intro z H3 K hz _ hS k1
      have := (hys z hz).1
      exact ⟨_, rfl, _, rfl, l, _, l.getD i 0, rfl, rfl, small (by omega), at_getD (by omega), _, rfl, [l.getD i 0], z, rfl, rfl, small (by rw [List.length_singleton]; omega), k1 H3 (Same.refl H3)⟩
    intro H3 g3 e3
    rw [List.filter_eq_self.mpr fun _ _ => rfl] at e3
    have e3' : H3 D3 = some (.lst (strsV (ys.map fun r => [l.getD i 0] ++ r))) := by rw [e3, strsV, List.map_map]; rfl
    have hD' := g3 _ _ (g2 _ _ hD)
    refine ⟨D, D3, _, _, rfl, rfl, hD', e3', ?_, fun pl hpl => ?_⟩
    · unfold strsV
      rw [List.length_map, List.length_map, List.length_map, sizeLine_eq]
      have : i * fac (l.length - 1) ≤ 5 * 120 := Nat.mul_le_mul (by omega) f120
      omega
    refine ⟨(g1.trans (g2.trans g3)).trans (same_new hpl _), pl, xs ++ ys.map (fun r => [l.getD i 0] ++ r), _, rfl, ?_, fun x hx => ?_, ?_⟩
    · rw [upd_same]
      unfold strsV
      rw [List.map_append]
    · rcases List.mem_append.mp hx with hx | hx
      · exact hxs x hx
      · obtain ⟨r, hr, rfl⟩ := List.mem_map.mp hx
        obtain ⟨r1, r2⟩ := hys r hr
        refine ⟨by rw [List.length_append, List.length_singleton]; omega, fun c hc => ?_⟩
        rcases List.mem_append.mp hc with hc | hc
        · rw [List.mem_singleton.mp hc, List.getD_eq_getElem?_getD, List.getElem?_eq_getElem (by omega)]
          exact List.getElem_mem _
        · rcases List.mem_append.mp (r2 c hc) with z | z
          · exact List.mem_of_mem_take z
          · exact List.mem_of_mem_drop z
    · rw [List.length_append, List.length_map, Nat.add_mul, Nat.one_mul]
      omega
  · rintro σ H1 ⟨g1, D, xs, o, rfl, hD, hxs, hlen⟩
    refine ⟨_, rfl, q D xs H1 g1 hD hxs ?_⟩
    obtain ⟨m, hm⟩ : ∃ m, l.length = m + 1 := ⟨l.length - 1, by omega⟩
    rw [hm] at hlen ⊢
    exact hlen
theorem okMing (F : Fun K "_law_mingled" "_law_mingled" s__law_mingled f fd) (b : Binds K fd ["_law_letters"] []) (k : PySem.W.keepIn K (.ref f) = true) (M : mg "_law_mingled" = some (.ref f)) (m_len : mg "len" = none) (m_range : mg "range" = none) :
    ∀ n, FnOk P w K mg base CX0 (n + 1) f fd ["_law_letters"] (spMing n)
  | 0 => okMing0 F
  | n + 1 => okMing1 F (Cal.mk' (okMing F b k M m_len m_range n) b k M) m_len m_range
set_option maxHeartbeats 4000000 in
theorem okLPacked (F : Fun K "_law_packed" "_law_packed" s__law_packed f fd) (m_len : mg "len" = none) (m_range : mg "range" = none) (m_sorted : mg "sorted" = none) : FnOk P w K mg base CX0 1 f fd ["_law_text_here"] spLPacked := by
  refine F.ok sc__law_packed (fun vs H Q E h => ?_) (fun cdv A outer s H vs Q E hr h => ?_)
  · obtain ⟨t, rfl, _⟩ := h
    rfl
  obtain ⟨t, rfl, ht, q⟩ := h
  refine ⟨_, pss_cons (ps_set (i := 1) sc__law_packed.nd rfl (Or.inl rfl) (pe_callB (call_sortedSK K) rfl m_sorted PyProof.Rows.boot_sorted (pa_cons (pe_comp (N := ["_law_text_here", "_law_rows", "_law_last", "_law_row"]) (N' := ["_law_place", "_law_text_here"]) (ix := [none, some 0]) (fsc := defScope s__law_packed) (by exact ⟨rfl, by decide +kernel, by decide +kernel, by decide +kernel, by decide +kernel, rfl⟩) rfl (pi_range1 rfl m_range (pa_cons (pe_callB call_lenS rfl m_len PySem.boot_len (pa_cons (pv 0) pa_nil)) pa_nil))
      (fun _ _ _ _ _ => pg_name (i := 0) (show (["_law_place", "_law_text_here"] : List Str).Nodup by decide +kernel) rfl (Or.inl rfl)) (fun _ _ _ _ _ => pts_nil) (fun _ _ _ _ _ => pe_op op_addS (pe_slice sl_str (pv 1) (po_some (pv 0)) po_none) (pe_slice sl_str (pv 1) po_none (po_some (pv 0))))) pa_nil)))
    (pss_cons (ps_set (i := 2) sc__law_packed.nd rfl (Or.inl rfl) (pe_strS (l := []) rfl))
    (pss_cons (ps_for PassesOwn.never rfl (pi_list (pv 1)) (pg_name (i := 3) sc__law_packed.nd rfl (Or.inl rfl))
      (pss_one (ps_set (i := 2) sc__law_packed.nd rfl (Or.inl rfl) (pe_op op_addS (pv 2) (pe_ix ix_strS (pv 3) (pe_un un_neg (pe_int)) (fun _ _ => rfl))))))
    (pss_one (ps_ret (pe_tup (pa_cons (pv 2) (pa_cons (pe_callB (call_len_seqK K) rfl m_len PySem.boot_len (pa_cons (pe_comp (N := ["_law_text_here", "_law_rows", "_law_last", "_law_row"]) (N' := ["_law_row", "_law_text_here"]) (ix := [none, some 0]) (fsc := defScope s__law_packed) (by exact ⟨rfl, by decide +kernel, by decide +kernel, by decide +kernel, by decide +kernel, rfl⟩) rfl (pi_list (pv 1))
      (fun _ _ _ _ _ => pg_name (i := 0) (show (["_law_row", "_law_text_here"] : List Str).Nodup by decide +kernel) rfl (Or.inl rfl)) (fun _ _ _ _ _ => pts_one (pt_cmpR op_ltS (pv 0) (pv 1) (nomark _))) (fun _ _ _ _ _ => pv 0)) pa_nil)) pa_nil))))))), ?_⟩
  refine ⟨_, rfl, t, rfl, small (by omega), _, rfl, by omega, by omega, fun D hD => ?_⟩
  rw [Int.toNat_natCast]
  refine comp_zs (itis_range 0 _) (fun _ => true) (fun i => .str (S (MP.turn t i))) (fun i => [some (.int (0 + (i : Int))), some (.str (S t))]) hD (by rw [List.length_range]; exact small (by omega)) (fun _ _ => trivial) ?_ ?_ ?_ ?_
  · rintro z σ H K _ (rfl | ⟨y, rfl⟩) _ k
    · exact k
    · exact k
  · intro z H2 K hz hS k1
    exact k1 H2 (Same.refl H2)
  · intro z H2 K hz _ hS k1
    refine ⟨_, rfl, _, rfl, _, rfl, t, rfl, small (by omega), _, rfl, _, rfl, _, rfl, t, rfl, small (by omega), _, _, rfl, rfl, ?_, ?_⟩
    · have b1 := cutL_length t (some (0 + (z : Int))) none
      have b2 := cutL_length t none (some (0 + (z : Int)))
      exact small (by omega)
    · rw [Int.zero_add, cut_tail, cut_head]
      exact k1 H2 (Same.refl H2)
  intro H2 g2 e2
  rw [List.filter_eq_self.mpr fun _ _ => rfl] at e2
  refine ⟨D, MP.turns t, rfl, .inl (SqL.of (by rw [e2, strsV, MP.turns, List.map_map]; rfl)), fun p rows hp perm ord => ?_⟩
  have hR : MP.IsRows t rows := ⟨perm, ord⟩
  have hlen := hR.len
  have g2' := g2.trans (same_new hp (.lst (strsV rows)))
  have h2' : upd H2 p (.lst (strsV rows)) p = some (.lst (strsV rows)) := upd_same
  generalize upd H2 p (.lst (strsV rows)) = H2' at g2' h2' ⊢
  refine ⟨_, rfl, p, rfl, ⟨_, SqL.of h2'⟩, ?_⟩
  refine for_is (itis_list p _) (fun i σ H' => Same H2' H' ∧ ∃ o, σ = [some (.str (S t)), some (.ref p), some (.str (S (MP.lastOf (rows.take i)))), o]) ⟨Same.refl _, _, rfl⟩ (fun i σ H' _ z => SqL.of (z.1 _ _ h2')) ?_ ?_
  · rintro i x σ H3 hx ⟨g3, o4, rfl⟩
    have hi : i < rows.length := by have := (List.getElem?_eq_some_iff.mp hx).1; rwa [List.length_map] at this
    rw [List.getElem?_map, List.getElem?_eq_getElem hi] at hx
    cases hx
    have hr := hR.row (List.getElem_mem hi)
    have hne : rows[i] ≠ [] := fun e => by rw [e] at hr; have := hr.1; simp at this; omega
    refine ⟨_, rfl, _, rfl, _, rfl, rows[i], _, MP.lastC rows[i], rfl, rfl, small (by omega), at_last hne, _, _, rfl, rfl, ?_, ?_⟩
    · unfold MP.lastOf
      rw [List.length_map, List.length_take, List.length_singleton]
      exact small (by omega)
    · refine ⟨g3, some (.str (S rows[i])), ?_⟩
      have : MP.lastOf (rows.take (i + 1)) = MP.lastOf (rows.take i) ++ [MP.lastC rows[i]] := by
        unfold MP.lastOf
        rw [List.take_add_one, List.getElem?_eq_getElem hi, List.map_append]
        rfl
      rw [this]
      rfl
  rintro σ H3 ⟨g3, o4, rfl⟩
  rw [List.length_map, List.take_length]
  have hp3 := g3 _ _ h2'
  refine ⟨_, rfl, _, rfl, p, rfl, ⟨_, SqL.of hp3⟩, fun D2 hD2 => ?_⟩
  refine comp_zs (zs := rows) (fx := fun r => V.str (S r)) (itis_list p _) (fun r => decide (r < t)) (fun r => .str (S r)) (fun r => [some (.str (S r)), some (.str (S t))]) hD2 (small (by omega)) (fun H' gg => SqL.of (gg _ _ hp3)) ?_ ?_ ?_ ?_
  · rintro z σ H K _ (rfl | ⟨y, rfl⟩) _ k
    · exact k
    · exact k
  · intro z H4 K hz hS k1
    exact ⟨_, rfl, _, rfl, _, _, rfl, rfl, _, rfl, k1 H4 (Same.refl H4)⟩
  · intro z H4 K hz _ hS k1
    exact ⟨_, rfl, k1 H4 (Same.refl H4)⟩
  intro H4 g4 e4
  refine ⟨D2, _, rfl, .inl (SqL.of e4), ?_⟩
  rw [List.length_map]
  exact ⟨(by show 2 ≤ sizeLine; exact small (by omega)), fun pt hpt => q rows pt _ hR ((g2'.trans (g3.trans g4)).trans (same_new hpt _)) upd_same⟩
def spLaw (K : PySem.W.Frag) (Tb : Addr) : Sp := fun vs H Q _ => ∃ (a : Addr) (ns : List Int), vs = [.ref a] ∧ SqL K H a (ns.map V.int) ∧ ns.length ≤ 63 ∧ TabOk Tb H ∧ ∀ H', Q (.bl true) H'
set_option maxHeartbeats 8000000 in
theorem okLaw (F : Fun K "law" "law" s_law f fd) (C__law_mixed : Cal P w K mg base 2 "_law_mixed" ["_law_script", "_law_k"] (spMixed K)) (C__law_text : Cal P w K mg base 2 "_law_text" ["_law_number", "_law_most"] spText)
    (C__law_told : Cal P w K mg base 6 "_law_told" ["_law_last", "_law_place"] (spTold Tb)) (C__law_mingled : Cal P w K mg base 6 "_law_mingled" ["_law_letters"] (spMing 5)) (C__law_packed : Cal P w K mg base 1 "_law_packed" ["_law_text_here"] spLPacked)
    (C_packed : Cal P w K mg base 2 "packed" ["text"] spPacked) (m_len : mg "len" = none) (m_isinstance : mg "isinstance" = none) (m_str : mg "str" = none) :
    FnOk P w K mg base CX0 41 f fd ["_law_script"] (spLaw K Tb) := by
  refine F.ok sc_law (fun vs H Q E h => ?_) (fun cdv A outer s H vs Q E hr h => ?_)
  · obtain ⟨a, ns, rfl, _⟩ := h
    rfl
  obtain ⟨a, ns, rfl, hS, h63, tb, q⟩ := h
  refine ⟨_, pss_cons (ps_set (i := 1) sc_law.nd rfl (Or.inl rfl) (pe_own C__law_mixed hr rfl (pa_cons (pv 0) (pa_cons (pe_int) pa_nil))))
    (pss_cons (ps_set (i := 2) sc_law.nd rfl (Or.inr rfl) (pe_own C__law_text hr rfl (pa_cons (pe_own C__law_mixed hr rfl (pa_cons (pv 0) (pa_cons (pe_int) pa_nil))) (pa_cons (pe_ix (ix_tupK K) (pe_tup (pa_cons (pe_int) (pa_cons (pe_int) pa_nil))) (pe_op op_mod (pv 1) (pe_int)) (fun _ _ => rfl)) pa_nil))))
    (pss_cons (ps_set (i := 3) sc_law.nd rfl (Or.inr rfl) (pe_op op_sub (pe_op op_mod (pe_op op_fdiv (pv 1) (pe_int)) (pe_op op_add (pe_callB call_lenS rfl m_len PySem.boot_len (pa_cons (pv 2) pa_nil)) (pe_int))) (pe_int)))
    (pss_cons (ps_set (i := 4) sc_law.nd rfl (Or.inl rfl) (pe_own C__law_told hr rfl (pa_cons (pv 2) (pa_cons (pv 3) pa_nil))))
    (pss_cons (ps_if (pt_cmpR op_isN (pv 4) (pe_non) (nomark _)) (pss_cons (ps_if (pt_cmpR op_gt (pe_callB call_lenS rfl m_len PySem.boot_len (pa_cons (pv 2) pa_nil)) (pe_int) (nomark _)) (pss_one (ps_ret (pe_bl))) (pss_nil))
    (pss_one (ps_ret (pe_cmpR (op_eqLK K (hu0 hr)) (pe_comp (N := ["_law_script", "_law_number", "_law_last", "_law_place", "_law_found"]) (N' := ["_law_text_here", "_law_last", "_law_place"]) (ix := [none, some 2, some 3]) (fsc := defScope s_law) (by exact ⟨rfl, by decide +kernel, by decide +kernel, by decide +kernel, by decide +kernel, rfl⟩) rfl (pi_list (pe_own C__law_mingled hr rfl (pa_cons (pv 2) pa_nil)))
      (fun _ _ _ _ _ => pg_name (i := 0) (show (["_law_text_here", "_law_last", "_law_place"] : List Str).Nodup by decide +kernel) rfl (Or.inl rfl)) (fun _ _ _ _ _ => pts_one (pt_cmpR (op_eqTK K (hu0 hr)) (pe_own C__law_packed hr rfl (pa_cons (pv 0) pa_nil)) (pe_tup (pa_cons (pv 1) (pa_cons (pv 2) pa_nil))) (nomark _))) (fun _ _ _ _ _ => pv 0)) (pe_lst (pa_nil)) (nomark _))))) (pss_nil))
    (pss_one (ps_ret (pe_and (pe_callB (call_isiK K) rfl m_isinstance PyProof.Rows.boot_isinstance (pa_cons (pv 4) (pa_cons (pe_bltn (v := .ty "str") rfl m_str PyProof.Rows.boot_str rfl) pa_nil))) (pe_and (pe_cmpR (op_eqTK K (hu0 hr)) (pe_own C__law_packed hr rfl (pa_cons (pv 4) pa_nil)) (pe_tup (pa_cons (pv 2) (pa_cons (pv 3) pa_nil))) (nomark _)) (pe_one (pe_cmpR (op_eqTK K (hu0 hr)) (pe_own C_packed hr rfl (pa_cons (pv 4) pa_nil)) (pe_tup (pa_cons (pv 2) (pa_cons (pv 3) pa_nil))) (nomark _))))))))))), ?_⟩
  refine ⟨_, rfl, a, ns, 1, rfl, hS, h63, by decide, by decide, fun n n0 n1 => ?_⟩
  refine ⟨_, rfl, a, ns, 0, rfl, hS, h63, by decide, by decide, fun v v0 v1 => ?_⟩
  refine ⟨(by show 2 ≤ sizeLine; exact small (by omega)), fun p0 hp0 => ?_⟩
  obtain ⟨m, hm, em⟩ : ∃ m : Int, (m = 5 ∨ m = 12) ∧ atI [V.int 5, V.int 12] (n % 2) = some (V.int m) := by
    rcases Int.emod_two_eq n with e | e
    · rw [e]; exact ⟨5, .inl rfl, rfl⟩
    · rw [e]; exact ⟨12, .inr rfl, rfl⟩
  refine ⟨_, rfl, _, _, rfl, rfl, (by show (0 : Int) < _; decide), p0, _, _, _, rfl, rfl, SqT.of upd_same, em, ?_⟩
  refine ⟨v, m, rfl, v0, v1, by omega, by omega, fun l H1 g1 hl hL => ?_⟩
  have hl24 : l.length ≤ 24 := by omega
  refine ⟨_, rfl, _, _, rfl, rfl, ⟨by decide, by decide⟩, _, rfl, l, rfl, small (by omega), _, _, rfl, rfl, _, _, rfl, rfl, by omega, _, _, rfl, rfl, ?_⟩
  generalize hv : (fun i j => V.int (i - j)) (n / 2 % ((l.length : Int) + 3)) 1 = vp
  obtain ⟨p, rfl⟩ : ∃ p, vp = V.int p := ⟨_, hv.symm⟩
  have gA : SameL Tb H H1 := (same_new hp0 _).b.trans g1.b
  refine ⟨_, rfl, _, rfl, l, p, rfl, hl24, hL, gA.tab tb, fun t H2 ht hLt hp g2 => ?_, fun no H2 g2 => ?_⟩
  · refine ⟨_, rfl, rfl, _, rfl, ?_⟩
    refine iteF' (decide_eq_false (fun z => nomatch z)) ?_
    refine ⟨_, rfl, _, "str", _, true, rfl, .str _, kit_str_str, true, rfl, iteT ?_⟩
    refine ⟨_, rfl, t, rfl, ht, fun rows pk H3 hR g3 h3 => ?_⟩
    refine ⟨_, rfl, _, rfl, (by show 2 ≤ sizeLine; exact small (by omega)), fun pt hpt => ?_⟩
    have h3' := (same_new hpt (.tup [.str (S l), .int p])) _ _ h3
    refine ⟨pk, pt, packV t rows, [.str (S l), .int p], rfl, rfl, SqT.of h3', SqT.of upd_same, rfl, rfl, ?_⟩
    rw [(pair_eq hR).mpr hp]
    refine ⟨true, rfl, iteT ?_⟩
    refine ⟨_, rfl, t, rfl, ht, hLt, fun rows' pk' H4 hR' g4 h4 => ?_⟩
    refine ⟨_, rfl, _, rfl, (by show 2 ≤ sizeLine; exact small (by omega)), fun pt' hpt' => ?_⟩
    have h4' := (same_new hpt' (.tup [.str (S l), .int p])) _ _ h4
    refine ⟨pk', pt', packV t rows', [.str (S l), .int p], rfl, rfl, SqT.of h4', SqT.of upd_same, rfl, rfl, ?_⟩
    rw [(pair_eq hR').mpr hp]
    exact q _
  · refine ⟨_, rfl, rfl, _, rfl, ?_⟩
    refine iteT' (decide_eq_true rfl) ?_
    refine ⟨_, rfl, l, rfl, small (by omega), _, _, rfl, rfl, _, rfl, ?_⟩
    refine ite2 (fun _ => q _) (fun c => ?_)
    have c' : ¬ (l.length : Int) > 5 := of_decide_eq_false (Bool.eq_false_iff.mpr c)
    refine ⟨_, rfl, l, rfl, by omega, Nat.le_refl 5, fun D xs H3 g3 h3 hx hxl => ?_⟩
    have f120 := fac_le l.length (by omega)
    refine ⟨D, rfl, ⟨_, SqL.of h3⟩, fun D2 hD2 => ?_⟩
    refine comp_zs (zs := xs) (fx := fun r => V.str (S r)) (itis_list D _) (fun _ => false) (fun r => .str (S r)) (fun r => [some (.str (S r)), some (.str (S l)), some (.int p)]) hD2 (small (by omega)) (fun H' gg => SqL.of (gg _ _ h3)) ?_ ?_ ?_ ?_
    · rintro z σ H K _ (rfl | ⟨y, rfl⟩) _ k
      · exact k
      · exact k
    · intro z H4 K hz hS k1
      have hzl := (hx z hz).1
      refine ⟨_, rfl, z, rfl, by omega, fun rows pk H5 hR g5 h5 => ?_⟩
      refine ⟨_, rfl, _, rfl, (by show 2 ≤ sizeLine; exact small (by omega)), fun pt hpt => ?_⟩
      have h5' := (same_new hpt (.tup [.str (S l), .int p])) _ _ h5
      refine ⟨pk, pt, packV z rows, [.str (S l), .int p], rfl, rfl, SqT.of h5', SqT.of upd_same, rfl, rfl, _, rfl, ?_⟩
      have e' : eqVs (packV z rows) [.str (S l), .int p] = false := Bool.eq_false_iff.mpr fun w => no z ((pair_eq hR).mp w)
      rw [e']
      exact k1 _ (g5.trans (same_new hpt _))
    · intro z H4 K hz hh
      cases hh
    · intro H4 g4 e4
      rw [List.filter_eq_nil_iff.mpr fun _ _ => by simp] at e4
      refine ⟨Nat.zero_le _, fun e2 he2 => ?_⟩
      refine ⟨D2, e2, [], [], rfl, rfl, SqL.of ((same_new he2 _) _ _ e4), SqL.of upd_same, rfl, rfl, ?_⟩
      exact q _
end
end K31
namespace K31
open PySem L2
theorem all_mk {l : PySem.W.OpenLaw} {w : World} {K : PySem.W.Frag} {h : Heap} {mg : Str → Option Value} {fa f1 f2 f3 f4 f5 f6 f7 f8 f9 f10 f11 f12 f13 : Addr}  (X : K.In h) (G : h.Ns mainGlobals mg) (hfa : mg "law" = some (.ref fa))
    {od1 an1 od2 an2 od3 an3 od4 an4 od5 an5 od6 an6 od7 an7 od8 an8 od9 an9 od10 an10 od11 an11 od12 an12 od13 an13 : Option Addr} {sl1 sl2 sl3 sl4 sl5 sl6 sl7 sl8 sl9 sl10 sl11 sl12 sl13 : Array (Option Value)} {oc1 kV1 dc1 pm1 cd1 ct1 oc2 kV2 dc2 pm2 cd2 ct2 oc3 kV3 dc3 pm3 cd3 ct3 oc4 kV4 dc4 pm4 cd4 ct4 oc5 kV5 dc5 pm5 cd5 ct5 oc6 kV6 dc6 pm6 cd6 ct6 oc7 kV7 dc7 pm7 cd7 ct7 oc8 kV8 dc8 pm8 cd8 ct8 oc9 kV9 dc9 pm9 cd9 ct9 oc10 kV10 dc10 pm10 cd10 ct10 oc11 kV11 dc11 pm11 cd11 ct11 oc12 kV12 dc12 pm12 cd12 ct12 oc13 kV13 dc13 pm13 cd13 ct13 : Value}
    (a1 : PySem.W.nsIn K mainGlobals "_law_cell_at" = some (some (.ref f1))) (l1 : K.lookup f1 = some ⟨oc1, od1, .func (PySem.W.fnOf "_law_cell_at" "_law_cell_at" (defArgs sCell) (defBody sCell) (defScope sCell) .none kV1 dc1 pm1 an1 cd1 ct1), sl1⟩) (c1 : PySem.W.codeIn K cd1 "_law_cell_at" = true) (k1 : PySem.W.keepIn K (.ref f1) = true)
    (a2 : PySem.W.nsIn K mainGlobals "_law_mixed" = some (some (.ref f2))) (l2 : K.lookup f2 = some ⟨oc2, od2, .func (PySem.W.fnOf "_law_mixed" "_law_mixed" (defArgs sMixed) (defBody sMixed) (defScope sMixed) .none kV2 dc2 pm2 an2 cd2 ct2), sl2⟩) (c2 : PySem.W.codeIn K cd2 "_law_mixed" = true) (k2 : PySem.W.keepIn K (.ref f2) = true)
    (a3 : PySem.W.nsIn K mainGlobals "_law_drawn" = some (some (.ref f3))) (l3 : K.lookup f3 = some ⟨oc3, od3, .func (PySem.W.fnOf "_law_drawn" "_law_drawn" (defArgs sDrawn) (defBody sDrawn) (defScope sDrawn) .none kV3 dc3 pm3 an3 cd3 ct3), sl3⟩) (c3 : PySem.W.codeIn K cd3 "_law_drawn" = true) (k3 : PySem.W.keepIn K (.ref f3) = true)
    (a4 : PySem.W.nsIn K mainGlobals "_law_text" = some (some (.ref f4))) (l4 : K.lookup f4 = some ⟨oc4, od4, .func (PySem.W.fnOf "_law_text" "_law_text" (defArgs sText) (defBody sText) (defScope sText) .none kV4 dc4 pm4 an4 cd4 ct4), sl4⟩) (c4 : PySem.W.codeIn K cd4 "_law_text" = true) (k4 : PySem.W.keepIn K (.ref f4) = true)
    (a5 : PySem.W.nsIn K mainGlobals "all_letters" = some (some (.ref f5))) (l5 : K.lookup f5 = some ⟨oc5, od5, .func (PySem.W.fnOf "all_letters" "all_letters" (defArgs s_all_letters) (defBody s_all_letters) (defScope s_all_letters) .none kV5 dc5 pm5 an5 cd5 ct5), sl5⟩) (c5 : PySem.W.codeIn K cd5 "all_letters" = true) (k5 : PySem.W.keepIn K (.ref f5) = true)
    (a6 : PySem.W.nsIn K mainGlobals "turnings" = some (some (.ref f6))) (l6 : K.lookup f6 = some ⟨oc6, od6, .func (PySem.W.fnOf "turnings" "turnings" (defArgs s_turnings) (defBody s_turnings) (defScope s_turnings) .none kV6 dc6 pm6 an6 cd6 ct6), sl6⟩) (c6 : PySem.W.codeIn K cd6 "turnings" = true) (k6 : PySem.W.keepIn K (.ref f6) = true)
    (a7 : PySem.W.nsIn K mainGlobals "packed" = some (some (.ref f7))) (l7 : K.lookup f7 = some ⟨oc7, od7, .func (PySem.W.fnOf "packed" "packed" (defArgs s_packed) (defBody s_packed) (defScope s_packed) .none kV7 dc7 pm7 an7 cd7 ct7), sl7⟩) (c7 : PySem.W.codeIn K cd7 "packed" = true) (k7 : PySem.W.keepIn K (.ref f7) = true)
    (a8 : PySem.W.nsIn K mainGlobals "walked_back" = some (some (.ref f8))) (l8 : K.lookup f8 = some ⟨oc8, od8, .func (PySem.W.fnOf "walked_back" "walked_back" (defArgs s_walked_back) (defBody s_walked_back) (defScope s_walked_back) .none kV8 dc8 pm8 an8 cd8 ct8), sl8⟩) (c8 : PySem.W.codeIn K cd8 "walked_back" = true) (k8 : PySem.W.keepIn K (.ref f8) = true)
    (a9 : PySem.W.nsIn K mainGlobals "unpacked" = some (some (.ref f9))) (l9 : K.lookup f9 = some ⟨oc9, od9, .func (PySem.W.fnOf "unpacked" "unpacked" (defArgs s_unpacked) (defBody s_unpacked) (defScope s_unpacked) .none kV9 dc9 pm9 an9 cd9 ct9), sl9⟩) (c9 : PySem.W.codeIn K cd9 "unpacked" = true) (k9 : PySem.W.keepIn K (.ref f9) = true)
    (a10 : PySem.W.nsIn K mainGlobals "_law_told" = some (some (.ref f10))) (l10 : K.lookup f10 = some ⟨oc10, od10, .func (PySem.W.fnOf "_law_told" "_law_told" (defArgs s__law_told) (defBody s__law_told) (defScope s__law_told) .none kV10 dc10 pm10 an10 cd10 ct10), sl10⟩) (c10 : PySem.W.codeIn K cd10 "_law_told" = true) (k10 : PySem.W.keepIn K (.ref f10) = true)
    (a11 : PySem.W.nsIn K mainGlobals "_law_mingled" = some (some (.ref f11))) (l11 : K.lookup f11 = some ⟨oc11, od11, .func (PySem.W.fnOf "_law_mingled" "_law_mingled" (defArgs s__law_mingled) (defBody s__law_mingled) (defScope s__law_mingled) .none kV11 dc11 pm11 an11 cd11 ct11), sl11⟩) (c11 : PySem.W.codeIn K cd11 "_law_mingled" = true) (k11 : PySem.W.keepIn K (.ref f11) = true)
    (a12 : PySem.W.nsIn K mainGlobals "_law_packed" = some (some (.ref f12))) (l12 : K.lookup f12 = some ⟨oc12, od12, .func (PySem.W.fnOf "_law_packed" "_law_packed" (defArgs s__law_packed) (defBody s__law_packed) (defScope s__law_packed) .none kV12 dc12 pm12 an12 cd12 ct12), sl12⟩) (c12 : PySem.W.codeIn K cd12 "_law_packed" = true) (k12 : PySem.W.keepIn K (.ref f12) = true)
    (a13 : PySem.W.nsIn K mainGlobals "law" = some (some (.ref f13))) (l13 : K.lookup f13 = some ⟨oc13, od13, .func (PySem.W.fnOf "law" "law" (defArgs s_law) (defBody s_law) (defScope s_law) .none kV13 dc13 pm13 an13 cd13 ct13), sl13⟩) (c13 : PySem.W.codeIn K cd13 "law" = true) (k13 : PySem.W.keepIn K (.ref f13) = true)
    (z0 : PySem.W.nsIn K mainGlobals "str" = some none)
    (z1 : PySem.W.nsIn K mainGlobals "ValueError" = some none)
    (z2 : PySem.W.nsIn K mainGlobals "all" = some none)
    (z3 : PySem.W.nsIn K mainGlobals "len" = some none)
    (z4 : PySem.W.nsIn K mainGlobals "range" = some none)
    (z5 : PySem.W.nsIn K mainGlobals "tuple" = some none)
    (z6 : PySem.W.nsIn K mainGlobals "sorted" = some none)
    (z7 : PySem.W.nsIn K mainGlobals "int" = some none)
    (z8 : PySem.W.nsIn K mainGlobals "isinstance" = some none)
    (z9 : PySem.W.nsIn K mainGlobals "bool" = some none) {A_TailError : Addr} (aC_TailError : PySem.W.nsIn K mainGlobals "TailError" = some (some (.ref A_TailError))) {A_NoPack : Addr} (aC_NoPack : PySem.W.nsIn K mainGlobals "NoPack" = some (some (.ref A_NoPack))) {A_NoMachine : Addr} (aC_NoMachine : PySem.W.nsIn K mainGlobals "NoMachine" = some (some (.ref A_NoMachine))) {cc_NoPack : Value} {cd_NoPack : Option Addr} {cD_NoPack : ClassData} {cs_NoPack : Array (Option Value)} (cl_NoPack : K.lookup A_NoPack = some ⟨cc_NoPack, cd_NoPack, .cls cD_NoPack, cs_NoPack⟩) (xq_NoPack : PySem.W.excIn K A_NoPack [.type "ValueError", .type "Exception", .type "BaseException", .type "object"] "ValueError.__new__" = true) (ga_NoPack : PySem.W.findIn K (.ref A_NoPack) "__getattribute__" = some (some (.builtin "BaseException.__getattribute__"))) (gt_NoPack : PySem.W.findIn K (.ref A_NoPack) "__getattr__" = some none) (ca_NoPack : PySem.W.findIn K (.ref A_NoPack) "__class__" = some (some (.builtin "object.__class__"))) (gs_NoPack : PySem.W.specialIn K (.builtin "object.__class__") "__get__" = some (some (.builtin "getset_descriptor.__get__"))) (tk_NoPack : PySem.W.takesIn K (.builtin "object.__class__") = some true) (mo_NoPack : PySem.W.mroIn K A_NoPack (.type "object") = some true) (sb_NoPack : PySem.W.subIn K (.ref A_NoPack) (.type "BaseException") = some true) (kk1 : PySem.W.kitOne K (.ref A_NoPack) (.ref A_TailError) = some true) (kk2 : PySem.W.kitOne K (.ref A_NoPack) (.type "ValueError") = some true) (kk3 : PySem.W.kitOne K (.ref A_NoPack) (.ref A_NoMachine) = some false) {c0 Tb : Addr} {occ : Value} {odc : Option Addr} {vsc : Array Value} {slc : Array (Option Value)} (tc : cd8 = .ref c0) (lc : K.lookup c0 = some ⟨occ, odc, .fields vsc, slc⟩) (v11 : (vsc[11]? : Option Value) = some (.ref Tb)) (tn : K.lookup Tb = none)
    : ∃ (fd : FuncData) (c Tb : Addr), PySem.W.tabIn K "walked_back" = some (c, Tb) ∧ K.lookup Tb = none ∧ (∀ (s : Shared) (v : Value), BindsTo s fd ⟨[v], []⟩ [("_law_script", v)]) ∧ ∀ base : Heap, K.In base → base.Ns mainGlobals mg → PySem.W.CodeHd base c Tb → BM mg base → FnOk l.prog w K mg base CX0 41 fa fd ["_law_script"] (spLaw K Tb) := by
  have tb : PySem.W.tabIn K "walked_back" = some (c0, Tb) := by
    subst tc
    simp only [PySem.W.tabIn, a8, l8, lc, v11]
  have e := hfa.symm.trans (PySem.W.mg_of X G a13)
  cases e
  have F1 := fun_mk (st := sCell) l1 c1 k1
  have b__law_cell_at := F1.binds (ps := ["_law_script", "_law_k"]) fun _ _ _ _ _ _ us hl => match us, hl with | [_, _], _ => rfl
  have M__law_cell_at := PySem.W.mg_of X G a1
  have F2 := fun_mk (st := sMixed) l2 c2 k2
  have b__law_mixed := F2.binds (ps := ["_law_script", "_law_k"]) fun _ _ _ _ _ _ us hl => match us, hl with | [_, _], _ => rfl
  have M__law_mixed := PySem.W.mg_of X G a2
  have F3 := fun_mk (st := sDrawn) l3 c3 k3
  have b__law_drawn := F3.binds (ps := ["_law_number", "_law_k"]) fun _ _ _ _ _ _ us hl => match us, hl with | [_, _], _ => rfl
  have M__law_drawn := PySem.W.mg_of X G a3
  have F4 := fun_mk (st := sText) l4 c4 k4
  have b__law_text := F4.binds (ps := ["_law_number", "_law_most"]) fun _ _ _ _ _ _ us hl => match us, hl with | [_, _], _ => rfl
  have M__law_text := PySem.W.mg_of X G a4
  have F5 := fun_mk (st := s_all_letters) l5 c5 k5
  have b_all_letters := F5.binds (ps := ["signs"]) fun _ _ _ _ _ _ us hl => match us, hl with | [_], _ => rfl
  have M_all_letters := PySem.W.mg_of X G a5
  have F6 := fun_mk (st := s_turnings) l6 c6 k6
  have b_turnings := F6.binds (ps := ["text"]) fun _ _ _ _ _ _ us hl => match us, hl with | [_], _ => rfl
  have M_turnings := PySem.W.mg_of X G a6
  have F7 := fun_mk (st := s_packed) l7 c7 k7
  have b_packed := F7.binds (ps := ["text"]) fun _ _ _ _ _ _ us hl => match us, hl with | [_], _ => rfl
  have M_packed := PySem.W.mg_of X G a7
  have F8 := fun_mk (st := s_walked_back) l8 c8 k8
  have b_walked_back := F8.binds (ps := ["last", "place"]) fun _ _ _ _ _ _ us hl => match us, hl with | [_, _], _ => rfl
  have M_walked_back := PySem.W.mg_of X G a8
  have F9 := fun_mk (st := s_unpacked) l9 c9 k9
  have b_unpacked := F9.binds (ps := ["last", "place"]) fun _ _ _ _ _ _ us hl => match us, hl with | [_, _], _ => rfl
  have M_unpacked := PySem.W.mg_of X G a9
  have F10 := fun_mk (st := s__law_told) l10 c10 k10
  have b__law_told := F10.binds (ps := ["_law_last", "_law_place"]) fun _ _ _ _ _ _ us hl => match us, hl with | [_, _], _ => rfl
  have M__law_told := PySem.W.mg_of X G a10
  have F11 := fun_mk (st := s__law_mingled) l11 c11 k11
  have b__law_mingled := F11.binds (ps := ["_law_letters"]) fun _ _ _ _ _ _ us hl => match us, hl with | [_], _ => rfl
  have M__law_mingled := PySem.W.mg_of X G a11
  have F12 := fun_mk (st := s__law_packed) l12 c12 k12
  have b__law_packed := F12.binds (ps := ["_law_text_here"]) fun _ _ _ _ _ _ us hl => match us, hl with | [_], _ => rfl
  have M__law_packed := PySem.W.mg_of X G a12
  have F13 := fun_mk (st := s_law) l13 c13 k13
  have b_law := F13.binds (ps := ["_law_script"]) fun _ _ _ _ _ _ us hl => match us, hl with | [_], _ => rfl
  have M_law := PySem.W.mg_of X G a13
  have m_str := PySem.W.mg_none_of X G z0
  have m_ValueError := PySem.W.mg_none_of X G z1
  have m_all := PySem.W.mg_none_of X G z2
  have m_len := PySem.W.mg_none_of X G z3
  have m_range := PySem.W.mg_none_of X G z4
  have m_tuple := PySem.W.mg_none_of X G z5
  have m_sorted := PySem.W.mg_none_of X G z6
  have m_int := PySem.W.mg_none_of X G z7
  have m_isinstance := PySem.W.mg_none_of X G z8
  have m_bool := PySem.W.mg_none_of X G z9
  refine ⟨PySem.W.fnOf "law" "law" (defArgs s_law) (defBody s_law) (defScope s_law) .none kV13 dc13 pm13 an13 cd13 ct13, c0, Tb, tb, tn, fun s v => .of_eq rfl, fun base hKb _ CH bm => ?_⟩
  have M_TailError := PySem.W.mg_of X G aC_TailError
  have M_NoPack := PySem.W.mg_of X G aC_NoPack
  have M_NoMachine := PySem.W.mg_of X G aC_NoMachine
  have O_NoPack := own_mk hKb M_NoPack xq_NoPack
  have X_NoPack := ExcCls.mk' cl_NoPack ga_NoPack gt_NoPack ca_NoPack gs_NoPack tk_NoPack mo_NoPack sb_NoPack
  have G__law_cell_at := okCell (P := l.prog) (w := w) (base := base) F1 m_len
  have C__law_cell_at := Cal.mk' G__law_cell_at b__law_cell_at k1 M__law_cell_at
  have G__law_mixed := okMixed F2 G__law_cell_at b__law_cell_at k1 M__law_cell_at
  have C__law_mixed := Cal.mk' G__law_mixed b__law_mixed k2 M__law_mixed
  have G__law_drawn := okDrawn (P := l.prog) (w := w) (mg := mg) (base := base) F3
  have C__law_drawn := Cal.mk' G__law_drawn b__law_drawn k3 M__law_drawn
  have G__law_text := okText F4 G__law_drawn b__law_drawn k3 M__law_drawn m_len m_range
  have C__law_text := Cal.mk' G__law_text b__law_text k4 M__law_text
  have G_all_letters := okAllL (P := l.prog) (w := w) (base := base) F5 m_all
  have C_all_letters := Cal.mk' G_all_letters b_all_letters k5 M_all_letters
  have G_turnings := okTurns (P := l.prog) (w := w) (base := base) F6 m_len m_range
  have C_turnings := Cal.mk' G_turnings b_turnings k6 M_turnings
  have G_packed := okPacked F7 C_turnings m_sorted
  have C_packed := Cal.mk' G_packed b_packed k7 M_packed
  have G_walked_back := okWalk (P := l.prog) (w := w) (base := base) F8 tc CH bm m_len m_range m_sorted
  have C_walked_back := Cal.mk' G_walked_back b_walked_back k8 M_walked_back
  have G_unpacked := okUnpackedE F9 C_walked_back C_all_letters C_packed O_NoPack
  have C_unpacked : CalE l.prog w K mg base _ _ _ _ := ⟨_, _, G_unpacked, b_unpacked, k9, M_unpacked⟩
  have G__law_told := okTold F10 C_unpacked O_NoPack X_NoPack M_TailError M_NoMachine kk1 kk2 kk3 m_int m_isinstance m_ValueError
  have C__law_told := Cal.mk' G__law_told b__law_told k10 M__law_told
  have G__law_mingled := okMing (P := l.prog) (w := w) (base := base) F11 b__law_mingled k11 M__law_mingled m_len m_range 5
  have C__law_mingled := Cal.mk' G__law_mingled b__law_mingled k11 M__law_mingled
  have G__law_packed := okLPacked (P := l.prog) (w := w) (base := base) F12 m_len m_range m_sorted
  have C__law_packed := Cal.mk' G__law_packed b__law_packed k12 M__law_packed
  exact okLaw F13 C__law_mixed C__law_text C__law_told C__law_mingled C__law_packed C_packed m_len m_isinstance m_str
theorem walk {l : PySem.W.OpenLaw} {q : Program} {loose : List Str} {XP : (Str → Option Value) → Heap → Prop} {YP : World → Heap → Prop} {d dy : DefRec} {K : Params → PySem.W.Frag} (hn : l.most = some 63) (hdf : d.params.defaults = []) (hy : ((PyProof.Rows.recsOf q).find? fun e => e.name == ("walked_back" : Str)) = some dy)
    (hY : ∀ (w : World) (h : Heap), YP w h → (K w.params).In h)
    (F : ∀ (w : World) (mg : Str → Option Value) (fa : Addr) (h : Heap), (K w.params).In h → h.Ns mainGlobals mg → mg d.name = some (.ref fa) →
      ∃ (fd : FuncData) (c Tb : Addr), PySem.W.tabIn (K w.params) "walked_back" = some (c, Tb) ∧ (K w.params).lookup Tb = none ∧ (∀ (s : Shared) (u : Value), BindsTo s fd ⟨[u], []⟩ [("_law_script", u)]) ∧
        ∀ base : Heap, (K w.params).In base → base.Ns mainGlobals mg → PySem.W.CodeHd base c Tb → BM mg base → FnOk l.prog w (K w.params) mg base CX0 41 fa fd ["_law_script"] (spLaw (K w.params) Tb)) :
    PySem.W.WalkO q loose XP YP l.row.toRowW d [] (fun f vs => PySem.call f vs) :=
  L2.walk_ofT (n := 63) (k := 41) (x := "_law_script") (y := "walked_back") (CX := fun _ => CX0) (sp := fun w Tb => spLaw (K w.params) Tb) hn (by decide) hdf ⟨rfl, by decide, by decide⟩ hy hY F (fun _ _ a Tb ns hl hT hS => ⟨a, ns, rfl, hS, hl, ⟨#[], hT, trivial, .inl rfl⟩, fun _ => rfl⟩) fun _ _ _ _ _ z => z
end K31
open PySem PySem.W PyProof.Rows
set_option maxRecDepth 100000 in
set_option maxHeartbeats 0 in
theorem PySem.Challenge.cw_tailyard_k31_whole_unpacked_holds : PySem.Challenge.rw_tailyard_k31_whole_unpacked.Holds := by
  w_on; o_law; k_head; (case hw => w_witness2)
  k_fill
  refine K31.walk (l := PySem.Challenge.rw_tailyard_k31_whole_unpacked) rfl rfl rfl (fun w h Y => PySem.W.km_in_of Y) ?F
  case F =>
    intro w mg fa h KX G hmg
    refine' K31.all_mk KX G hmg ?a1 ?l1 ?c1 ?k1 ?a2 ?l2 ?c2 ?k2 ?a3 ?l3 ?c3 ?k3 ?a4 ?l4 ?c4 ?k4 ?a5 ?l5 ?c5 ?k5 ?a6 ?l6 ?c6 ?k6 ?a7 ?l7 ?c7 ?k7 ?a8 ?l8 ?c8 ?k8 ?a9 ?l9 ?c9 ?k9 ?a10 ?l10 ?c10 ?k10 ?a11 ?l11 ?c11 ?k11 ?a12 ?l12 ?c12 ?k12 ?a13 ?l13 ?c13 ?k13 ?z0 ?z1 ?z2 ?z3 ?z4 ?z5 ?z6 ?z7 ?z8 ?z9 ?aC_TailError ?aC_NoPack ?aC_NoMachine ?cl_NoPack ?xq_NoPack ?ga_NoPack ?gt_NoPack ?ca_NoPack ?gs_NoPack ?tk_NoPack ?mo_NoPack ?sb_NoPack ?kk1 ?kk2 ?kk3 ?tc ?lc ?v11 ?tn
    (case a1 => k_is)
    (case l1 => k_is)
    (case c1 => k_is)
    (case k1 => k_is)
    (case a2 => k_is)
    (case l2 => k_is)
    (case c2 => k_is)
    (case k2 => k_is)
    (case a3 => k_is)
    (case l3 => k_is)
    (case c3 => k_is)
    (case k3 => k_is)
    (case a4 => k_is)
    (case l4 => k_is)
    (case c4 => k_is)
    (case k4 => k_is)
    (case a5 => k_is)
    (case l5 => k_is)
    (case c5 => k_is)
    (case k5 => k_is)
    (case a6 => k_is)
    (case l6 => k_is)
    (case c6 => k_is)
    (case k6 => k_is)
    (case a7 => k_is)
    (case l7 => k_is)
    (case c7 => k_is)
    (case k7 => k_is)
    (case a8 => k_is)
    (case l8 => k_is)
    (case c8 => k_is)
    (case k8 => k_is)
    (case a9 => k_is)
    (case l9 => k_is)
    (case c9 => k_is)
    (case k9 => k_is)
    (case a10 => k_is)
    (case l10 => k_is)
    (case c10 => k_is)
    (case k10 => k_is)
    (case a11 => k_is)
    (case l11 => k_is)
    (case c11 => k_is)
    (case k11 => k_is)
    (case a12 => k_is)
    (case l12 => k_is)
    (case c12 => k_is)
    (case k12 => k_is)
    (case a13 => k_is)
    (case l13 => k_is)
    (case c13 => k_is)
    (case k13 => k_is)
    (case z0 => k_is)
    (case z1 => k_is)
    (case z2 => k_is)
    (case z3 => k_is)
    (case z4 => k_is)
    (case z5 => k_is)
    (case z6 => k_is)
    (case z7 => k_is)
    (case z8 => k_is)
    (case z9 => k_is)
    (case aC_TailError => first | k_is | kernel_rfl)
    (case aC_NoPack => first | k_is | kernel_rfl)
    (case aC_NoMachine => first | k_is | kernel_rfl)
    (case cl_NoPack => first | k_is | kernel_rfl)
    (case xq_NoPack => first | k_is | kernel_rfl)
    (case ga_NoPack => first | k_is | kernel_rfl)
    (case gt_NoPack => first | k_is | kernel_rfl)
    (case ca_NoPack => first | k_is | kernel_rfl)
    (case gs_NoPack => first | k_is | kernel_rfl)
    (case tk_NoPack => first | k_is | kernel_rfl)
    (case mo_NoPack => first | k_is | kernel_rfl)
    (case sb_NoPack => first | k_is | kernel_rfl)
    (case kk1 => first | k_is | kernel_rfl)
    (case kk2 => first | k_is | kernel_rfl)
    (case kk3 => first | k_is | kernel_rfl)
    (case tc => rfl)
    (case lc => k_is)
    (case v11 => rfl)
    (case tn => first | kernel_rfl | rfl)

