import PyProof.Rows.All
import Wide.All
import OpenK.AllK
import Wide.FinOn
import PyProof.EqAt
import PyProof.EqKinds
import PyProof.TupleCall
import KE.BitLaws
import PySem.SetTable
import KE.KSortKeySt
import KE.KSortTupG
import KE.IntBitsLaws
import KE.KNest
import PyProof.ExcArgsOwn
import KE.KIsAll
import OpenK.KOwn
import PyProof.NsDelKeeps
import KE.KNestM
import PyProof.ListRange
import PySem.Challenge.RW_tipwebs_k02_whole_rows
set_option Elab.async false
set_option linter.all false
set_option maxRecDepth 100000
namespace L2
open PySem PySem.Spec PyProof.Rows
/-- a key: an int or a str -/
abbrev Key := Sum Int Str
def keyIs : Key → Value → Bool
  | .inl k, v => Value.isInt k v
  | .inr x, v => Value.isStrOf x v
def keyH (w : World) : Key → Int
  | .inl k => hashInt k
  | .inr x => hashStr w x
theorem keyIs_shape : ∀ {k : Key} {v : Value}, keyIs k v = true → (∃ i t, k = Sum.inl i ∧ v = Value.int i t) ∨ (∃ x t, k = Sum.inr x ∧ v = Value.str x t)
  | .inl i, v, h => by
    obtain ⟨t, e⟩ := Value.isInt_shape (k := i) (v := v) h
    exact .inl ⟨i, t, rfl, e⟩
  | .inr x, v, h => by
    obtain ⟨t, e⟩ := Value.isStrOf_shape (x := x) (v := v) h
    exact .inr ⟨x, t, rfl, e⟩
theorem keyIs_int (i : Int) (t : Tok) : keyIs (.inl i) (.int i t) = true := by simp [keyIs, Value.isInt]
theorem keyIs_str (x : Str) (t : Tok) : keyIs (.inr x) (.str x t) = true := by simp [keyIs, Value.isStrOf]
theorem key_ll (a b : Int) : decide ((Sum.inl a : Key) = Sum.inl b) = (a == b) := by
  by_cases e : a = b
  · subst e; simp
  · have h : ¬ (Sum.inl a : Key) = Sum.inl b := fun q => e (Sum.inl.inj q)
    rw [decide_eq_false h]
    exact (beq_eq_false_iff_ne.mpr e).symm
theorem key_rr (a b : Str) : decide ((Sum.inr a : Key) = Sum.inr b) = decide (a = b) := by
  by_cases e : a = b
  · subst e; simp
  · have h : ¬ (Sum.inr a : Key) = Sum.inr b := fun q => e (Sum.inr.inj q)
    rw [decide_eq_false h, decide_eq_false e]
theorem key_lr (a : Int) (b : Str) : decide ((Sum.inl a : Key) = Sum.inr b) = false := decide_eq_false (fun q => nomatch q)
theorem key_rl (a : Str) (b : Int) : decide ((Sum.inr a : Key) = Sum.inl b) = false := decide_eq_false (fun q => nomatch q)
def mixKind (prog : Program) (w : World) : PySem.KeyKind prog w Key where
  is := keyIs
  hash := keyH w
  inj := fun v a b ha hb => by
    rcases keyIs_shape ha with ⟨i, t, rfl, rfl⟩ | ⟨x, t, rfl, rfl⟩
    · rcases keyIs_shape hb with ⟨j, u, rfl, e⟩ | ⟨y, u, rfl, e⟩
      · injection e with e1 _; rw [e1]
      · exact nomatch e
    · rcases keyIs_shape hb with ⟨j, u, rfl, e⟩ | ⟨y, u, rfl, e⟩
      · exact nomatch e
      · injection e with e1 _; rw [e1]
  byValue := fun k v h => by
    rcases keyIs_shape h with ⟨i, t, rfl, rfl⟩ | ⟨x, t, rfl, rfl⟩ <;> rfl
  pyHash := fun hv h => by
    rcases keyIs_shape hv with ⟨i, t, rfl, rfl⟩ | ⟨x, t, rfl, rfl⟩
    · exact wpAny_pyHash_int h
    · exact wpAny_pyHash_str h
  eqBool := fun hu hv h => by
    rcases keyIs_shape hu with ⟨i, t, rfl, rfl⟩ | ⟨x, t, rfl, rfl⟩
    · rcases keyIs_shape hv with ⟨j, u, rfl, rfl⟩ | ⟨y, u, rfl, rfl⟩
      · rw [key_ll] at h; exact wpAny_eqBool_int h
      · rw [key_lr] at h; exact SeqAt.EqAt.int_str i t y u _ _ _ _ h
    · rcases keyIs_shape hv with ⟨j, u, rfl, rfl⟩ | ⟨y, u, rfl, rfl⟩
      · rw [key_rl] at h; exact SeqAt.EqAt.str_int x t j u _ _ _ _ h
      · rw [key_rr] at h; exact wpAny_eqBool_str h
  «strs» := fun k x t v h => by
    rcases keyIs_shape h with ⟨i, u, rfl, e⟩ | ⟨y, u, rfl, e⟩
    · exact nomatch e
    · injection e with e1 _
      subst e1
      cases v <;> rfl
theorem mixKind_int (prog : Program) (w : World) (i : Int) (t : Tok) : (mixKind prog w).is (.inl i) (.int i t) = true := keyIs_int i t
theorem mixKind_str (prog : Program) (w : World) (x : Str) (t : Tok) : (mixKind prog w).is (.inr x) (.str x t) = true := keyIs_str x t
end L2
namespace L2
open PySem PySem.Spec PyProof.Rows
/-- a value, without the heap -/
inductive V where
  | non | bl (b : Bool) | int (i : Int) | str (x : Str) | byt (b : Array UInt8) | flt (b : UInt64) | ref (a : Addr) | ty (n : String)
  deriving DecidableEq
def RelV : V → Value → Prop
  | .non, u => u = Value.none
  | .bl b, u => u = Value.bool b
  | .int i, u => ∃ t, u = Value.int i t
  | .str x, u => ∃ t, u = Value.str x t
  | .byt b, u => ∃ t, u = Value.bytes b t
  | .flt b, u => ∃ t, u = Value.float b t
  | .ref a, u => u = Value.ref a
  | .ty n, u => u = Value.type n
abbrev Vals : List V → List Value → Prop := Paired RelV
theorem Vals.length {xs : List V} {us : List Value} (r : Vals xs us) : xs.length = us.length := Paired.length r
theorem Vals.get : ∀ {xs : List V} {us : List Value} {i : Nat} {x : V}, Vals xs us → xs[i]? = some x → ∃ u, us[i]? = some u ∧ RelV x u
  | _, _, _, _, .nil, e => by simp at e
  | _, _, 0, _, .cons r _, e => by simp at e; subst e; exact ⟨_, rfl, r⟩
  | _, _, i + 1, x, .cons _ t, e => by
    obtain ⟨u, h1, h2⟩ := Vals.get (i := i) (x := x) t (by simpa using e)
    exact ⟨u, by simpa using h1, h2⟩
theorem Vals.set {x : V} {u : Value} (r : RelV x u) : ∀ {xs : List V} {us : List Value} (i : Nat), Vals xs us → Vals (xs.set i x) (us.set i u)
  | _, _, _, .nil => .nil
  | _, _, 0, .cons _ t => .cons r t
  | _, _, i + 1, .cons q t => .cons q (Vals.set r i t)
theorem Vals.append : ∀ {xs ys : List V} {us ws : List Value}, Vals xs us → Vals ys ws → Vals (xs ++ ys) (us ++ ws)
  | _, _, _, _, .nil, s => s
  | _, _, _, _, .cons r t, s => .cons r (Vals.append t s)
theorem Vals.take : ∀ {xs : List V} {us : List Value} (n : Nat), Vals xs us → Vals (xs.take n) (us.take n)
  | _, _, 0, _ => .nil
  | _, _, _ + 1, .nil => .nil
  | _, _, n + 1, .cons r t => .cons r (Vals.take n t)
theorem Vals.drop : ∀ {xs : List V} {us : List Value} (n : Nat), Vals xs us → Vals (xs.drop n) (us.drop n)
  | _, _, 0, r => r
  | _, _, _ + 1, .nil => .nil
  | _, _, n + 1, .cons _ t => Vals.drop n t
def RelO : Option V → Option Value → Prop
  | some v, some u => RelV v u
  | none, none => True
  | _, _ => False
def KV {κ : Type} : List (κ × V) → List (κ × Value) → Prop := Paired fun (p : κ × V) (q : κ × Value) => p.1 = q.1 ∧ RelV p.2 q.2
/-- a key of a dict (00_mix): an int or a text -/
def kV : Key → V
  | .inl i => .int i
  | .inr x => .str x
/-- what stands at a tracked address -/
inductive HO where
  /-- a list -/
  | lst (xs : List V)
  /-- a tuple (never changes) -/
  | tup (xs : List V)
  /-- a dict whose keys are ints and texts; one whose keys are tuples of ints and texts (the empty one is both) -/
  | dK (kvs : List (Key × V)) | dT (kvs : List (List Key × V))
  /-- a set of ints: its members, its size -/
  | set (S : Int → Bool) (n : Nat)
  /-- an instance of the class at C, its dict at dx, its attributes -/
  | ins (C dx : Addr) (fs : List (Str × V))
  /-- the dict of the instance at x -/
  | own (x : Addr)
  /-- the dict of an exception -/
  | xd (fs : List (Str × V))
  /-- a bound method, f of x -/
  | met (f x : Addr)
  /-- a range object lo, lo + 1, .. below hi -/
  | rng (lo hi : Int)
  /-- a thing that is known to the object (the script; a dict while a loop walks it): read, never written while it is so -/
  | frz (o : Obj) (u : HO)
  /-- a code object's table -/
  | tbl (ps : Array Value)
  /-- any other thing, by what is true of its one object (a def of one's own: SetO a S n := HO.ext fun h => ..) -/
  | ext (φ : Heap → Prop)
abbrev Hp := Addr → Option HO
def upd (H : Hp) (a : Addr) (o : HO) : Hp := fun b => if b = a then some o else H b
theorem upd_same {H : Hp} {a : Addr} {o : HO} : upd H a o a = some o := by unfold upd; rw [if_pos rfl]
theorem upd_ne {H : Hp} {a b : Addr} {o : HO} (h : b ≠ a) : upd H a o b = H b := by unfold upd; rw [if_neg h]
theorem upd_upd {H : Hp} {a : Addr} {o u : HO} : upd (upd H a o) a u = upd H a u := by
  funext b; unfold upd; split <;> rfl
theorem ne_of_none {H : Hp} {a b : Addr} {o : HO} (h : H a = some o) (h' : H b = none) : a ≠ b := by
  intro e; subst e; rw [h] at h'; cases h'
section
variable (P : Program) (w : World)
def ObjOk (H : Hp) (h : Heap) (a : Addr) : HO → Prop
  | .lst xs => xs.length ≤ sizeLine ∧ ∃ (its : List Value) (n : Nat), Vals xs its ∧ h.get? a = some { cls := .type "list", data := .seq its.toArray n }
  | .tup xs => xs.length ≤ sizeLine ∧ ∃ its : List Value, Vals xs its ∧ IsTup h a its.toArray
  | .dK kvs => kvs.length ≤ sizeLine ∧ (a == sysModules) = false ∧ ∃ vs, KV kvs vs ∧ h.DictOf (mixKind P w) a vs
  | .dT kvs => kvs.length ≤ sizeLine ∧ (a == sysModules) = false ∧ ∃ xs : List (List Key × Addr × Value),
      Paired (fun (p : List Key × V) (q : List Key × Addr × Value) => p.1 = q.1 ∧ H q.2.1 = some (.tup (p.1.map kV)) ∧ RelV p.2 q.2.2) kvs xs ∧
      ∃ o es ep, h.get? a = some o ∧ o.ExactDict ∧ o.data = .dict es ep ∧ es.toList = xs.map (entryOfKey (tupleKind (mixKind P w))) ∧ (xs.map (·.1)).Nodup
  | .set S n => h.SetOf (intKind P w) a S n
  | .ins C dx fs => H dx = some (.own a) ∧ fs.length ≤ 1000 ∧ dx ≠ a ∧ h.get? a = some (PySem.W.instObj C dx) ∧
      ∃ mA, h.Ns1 dx mA ∧ (∀ f, RelO (fs.lookup f) (mA f)) ∧ PySem.Within mA (fs.map (·.1))
  | .own _ => ∃ o, h.get? a = some o
  | .xd fs => ∃ mA, h.Ns1 a mA ∧ ∀ f, RelO (fs.lookup f) (mA f)
  | .rng lo hi => ∃ t u v, h.get? a = some { cls := .type "range", data := .fields #[.int lo t, .int hi u, .int 1 v] }
  | .frz o u => h.get? a = some o ∧ ObjOk H h a u
  | .tbl ps => h.get? a = some { cls := .none, data := .fields ps }
  | .met f x => h.get? a = some (PySem.W.methodObj (.ref f) (.ref x))
  | .ext φ => φ h ∧ (∃ o, h.get? a = some o) ∧ ∀ h1 h2 : Heap, φ h1 → (∀ o, h1.get? a = some o → h2.get? a = some o) → φ h2
/-- the abstract heap is held -/
def HOk (H : Hp) (h : Heap) : Prop := ∀ a o, H a = some o → ObjOk P w H h a o
end
section
variable {P : Program} {w : World} {H H' : Hp} {h h' : Heap} {a : Addr} {o : HO}
theorem ObjOk.lt (x : ObjOk P w H h a o) : a < h.objs.size := by
  cases o with
  | lst xs => obtain ⟨_, _, _, _, e⟩ := x; exact Heap.lt_size e
  | tup xs => obtain ⟨_, _, _, p⟩ := x; exact p.lt
  | dK kvs => obtain ⟨_, _, _, _, o, _, _, e, _⟩ := x; exact Heap.lt_size e
  | dT kvs => obtain ⟨_, _, _, _, o, _, _, e, _⟩ := x; exact Heap.lt_size e
  | set S n => obtain ⟨o, _, _, _, e, _⟩ := x; exact Heap.lt_size e
  | ins C dx fs => obtain ⟨_, _, _, e, _⟩ := x; exact Heap.lt_size e
  | own y => obtain ⟨_, e⟩ := x; exact Heap.lt_size e
  | xd fs => obtain ⟨_, ⟨_, _, _, e, _⟩, _⟩ := x; exact Heap.lt_size e
  | rng lo hi => obtain ⟨_, _, _, e⟩ := x; exact Heap.lt_size e
  | frz ob u => obtain ⟨e, _⟩ := x; exact Heap.lt_size e
  | tbl ps => exact Heap.lt_size (show h.get? a = some _ from x)
  | met f y => exact Heap.lt_size (show h.get? a = some _ from x)
  | ext φ => obtain ⟨_, ⟨_, e⟩, _⟩ := x; exact Heap.lt_size e
theorem Paired.mapP {α β : Type} {F G : α → β → Prop} : ∀ {l₁ : List α} {l₂ : List β}, Paired F l₁ l₂ → (∀ a b, F a b → G a b) → Paired G l₁ l₂
  | _, _, .nil, _ => .nil
  | _, _, .cons r t, f => .cons (f _ _ r) (Paired.mapP t f)
/-- what an object's description leans on: its own object, its own dict, the tuples -/
theorem ObjOk.stay (x : ObjOk P w H h a o) (k : ∀ b u, (b = a ∨ H b = some (.own a)) → h.get? b = some u → h'.get? b = some u)
    (ho : ∀ b, H b = some (.own a) → H' b = some (.own a)) (ht : ∀ b xs, H b = some (.tup xs) → H' b = some (.tup xs)) : ObjOk P w H' h' a o := by
  induction o with
  | lst xs => obtain ⟨z, its, n, r, e⟩ := x; exact ⟨z, its, n, r, k _ _ (.inl rfl) e⟩
  | tup xs => obtain ⟨z, its, r, ob, e, c⟩ := x; exact ⟨z, its, r, ob, k _ _ (.inl rfl) e, c⟩
  | dK kvs => obtain ⟨z, y, vs, r, ob, es, ep, e, c⟩ := x; exact ⟨z, y, vs, r, ob, es, ep, k _ _ (.inl rfl) e, c⟩
  | dT kvs =>
    obtain ⟨z, y, xs, r, ob, es, ep, e, c⟩ := x
    exact ⟨z, y, xs, Paired.mapP r fun p q z => ⟨z.1, ht _ _ z.2.1, z.2.2⟩, ob, es, ep, k _ _ (.inl rfl) e, c⟩
  | set S n => obtain ⟨ob, es, ep, t, e, c⟩ := x; exact ⟨ob, es, ep, t, k _ _ (.inl rfl) e, c⟩
  | ins C dx fs =>
    obtain ⟨d, z, ne, e, mA, ⟨od, es, ep, e2, c⟩, r⟩ := x
    exact ⟨ho _ d, z, ne, k _ _ (.inl rfl) e, mA, ⟨od, es, ep, k _ _ (.inr d) e2, c⟩, r⟩
  | own y => obtain ⟨ob, e⟩ := x; exact ⟨ob, k _ _ (.inl rfl) e⟩
  | xd fs => obtain ⟨mA, ⟨od, es, ep, e, c⟩, r⟩ := x; exact ⟨mA, ⟨od, es, ep, k _ _ (.inl rfl) e, c⟩, r⟩
  | rng lo hi => obtain ⟨t, u, v, e⟩ := x; exact ⟨t, u, v, k _ _ (.inl rfl) e⟩
  | frz ob u ih => obtain ⟨e, q⟩ := x; exact ⟨k _ _ (.inl rfl) e, ih q⟩
  | tbl ps =>
    have e : h.get? a = some { cls := .none, data := .fields ps } := x
    show h'.get? a = some { cls := .none, data := .fields ps }
    exact k a _ (.inl rfl) e
  | met f y =>
    have e : h.get? a = some (PySem.W.methodObj (.ref f) (.ref y)) := x
    show h'.get? a = some (PySem.W.methodObj (.ref f) (.ref y))
    exact k a _ (.inl rfl) e
  | ext φ => obtain ⟨p, ⟨o, e⟩, st⟩ := x; exact ⟨st _ _ p fun o q => k _ _ (.inl rfl) q, ⟨o, k _ _ (.inl rfl) e⟩, st⟩
theorem HOk.lt (x : HOk P w H h) (e : H a = some o) : a < h.objs.size := (x a o e).lt
theorem HOk.fresh (x : HOk P w H h) (e : h.objs.size ≤ a) : H a = none := by
  cases q : H a with
  | none => rfl
  | some u => exact absurd (Nat.lt_of_lt_of_le (x.lt q) e) (Nat.lt_irrefl _)
/-- every object of the heap is kept -/
theorem HOk.kept (x : HOk P w H h) (k : ∀ b u, h.get? b = some u → h'.get? b = some u) : HOk P w H h' := fun a o e =>
  (x a o e).stay (fun b u _ q => k b u q) (fun _ q => q) fun _ _ q => q
/-- a new object is laid and tracked -/
theorem HOk.laid (x : HOk P w H h) (k : ∀ b u, h.get? b = some u → h'.get? b = some u) (hp : h.objs.size ≤ a) (new : ObjOk P w (upd H a o) h' a o) : HOk P w (upd H a o) h' := fun b u e => by
  have hn := x.fresh hp
  by_cases hb : b = a
  · subst hb; rw [upd_same] at e; cases e; exact new
  · rw [upd_ne hb] at e
    exact (x b u e).stay (fun c v _ q => k c v q) (fun c q => by rw [upd_ne (ne_of_none q hn)]; exact q) fun c xs q => by rw [upd_ne (ne_of_none q hn)]; exact q
end
/-- what may be read as u: it is u, or a known u -/
def Rd (H : Hp) (a : Addr) (u : HO) : Prop := H a = some u ∨ ∃ o, H a = some (.frz o u)
theorem Rd.of {H : Hp} {a : Addr} {u : HO} (h : H a = some u) : Rd H a u := .inl h
theorem Rd.ok {P : Program} {w : World} {H : Hp} {h : Heap} {a : Addr} {u : HO} (r : Rd H a u) (x : HOk P w H h) : ObjOk P w H h a u := by
  rcases r with r | ⟨o, r⟩
  · exact x a u r
  · obtain ⟨_, q⟩ := x a _ r
    exact q
/-- what may be written -/
def Mut : Option HO → Prop
  | some (.lst _) => True
  | some (.dK _) => True
  | some (.dT _) => True
  | some (.set _ _) => True
  | some (.ins _ _ _) => True
  | some (.ext _) => True
  | _ => False
section
variable {P : Program} {w : World} {H : Hp} {h h' : Heap} {x e : Addr} {o' : HO}
/-- the object at e is changed: x itself, or the dict of the instance x -/
theorem HOk.write (ok : HOk P w H h) (mu : Mut (H x)) (he : e = x ∨ H e = some (.own x)) (k : ∀ b u, b ≠ e → h.get? b = some u → h'.get? b = some u) (heo : ∃ u, h'.get? e = some u)
    (new : ObjOk P w (upd H x o') h' x o') : HOk P w (upd H x o') h' := fun b u q => by
  have nown : ∀ c y, H c = some (.own y) → c ≠ x := fun c y r z => by subst z; rw [r] at mu; exact mu
  have ntup : ∀ c xs, H c = some (.tup xs) → c ≠ x := fun c xs r z => by subst z; rw [r] at mu; exact mu
  by_cases hb : b = x
  · subst hb; rw [upd_same] at q; cases q; exact new
  · rw [upd_ne hb] at q
    by_cases hbe : b = e
    · have q' : H b = some (.own x) := by
        rcases he with z | z
        · exact absurd (hbe.trans z) hb
        · rw [hbe]; exact z
      rw [q] at q'; cases q'
      obtain ⟨v, hv⟩ := heo
      exact ⟨v, by rw [hbe]; exact hv⟩
    · refine (ok b u q).stay (fun c v hc r => k c v ?_ r) (fun c r => by rw [upd_ne (nown c b r)]; exact r) fun c xs r => by rw [upd_ne (ntup c xs r)]; exact r
      rcases hc with rfl | hc
      · exact hbe
      · rintro rfl
        rcases he with z | z
        · exact nown c b hc z
        · rw [hc] at z; cases z; exact hb rfl
end
structure Un (fs ex : List Addr) (H H' : Hp) (h h' : Heap) : Prop where
  keep : ∀ b o, h.get? b = some o → H b = none → b ∉ fs → b ∉ ex → h'.get? b = some o
  slot : ∀ b o, h.get? b = some o → H b = none → b ∈ fs → b ∉ ex → ∃ sl, h'.get? b = some { o with slots := sl }
  free : ∀ b o, h.get? b = some o → H b = none → b ∉ ex → H' b = none
  there : ∀ b o, h.get? b = some o → b ∉ ex → ∃ o', h'.get? b = some o'
  tups : ∀ b xs, H b = some (.tup xs) → H' b = some (.tup xs)
  frzs : ∀ b o u, H b = some (.frz o u) → H' b = some (.frz o u)
  tbls : ∀ b ps, H b = some (.tbl ps) → ∃ more, H' b = some (.tbl (ps ++ more))
section
variable {fs fs' ex ex' : List Addr} {H H1 H2 : Hp} {h h1 h2 h' : Heap} {a x e : Addr} {o : HO}
theorem Un.any (u : Un fs ex H H1 h h1) {b : Addr} {ob : Obj} (q : h.get? b = some ob) (n : H b = none) (hx : b ∉ ex) : ∃ sl, h1.get? b = some { ob with slots := sl } := by
  by_cases hb : b ∈ fs
  · exact u.slot b ob q n hb hx
  · exact ⟨ob.slots, u.keep b ob q n hb hx⟩
theorem Un.trans (a : Un fs ex H H1 h h1) (b : Un fs ex H1 H2 h1 h2) : Un fs ex H H2 h h2 where
  keep := fun c ob q n hc hx => b.keep c ob (a.keep c ob q n hc hx) (a.free c ob q n hx) hc hx
  slot := fun c ob q n hc hx => by
    obtain ⟨sl, e1⟩ := a.slot c ob q n hc hx
    obtain ⟨sl', e2⟩ := b.slot c _ e1 (a.free c ob q n hx) hc hx
    exact ⟨sl', e2⟩
  free := fun c ob q n hx => by
    obtain ⟨o', e1⟩ := a.there c ob q hx
    exact b.free c o' e1 (a.free c ob q n hx) hx
  there := fun c ob q hx => by
    obtain ⟨o', e1⟩ := a.there c ob q hx
    exact b.there c o' e1 hx
  tups := fun c xs q => b.tups c xs (a.tups c xs q)
  frzs := fun c ob xs q => b.frzs c ob xs (a.frzs c ob xs q)
  tbls := fun c ps q => by
    obtain ⟨m1, e1⟩ := a.tbls c ps q
    obtain ⟨m2, e2⟩ := b.tbls c _ e1
    exact ⟨m1 ++ m2, by rw [e2, Array.append_assoc]⟩
theorem Un.kept (k : ∀ b u, h.get? b = some u → h'.get? b = some u) : Un fs ex H H h h' :=
  ⟨fun b ob q _ _ _ => k b ob q, fun b ob q _ _ _ => ⟨ob.slots, k b ob q⟩, fun _ _ _ n _ => n, fun b ob q _ => ⟨ob, k b ob q⟩, fun _ _ q => q, fun _ _ _ q => q, fun _ ps q => ⟨#[], by rw [q]; simp⟩⟩
theorem Un.refl : Un fs ex H H h h := Un.kept fun _ _ q => q
theorem Un.laid (k : ∀ b u, h.get? b = some u → h'.get? b = some u) (hp : h.objs.size ≤ a) (hn : H a = none) : Un fs ex H (upd H a o) h h' where
  keep := fun b u q _ _ _ => k b u q
  slot := fun b u q _ _ _ => ⟨u.slots, k b u q⟩
  free := fun b u q n _ => by rw [upd_ne (Nat.ne_of_lt (Nat.lt_of_lt_of_le (Heap.lt_size q) hp))]; exact n
  there := fun b u q _ => ⟨u, k b u q⟩
  tups := fun b xs q => by rw [upd_ne (ne_of_none q hn)]; exact q
  frzs := fun b u xs q => by rw [upd_ne (ne_of_none q hn)]; exact q
  tbls := fun b ps q => ⟨#[], by rw [upd_ne (ne_of_none q hn), q]; simp⟩
theorem Un.write (mu : Mut (H x)) (he : e = x ∨ H e = some (.own x)) (k : ∀ b u, b ≠ e → h.get? b = some u → h'.get? b = some u) (heo : ∃ u, h'.get? e = some u) : Un fs ex H (upd H x o) h h' := by
  have hx : ∀ b, H b = none → b ≠ x := fun b n z => by subst z; rw [n] at mu; exact mu
  have hb : ∀ b, H b = none → b ≠ e := fun b n z => by
    subst z
    rcases he with r | r
    · exact hx b n r
    · rw [n] at r; cases r
  have hm : ∀ b u, H b = some u → ¬ Mut (some u) → b ≠ x := fun b u q nm z => by subst z; rw [q] at mu; exact nm mu
  refine ⟨fun b u q n _ _ => k b u (hb b n) q, fun b u q n _ _ => ⟨u.slots, k b u (hb b n) q⟩, fun b u q n _ => by rw [upd_ne (hx b n)]; exact n, fun b u q _ => ?_,
    fun b xs q => by rw [upd_ne (hm b _ q fun z => z)]; exact q, fun b u xs q => by rw [upd_ne (hm b _ q fun z => z)]; exact q, fun b ps q => ⟨#[], by rw [upd_ne (hm b _ q fun z => z), q]; simp⟩⟩
  by_cases hbe : b = e
  · subst hbe; exact heo
  · exact ⟨u, k b u hbe q⟩
theorem Un.mono (u : Un fs ex H H1 h h1) (hs : ∀ b ∈ fs, b ∈ fs') (hx : ∀ b ∈ ex, b ∈ ex') : Un fs' ex' H H1 h h1 :=
  ⟨fun b ob q n hb he => u.keep b ob q n (fun z => hb (hs b z)) fun z => he (hx b z), fun _ _ q n _ he => u.any q n fun z => he (hx _ z), fun b ob q n he => u.free b ob q n fun z => he (hx b z), fun b ob q he => u.there b ob q fun z => he (hx b z), u.tups, u.frzs, u.tbls⟩
end
def trk (h : Heap) (H : Hp) : List Addr := (List.range h.objs.size).filter fun a => (H a).isSome
def hidT (h : Heap) (H : Hp) : Heap := PySem.W.hideAll h (trk h H)
theorem hidT_size (h : Heap) (H : Hp) : (hidT h H).objs.size = h.objs.size := PySem.W.hideAll_size _ _
theorem hidT_get {h : Heap} {H : Hp} {b : Addr} {o : Obj} (e : h.get? b = some o) (n : H b = none) : (hidT h H).get? b = some o :=
  PySem.W.hideAll_get _ e fun hm => by
    have q : (H b).isSome = true := (List.mem_filter.mp hm).2
    rw [n] at q; simp at q
theorem of_hidT {h : Heap} {H : Hp} {b : Addr} {o : Obj} (e : (hidT h H).get? b = some o) : h.get? b = some o ∧ H b = none := by
  have e' : h.get? b = some o := PySem.W.of_hideAll (trk h H) e
  refine ⟨e', ?_⟩
  cases q : H b with
  | none => rfl
  | some x =>
    have hm : b ∈ trk h H := List.mem_filter.mpr ⟨List.mem_range.mpr (Heap.lt_size e'), by simp [q]⟩
    have z : (hidT h H).get? b = none := PySem.W.hideAll_none (trk h H) hm
    rw [z] at e; cases e
def allNews (g h : Heap) (L : Addr) : List (Addr × Obj) := (List.range h.objs.size).filterMap fun a => if a = L ∨ (g.get? a).isSome = true then none else (h.get? a).map fun o => (a, o)
theorem mem_allNews {g h : Heap} {L a : Addr} {o : Obj} (h1 : a ≠ L) (h2 : g.get? a = none) (h3 : h.get? a = some o) : (a, o) ∈ allNews g h L :=
  List.mem_filterMap.mpr ⟨a, List.mem_range.mpr (Heap.lt_size h3), by simp [h1, h2, h3]⟩
theorem of_mem_allNews {g h : Heap} {L : Addr} {p : Addr × Obj} (hp : p ∈ allNews g h L) : p.1 ≠ L ∧ g.get? p.1 = none ∧ h.get? p.1 = some p.2 := by
  obtain ⟨b, _, e⟩ := List.mem_filterMap.mp hp
  split at e
  · cases e
  · rename_i hn
    cases q : h.get? b with
    | none => rw [q] at e; simp at e
    | some u =>
      rw [q] at e
      simp only [Option.map_some, Option.some.injEq] at e
      subst e
      refine ⟨fun z => hn (.inl z), ?_, q⟩
      show g.get? b = none
      cases r : g.get? b with
      | none => rfl
      | some v => exact (hn (.inr (by simp [r]))).elim
def rest (g h : Heap) (L d : Addr) : List (Addr × Obj) := (allNews g h L).filter fun p => decide (p.1 ≠ d)
theorem rest_ne {g h : Heap} {L d : Addr} : ∀ p ∈ rest g h L d, p.1 ≠ d := fun p hp => of_decide_eq_true (List.mem_filter.mp hp).2
theorem mem_rest {g h : Heap} {L d a : Addr} {o : Obj} (h1 : a ≠ L) (h2 : g.get? a = none) (h3 : h.get? a = some o) (h4 : a ≠ d) : (a, o) ∈ rest g h L d :=
  List.mem_filter.mpr ⟨mem_allNews h1 h2 h3, decide_eq_true h4⟩
theorem news_all {g h : Heap} {L : Addr} : News g L h (allNews g h L) := fun p hp => let ⟨a, b, c⟩ := of_mem_allNews hp; ⟨c, a, b⟩
end L2
namespace L2
open PySem PySem.Spec PyProof.Rows
/-- the module's facts, over the base: the heap at the law's entry without what is tracked there -/
structure Mod (K : PySem.W.Frag) (mg : Str → Option Value) (base : Heap) : Prop where
  kin : K.In base
  glob : base.Ns mainGlobals mg
  blt : ∃ mb, base.Ns builtinsNs mb ∧ ∀ x : Str, x ≠ "__name__" → mb x = bootBuiltins x
  nolimit : base.NoLimit
/-- the context: a def's body (or a comprehension's block) running. base: fixed through the whole law; s₀, H₀: the entry; outer: the frames whose slots others may change (a def's callers); stack: all frames that run;
   ex: iterators that were made ahead of the entry and are walked here (a comprehension's); fn: the names whose cells were made at the entry (a def: all; a comprehension's block: its own); calm: not within an except suite; pn: pins that every state bears; xe: what is wanted of an exception that leaves the code -/
structure Cx where
  prog : Program
  w : World
  K : PySem.W.Frag
  mg : Str → Option Value
  base : Heap
  A : Around
  N : List Str
  s_0 : Shared
  H_0 : Hp
  env : Env
  outer : List Env
  stack : List Env
  ex : List Addr
  fn : Str → Bool
  calm : Bool
  pn : List (Addr × Obj)
  xe : Value → Shared → Prop
/-- the callers' frames -/
def frs (l : List Env) : List Addr := l.filterMap (·.frame)
abbrev Cx.fs (X : Cx) : List Addr := frs X.outer
def Vis (sc : Scope) (x : Str) : Prop := sc.names.lookup x = some .local ∨ sc.names.lookup x = some .cell ∨ sc.names.lookup x = some .free
def Loc (sc : Scope) (x : Str) : Prop := sc.names.lookup x = some .local ∨ sc.names.lookup x = some .cell
def Look (env : Env) (h : Heap) (m : Str → Option Value) (x : Str) (u : Value) : Prop :=
  (env.kindOf x = some .local ∧ m x = some u) ∨ ((env.kindOf x = some .cell ∨ env.kindOf x = some .free) ∧ ∃ c, env.cells.lookup x = some c ∧ h.IsCell c (some u))
structure Cx.Ok (X : Cx) : Prop where
  mod : Mod X.K X.mg X.base
  kind : X.env.scope.kind = .function
  glob : X.env.globals = mainGlobals
  blt : X.env.builtins = builtinsNs
  above : X.s_0.heap.objs.size ≤ X.env.locals
  inj : ∀ x y c, X.env.cells.lookup x = some c → X.env.cells.lookup y = some c → x = y
  has : ∀ x, (X.env.kindOf x = some .cell ∨ X.env.kindOf x = some .free) → ∃ c, X.env.cells.lookup x = some c
  cab : ∀ x c, X.fn x = true → X.env.cells.lookup x = some c → X.s_0.heap.objs.size ≤ c
  hd : X.calm = true → X.A.handled = none
  frames : X.A.frames = some X.stack
  stk : X.stack = X.outer ∨ (X.stack = X.env :: X.outer ∧ X.env.frame = some X.env.locals)
  exf : ∀ b ∈ X.ex, b ≠ X.env.locals ∧ ∀ x c, X.env.cells.lookup x = some c → c ≠ b
  bs : ∀ b o, X.base.get? b = some o → X.s_0.heap.get? b = some o ∧ X.H_0 b = none
  bsz : X.base.objs.size ≤ X.s_0.heap.objs.size
  noex : ∀ b o, X.base.get? b = some o → b ∉ X.ex
  exfs : ∀ b ∈ X.ex, b ∉ X.fs
  funs : X.s_0.heap.FunFrames X.base X.outer
  frf : ∀ b ∈ X.fs, X.H_0 b = none
structure Inv (X : Cx) (pins : List (Addr × Obj)) (σ : List (Option V)) (H : Hp) (s : Shared) : Prop where
  ok : X.Ok
  os : s.os = X.s_0.os
  bare : AllBare s.gens
  base : Un X.fs X.ex X.H_0 H X.s_0.heap s.heap
  loc : ∃ m, s.heap.Ns X.env.locals m ∧ ∀ (i : Nat) (x : Str) (v : V), X.N[i]? = some x → σ[i]? = some (some v) → Vis X.env.scope x → ∃ u, RelV v u ∧ Look X.env s.heap m x u
  cell : ∀ x c, X.env.cells.lookup x = some c → ∃ v, s.heap.IsCell c v
  free : H X.env.locals = none
  freeC : ∀ x c, X.env.cells.lookup x = some c → H c = none
  pin : ∀ p ∈ X.pn ++ pins, s.heap.get? p.1 = some p.2 ∧ H p.1 = none ∧ p.1 ≠ X.env.locals ∧ p.1 ∉ X.fs ∧ ∀ v, p.2.data ≠ .cell v
  hok : HOk X.prog X.w H s.heap
  len : σ.length = X.N.length
section
variable {X : Cx} {pins : List (Addr × Obj)} {σ : List (Option V)} {H H' : Hp} {s : Shared} {h' : Heap}
theorem Cx.Ok.nofr (ok : X.Ok) {b : Addr} {o : Obj} (e : X.base.get? b = some o) : b ∉ X.fs := fun hb => by
  have := (ok.funs.mem hb).1
  rw [e] at this; cases this
theorem Inv.bs (I : Inv X pins σ H s) : ∀ b o, X.base.get? b = some o → s.heap.get? b = some o ∧ H b = none := fun b o e =>
  ⟨I.base.keep b o (I.ok.bs b o e).1 (I.ok.bs b o e).2 (I.ok.nofr e) (I.ok.noex b o e), I.base.free b o (I.ok.bs b o e).1 (I.ok.bs b o e).2 (I.ok.noex b o e)⟩
theorem Inv.bk (I : Inv X pins σ H s) : ∀ b o, X.base.get? b = some o → s.heap.get? b = some o := fun b o e => (I.bs b o e).1
theorem Inv.mod (I : Inv X pins σ H s) : Mod X.K X.mg X.base := I.ok.mod
theorem Inv.kIn (I : Inv X pins σ H s) : X.K.In s.heap := I.ok.mod.kin.keeps I.bk
theorem Inv.nolimit (I : Inv X pins σ H s) : s.heap.NoLimit := I.ok.mod.nolimit.keeps I.bk
/-- the frame over the base: for OpenK's rules (K.In X.base is I.mod.kin) -/
theorem Inv.fr (I : Inv X pins σ H s) : ∃ m, Fr X.base X.env.locals s.heap m :=
  let ⟨m, hn, _⟩ := I.loc
  ⟨m, hn, I.bk, Nat.le_trans I.ok.bsz I.ok.above⟩
theorem Inv.lt (I : Inv X pins σ H s) : X.env.locals < s.heap.objs.size := let ⟨_, hn, _⟩ := I.loc; hn.lt
theorem Inv.sz (I : Inv X pins σ H s) : X.s_0.heap.objs.size ≤ s.heap.objs.size := Nat.le_trans I.ok.above (Nat.le_of_lt I.lt)
theorem Inv.nofs (I : Inv X pins σ H s) {a : Addr} (h : s.heap.objs.size ≤ a) : a ∉ X.fs := fun hb => by
  obtain ⟨_, o, ho, _⟩ := I.ok.funs.mem hb
  exact absurd (Nat.lt_of_lt_of_le (Heap.lt_size ho) (Nat.le_trans I.sz h)) (Nat.lt_irrefl _)
theorem Inv.cne (I : Inv X pins σ H s) : ∀ x c, X.env.cells.lookup x = some c → c ≠ X.env.locals := fun x c e z => by
  obtain ⟨v, o, ho, hd⟩ := I.cell x c e
  obtain ⟨m, ⟨o', es, ep, ho', hd', _⟩, _⟩ := I.loc
  rw [z, ho'] at ho; cases ho; rw [hd'] at hd; cases hd
theorem Inv.funs (I : Inv X pins σ H s) : s.heap.FunFrames X.base X.outer := by
  have all : ∀ (l : List Env), (∀ b ∈ frs l, b ∈ X.fs) → X.s_0.heap.FunFrames X.base l → s.heap.FunFrames X.base l := by
    intro l
    induction l with
    | nil => intro _ _; trivial
    | cons env r ih =>
      intro hs hl
      obtain ⟨hk, ⟨L, o, hf, hn, ho, hd⟩, hr⟩ := hl
      have hL : L ∈ X.fs := hs L (by unfold frs; rw [List.filterMap_cons, hf]; exact List.mem_cons_self)
      obtain ⟨sl, e⟩ := I.base.slot L o ho (I.ok.frf L hL) hL fun z => I.ok.exfs L z hL
      exact ⟨hk, ⟨L, _, hf, hn, e, hd⟩, ih (fun b hb => hs b (by unfold frs; rw [List.filterMap_cons, hf]; exact List.mem_cons_of_mem _ hb)) hr⟩
  exact all X.outer (fun _ hb => hb) I.ok.funs
/-- the frames that run, for a call -/
theorem Inv.stack (I : Inv X pins σ H s) : s.heap.FunFrames X.base X.stack := by
  rcases I.ok.stk with e | ⟨e, hf⟩
  · rw [e]; exact I.funs
  · rw [e]
    obtain ⟨m, hn, _⟩ := I.loc
    refine .cons (by rw [I.ok.kind]; decide) hf hn ?_ I.funs
    exact Heap.get?_none_of_le (Nat.le_trans I.ok.bsz I.ok.above)
theorem Inv.stkSub (I : Inv X pins σ H s) : ∀ b ∈ frs X.stack, b ∈ X.env.locals :: X.fs := fun b hb => by
  rcases I.ok.stk with e | ⟨e, hf⟩
  · rw [e] at hb; exact List.mem_cons_of_mem _ hb
  · rw [e] at hb
    unfold frs at hb
    rw [List.filterMap_cons, hf] at hb
    exact hb
theorem Inv.stkFree (I : Inv X pins σ H s) : ∀ b ∈ frs X.stack, H b = none := fun b hb => by
  rcases List.mem_cons.mp (I.stkSub b hb) with e | hb
  · rw [e]; exact I.free
  · obtain ⟨_, o, ho, _⟩ := I.ok.funs.mem hb
    exact I.base.free b o ho (I.ok.frf b hb) fun z => I.ok.exfs b z hb
/-- THE STEP: the untracked objects but the frame and the records at ch are kept (the callers' frames up to slots), the frame's map is kept, the new abstract heap is held -/
theorem Inv.step {g' : Array GenState} {t' : Nat} {d' : Drawn} {ch : List Addr} (I : Inv X pins σ H s)
    (hch : ∀ b ∈ ch, (b ∈ X.ex ∨ X.s_0.heap.objs.size ≤ b) ∧ b ≠ X.env.locals ∧ (∀ x c, X.env.cells.lookup x = some c → c ≠ b) ∧ ∀ p ∈ X.pn ++ pins, p.1 ≠ b)
    (keep : ∀ b o, b ≠ X.env.locals → b ∉ X.fs → b ∉ ch → s.heap.get? b = some o → H b = none → h'.get? b = some o)
    (slot : ∀ b o, b ≠ X.env.locals → b ∈ X.fs → b ∉ ch → s.heap.get? b = some o → H b = none → ∃ sl, h'.get? b = some { o with slots := sl }) (free : ∀ b o, b ∉ ch → s.heap.get? b = some o → H b = none → H' b = none)
    (there : ∀ b o, b ∉ ch → s.heap.get? b = some o → ∃ o', h'.get? b = some o')
    (tups : ∀ b xs, H b = some (.tup xs) → H' b = some (.tup xs)) (frzs : ∀ b o u, H b = some (.frz o u) → H' b = some (.frz o u)) (tbls : ∀ b ps, H b = some (.tbl ps) → ∃ more, H' b = some (.tbl (ps ++ more)))
    (ns : ∀ m, s.heap.Ns X.env.locals m → h'.Ns X.env.locals m) (hok : HOk X.prog X.w H' h') (hg : AllBare g') :
    Inv X pins σ H' { s with heap := h', gens := g', drawn := d', toks := t' } := by
  have neL : ∀ b o, X.s_0.heap.get? b = some o → b ≠ X.env.locals := fun b o e => Nat.ne_of_lt (Nat.lt_of_lt_of_le (Heap.lt_size e) I.ok.above)
  have neC : ∀ b o, X.s_0.heap.get? b = some o → b ∉ X.ex → b ∉ ch := fun b o e hx hb => by
    rcases (hch b hb).1 with z | z
    · exact hx z
    · exact absurd (Nat.lt_of_lt_of_le (Heap.lt_size e) z) (Nat.lt_irrefl _)
  have cellK : ∀ x c, X.env.cells.lookup x = some c → ∀ v, s.heap.IsCell c v → h'.IsCell c v := fun x c e v ⟨o, ho, hd⟩ => by
    have nch : c ∉ ch := fun z => (hch c z).2.2.1 x c e rfl
    by_cases hc : c ∈ X.fs
    · obtain ⟨sl, q⟩ := slot c o (I.cne x c e) hc nch ho (I.freeC x c e)
      exact ⟨_, q, hd⟩
    · exact ⟨o, keep c o (I.cne x c e) hc nch ho (I.freeC x c e), hd⟩
  refine ⟨I.ok, I.os, hg, ⟨fun b o e n hb hx => ?_, fun b o e n hb hx => ?_, fun b o e n hx => ?_, fun b o e hx => ?_, fun b xs e => tups b xs (I.base.tups b xs e), fun b o xs e => frzs b o xs (I.base.frzs b o xs e), fun b ps e => ?_⟩, ?_, fun x c e => ?_, ?_, fun x c e => ?_, fun p hp => ?_, hok, I.len⟩
  · exact keep b o (neL b o e) hb (neC b o e hx) (I.base.keep b o e n hb hx) (I.base.free b o e n hx)
  · obtain ⟨sl, e1⟩ := I.base.slot b o e n hb hx
    obtain ⟨sl', e2⟩ := slot b _ (neL b o e) hb (neC b o e hx) e1 (I.base.free b o e n hx)
    exact ⟨sl', e2⟩
  · obtain ⟨o', e1⟩ := I.base.there b o e hx
    exact free b o' (neC b o e hx) e1 (I.base.free b o e n hx)
  · obtain ⟨o', e1⟩ := I.base.there b o e hx
    exact there b o' (neC b o e hx) e1
  · obtain ⟨m1, e1⟩ := I.base.tbls b ps e
    obtain ⟨m2, e2⟩ := tbls b _ e1
    exact ⟨m1 ++ m2, by rw [e2, Array.append_assoc]⟩
  · obtain ⟨m, hn, hl⟩ := I.loc
    refine ⟨m, ns m hn, fun i x v e1 e2 e3 => ?_⟩
    obtain ⟨u, r, l⟩ := hl i x v e1 e2 e3
    refine ⟨u, r, ?_⟩
    rcases l with l | ⟨k, c, e, z⟩
    · exact .inl l
    · exact .inr ⟨k, c, e, cellK x c e _ z⟩
  · obtain ⟨v, z⟩ := I.cell x c e
    exact ⟨v, cellK x c e v z⟩
  · obtain ⟨m, ⟨o, _, _, ho, _⟩, _⟩ := I.loc
    exact free _ o (fun z => (hch _ z).2.1 rfl) ho I.free
  · obtain ⟨v, o, ho, hd⟩ := I.cell x c e
    exact free c o (fun z => (hch c z).2.2.1 x c e rfl) ho (I.freeC x c e)
  · obtain ⟨e, n, ne, nf, d⟩ := I.pin p hp
    have nch : p.1 ∉ ch := fun z => (hch p.1 z).2.2.2 p hp rfl
    exact ⟨keep p.1 p.2 ne nf nch e n, free p.1 p.2 nch e n, ne, nf, d⟩
/-- .. where the frame's own object is kept too -/
theorem Inv.un {t' : Nat} (I : Inv X pins σ H s) (u : Un X.fs [] H H' s.heap h') (hok : HOk X.prog X.w H' h') : Inv X pins σ H' { s with heap := h', toks := t' } := by
  obtain ⟨m, ⟨o, es, ep, ho, r⟩, _⟩ := id I.loc
  obtain ⟨sl, hL⟩ := u.any ho I.free (by simp)
  exact I.step (g' := s.gens) (d' := s.drawn) (ch := []) (fun _ z => nomatch z) (fun b o _ hb _ e n => u.keep b o e n hb (by simp)) (fun b o _ hb _ e n => u.slot b o e n hb (by simp)) (fun b o _ e n => u.free b o e n (by simp)) (fun b o _ e => u.there b o e (by simp)) u.tups u.frzs u.tbls (fun m' hm => by
    obtain ⟨o', es', ep', ho', r'⟩ := hm
    rw [ho] at ho'; cases ho'
    exact ⟨_, es', ep', hL, r'⟩) hok I.bare
/-- behind a call (or a comprehension's block): the slots of this frame may have changed too, the records at ch may have turned -/
theorem Inv.call {g' : Array GenState} {t' : Nat} {d' : Drawn} {ch : List Addr} (I : Inv X pins σ H s) (u : Un (frs X.stack) ch H H' s.heap h') (hok : HOk X.prog X.w H' h') (hg : AllBare g')
    (hch : ∀ b ∈ ch, (b ∈ X.ex ∨ X.s_0.heap.objs.size ≤ b) ∧ b ≠ X.env.locals ∧ (∀ x c, X.env.cells.lookup x = some c → c ≠ b) ∧ ∀ p ∈ X.pn ++ pins, p.1 ≠ b) :
    Inv X pins σ H' { s with heap := h', gens := g', drawn := d', toks := t' } := by
  obtain ⟨m, ⟨o, es, ep, ho, r⟩, _⟩ := id I.loc
  obtain ⟨sl, hL⟩ := u.any ho I.free fun z => (hch _ z).2.1 rfl
  exact I.step (ch := ch) hch (fun b o hL hb hc e n => u.keep b o e n (fun z => (List.mem_cons.mp (I.stkSub b z)).elim hL hb) hc) (fun b o _ _ hc e n => u.any e n hc) (fun b o hc e n => u.free b o e n hc) (fun b o hc e => u.there b o e hc) u.tups u.frzs u.tbls (fun m' hm => by
    obtain ⟨o', es', ep', ho', r'⟩ := hm
    rw [ho] at ho'; cases ho'
    exact ⟨_, es', ep', hL, r'⟩) hok hg
/-- an untracked record of ours (an iterator) has turned -/
theorem Inv.turned {t' : Nat} {it : Addr} (I : Inv X pins σ H s) (k : ∀ b o, b ≠ it → s.heap.get? b = some o → h'.get? b = some o) (hn : H it = none) (hL : it ≠ X.env.locals)
    (h1 : it ∈ X.ex ∨ X.s_0.heap.objs.size ≤ it) (h2 : ∀ x c, X.env.cells.lookup x = some c → c ≠ it) (h3 : ∀ p ∈ X.pn ++ pins, p.1 ≠ it) : Inv X pins σ H { s with heap := h', toks := t' } := by
  have nit : ∀ b u, H b = some u → b ≠ it := fun b u e z => by rw [z, hn] at e; cases e
  refine I.step (g' := s.gens) (d' := s.drawn) (ch := [it]) (fun b hb => ?_) (fun b o _ _ hc e _ => k b o (fun z => hc (by simp [z])) e) (fun b o _ _ hc e _ => ⟨o.slots, k b o (fun z => hc (by simp [z])) e⟩) (fun _ _ _ _ n => n)
    (fun b o hc e => ⟨o, k b o (fun z => hc (by simp [z])) e⟩) (fun _ _ e => e) (fun _ _ _ e => e) (fun b ps e => ⟨#[], by rw [e]; simp⟩) (fun m hm => ?_) (fun b u e => ?_) I.bare
  · have e : b = it := by simpa using hb
    subst e
    exact ⟨h1, hL, h2, h3⟩
  · obtain ⟨o, es, ep, ho, r⟩ := hm
    exact ⟨o, es, ep, k _ o (Ne.symm hL) ho, r⟩
  · refine (I.hok b u e).stay (fun c v hc q => k c v ?_ q) (fun _ q => q) fun _ _ q => q
    rcases hc with z | z
    · rw [z]; exact nit b u e
    · exact nit c _ z
theorem Inv.tok (I : Inv X pins σ H s) (t : Nat) : Inv X pins σ H { s with toks := t } := I.un (h' := s.heap) (t' := t) Un.refl I.hok
/-- all objects kept -/
theorem Inv.kept {t' : Nat} (I : Inv X pins σ H s) (k : ∀ b u, s.heap.get? b = some u → h'.get? b = some u) : Inv X pins σ H { s with heap := h', toks := t' } := I.un (Un.kept k) (I.hok.kept k)
/-- a new object laid and tracked -/
theorem Inv.laid {a : Addr} {o : HO} {t' : Nat} (I : Inv X pins σ H s) (k : ∀ b u, s.heap.get? b = some u → h'.get? b = some u) (hp : s.heap.objs.size ≤ a) (new : ObjOk X.prog X.w (upd H a o) h' a o) :
    Inv X pins σ (upd H a o) { s with heap := h', toks := t' } := I.un (Un.laid k hp (I.hok.fresh hp)) (I.hok.laid k hp new)
/-- an object written -/
theorem Inv.write {x e : Addr} {o : HO} {t' : Nat} (I : Inv X pins σ H s) (mu : Mut (H x)) (he : e = x ∨ H e = some (.own x)) (k : ∀ b u, b ≠ e → s.heap.get? b = some u → h'.get? b = some u) (heo : ∃ u, h'.get? e = some u)
    (new : ObjOk X.prog X.w (upd H x o) h' x o) : Inv X pins σ (upd H x o) { s with heap := h', toks := t' } := I.un (Un.write mu he k heo) (I.hok.write mu he k heo new)
/-- forgetting slots, pins -/
theorem Inv.weak {σ' : List (Option V)} (I : Inv X pins σ H s) (hl : σ'.length = σ.length) (w : ∀ (i : Nat) v, σ'[i]? = some (some v) → σ[i]? = some (some v)) : Inv X pins σ' H s :=
  ⟨I.ok, I.os, I.bare, I.base, let ⟨m, hn, hl'⟩ := I.loc; ⟨m, hn, fun i x v e1 e2 e3 => hl' i x v e1 (w i v e2) e3⟩, I.cell, I.free, I.freeC, I.pin, I.hok, hl.trans I.len⟩
theorem Inv.pins_of {pins' : List (Addr × Obj)} (I : Inv X pins σ H s) (h : ∀ p ∈ pins', s.heap.get? p.1 = some p.2 ∧ H p.1 = none ∧ p.1 ≠ X.env.locals ∧ p.1 ∉ X.fs ∧ ∀ v, p.2.data ≠ .cell v) : Inv X pins' σ H s :=
  ⟨I.ok, I.os, I.bare, I.base, I.loc, I.cell, I.free, I.freeC, fun p hp => (List.mem_append.mp hp).elim (fun z => I.pin p (List.mem_append_left _ z)) (h p), I.hok, I.len⟩
theorem nodup_ix {N : List Str} (hN : N.Nodup) {i j : Nat} {x : Str} (a : N[i]? = some x) (b : N[j]? = some x) : i = j := by
  obtain ⟨h1, e1⟩ := List.getElem?_eq_some_iff.mp a
  obtain ⟨h2, e2⟩ := List.getElem?_eq_some_iff.mp b
  exact (List.getElem_inj hN).mp (e1.trans e2.symm)
/-- a name is stored; what changed -/
theorem store_ok2 {M : Model} {A : Around} {E : Value → Shared → Prop} {i : Nat} {x : Str} {v : V} {u : Value} {Q : Unit → Shared → Prop} (I : Inv X pins σ H s) (hN : X.N.Nodup) (hi : X.N[i]? = some x) (hx : Loc X.env.scope x) (r : RelV v u)
    (h : ∀ s', Inv X pins (σ.set i (some v)) H s' → (∃ a, Heap.SameBut a s.heap s'.heap ∧ (a = X.env.locals ∨ X.env.cells.lookup x = some a)) → Q () s') (hf : X.fn x = true ∨ X.env.scope.names.lookup x = some .local := by first | exact .inl rfl | exact .inr rfl | assumption) : wpAny M A (storeName X.env x u) Q E s := by
  obtain ⟨m, hn, hl⟩ := id I.loc
  have hcls : (X.env.scope.kind == .class || (X.env.scope.kind == .module && X.env.locals != X.env.globals)) = false := by rw [I.ok.kind]; rfl
  have hiσ : i < σ.length := by rw [I.len]; exact (List.getElem?_eq_some_iff.mp hi).1
  have cne := I.cne
  have tracked : ∀ {a : Addr} {h' : Heap}, (∃ o, s.heap.get? a = some o ∧ H a = none) → Heap.SameBut a s.heap h' → HOk X.prog X.w H h' := fun {a h'} ha hs b ob e => by
    obtain ⟨_, _, hfree⟩ := ha
    refine (I.hok b ob e).stay (fun c w' hc q => (hs.2 c ?_).trans q) (fun _ q => q) fun _ _ q => q
    rintro rfl
    rcases hc with rfl | hc
    · rw [hfree] at e; cases e
    · rw [hfree] at hc; cases hc
  rcases hx with hk | hk
  · refine wpAny_storeName_local hk hn (fun h' hn' hs => ?_) hcls
    obtain ⟨oL, _, _, hoL, _⟩ := id hn
    refine h _ ⟨I.ok, I.os, I.bare, ⟨fun b o e n hb hx => ?_, fun b o e n hb hx => ?_, I.base.free, fun b o e hx => ?_, I.base.tups, I.base.frzs, I.base.tbls⟩, ⟨_, hn', fun j y v' e1 e2 e3 => ?_⟩, fun y c e => ?_, I.free, I.freeC, fun p hp => ?_, tracked ⟨oL, hoL, I.free⟩ hs, by simpa using I.len⟩ ⟨_, hs, .inl rfl⟩
    · exact (hs.2 b (Nat.ne_of_lt (Nat.lt_of_lt_of_le (Heap.lt_size e) I.ok.above))).trans (I.base.keep b o e n hb hx)
    · obtain ⟨sl, e1⟩ := I.base.slot b o e n hb hx
      exact ⟨sl, (hs.2 b (Nat.ne_of_lt (Nat.lt_of_lt_of_le (Heap.lt_size e) I.ok.above))).trans e1⟩
    · obtain ⟨o', e1⟩ := I.base.there b o e hx
      exact ⟨o', (hs.2 b (Nat.ne_of_lt (Nat.lt_of_lt_of_le (Heap.lt_size e) I.ok.above))).trans e1⟩
    · by_cases hj : j = i
      · subst hj
        rw [hi] at e1; cases e1
        rw [List.getElem?_set_self hiσ] at e2
        cases e2
        exact ⟨u, r, .inl ⟨hk, by simp⟩⟩
      · rw [List.getElem?_set_ne (Ne.symm hj)] at e2
        obtain ⟨u', r', q⟩ := hl j y v' e1 e2 e3
        refine ⟨u', r', ?_⟩
        rcases q with ⟨k, e⟩ | ⟨k, c, e, z⟩
        · refine .inl ⟨k, ?_⟩
          have : y ≠ x := fun e => hj (nodup_ix hN e1 (e ▸ hi))
          simp [this, e]
        · exact .inr ⟨k, c, e, z.sameBut hs (cne y c e)⟩
    · obtain ⟨w', z⟩ := I.cell y c e
      exact ⟨w', z.sameBut hs (cne y c e)⟩
    · obtain ⟨e, n, ne, nf, d⟩ := I.pin p hp
      exact ⟨(hs.2 p.1 ne).trans e, n, ne, nf, d⟩
  · have hfn : X.fn x = true := by
      rcases hf with z | z
      · exact z
      · rw [z] at hk; cases hk
    obtain ⟨c, hc⟩ := I.ok.has x (.inl hk)
    obtain ⟨w', z⟩ := I.cell x c hc
    refine wpAny_storeName_cell I.ok.kind hk hc z (fun h' hc' hs => ?_)
    obtain ⟨oc, hoc, hocd⟩ := id z
    refine h { s with heap := h' } ⟨I.ok, I.os, I.bare, ⟨fun b o e n hb hx => ?_, fun b o e n hb hx => ?_, I.base.free, fun b o e hx => ?_, I.base.tups, I.base.frzs, I.base.tbls⟩, ⟨m, hn.sameBut hs (Ne.symm (cne x c hc)), fun j y v' e1 e2 e3 => ?_⟩, fun y c' e => ?_, I.free, I.freeC, fun p hp => ?_, tracked ⟨oc, hoc, I.freeC x c hc⟩ hs, by simpa using I.len⟩ ⟨c, hs, .inr hc⟩
    · exact (hs.2 b (Nat.ne_of_lt (Nat.lt_of_lt_of_le (Heap.lt_size e) (I.ok.cab x c hfn hc)))).trans (I.base.keep b o e n hb hx)
    · obtain ⟨sl, e1⟩ := I.base.slot b o e n hb hx
      exact ⟨sl, (hs.2 b (Nat.ne_of_lt (Nat.lt_of_lt_of_le (Heap.lt_size e) (I.ok.cab x c hfn hc)))).trans e1⟩
    · obtain ⟨o', e1⟩ := I.base.there b o e hx
      exact ⟨o', (hs.2 b (Nat.ne_of_lt (Nat.lt_of_lt_of_le (Heap.lt_size e) (I.ok.cab x c hfn hc)))).trans e1⟩
    · by_cases hj : j = i
      · subst hj
        rw [hi] at e1; cases e1
        rw [List.getElem?_set_self hiσ] at e2
        cases e2
        exact ⟨u, r, .inr ⟨.inl hk, c, hc, hc'⟩⟩
      · rw [List.getElem?_set_ne (Ne.symm hj)] at e2
        obtain ⟨u', r', q⟩ := hl j y v' e1 e2 e3
        refine ⟨u', r', ?_⟩
        rcases q with q | ⟨k, c', e, z'⟩
        · exact .inl q
        · refine .inr ⟨k, c', e, z'.sameBut hs ?_⟩
          rintro rfl
          exact hj (nodup_ix hN e1 (I.ok.inj _ _ _ e hc ▸ hi))
    · by_cases hcc : c' = c
      · subst hcc; exact ⟨_, hc'⟩
      · obtain ⟨w2, z2⟩ := I.cell y c' e
        exact ⟨w2, z2.sameBut hs hcc⟩
    · obtain ⟨e, n, ne, nf, d⟩ := I.pin p hp
      refine ⟨(hs.2 p.1 ?_).trans e, n, ne, nf, d⟩
      intro q
      rw [q, hoc] at e
      have q' : oc = p.2 := Option.some.inj e
      exact d w' (by rw [← q']; exact hocd)
theorem store_ok {M : Model} {A : Around} {E : Value → Shared → Prop} {i : Nat} {x : Str} {v : V} {u : Value} {Q : Unit → Shared → Prop} (I : Inv X pins σ H s) (hN : X.N.Nodup) (hi : X.N[i]? = some x) (hx : Loc X.env.scope x) (r : RelV v u)
    (h : ∀ s', Inv X pins (σ.set i (some v)) H s' → Q () s') (hf : X.fn x = true ∨ X.env.scope.names.lookup x = some .local := by first | exact .inl rfl | exact .inr rfl | assumption) : wpAny M A (storeName X.env x u) Q E s :=
  store_ok2 I hN hi hx r (fun s' I' _ => h s' I') hf
/-- behind a call or a block, the state as it is -/
theorem Inv.call' {s' : Shared} {ch : List Addr} (I : Inv X pins σ H s) (ho : s'.os = s.os) (u : Un (frs X.stack) ch H H' s.heap s'.heap) (hok : HOk X.prog X.w H' s'.heap) (hg : AllBare s'.gens)
    (hch : ∀ b ∈ ch, (b ∈ X.ex ∨ X.s_0.heap.objs.size ≤ b) ∧ b ≠ X.env.locals ∧ (∀ x c, X.env.cells.lookup x = some c → c ≠ b) ∧ ∀ p ∈ X.pn ++ pins, p.1 ≠ b) : Inv X pins σ H' s' := by
  obtain ⟨h', g', d', t', o'⟩ := s'
  have e : o' = s.os := ho
  subst e
  exact I.call (g' := g') (t' := t') (d' := d') u hok hg hch
end
/-- an exception: its class, its own dict's address (where it has one), the abstract heap behind it -/
abbrev XK := Value → Option Addr → Hp → Prop
abbrev St := List (Option V)
abbrev VK := V → Hp → Prop
/-- an expression's reading; a test's; an argument list's -/
abbrev TE := St → Hp → VK → Prop
abbrev TT := St → Hp → (Bool → Hp → Prop) → Prop
abbrev TA := St → Hp → (List V → Hp → Prop) → Prop
/-- what is wanted behind a statement -/
structure Ends where
  nx : St → Hp → Prop
  rt : VK
  bk : St → Hp → Prop := fun _ _ => False
  ct : St → Hp → Prop := fun _ _ => False
abbrev TS := Ends → St → Hp → Prop
def EP (X : Cx) (pins : List (Addr × Obj)) (σ : St) (Q : VK) (u : Value) (s' : Shared) : Prop := ∃ v H', Inv X pins σ H' s' ∧ RelV v u ∧ Q v H'
def TP (X : Cx) (pins : List (Addr × Obj)) (σ : St) (Q : Bool → Hp → Prop) (b : Bool) (s' : Shared) : Prop := ∃ H', Inv X pins σ H' s' ∧ Q b H'
def AP (X : Cx) (pins : List (Addr × Obj)) (σ : St) (Q : List V → Hp → Prop) (us : List Value) (s' : Shared) : Prop := ∃ vs H', Inv X pins σ H' s' ∧ Vals vs us ∧ Q vs H'
def SP (X : Cx) (pins : List (Addr × Obj)) (D : Ends) (f : Flow) (s' : Shared) : Prop :=
  match f with
  | .next => ∃ σ' H', Inv X pins σ' H' s' ∧ D.nx σ' H'
  | .brk => ∃ σ' H', Inv X pins σ' H' s' ∧ D.bk σ' H'
  | .cont => ∃ σ' H', Inv X pins σ' H' s' ∧ D.ct σ' H'
  | .ret u => ∃ v σ' H', Inv X pins σ' H' s' ∧ RelV v u ∧ D.rt v H'
def PE (X : Cx) (e : Expr) (t : TE) : Prop :=
  ∀ (pins : List (Addr × Obj)) (s : Shared) (σ : St) (H : Hp) (Q : VK), Inv X pins σ H s → t σ H Q → wpAny (model X.prog X.w) X.A (eval e X.env) (EP X pins σ Q) X.xe s
def PT (X : Cx) (e : Expr) (t : TT) : Prop :=
  ∀ (pins : List (Addr × Obj)) (s : Shared) (σ : St) (H : Hp) (Q : Bool → Hp → Prop), Inv X pins σ H s → t σ H Q → wpAny (model X.prog X.w) X.A (isTrue e X.env (eval e X.env)) (TP X pins σ Q) X.xe s
/-- a test whatever its 'whole' is (and, or) -/
def PW (X : Cx) (e : Expr) (t : TT) : Prop :=
  ∀ (whole : Sem Value) (pins : List (Addr × Obj)) (s : Shared) (σ : St) (H : Hp) (Q : Bool → Hp → Prop), Inv X pins σ H s → t σ H Q → wpAny (model X.prog X.w) X.A (isTrue e X.env whole) (TP X pins σ Q) X.xe s
theorem PW.pt {X : Cx} {e : Expr} {t : TT} (h : PW X e t) : PT X e t := h _
/-- an argument list (no star), from the left -/
def PA (X : Cx) (es : List Expr) (t : TA) : Prop :=
  ∀ (pos : Pos) (pins : List (Addr × Obj)) (s : Shared) (σ : St) (H : Hp) (Q : List V → Hp → Prop), Inv X pins σ H s → t σ H Q → wpAny (model X.prog X.w) X.A (spliced (backTo pos (starEach es X.env))) (AP X pins σ Q) X.xe s
def PS (X : Cx) (st : Stmt) (t : TS) : Prop :=
  ∀ (pins : List (Addr × Obj)) (s : Shared) (σ : St) (H : Hp) (D : Ends), Inv X pins σ H s → t D σ H → wpAny (model X.prog X.w) X.A (exec st X.env) (SP X pins D) X.xe s
def PSs (X : Cx) (st : List Stmt) (t : TS) : Prop :=
  ∀ (pins : List (Addr × Obj)) (s : Shared) (σ : St) (H : Hp) (D : Ends), Inv X pins σ H s → t D σ H → wpAny (model X.prog X.w) X.A (execs st X.env) (SP X pins D) X.xe s
/-- weaken the end -/
theorem thn {α : Type} {t : Sem α} {Q Q' : α → Shared → Prop} {M : Model} {A : Around} {E : Value → Shared → Prop} {s : Shared} (h : wpAny M A t Q E s) (hQ : ∀ a s, Q a s → Q' a s) : wpAny M A t Q' E s := wpAny_mono h hQ fun _ _ x => x
end L2
namespace L2
open PySem PySem.Spec PyProof.Rows
section
variable {X : Cx}
def tVar (i : Nat) : TE := fun σ H Q => ∃ v, σ[i]? = some (some v) ∧ Q v H
def tC (v : V) : TE := fun _ H Q => Q v H
theorem pe_var {i : Nat} {x : Str} {pos : Pos} (hN : X.N[i]? = some x) (hv : Vis X.env.scope x) (hd : (x == ("__debug__" : Str)) = false := by decide) (hcd : (x == ("__classdict__" : Str)) = false := by decide) : PE X (.Name x pos) (tVar i) := by
  intro pins s σ H Q I h
  obtain ⟨v, e, h⟩ := h
  obtain ⟨m, hn, hl⟩ := I.loc
  obtain ⟨u, r, l⟩ := hl i x v hN e hv
  have fin : EP X pins σ Q u s := ⟨v, H, I, r, h⟩
  rcases l with ⟨hk, hm⟩ | ⟨hk, c, hc, hcell⟩
  · exact wpAny_Name (wpAny_loadName_local I.ok.kind hk hn hm fin) hd
  · rcases hk with hk | hk
    · exact wpAny_Name (wpAny_loadName_cell I.ok.kind hk hc hcell fin) hd
    · exact wpAny_Name (wpAny_loadName_free I.ok.kind hk hc hcell fin hcd) hd
theorem pe_int {i j pos} : PE X (.Constant (.int i) j pos) (tC (.int i)) := fun _ _ _ H _ I h => wpAny_Constant_int ⟨.int i, H, I.tok _, ⟨_, rfl⟩, h⟩
theorem pe_bl {b j pos} : PE X (.Constant (.bool b) j pos) (tC (.bl b)) := fun _ _ _ H _ I h => Constant_bool ⟨.bl b, H, I, rfl, h⟩
theorem pe_non {j pos} : PE X (.Constant .none j pos) (tC .non) := fun _ _ _ H _ I h => Constant_none ⟨.non, H, I, rfl, h⟩
theorem pe_str {x j pos} : PE X (.Constant (.str x) j pos) (tC (.str x)) := fun _ _ _ H _ I h => Calls.Constant_str ⟨.str x, H, I.tok _, ⟨_, rfl⟩, h⟩
/-- a global name of the def -/
def Gl (X : Cx) (x : Str) : Prop := X.env.kindOf x = some .globalImplicit
theorem ld_glob {E : Value → Shared → Prop} {pins : List (Addr × Obj)} {s : Shared} {σ : St} {H : Hp} {x : Str} {u : Value} {pos : Pos} {Q : Value → Shared → Prop} (I : Inv X pins σ H s) (hg : Gl X x) (hm : X.mg x = some u) (h : Q u s)
    (hd : (x == ("__debug__" : Str)) = false := by decide) : wpAny (model X.prog X.w) X.A (eval (.Name x pos) X.env) Q E s :=
  Calls.Name_function_global I.ok.kind hg (Calls.loadGlobal_global (by rw [I.ok.glob]; exact I.mod.glob.keeps I.bk) hm h) hd
theorem ld_blt {E : Value → Shared → Prop} {pins : List (Addr × Obj)} {s : Shared} {σ : St} {H : Hp} {x : Str} {u : Value} {pos : Pos} {Q : Value → Shared → Prop} (I : Inv X pins σ H s) (hg : Gl X x) (hm : X.mg x = none) (hv : bootBuiltins x = some u) (h : Q u s)
    (hn : x ≠ "__name__" := by decide) (hd : (x == ("__debug__" : Str)) = false := by decide) : wpAny (model X.prog X.w) X.A (eval (.Name x pos) X.env) Q E s := by
  obtain ⟨mb, h1, h2⟩ := I.mod.blt
  exact Calls.Name_function_global I.ok.kind hg (Calls.loadGlobal_builtin (by rw [I.ok.glob]; exact I.mod.glob.keeps I.bk) hm (by rw [I.ok.blt]; exact h1.keeps I.bk) ((h2 x hn).trans hv) h) hd
/-- a module's constant, a class, a function, as a value -/
theorem pe_glob {x : Str} {v : V} {u : Value} {pos : Pos} (hg : Gl X x) (hm : X.mg x = some u) (r : RelV v u) (hd : (x == ("__debug__" : Str)) = false := by decide) : PE X (.Name x pos) (tC v) :=
  fun _ _ _ H _ I h => ld_glob I hg hm ⟨v, H, I, r, h⟩ hd
theorem pe_bltn {x : Str} {v : V} {u : Value} {pos : Pos} (hg : Gl X x) (hm : X.mg x = none) (hv : bootBuiltins x = some u) (r : RelV v u) (hn : x ≠ "__name__" := by decide) (hd : (x == ("__debug__" : Str)) = false := by decide) : PE X (.Name x pos) (tC v) :=
  fun _ _ _ H _ I h => ld_blt I hg hm hv ⟨v, H, I, r, h⟩ hn hd
variable {a b : Expr} {ta tb : TE} {pos : Pos}
/-- a comparison as a value, as a test -/
def tB (t : TE) : TT := fun σ H Q => t σ H fun x H1 => ∃ c, x = .bl c ∧ Q c H1
/-- an expression whose value is a bool, as a test -/
theorem pt_val {e : Expr} {t : TE} (h : PE X e t) (he : ∀ whole, isTrue e X.env whole = (do let v ← whole; standAt e.pos; holding [v] (truthy v)) := by intro _; rfl) : PT X e (tB t) := by
  intro pins s σ H Q I hw
  refine isTrue_plain (thn (h pins s σ H _ I hw) fun v s1 ⟨x, H1, I1, r1, q1⟩ => ?_) (he _)
  obtain ⟨d, rfl, q⟩ := q1
  cases r1
  exact wpAny_truthy_bool ⟨H1, I1, q⟩
variable {tA tB' : TT} {rest : List Expr}
def tAnd (t u : TT) : TT := fun σ H Q => t σ H fun c H1 => if c = true then u σ H1 Q else Q false H1
def tOr (t u : TT) : TT := fun σ H Q => t σ H fun c H1 => if c = true then Q true H1 else u σ H1 Q
def tNot (t : TT) : TT := fun σ H Q => t σ H fun c H1 => Q (!c) H1
theorem pw_and1 (ha : PT X a tA) : PW X (.BoolOp .And [a] pos) tA := by
  intro wh pins s σ H Q I h
  refine isTrue_and (thn (ha pins s σ H Q I h) fun c s1 e => ?_)
  cases c with
  | true => exact isTrue_and_nil e
  | false => exact e
theorem pw_or1 (ha : PT X a tA) : PW X (.BoolOp .Or [a] pos) tA := by
  intro wh pins s σ H Q I h
  refine isTrue_or (thn (ha pins s σ H Q I h) fun c s1 e => ?_)
  cases c with
  | false => exact isTrue_or_nil e
  | true => exact e
theorem pw_and (ha : PT X a tA) (hb : PW X (.BoolOp .And (b :: rest) pos) tB') : PW X (.BoolOp .And (a :: b :: rest) pos) (tAnd tA tB') := by
  intro wh pins s σ H Q I h
  refine isTrue_and (thn (ha pins s σ H _ I h) fun c s1 ⟨H1, I1, q1⟩ => ?_)
  cases c with
  | true => exact hb wh pins s1 σ H1 Q I1 q1
  | false => exact ⟨H1, I1, q1⟩
theorem pw_or (ha : PT X a tA) (hb : PW X (.BoolOp .Or (b :: rest) pos) tB') : PW X (.BoolOp .Or (a :: b :: rest) pos) (tOr tA tB') := by
  intro wh pins s σ H Q I h
  refine isTrue_or (thn (ha pins s σ H _ I h) fun c s1 ⟨H1, I1, q1⟩ => ?_)
  cases c with
  | true => exact ⟨H1, I1, q1⟩
  | false => exact hb wh pins s1 σ H1 Q I1 q1
theorem pt_not (ha : PT X a tA) : PT X (.UnaryOp .Not a pos) (tNot tA) := by
  intro pins s σ H Q I h
  exact isTrue_not (ha pins s σ H (fun c H1 => Q (!c) H1) I h)
/-- .. as values (bools) -/
def tAndV (ta tb : TE) : TE := fun σ H Q => ta σ H fun x H1 => ∃ c, x = .bl c ∧ if c = true then tb σ H1 Q else Q (.bl false) H1
def tNotV (ta : TE) : TE := fun σ H Q => ta σ H fun x H1 => ∃ c, x = .bl c ∧ Q (.bl (!c)) H1
theorem pe_one {op} {t : TE} (h : PE X a t) : PE X (.BoolOp op [a] pos) t := fun pins s σ H Q I hw => BoolOp_one (h pins s σ H Q I hw)
theorem pe_and (ha : PE X a ta) (hb : PE X (.BoolOp .And (b :: rest) pos) tb) : PE X (.BoolOp .And (a :: b :: rest) pos) (tAndV ta tb) := by
  intro pins s σ H Q I h
  refine BoolOp_and (thn (ha pins s σ H _ I h) fun v s1 ⟨x, H1, I1, r1, q1⟩ => ?_)
  obtain ⟨c, rfl, q1⟩ := q1
  cases r1
  refine wpAny_truthy_bool ?_
  cases c with
  | true => exact hb pins s1 σ H1 Q I1 q1
  | false => exact ⟨.bl false, H1, I1, rfl, q1⟩
theorem pe_not (ha : PE X a ta) : PE X (.UnaryOp .Not a pos) (tNotV ta) := by
  intro pins s σ H Q I h
  refine UnaryOp_ (thn (ha pins s σ H _ I h) fun v s1 ⟨x, H1, I1, r1, q1⟩ => ?_)
  obtain ⟨c, rfl, q1⟩ := q1
  cases r1
  exact not_of (wpAny_truthy_bool ⟨.bl (!c), H1, I1, rfl, q1⟩)
/-- a if t else b -/
def tIf (t : TT) (ta tb : TE) : TE := fun σ H Q => t σ H fun c H1 => if c = true then ta σ H1 Q else tb σ H1 Q
theorem pe_ifExp {c : Expr} (hc : PT X c tA) (ha : PE X a ta) (hb : PE X b tb) : PE X (.IfExp c a b pos) (tIf tA ta tb) := by
  intro pins s σ H Q I h
  refine wpAny_IfExp (thn (hc pins s σ H _ I h) fun d s1 ⟨H1, I1, q1⟩ => ?_)
  cases d with
  | true => exact ha pins s1 σ H1 Q I1 q1
  | false => exact hb pins s1 σ H1 Q I1 q1
end
end L2
namespace L2
open PySem PySem.Spec PyProof.Rows
def SqL (K : PySem.W.Frag) (H : Hp) (a : Addr) (xs : List V) : Prop :=
  Rd H a (.lst xs) ∨
    ∃ (o : Obj) (its : Array Value) (n : Nat), K.lookup a = some o ∧ o.cls = .type "list" ∧ o.dict = none ∧ o.data = .seq its n ∧ its.size ≤ sizeLine ∧ Vals xs its.toList
def SqT (K : PySem.W.Frag) (H : Hp) (a : Addr) (xs : List V) : Prop :=
  Rd H a (.tup xs) ∨
    ∃ (o : Obj) (its : Array Value) (n : Nat), K.lookup a = some o ∧ o.cls = .type "tuple" ∧ o.data = .seq its n ∧ its.size ≤ sizeLine ∧ Vals xs its.toList
def absV : Value → Option V
  | .none => some .non
  | .bool b => some (.bl b)
  | .int i _ => some (.int i)
  | .str x _ => some (.str x)
  | .bytes b _ => some (.byt b)
  | .float b _ => some (.flt b)
  | .ref a => some (.ref a)
  | .type n => some (.ty n)
  | _ => none
theorem RelV.abs {x : V} {u : Value} (r : RelV x u) : absV u = some x := by
  cases x with
  | non => cases r; rfl
  | bl _ => cases r; rfl
  | int _ => obtain ⟨t, rfl⟩ := r; rfl
  | str _ => obtain ⟨t, rfl⟩ := r; rfl
  | byt _ => obtain ⟨t, rfl⟩ := r; rfl
  | flt _ => obtain ⟨t, rfl⟩ := r; rfl
  | ref _ => cases r; rfl
  | ty _ => cases r; rfl
theorem RelV.inj {x y : V} {u : Value} (r : RelV x u) (q : RelV y u) : x = y := Option.some.inj (r.abs.symm.trans q.abs)
theorem Vals.inj : ∀ {xs ys : List V} {us : List Value}, Vals xs us → Vals ys us → xs = ys
  | _, _, _, .nil, .nil => rfl
  | _, _, _, .cons r t, .cons r' t' => by rw [r.inj r', Vals.inj t t']
section
variable {X : Cx} {pins : List (Addr × Obj)} {σ : St} {H : Hp} {s : Shared} {a : Addr} {xs ys : List V}
theorem SqL.of {K : PySem.W.Frag} (h : H a = some (.lst xs)) : SqL K H a xs := .inl (.inl h)
theorem SqT.of {K : PySem.W.Frag} (h : H a = some (.tup xs)) : SqT K H a xs := .inl (.inl h)
theorem Inv.list (I : Inv X pins σ H s) (h : SqL X.K H a xs) : ∃ its : List Value, Vals xs its ∧ PlainL s.heap a its.toArray ∧ xs.length ≤ sizeLine := by
  rcases h with h | ⟨o, its, n, hk, hc, hd, hs, hz, r⟩
  · obtain ⟨z, its, n, r, e⟩ := h.ok I.hok
    exact ⟨its, r, ⟨_, n, e, rfl, rfl, rfl⟩, z⟩
  · refine ⟨its.toList, r, ⟨o, n, I.kIn a o hk, hc, hd, by simpa using hs⟩, ?_⟩
    have e := r.length
    simp only [Array.length_toList] at e
    omega
theorem Inv.tuple (I : Inv X pins σ H s) (h : SqT X.K H a xs) : ∃ its : List Value, Vals xs its ∧ IsTup s.heap a its.toArray ∧ xs.length ≤ sizeLine := by
  rcases h with h | ⟨o, its, n, hk, hc, hs, hz, r⟩
  · obtain ⟨z, its, r, p⟩ := h.ok I.hok
    exact ⟨its, r, p, z⟩
  · refine ⟨its.toList, r, ⟨o, I.kIn a o hk, hc, n, by simpa using hs⟩, ?_⟩
    have e := r.length
    simp only [Array.length_toList] at e
    omega
theorem Inv.list_inj (I : Inv X pins σ H s) (h : SqL X.K H a xs) (h' : SqL X.K H a ys) : xs = ys := by
  obtain ⟨its, r, ⟨o, n, e, _, _, d⟩, _⟩ := I.list h
  obtain ⟨its', r', ⟨o', n', e', _, _, d'⟩, _⟩ := I.list h'
  rw [e] at e'; cases e'
  rw [d] at d'
  injection d' with d1 _
  have : its = its' := by simpa using congrArg Array.toList d1
  subst this
  exact r.inj r'
end
abbrev Cx.wish (X : Cx) (E : Value → Shared → Prop) : Cx := { X with xe := E }
/-- no exception leaves -/
abbrev Cx.nox (X : Cx) : Cx := X.wish fun _ _ => False
theorem Cx.Ok.wish {X : Cx} (ok : X.Ok) (E : Value → Shared → Prop) : (X.wish E).Ok :=
  ⟨ok.mod, ok.kind, ok.glob, ok.blt, ok.above, ok.inj, ok.has, ok.cab, ok.hd, ok.frames, ok.stk, ok.exf, ok.bs, ok.bsz, ok.noex, ok.exfs, ok.funs, ok.frf⟩
theorem Cx.Ok.unwish {X : Cx} {E : Value → Shared → Prop} (ok : (X.wish E).Ok) : X.Ok :=
  ⟨ok.mod, ok.kind, ok.glob, ok.blt, ok.above, ok.inj, ok.has, ok.cab, ok.hd, ok.frames, ok.stk, ok.exf, ok.bs, ok.bsz, ok.noex, ok.exfs, ok.funs, ok.frf⟩
section
variable {X : Cx} {pins : List (Addr × Obj)} {σ : St} {H : Hp} {s : Shared} {E : Value → Shared → Prop}
theorem Inv.wish (I : Inv X pins σ H s) (E : Value → Shared → Prop) : Inv (X.wish E) pins σ H s := ⟨I.ok.wish E, I.os, I.bare, I.base, I.loc, I.cell, I.free, I.freeC, I.pin, I.hok, I.len⟩
theorem Inv.unwish (I : Inv (X.wish E) pins σ H s) : Inv X pins σ H s := ⟨I.ok.unwish, I.os, I.bare, I.base, I.loc, I.cell, I.free, I.freeC, I.pin, I.hok, I.len⟩
theorem SP.unwish {D : Ends} {f : Flow} {s' : Shared} (h : SP (X.wish E) pins D f s') : SP X pins D f s' := by
  cases f with
  | next => obtain ⟨σ', H', I, q⟩ := h; exact ⟨σ', H', I.unwish, q⟩
  | brk => obtain ⟨σ', H', I, q⟩ := h; exact ⟨σ', H', I.unwish, q⟩
  | cont => obtain ⟨σ', H', I, q⟩ := h; exact ⟨σ', H', I.unwish, q⟩
  | ret u => obtain ⟨v, σ', H', I, r, q⟩ := h; exact ⟨v, σ', H', I.unwish, r, q⟩
theorem PE.nox {e : Expr} {t : TE} (h : PE X.nox e t) : PE X e t := fun pins s σ H Q I hw =>
  wpAny_mono (h pins s σ H Q (I.wish _) hw) (fun _ _ ⟨v, H', I', r, q⟩ => ⟨v, H', I'.unwish, r, q⟩) fun _ _ z => False.elim z
theorem PT.nox {e : Expr} {t : TT} (h : PT X.nox e t) : PT X e t := fun pins s σ H Q I hw =>
  wpAny_mono (h pins s σ H Q (I.wish _) hw) (fun _ _ ⟨H', I', q⟩ => ⟨H', I'.unwish, q⟩) fun _ _ z => False.elim z
theorem PSs.nox {st : List Stmt} {t : TS} (h : PSs X.nox st t) : PSs X st t := fun pins s σ H D I hw =>
  wpAny_mono (h pins s σ H D (I.wish _) hw) (fun _ _ q => q.unwish) fun _ _ z => False.elim z
end
section
variable {X : Cx} {st : Stmt} {rest : List Stmt} {t u : TS} {e : Expr} {te : TE} {pos : Pos}
def tNext : TS := fun D σ H => D.nx σ H
def tSeq (t u : TS) : TS := fun D σ H => t { D with nx := u D } σ H
theorem pss_nil : PSs X [] tNext := fun _ _ σ H _ I h => wpAny_execs_nil ⟨σ, H, I, h⟩
theorem pss_cons (h1 : PS X st t) (h2 : PSs X rest u) : PSs X (st :: rest) (tSeq t u) := by
  intro pins s σ H D I h
  refine wpAny_execs_cons (thn (h1 pins s σ H { D with nx := u D } I h) fun f s1 q => ?_)
  cases f with
  | next =>
    obtain ⟨σ', H', I', q⟩ := q
    exact h2 pins s1 σ' H' D I' q
  | ret v => exact q
  | brk => exact q
  | cont => exact q
theorem pss_one (h1 : PS X st t) : PSs X [st] t := by
  intro pins s σ H D I h
  refine wpAny_execs_cons (thn (h1 pins s σ H D I h) fun f s1 q => ?_)
  cases f with
  | next => exact wpAny_execs_nil q
  | ret v => exact q
  | brk => exact q
  | cont => exact q
/-- in a def's body nothing is shown -/
theorem Inv.quiet {pins : List (Addr × Obj)} {σ : St} {H : Hp} {s : Shared} (I : Inv X pins σ H s) : interactive X.env = false := by simp [interactive, I.ok.kind]
/-- an expression whose value is dropped -/
def tDrop (te : TE) : TS := fun D σ H => te σ H fun _ H1 => D.nx σ H1
theorem ps_expr (he : PE X e te) (hs : swapsWith e none pos.line X.env = pure false := by rfl) : PS X (.Expr e pos) (tDrop te) := by
  intro pins s σ H D I h
  exact wpAny_Expr_any (thn (he pins s σ H _ I h) fun v s1 ⟨x, H1, I1, r1, q1⟩ => ⟨σ, H1, I1, q1⟩) I.quiet hs
def tRet (te : TE) : TS := fun D σ H => te σ H D.rt
theorem ps_ret (he : PE X e te) : PS X (.Return (some e) pos) (tRet te) := by
  intro pins s σ H D I h
  exact wpAny_Return_some (thn (he pins s σ H _ I h) fun v s1 ⟨x, H1, I1, r1, q1⟩ => ⟨x, σ, H1, I1, r1, q1⟩)
def tIfS (c : TT) (t u : TS) : TS := fun D σ H => c σ H fun b H1 => if b = true then t D σ H1 else u D σ H1
theorem ps_if {c : Expr} {a b : List Stmt} {tc : TT} (hc : PT X c tc) (ha : PSs X a t) (hb : PSs X b u) : PS X (.If c a b pos) (tIfS tc t u) := by
  intro pins s σ H D I h
  refine wpAny_If (thn (hc pins s σ H _ I h) fun d s1 ⟨H1, I1, q1⟩ => ?_)
  cases d with
  | true => exact ha pins s1 σ H1 D I1 q1
  | false => exact hb pins s1 σ H1 D I1 q1
/-- code that the proof never comes to -/
def tNever : TS := fun _ _ _ => False
theorem ps_never : PS X st tNever := fun _ _ _ _ _ _ h => h.elim
end
abbrev TG := V → St → Hp → (St → Hp → Prop) → Prop
abbrev TGs := List V → St → Hp → (St → Hp → Prop) → Prop
def PG (X : Cx) (target : Expr) (t : TG) : Prop :=
  ∀ (pins : List (Addr × Obj)) (s : Shared) (σ : St) (H : Hp) (v : V) (u : Value) (Q : St → Hp → Prop), Inv X pins σ H s → RelV v u → t v σ H Q →
    wpAny (model X.prog X.w) X.A (assign target X.env u) (fun _ s' => ∃ σ' H', Inv X pins σ' H' s' ∧ Q σ' H') X.xe s
/-- several targets, one after another -/
def PGs (X : Cx) (ts : List Expr) (t : TGs) : Prop :=
  ∀ (pins : List (Addr × Obj)) (s : Shared) (σ : St) (H : Hp) (vs : List V) (us : List Value) (Q : St → Hp → Prop), Inv X pins σ H s → Vals vs us → t vs σ H Q →
    wpAny (model X.prog X.w) X.A (assignInOrder ((assignEach ts X.env).map (·.2)) us) (fun _ s' => ∃ σ' H', Inv X pins σ' H' s' ∧ Q σ' H') X.xe s
/-- o[i] = v, by values -/
abbrev TSet := V → V → V → Hp → (Hp → Prop) → Prop
def PSet (X : Cx) (t : TSet) : Prop :=
  ∀ (pins : List (Addr × Obj)) (s : Shared) (σ : St) (H : Hp) (o i v : V) (ov iv u : Value) (Q : Hp → Prop), Inv X pins σ H s → RelV o ov → RelV i iv → RelV v u → t o i v H Q →
    wpAny (model X.prog X.w) X.A (setItem ov iv u) (fun _ s' => ∃ H', Inv X pins σ H' s' ∧ Q H') X.xe s
/-- a op= b, by values -/
abbrev TIp := V → V → Hp → VK → Prop
def PIp (X : Cx) (op : Operator) (t : TIp) : Prop :=
  ∀ (pins : List (Addr × Obj)) (s : Shared) (σ : St) (H : Hp) (x y : V) (v u : Value) (Q : VK), Inv X pins σ H s → RelV x v → RelV y u → t x y H Q →
    wpAny (model X.prog X.w) X.A (inplaceOp op v u) (EP X pins σ Q) X.xe s
section
variable {X : Cx} {pos : Pos}
def gName (i : Nat) : TG := fun v σ H Q => Q (σ.set i (some v)) H
theorem pg_name {i : Nat} {x : Str} (hN : X.N.Nodup) (hi : X.N[i]? = some x) (hx : Loc X.env.scope x) (hf : X.fn x = true ∨ X.env.scope.names.lookup x = some .local := by first | exact .inl rfl | exact .inr rfl | assumption) : PG X (.Name x pos) (gName i) := by
  intro pins s σ H v u Q I r h
  exact wpAny_assign_Name (store_ok I hN hi hx r (fun s' I' => ⟨_, H, I', h⟩) hf)
def gNil : TGs := fun vs σ H Q => vs = [] ∧ Q σ H
def gCons (t : TG) (u : TGs) : TGs := fun vs σ H Q => ∃ v r, vs = v :: r ∧ t v σ H fun σ' H' => u r σ' H' Q
theorem pgs_nil : PGs X [] gNil := by
  intro pins s σ H vs us Q I r h
  obtain ⟨e, h⟩ := h
  subst e
  cases r
  exact assignInOrder_nil ⟨σ, H, I, h⟩
theorem pgs_cons {e : Expr} {es : List Expr} {t : TG} {u : TGs} (h1 : PG X e t) (h2 : PGs X es u)
    (hs : (assignEach (e :: es) X.env).map (·.2) = assign e X.env :: (assignEach es X.env).map (·.2) := by rfl) : PGs X (e :: es) (gCons t u) := by
  intro pins s σ H vs us Q I r h
  obtain ⟨v, vr, e1, h⟩ := h
  subst e1
  cases r with
  | cons r rr =>
    rw [hs]
    refine assignInOrder_cons (thn (h1 pins s σ H _ _ _ I r h) fun _ s1 ⟨σ1, H1, I1, q1⟩ => ?_)
    exact h2 pins s1 σ1 H1 _ _ Q I1 rr q1
/-- (a, b, ..) = a tuple of that length -/
def gTup (K : PySem.W.Frag) (n : Nat) (t : TGs) : TG := fun v σ H Q => ∃ a xs, v = .ref a ∧ SqT K H a xs ∧ xs.length = n ∧ t xs σ H Q
theorem pg_tup {es : List Expr} {k : Nat} {t : TGs} {n : Nat} (hc : X.calm = true) (h : PGs X es t)
    (hn : (assignEach es X.env).length = n := by rfl) (hst : (assignEach es X.env).findIdx? (·.1) = none := by rfl) : PG X (.Tuple es k pos) (gTup X.K n t) := by
  intro pins s σ H v u Q I r hw
  obtain ⟨a, xs, e1, hq, hl, hw⟩ := hw
  subst e1
  cases r
  obtain ⟨its, rv, ht, hz⟩ := I.tuple hq
  refine assign_Tuple_tuple (I.ok.hd hc) ht (by simp [hn, ← hl, rv.length]) hst fun h' hx => ?_
  have I1 : Inv X pins σ H { s with heap := h' } := I.kept (t' := s.toks) fun b o e => hx b o (Nat.ne_of_lt (Heap.lt_size e)) e
  exact h pins _ σ H xs _ Q I1 (by simpa using rv) hw
/-- o[i] = .. -/
def gSub (to ti : TE) (t : TSet) : TG := fun v σ H Q => to σ H fun o H1 => ti σ H1 fun i H2 => t o i v H2 fun H3 => Q σ H3
theorem pg_sub {o i : Expr} {to ti : TE} {t : TSet} (ho : PE X o to) (hi : PE X i ti) (hs : PSet X t)
    (ha : ∀ v, assign (.Subscript o i pos) X.env v = (do
      let ov ← holding [v] (eval o X.env)
      let iv ← holding [v, ov] (eval i X.env)
      standAt pos
      holding [v, ov, iv] (setItem ov iv v)
      release [v, ov, iv] []) := by intro _; rfl) : PG X (.Subscript o i pos) (gSub to ti t) := by
  intro pins s σ H v u Q I r h
  rw [ha]
  refine wpAny_bind (wpAny_holding (thn (ho pins s σ H _ I h) fun ov s1 ⟨x, H1, I1, r1, q1⟩ => ?_))
  refine wpAny_bind (wpAny_holding (thn (hi pins s1 σ H1 _ I1 q1) fun iv s2 ⟨y, H2, I2, r2, q2⟩ => ?_))
  refine wpAny_bind (wpAny_standAt (wpAny_bind (wpAny_holding (thn (hs pins s2 σ H2 x y v ov iv u _ I2 r1 r2 r q2) fun _ s3 ⟨H3, I3, q3⟩ => ?_))))
  exact wpAny_release ⟨σ, H3, I3, q3⟩
/-- target = value -/
def tAsg (te : TE) (g : TG) : TS := fun D σ H => te σ H fun x H1 => g x σ H1 D.nx
theorem ps_asg {tg e : Expr} {te : TE} {g : TG} (he : PE X e te) (hg : PG X tg g) (hs : swapsWithSole [tg] e pos.line X.env = pure false := by rfl) (hw : swappedStores [tg] e X.env = pure none := by rfl)
    (h1 : (assignEach [tg] X.env).map (·.2) = [assign tg X.env] := by rfl) : PS X (.Assign [tg] e pos) (tAsg te g) := by
  intro pins s σ H D I h
  refine wpAny_Assign_stores (thn (he pins s σ H _ I h) fun v s1 ⟨x, H1, I1, r1, q1⟩ => ?_) hs hw
  rw [h1]
  exact thn (hg pins s1 σ H1 x v _ I1 r1 q1) fun _ s2 q => q
/-- name = value -/
theorem ps_set {i : Nat} {x : Str} {e : Expr} {te : TE} {pos' : Pos} (hN : X.N.Nodup) (hi : X.N[i]? = some x) (hx : Loc X.env.scope x) (he : PE X e te) (hs : swapsWith e (some (.Name x pos')) pos.line X.env = pure false := by rfl) (hf : X.fn x = true ∨ X.env.scope.names.lookup x = some .local := by first | exact .inl rfl | exact .inr rfl | assumption) :
    PS X (.Assign [.Name x pos'] e pos) (tAsg te (gName i)) := by
  intro pins s σ H D I h
  refine wpAny_Assign_Name (thn (he pins s σ H _ I h) fun v s1 ⟨y, H1, I1, r1, q1⟩ => ?_) hs
  exact store_ok I1 hN hi hx r1 (fun s2 I2 => ⟨_, H1, I2, q1⟩) hf
/-- a, b = x, y with plain local names: stored from the right; the pair itself is not tracked (the opening rows as in PyProof/Rows/TupAssign.lean:23) -/
def tPar (i j : Nat) (ta : TA) : TS := fun D σ H => ta σ H fun vs H1 => ∃ v w, vs = [v, w] ∧ D.nx ((σ.set i (some v)).set j (some w)) H1
theorem ps_par {i j : Nat} {x y : Str} {a b : Expr} {ta : TA} {px py pt : Pos} {kt k2 pt2} (hc : X.calm = true) (hN : X.N.Nodup) (hi : X.N[i]? = some x) (hj : X.N[j]? = some y) (hij : i ≠ j)
    (hx : X.env.scope.names.lookup x = some .local) (hy : X.env.scope.names.lookup y = some .local) (ha : PA X [a, b] ta)
    (hw : swappedStores [.Tuple [.Name x px, .Name y py] kt pt] (.Tuple [a, b] k2 pt2) X.env = pure (some [x, y]))
    (hs : swapsWithSole [.Tuple [.Name x px, .Name y py] kt pt] (.Tuple [a, b] k2 pt2) pos.line X.env = pure false := by rfl) :
    PS X (.Assign [.Tuple [.Name x px, .Name y py] kt pt] (.Tuple [a, b] k2 pt2) pos) (tPar i j ta) := by
  intro pins s σ H D I h
  rw [exec_Assign_arm]
  refine wpAny_bind (wpAny_standAt ?_)
  rw [hs]
  refine wpAny_bind (wpAny_pure ?_)
  rw [if_neg (by decide)]
  refine wpAny_bind (Tuple_ (thn (ha _ pins s σ H _ I h) fun us s1 ⟨vs, H1, I1, r1, q1⟩ => ?_))
  obtain ⟨v, w, e1, q1⟩ := q1
  subst e1
  obtain ⟨u1, u2, rfl, rv, rw'⟩ : ∃ u1 u2, us = [u1, u2] ∧ RelV v u1 ∧ RelV w u2 := by
    cases r1 with
    | cons p q =>
      cases q with
      | cons p' q' =>
        cases q'
        exact ⟨_, _, rfl, p, p'⟩
  refine wpAny_newObj_type ?_ (by show 2 ≤ sizeLine; decide)
  have I2 : Inv X pins σ H1 { s1 with heap := s1.heap.push { cls := .type "tuple", data := .seq [u1, u2].toArray } } := I1.kept (t' := s1.toks) fun b o e => Heap.get?_push_of_some _ e
  rw [hw]
  refine wpAny_bind (wpAny_pure ?_)
  show wpAny (model X.prog X.w) X.A (do rule "assign.swapped-stores"; let items ← unpackItems (.ref s1.heap.objs.size) 2 none; assignInOrder [fun v => bindName X.env y v, fun v => bindName X.env x v] items.reverse; pure Flow.next) _ _ _
  refine wpAny_bind (wpAny_rule (wpAny_bind (unpackItems_tuple (items := #[u1, u2]) (I.ok.hd hc) (IsTup.new s1.heap _) fun h' hx' => ?_)))
  have I3 := I2.kept (h' := h') (t' := s1.toks) fun b o e => hx' b o (Nat.ne_of_lt (Heap.lt_size e)) e
  show wpAny _ _ (assignInOrder [fun v => bindName X.env y v, fun v => bindName X.env x v] [u2, u1] >>= fun _ => pure Flow.next) _ _ _
  refine wpAny_bind (assignInOrder_cons (wpAny_bindName (store_ok I3 hN hj (.inl hy) rw' (fun s2 I4 => ?_) (.inr hy))))
  refine assignInOrder_cons (wpAny_bindName (store_ok I4 hN hi (.inl hx) rv (fun s3 I5 => assignInOrder_nil (wpAny_pure ?_)) (.inr hx)))
  rw [List.set_comm _ _ (Ne.symm hij)] at I5
  exact ⟨_, H1, I5, q1⟩
/-- name op= e -/
def tAug (i : Nat) (te : TE) (ti : TIp) : TS := fun D σ H => ∃ x, σ[i]? = some (some x) ∧ te σ H fun y H1 => ti x y H1 fun z H2 => D.nx (σ.set i (some z)) H2
theorem ps_aug {i : Nat} {x : Str} {e : Expr} {te : TE} {op : Operator} {ti : TIp} {pos' : Pos} (hN : X.N.Nodup) (hi : X.N[i]? = some x) (hx : Loc X.env.scope x) (he : PE X e te) (ho : PIp X op ti) (hf : X.fn x = true ∨ X.env.scope.names.lookup x = some .local := by first | exact .inl rfl | exact .inr rfl | assumption) :
    PS X (.AugAssign (.Name x pos') op e pos) (tAug i te ti) := by
  intro pins s σ H D I h
  obtain ⟨v, e1, h⟩ := h
  obtain ⟨m, hn, hl⟩ := I.loc
  have vis : Vis X.env.scope x := by rcases hx with k | k; exact .inl k; exact .inr (.inl k)
  obtain ⟨u, r, l⟩ := hl i x v hi e1 vis
  refine wpAny_AugAssign_Name ?_
  have go : wpAny (model X.prog X.w) X.A (eval e X.env) (fun w s₂ => wpAny (model X.prog X.w) X.A (inplaceOp op u w) (fun r s₃ => wpAny (model X.prog X.w) X.A (storeName X.env x r) (fun _ => SP X pins D .next) X.xe s₃) X.xe s₂) X.xe s := by
    refine thn (he pins s σ H _ I h) fun w s1 ⟨y, H1, I1, r1, q1⟩ => ?_
    refine thn (ho pins s1 σ H1 v y u w _ I1 r r1 q1) fun z s2 ⟨zv, H2, I2, r2, q2⟩ => ?_
    exact store_ok I2 hN hi hx r2 (fun s3 I3 => ⟨_, H2, I3, q2⟩) hf
  rcases l with ⟨hk, hm⟩ | ⟨hk, c, hc, hcell⟩
  · exact wpAny_loadName_local I.ok.kind hk hn hm go
  · rcases hk with hk | hk
    · exact wpAny_loadName_cell I.ok.kind hk hc hcell go
    · rcases hx with k | k
      · have : X.env.scope.names.lookup x = some .free := hk
        rw [k] at this; cases this
      · have : X.env.scope.names.lookup x = some .free := hk
        rw [k] at this; cases this
/-- o[i] op= e -/
def tAugS (to ti te : TE) (tget : V → V → Hp → VK → Prop) (tip : TIp) (tset : TSet) : TS := fun D σ H => to σ H fun o H1 => ti σ H1 fun i H2 => tget o i H2 fun x H3 => te σ H3 fun y H4 => tip x y H4 fun z H5 => tset o i z H5 fun H6 => D.nx σ H6
/-- o[i], by values -/
def PGet (X : Cx) (t : V → V → Hp → VK → Prop) : Prop :=
  ∀ (pins : List (Addr × Obj)) (s : Shared) (σ : St) (H : Hp) (o i : V) (ov iv : Value) (Q : VK), Inv X pins σ H s → RelV o ov → RelV i iv → t o i H Q →
    wpAny (model X.prog X.w) X.A (getItem ov iv) (EP X pins σ Q) X.xe s
theorem ps_augS {o i e : Expr} {to ti te : TE} {tget : V → V → Hp → VK → Prop} {tip : TIp} {tset : TSet} {op : Operator} {tpos : Pos} (ho : PE X o to) (hi : PE X i ti) (hg : PGet X tget) (he : PE X e te) (hp : PIp X op tip) (hs : PSet X tset)
    (ha : ∀ ov iv new, augStore i ov iv new = (do holding [new, ov, iv] (setItem ov iv new); release [new, ov, iv] []; pure .next) := by intros; rfl) : PS X (.AugAssign (.Subscript o i tpos) op e pos) (tAugS to ti te tget tip tset) := by
  intro pins s σ H D I h
  refine wpAny_AugAssign_SubscriptAny (thn (ho pins s σ H _ I h) fun ov s1 ⟨x1, H1, I1, r1, q1⟩ => ?_) ha
  refine thn (hi pins s1 σ H1 _ I1 q1) fun iv s2 ⟨x2, H2, I2, r2, q2⟩ => ?_
  refine thn (hg pins s2 σ H2 x1 x2 ov iv _ I2 r1 r2 q2) fun old s3 ⟨x3, H3, I3, r3, q3⟩ => ?_
  refine thn (he pins s3 σ H3 _ I3 q3) fun v s4 ⟨x4, H4, I4, r4, q4⟩ => ?_
  refine thn (hp pins s4 σ H4 x3 x4 old v _ I4 r3 r4 q4) fun new s5 ⟨x5, H5, I5, r5, q5⟩ => ?_
  exact thn (hs pins s5 σ H5 x1 x2 x5 ov iv new _ I5 r1 r2 r5 q5) fun _ s6 ⟨H6, I6, q6⟩ => ⟨σ, H6, I6, q6⟩
/-- ints -/
def ipI (f : Int → Int → Int) : TIp := fun x y H Q => ∃ i j, x = .int i ∧ y = .int j ∧ Q (.int (f i j)) H
theorem ip_add : PIp X .Add (ipI fun i j => i + j) := by
  intro pins s σ H x y v u Q I r1 r2 h
  obtain ⟨i, j, e1, e2, q⟩ := h
  subst e1; subst e2
  obtain ⟨t, rfl⟩ := r1
  obtain ⟨t', rfl⟩ := r2
  exact iadd_int ⟨.int _, H, I.tok _, ⟨_, rfl⟩, q⟩
end
section
variable {X : Cx} {pos : Pos}
/-- the invariant W with its measure -/
def tWhile (c : TT) (tb : TS) : TS := fun D σ H => ∃ W : Nat → St → Hp → Prop, (∃ m, W m σ H) ∧ ∀ m σ H, W m σ H →
  c σ H fun b H1 => if b = true then ∃ N : St → Hp → Prop, (∀ σ' H', N σ' H' → ∃ m', m' < m ∧ W m' σ' H') ∧ tb { D with nx := N, ct := N, bk := D.nx } σ H1 else D.nx σ H1
theorem ps_while {c : Expr} {body : List Stmt} {tc : TT} {tb : TS} (hp : PassesOwn (model X.prog X.w) X.A X.env X.xe) (hc : PT X c tc) (hb : PSs X body tb) : PS X (.While c body [] pos) (tWhile tc tb) := by
  intro pins s σ H D I h
  obtain ⟨W, ⟨m0, w0⟩, turn⟩ := h
  refine wpAny_While (codeAny_whileLoop (fun n s' => ∃ σ' H', Inv X pins σ' H' s' ∧ W n σ' H') ?_ m0 ⟨σ, H, I, w0⟩)
  rintro n s1 ⟨σ1, H1, I1, w1⟩
  refine wpAny_passesOwn hp (thn (hc pins s1 σ1 H1 _ I1 (turn n σ1 H1 w1)) fun b s2 ⟨H2, I2, q2⟩ => ?_)
  cases b with
  | true =>
    obtain ⟨N, hN, q2⟩ := q2
    rw [if_pos rfl]
    refine wpAny_passesOwn hp (thn (hb pins s2 σ1 H2 _ I2 q2) fun f s3 q3 => ?_)
    cases f with
    | next =>
      obtain ⟨σ3, H3, I3, n3⟩ := q3
      obtain ⟨m', hm, w3⟩ := hN σ3 H3 n3
      exact ⟨m', hm, σ3, H3, I3, w3⟩
    | cont =>
      obtain ⟨σ3, H3, I3, n3⟩ := q3
      obtain ⟨m', hm, w3⟩ := hN σ3 H3 n3
      exact ⟨m', hm, σ3, H3, I3, w3⟩
    | brk => exact q3
    | ret v => exact q3
  | false =>
    rw [if_neg Bool.false_ne_true]
    exact wpAny_execs_nil ⟨σ1, H2, I2, q2⟩
end
/-- at turn i: it yields x (the heap may grow), or it stops -/
structure It where
  go : Nat → Hp → Prop
  yld : Nat → Hp → V → Hp → Prop
  stop : Nat → Hp → Prop
/-- the iterator's own objects may turn: they are not the frame's, not pinned, younger than the entry (or a comprehension's own) -/
def FpOk (X : Cx) (pins : List (Addr × Obj)) (H : Hp) (b : Addr) : Prop :=
  H b = none ∧ b ≠ X.env.locals ∧ b ∉ X.fs ∧ (b ∈ X.ex ∨ X.s_0.heap.objs.size ≤ b) ∧ (∀ x c, X.env.cells.lookup x = some c → c ≠ b) ∧ ∀ p ∈ X.pn ++ pins, p.1 ≠ b
theorem Inv.fpOk {X : Cx} {pins : List (Addr × Obj)} {σ : St} {H H' : Hp} {s : Shared} {b : Addr} (I : Inv X pins σ H s) (hb : s.heap.objs.size ≤ b) (hn : H' b = none) : FpOk X pins H' b := by
  refine ⟨hn, Nat.ne_of_gt (Nat.lt_of_lt_of_le I.lt hb), I.nofs hb, .inr (Nat.le_trans I.sz hb), fun x c e z => ?_, fun p hp z => ?_⟩
  · obtain ⟨v, q⟩ := I.cell x c e
    exact absurd (Nat.lt_of_lt_of_le q.lt (by rw [z]; exact hb)) (Nat.lt_irrefl _)
  · exact absurd (Nat.lt_of_lt_of_le (Heap.lt_size (I.pin p hp).1) (by rw [z]; exact hb)) (Nat.lt_irrefl _)
structure Turn (P : Program) (w : World) (K : PySem.W.Frag) (tg : Expr) (J : It) (fp : List Addr) (it : Addr) (tn : Nat → Heap → Prop) : Prop where
  mem : it ∈ fp
  obj : ∀ i h, tn i h → ∀ b ∈ fp, ∃ o, h.get? b = some o ∧ ∀ v, o.data ≠ .cell v
  keep : ∀ i h h', tn i h → (∀ b ∈ fp, ∀ o, h.get? b = some o → h'.get? b = some o) → tn i h'
  item : ∀ (X : Cx), X.prog = P → X.w = w → X.K = K → X.calm = true → ∀ (i : Nat) (pins : List (Addr × Obj)) (s : Shared) (σ : St) (H : Hp) (E : Value → Shared → Prop), Inv X pins σ H s → (∀ b ∈ fp, FpOk X pins H b) → tn i s.heap → J.go i H →
    wpAny (model P w) X.A (pyNext (.ref it)) (fun r s1 => ∃ u, r = some u ∧
      wpAny (model P w) X.A (letOwnedTupleGo tg (.ref it) u) (fun _ s2 => ∃ x H', Inv X pins σ H' s2 ∧ RelV x u ∧ J.yld i H x H' ∧ tn (i + 1) s2.heap ∧ ∀ b ∈ fp, H' b = none) E s1) E s
  done : ∀ (X : Cx), X.prog = P → X.w = w → X.K = K → X.calm = true → ∀ (i : Nat) (pins : List (Addr × Obj)) (s : Shared) (σ : St) (H : Hp) (E : Value → Shared → Prop), Inv X pins σ H s → (∀ b ∈ fp, FpOk X pins H b) → tn i s.heap → J.stop i H →
    wpAny (model P w) X.A (pyNext (.ref it)) (fun r s1 => r = none ∧ Inv X pins σ H s1) E s
  self : ∀ (A : Around) (i : Nat) (s : Shared) (Q : Value → Shared → Prop) (E : Value → Shared → Prop), tn i s.heap → Q (.ref it) s → wpAny (model P w) A (pyIter (.ref it)) Q E s
abbrev TI := St → Hp → (It → Hp → Prop) → Prop
/-- an iterator has come -/
def PIE (X : Cx) (pins : List (Addr × Obj)) (σ : St) (tg : Expr) (R : It → Hp → Prop) (itv : Value) (s2 : Shared) : Prop :=
  ∃ (it : Addr) (fp : List Addr) (tn : Nat → Heap → Prop) (J : It) (H' : Hp), itv = .ref it ∧ Inv X pins σ H' s2 ∧ Turn X.prog X.w X.K tg J fp it tn ∧ tn 0 s2.heap ∧ (∀ b ∈ fp, FpOk X pins H' b) ∧ R J H'
def PI (X : Cx) (tg iter : Expr) (wi : TI) : Prop :=
  ∀ (pins : List (Addr × Obj)) (s : Shared) (σ : St) (H : Hp) (R : It → Hp → Prop), Inv X pins σ H s → wi σ H R →
    wpAny (model X.prog X.w) X.A (eval iter X.env) (fun v s1 => wpAny (model X.prog X.w) X.A (pyIter v) (PIE X pins σ tg R) X.xe s1) X.xe s
/-- the step ahead of the store is nothing for an iterator that keeps no tuple -/
theorem go_of {M : Model} {A : Around} {E : Value → Shared → Prop} {s : Shared} {tg : Expr} {it : Addr} {u : Value} {o : Obj} {n : String} {vs : Array Value} {Q : Unit → Shared → Prop} (ho : s.heap.get? it = some o) (hc : o.cls = .type n) (hd : o.data = .fields vs)
    (hn : ["enumerate", "zip", "dict_itemiterator", "dict_reverseitemiterator", "odict_iterator", "itertools.zip_longest", "itertools.pairwise"].contains n = false) (hQ : Q () s) : wpAny M A (letOwnedTupleGo tg (.ref it) u) Q E s := by
  unfold letOwnedTupleGo
  cases tg <;> first
    | exact wpAny_pure hQ
    | (cases u <;> first
        | exact wpAny_pure hQ
        | (refine wpAny_bind (wpAny_load ho ?_)
           rw [hc, hd]
           show wpAny M A (if (["enumerate", "zip", "dict_itemiterator", "dict_reverseitemiterator", "odict_iterator", "itertools.zip_longest", "itertools.pairwise"].contains n && vs[0]? == some (rawInt _)) = true then _ else _) Q E s
           rw [if_neg (by intro h; rw [hn, Bool.false_and] at h; cases h)]
           exact wpAny_pure hQ))
/-- the list at a, as it stands at each turn (a loop may append to it) -/
def Itl (K : PySem.W.Frag) (a : Addr) : It :=
  ⟨fun i H => ∃ xs x, SqL K H a xs ∧ xs[i]? = some x, fun i H x H' => H' = H ∧ ∀ xs, SqL K H a xs → xs[i]? = some x, fun i H => ∃ xs, SqL K H a xs ∧ xs.length ≤ i⟩
/-- lo, lo + 1, .. (n of them) -/
def Itr (lo : Int) (n : Nat) : It := ⟨fun i _ => i < n, fun i H x H' => H' = H ∧ x = .int (lo + i), fun i _ => n ≤ i⟩
theorem turn_list {P : Program} {w : World} {K : PySem.W.Frag} {tg : Expr} (a it : Addr) : Turn P w K tg (Itl K a) [it] it (fun i h => h.IsListIter it a i) where
  mem := by simp
  obj := fun i h st b hb => by
    have e : b = it := by simpa using hb
    subst e
    obtain ⟨o, e, c, d⟩ := st
    exact ⟨o, e, fun v z => by rw [d] at z; cases z⟩
  keep := fun i h h' st k => st.at fun o e => k it (by simp) o e
  item := by
    intro X hP hw hK hc i pins s σ H E I hf st hg
    subst hP hw hK
    obtain ⟨xs, x, hq, hx⟩ := hg
    obtain ⟨its, rv, p, hz⟩ := I.list hq
    obtain ⟨u, hu, ru⟩ := rv.get hx
    obtain ⟨f0, f1, f2, f3, f4, f5⟩ := hf it (by simp)
    refine wpAny_pyNext_list_item st p.isList (x := u) (by simpa using hu) fun h' st' sb => ?_
    have I1 : Inv X pins σ H { s with heap := h' } := I.turned (t' := s.toks) (fun b o hb e => (sb.2 b hb).trans e) f0 f1 f3 f4 f5
    obtain ⟨o, e, c, d⟩ := id st'
    exact ⟨u, rfl, go_of (s := { s with heap := h' }) e c d (by decide) ⟨x, H, I1, ru, ⟨rfl, fun ys hy => by rw [I.list_inj hy hq]; exact hx⟩, st', fun b hb => (hf b hb).1⟩⟩
  done := by
    intro X hP hw hK hc i pins s σ H E I hf st hg
    subst hP hw hK
    obtain ⟨xs, hq, hx⟩ := hg
    obtain ⟨its, rv, p, hz⟩ := I.list hq
    obtain ⟨f0, f1, f2, f3, f4, f5⟩ := hf it (by simp)
    have hl := rv.length
    exact wpAny_pyNext_list_end (I.ok.hd hc) st p.isList (by simp; omega) fun h' eb => ⟨rfl, I.turned (t' := s.toks) (fun b o hb e => eb b o hb e) f0 f1 f3 f4 f5⟩
  self := fun _ _ _ _ _ st h => wpAny_pyIter_listiter st h
theorem turn_range {P : Program} {w : World} {K : PySem.W.Frag} {tg : Expr} (it : Addr) (lo : Int) (n : Nat) : Turn P w K tg (Itr lo n) [it] it (fun i h => IsRangeIter h it (lo + (i : Nat) * 1) ((n : Int) - (i : Nat)) 1) where
  mem := by simp
  obj := fun i h st b hb => by
    have e : b = it := by simpa using hb
    subst e
    exact ⟨_, st, fun v z => by
      have z' : Data.fields _ = Data.cell v := z
      cases z'⟩
  keep := fun i h h' st k => k it (by simp) _ st
  item := by
    intro X hP hw hK hc i pins s σ H E I hf st hg
    subst hP hw hK
    obtain ⟨f0, f1, f2, f3, f4, f5⟩ := hf it (by simp)
    have W := Walks.range (prog := X.prog) (w := X.w) (I.ok.hd hc) it lo 1 n
    refine W.item i s _ _ hg st fun v h' tk hv st' kk => ?_
    obtain ⟨t, rfl⟩ := hv
    have I1 : Inv X pins σ H { s with heap := h', toks := tk } := I.turned (fun b o hb e => kk b o (by simpa using hb) e) f0 f1 f3 f4 f5
    refine ⟨_, rfl, go_of (s := { s with heap := h', toks := tk }) (n := "range_iterator") st' rfl rfl (by decide) ⟨.int (lo + i), H, I1, ⟨t, ?_⟩, ⟨rfl, rfl⟩, st', fun b hb => (hf b hb).1⟩⟩
    rw [Int.mul_one]
  done := by
    intro X hP hw hK hc i pins s σ H E I hf st hg
    subst hP hw hK
    obtain ⟨f0, f1, f2, f3, f4, f5⟩ := hf it (by simp)
    exact wpAny_pyNext_range_end (I.ok.hd hc) st (by have : n ≤ i := hg; omega) fun h' eb => ⟨rfl, I.turned (t' := s.toks) (fun b o hb e => eb b o hb e) f0 f1 f3 f4 f5⟩
  self := fun _ _ _ _ _ st h => wpAny_pyIter_rangeiter st h
end L2
namespace L2
open PySem PySem.Spec PyProof.Rows
section
variable {X : Cx} {tg : Expr}
def iList (K : PySem.W.Frag) (tl : TE) : TI := fun σ H R => tl σ H fun x H1 => ∃ a, x = .ref a ∧ (∃ xs, SqL K H1 a xs) ∧ R (Itl K a) H1
theorem pi_list {l : Expr} {tl : TE} (hl : PE X l tl) : PI X tg l (iList X.K tl) := by
  intro pins s σ H R I h
  refine thn (hl pins s σ H _ I h) fun v s1 ⟨x, H1, I1, r1, q1⟩ => ?_
  obtain ⟨a, e, ⟨xs, hq⟩, q⟩ := q1
  subst e
  cases r1
  obtain ⟨its, rv, p, hz⟩ := I1.list hq
  refine wpAny_pyIter_list p.isList ?_
  refine ⟨s1.heap.objs.size, [s1.heap.objs.size], _, _, H1, rfl, I1.kept (t' := s1.toks) fun b o e => Heap.get?_push_of_some _ e, turn_list a _, ⟨_, Heap.get?_push_size _ rfl, rfl, rfl⟩, fun b hb => ?_, q⟩
  have e : b = s1.heap.objs.size := by simpa using hb
  subst e
  exact I1.fpOk (Nat.le_refl _) (I1.hok.fresh (Nat.le_refl _))
/-- a range object just made, walked -/
theorem range_it {pins : List (Addr × Obj)} {σ : St} {H : Hp} {s : Shared} {R : It → Hp → Prop} {E : Value → Shared → Prop} {lo hi : Int} {t u v : Tok} {tk : Nat} (I : Inv X pins σ H s) (h1 : -(2 ^ 62) ≤ lo) (h2 : lo < 2 ^ 62) (h3 : -(2 ^ 62) ≤ hi) (h4 : hi < 2 ^ 62)
    (q : R (Itr lo (hi - lo).toNat) H) : wpAny (model X.prog X.w) X.A (pyIter (.ref s.heap.objs.size)) (PIE X pins σ tg R) E { s with heap := s.heap.push { cls := .type "range", data := .fields #[.int lo t, .int hi u, .int 1 v] }, toks := tk } := by
  refine wpAny_pyIter_range (IsRange.new ..) (small_one h1 h2 h3 h4) ?_
  have I1 : Inv X pins σ H { s with heap := s.heap.push { cls := .type "range", data := .fields #[.int lo t, .int hi u, .int 1 v] }, toks := tk } := I.kept fun b o e => Heap.get?_push_of_some _ e
  refine ⟨(s.heap.push { cls := .type "range", data := .fields #[.int lo t, .int hi u, .int 1 v] }).objs.size, [(s.heap.push { cls := .type "range", data := .fields #[.int lo t, .int hi u, .int 1 v] }).objs.size], _, _, H, rfl,
    I1.kept (t' := tk) fun b o e => Heap.get?_push_of_some _ e, turn_range _ lo (hi - lo).toNat, ?_, fun b hb => ?_, q⟩
  · have e1 : lo + ((0 : Nat) : Int) * 1 = lo := by simp
    have e2 : (((hi - lo).toNat : Nat) : Int) - ((0 : Nat) : Int) = Builtin.Range.rangeSize lo hi 1 := by rw [rangeSize_one]; split <;> omega
    show IsRangeIter _ _ (lo + ((0 : Nat) : Int) * 1) ((((hi - lo).toNat : Nat) : Int) - ((0 : Nat) : Int)) 1
    rw [e1, e2]
    exact Heap.get?_push_size _ rfl
  · have e : b = (s.heap.push { cls := .type "range", data := .fields #[.int lo t, .int hi u, .int 1 v] }).objs.size := by simpa using hb
    subst e
    exact I1.fpOk (Nat.le_refl _) (I1.hok.fresh (Nat.le_refl _))
def iRng1 (ta : TA) : TI := fun σ H R => ta σ H fun vs H1 => ∃ j : Int, vs = [.int j] ∧ -(2 ^ 62) ≤ j ∧ j < 2 ^ 62 ∧ R (Itr 0 j.toNat) H1
theorem pi_range1 {a : Expr} {ta : TA} {p pos : Pos} (hg : Gl X "range") (hm : X.mg "range" = none) (ha : PA X [a] ta) (hs : starEach [a] X.env = [(false, eval a X.env)] := by rfl) : PI X tg (.Call (.Name "range" p) [a] [] pos) (iRng1 ta) := by
  intro pins s σ H R I h
  refine Call_ (ld_blt I hg hm boot_range (PyProof.Rows.callWith_type1 (thn (ha pos pins s σ H _ I h) fun us s1 ⟨vs, H1, I1, r1, q1⟩ => ?_) hs rfl))
  obtain ⟨j, e, q1, q2, q⟩ := q1
  subst e
  cases r1 with
  | cons r rr =>
    cases rr
    obtain ⟨t, rfl⟩ := r
    exact call_range_1 (range_it I1 (by omega) (by omega) q1 q2 (by simpa using q))
/-- W: the invariant by the turn and a measure; N: what the body is to reach -/
def tFor (wi : TI) (g : TG) (tb : TS) : TS := fun D σ H => wi σ H fun J H1 => ∃ W : Nat → Nat → St → Hp → Prop, (∃ m, W 0 m σ H1) ∧ ∀ i m σ H, W i m σ H →
  (J.stop i H ∧ D.nx σ H) ∨ (J.go i H ∧ ∃ N : St → Hp → Prop, (∀ σ' H', N σ' H' → ∃ m', m' < m ∧ W (i + 1) m' σ' H') ∧ ∀ x H', J.yld i H x H' → g x σ H' fun σ2 H2 => tb { D with nx := N, ct := N, bk := D.nx } σ2 H2)
/-- the records at fp as they stand -/
def pinsAt (fp : List Addr) (h : Heap) : List (Addr × Obj) := fp.filterMap fun b => (h.get? b).map fun o => (b, o)
theorem mem_pinsAt {fp : List Addr} {h : Heap} {b : Addr} {o : Obj} (hb : b ∈ fp) (e : h.get? b = some o) : (b, o) ∈ pinsAt fp h := List.mem_filterMap.mpr ⟨b, hb, by rw [e]; rfl⟩
theorem of_pinsAt {fp : List Addr} {h : Heap} {p : Addr × Obj} (hp : p ∈ pinsAt fp h) : p.1 ∈ fp ∧ h.get? p.1 = some p.2 := by
  obtain ⟨b, hb, e⟩ := List.mem_filterMap.mp hp
  cases q : h.get? b with
  | none => rw [q] at e; cases e
  | some o =>
    rw [q] at e
    have e' : (b, o) = p := Option.some.inj e
    subst e'
    exact ⟨hb, q⟩
theorem Inv.pinned {pins : List (Addr × Obj)} {σ : St} {H : Hp} {s : Shared} {fp : List Addr} (I : Inv X pins σ H s) (hf : ∀ b ∈ fp, FpOk X pins H b) (ho : ∀ b ∈ fp, ∃ o, s.heap.get? b = some o ∧ ∀ v, o.data ≠ .cell v) : Inv X (pins ++ pinsAt fp s.heap) σ H s :=
  I.pins_of fun p hp => (List.mem_append.mp hp).elim (fun z => I.pin p (List.mem_append_right _ z)) fun z => by
    obtain ⟨hb, e⟩ := of_pinsAt z
    obtain ⟨f0, f1, f2, _⟩ := hf p.1 hb
    obtain ⟨o, e', d⟩ := ho p.1 hb
    rw [e] at e'; cases e'
    exact ⟨e, f0, f1, f2, d⟩
theorem Inv.unpinned {pins pl : List (Addr × Obj)} {σ : St} {H : Hp} {s : Shared} (I : Inv X (pins ++ pl) σ H s) : Inv X pins σ H s := I.pins_of fun p hp => I.pin p (List.mem_append_right _ (List.mem_append_left _ hp))
theorem ps_for {iter : Expr} {body : List Stmt} {wi : TI} {g : TG} {tb : TS} {pos : Pos} (hp : PassesOwn (model X.prog X.w) X.A X.env X.xe) (hc : X.calm = true) (hi : PI X tg iter wi) (hg : PG X tg g) (hb : PSs X body tb)
    (hs : ∀ x, foldedSetIterable iter X.env x = pure x := by intro _; rfl) : PS X (.For tg iter body [] pos) (tFor wi g tb) := by
  intro pins s σ H D I h
  refine wpAny_For (thn (hi pins s σ H _ I h) fun v s1 h1 => thn h1 fun itv s2 h2 => ?_) hs
  obtain ⟨it, fp, tn, J, H2, e, I2, T, st2, f2, W, ⟨m0, w0⟩, turn⟩ := h2
  subst e
  -- what stays true of the iterator's objects through the loop
  have stat : ∀ {H' : Hp}, (∀ b ∈ fp, H' b = none) → ∀ b ∈ fp, FpOk X pins H' b := fun hn b hb => ⟨hn b hb, (f2 b hb).2⟩
  refine codeAny_forLoop_any (fun n s' => ∃ i σ' H', Inv X pins σ' H' s' ∧ tn i s'.heap ∧ (∀ b ∈ fp, H' b = none) ∧ W i n σ' H') ?_ m0 ⟨0, σ, H2, I2, st2, fun b hb => (f2 b hb).1, w0⟩
  rintro n s3 ⟨i, σ3, H3, I3, st3, fr3, w3⟩
  rcases turn i n σ3 H3 w3 with ⟨stop, qn⟩ | ⟨go, N, hN, step⟩
  · refine wpAny_passesOwn hp (thn (T.done X rfl rfl rfl hc i pins s3 σ3 H3 X.xe I3 (stat fr3) st3 stop) fun r s4 ⟨hr, I4⟩ => ?_)
    subst hr
    exact wpAny_execs_nil ⟨σ3, H3, I4, qn⟩
  · refine wpAny_passesOwn hp (thn (T.item X rfl rfl rfl hc i pins s3 σ3 H3 X.xe I3 (stat fr3) st3 go) fun r s4 ⟨u, hr, h4⟩ => ?_)
    subst hr
    refine wpAny_passesOwn hp (thn h4 fun _ s5 ⟨x, H5, I5, r5, y5, st5, fr5⟩ => ?_)
    have I5' := I5.pinned (stat fr5) (T.obj _ _ st5)
    refine wpAny_passesOwn hp (thn (hg _ s5 σ3 H5 x u _ I5' r5 (step x H5 y5)) fun _ s6 ⟨σ6, H6, I6, q6⟩ => ?_)
    refine wpAny_passesOwn hp (thn (hb _ s6 σ6 H6 _ I6 q6) fun f s7 q7 => ?_)
    have again : ∀ {σ7 : St} {H7 : Hp}, Inv X (pins ++ pinsAt fp s5.heap) σ7 H7 s7 → N σ7 H7 → ∃ m, m < n ∧ ∃ i σ' H', Inv X pins σ' H' s7 ∧ tn i s7.heap ∧ (∀ b ∈ fp, H' b = none) ∧ W i m σ' H' := fun {σ7 H7} I7 n7 => by
      obtain ⟨m', hm, w7⟩ := hN σ7 H7 n7
      refine ⟨m', hm, i + 1, σ7, H7, I7.unpinned, T.keep _ _ _ st5 fun b hb o e => (I7.pin (b, o) (List.mem_append_right _ (List.mem_append_right _ (mem_pinsAt hb e)))).1, fun b hb => ?_, w7⟩
      obtain ⟨o, e, d⟩ := T.obj _ _ st5 b hb
      exact (I7.pin (b, o) (List.mem_append_right _ (List.mem_append_right _ (mem_pinsAt hb e)))).2.1
    cases f with
    | next => obtain ⟨σ7, H7, I7, n7⟩ := q7; exact again I7 n7
    | cont => obtain ⟨σ7, H7, I7, n7⟩ := q7; exact again I7 n7
    | brk => obtain ⟨σ7, H7, I7, q7⟩ := q7; exact ⟨σ7, H7, I7.unpinned, q7⟩
    | ret v => obtain ⟨x7, σ7, H7, I7, r7, q7⟩ := q7; exact ⟨x7, σ7, H7, I7.unpinned, r7, q7⟩
end
end L2
namespace L2
open PySem PySem.Spec PyProof.Rows
abbrev R2 := V → V → Hp → VK → Prop
/-- a two-place operation on values: f is binaryOp op, inplaceOp op or compareOp op -/
def OpR (X : Cx) (f : Value → Value → Sem Value) (r : R2) : Prop :=
  ∀ (pins : List (Addr × Obj)) (s : Shared) (σ : St) (H : Hp) (x y : V) (v u : Value) (Q : VK), Inv X pins σ H s → RelV x v → RelV y u → r x y H Q →
    wpAny (model X.prog X.w) X.A (f v u) (EP X pins σ Q) X.xe s
/-- a one-place operation -/
def UnR (X : Cx) (f : Value → Sem Value) (r : V → Hp → VK → Prop) : Prop :=
  ∀ (pins : List (Addr × Obj)) (s : Shared) (σ : St) (H : Hp) (x : V) (v : Value) (Q : VK), Inv X pins σ H s → RelV x v → r x H Q →
    wpAny (model X.prog X.w) X.A (f v) (EP X pins σ Q) X.xe s
/-- a call of a value that is known (a builtin, a type) with values -/
def CallR (X : Cx) (f : Value) (r : List V → Hp → VK → Prop) : Prop :=
  ∀ (pins : List (Addr × Obj)) (s : Shared) (σ : St) (H : Hp) (xs : List V) (us : List Value) (Q : VK), Inv X pins σ H s → Vals xs us → r xs H Q →
    wpAny (model X.prog X.w) X.A (call f us) (EP X pins σ Q) X.xe s
/-- a value's truth -/
def TruR (X : Cx) (r : V → Hp → (Bool → Hp → Prop) → Prop) : Prop :=
  ∀ (pins : List (Addr × Obj)) (s : Shared) (σ : St) (H : Hp) (x : V) (v : Value) (Q : Bool → Hp → Prop), Inv X pins σ H s → RelV x v → r x H Q →
    wpAny (model X.prog X.w) X.A (truthy v) (TP X pins σ Q) X.xe s
def tOp (r : R2) (ta tb : TE) : TE := fun σ H Q => ta σ H fun x H1 => tb σ H1 fun y H2 => r x y H2 Q
def tUn (r : V → Hp → VK → Prop) (ta : TE) : TE := fun σ H Q => ta σ H fun x H1 => r x H1 Q
/-- ints in, under C, and a value out -/
def rI (C : Int → Int → Prop) (g : Int → Int → V) : R2 := fun x y H Q => ∃ i j, x = .int i ∧ y = .int j ∧ C i j ∧ Q (g i j) H
def rI0 (g : Int → Int → V) : R2 := fun x y H Q => ∃ i j, x = .int i ∧ y = .int j ∧ Q (g i j) H
def rU (g : Int → V) : V → Hp → VK → Prop := fun x H Q => ∃ i, x = .int i ∧ Q (g i) H
section
variable {X : Cx} {a b c : Expr} {ta tb tc : TE} {pos : Pos}
theorem binT (ha : PE X a ta) (hb : PE X b tb) {pins : List (Addr × Obj)} {s : Shared} {σ : St} {H : Hp} {R : V → V → Hp → Prop} (I : Inv X pins σ H s)
    (h : ta σ H fun x H1 => tb σ H1 fun y H2 => R x y H2) {Q : Value → Shared → Prop} {f : Value → Value → Sem Value}
    (hf : ∀ v u s2 x y H2, Inv X pins σ H2 s2 → RelV x v → RelV y u → R x y H2 → wpAny (model X.prog X.w) X.A (f v u) Q X.xe s2) :
    wpAny (model X.prog X.w) X.A (eval a X.env) (fun v s₁ => wpAny (model X.prog X.w) X.A (eval b X.env) (fun u s₂ => wpAny (model X.prog X.w) X.A (f v u) Q X.xe s₂) X.xe s₁) X.xe s := by
  refine thn (ha pins s σ H _ I h) fun v s1 ⟨x, H1, I1, r1, q1⟩ => ?_
  refine thn (hb pins s1 σ H1 _ I1 q1) fun u s2 ⟨y, H2, I2, r2, q2⟩ => ?_
  exact hf v u s2 x y H2 I2 r1 r2 q2
theorem pe_op {op : Operator} {r : R2} (ho : OpR X (binaryOp op) r) (ha : PE X a ta) (hb : PE X b tb) : PE X (.BinOp a op b pos) (tOp r ta tb) := by
  intro pins s σ H Q I h
  exact wpAny_BinOp (binT ha hb I h fun v u s2 x y H2 I2 rx ry q => ho pins s2 σ H2 x y v u Q I2 rx ry q)
theorem pe_un {op : UnaryOp} {r : V → Hp → VK → Prop} (ho : UnR X (unaryOp op) r) (ha : PE X a ta) : PE X (.UnaryOp op a pos) (tUn r ta) := by
  intro pins s σ H Q I h
  exact UnaryOp_ (thn (ha pins s σ H _ I h) fun v s1 ⟨x, H1, I1, r1, q1⟩ => ho pins s1 σ H1 x v Q I1 r1 q1)
theorem opI {f : Value → Value → Sem Value} {C : Int → Int → Prop} {g : Int → Int → Int}
    (rule : ∀ (i j : Int) (t u : Tok) (s : Shared) (Q : Value → Shared → Prop) (E : Value → Shared → Prop), C i j → Q (.int (g i j) s.toks) { s with toks := s.toks + 1 } → wpAny (model X.prog X.w) X.A (f (.int i t) (.int j u)) Q E s) :
    OpR X f (rI C fun i j => .int (g i j)) := by
  intro pins s σ H x y v u Q I rx ry h
  obtain ⟨i, j, rfl, rfl, hc, q⟩ := h
  obtain ⟨t, rfl⟩ := rx
  obtain ⟨t', rfl⟩ := ry
  exact rule i j t t' s _ _ hc ⟨.int (g i j), H, I.tok _, ⟨_, rfl⟩, q⟩
theorem opI0 {f : Value → Value → Sem Value} {g : Int → Int → Int}
    (rule : ∀ (i j : Int) (t u : Tok) (s : Shared) (Q : Value → Shared → Prop) (E : Value → Shared → Prop), Q (.int (g i j) s.toks) { s with toks := s.toks + 1 } → wpAny (model X.prog X.w) X.A (f (.int i t) (.int j u)) Q E s) :
    OpR X f (rI0 fun i j => .int (g i j)) := by
  intro pins s σ H x y v u Q I rx ry h
  obtain ⟨i, j, rfl, rfl, q⟩ := h
  obtain ⟨t, rfl⟩ := rx
  obtain ⟨t', rfl⟩ := ry
  exact rule i j t t' s _ _ ⟨.int (g i j), H, I.tok _, ⟨_, rfl⟩, q⟩
theorem opB0 {f : Value → Value → Sem Value} {g : Int → Int → Bool}
    (rule : ∀ (i j : Int) (t u : Tok) (s : Shared) (Q : Value → Shared → Prop) (E : Value → Shared → Prop), Q (.bool (g i j)) s → wpAny (model X.prog X.w) X.A (f (.int i t) (.int j u)) Q E s) :
    OpR X f (rI0 fun i j => .bl (g i j)) := by
  intro pins s σ H x y v u Q I rx ry h
  obtain ⟨i, j, rfl, rfl, q⟩ := h
  obtain ⟨t, rfl⟩ := rx
  obtain ⟨t', rfl⟩ := ry
  exact rule i j t t' s _ _ ⟨.bl (g i j), H, I, rfl, q⟩
def CDiv (i j : Int) : Prop := 0 < j ∧ j < 1073741824
def CPow (i j : Int) : Prop := 0 ≤ j ∧ j ≤ 1000000 ∧ i.natAbs < 2 ^ 64
def CMul (i j : Int) : Prop := (-(2 ^ 64) < i ∧ i < 2 ^ 64) ∨ (-(2 ^ 64) < j ∧ j < 2 ^ 64)
theorem CMul.ok {i j : Int} (h : CMul i j) : IntMulOk i j := by
  rcases h with ⟨h1, h2⟩ | ⟨h1, h2⟩
  · exact .of_left (intBits_le_64 h1 h2)
  · exact .of_right (intBits_le_64 h1 h2)
theorem op_add : OpR X (binaryOp .Add) (rI0 fun i j => .int (i + j)) := opI0 fun _ _ _ _ _ _ _ q => add_int q
theorem op_sub : OpR X (binaryOp .Sub) (rI0 fun i j => .int (i - j)) := opI0 fun _ _ _ _ _ _ _ q => sub_int q
theorem op_mul : OpR X (binaryOp .Mult) (rI CMul fun i j => .int (i * j)) := opI fun _ _ _ _ _ _ _ hc q => mul_int q hc.ok
/-- // by a positive divisor -/
theorem op_fdiv : OpR X (binaryOp .FloorDiv) (rI CDiv fun i j => .int (i / j)) := opI fun i j _ _ _ _ _ hc q => by
  have h1 : (0 : Int) < j := hc.1
  have h2 : j < 1073741824 := hc.2
  exact floordiv_int (by omega) (by rw [Int.fdiv_eq_ediv_of_nonneg i (by omega)]; exact q) (.inl (PyProof.noPylong_small (by omega)))
/-- % by a positive divisor of any size -/
theorem op_mod : OpR X (binaryOp .Mod) (rI (fun _ j => 0 < j) fun i j => .int (i % j)) := opI fun i j _ _ _ _ _ hc q => by
  have h1 : (0 : Int) < j := hc
  exact mod_int' (by omega) (by rw [Int.fmod_eq_emod_of_nonneg i (by omega)]; exact q)
theorem op_pow : OpR X (binaryOp .Pow) (rI CPow fun i j => .int (i ^ j.toNat)) := opI fun _ _ _ _ _ _ _ hc q => pow_int_small hc.1 hc.2.1 hc.2.2 q
theorem unI {f : Value → Sem Value} {g : Int → Int}
    (rule : ∀ (i : Int) (t : Tok) (s : Shared) (Q : Value → Shared → Prop) (E : Value → Shared → Prop), Q (.int (g i) s.toks) { s with toks := s.toks + 1 } → wpAny (model X.prog X.w) X.A (f (.int i t)) Q E s) :
    UnR X f (rU fun i => .int (g i)) := by
  intro pins s σ H x v Q I rx h
  obtain ⟨i, rfl, q⟩ := h
  obtain ⟨t, rfl⟩ := rx
  exact rule i t s _ _ ⟨.int (g i), H, I.tok _, ⟨_, rfl⟩, q⟩
theorem un_neg : UnR X (unaryOp .USub) (rU fun i => .int (-i)) := unI fun _ _ _ _ _ q => neg_int q
end
/-- the scalars that == tells apart as data does -/
def scal : V → V → Bool
  | .non, .non => true | .non, .int _ => true | .int _, .non => true | .non, .bl _ => true | .bl _, .non => true | .non, .str _ => true | .str _, .non => true
  | .int _, .int _ => true | .bl _, .bl _ => true | .str _, .str _ => true | .byt _, .byt _ => true
  | .int _, .str _ => true | .str _, .int _ => true | .bl _, .str _ => true | .str _, .bl _ => true
  | _, _ => false
def rEq : R2 := fun x y H Q => scal x y = true ∧ Q (.bl (decide (x = y))) H
def rNe : R2 := fun x y H Q => scal x y = true ∧ Q (.bl (!decide (x = y))) H
theorem dec_int {i j : Int} : decide (V.int i = V.int j) = (i == j) := by
  rw [Bool.eq_iff_iff]
  simp
theorem dec_bl {i j : Bool} : decide (V.bl i = V.bl j) = (i == j) := by
  rw [Bool.eq_iff_iff]
  simp
theorem dec_str {i j : Str} : decide (V.str i = V.str j) = (i == j) := by
  rw [Bool.eq_iff_iff]
  simp
theorem dec_byt {i j : Array UInt8} : decide (V.byt i = V.byt j) = (i.toList == j.toList) := by
  rw [Bool.eq_iff_iff]
  cases i
  cases j
  simp
section
variable {X : Cx} {a b c : Expr} {ta tb tc : TE} {pos : Pos}
theorem fin_bl {pins : List (Addr × Obj)} {σ : St} {H : Hp} {s : Shared} {Q : VK} {k k' : Bool} (I : Inv X pins σ H s) (q : Q (.bl k) H) (e : k = k') : EP X pins σ Q (.bool k') s := by
  subst e
  exact ⟨.bl k, H, I, rfl, q⟩
theorem op_eq : OpR X (compareOp .Eq) rEq := by
  intro pins s σ H x y v u Q I rx ry h
  obtain ⟨hs, q⟩ := h
  cases x with
  | non =>
    cases rx
    cases y with
    | non => cases ry; exact PySem.EqNone.eq_none_none (fin_bl I q (by simp))
    | bl j => cases ry; exact PySem.EqNone.eq_none_bool (fin_bl I q (by simp))
    | int j => obtain ⟨t', rfl⟩ := ry; exact PySem.EqNone.eq_none_int (fin_bl I q (by simp))
    | str j => obtain ⟨t', rfl⟩ := ry; exact PySem.EqNone.eq_none_str (fin_bl I q (by simp))
    | _ => exact absurd (show false = true from hs) Bool.false_ne_true
  | bl i =>
    cases rx
    cases y with
    | non => cases ry; exact PySem.EqNone.eq_bool_none (fin_bl I q (by simp))
    | bl j => cases ry; exact eq_bool (fin_bl I q dec_bl)
    | str j => obtain ⟨t', rfl⟩ := ry; exact PySem.EqMixed.eq_bool_str (fin_bl I q (by simp))
    | _ => exact absurd (show false = true from hs) Bool.false_ne_true
  | int i =>
    obtain ⟨t, rfl⟩ := rx
    cases y with
    | non => cases ry; exact PySem.EqNone.eq_int_none (fin_bl I q (by simp))
    | int j => obtain ⟨t', rfl⟩ := ry; exact eq_int (fin_bl I q dec_int)
    | str j => obtain ⟨t', rfl⟩ := ry; exact PySem.EqMixed.eq_int_str (fin_bl I q (by simp))
    | _ => exact absurd (show false = true from hs) Bool.false_ne_true
  | str i =>
    obtain ⟨t, rfl⟩ := rx
    cases y with
    | non => cases ry; exact PySem.EqNone.eq_str_none (fin_bl I q (by simp))
    | bl j => cases ry; exact PySem.EqMixed.eq_str_bool (fin_bl I q (by simp))
    | int j => obtain ⟨t', rfl⟩ := ry; exact PySem.EqMixed.eq_str_int (fin_bl I q (by simp))
    | str j => obtain ⟨t', rfl⟩ := ry; exact eq_str (fin_bl I q dec_str)
    | _ => exact absurd (show false = true from hs) Bool.false_ne_true
  | byt i =>
    obtain ⟨t, rfl⟩ := rx
    cases y with
    | byt j => obtain ⟨t', rfl⟩ := ry; exact PySem.W.eq_bytes (fin_bl I q dec_byt)
    | _ => exact absurd (show false = true from hs) Bool.false_ne_true
  | _ => cases y <;> exact absurd (show false = true from hs) Bool.false_ne_true
theorem op_ne : OpR X (compareOp .NotEq) rNe := by
  intro pins s σ H x y v u Q I rx ry h
  obtain ⟨hs, q⟩ := h
  cases x with
  | non =>
    cases rx
    cases y with
    | non => cases ry; exact PySem.EqNone.ne_none_none (fin_bl I q (by simp))
    | bl j => cases ry; exact PySem.EqNone.ne_none_bool (fin_bl I q (by simp))
    | int j => obtain ⟨t', rfl⟩ := ry; exact PySem.EqNone.ne_none_int (fin_bl I q (by simp))
    | str j => obtain ⟨t', rfl⟩ := ry; exact PySem.EqNone.ne_none_str (fin_bl I q (by simp))
    | _ => exact absurd (show false = true from hs) Bool.false_ne_true
  | bl i =>
    cases rx
    cases y with
    | non => cases ry; exact PySem.EqNone.ne_bool_none (fin_bl I q (by simp))
    | bl j => cases ry; exact ne_bool (fin_bl I q (congrArg not dec_bl))
    | str j => obtain ⟨t', rfl⟩ := ry; exact PySem.EqMixed.ne_bool_str (fin_bl I q (by simp))
    | _ => exact absurd (show false = true from hs) Bool.false_ne_true
  | int i =>
    obtain ⟨t, rfl⟩ := rx
    cases y with
    | non => cases ry; exact PySem.EqNone.ne_int_none (fin_bl I q (by simp))
    | int j => obtain ⟨t', rfl⟩ := ry; exact ne_int (fin_bl I q (congrArg not dec_int))
    | str j => obtain ⟨t', rfl⟩ := ry; exact PySem.EqMixed.ne_int_str (fin_bl I q (by simp))
    | _ => exact absurd (show false = true from hs) Bool.false_ne_true
  | str i =>
    obtain ⟨t, rfl⟩ := rx
    cases y with
    | non => cases ry; exact PySem.EqNone.ne_str_none (fin_bl I q (by simp))
    | bl j => cases ry; exact PySem.EqMixed.ne_str_bool (fin_bl I q (by simp))
    | int j => obtain ⟨t', rfl⟩ := ry; exact PySem.EqMixed.ne_str_int (fin_bl I q (by simp))
    | str j => obtain ⟨t', rfl⟩ := ry; exact ne_str (fin_bl I q (congrArg not dec_str))
    | _ => exact absurd (show false = true from hs) Bool.false_ne_true
  | byt i =>
    obtain ⟨t, rfl⟩ := rx
    cases y with
    | byt j => obtain ⟨t', rfl⟩ := ry; exact PySem.W.ne_bytes (fin_bl I q (congrArg not dec_byt))
    | _ => exact absurd (show false = true from hs) Bool.false_ne_true
  | _ => cases y <;> exact absurd (show false = true from hs) Bool.false_ne_true
theorem op_lt : OpR X (compareOp .Lt) (rI0 fun i j => .bl (decide (i < j))) := opB0 fun _ _ _ _ _ _ _ q => lt_int q
theorem op_gt : OpR X (compareOp .Gt) (rI0 fun i j => .bl (decide (j < i))) := opB0 fun _ _ _ _ _ _ _ q => gt_int q
theorem op_ge : OpR X (compareOp .GtE) (rI0 fun i j => .bl (decide (j ≤ i))) := opB0 fun _ _ _ _ _ _ _ q => ge_int q
/-- is None, is not None: the right side a value none -/
theorem op_isN : OpR X (compareOp .Is) (fun x y H Q => y = .non ∧ Q (.bl (decide (x = .non))) H) := by
  intro pins s σ H x y v u Q I rx ry h
  obtain ⟨rfl, q⟩ := h
  cases ry
  refine is_none_gen (fin_bl I q ?_)
  cases x <;> first
    | (cases rx; rfl)
    | (obtain ⟨t, rfl⟩ := rx; rfl)
/-- two rules for one operation: by cases -/
theorem OpR.or {f : Value → Value → Sem Value} {r r' : R2} (h : OpR X f r) (h' : OpR X f r') : OpR X f (fun x y H Q => r x y H Q ∨ r' x y H Q) := by
  intro pins s σ H x y v u Q I rx ry q
  rcases q with q | q
  · exact h pins s σ H x y v u Q I rx ry q
  · exact h' pins s σ H x y v u Q I rx ry q
theorem nomark (b : Expr) {op : CmpOp} (h : op ≠ .In := by decide) (h2 : op ≠ .NotIn := by decide) : behindInMarks op b = false := by
  have e1 : (op == CmpOp.In) = false := by cases op <;> first | rfl | exact absurd rfl h
  have e2 : (op == CmpOp.NotIn) = false := by cases op <;> first | rfl | exact absurd rfl h2
  cases b <;> simp [behindInMarks, e1, e2]
/-- a comparison as a value; hm: nomark b, or (for in, not in) by with_unfolding_all rfl -/
theorem pe_cmpR {op : CmpOp} {r : R2} (ho : OpR X (compareOp op) r) (ha : PE X a ta) (hb : PE X b tb) (hm : behindInMarks op b = false) : PE X (.Compare a [op] [b] pos) (tOp r ta tb) := by
  intro pins s σ H Q I h
  exact wpAny_Compare1 (binT ha hb I h fun v u s2 x y H2 I2 rx ry q => ho pins s2 σ H2 x y v u Q I2 rx ry q) hm
/-- a reading of a value as a test -/
def tTest (t : TE) : TT := fun σ H Q => t σ H fun x H' => ∃ k, x = .bl k ∧ Q k H'
theorem pt_cmpR {op : CmpOp} {r : R2} (ho : OpR X (compareOp op) r) (ha : PE X a ta) (hb : PE X b tb) (hm : behindInMarks op b = false) : PT X (.Compare a [op] [b] pos) (tTest (tOp r ta tb)) := by
  intro pins s σ H Q I h
  refine wpAny_isTrue_Compare1 (thn (ha pins s σ H _ I h) fun v s1 ⟨x, H1, I1, r1, q1⟩ => thn (hb pins s1 σ H1 _ I1 q1) fun u s2 ⟨y, H2, I2, r2, q2⟩ =>
    thn (ho pins s2 σ H2 x y v u _ I2 r1 r2 q2) fun c s3 ⟨z, H3, I3, r3, k, e, q3⟩ => ?_) hm
  subst e
  cases r3
  exact wpAny_truthy_bool ⟨H3, I3, q3⟩
/-- a value's truth by the abstract heap -/
def TruV (K : PySem.W.Frag) (x : V) (H : Hp) (k : Bool) : Prop :=
  match x with
  | .non => k = false
  | .bl b => k = b
  | .int i => k = (i != 0)
  | .str y => y.length ≤ sizeLine ∧ k = ((y.length : Int) != 0)
  | .byt y => y.size ≤ sizeLine ∧ k = ((y.size : Int) != 0)
  | .ref p => (∃ xs, SqL K H p xs ∧ k = !xs.isEmpty) ∨ (∃ xs, SqT K H p xs ∧ k = !xs.isEmpty) ∨ ∃ kvs, H p = some (.dK kvs) ∧ k = !kvs.isEmpty
  | _ => False
theorem isEmpty_kv {κ : Type} {kvs : List (κ × V)} {vs : List (κ × Value)} (r : KV kvs vs) : (!vs.isEmpty) = !kvs.isEmpty := by
  cases r <;> rfl
theorem isEmpty_of {xs : List V} {its : List Value} (r : Vals xs its) : (!its.toArray.isEmpty) = !xs.isEmpty := by
  cases r <;> simp
theorem line63 : (sizeLine : Nat) < 2 ^ 63 := by rw [sizeLine_eq]; decide
theorem tru_ok : TruR X (fun x H Q => ∃ k, TruV X.K x H k ∧ Q k H) := by
  intro pins s σ H x v Q I rx h
  obtain ⟨k, e, q⟩ := h
  have hl := line63
  have hs : sizeLine = 16777216 := sizeLine_eq
  cases x with
  | non =>
    cases rx
    have e' : k = false := e
    subst e'
    exact truthy_none ⟨H, I, q⟩
  | bl b =>
    cases rx
    have e' : k = b := e
    subst e'
    exact wpAny_truthy_bool ⟨H, I, q⟩
  | int i =>
    obtain ⟨t, rfl⟩ := rx
    have e' : k = (i != 0) := e
    subst e'
    exact PySem.P.truthy_int ⟨H, I, q⟩
  | str y =>
    obtain ⟨t, rfl⟩ := rx
    obtain ⟨hy, e'⟩ : y.length ≤ sizeLine ∧ k = ((y.length : Int) != 0) := e
    subst e'
    exact PySem.P.truthy_str (by omega) ⟨H, I.tok _, q⟩
  | byt y =>
    obtain ⟨t, rfl⟩ := rx
    obtain ⟨hy, e'⟩ : y.size ≤ sizeLine ∧ k = ((y.size : Int) != 0) := e
    subst e'
    exact PySem.W.truthy_bytes (by omega) ⟨H, I.tok _, q⟩
  | ref p =>
    cases rx
    have e' : (∃ xs, SqL X.K H p xs ∧ k = !xs.isEmpty) ∨ (∃ xs, SqT X.K H p xs ∧ k = !xs.isEmpty) ∨ ∃ kvs, H p = some (.dK kvs) ∧ k = !kvs.isEmpty := e
    rcases e' with ⟨xs, hx, e'⟩ | ⟨xs, hx, e'⟩ | ⟨kvs, hx, e'⟩
    · subst e'
      obtain ⟨its, r, pl, hz⟩ := I.list hx
      have hlen := r.length
      exact wpAny_truthy_list pl.isList (by simp only [List.size_toArray]; omega) ⟨H, I.tok _, by rw [isEmpty_of r]; exact q⟩
    · subst e'
      obtain ⟨its, r, pl, hz⟩ := I.tuple hx
      have hlen := r.length
      exact truthy_tuple pl (by simp only [List.size_toArray]; omega) ⟨H, I.tok _, by rw [isEmpty_of r]; exact q⟩
    · subst e'
      obtain ⟨hz, hS, vs, r, m⟩ : kvs.length ≤ sizeLine ∧ (p == sysModules) = false ∧ ∃ vs, KV kvs vs ∧ s.heap.DictOf (mixKind X.prog X.w) p vs := I.hok p _ hx
      have hlen : kvs.length = vs.length := Paired.length r
      exact wpAny_truthy_dict hS m (by omega) ⟨H, I.tok _, by rw [isEmpty_kv r]; exact q⟩
  | _ => exact (show False from e).elim
/-- any expression whose test is its value's truth (a name, a call, a subscript, a field ..: he by fun _ => rfl) -/
theorem pt_truth (ha : PE X a ta) (he : ∀ whole, isTrue a X.env whole = (do let v ← whole; standAt a.pos; holding [v] (truthy v))) :
    PT X a (fun σ H Q => ta σ H fun x H' => ∃ k, TruV X.K x H' k ∧ Q k H') := by
  intro pins s σ H Q I h
  exact isTrue_plain (thn (ha pins s σ H _ I h) fun v s1 ⟨x, H1, I1, r1, q1⟩ => tru_ok pins s1 σ H1 x v Q I1 r1 q1) (he _)
theorem vals1 {x : V} {us : List Value} (r : Vals [x] us) : ∃ u, us = [u] ∧ RelV x u := by
  cases r with
  | cons r1 r2 => cases r2; exact ⟨_, rfl, r1⟩
theorem vals2 {x y : V} {us : List Value} (r : Vals [x, y] us) : ∃ u w', us = [u, w'] ∧ RelV x u ∧ RelV y w' := by
  cases r with
  | cons r1 r2 =>
    cases r2 with
    | cons r3 r4 => cases r4; exact ⟨_, _, rfl, r1, r3⟩
theorem call_max2 (hc : X.calm = true) : CallR X (.builtin "max") (fun xs H Q => ∃ i j, xs = [.int i, .int j] ∧ Q (.int (if j > i then j else i)) H) := by
  intro pins s σ H xs us Q I r h
  obtain ⟨i, j, rfl, q⟩ := h
  obtain ⟨u, w', rfl, ⟨t, rfl⟩, ⟨t', rfl⟩⟩ := vals2 r
  refine max_two_ints (I.ok.hd hc) fun h' tk k => ⟨_, H, I.kept k, ?_, q⟩
  by_cases hj : j > i
  · rw [if_pos hj, if_pos hj]; exact ⟨_, rfl⟩
  · rw [if_neg hj, if_neg hj]; exact ⟨_, rfl⟩
theorem call_min2 (hc : X.calm = true) : CallR X (.builtin "min") (fun xs H Q => ∃ i j, xs = [.int i, .int j] ∧ Q (.int (if j < i then j else i)) H) := by
  intro pins s σ H xs us Q I r h
  obtain ⟨i, j, rfl, q⟩ := h
  obtain ⟨u, w', rfl, ⟨t, rfl⟩, ⟨t', rfl⟩⟩ := vals2 r
  refine min_two_ints (I.ok.hd hc) fun h' tk k => ⟨_, H, I.kept k, ?_, q⟩
  by_cases hj : j < i
  · rw [if_pos hj, if_pos hj]; exact ⟨_, rfl⟩
  · rw [if_neg hj, if_neg hj]; exact ⟨_, rfl⟩
end
end L2
namespace L2
open PySem PySem.Spec PyProof.Rows
structure ObjM (h : Heap) (x dx C : Addr) (mA : Str → Option Value) : Prop where
  obj : h.get? x = some (PySem.W.instObj C dx)
  ns : h.Ns1 dx mA
  ne : dx ≠ x
theorem lookIn_ns {h : Heap} {dx : Addr} {mA : Str → Option Value} (n : h.Ns1 dx mA) : ∃ od, h.get? dx = some od ∧ ∀ name, PySem.W.lookIn name od = some (mA name) := by
  obtain ⟨o, es, ep, ho, hd, hk, _, hm⟩ := n
  refine ⟨o, ho, fun name => ?_⟩
  have e := hm name
  unfold nsFind findBy at e
  rw [← Array.find?_toList] at e
  unfold PySem.W.lookIn
  rw [hd]
  dsimp only
  split
  · rename_i y q
    rw [q] at e
    exact congrArg some e
  · rename_i q
    rw [q] at e
    have a : es.toList.any (·.refKey) = false := by
      rw [List.any_eq_false]
      intro y hy
      obtain ⟨z, t, hkey⟩ := hk y (Array.mem_toList_iff.mp hy)
      simp [DictEntry.refKey, hkey]
    have a' : ¬ es.toList.any (·.refKey) = true := by rw [a]; exact Bool.false_ne_true
    rw [if_neg a']
    exact congrArg some e
theorem ObjM.look {h : Heap} {x dx C : Addr} {mA : Str → Option Value} (I : ObjM h x dx C mA) : ∃ od, PySem.W.InstAt h x (PySem.W.instObj C dx) C (some od) ∧ ∀ name, PySem.W.lookIn name od = some (mA name) :=
  let ⟨od, ho, hl⟩ := lookIn_ns I.ns
  ⟨od, ⟨I.obj, rfl, rfl, ho⟩, hl⟩
structure Cls (K : PySem.W.Frag) (C : Addr) : Prop where
  pg : PySem.W.plainGet K C Str.empty = true
  hd : PySem.W.hasDictIn K C = true
  po : PySem.W.plainOver K C = true
  sa : PySem.W.findIn K (.ref C) "__setattr__" = some (some (.builtin "object.__setattr__"))
theorem Cls.get {K : PySem.W.Frag} {C : Addr} (c : Cls K C) (f : Str) : PySem.W.plainGet K C f = true := c.pg
/-- no class of it has the name -/
def NoAttr (K : PySem.W.Frag) (C : Addr) (f : Str) : Prop := PySem.W.findIn K (.ref C) f = some none
/-- a constant of the class -/
structure Con (K : PySem.W.Frag) (C : Addr) (f : Str) (v : V) (u : Value) : Prop where
  at_ : PySem.W.findIn K (.ref C) f = some (some u)
  rel : RelV v u
  get : PySem.W.specialIn K u "__get__" = some none
  cp : PySem.W.copiedNames.contains f = false
/-- a method: a plain def of the class or of one above it -/
structure Meth (K : PySem.W.Frag) (C : Addr) (m : Str) (f : Addr) : Prop where
  at_ : PySem.W.findIn K (.ref C) m = some (some (.ref f))
  fn : PySem.W.isFn K (.ref f) = true
  kp : PySem.W.keepIn K (.ref f) = true
section
variable {X : Cx} {pins : List (Addr × Obj)} {σ : St} {H : Hp} {s : Shared} {a C dx : Addr} {fs : List (Str × V)} {f : Str} {v : V} {A : Around} {E : Value → Shared → Prop}
/-- a new instance, tracked, without attributes -/
theorem Inv.made (I : Inv X pins σ H s) : Inv X pins σ (upd (upd H s.heap.objs.size (.own (s.heap.objs.size + 1))) (s.heap.objs.size + 1) (.ins C s.heap.objs.size []))
    { s with heap := (s.heap.push PySem.W.emptyDict).push (PySem.W.instObj C s.heap.objs.size) } := by
  have e1 : (s.heap.push PySem.W.emptyDict).get? s.heap.objs.size = some PySem.W.emptyDict := Heap.get?_push_size s.heap rfl
  have e2 : ((s.heap.push PySem.W.emptyDict).push (PySem.W.instObj C s.heap.objs.size)).get? (s.heap.objs.size + 1) = some (PySem.W.instObj C s.heap.objs.size) := by
    have := Heap.get?_push_size (s.heap.push PySem.W.emptyDict) (o := PySem.W.instObj C s.heap.objs.size) rfl
    rwa [Heap.size_push] at this
  have e3 : (s.heap.push PySem.W.emptyDict).Ns s.heap.objs.size (fun _ => none) := ⟨PySem.W.emptyDict, #[], _, e1, rfl, (fun e he => absurd he (by simp)), fun _ => rfl⟩
  have I1 := I.laid (a := s.heap.objs.size) (o := .own (s.heap.objs.size + 1)) (h' := s.heap.push PySem.W.emptyDict) (t' := s.toks) (fun b u q => Heap.get?_push_of_some _ q) (Nat.le_refl _) ⟨_, e1⟩
  refine I1.laid (a := s.heap.objs.size + 1) (o := .ins C s.heap.objs.size []) (t' := s.toks) (fun b u q => Heap.get?_push_of_some _ q) (Nat.le_of_eq (Heap.size_push _ _)) ?_
  have ne : s.heap.objs.size ≠ s.heap.objs.size + 1 := Nat.ne_of_lt (Nat.lt_succ_self _)
  refine ⟨by rw [upd_ne ne, upd_same], Nat.zero_le _, ne, e2, fun _ => none, (Heap.Ns1.of_empty e3).at fun o q => Heap.get?_push_of_some _ q, fun _ => True.intro, fun y hy => absurd rfl hy⟩
end
section
variable {X : Cx} {pins : List (Addr × Obj)} {σ : St} {H : Hp} {s : Shared} {A : Around} {E : Value → Shared → Prop} {Q : Value → Shared → Prop} {c : Value} {b : Bool}
/-- the type of a value, as the fragment's deciders take it; for an instance its class -/
inductive TyOf (K : PySem.W.Frag) (H : Hp) : V → Value → Prop where
  | non : TyOf K H .non (.type "NoneType")
  | bl (x : Bool) : TyOf K H (.bl x) (.type "bool")
  | int (i : Int) : TyOf K H (.int i) (.type "int")
  | str (x : Str) : TyOf K H (.str x) (.type "str")
  | flt (x : UInt64) : TyOf K H (.flt x) (.type "float")
  | lst {a : Addr} {xs : List V} (e : H a = some (.lst xs)) : TyOf K H (.ref a) (.type "list")
  | frz {a : Addr} {o : Obj} {xs : List V} (e : H a = some (.frz o (.lst xs))) : TyOf K H (.ref a) (.type "list")
  | tup {a : Addr} {xs : List V} (e : H a = some (.tup xs)) : TyOf K H (.ref a) (.type "tuple")
  | dK {a : Addr} {kvs : List (Key × V)} (e : H a = some (.dK kvs)) : TyOf K H (.ref a) (.type "dict")
  | dT {a : Addr} {kvs : List (List Key × V)} (e : H a = some (.dT kvs)) : TyOf K H (.ref a) (.type "dict")
  | ins {a C dx : Addr} {fs : List (Str × V)} (e : H a = some (.ins C dx fs)) (cl : Cls K C) (ha : PySem.W.findIn K (.ref C) "__class__" = some (some (.builtin "object.__class__")))
      (hn : PySem.W.specialIn K (.builtin "object.__class__") "__get__" = some (some (.builtin "getset_descriptor.__get__"))) (htk : PySem.W.takesIn K (.builtin "object.__class__") = some true)
      (hm : PySem.W.mroIn K C (.type "object") = some true) : TyOf K H (.ref a) (.ref C)
end
end L2
namespace L2
open PySem PySem.Spec PyProof.Rows
structure Room (k : Nat) (A : Around) : Prop where
  hd : A.handled = none
  dp : A.depth + 3 * k + 5 < recursionLimit
  un : A.units + 16 * k + 200 < cLine
theorem Room.mono {j k : Nat} {A : Around} (r : Room k A) (h : j ≤ k) : Room j A := ⟨r.hd, by have := r.dp; omega, by have := r.un; omega⟩
theorem Room.deeper {k : Nat} {A : Around} (r : Room (k + 1) A) (env : Env) : Room k (A.deeper env) :=
  ⟨r.hd, by have := r.dp; show A.depth + 1 + 3 * k + 5 < _; omega, by have := r.un; show A.units + 3 + 16 * k + 200 < _; omega⟩
theorem Room.in1 {k : Nat} {A : Around} (r : Room (k + 1) A) : Room k A.in1 :=
  ⟨r.hd, by have := r.dp; show A.depth + 3 * k + 5 < _; omega, by have := r.un; show A.units + 1 + 16 * k + 200 < _; omega⟩
theorem Room.depth {k : Nat} {A : Around} (r : Room k A) : A.depth < recursionLimit := by have := r.dp; omega
theorem Room.units {k : Nat} {A : Around} (r : Room k A) : A.units + 64 < cLine := by have := r.un; omega
def tNil : TA := fun _ H Q => Q [] H
def tCons (ta : TE) (tr : TA) : TA := fun σ H Q => ta σ H fun x H1 => tr σ H1 fun xs H2 => Q (x :: xs) H2
section
variable {X : Cx} {e : Expr} {es : List Expr} {te : TE} {t : TA} {pos : Pos}
theorem pa_nil : PA X [] tNil := fun _ _ _ _ H Q I h => Calls.spliced_nil ⟨[], H, I, .nil, h⟩
theorem pa_cons (ha : PE X e te) (hr : PA X es t) (hs : starEach (e :: es) X.env = (false, eval e X.env) :: starEach es X.env := by rfl) : PA X (e :: es) (tCons te t) := by
  intro pos pins s σ H Q I h
  rw [hs]
  show wpAny _ _ (spliced ((false, eval e X.env) :: backTo pos (starEach es X.env))) _ _ s
  refine Calls.spliced_cons (thn (ha pins s σ H _ I h) fun u s1 ⟨x, H1, I1, r1, q1⟩ => ?_)
  exact thn (hr pos pins s1 σ H1 _ I1 q1) fun us s2 ⟨xs, H2, I2, r2, q2⟩ => ⟨x :: xs, H2, I2, .cons r1 r2, q2⟩
/-- a tuple, a list of written items -/
def tTup (t : TA) : TE := fun σ H Q => t σ H fun xs H1 => xs.length ≤ sizeLine ∧ ∀ p, H1 p = none → Q (.ref p) (upd H1 p (.tup xs))
def tLst (t : TA) : TE := fun σ H Q => t σ H fun xs H1 => xs.length ≤ sizeLine ∧ ∀ p, H1 p = none → Q (.ref p) (upd H1 p (.lst xs))
theorem pe_tup {x1} (h : PA X es t) : PE X (.Tuple es x1 pos) (tTup t) := by
  intro pins s σ H Q I hq
  refine wpAny_Tuple_spliced (thn (h pos pins s σ H _ I hq) fun us s1 ⟨xs, H1, I1, r, z, q⟩ => ⟨by rw [← r.length]; exact z, ?_⟩)
  have hf : H1 s1.heap.objs.size = none := I1.hok.fresh (Nat.le_refl _)
  refine ⟨.ref s1.heap.objs.size, upd H1 s1.heap.objs.size (.tup xs), I1.laid (t' := s1.toks) (fun b u e => Heap.get?_push_of_some _ e) (Nat.le_refl _) ?_, rfl, q _ hf⟩
  exact ⟨z, us, r, ⟨_, Heap.get?_push_size _ rfl, rfl, _, rfl⟩⟩
theorem pe_lst (h : PA X es t) : PE X (.List es pos) (tLst t) := by
  intro pins s σ H Q I hq
  refine wpAny_List_spliced (thn (h pos pins s σ H _ I hq) fun us s1 ⟨xs, H1, I1, r, z, q⟩ => ⟨by rw [← r.length]; exact z, ?_⟩)
  have hf : H1 s1.heap.objs.size = none := I1.hok.fresh (Nat.le_refl _)
  refine ⟨.ref s1.heap.objs.size, upd H1 s1.heap.objs.size (.lst xs), I1.laid (t' := s1.toks) (fun b u e => Heap.get?_push_of_some _ e) (Nat.le_refl _) ?_, rfl, q _ hf⟩
  exact ⟨z, us, 0, r, Heap.get?_push_size _ rfl⟩
end
/-- a def's promise: the bound arguments in the parameters' order, the heap, the wanted end, the wanted exception -/
abbrev Sp := List V → Hp → VK → XK → Prop
/-- how an exception lies behind a call (file 08 gives it): the callers' frames, abstract heap and state ahead of the call, the wish, the exception, the state -/
abbrev CXT := List Env → Hp → Shared → XK → Value → Shared → Prop
/-- the state at a call -/
structure Env0 (P : Program) (w : World) (K : PySem.W.Frag) (mg : Str → Option Value) (base : Heap) (A : Around) (outer : List Env) (s : Shared) (H : Hp) : Prop where
  frames : A.frames = some outer
  mod : Mod K mg base
  bs : ∀ b o, base.get? b = some o → s.heap.get? b = some o ∧ H b = none
  bsz : base.objs.size ≤ s.heap.objs.size
  funs : s.heap.FunFrames base outer
  frf : ∀ b ∈ frs outer, H b = none
  hok : HOk P w H s.heap
  bare : AllBare s.gens
/-- a call's end -/
def CE (outer : List Env) (P : Program) (w : World) (H : Hp) (s : Shared) (Q : VK) (u : Value) (s' : Shared) : Prop :=
  ∃ v H', s'.os = s.os ∧ AllBare s'.gens ∧ Un (frs outer) [] H H' s.heap s'.heap ∧ HOk P w H' s'.heap ∧ RelV v u ∧ Q v H'
def CR (CX : CXT) (outer : List Env) (P : Program) (w : World) (H : Hp) (s : Shared) (Q : VK) (E : XK) (r : Result) (s' : Shared) : Prop :=
  match r with
  | .ok (.ret u) => CE outer P w H s Q u s'
  | .ok _ => False
  | .error e => CX outer H s E e s'
structure FnOk (P : Program) (w : World) (K : PySem.W.Frag) (mg : Str → Option Value) (base : Heap) (CX : CXT) (k : Nat) (f : Addr) (fd : FuncData) (ps : List Str) (sp : Sp) : Prop where
  len : ∀ vs H Q E, sp vs H Q E → vs.length = ps.length
  run : ∀ (A : Around) (outer : List Env) (s : Shared) (H : Hp) (args : Args) (us : List Value) (vs : List V) (Q : VK) (E : XK), Room k A → Env0 P w K mg base A outer s H → BindsTo s fd args (ps.zip us) → Vals vs us → sp vs H Q E →
    codeAny (model P w) A (.call (.ref f) args) (CR CX outer P w H s Q E) s
theorem FnOk.mono {P : Program} {w : World} {K : PySem.W.Frag} {mg : Str → Option Value} {base : Heap} {CX : CXT} {j k : Nat} {f : Addr} {fd : FuncData} {ps : List Str} {sp : Sp} (F : FnOk P w K mg base CX j f fd ps sp) (h : j ≤ k) :
    FnOk P w K mg base CX k f fd ps sp := ⟨F.len, fun A outer s H args us vs Q E hr => F.run A outer s H args us vs Q E (hr.mono h)⟩
/-- a weaker promise -/
theorem FnOk.imp {P : Program} {w : World} {K : PySem.W.Frag} {mg : Str → Option Value} {base : Heap} {CX : CXT} {k : Nat} {f : Addr} {fd : FuncData} {ps : List Str} {sp sp' : Sp} (F : FnOk P w K mg base CX k f fd ps sp)
    (h : ∀ vs H Q E, sp' vs H Q E → sp vs H Q E) : FnOk P w K mg base CX k f fd ps sp' :=
  ⟨fun vs H Q E q => F.len vs H Q E (h _ _ _ _ q), fun A outer s H args us vs Q E hr he hb hv hs => F.run A outer s H args us vs Q E hr he hb hv (h _ _ _ _ hs)⟩
theorem Env0.in1 {P : Program} {w : World} {K : PySem.W.Frag} {mg : Str → Option Value} {base : Heap} {A : Around} {outer : List Env} {s : Shared} {H : Hp} (e : Env0 P w K mg base A outer s H) :
    Env0 P w K mg base A.in1 outer s H := ⟨e.frames, e.mod, e.bs, e.bsz, e.funs, e.frf, e.hok, e.bare⟩
section
variable {X : Cx} {pins : List (Addr × Obj)} {σ : St} {H : Hp} {s s' : Shared}
/-- from a body: what a callee wants -/
theorem Inv.env0 (I : Inv X pins σ H s) : Env0 X.prog X.w X.K X.mg X.base X.A X.stack s H :=
  ⟨I.ok.frames, I.ok.mod, I.bs, Nat.le_trans I.ok.bsz I.sz, I.stack, I.stkFree, I.hok, I.bare⟩
/-- behind a call -/
theorem Inv.after {Q : VK} {u : Value} (I : Inv X pins σ H s) (h : CE X.stack X.prog X.w H s Q u s') : EP X pins σ Q u s' := by
  obtain ⟨v, H', os, bare, un, hok, r, q⟩ := h
  obtain ⟨hh, g, d, t, os'⟩ := s'
  obtain rfl : os' = s.os := os
  exact ⟨v, H', I.call (h' := hh) (g' := g) (d' := d) (t' := t) (ch := []) un hok bare (fun b z => absurd z (by simp)), r, q⟩
end
/-- f(..): the written arguments, then the defaults dvs; E: what is wanted of an exception -/
def tCall (sp : Sp) (dvs : List V) (E : XK) (t : TA) : TE := fun σ H Q => t σ H fun vs H1 => sp (vs ++ dvs) H1 Q E
/-- how the parameters are bound: us the positional arguments, kw the keywords' values by name, ds the defaults that fill up -/
def Binds (K : PySem.W.Frag) (fd : FuncData) (ps : List Str) (ds : List Value) : Prop :=
  ∀ (s : Shared) (us : List Value), K.In s.heap → (us ++ ds).length = ps.length → BindsTo s fd ⟨us, []⟩ (ps.zip (us ++ ds))
/-- every parameter is given -/
theorem Binds.all {K : PySem.W.Frag} {fd : FuncData} {ps : List Str} (h : ∀ us : List Value, us.length = ps.length → bindArgs fd ⟨us, []⟩ = pure (ps.zip us)) : Binds K fd ps [] := fun s us _ hl => by
  rw [List.append_nil] at hl ⊢
  exact .of_eq (h us hl)
/-- an exception of a callee reaches what this body wants of exceptions -/
def Passes (CX : CXT) (X : Cx) (E : XK) : Prop := ∀ (pins : List (Addr × Obj)) (σ : St) (H : Hp) (s : Shared) (e : Value) (s' : Shared), Inv X pins σ H s → CX X.stack H s E e s' → X.xe e s'
section
variable {X : Cx} {CX : CXT} {k : Nat} {f C : Addr} {fd : FuncData} {ps : List Str} {sp : Sp} {dvs : List V} {ds : List Value} {E : XK} {x m : Str} {p pos apos : Pos} {e o : Expr} {es : List Expr} {ta : TE} {t : TA}
/-- the callee runs -/
theorem run_fn {pins : List (Addr × Obj)} {σ : St} {H : Hp} {s : Shared} {Q : VK} {us : List Value} {vs : List V} (F : FnOk X.prog X.w X.K X.mg X.base CX k f fd ps sp) (hr : Room k X.A) (hb : Binds X.K fd ps ds) (hd : Vals dvs ds) (hx : Passes CX X E)
    (I : Inv X pins σ H s) (r : Vals vs us) (h : sp (vs ++ dvs) H Q E) : wpAny (model X.prog X.w) X.A (call (.ref f) us) (EP X pins σ Q) X.xe s := by
  have r2 : Vals (vs ++ dvs) (us ++ ds) := r.append hd
  have hl : (us ++ ds).length = ps.length := by rw [← r2.length]; exact F.len _ _ _ _ h
  refine wpAny_call (codeAny_mono (F.run X.A X.stack s H ⟨us, []⟩ (us ++ ds) (vs ++ dvs) Q E hr I.env0 (hb s us I.kIn hl) r2 h) fun r s' hq => ?_)
  cases r with
  | error e => exact hx pins σ H s e s' I hq
  | ok fl =>
    cases fl with
    | ret u => exact I.after hq
    | next => exact False.elim hq
    | brk => exact False.elim hq
    | cont => exact False.elim hq
theorem pe_call (F : FnOk X.prog X.w X.K X.mg X.base CX k f fd ps sp) (hr : Room k X.A) (hg : Gl X x) (hm : X.mg x = some (.ref f)) (hk : PySem.W.keepIn X.K (.ref f) = true) (hb : Binds X.K fd ps ds) (hd : Vals dvs ds) (hx : Passes CX X E)
    (ha : PA X (e :: es) t) (hdb : (x == ("__debug__" : Str)) = false := by decide) (he : starEach (e :: es) X.env = (false, eval e X.env) :: starEach es X.env := by rfl) (hpl : (backTo pos (starEach es X.env)).any (·.1) = false := by rfl) :
    PE X (.Call (.Name x p) (e :: es) [] pos) (tCall sp dvs E t) := by
  intro pins s σ H Q I h
  refine wpAny_Call_Name_kw (ld_glob I hg hm ?_ hdb)
  refine PySem.W.callWith_K (h₀ := X.base) I.ok.mod.kin hk (thn (ha pos pins s σ H _ I h) fun us s1 ⟨vs, H1, I1, r, q⟩ => ⟨I1.kIn, ?_⟩) he hpl
  exact run_fn F hr hb hd hx I1 r q
/-- what a class must have to be made -/
structure Mk (K : PySem.W.Frag) (C f : Addr) : Prop where
  makes : PySem.W.makesIn K C = true
  init : PySem.W.findIn K (.ref C) "__init__" = some (some (.ref f))
  fn : PySem.W.isFn K (.ref f) = true
  kp : PySem.W.keepIn K (.ref C) = true
end
section
variable {X : Cx} {CX : CXT} {k : Nat} {f C : Addr} {fd : FuncData} {ps ks : List Str} {sp : Sp} {E : XK} {x m : Str} {p pos apos kpos : Pos} {e o : Expr} {es : List Expr} {kws : List Keyword} {te ta : TE} {t tk : TA} {nm : Option Str}
/-- how a call with keywords binds: g puts the positional values us and the keywords' values ws (names ks) in the parameters' order, defaults among them -/
structure KBinds (K : PySem.W.Frag) (fd : FuncData) (ps ks : List Str) (g : List Value → List Value → List Value) (gV : List V → List V → List V) : Prop where
  to : ∀ (s : Shared) (us ws : List Value), K.In s.heap → (g us ws).length = ps.length → BindsTo s fd ⟨us, ks.zip ws⟩ (ps.zip (g us ws))
  rel : ∀ {vs : List V} {us : List Value} {zs : List V} {ws : List Value}, Vals vs us → Vals zs ws → Vals (gV vs zs) (g us ws)
variable {g : List Value → List Value → List Value} {gV : List V → List V → List V}
end
/-- names: the parameters first -/
structure FnScope (N P : List Str) (sc : Scope) : Prop where
  kind : sc.kind = .function
  co : sc.isCoroutine = false
  gen : sc.isGenerator = false
  nd : N.Nodup
  pre : N.take P.length = P
  par : ∀ x ∈ P, sc.names.lookup x = some .local ∨ sc.names.lookup x = some .cell
  nofree : ∀ y ∈ sc.names, y.2 ≠ .free
theorem bindL_out {kindOf : Str → Option NameKind} {x : Str} : ∀ {binds : List (Str × Value)} {m : Str → Option Value}, (∀ v, (x, v) ∉ binds) → bindL kindOf binds m x = m x
  | [], _, _ => rfl
  | (n, v) :: r, m, h => by
    unfold bindL
    rw [bindL_out fun w hw => h w (List.mem_cons_of_mem _ hw)]
    split
    · have : x ≠ n := by rintro rfl; exact h v List.mem_cons_self
      simp [this]
    · rfl
theorem bindC_out {kindOf : Str → Option NameKind} {x : Str} : ∀ {binds : List (Str × Value)} {m : Str → Option Value}, (∀ v, (x, v) ∉ binds) → bindC kindOf binds m x = m x
  | [], _, _ => rfl
  | (n, v) :: r, m, h => by
    unfold bindC
    rw [bindC_out fun w hw => h w (List.mem_cons_of_mem _ hw)]
    split
    · rfl
    · have : x ≠ n := by rintro rfl; exact h v List.mem_cons_self
      simp [this]
theorem bindL_get {kindOf : Str → Option NameKind} {x : Str} {v : Value} : ∀ {P : List Str} {vs : List Value} {i : Nat} {m : Str → Option Value}, P.Nodup → P[i]? = some x → vs[i]? = some v → kindOf x = some .local →
    bindL kindOf (P.zip vs) m x = some v
  | [], _, _, _, _, h, _, _ => by simp at h
  | _ :: _, [], _, _, _, _, h, _ => by simp at h
  | p :: P, w :: vs, 0, m, nd, h1, h2, hk => by
    simp at h1 h2; subst h1; subst h2
    show bindL kindOf ((p, w) :: P.zip vs) m p = _
    unfold bindL
    rw [bindL_out fun v hv => (List.nodup_cons.mp nd).1 (List.of_mem_zip hv).1, if_pos hk]
    simp
  | p :: P, w :: vs, i + 1, m, nd, h1, h2, hk => by
    show bindL kindOf ((p, w) :: P.zip vs) m x = _
    unfold bindL
    exact bindL_get (i := i) (List.nodup_cons.mp nd).2 (by simpa using h1) (by simpa using h2) hk
theorem bindC_get {kindOf : Str → Option NameKind} {x : Str} {v : Value} : ∀ {P : List Str} {vs : List Value} {i : Nat} {m : Str → Option Value}, P.Nodup → P[i]? = some x → vs[i]? = some v → kindOf x ≠ some .local →
    bindC kindOf (P.zip vs) m x = some v
  | [], _, _, _, _, h, _, _ => by simp at h
  | _ :: _, [], _, _, _, _, h, _ => by simp at h
  | p :: P, w :: vs, 0, m, nd, h1, h2, hk => by
    simp at h1 h2; subst h1; subst h2
    show bindC kindOf ((p, w) :: P.zip vs) m p = _
    unfold bindC
    rw [bindC_out fun v hv => (List.nodup_cons.mp nd).1 (List.of_mem_zip hv).1, if_neg hk]
    simp
  | p :: P, w :: vs, i + 1, m, nd, h1, h2, hk => by
    show bindC kindOf ((p, w) :: P.zip vs) m x = _
    unfold bindC
    exact bindC_get (i := i) (List.nodup_cons.mp nd).2 (by simpa using h1) (by simpa using h2) hk
/-- the names' values at the entry -/
def start (N : List Str) (vs : List V) : St := vs.map some ++ List.replicate (N.length - vs.length) none
/-- the context of a def's body, at its entry; an exception leaves the frame, then lies as CX says -/
def cxOf (CX : CXT) (P : Program) (w : World) (K : PySem.W.Frag) (mg : Str → Option Value) (base : Heap) (N : List Str) (qual : Str) (scope : Scope) (f : Addr) (cd : Value) (A : Around) (outer : List Env) (s : Shared) (H : Hp) (E : XK) : Cx where
  prog := P
  w := w
  K := K
  mg := mg
  base := base
  A := A.deeper (envOfC qual scope s.heap.objs.size f cd)
  N := N
  s_0 := s
  H_0 := H
  env := envOfC qual scope s.heap.objs.size f cd
  outer := outer
  stack := envOfC qual scope s.heap.objs.size f cd :: outer
  ex := []
  calm := true
  fn := fun _ => true
  pn := []
  xe := fun e s' => wpAny (model P w) (A.deeper (envOfC qual scope s.heap.objs.size f cd)) (leaving (envOfC qual scope s.heap.objs.size f cd) e) (fun _ s'' => CX outer H s E e s'') (fun e' s'' => CX outer H s E e' s'') s'
theorem cell_has {sc : Scope} {n : Nat} {x : Str} (h : sc.names.lookup x = some .cell) : ∃ c, (cellsFrom n sc.names []).lookup x = some c := by
  have q := PySem.W.cellsFrom_some sc.names n [] (.inl h)
  exact Option.isSome_iff_exists.mp q
theorem inv_start {CX : CXT} {P : Program} {w : World} {K : PySem.W.Frag} {mg : Str → Option Value} {base : Heap} {N ps : List Str} {qual : Str} {scope : Scope} {f : Addr} {cd : Value} {A : Around} {outer : List Env} {s s1 : Shared} {H : Hp} {E : XK} {us : List Value} {vs : List V}
    (S : FnScope N ps scope) (hd : A.handled = none) (e0 : Env0 P w K mg base A outer s H) (hl : vs.length = ps.length) (r : Vals vs us)
    (x : InCallC s s.heap.objs.size (bindL (envOfC qual scope s.heap.objs.size f cd).kindOf (ps.zip us) fun _ => none) (cellsFrom (s.heap.objs.size + 1) scope.names []) (bindC (envOfC qual scope s.heap.objs.size f cd).kindOf (ps.zip us) fun _ => none) s1) :
    Inv (cxOf CX P w K mg base N qual scope f cd A outer s H E) [] (start N vs) H s1 := by
  have hpl : ps.length ≤ N.length := by have := congrArg List.length S.pre; rw [List.length_take] at this; omega
  obtain ⟨h1, tk, rfl, hk⟩ := x.done
  have noA : ∀ b : Addr, b ∉ (cxOf CX P w K mg base N qual scope f cd A outer s H E).ex := fun b z => absurd (show b ∈ ([] : List Addr) from z) (by simp)
  refine ⟨⟨e0.mod, S.kind, rfl, rfl, Nat.le_refl _, fun y z c h1 h2 => ?_, fun y hy => ?_, fun y c _ h => ?_, fun _ => hd, Around.frames_deeper e0.frames, .inr ⟨rfl, rfl⟩, fun b z => absurd z (noA b), e0.bs, e0.bsz, fun b _ _ => noA b, fun b z => absurd z (noA b), e0.funs, e0.frf⟩,
    rfl, e0.bare, Un.kept hk, ⟨_, x.toInCall.ns, fun i y v h1 h2 h3 => ?_⟩, fun y c h => ⟨_, x.cell y c h⟩, e0.hok.fresh (Nat.le_refl _), fun y c h => ?_, fun p hp => absurd (show p ∈ ([] : List (Addr × Obj)) from hp) (by simp), e0.hok.kept hk, ?_⟩
  · exact name_of_addr x.apart (PySem.mem_of_lookup h1) (PySem.mem_of_lookup h2)
  · have hy : scope.names.lookup y = some .cell ∨ scope.names.lookup y = some .free := hy
    rcases hy with hy | hy
    · exact cell_has hy
    · exact absurd rfl (S.nofree _ (PySem.mem_of_lookup hy))
  · exact Nat.le_of_lt (x.above y c (PySem.mem_of_lookup h))
  · have hi : i < vs.length := by
      unfold start at h2
      by_cases hi : i < vs.length
      · exact hi
      · rw [List.getElem?_append_right (by simpa using hi)] at h2
        rw [List.getElem?_replicate] at h2
        split at h2 <;> cases h2
    have ha : vs[i]? = some v := by
      unfold start at h2
      rw [List.getElem?_append_left (by simpa using hi), List.getElem?_map] at h2
      cases e : vs[i]? with
      | none => rw [e] at h2; cases h2
      | some a => rw [e] at h2; cases h2; rfl
    obtain ⟨u, hu, rv⟩ := r.get ha
    have hp : ps[i]? = some y := by
      rw [← S.pre, List.getElem?_take_of_lt (by omega)]; exact h1
    have ndP : ps.Nodup := by rw [← S.pre]; exact S.nd.sublist (List.take_sublist _ _)
    refine ⟨u, rv, ?_⟩
    rcases S.par y (List.mem_of_getElem? hp) with k | k
    · exact .inl ⟨k, bindL_get ndP hp hu k⟩
    · obtain ⟨c, e⟩ := cell_has (n := s.heap.objs.size + 1) k
      refine .inr ⟨.inl k, c, e, ?_⟩
      have q := x.cell y c e
      rw [bindC_get ndP hp hu (by show scope.names.lookup y ≠ _; rw [k]; decide)] at q
      exact q
  · exact e0.hok.fresh (Nat.le_of_lt (x.above y c (PySem.mem_of_lookup h)))
  · unfold start
    show _ = N.length
    rw [List.length_append, List.length_map, List.length_replicate]
    omega
/-- THE RULE: a def (or a method) of the text, by its body. The body's reading t is chosen for each entry; it is run at the parameters' values -/
theorem fn_of {CX : CXT} {P : Program} {w : World} {K : PySem.W.Frag} {mg : Str → Option Value} {base : Heap} {k : Nat} {f : Addr} {name qual : Str} {params : Arguments} {body : List Stmt} {scope : Scope} {dV kV doc pm cdv ct oc : Value} {an od : Option Addr}
    {osl : Array (Option Value)} {N ps : List Str} {sp : Sp} (lk : K.lookup f = some ⟨oc, od, .func (PySem.W.fnOf name qual params body scope dV kV doc pm an cdv ct), osl⟩) (hcd : PySem.W.codeIn K cdv qual = true) (S : FnScope N ps scope)
    (len : ∀ vs H Q E, sp vs H Q E → vs.length = ps.length)
    (hbody : ∀ (A : Around) (outer : List Env) (s : Shared) (H : Hp) (vs : List V) (Q : VK) (E : XK), Room k (A.deeper (envOfC qual scope s.heap.objs.size f cdv)) → sp vs H Q E →
      ∃ t, PSs (cxOf CX P w K mg base N qual scope f cdv A outer s H E) body t ∧ t { nx := fun _ H' => Q .non H', rt := Q } (start N vs) H) :
    FnOk P w K mg base CX (k + 1) f (PySem.W.fnOf name qual params body scope dV kV doc pm an cdv ct) ps sp := by
  refine ⟨len, fun A outer s H args us vs Q E hr e0 hb r hsp => ?_⟩
  have hl := len _ _ _ _ hsp
  have KX : K.In s.heap := e0.mod.kin.keeps fun b o e => (e0.bs b o e).1
  have lim : s.heap.NoLimit := e0.mod.nolimit.keeps fun b o e => (e0.bs b o e).1
  have hkind : ∀ y ∈ ps.zip us, scope.names.lookup y.1 = some .local ∨ (scope.names.lookup y.1 = some .cell ∧ ((cellsFrom (s.heap.objs.size + 1) scope.names []).lookup y.1).isSome = true) := fun ⟨n, v⟩ hy => by
    rcases S.par n (List.of_mem_zip hy).1 with q | q
    · exact .inl q
    · exact .inr ⟨q, PySem.W.cellsFrom_some _ _ _ (.inl q)⟩
  refine codeAny_call_function hr.depth (KX _ _ lk) rfl S.co S.gen rfl (PySem.W.codeRec_of KX hcd) (hb _ _ _ _ ?_)
  refine wpAny_newFunctionEnv_cells S.kind hkind fun env he s1 x => ?_
  subst he
  refine ⟨lim.keeps x.toInCall.keep, codeAny_func ?_⟩
  obtain ⟨t, ht, hq⟩ := hbody A outer s H vs Q E (hr.deeper _) hsp
  have I : Inv (cxOf CX P w K mg base N qual scope f cdv A outer s H E) [] (start N vs) H s1 := inv_start S hr.hd e0 hl r x
  refine wpAny_mono (ht [] s1 (start N vs) H _ I hq) (fun fl s' hs => ?_) fun e s' hs => hs
  have fin : ∀ {σ' : St} {H' : Hp} {v : V} {u : Value}, Inv (cxOf CX P w K mg base N qual scope f cdv A outer s H E) [] σ' H' s' → RelV v u → Q v H' → CE outer P w H s Q u s' :=
    fun {σ' H' v u} J rv q => ⟨v, H', J.os, J.bare, J.base, J.hok, rv, q⟩
  cases fl with
  | ret u =>
    obtain ⟨v, σ', H', J, rv, q⟩ := hs
    exact fin J rv q
  | next =>
    obtain ⟨σ', H', J, q⟩ := hs
    exact fin (v := V.non) (u := Value.none) J rfl q
  | brk =>
    obtain ⟨_, _, _, q⟩ := hs
    exact False.elim q
  | cont =>
    obtain ⟨_, _, _, q⟩ := hs
    exact False.elim q
end L2
namespace L2
open PySem PySem.Spec PyProof.Rows
section
variable {X : Cx} {x : Str} {p pos : Pos} {e : Expr} {es : List Expr} {t : TA} {id T : String} {r : List V → Hp → VK → Prop}
def tCB (r : List V → Hp → VK → Prop) (t : TA) : TE := fun σ H Q => t σ H fun vs H1 => r vs H1 Q
/-- f(e, ..), f a built-in function -/
theorem pe_callB (hc : CallR X (.builtin id) r) (hg : Gl X x) (hm : X.mg x = none) (hv : bootBuiltins x = some (.builtin id)) (ha : PA X (e :: es) t) (hn : x ≠ "__name__" := by decide) (hdb : (x == ("__debug__" : Str)) = false := by decide)
    (he : starEach (e :: es) X.env = (false, eval e X.env) :: starEach es X.env := by rfl) (hpl : (backTo pos (starEach es X.env)).any (·.1) = false := by rfl) : PE X (.Call (.Name x p) (e :: es) [] pos) (tCB r t) := by
  intro pins s σ H Q I h
  refine wpAny_Call_Name_kw (ld_blt I hg hm hv ?_ hn hdb)
  exact PyProof.Rows.callWith_builtin1 (thn (ha pos pins s σ H _ I h) fun us s1 ⟨vs, H1, I1, r1, q1⟩ => hc pins s1 σ H1 vs us Q I1 r1 q1) he hpl
/-- T(e, ..), T a built-in type -/
theorem pe_callTy (hc : CallR X (.type T) r) (hg : Gl X x) (hm : X.mg x = none) (hv : bootBuiltins x = some (.type T)) (ha : PA X (e :: es) t) (hn : x ≠ "__name__" := by decide) (hdb : (x == ("__debug__" : Str)) = false := by decide)
    (he : starEach (e :: es) X.env = (false, eval e X.env) :: starEach es X.env := by rfl) (hpl : (backTo pos (starEach es X.env)).any (·.1) = false := by rfl) : PE X (.Call (.Name x p) (e :: es) [] pos) (tCB r t) := by
  intro pins s σ H Q I h
  refine wpAny_Call_Name_kw (ld_blt I hg hm hv ?_ hn hdb)
  exact PyProof.Rows.callWith_type1 (thn (ha pos pins s σ H _ I h) fun us s1 ⟨vs, H1, I1, r1, q1⟩ => hc pins s1 σ H1 vs us Q I1 r1 q1) he hpl
/-- T() -/
theorem pe_callTy0 (hc : CallR X (.type T) r) (hg : Gl X x) (hm : X.mg x = none) (hv : bootBuiltins x = some (.type T)) (hn : x ≠ "__name__" := by decide) (hdb : (x == ("__debug__" : Str)) = false := by decide) :
    PE X (.Call (.Name x p) [] [] pos) (tCB r tNil) := by
  intro pins s σ H Q I h
  refine wpAny_Call_Name_kw (ld_blt I hg hm hv ?_ hn hdb)
  exact PyProof.Rows.callWith_type0 (hc pins s σ H [] [] Q I .nil h)
end
end L2
namespace HT
open PySem PyProof.Rows
/-- t < u of tuples of ints -/
def lexLt : List Int → List Int → Bool
  | [], [] => false
  | [], _ :: _ => true
  | _ :: _, [] => false
  | x :: xs, y :: ys => if x = y then lexLt xs ys else decide (x < y)
section
variable {prog : Program} {w : World} {A : Around} {E : Value → Shared → Prop} {s : Shared}
/-- a slice's bound as a place among n (d where it is left out) -/
def sIx (n d : Nat) : Option Int → Nat
  | none => d
  | some v => if v < 0 then (v + (n : Int)).toNat else min v.toNat n
theorem sIx_none (n d : Nat) : sIx n d none = d := rfl
theorem sIx_nat (n d k : Nat) : sIx n d (some (k : Int)) = min k n := by
  show (if (k : Int) < 0 then ((k : Int) + (n : Int)).toNat else min (k : Int).toNat n) = min k n
  rw [if_neg (by omega), Int.toNat_natCast]
end
end HT
namespace L2
open PySem PySem.Spec PyProof.Rows
abbrev TO := St → Hp → (Option Int → Hp → Prop) → Prop
/-- a slice's part (left out, or an int) -/
def PO (X : Cx) (e : Option Expr) (t : TO) : Prop :=
  ∀ (pins : List (Addr × Obj)) (s : Shared) (σ : St) (H : Hp) (Q : Option Int → Hp → Prop), Inv X pins σ H s → t σ H Q →
    wpAny (model X.prog X.w) X.A (evalPart e X.env) (fun u s' => ∃ o H', Inv X pins σ H' s' ∧ IsPart u o ∧ Q o H') X.xe s
def tNoPart : TO := fun _ H Q => Q none H
def tPart (t : TE) : TO := fun σ H Q => t σ H fun x H1 => ∃ i, x = .int i ∧ Q (some i) H1
section
variable {X : Cx} {e : Expr} {te : TE} {lo hi : Option Expr} {tl th : TO} {pos p2 : Pos}
theorem po_none : PO X none tNoPart := by
  intro pins s σ H Q I h
  rw [evalPart_none]
  exact wpAny_pure ⟨none, H, I, .none, h⟩
theorem po_some (h : PE X e te) : PO X (some e) (tPart te) := by
  intro pins s σ H Q I hw
  rw [evalPart_some]
  refine thn (h pins s σ H _ I hw) fun u s1 ⟨x, H1, I1, r1, q1⟩ => ?_
  obtain ⟨i, rfl, q⟩ := q1
  obtain ⟨t, rfl⟩ := r1
  exact ⟨some i, H1, I1, .int i t, q⟩
/-- what a slice of a value is, by values: the slice object stands at sl -/
def SlR (X : Cx) (r : V → Option Int → Option Int → Hp → VK → Prop) : Prop :=
  ∀ (pins : List (Addr × Obj)) (s : Shared) (σ : St) (H : Hp) (x : V) (v vl vu : Value) (lo hi : Option Int) (sl : Addr) (Q : VK), Inv X pins σ H s → RelV x v → s.heap.IsSliceOf sl vl vu .none → IsPart vl lo → IsPart vu hi → r x lo hi H Q →
    ∃ T id, typeLookup (.type T) "__getitem__" = pure (some (.builtin id)) ∧ s.TypeIs v T ∧ wpAny (model X.prog X.w) X.A (getItem v (.ref sl)) (EP X pins σ Q) X.xe s
theorem SlR.or {r r' : V → Option Int → Option Int → Hp → VK → Prop} (h : SlR X r) (h' : SlR X r') : SlR X (fun x lo hi H Q => r x lo hi H Q ∨ r' x lo hi H Q) := by
  intro pins s σ H x v vl vu lo hi sl Q I rx hs pl pu q
  rcases q with q | q
  · exact h pins s σ H x v vl vu lo hi sl Q I rx hs pl pu q
  · exact h' pins s σ H x v vl vu lo hi sl Q I rx hs pl pu q
def tSl (r : V → Option Int → Option Int → Hp → VK → Prop) (te : TE) (tl th : TO) : TE := fun σ H Q => te σ H fun x H1 => tl σ H1 fun l H2 => th σ H2 fun u H3 => r x l u H3 Q
/-- a[lo:hi], any a -/
theorem pe_slice {r : V → Option Int → Option Int → Hp → VK → Prop} (hr : SlR X r) (he : PE X e te) (hl : PO X lo tl) (hu : PO X hi th) : PE X (.Subscript e (.Slice lo hi none p2) pos) (tSl r te tl th) := by
  intro pins s σ H Q I h
  refine Subscript_ (thn (he pins s σ H _ I h) fun v s1 ⟨x, H1, I1, r1, q1⟩ => ?_)
  refine wpAny_Slice (thn (hl pins s1 σ H1 _ I1 q1) fun vl s2 ⟨l, H2, I2, pl, q2⟩ => thn (hu pins s2 σ H2 _ I2 q2) fun vu s3 ⟨u, H3, I3, pu, q3⟩ => ?_)
  rw [evalPart_none]
  refine wpAny_pure ?_
  have I4 : Inv X pins σ H3 { s3 with heap := s3.heap.push { cls := .type "slice", data := .fields #[vl, vu, .none] } } := I3.kept (t' := s3.toks) fun b ob q => Heap.get?_push_of_some _ q
  obtain ⟨T, id, hT, ht, hg⟩ := hr pins { s3 with heap := s3.heap.push { cls := .type "slice", data := .fields #[vl, vu, .none] } } σ H3 x v vl vu l u s3.heap.objs.size Q I4 r1 (Heap.IsSliceOf.new ..) pl pu q3
  show wpAny (model X.prog X.w) X.A (subscriptTail e (.Slice lo hi none p2) v (.ref s3.heap.objs.size)) (EP X pins σ Q) X.xe { s3 with heap := s3.heap.push { cls := .type "slice", data := .fields #[vl, vu, .none] } }
  exact tail_any (ops := [.ref s3.heap.objs.size, v]) ht hT hg (by with_unfolding_all rfl)
/-- the items of xs[lo:hi] -/
def cutV (xs : List V) (lo hi : Option Int) : List V := (xs.drop (HT.sIx xs.length 0 lo)).take (HT.sIx xs.length xs.length hi - HT.sIx xs.length 0 lo)
theorem cutV_length (xs : List V) (lo hi : Option Int) : (cutV xs lo hi).length ≤ xs.length := by
  unfold cutV
  rw [List.length_take, List.length_drop]
  omega
end
end L2
namespace L2
open PySem PySem.Spec PyProof.Rows
/-- the place that an index of any sign means -/
def ixN (n : Nat) (i : Int) : Option Nat := if 0 ≤ i then (if i < n then some i.toNat else none) else if -(n : Int) ≤ i then some (i + n).toNat else none
def atI {α : Type} (xs : List α) (i : Int) : Option α := (ixN xs.length i).bind fun j => xs[j]?
theorem ixN_seq {n : Nat} {i : Int} {j : Nat} (h : ixN n i = some j) : seqIndex? i n = some j ∧ j < n ∧ -(n : Int) ≤ i ∧ i < n := by
  unfold ixN at h
  by_cases h0 : 0 ≤ i
  · rw [if_pos h0] at h
    by_cases h1 : i < n
    · rw [if_pos h1] at h
      have e : i.toNat = j := Option.some.inj h
      exact ⟨by rw [seqIndex_of h0 h1, e], by omega, by omega, h1⟩
    · rw [if_neg h1] at h; cases h
  · rw [if_neg h0] at h
    by_cases h1 : -(n : Int) ≤ i
    · rw [if_pos h1] at h
      have e : (i + n).toNat = j := Option.some.inj h
      exact ⟨by rw [seqIndex_neg (by omega) h1, e], by omega, h1, by omega⟩
    · rw [if_neg h1] at h; cases h
theorem atI_get {α : Type} {xs : List α} {i : Int} {v : α} (h : atI xs i = some v) : ∃ j, seqIndex? i xs.length = some j ∧ xs[j]? = some v ∧ j < xs.length ∧ -(xs.length : Int) ≤ i ∧ i < xs.length := by
  unfold atI at h
  cases e : ixN xs.length i with
  | none => rw [e] at h; cases h
  | some j =>
    rw [e] at h
    obtain ⟨h1, h2, h3, h4⟩ := ixN_seq e
    exact ⟨j, h1, h, h2, h3, h4⟩
theorem atI_nat {α : Type} {xs : List α} {j : Nat} {v : α} (h : xs[j]? = some v) : atI xs (j : Int) = some v := by
  have hj : j < xs.length := (List.getElem?_eq_some_iff.mp h).1
  have e : ixN xs.length (j : Int) = some j := by
    unfold ixN
    rw [if_pos (by omega), if_pos (by omega)]; simp
  unfold atI; rw [e]; exact h
theorem atI_last {α : Type} (xs : List α) (v : α) : atI (xs ++ [v]) (-1) = some v := by
  have hl : (xs ++ [v]).length = xs.length + 1 := by simp
  have e : ixN (xs ++ [v]).length (-1) = some xs.length := by
    unfold ixN
    rw [hl, if_neg (by decide), if_pos (by omega)]
    congr 1
    omega
  unfold atI
  rw [e]
  show (xs ++ [v])[xs.length]? = some v
  simp
/-- what stands as an index of a plain subscript -/
def PlainIx (b : Expr) : Prop := ∀ o i, subscripted b false o i = operate [o, i] (getItem o i)
/-- a subscript by values -/
def IxR (X : Cx) (r : R2) : Prop :=
  ∀ (value slice : Expr) (pins : List (Addr × Obj)) (s : Shared) (σ : St) (H : Hp) (x y : V) (v u : Value) (Q : VK), Inv X pins σ H s → RelV x v → RelV y u → r x y H Q →
    subscripted slice false v u = operate [v, u] (getItem v u) → wpAny (model X.prog X.w) X.A (subscriptTail value slice v u) (EP X pins σ Q) X.xe s
/-- a call of a builtin's method by values: the receiver, the arguments -/
def MtR (X : Cx) (id : String) (r : V → List V → Hp → VK → Prop) : Prop :=
  ∀ (pins : List (Addr × Obj)) (s : Shared) (σ : St) (H : Hp) (x : V) (xs : List V) (v : Value) (us : List Value) (Q : VK), Inv X pins σ H s → RelV x v → Vals xs us → r x xs H Q →
    wpAny (model X.prog X.w) X.A (call (.builtin id) (v :: us)) (EP X pins σ Q) X.xe s
section
variable {X : Cx} {a b : Expr} {ta tb : TE} {pos : Pos}
theorem IxR.or {r r' : R2} (h : IxR X r) (h' : IxR X r') : IxR X (fun x y H Q => r x y H Q ∨ r' x y H Q) := by
  intro value slice pins s σ H x y v u Q I rx ry q hs
  rcases q with q | q
  · exact h value slice pins s σ H x y v u Q I rx ry q hs
  · exact h' value slice pins s σ H x y v u Q I rx ry q hs
theorem MtR.or {id : String} {r r' : V → List V → Hp → VK → Prop} (h : MtR X id r) (h' : MtR X id r') : MtR X id (fun x xs H Q => r x xs H Q ∨ r' x xs H Q) := by
  intro pins s σ H x xs v us Q I rx rs q
  rcases q with q | q
  · exact h pins s σ H x xs v us Q I rx rs q
  · exact h' pins s σ H x xs v us Q I rx rs q
/-- a[b] -/
theorem pe_ix {r : R2} (hr : IxR X r) (ha : PE X a ta) (hb : PE X b tb) (hs : PlainIx b) : PE X (.Subscript a b pos) (tOp r ta tb) := by
  intro pins s σ H Q I h
  exact Subscript_ (binT ha hb I h fun v u s2 x y H2 I2 rx ry q => hr a b pins s2 σ H2 x y v u Q I2 rx ry q (hs _ _))
def rIxL (K : PySem.W.Frag) : R2 := fun x y H Q => ∃ p xs i v, x = .ref p ∧ y = .int i ∧ SqL K H p xs ∧ atI xs i = some v ∧ Q v H
def rIxT (K : PySem.W.Frag) : R2 := fun x y H Q => ∃ p xs i v, x = .ref p ∧ y = .int i ∧ SqT K H p xs ∧ atI xs i = some v ∧ Q v H
def rIxS : R2 := fun x y H Q => ∃ z i c, x = .str z ∧ y = .int i ∧ z.length ≤ sizeLine ∧ atI z.cps.toList i = some c ∧ Q (.str ⟨#[c]⟩) H
theorem ix_list : IxR X (rIxL X.K) := by
  intro value slice pins s σ H x y v u Q I rx ry h hs
  obtain ⟨p, xs, i, z, rfl, rfl, hq, he, q⟩ := h
  cases rx
  obtain ⟨t, rfl⟩ := ry
  obtain ⟨its, r, pl, hz⟩ := I.list hq
  obtain ⟨j, h1, h2, h3, h4, h5⟩ := atI_get he
  obtain ⟨w, ew, rw'⟩ := r.get h2
  have hl := r.length
  have hn := line63
  have fin : EP X pins σ Q w s := ⟨z, H, I, rw', q⟩
  by_cases h0 : 0 ≤ i
  · have hj : i.toNat = j := by
      rw [seqIndex_of h0 h5] at h1
      exact Option.some.inj h1
    exact item_listR pl.isList h0 (by omega) (by rw [hj]; simpa using ew) fin hs
  · have hj : (i + (its.toArray.size : Int)).toNat = j := by
      rw [seqIndex_neg (by omega) h4] at h1
      rw [List.size_toArray, ← hl]
      exact Option.some.inj h1
    exact subscriptTail_builtinR (x := w) pl.isList.typeIs slot_list_getitem.lookup
      (wpAny_getItem_list_neg (Q := fun r s' => r = w ∧ EP X pins σ Q r s') pl.isList (by omega) (by rw [List.size_toArray] <;> omega) (by omega) (by rw [hj]; simpa using ew) ⟨rfl, fin⟩) hs
theorem ix_tup : IxR X (rIxT X.K) := by
  intro value slice pins s σ H x y v u Q I rx ry h hs
  obtain ⟨p, xs, i, z, rfl, rfl, hq, he, q⟩ := h
  cases rx
  obtain ⟨t, rfl⟩ := ry
  obtain ⟨its, r, pl, hz⟩ := I.tuple hq
  obtain ⟨j, h1, h2, h3, h4, h5⟩ := atI_get he
  obtain ⟨w, ew, rw'⟩ := r.get h2
  have hl := r.length
  have hn := line63
  have fin : EP X pins σ Q w s := ⟨z, H, I, rw', q⟩
  exact subscriptTail_builtinR (x := w) pl.typeIs slot_tuple_getitem.lookup
    (getItem_tuple (j := j) (Q := fun r s' => r = w ∧ EP X pins σ Q r s') pl (by omega) (by omega) (by rw [List.size_toArray, ← hl]; exact h1) (by simpa using ew) ⟨rfl, fin⟩) hs
theorem ix_str : IxR X rIxS := by
  intro value slice pins s σ H x y v u Q I rx ry h hs
  obtain ⟨z, i, c, rfl, rfl, hz, he, q⟩ := h
  obtain ⟨t, rfl⟩ := rx
  obtain ⟨t', rfl⟩ := ry
  obtain ⟨j, h1, h2, h3, h4, h5⟩ := atI_get he
  have hl : z.cps.toList.length = z.length := by simp [Str.length]
  rw [hl] at h1 h4 h5
  have hn := line63
  exact tail_any (typeIs_str s z t) slot_str_getitem.lookup (getItem_str (c := c) (by
    have e1 : decide (i < -(2 ^ 63 : Int)) = false := decide_eq_false (by omega)
    have e2 : decide (i ≥ 2 ^ 63) = false := decide_eq_false (by omega)
    rw [e1, e2, Bool.or_false]) (by rw [h1]; simpa using h2) ⟨.str ⟨#[c]⟩, H, I.tok _, ⟨_, rfl⟩, q⟩) hs
/-- list, tuple or str -/
def rIx (K : PySem.W.Frag) : R2 := fun x y H Q => rIxL K x y H Q ∨ rIxT K x y H Q ∨ rIxS x y H Q
theorem ix_seq : IxR X (rIx X.K) := ix_list.or (ix_tup.or ix_str)
/-- the list's object behind a store -/
theorem mapSeq_set (its : List Value) (n j : Nat) (u : Value) : Obj.mapSeq (·.setIfInBounds j u) { cls := .type "list", data := .seq its.toArray n } = { cls := .type "list", data := .seq (its.set j u).toArray n } := by
  simp [Obj.mapSeq]
theorem Inv.lst {pins : List (Addr × Obj)} {σ : St} {H : Hp} {s : Shared} {p : Addr} {xs : List V} (I : Inv X pins σ H s) (h : H p = some (.lst xs)) :
    ∃ (its : List Value) (n : Nat), Vals xs its ∧ s.heap.get? p = some { cls := .type "list", data := .seq its.toArray n } ∧ xs.length ≤ sizeLine := by
  obtain ⟨z, its, n, r, e⟩ := I.hok p _ h
  exact ⟨its, n, r, e, z⟩
/-- the list at p is written by an update of its object -/
theorem Inv.lstUpd {pins : List (Addr × Obj)} {σ : St} {H : Hp} {s : Shared} {p : Addr} {xs ys : List V} {its its' : List Value} {n n' : Nat} {f : Obj → Obj} (I : Inv X pins σ H s) (h : H p = some (.lst xs))
    (ho : s.heap.get? p = some { cls := .type "list", data := .seq its.toArray n }) (hf : f { cls := .type "list", data := .seq its.toArray n } = { cls := .type "list", data := .seq its'.toArray n' }) (r : Vals ys its') (hz : ys.length ≤ sizeLine) (t : Nat) :
    Inv X pins σ (upd H p (.lst ys)) { s with heap := s.heap.update p f, toks := t } := by
  have e : (s.heap.update p f).get? p = some { cls := .type "list", data := .seq its'.toArray n' } := by
    rw [Heap.get?_update_self f ho (by rw [hf] <;> rfl), hf]
  refine I.write (x := p) (e := p) (by rw [h]; trivial) (.inl rfl) (fun b u hb q => (Heap.get?_update_other _ _ (Ne.symm hb)).trans q) ⟨_, e⟩ ?_
  exact ⟨hz, its', n', r, e⟩
def rSetL : V → V → V → Hp → (Hp → Prop) → Prop := fun o i v H Q => ∃ p xs k j, o = .ref p ∧ i = .int k ∧ H p = some (.lst xs) ∧ ixN xs.length k = some j ∧ Q (upd H p (.lst (xs.set j v)))
theorem set_list : PSet X rSetL := by
  intro pins s σ H o i v ov iv u Q I ro ri rv h
  obtain ⟨p, xs, k, j, rfl, rfl, hp, hj, q⟩ := h
  cases ro
  obtain ⟨t, rfl⟩ := ri
  obtain ⟨its, n, r, ho, hz⟩ := I.lst hp
  obtain ⟨h1, h2, h3, h4⟩ := ixN_seq hj
  have hl := r.length
  have hn := line63
  have I' : Inv X pins σ (upd H p (.lst (xs.set j v))) { s with heap := s.heap.update p (Obj.mapSeq (·.setIfInBounds j u)) } :=
    I.lstUpd hp ho (mapSeq_set its n j u) (r.set rv j) (by rw [List.length_set]; exact hz) s.toks
  by_cases h0 : 0 ≤ k
  · have hk : k.toNat = j := by
      rw [seqIndex_of h0 h4] at h1
      exact Option.some.inj h1
    exact PySem.W.ki_setAt ho h0 (by omega) (by rw [List.size_toArray, ← hl]; exact h4) (by rw [hk]; exact ⟨_, I', q⟩)
  · have hk : (k + (its.toArray.size : Int)).toNat = j := by
      rw [seqIndex_neg (by omega) h3] at h1
      rw [List.size_toArray, ← hl]
      exact Option.some.inj h1
    exact PySem.W.ki_setBack ho (by omega) (by rw [List.size_toArray, ← hl]; exact h3) (by omega) (by rw [hk]; exact ⟨_, I', q⟩)
theorem slice_bounds (lo hi : Option Int) (n : Nat) : (sliceBounds lo hi none n).1 = ((HT.sIx n 0 lo : Nat) : Int) ∧ (sliceBounds lo hi none n).2.1 = ((HT.sIx n n hi : Nat) : Int) ∧ (sliceBounds lo hi none n).2.2 = 1 := by
  refine ⟨?_, ?_, rfl⟩
  · cases lo with
    | none => simp [sliceBounds, HT.sIx]
    | some i =>
      simp only [sliceBounds, HT.sIx, Option.getD_none, show (1 : Int) > 0 by decide, if_true]
      by_cases h : i < 0
      · simp only [h, if_true] <;> omega
      · simp only [h, if_false] <;> omega
  · cases hi with
    | none => simp [sliceBounds, HT.sIx]
    | some i =>
      simp only [sliceBounds, HT.sIx, Option.getD_none, show (1 : Int) > 0 by decide, if_true]
      by_cases h : i < 0
      · simp only [h, if_true] <;> omega
      · simp only [h, if_false] <;> omega
theorem slicePick_cut (its : List Value) (lo hi : Option Int) : slicePick its.toArray lo hi none = ((its.drop (HT.sIx its.length 0 lo)).take (HT.sIx its.length its.length hi - HT.sIx its.length 0 lo)).toArray := by
  obtain ⟨h1, h2, h3⟩ := slice_bounds lo hi its.toArray.size
  unfold slicePick
  rw [h1, h2, h3]
  simp only [sliceRange_one, pick_run, List.size_toArray] <;> rfl
/-- xs[lo:hi] of a list: a new list -/
def rSlL (K : PySem.W.Frag) : V → Option Int → Option Int → Hp → VK → Prop := fun x lo hi H Q => ∃ a xs, x = .ref a ∧ SqL K H a xs ∧ ∀ p, H p = none → Q (.ref p) (upd H p (.lst (cutV xs lo hi)))
theorem sl_list : SlR X (rSlL X.K) := by
  intro pins s σ H x v vl vu lo hi sl Q I rx hs pl pu h
  obtain ⟨a, xs, rfl, hx, q⟩ := h
  cases rx
  obtain ⟨its, r, ht, hz⟩ := I.list hx
  have hlen := r.length
  refine ⟨"list", _, slot_list_getitem.lookup, ht.isList.typeIs, ?_⟩
  refine wpAny_getItem_list_slice ht.isList hs pl pu .none (by simp) ?_ (by rw [List.size_toArray] <;> omega)
  rw [slicePick_cut, ← hlen]
  refine ⟨.ref s.heap.objs.size, _, I.laid (t' := s.toks) (o := .lst (cutV xs lo hi)) (fun b ob q => Heap.get?_push_of_some _ q) (Nat.le_refl _) ?_, rfl, q _ (I.hok.fresh (Nat.le_refl _))⟩
  exact ⟨Nat.le_trans (cutV_length xs lo hi) hz, _, 0, (r.drop (HT.sIx xs.length 0 lo)).take (HT.sIx xs.length xs.length hi - HT.sIx xs.length 0 lo), Heap.get?_push_size _ rfl⟩
def flatV : V → Bool
  | .non => true
  | .bl _ => true
  | .int _ => true
  | .str _ => true
  | _ => false
/-- == of flat values -/
def eqV : V → V → Bool
  | .non, .non => true
  | .bl a, .bl b => a == b
  | .bl a, .int b => (if a then 1 else 0) == b
  | .int a, .bl b => a == (if b then 1 else 0)
  | .int a, .int b => a == b
  | .str a, .str b => a == b
  | _, _ => false
theorem eqAt_V {A : Around} {s : Shared} {y x : V} {u v : Value} (ry : RelV y u) (rx : RelV x v) (fy : flatV y = true) (fx : flatV x = true) : SeqAt.EqAt A s u v (eqV y x) := by
  cases y with
  | non =>
    cases ry
    cases x with
    | non => cases rx; exact SeqAt.EqAt.same _
    | bl b => cases rx; exact SeqAt.EqAt.none_bool b
    | int b => obtain ⟨t, rfl⟩ := rx; exact SeqAt.EqAt.none_int b t
    | str b => obtain ⟨t, rfl⟩ := rx; exact SeqAt.EqAt.none_str b t
    | _ => exact absurd (show false = true from fx) Bool.false_ne_true
  | bl a =>
    cases ry
    cases x with
    | non => cases rx; exact SeqAt.EqAt.bool_none a
    | bl b => cases rx; exact SeqAt.EqAt.bool_bool a b
    | int b => obtain ⟨t, rfl⟩ := rx; exact SeqAt.EqAt.bool_int a b t
    | str b => obtain ⟨t, rfl⟩ := rx; exact SeqAt.EqAt.bool_str a b t
    | _ => exact absurd (show false = true from fx) Bool.false_ne_true
  | int a =>
    obtain ⟨t', rfl⟩ := ry
    cases x with
    | non => cases rx; exact SeqAt.EqAt.int_none a t'
    | bl b => cases rx; exact SeqAt.EqAt.int_bool a t' b
    | int b => obtain ⟨t, rfl⟩ := rx; exact SeqAt.EqAt.int_int a t' b t
    | str b => obtain ⟨t, rfl⟩ := rx; exact SeqAt.EqAt.int_str a t' b t
    | _ => exact absurd (show false = true from fx) Bool.false_ne_true
  | str a =>
    obtain ⟨t', rfl⟩ := ry
    cases x with
    | non => cases rx; exact SeqAt.EqAt.str_none a t'
    | bl b => cases rx; exact SeqAt.EqAt.str_bool a t' b
    | int b => obtain ⟨t, rfl⟩ := rx; exact SeqAt.EqAt.str_int a t' b t
    | str b => obtain ⟨t, rfl⟩ := rx; exact SeqAt.EqAt.str_str a t' b t
    | _ => exact absurd (show false = true from fx) Bool.false_ne_true
  | _ => exact absurd (show false = true from fy) Bool.false_ne_true
/-- the items' answers, read off the values (a value's own answer does not lean on its token) -/
def eqU (x : V) (u : Value) : Bool := match u with
  | .none => eqV .non x
  | .bool b => eqV (.bl b) x
  | .int i _ => eqV (.int i) x
  | .str z _ => eqV (.str z) x
  | _ => false
theorem eqU_of {x y : V} {u : Value} (r : RelV y u) (f : flatV y = true) : eqU x u = eqV y x := by
  cases y with
  | non => cases r; rfl
  | bl b => cases r; rfl
  | int i => obtain ⟨t, rfl⟩ := r; rfl
  | str z => obtain ⟨t, rfl⟩ := r; rfl
  | _ => exact absurd (show false = true from f) Bool.false_ne_true
theorem mem_eqAt {A : Around} {s : Shared} {x : V} {v : Value} (rx : RelV x v) (fx : flatV x = true) : ∀ {xs : List V} {us : List Value}, Vals xs us → xs.all flatV = true → ∀ u ∈ us, SeqAt.EqAt A s u v (eqU x u)
  | _, _, .nil, _ => fun u hu => by cases hu
  | y :: xs, u :: us, .cons r t, f => fun u' hu => by
    rw [List.all_cons, Bool.and_eq_true] at f
    rcases List.mem_cons.mp hu with rfl | hu
    · rw [eqU_of r f.1]; exact eqAt_V r rx f.1 fx
    · exact mem_eqAt rx fx t f.2 u' hu
theorem call_len_seq : CallR X (.builtin "len") (fun xs H Q => ∃ p ys, xs = [.ref p] ∧ (SqL X.K H p ys ∨ SqT X.K H p ys) ∧ Q (.int ys.length) H) := by
  intro pins s σ H xs us Q I r h
  obtain ⟨p, ys, rfl, hq, q⟩ := h
  obtain ⟨u, rfl, rx⟩ := vals1 r
  cases rx
  have hn := line63
  rcases hq with hq | hq
  · obtain ⟨its, r', pl, hz⟩ := I.list hq
    have hlen := r'.length
    exact Calls.call_len_list pl.isList (by simp only [List.size_toArray] <;> omega) ⟨.int ys.length, H, I.tok _, ⟨s.toks + 1, by rw [List.size_toArray, hlen]⟩, q⟩
  · obtain ⟨its, r', pl, hz⟩ := I.tuple hq
    have hlen := r'.length
    exact len_tuple pl (by simp only [List.size_toArray] <;> omega) ⟨.int ys.length, H, I.tok _, ⟨s.toks + 1, by rw [List.size_toArray, hlen]⟩, q⟩
theorem CallR.or {f : Value} {r r' : List V → Hp → VK → Prop} (h : CallR X f r) (h' : CallR X f r') : CallR X f (fun xs H Q => r xs H Q ∨ r' xs H Q) := by
  intro pins s σ H xs us Q I rs q
  rcases q with q | q
  · exact h pins s σ H xs us Q I rs q
  · exact h' pins s σ H xs us Q I rs q
theorem call_list_of : CallR X (.type "list") (fun xs H Q => ∃ p ys, xs = [.ref p] ∧ (SqL X.K H p ys ∨ SqT X.K H p ys) ∧ ∀ l, H l = none → Q (.ref l) (upd H l (.lst ys))) := by
  intro pins s σ H xs us Q I r h
  obtain ⟨p, ys, rfl, hq, q⟩ := h
  obtain ⟨u, rfl, rx⟩ := vals1 r
  cases rx
  have fin : ∀ (its : List Value), Vals ys its → ys.length ≤ sizeLine → ∀ (h' : Heap) (c' : Nat), (∀ b o', s.heap.get? b = some o' → h'.get? b = some o') →
      h'.get? s.heap.objs.size = some { cls := .type "list", dict := none, data := .seq its.toArray c', slots := #[] } → EP X pins σ Q (.ref s.heap.objs.size) { s with heap := h' } := fun its r' hz h' c' kp e =>
    ⟨.ref s.heap.objs.size, _, I.laid (t' := s.toks) kp (Nat.le_refl _) (show ObjOk X.prog X.w _ h' _ (.lst ys) from ⟨hz, its, c', r', e⟩), rfl, q _ (I.hok.fresh (Nat.le_refl _))⟩
  rcases hq with hq | hq
  · obtain ⟨its, r', pl, hz⟩ := I.list hq
    have hlen := r'.length
    obtain ⟨o, ho, hc, n, hd⟩ := pl.isList
    exact call_list_seq p (.inl rfl) ho hc hd (fun h' c' kp e => fin its r' hz h' c' kp e) (by simp only [List.size_toArray] <;> omega)
  · obtain ⟨its, r', pl, hz⟩ := I.tuple hq
    have hlen := r'.length
    obtain ⟨o, ho, hc, n, hd⟩ := pl
    exact call_list_seq p (.inr rfl) ho hc hd (fun h' c' kp e => fin its r' hz h' c' kp e) (by simp only [List.size_toArray] <;> omega)
/-- the value is of that builtin type -/
def tyV (K : PySem.W.Frag) (T : String) (x : V) (H : Hp) : Prop := match x with
  | .str _ => T = "str"
  | .int _ => T = "int"
  | .ref p => (T = "list" ∧ ∃ xs, SqL K H p xs) ∨ (T = "tuple" ∧ ∃ o, K.lookup p = some o ∧ o.cls = .type "tuple" ∧ o.dict = none) ∨
      (T = "dict" ∧ ((∃ kvs, H p = some (.dK kvs)) ∨ ∃ kvs, H p = some (.dT kvs))) ∨ (T = "set" ∧ ∃ S n, H p = some (.set S n))
  | _ => False
theorem tyV_is {pins : List (Addr × Obj)} {σ : St} {H : Hp} {s : Shared} {T : String} {x : V} {v : Value} (I : Inv X pins σ H s) (r : RelV x v) (ty : tyV X.K T x H) :
    s.TypeIs v T ∧ ∀ a, v = .ref a → ∃ ob, s.heap.get? a = some ob ∧ ob.dict = none := by
  cases x with
  | str z =>
    obtain ⟨t, rfl⟩ := r
    cases (show T = "str" from ty)
    exact ⟨typeIs_str s z t, fun _ e => nomatch e⟩
  | int i =>
    obtain ⟨t, rfl⟩ := r
    cases (show T = "int" from ty)
    exact ⟨typeIs_int s i t, fun _ e => nomatch e⟩
  | ref p =>
    cases r
    rcases ty with ⟨rfl, xs, hq⟩ | ⟨rfl, o, hk, hc, hd⟩ | ⟨rfl, hk⟩ | ⟨rfl, S, n, hk⟩
    · obtain ⟨its, _, pl, _⟩ := I.list hq
      refine ⟨pl.isList.typeIs, fun a e => ?_⟩
      cases e
      obtain ⟨o, n, e, c, hd, _⟩ := pl
      exact ⟨o, e, hd⟩
    · refine ⟨⟨o, I.kIn p o hk, hc⟩, fun a e => ?_⟩
      cases e
      exact ⟨o, I.kIn _ o hk, hd⟩
    · have z : ∃ o, s.heap.get? p = some o ∧ o.ExactDict := by
        rcases hk with ⟨kvs, hk⟩ | ⟨kvs, hk⟩
        · obtain ⟨_, _, _, _, o, _, _, e, ex, _⟩ := I.hok p _ hk
          exact ⟨o, e, ex⟩
        · obtain ⟨_, _, _, _, o, _, _, e, ex, _⟩ := I.hok p _ hk
          exact ⟨o, e, ex⟩
      obtain ⟨o, e, ex⟩ := z
      refine ⟨⟨o, e, ex.1⟩, fun a e2 => ?_⟩
      cases e2
      exact ⟨o, e, ex.2.1⟩
    · obtain ⟨o, _, _, _, e, ex, _⟩ := I.hok p _ hk
      refine ⟨⟨o, e, ex.1⟩, fun a e2 => ?_⟩
      cases e2
      exact ⟨o, e, ex.2.1⟩
  | _ => exact False.elim ty
def tBM0 (K : PySem.W.Frag) (T : String) (r : V → List V → Hp → VK → Prop) (to : TE) : TE := fun σ H Q => to σ H fun x H1 => tyV K T x H1 ∧ r x [] H1 Q
def tBM (K : PySem.W.Frag) (T : String) (r : V → List V → Hp → VK → Prop) (to : TE) (t : TA) : TE := fun σ H Q => to σ H fun x H1 => tyV K T x H1 ∧ t σ H1 fun xs H2 => r x xs H2 Q
variable {o e : Expr} {es : List Expr} {to : TE} {t : TA} {name : Str} {apos cpos : Pos} {T id : String} {r : V → List V → Hp → VK → Prop}
theorem pe_bm0 (pa : PlainAttrs T) (slot : Slot T name id) (hty : typeOf (.builtin id) = pure (.type "method_descriptor")) (hm : MtR X id r) (ho : PE X o to)
    (hbase : attributeBase o name X.env (eval o X.env) = eval o X.env := by rfl) (hline : (apos.endLine == cpos.line) = true := by rfl) : PE X (.Call (.Attribute o name apos) [] [] cpos) (tBM0 X.K T r to) := by
  intro pins s σ H Q I h
  refine wpAny_Call_method0_late hbase hline (thn (ho pins s σ H _ I h) fun v s1 ⟨x, H1, I1, r1, ty, q1⟩ => ?_)
  obtain ⟨h1, h2⟩ := tyV_is I1 r1 ty
  exact ⟨T, id, pa, slot, hty, h1, h2, Calls.callWith_builtin rfl (PySem.evalArgs_none (hm pins s1 σ H1 x [] v [] Q I1 r1 .nil q1))⟩
theorem pe_bm (pa : PlainAttrs T) (slot : Slot T name id) (hty : typeOf (.builtin id) = pure (.type "method_descriptor")) (hm : MtR X id r) (ho : PE X o to) (ha : PA X (e :: es) t)
    (hbase : attributeBase o name X.env (eval o X.env) = eval o X.env := by rfl)
    (hfew : ((backTo cpos (starEach (e :: es) X.env)).all (fun x => !x.1) && (backToKw cpos (keywordEach [] X.env)).all (fun x => x.1.isSome)
      && decide ((e :: es).length + ([] : List Keyword).length + (if ([] : List Keyword).isEmpty then 0 else 1) < 30)) = true := by rfl)
    (hline : (apos.endLine == cpos.line) = true := by rfl) (hs : starEach (e :: es) X.env = (false, eval e X.env) :: starEach es X.env := by rfl) (hplain : (backTo cpos (starEach es X.env)).any (·.1) = false := by rfl) :
    PE X (.Call (.Attribute o name apos) (e :: es) [] cpos) (tBM X.K T r to t) := by
  intro pins s σ H Q I h
  refine wpAny_Call_method_late hbase hfew hline rfl (thn (ho pins s σ H _ I h) fun v s1 ⟨x, H1, I1, r1, ty, q1⟩ => ?_)
  obtain ⟨h1, h2⟩ := tyV_is I1 r1 ty
  refine ⟨T, id, pa, slot, hty, h1, h2, ?_⟩
  have hA := ha cpos pins s1 σ H1 _ I1 q1
  rw [hs] at hA ⊢
  refine Calls.callWith_builtin (by show (false || (backTo cpos (starEach es X.env)).any (·.1)) = false; rw [hplain] <;> rfl) (Calls.evalArgs_plain ?_)
  exact thn hA fun us s2 ⟨vs, H2, I2, r2, q2⟩ => hm pins s2 σ H2 x vs v us Q I2 r1 r2 q2
end
end L2
namespace L2
open PySem PySem.Spec PyProof.Rows
def MtM (X : Cx) (id : String) (r : V → List V → Hp → VK → Prop) : Prop :=
  ∀ (pins : List (Addr × Obj)) (s : Shared) (σ : St) (H : Hp) (x : V) (xs : List V) (v : Value) (us : List Value) (Q : VK), Inv X pins σ H s → RelV x v → Vals xs us → r x xs H Q →
    wpAny (model X.prog X.w) X.A (call (.builtin id) (v :: us)) (EP X pins σ Q) X.xe s
theorem Vals.one : ∀ {x : V} {us : List Value}, Vals [x] us → ∃ u, us = [u] ∧ RelV x u
  | _, _, .cons r .nil => ⟨_, rfl, r⟩
theorem Vals.zero : ∀ {us : List Value}, Vals [] us → us = []
  | _, .nil => rfl
theorem Vals.dropLast {xs : List V} {us : List Value} (h : Vals xs us) : Vals xs.dropLast us.dropLast := by
  induction h with
  | nil => exact .nil
  | cons r t ih =>
    cases t with
    | nil => exact .nil
    | cons q t' => exact .cons r ih
theorem Vals.eraseIdx : ∀ {xs : List V} {us : List Value} (i : Nat), Vals xs us → Vals (xs.eraseIdx i) (us.eraseIdx i)
  | _, _, _, .nil => .nil
  | _, _, 0, .cons _ t => t
  | _, _, i + 1, .cons r t => .cons r (Vals.eraseIdx i t)
theorem Vals.reverse {xs : List V} {us : List Value} (h : Vals xs us) : Vals xs.reverse us.reverse := by
  induction h with
  | nil => exact .nil
  | cons r t ih => rw [List.reverse_cons, List.reverse_cons]; exact Vals.append ih (.cons r .nil)
theorem Vals.rep {xs : List V} {us : List Value} (h : Vals xs us) : ∀ k : Nat, Vals (List.replicate k xs).flatten (List.replicate k us).flatten
  | 0 => .nil
  | k + 1 => by
    rw [List.replicate_succ, List.replicate_succ, List.flatten_cons, List.flatten_cons]
    exact Vals.append h (Vals.rep h k)
theorem erase_last {α : Type} (l : List α) : l.eraseIdx (l.length - 1) = l.dropLast := by
  induction l with
  | nil => rfl
  | cons a r ih =>
    cases r with
    | nil => rfl
    | cons b r =>
      have e : (a :: b :: r).length - 1 = ((b :: r).length - 1) + 1 := by
        have h1 : (a :: b :: r).length = r.length + 2 := rfl
        have h2 : (b :: r).length = r.length + 1 := rfl
        omega
      rw [e, List.eraseIdx_cons_succ, ih]
      all_goals rfl
theorem len_erase {α : Type} : ∀ (l : List α) (i : Nat), (l.eraseIdx i).length ≤ l.length
  | [], _ => Nat.le_refl _
  | _ :: _, 0 => Nat.le_succ _
  | _ :: r, i + 1 => Nat.succ_le_succ (len_erase r i)
theorem foldl_rep (its : List Value) : ∀ (k : Nat) (acc : List Value),
    List.foldl (fun x1 x2 => x1 ++ x2) acc.toArray (List.replicate k its.toArray) = (acc ++ (List.replicate k its).flatten).toArray
  | 0, acc => by simp
  | k + 1, acc => by
    have e : acc.toArray ++ its.toArray = (acc ++ its).toArray := by simp
    have e2 : (acc ++ its) ++ (List.replicate k its).flatten = acc ++ (List.replicate (k + 1) its).flatten := by
      rw [List.replicate_succ, List.flatten_cons, List.append_assoc]
    rw [← e2, ← foldl_rep its k (acc ++ its), ← e, List.replicate_succ, List.foldl_cons]
section
variable {X : Cx} {pins : List (Addr × Obj)} {σ : St} {H : Hp} {s : Shared} {l b : Addr} {xs ys zs : List V}
theorem Inv.lset {its its' : List Value} {n : Nat} {f : Array Value → Array Value} {t' : Nat} (I : Inv X pins σ H s) (hH : H l = some (.lst xs))
    (e : s.heap.get? l = some { cls := .type "list", data := .seq its.toArray n }) (hf : f its.toArray = its'.toArray) (hv : Vals ys its') (hz : ys.length ≤ sizeLine) :
    Inv X pins σ (upd H l (.lst ys)) { s with heap := s.heap.update l (Obj.mapSeq f), toks := t' } := by
  have q := PySem.IsL.update e f
  rw [hf] at q
  refine I.write (x := l) (e := l) (by rw [hH]; exact trivial) (.inl rfl) (fun b' u hb hu => (Heap.get?_update_other s.heap (Obj.mapSeq f) (Ne.symm hb)).trans hu) ⟨_, q⟩ ?_
  exact ⟨hz, its', _, hv, q⟩
theorem Inv.lnew {its : List Value} {t' : Nat} (I : Inv X pins σ H s) (hv : Vals ys its) (hz : ys.length ≤ sizeLine) :
    Inv X pins σ (upd H s.heap.objs.size (.lst ys)) { s with heap := s.heap.push { cls := .type "list", data := .seq its.toArray }, toks := t' } :=
  I.laid (fun _ _ q => Heap.get?_push_of_some _ q) (Nat.le_refl _) ⟨hz, its, 0, hv, Heap.get?_push_size _ rfl⟩
theorem Inv.fresh (I : Inv X pins σ H s) : H s.heap.objs.size = none := I.hok.fresh (Nat.le_refl _)
theorem Inv.lstM (I : Inv X pins σ H s) (hH : H l = some (.lst xs)) : xs.length ≤ sizeLine ∧ ∃ (its : List Value) (n : Nat), Vals xs its ∧ xs.length = its.length ∧ s.heap.get? l = some { cls := .type "list", data := .seq its.toArray n } := by
  obtain ⟨z, its, n, r, e⟩ := I.hok l _ hH
  exact ⟨z, its, n, r, r.length, e⟩
theorem notLongL {n : Nat} (h : n ≤ sizeLine) : Builtin.List.listTooLong n = false := by
  unfold Builtin.List.listTooLong
  exact decide_eq_false (by omega)
end
section
variable {X : Cx}
def rAppend : V → List V → Hp → VK → Prop := fun x vs H Q => ∃ l xs y, x = .ref l ∧ vs = [y] ∧ H l = some (.lst xs) ∧ xs.length < sizeLine ∧ Q .non (upd H l (.lst (xs ++ [y])))
theorem mt_append : MtM X "list.append" rAppend := by
  intro pins s σ H x vs v us Q I rx rv h
  obtain ⟨l, xs, y, rfl, rfl, hH, hz, q⟩ := h
  cases rx
  obtain ⟨u, rfl, ru⟩ := rv.one
  obtain ⟨z, its, n, r, hl, e⟩ := I.lstM hH
  refine call_meets F.slot_list_append ⟨_, e, rfl⟩ F.entry_list_append (F.args_list_append_2 _ _) (PySem.list_append l its.toArray n u (by rw [List.size_toArray]; omega)) ⟨e, ?_⟩
  refine ⟨.non, _, I.lset (its' := its ++ [u]) hH e (by simp) (r.append (.cons ru .nil)) ?_, rfl, q⟩
  rw [List.length_append, List.length_singleton]
  omega
def rExtend : V → List V → Hp → VK → Prop := fun x vs H Q => ∃ l b xs zs, x = .ref l ∧ vs = [.ref b] ∧ H l = some (.lst xs) ∧ H b = some (.lst zs) ∧ xs.length + zs.length ≤ sizeLine ∧ Q .non (upd H l (.lst (xs ++ zs)))
theorem mt_extend : MtM X "list.extend" rExtend := by
  intro pins s σ H x vs v us Q I rx rv h
  obtain ⟨l, b, xs, zs, rfl, rfl, hH, hB, hz, q⟩ := h
  cases rx
  obtain ⟨u, rfl, ru⟩ := rv.one
  cases ru
  obtain ⟨z, its, n, r, hl, e⟩ := I.lstM hH
  obtain ⟨z2, its2, n2, r2, hl2, e2⟩ := I.lstM hB
  have hsz : its.toArray.size + its2.toArray.size ≤ sizeLine := by rw [List.size_toArray, List.size_toArray]; omega
  have hlong : ¬ (!its.toArray.isEmpty && Builtin.List.listTooLong (its.toArray.size + its2.toArray.size)) = true := by
    rw [notLongL hsz, Bool.and_false]
    exact Bool.false_ne_true
  refine call_meets F.slot_list_extend ⟨_, e, rfl⟩ F.entry_list_extend (F.args_list_extend_2 _ _)
    (AutoSeq1.list_extend_list_list_0 l its.toArray n b its2.toArray n2 hlong (by rw [List.size_toArray]; omega) (by omega)) ⟨e, e2, ?_⟩
  refine ⟨.non, _, I.lset (its' := its ++ its2) hH e (by simp) (r.append r2) ?_, rfl, q⟩
  rw [List.length_append]
  omega
def rPop : V → List V → Hp → VK → Prop := fun x vs H Q => ∃ l xs y, x = .ref l ∧ vs = [] ∧ H l = some (.lst xs) ∧ xs[xs.length - 1]? = some y ∧ Q y (upd H l (.lst xs.dropLast))
theorem mt_pop : MtM X "list.pop" rPop := by
  intro pins s σ H x vs v us Q I rx rv h
  obtain ⟨l, xs, y, rfl, rfl, hH, hy, q⟩ := h
  cases rx
  have hus := rv.zero
  subst hus
  obtain ⟨z, its, n, r, hl, e⟩ := I.lstM hH
  obtain ⟨u, hu, ru⟩ := r.get hy
  have hy' : its.toArray[its.toArray.size - 1]? = some u := by
    show its.toArray[its.length - 1]? = some u
    rw [← Array.getElem?_toList, ← hl]
    exact hu
  refine call_meets F.slot_list_pop ⟨_, e, rfl⟩ F.entry_list_pop (F.args_list_pop_1 _) (MeetsSeq.list_pop_last l its.toArray n u hy' (by rw [List.size_toArray]; omega)) ⟨e, ?_⟩
  refine ⟨y, _, I.lset (its' := its.dropLast) hH e ?_ r.dropLast ?_, ru, q⟩
  · show its.toArray.eraseIdxIfInBounds (its.toArray.size - 1) = its.dropLast.toArray
    rw [List.size_toArray, List.eraseIdxIfInBounds_toArray, erase_last]
  · rw [List.length_dropLast]
    omega
def rPopAt : V → List V → Hp → VK → Prop := fun x vs H Q => ∃ l xs i k y, x = .ref l ∧ vs = [.int i] ∧ H l = some (.lst xs) ∧ -(2 ^ 63) ≤ i ∧ i < 2 ^ 63 ∧ seqIndex? i xs.length = some k ∧ xs[k]? = some y ∧ Q y (upd H l (.lst (xs.eraseIdx k)))
theorem mt_popAt : MtM X "list.pop" rPopAt := by
  intro pins s σ H x vs v us Q I rx rv h
  obtain ⟨l, xs, i, k, y, rfl, rfl, hH, h1, h2, hk, hy, q⟩ := h
  cases rx
  obtain ⟨u, rfl, ru⟩ := rv.one
  obtain ⟨t, rfl⟩ := ru
  obtain ⟨z, its, n, r, hl, e⟩ := I.lstM hH
  obtain ⟨w, hw, rw'⟩ := r.get hy
  refine call_meets F.slot_list_pop ⟨_, e, rfl⟩ F.entry_list_pop (F.args_list_pop_2 _ _)
    (MeetsSeq.list_pop_at l its.toArray n i t k w (fitsIndex_both h1 h2) (by rw [List.size_toArray, ← hl]; exact hk) (by rw [← Array.getElem?_toList]; exact hw) (by rw [List.size_toArray]; omega)) ⟨e, ?_⟩
  refine ⟨y, _, I.lset (its' := its.eraseIdx k) hH e ?_ (r.eraseIdx k) ?_, rw', q⟩
  · show its.toArray.eraseIdxIfInBounds k = (its.eraseIdx k).toArray
    rw [List.eraseIdxIfInBounds_toArray]
  · have := len_erase xs k
    omega
def rCat : R2 := fun x y H Q => ∃ l b xs zs, x = .ref l ∧ y = .ref b ∧ H l = some (.lst xs) ∧ H b = some (.lst zs) ∧ xs.length + zs.length ≤ sizeLine ∧ ∀ p, H p = none → Q (.ref p) (upd H p (.lst (xs ++ zs)))
theorem op_cat : OpR X (binaryOp .Add) rCat := by
  intro pins s σ H x y v u Q I rx ry h
  obtain ⟨l, b, xs, zs, rfl, rfl, hH, hB, hz, q⟩ := h
  cases rx
  cases ry
  obtain ⟨z, its, n, r, hl, e⟩ := I.lstM hH
  obtain ⟨z2, its2, n2, r2, hl2, e2⟩ := I.lstM hB
  refine PySem.P.add_list e e2 ?_ (by rw [List.size_toArray, List.size_toArray]; omega)
  have ea : its.toArray ++ its2.toArray = (its ++ its2).toArray := by simp
  rw [ea]
  exact ⟨.ref _, _, I.lnew (t' := s.toks) (r.append r2) (by rw [List.length_append]; omega), rfl, q _ I.fresh⟩
/-- a list times an int (a negative one is nothing) -/
def rRep : R2 := fun x y H Q => ∃ l k xs, x = .ref l ∧ y = .int k ∧ H l = some (.lst xs) ∧ -(2 ^ 63) ≤ k ∧ k < 2 ^ 63 ∧ xs.length * k.toNat ≤ sizeLine ∧
  ∀ p, H p = none → Q (.ref p) (upd H p (.lst (List.replicate k.toNat xs).flatten))
theorem len_rep {α : Type} (xs : List α) (k : Nat) : (List.replicate k xs).flatten.length = k * xs.length := by
  induction k with
  | zero => simp
  | succ k ih => rw [List.replicate_succ, List.flatten_cons, List.length_append, ih, Nat.succ_mul, Nat.add_comm]
theorem op_rep : OpR X (binaryOp .Mult) rRep := by
  intro pins s σ H x y v u Q I rx ry h
  obtain ⟨l, k, xs, rfl, rfl, hH, h1, h2, hz, q⟩ := h
  cases rx
  obtain ⟨t, rfl⟩ := ry
  obtain ⟨z, its, n, r, hl, e⟩ := I.lstM hH
  have hlen : its.toArray.size * k.toNat ≤ sizeLine := by rw [List.size_toArray, ← hl]; exact hz
  have hcap : ¬ its.toArray.size * k.toNat > (2 ^ 63 - 1) / 8 := by
    have : (sizeLine : Nat) ≤ (2 ^ 63 - 1) / 8 := by decide
    omega
  have hfit : ¬ (!Builtin.List.listFitsIndex k) = true := by
    rw [fitsIndex_both h1 h2]
    exact Bool.false_ne_true
  have hlong : ¬ Builtin.List.listTooLong (its.toArray.size * k.toNat) = true := by
    rw [notLongL hlen]
    exact Bool.false_ne_true
  have hnew : List.foldl (fun x1 x2 => x1 ++ x2) #[] (List.replicate (if its.toArray.isEmpty = true then 0 else k.toNat) its.toArray) = (List.replicate k.toNat its).flatten.toArray := by
    have f0 : ∀ m : Nat, List.foldl (fun x1 x2 => x1 ++ x2) #[] (List.replicate m its.toArray) = (List.replicate m its).flatten.toArray := fun m => by
      have := foldl_rep its m []
      rw [List.nil_append] at this
      exact this
    rw [f0]
    cases its with
    | nil => simp
    | cons a r' => rw [if_neg (by simp)]
  refine wpAny_binaryOp_repeat_ref (T := "list") (U := "int") (by decide) ⟨_, e, rfl⟩ (fun s' => typeIs_int s' k t) noFill_list_mul F.fills_int_mul F.slot_int_rmul repeat_list F.slot_int_index.lookup
    (call_meets F.slot_int_rmul (typeIs_int s k t) F.entry_int_rmul (F.args_int_rmul_2 _ _) (int___rmul___int_list k t l its.toArray n)
      ⟨e, rfl, ⟨_, e, rfl⟩, call_meets F.slot_list_mul ⟨_, e, rfl⟩ F.entry_list_mul (F.args_list_mul_2 _ _) (AutoListH.list___mul___list_int_3 l its.toArray n k t hfit hcap hlong) ⟨e, ?_⟩⟩)
  rw [hnew]
  exact ⟨.ref _, _, I.lnew (t' := s.toks) (r.rep k.toNat) (by rw [len_rep, Nat.mul_comm]; exact hz), rfl, q _ I.fresh⟩
end
end L2
namespace L2
open PySem PySem.Spec PyProof.Rows
theorem Vals.ints : ∀ {ns : List Int} {us : List Value}, Vals (ns.map V.int) us → IntsAre us ns
  | [], us, h => by
    rw [List.map_nil] at h
    cases h
    exact IntsAre.nil
  | n :: ns, us, h => by
    rw [List.map_cons] at h
    cases h with
    | cons r t =>
      obtain ⟨k, rfl⟩ := r
      exact IntsAre.cons n k (Vals.ints t)
theorem vals_of_ints : ∀ {us : List Value} {ns : List Int}, IntsAre us ns → Vals (ns.map V.int) us
  | _, _, .nil => by rw [List.map_nil]; exact Paired.nil
  | _, _, .cons n t h => by rw [List.map_cons]; exact Paired.cons (show RelV (V.int n) (Value.int n t) from ⟨t, rfl⟩) (vals_of_ints h)
theorem Vals.strs : ∀ {xs : List Str} {us : List Value}, Vals (xs.map V.str) us → StrsAre us xs
  | [], us, h => by
    rw [List.map_nil] at h
    cases h
    exact StrsAre.nil
  | x :: xs, us, h => by
    rw [List.map_cons] at h
    cases h with
    | cons r t =>
      obtain ⟨k, rfl⟩ := r
      exact StrsAre.cons x k (Vals.strs t)
theorem Vals.bls : ∀ {bs : List Bool} {us : List Value}, Vals (bs.map V.bl) us → us = bs.map Value.bool
  | [], us, h => by
    rw [List.map_nil] at h
    cases h
    rfl
  | b :: bs, us, h => by
    rw [List.map_cons] at h
    cases h with
    | cons r t =>
      cases r
      rw [Vals.bls t, List.map_cons]
theorem Vals.ref1 {a : Addr} {us : List Value} (r : Vals [V.ref a] us) : us = [Value.ref a] := by
  cases r with
  | cons r t =>
    cases t
    cases r
    rfl
section
variable {prog : Program} {w : World} {A : Around} {E : Value → Shared → Prop} {s : Shared} {l : Addr} {its : List Value} {ns : List Int} {Q : Value → Shared → Prop}
theorem sum_raw (hh : A.handled = none) (hl : s.heap.IsList l its.toArray) (hi : IntsAre its ns)
    (h : ∀ h' tk t', (∀ b o, s.heap.get? b = some o → h'.get? b = some o) → Q (.int ns.sum t') { s with heap := h', toks := tk }) : wpAny (model prog w) A (call (.builtin "sum") [.ref l]) Q E s := by
  obtain ⟨xs, e⟩ := hi.allInts.items
  have hn : numsOf (intItems xs).toList = ns := by rw [← e]; exact hi.numsOf
  rw [nums_intItems] at hn
  rw [e] at hl
  refine PySem.sum_intListG hh hl fun h' tk t' hk => ?_
  have := h h' tk t' hk
  rw [preSum_eq, List.take_of_length_le (by simp), hn]; exact this
end
section
variable {X : Cx}
/-- sum(xs) of a list of ints -/
def rSum (K : PySem.W.Frag) : List V → Hp → VK → Prop := fun vs H Q => ∃ (a : Addr) (ns : List Int), vs = [V.ref a] ∧ SqL K H a (ns.map V.int) ∧ Q (.int ns.sum) H
theorem cr_sum (hc : X.calm = true) : CallR X (.builtin "sum") (rSum X.K) := by
  intro pins s σ H vs us Q I r h
  obtain ⟨a, ns, rfl, hs, q⟩ := h
  obtain ⟨its, rv, hl, _⟩ := I.list hs
  rw [Vals.ref1 r]
  exact sum_raw (I.ok.hd hc) hl.isList rv.ints fun h' tk t' hk => ⟨.int _, H, I.kept hk, ⟨_, rfl⟩, q⟩
def rSorted (K : PySem.W.Frag) : List V → Hp → VK → Prop := fun vs H Q => ∃ (a : Addr) (ns : List Int), vs = [V.ref a] ∧ SqL K H a (ns.map V.int) ∧ ns.length < 64 ∧
  ∀ (ns' : List Int) (p : Addr), ns'.Perm ns → ns'.Pairwise (· ≤ ·) → H p = none → Q (.ref p) (upd H p (.lst (ns'.map V.int)))
theorem small64 {n : Nat} (h : n < 64) : n ≤ sizeLine := by rw [sizeLine_eq]; omega
theorem cr_sorted : CallR X (.builtin "sorted") (rSorted X.K) := by
  intro pins s σ H vs us Q I r h
  obtain ⟨a, ns, rfl, hs, h64, q⟩ := h
  obtain ⟨its, rv, hl, _⟩ := I.list hs
  rw [Vals.ref1 r]
  have hi := rv.ints
  refine PyProof.Rows.sorted_ints hl.isList hi (by rw [hi.length]; exact h64) fun out ns' h1 h2 h3 => ?_
  obtain ⟨ep, he'⟩ := PyProof.Rows.sortedAll_at s.heap its out
  have hlen : (ns'.map V.int).length ≤ sizeLine := by rw [List.length_map, h2.length_eq]; exact small64 h64
  exact ⟨.ref _, upd H (s.heap.objs.size + 1) (.lst (ns'.map V.int)), I.laid (t' := s.toks) (fun _ _ => PyProof.Rows.sortedAll_old) (Nat.le_succ _) ⟨hlen, out.toList, ep, vals_of_ints h1, he'⟩, rfl, q ns' _ h2 h3 (I.hok.fresh (Nat.le_succ _))⟩
end
theorem iter_any {prog : Program} {w : World} {A : Around} {E : Value → Shared → Prop} {s : Shared} {l : Addr} {items : Array Value} {Q : Value → Shared → Prop} (hl : s.heap.IsList l items)
    (h : ∀ s₂ : Shared, s₂ = { s with heap := s.heap.push { cls := .type "list_iterator", data := .fields #[.ref l, .int 0 0] } } →
      (s₂.heap.IsListIter s.heap.objs.size l 0 ∧ s₂.heap.IsList l items) → l ≠ s.heap.objs.size → Q (.ref s.heap.objs.size) s₂) : wpAny (model prog w) A (pyIter (.ref l)) Q E s := by
  have hlt : l < s.heap.objs.size := by obtain ⟨_, e, _⟩ := hl; exact Heap.lt_size e
  exact wpAny_pyIter_list hl (h _ rfl ⟨⟨_, Heap.get?_push_size _ rfl, rfl, rfl⟩, hl.push _⟩ (Nat.ne_of_lt hlt))
theorem truth_bools {prog : Program} {w : World} {A : Around} {bs : List Bool} {its : List Value} (e : its = bs.map Value.bool) :
    TruthOf prog w A (fun i v => its.toArray[i]? = some v) (fun i => bs.getD i false) := fun i v s Q E hv hq => by
  have hv' : its[i]? = some v := by simpa using hv
  rw [e, List.getElem?_map] at hv'
  obtain ⟨b, hb, rfl⟩ := Option.map_eq_some_iff.mp hv'
  have hg : bs.getD i false = b := by rw [List.getD_eq_getElem?_getD, hb] <;> rfl
  have hq' : Q (bs.getD i false) s := hq
  rw [hg] at hq'
  exact wpAny_truthy_bool hq'
theorem any_range : ∀ bs : List Bool, (List.range bs.length).any (fun i => bs.getD i false) = bs.any id
  | [] => rfl
  | b :: bs => by
    rw [List.length_cons, List.range_succ_eq_map, List.any_cons, List.any_map, List.any_cons, ← any_range bs]
    all_goals rfl
theorem all_range : ∀ bs : List Bool, (List.range bs.length).all (fun i => bs.getD i false) = bs.all id
  | [] => rfl
  | b :: bs => by
    rw [List.length_cons, List.range_succ_eq_map, List.all_cons, List.all_map, List.all_cons, ← all_range bs]
    all_goals rfl
section
variable {X : Cx}
def rAny (K : PySem.W.Frag) : List V → Hp → VK → Prop := fun vs H Q => ∃ (a : Addr) (bs : List Bool), vs = [V.ref a] ∧ SqL K H a (bs.map V.bl) ∧ Q (.bl (bs.any id)) H
def rAll (K : PySem.W.Frag) : List V → Hp → VK → Prop := fun vs H Q => ∃ (a : Addr) (bs : List Bool), vs = [V.ref a] ∧ SqL K H a (bs.map V.bl) ∧ Q (.bl (bs.all id)) H
theorem cr_all (hc : X.calm = true) : CallR X (.builtin "all") (rAll X.K) := by
  intro pins s σ H vs us Q I r h
  obtain ⟨a, bs, rfl, hs, q⟩ := h
  obtain ⟨its, rv, hl, _⟩ := I.list hs
  rw [Vals.ref1 r]
  have hb := rv.bls
  refine call_all_walk (iter_any hl.isList fun s₂ e2 st hne => ?_)
  subst e2
  refine ⟨_, _, _, _, _, _, _, rfl, Walks.list (A := X.A.in1) (I.ok.hd hc) _ a hne its.toArray, st, truth_bools hb, fun h' tk hk => ?_⟩
  refine ⟨.bl _, H, I.kept fun b o eo => hk b o (fun hmem => ?_) (Heap.get?_push_of_some _ eo), ?_, q⟩
  · rcases List.mem_cons.mp hmem with e1 | hmem
    · exact absurd (e1 ▸ Heap.lt_size eo) (Nat.lt_irrefl _)
    · cases hmem
  · show Value.bool _ = Value.bool _
    rw [← all_range, hb, List.size_toArray, List.length_map]
end
mutual
inductive Dp (K : PySem.W.Frag) (H : Hp) : V → PyData → Prop
  | non : Dp K H .non .none
  | bl (b : Bool) : Dp K H (.bl b) (.bool b)
  | int (i : Int) : Dp K H (.int i) (.int i)
  | str (x : Str) : Dp K H (.str x) (.str x)
  | lst {a : Addr} {xs : List V} {ds : List PyData} : SqL K H a xs → DpAll K H xs ds → Dp K H (.ref a) (.list ds)
  | tup {a : Addr} {xs : List V} {ds : List PyData} : SqT K H a xs → DpAll K H xs ds → Dp K H (.ref a) (.tuple ds)
inductive DpAll (K : PySem.W.Frag) (H : Hp) : List V → List PyData → Prop
  | nil : DpAll K H [] []
  | cons {v : V} {vs : List V} {d : PyData} {ds : List PyData} : Dp K H v d → DpAll K H vs ds → DpAll K H (v :: vs) (d :: ds)
end
section
variable {X : Cx} {pins : List (Addr × Obj)} {σ : St} {H : Hp} {s : Shared}
mutual
theorem Dp.reads (I : Inv X pins σ H s) : ∀ (d : PyData) (v : V) (u : Value), Dp X.K H v d → RelV v u → ∃ as, Reads s.heap u d as
  | .none, _, _, h, r => by
    cases h
    cases r
    exact ⟨_, Reads.none⟩
  | .bool b, _, _, h, r => by
    cases h
    cases r
    exact ⟨_, Reads.bool b⟩
  | .int i, _, _, h, r => by
    cases h
    obtain ⟨t, rfl⟩ := r
    exact ⟨_, Reads.int i t⟩
  | .str x, _, _, h, r => by
    cases h
    obtain ⟨t, rfl⟩ := r
    exact ⟨_, Reads.str x t⟩
  | .list ds, _, _, h, r => by
    cases h with
    | lst hs ha =>
      cases r
      obtain ⟨its, rv, ⟨o, n, ho, hc, _, hd⟩, _⟩ := I.list hs
      obtain ⟨as, hr⟩ := Dp.readsAll I ds _ its ha rv
      exact ⟨_, Reads.list ho hc hd hr⟩
  | .tuple ds, _, _, h, r => by
    cases h with
    | tup hs ha =>
      cases r
      obtain ⟨its, rv, ⟨o, ho, hc, n, hd⟩, _⟩ := I.tuple hs
      obtain ⟨as, hr⟩ := Dp.readsAll I ds _ its ha rv
      exact ⟨_, Reads.tuple ho hc hd hr⟩
  | .dict _, _, _, h, _ => by cases h
theorem Dp.readsAll (I : Inv X pins σ H s) : ∀ (ds : List PyData) (vs : List V) (us : List Value), DpAll X.K H vs ds → Vals vs us → ∃ as, ReadsAll s.heap us ds as
  | [], _, _, h, r => by
    cases h
    cases r
    exact ⟨_, ReadsAll.nil⟩
  | d :: ds, _, _, h, r => by
    cases h with
    | cons h1 h2 =>
      cases r with
      | cons r1 r2 =>
        obtain ⟨as, q1⟩ := Dp.reads I d _ _ h1 r1
        obtain ⟨bs, q2⟩ := Dp.readsAll I ds _ _ h2 r2
        exact ⟨_, ReadsAll.cons q1 q2⟩
end
end
section
variable {X : Cx}
def rEqD (K : PySem.W.Frag) : R2 := fun x y H Q => ∃ d e, Dp K H x d ∧ Dp K H y e ∧ SeqAt.shaped d = true ∧ SeqAt.shaped e = true ∧ Q (.bl (PyData.eqv d e)) H
def rNeD (K : PySem.W.Frag) : R2 := fun x y H Q => ∃ d e, Dp K H x d ∧ Dp K H y e ∧ SeqAt.shaped d = true ∧ SeqAt.shaped e = true ∧ Q (.bl (!PyData.eqv d e)) H
theorem op_eqD (hu : X.A.units + 64 < cLine) : OpR X (compareOp .Eq) (rEqD X.K) := by
  intro pins s σ H x y v u Q I rx ry h
  obtain ⟨d, e, hd, he, sd, se, q⟩ := h
  obtain ⟨as, r1⟩ := Dp.reads I d x v hd rx
  obtain ⟨bs, r2⟩ := Dp.reads I e y u he ry
  exact SeqAt.compareEq_shaped r1 r2 sd se hu ⟨.bl _, H, I, rfl, q⟩
theorem op_neD (hu : X.A.units + 64 < cLine) : OpR X (compareOp .NotEq) (rNeD X.K) := by
  intro pins s σ H x y v u Q I rx ry h
  obtain ⟨d, e, hd, he, sd, se, q⟩ := h
  obtain ⟨as, r1⟩ := Dp.reads I d x v hd rx
  obtain ⟨bs, r2⟩ := Dp.reads I e y u he ry
  exact SeqAt.compareNe_shaped r1 r2 sd se hu ⟨.bl _, H, I, rfl, q⟩
end
end L2
namespace L2
open PySem PySem.Spec PyProof.Rows
abbrev CellAt (h : Heap) (c : Addr) (v : Option Value) : Prop := h.IsCell c v
def relS (scope sc : Scope) : Scope :=
  { scope with names := scope.names.map fun (n, k) => if (k == .free && sc.kind == .function && sc.names.lookup n == some .cell) then (n, .cell) else (n, k) }
def cloFrom (cells : List (Str × Addr)) : List (Str × NameKind) → List (Str × Addr) → List (Str × Addr)
  | [], acc => acc
  | (n, k) :: r, acc => if k == .free then cloFrom cells r ((n, (cells.lookup n).getD 0) :: acc) else cloFrom cells r acc
theorem closure_loop (env : Env) (f : Str × NameKind → List (Str × Addr) → Sem (ForInStep (List (Str × Addr))))
    (hf : ∀ n k c, f (n, k) c = if k == .free then (do let a ← cellOf env n; pure (.yield ((n, a) :: c))) else pure (.yield c)) :
    ∀ (names : List (Str × NameKind)) (acc : List (Str × Addr)), (∀ y ∈ names, y.2 = .free → ∃ c, env.cells.lookup y.1 = some c) → forIn names acc f = pure (cloFrom env.cells names acc)
  | [], acc, _ => by rw [List.forIn_nil]; rfl
  | (n, k) :: r, acc, h => by
    rw [List.forIn_cons, hf]
    have ih := fun acc => closure_loop env f hf r acc fun y hy => h y (List.mem_cons_of_mem _ hy)
    unfold cloFrom
    by_cases hk : (k == NameKind.free) = true
    · rw [if_pos hk, if_pos hk]
      obtain ⟨c, hc⟩ := h (n, k) List.mem_cons_self (by simpa using hk)
      have e : cellOf env n = pure c := by unfold cellOf; rw [hc]
      rw [e]
      have e2 : (env.cells.lookup n).getD 0 = c := by rw [hc]; rfl
      rw [e2]
      exact ih _
    · rw [if_neg hk, if_neg hk]
      exact ih _
theorem closure_ok {scope : Scope} {env : Env} (h : ∀ y ∈ scope.names, y.2 = .free → ∃ c, env.cells.lookup y.1 = some c) : closureFor scope env = pure (cloFrom env.cells scope.names []) := by
  simp only [closureFor]
  rw [closure_loop env _ (fun n k c => rfl) scope.names [] h]
  rfl
theorem mem_lookup {α : Type} : ∀ {l : List (Str × α)} {n : Str} {c : α}, (n, c) ∈ l → ∃ c', l.lookup n = some c'
  | (k, v) :: r, n, c, h => by
    rw [List.lookup_cons]
    cases hb : n == k with
    | true => exact ⟨_, rfl⟩
    | false =>
      rcases List.mem_cons.mp h with e | h
      · cases e; simp at hb
      · exact mem_lookup h
theorem cloFrom_mem {cells : List (Str × Addr)} : ∀ {names : List (Str × NameKind)} {acc : List (Str × Addr)} {n : Str} {c : Addr}, (n, c) ∈ cloFrom cells names acc → (n, c) ∈ acc ∨ ((n, .free) ∈ names ∧ c = (cells.lookup n).getD 0)
  | [], _, _, _, h => .inl h
  | (m, k) :: r, acc, n, c, h => by
    unfold cloFrom at h
    split at h
    · rename_i hk
      have hk : k = .free := by simpa using hk
      rcases cloFrom_mem h with h | ⟨h1, h2⟩
      · rcases List.mem_cons.mp h with e | h
        · cases e; exact .inr ⟨hk ▸ List.mem_cons_self, rfl⟩
        · exact .inl h
      · exact .inr ⟨List.mem_cons_of_mem _ h1, h2⟩
    · rcases cloFrom_mem h with h | ⟨h1, h2⟩
      · exact .inl h
      · exact .inr ⟨List.mem_cons_of_mem _ h1, h2⟩
theorem cloFrom_acc {cells : List (Str × Addr)} : ∀ {names : List (Str × NameKind)} {acc : List (Str × Addr)} {p : Str × Addr}, p ∈ acc → p ∈ cloFrom cells names acc
  | [], _, _, h => h
  | (m, k) :: r, acc, p, h => by
    unfold cloFrom
    split
    · exact cloFrom_acc (List.mem_cons_of_mem _ h)
    · exact cloFrom_acc h
theorem cloFrom_has {cells : List (Str × Addr)} : ∀ {names : List (Str × NameKind)} {acc : List (Str × Addr)} {n : Str}, (n, .free) ∈ names → (n, (cells.lookup n).getD 0) ∈ cloFrom cells names acc
  | (m, k) :: r, acc, n, h => by
    unfold cloFrom
    rcases List.mem_cons.mp h with e | h
    · cases e
      exact cloFrom_acc List.mem_cons_self
    · split
      · exact cloFrom_has h
      · exact cloFrom_has h
theorem cells_mem : ∀ {names : List (Str × NameKind)} {h : Heap} {acc : List (Str × Addr)} {x : Str} {c : Addr}, (x, c) ∈ cellsFrom h.objs.size names acc →
    (x, c) ∈ acc ∨ ((x, .cell) ∈ names ∧ h.objs.size ≤ c ∧ CellAt (pushCells h names) c none)
  | [], _, _, _, _, h => .inl h
  | (n, k) :: r, h, acc, x, c, hm => by
    unfold cellsFrom at hm
    unfold pushCells
    split at hm
    · rename_i hk
      rw [if_pos hk]
      have hk : k = .cell := by simpa using hk
      rw [← Heap.size_push h { cls := .type "cell", data := .cell none }] at hm
      rcases cells_mem hm with hm | ⟨h1, h2, h3⟩
      · rcases List.mem_cons.mp hm with e | hm
        · cases e
          exact .inr ⟨hk ▸ List.mem_cons_self, Nat.le_refl _, _, pushCells_keeps r _ _ _ (Heap.get?_push_size _ rfl), rfl⟩
        · exact .inl hm
      · rw [Heap.size_push] at h2
        exact .inr ⟨List.mem_cons_of_mem _ h1, Nat.le_of_succ_le h2, h3⟩
    · rename_i hk
      rw [if_neg hk]
      rcases cells_mem hm with hm | ⟨h1, h2, h3⟩
      · exact .inl hm
      · exact .inr ⟨List.mem_cons_of_mem _ h1, h2, h3⟩
theorem cells_acc : ∀ {names : List (Str × NameKind)} {n : Nat} {acc : List (Str × Addr)} {p : Str × Addr}, p ∈ acc → p ∈ cellsFrom n names acc
  | [], _, _, _, h => h
  | (m, k) :: r, n, acc, p, h => by
    unfold cellsFrom
    split
    · exact cells_acc (List.mem_cons_of_mem _ h)
    · exact cells_acc h
theorem cells_has : ∀ {names : List (Str × NameKind)} {n : Nat} {acc : List (Str × Addr)} {x : Str}, (x, .cell) ∈ names → ∃ c, (x, c) ∈ cellsFrom n names acc
  | (m, k) :: r, n, acc, x, h => by
    unfold cellsFrom
    rcases List.mem_cons.mp h with e | h
    · cases e
      exact ⟨n, cells_acc List.mem_cons_self⟩
    · split
      · exact cells_has h
      · exact cells_has h
theorem cells_inj : ∀ {names : List (Str × NameKind)} {h : Heap} {acc : List (Str × Addr)} {x y : Str} {c : Addr}, (∀ p ∈ acc, p.2 < h.objs.size) → (∀ x y c, (x, c) ∈ acc → (y, c) ∈ acc → x = y) →
    (x, c) ∈ cellsFrom h.objs.size names acc → (y, c) ∈ cellsFrom h.objs.size names acc → x = y
  | [], _, _, _, _, _, _, hi, h1, h2 => hi _ _ _ h1 h2
  | (n, k) :: r, h, acc, x, y, c, hl, hi, h1, h2 => by
    unfold cellsFrom at h1 h2
    split at h1
    · rename_i hk
      rw [if_pos hk] at h2
      rw [← Heap.size_push h { cls := .type "cell", data := .cell none }] at h1 h2
      refine cells_inj (h := h.push _) (fun p hp => ?_) (fun x y c a b => ?_) h1 h2
      · rw [Heap.size_push]
        rcases List.mem_cons.mp hp with rfl | hp
        · exact Nat.lt_succ_self _
        · exact Nat.lt_succ_of_lt (hl p hp)
      · rcases List.mem_cons.mp a with e | a <;> rcases List.mem_cons.mp b with e' | b
        · cases e; cases e'; rfl
        · cases e; exact absurd (hl _ b) (Nat.lt_irrefl _)
        · cases e'; exact absurd (hl _ a) (Nat.lt_irrefl _)
        · exact hi _ _ _ a b
    · rename_i hk
      rw [if_neg hk] at h2
      exact cells_inj hl hi h1 h2
theorem newEnv_comp {M : Model} {A : Around} {E : Value → Shared → Prop} {s : Shared} {scope : Scope} {globals : Addr} {closure : List (Str × Addr)} {qual : Str} {func : Option Addr} {code : Value} {around : Env} {builtins : Addr} {Q : Env → Shared → Prop}
    (h : Q (newEnv scope s.heap.objs.size globals (cellsFrom (s.heap.objs.size + 1) scope.names closure) qual func code (some around) builtins)
      { s with heap := pushCells (s.heap.push { cls := .type "dict", data := .dict #[] }) scope.names }) :
    wpAny M A (newFunctionEnv scope globals closure [] qual func code (some around) builtins) Q E s := by
  simp only [newFunctionEnv, Option.isSome_some, if_true]
  refine wpAny_bind (wpAny_alloc ?_)
  refine wpAny_bind (wpAny_layCells _ (fun n k c => rfl) scope.names closure _ _ ?_)
  rw [show ({ s with heap := s.heap.push { cls := .type "dict", data := .dict #[] } } : Shared).heap.objs.size = s.heap.objs.size + 1 from Heap.size_push ..]
  rw [List.forIn_nil]
  exact wpAny_bind (wpAny_pure (wpAny_pure h))
/-- every name of the written scope, in the scope that runs -/
theorem lookup_relS {sc : Scope} : ∀ {names : List (Str × NameKind)} {x : Str} {k : NameKind},
    (names.map fun (n, k) => if (k == NameKind.free && sc.kind == .function && sc.names.lookup n == some .cell) then (n, NameKind.cell) else (n, k)).lookup x = some k →
    ∃ k', names.lookup x = some k' ∧ (k = k' ∨ (k' = .free ∧ k = .cell))
  | [], _, _, h => by simp at h
  | (n, k₀) :: r, x, k, h => by
    have ih := @lookup_relS sc r x k
    have h' : List.lookup x ((if (k₀ == NameKind.free && sc.kind == .function && sc.names.lookup n == some .cell) = true then (n, NameKind.cell) else (n, k₀)) :: (r.map _)) = some k := h
    cases hx : x == n with
    | true =>
      simp only [List.lookup_cons, hx]
      by_cases hc : (k₀ == NameKind.free && sc.kind == .function && sc.names.lookup n == some .cell) = true
      · rw [if_pos hc] at h'
        simp only [List.lookup_cons, hx] at h'
        cases h'
        simp only [Bool.and_eq_true, beq_iff_eq] at hc
        exact ⟨k₀, rfl, .inr ⟨hc.1.1, rfl⟩⟩
      · rw [if_neg hc] at h'
        simp only [List.lookup_cons, hx] at h'
        cases h'
        exact ⟨_, rfl, .inl rfl⟩
    | false =>
      simp only [List.lookup_cons, hx]
      by_cases hc : (k₀ == NameKind.free && sc.kind == .function && sc.names.lookup n == some .cell) = true
      · rw [if_pos hc] at h'
        simp only [List.lookup_cons, hx] at h'
        exact ih h'
      · rw [if_neg hc] at h'
        simp only [List.lookup_cons, hx] at h'
        exact ih h'
/-- the names of a comprehension's block: its own (with their places in N), or captured -/
structure BlkOk (N : List Str) (sc scope : Scope) (own : List (Str × Nat)) : Prop where
  kind : scope.kind = .function
  uniq : ∀ y ∈ scope.names, scope.names.lookup y.1 = some y.2
  ix : ∀ p ∈ own, N[p.2]? = some p.1
  free : ∀ y ∈ scope.names, y.2 = .free → sc.names.lookup y.1 = some .cell ∨ sc.names.lookup y.1 = some .free
  own : ∀ y ∈ scope.names, y.2 = .local ∨ y.2 = .cell → y.1 ∈ own.map (·.1) ∨ y.1 ∉ N
/-- the slots of the block's own names forgotten -/
def wipe (σ : St) : List Nat → St
  | [] => σ
  | v :: vs => (wipe σ vs).set v none
theorem wipe_length (σ : St) : ∀ vs : List Nat, (wipe σ vs).length = σ.length
  | [] => rfl
  | v :: vs => by unfold wipe; rw [List.length_set, wipe_length σ vs]
theorem wipe_some {σ : St} {i : Nat} {x : V} : ∀ {vs : List Nat}, (wipe σ vs)[i]? = some (some x) → σ[i]? = some (some x) ∧ i ∉ vs
  | [], h => ⟨h, by simp⟩
  | v :: vs, h => by
    unfold wipe at h
    by_cases hi : v = i
    · subst hi
      by_cases hv : v < (wipe σ vs).length
      · rw [List.getElem?_set_self hv] at h; cases h
      · rw [List.getElem?_eq_none (by simpa using hv)] at h; cases h
    · rw [List.getElem?_set_ne hi] at h
      obtain ⟨h1, h2⟩ := wipe_some h
      exact ⟨h1, by simp only [List.mem_cons, not_or]; exact ⟨fun e => hi e.symm, h2⟩⟩
/-- the context of a block that starts at s, its iterator's objects at fp -/
abbrev Cx.blk (X : Cx) (s : Shared) (H : Hp) (scope : Scope) (cenv : Env) (fp : List Addr) : Cx := { X with s_0 := s, H_0 := H, env := cenv, outer := X.stack, ex := fp, fn := fun x => scope.names.lookup x == some .cell, pn := [], xe := fun _ _ => False }
section
variable {X : Cx} {pins : List (Addr × Obj)} {σ : St} {H : Hp} {s : Shared}
theorem block_start {scope : Scope} {own : List (Str × Nat)} {fp : List Addr} (I : Inv X pins σ H s) (ok : BlkOk X.N X.env.scope scope own) (hN : X.N.Nodup) (hfp : ∀ b ∈ fp, FpOk X pins H b ∧ b < s.heap.objs.size) :
    Inv (X.blk s H scope (compEnvC scope (cellsFrom (s.heap.objs.size + 1) scope.names (cloFrom X.env.cells scope.names [])) s.heap.objs.size X.env) fp) [] (wipe σ (own.map (·.2))) H { s with heap := pushCells (s.heap.push { cls := .type "dict", data := .dict #[] }) scope.names } := by
  have hfree : ∀ y ∈ scope.names, y.2 = .free → ∃ c, X.env.cells.lookup y.1 = some c := fun y hy e => by
    rcases ok.free y hy e with k | k
    · exact I.ok.has _ (.inl k)
    · exact I.ok.has _ (.inr k)
  generalize hcenv : compEnvC scope (cellsFrom (s.heap.objs.size + 1) scope.names (cloFrom X.env.cells scope.names [])) s.heap.objs.size X.env = cenv
  have kp : ∀ b o, s.heap.get? b = some o → (pushCells (s.heap.push { cls := .type "dict", data := .dict #[] }) scope.names).get? b = some o := fun b o e => pushCells_keeps _ _ _ _ (Heap.get?_push_of_some _ e)
  have hL : cenv.locals = s.heap.objs.size := by rw [← hcenv]; rfl
  have hcl : cenv.cells = cellsFrom (s.heap.objs.size + 1) scope.names (cloFrom X.env.cells scope.names []) := by rw [← hcenv]; rfl
  have hsc : cenv.scope = relS scope X.env.scope := by rw [← hcenv]; rfl
  rw [← Heap.size_push s.heap { cls := .type "dict", data := .dict #[] }] at hcl
  have cm : ∀ {y c}, (y, c) ∈ cloFrom X.env.cells scope.names [] → X.env.cells.lookup y = some c ∧ c < s.heap.objs.size := fun {y c} hm => by
    rcases cloFrom_mem hm with hm | ⟨h1, rfl⟩
    · cases hm
    · obtain ⟨c, hc⟩ := hfree _ h1 rfl
      rw [hc]
      obtain ⟨w, z⟩ := I.cell _ _ hc
      exact ⟨rfl, z.lt⟩
  have mem : ∀ {y c}, cenv.cells.lookup y = some c → (X.env.cells.lookup y = some c ∧ c < s.heap.objs.size) ∨ (s.heap.objs.size + 1 ≤ c ∧ CellAt (pushCells (s.heap.push { cls := .type "dict", data := .dict #[] }) scope.names) c none) := fun {y c} e => by
    rw [hcl] at e
    rcases cells_mem (PySem.mem_of_lookup e) with hm | ⟨_, h2, h3⟩
    · exact .inl (cm hm)
    · rw [Heap.size_push] at h2; exact .inr ⟨h2, h3⟩
  have look : ∀ {y}, scope.names.lookup y = some .free → ∃ c, cenv.cells.lookup y = some c ∧ X.env.cells.lookup y = some c := fun {y} hl => by
    have hy : (y, NameKind.free) ∈ scope.names := PySem.mem_of_lookup hl
    obtain ⟨c', e'⟩ := mem_lookup (cells_acc (names := scope.names) (n := (s.heap.push { cls := .type "dict", data := .dict #[] }).objs.size) (cloFrom_has (cells := X.env.cells) (acc := []) hy))
    rw [← hcl] at e'
    refine ⟨c', e', ?_⟩
    rw [hcl] at e'
    rcases cells_mem (PySem.mem_of_lookup e') with hm | ⟨h1, _, _⟩
    · exact (cm hm).1
    · have := ok.uniq _ h1
      rw [hl] at this; cases this
  have okB : (X.blk s H scope cenv fp).Ok := by
    refine ⟨I.ok.mod, by show cenv.scope.kind = _; rw [hsc]; exact ok.kind, by show cenv.globals = _; rw [← hcenv]; exact I.ok.glob, by show cenv.builtins = _; rw [← hcenv]; exact I.ok.blt, by show s.heap.objs.size ≤ cenv.locals; rw [hL]; exact Nat.le_refl _,
      fun y z c e1 e2 => ?_, fun y hy => ?_, fun y c z e => ?_, I.ok.hd, I.ok.frames, .inl rfl, fun b hb => ⟨?_, fun y c e z => ?_⟩, I.bs, Nat.le_trans I.ok.bsz I.sz, fun b o e hb => ?_, fun b hb z => ?_, I.stack, I.stkFree⟩
    · have e1 : cenv.cells.lookup y = some c := e1
      have e2 : cenv.cells.lookup z = some c := e2
      rw [hcl] at e1 e2
      refine cells_inj (fun p hp => ?_) (fun y z c a b => I.ok.inj y z c (cm a).1 (cm b).1) (PySem.mem_of_lookup e1) (PySem.mem_of_lookup e2)
      rw [Heap.size_push]
      exact Nat.lt_succ_of_lt (cm (y := p.1) (c := p.2) hp).2
    · show ∃ c, cenv.cells.lookup y = some c
      have key : ∀ k, cenv.kindOf y = some k → (k = .cell ∨ k = .free) → ∃ c, cenv.cells.lookup y = some c := fun k hk hk' => by
        unfold Env.kindOf at hk
        rw [hsc] at hk
        obtain ⟨k', e, r⟩ := lookup_relS hk
        have : k' = .cell ∨ k' = .free := by
          rcases r with rfl | ⟨rfl, _⟩
          · exact hk'
          · exact .inr rfl
        rcases this with rfl | rfl
        · obtain ⟨c, hm⟩ := cells_has (n := (s.heap.push { cls := .type "dict", data := .dict #[] }).objs.size) (acc := cloFrom X.env.cells scope.names []) (PySem.mem_of_lookup e)
          obtain ⟨c', e'⟩ := mem_lookup hm
          exact ⟨c', by rw [hcl]; exact e'⟩
        · obtain ⟨c, h1, _⟩ := look e
          exact ⟨c, h1⟩
      rcases hy with hy | hy
      · exact key _ hy (.inl rfl)
      · exact key _ hy (.inr rfl)
    · have z : (scope.names.lookup y == some NameKind.cell) = true := z
      have z : scope.names.lookup y = some .cell := by simpa using z
      have e : cenv.cells.lookup y = some c := e
      rw [hcl] at e
      rcases cells_mem (PySem.mem_of_lookup e) with hm | ⟨_, h2, _⟩
      · rcases cloFrom_mem hm with hm | ⟨h1, _⟩
        · cases hm
        · have q := ok.uniq _ h1
          rw [z] at q; cases q
      · rw [Heap.size_push] at h2
        exact Nat.le_of_succ_le h2
    · show b ≠ cenv.locals
      rw [hL]; exact Nat.ne_of_lt (hfp b hb).2
    · have e : cenv.cells.lookup y = some c := e
      rcases mem e with ⟨h1, _⟩ | ⟨h1, _⟩
      · exact (hfp b hb).1.2.2.2.2.1 y c h1 z
      · have h2 : s.heap.objs.size + 1 ≤ b := by rw [← z]; exact h1
        exact absurd (Nat.lt_of_lt_of_le (hfp b hb).2 (Nat.le_of_succ_le h2)) (Nat.lt_irrefl _)
    · rcases (hfp b hb).1.2.2.2.1 with z | z
      · exact I.ok.noex b o e z
      · exact absurd (Nat.lt_of_lt_of_le (Heap.lt_size e) (Nat.le_trans I.ok.bsz z)) (Nat.lt_irrefl _)
    · rcases List.mem_cons.mp (I.stkSub b z) with z | z
      · exact (hfp b hb).1.2.1 z
      · exact (hfp b hb).1.2.2.1 z
  refine ⟨okB, rfl, I.bare, Un.kept kp, ⟨fun _ => none, ?_, fun i y av e1 e2 e3 => ?_⟩, fun y c e => ?_, ?_, fun y c e => ?_, fun p hp => ?_, I.hok.kept kp, by rw [wipe_length]; exact I.len⟩
  · show Heap.Ns _ cenv.locals _
    rw [hL]
    exact Heap.Ns.keeps (Heap.Ns.new ..) fun b o e => pushCells_keeps _ _ _ _ e
  · obtain ⟨e2, hne⟩ := wipe_some e2
    have hfr : scope.names.lookup y = some .free ∧ (cenv.kindOf y = some .cell ∨ cenv.kindOf y = some .free) := by
      have key : ∀ k, cenv.scope.names.lookup y = some k → k = .local ∨ k = .cell ∨ k = .free → scope.names.lookup y = some .free ∧ (cenv.kindOf y = some .cell ∨ cenv.kindOf y = some .free) := fun k hk hk' => by
        have hk0 := hk
        rw [hsc] at hk
        obtain ⟨k', e, r⟩ := lookup_relS hk
        have no : ¬ (k' = .local ∨ k' = .cell) := fun hh => by
          rcases ok.own _ (PySem.mem_of_lookup e) hh with e' | e'
          · obtain ⟨p, hp, hpy⟩ := List.mem_map.mp e'
            have e3 := ok.ix p hp
            have : p.1 = y := hpy
            rw [this] at e3
            exact hne (List.mem_map.mpr ⟨p, hp, nodup_ix hN e3 e1⟩)
          · exact e' (List.mem_of_getElem? e1)
        rcases r with rfl | ⟨rfl, rfl⟩
        · rcases hk' with rfl | rfl | rfl
          · exact absurd (.inl rfl) no
          · exact absurd (.inr rfl) no
          · exact ⟨e, .inr hk0⟩
        · exact ⟨e, .inl hk0⟩
      have e3 : Vis cenv.scope y := e3
      rcases e3 with e3 | e3 | e3
      · exact key _ e3 (.inl rfl)
      · exact key _ e3 (.inr (.inl rfl))
      · exact key _ e3 (.inr (.inr rfl))
    obtain ⟨m, hn, hl⟩ := I.loc
    have hvis : Vis X.env.scope y := (ok.free _ (PySem.mem_of_lookup hfr.1) rfl).elim (fun k => .inr (.inl k)) (fun k => .inr (.inr k))
    obtain ⟨w, r, q⟩ := hl i y av e1 e2 hvis
    refine ⟨w, r, .inr ⟨hfr.2, ?_⟩⟩
    obtain ⟨c, h1, h2⟩ := look hfr.1
    rcases q with ⟨k, _⟩ | ⟨_, c', e', z⟩
    · have k : X.env.scope.names.lookup y = some .local := k
      rcases ok.free _ (PySem.mem_of_lookup hfr.1) rfl with k' | k' <;> rw [show X.env.scope.names.lookup y = _ from k'] at k <;> cases k
    · rw [h2] at e'; cases e'
      exact ⟨c, h1, z.keeps kp⟩
  · have e : cenv.cells.lookup y = some c := e
    rcases mem e with ⟨h1, _⟩ | ⟨_, z⟩
    · obtain ⟨w, z⟩ := I.cell y c h1
      exact ⟨w, z.keeps kp⟩
    · exact ⟨_, z⟩
  · show H cenv.locals = none
    rw [hL]; exact I.hok.fresh (Nat.le_refl _)
  · have e : cenv.cells.lookup y = some c := e
    rcases mem e with ⟨h1, _⟩ | ⟨h1, _⟩
    · exact I.freeC y c h1
    · exact I.hok.fresh (Nat.le_of_succ_le h1)
  · exact absurd (show p ∈ ([] : List (Addr × Obj)) ++ [] from hp) (by simp)
/-- an item appended to a tracked list -/
theorem app_ok {E : Value → Shared → Prop} {D : Addr} {xs : List V} {y : V} {v : Value} {Q : Value → Shared → Prop} (I : Inv X pins σ H s) (hD : H D = some (.lst xs)) (hz : xs.length < sizeLine) (r : RelV y v)
    (h : ∀ s', Inv X pins σ (upd H D (.lst (xs ++ [y]))) s' → Q .none s') : wpAny (model X.prog X.w) X.A (call (.builtin "list.append") [.ref D, v]) Q E s := by
  obtain ⟨hz', its, n, ri, e⟩ := I.hok D _ hD
  have hl := ri.length
  refine append_at (hsz := by rw [List.size_toArray]; omega) e fun h' sb ho' => ?_
  refine h { s with heap := h' } (I.write (t' := s.toks) (by rw [hD]; trivial) (.inl rfl) (fun b u hb q => (sb.2 b hb).trans q) ⟨_, ho'⟩ ⟨by rw [List.length_append]; exact hz, its ++ [v], n + 1, ri.append (.cons r .nil), ?_⟩)
  rw [ho']
  simp
/-- a clause's tests -/
def PTs (X : Cx) (ifs : List Expr) (t : TT) : Prop :=
  ∀ (pins : List (Addr × Obj)) (s : Shared) (σ : St) (H : Hp) (Q : Bool → Hp → Prop), Inv X pins σ H s → t σ H Q →
    wpAny (model X.prog X.w) X.A (forIn ifs true fun c r => if r = true then do let ok ← isTrue c X.env (eval c X.env); pure (ForInStep.yield ok) else pure (ForInStep.yield r)) (TP X pins σ Q) X.xe s
def tYes : TT := fun _ H Q => Q true H
theorem pts_nil : PTs X [] tYes := fun _ _ _ H _ I h => wpAny_tests_nil ⟨H, I, h⟩
theorem pts_one {c : Expr} {t : TT} (h : PT X c t) : PTs X [c] t := fun pins s σ H Q I hw => wpAny_tests_one (h pins s σ H Q I hw)
end
theorem thnF {α : Type} {t : Sem α} {Q Q' : α → Shared → Prop} {M : Model} {A : Around} {E : Value → Shared → Prop} {s : Shared} (h : wpAny M A t Q (fun _ _ => False) s) (hQ : ∀ a s, Q a s → Q' a s) : wpAny M A t Q' E s := wpAny_mono h hQ fun _ _ z => False.elim z
/-- the loop of a list comprehension's block, the target of any form (codeAny_compLoop_tests asks a target that no tuple goes to; statement and proof follow it, PyProof/CompMap.lean:41-61, with the step letOwnedTupleGo kept) -/
theorem compLoop_any {prog : Program} {w : World} {A : Around} {R : Result → Shared → Prop} {s : Shared} {elt target iter : Expr} {ifs : List Expr} {scope : Scope} {pos : Pos} {it acc : Value} {env : Env} (I : Nat → Shared → Prop)
    (turn : ∀ n s, I n s → wpAny (model prog w) A (pyNext it) (fun r s₁ => match r with
      | none => R (.ok .next) s₁
      | some v => wpAny (model prog w) A (letOwnedTupleGo target it v) (fun _ s₁' => wpAny (model prog w) A (assign target env v) (fun _ s₂ =>
          wpAny (model prog w) A (forIn ifs true fun c r => if r = true then do let ok ← isTrue c env (eval c env); pure (ForInStep.yield ok) else pure (ForInStep.yield r)) (fun ok s₃ =>
            if ok = true then wpAny (model prog w) A (eval elt env) (fun x s₄ =>
              wpAny (model prog w) A (call (.builtin "list.append") [acc, x]) (fun _ s₅ => ∃ m, m < n ∧ I m s₅) (notedBy (model prog w) A env fun e s' => R (.error e) s') s₄) (notedBy (model prog w) A env fun e s' => R (.error e) s') s₃
            else ∃ m, m < n ∧ I m s₃) (notedBy (model prog w) A env fun e s' => R (.error e) s') s₂) (notedBy (model prog w) A env fun e s' => R (.error e) s') s₁') (notedBy (model prog w) A env fun e s' => R (.error e) s') s₁) (notedBy (model prog w) A env fun e s' => R (.error e) s') s)
    (n : Nat) (h : I n s) :
    codeAny (model prog w) A (.compLoop (.ListComp elt [⟨target, iter, ifs, 0⟩] scope pos) 0 it acc env) R s := by
  refine codeAny_loop rfl I (fun n s hI => ?_) n h
  show wpAny _ A ((compTurn (.ListComp elt [⟨target, iter, ifs, 0⟩] scope pos) 0 it acc env).onRaise (fun x => do noteFrame x env; theTreesLotGoes x)) _ _ s
  refine wpAny_noted ?_
  rw [compTurn_list]
  refine wpAny_bind (wpAny_standAt (wpAny_bind (wpAny_mono (turn n s hI) (fun r s₁ h₁ => ?_) fun _ _ h' => h')))
  cases r with
  | none => exact wpAny_pure h₁
  | some v =>
    refine wpAny_bind (wpAny_mono h₁ (fun _ s₁' h₁' => ?_) fun _ _ h' => h')
    refine wpAny_bind (wpAny_mono h₁' (fun _ s₂ h₂ => wpAny_bind (wpAny_mono h₂ (fun ok s₃ h₃ => ?_) fun _ _ h' => h')) fun _ _ h' => h')
    cases ok with
    | false => exact wpAny_pure ⟨rfl, h₃⟩
    | true =>
      exact wpAny_bind (wpAny_bind (wpAny_mono h₃ (fun x s₄ h₄ => wpAny_bind (wpAny_mono h₄ (fun _ s₅ h₅ => wpAny_pure (wpAny_pure ⟨rfl, h₅⟩)) fun _ _ h' => h')) fun _ _ h' => h'))
section
variable {X : Cx}
/-- [elt for target in iter if ..]: D the new list; W by the turn and a measure, Nx what a turn is to reach -/
def tLc (wi : TI) (g : TG) (tt : TT) (te : TE) (vs : List Nat) : TE := fun σ H Q => wi σ H fun J H1 => ∀ D, H1 D = none → ∃ W : Nat → Nat → Hp → Prop, (∃ m, W 0 m (upd H1 D (.lst []))) ∧ ∀ i m H, W i m H →
  (J.stop i H ∧ Q (.ref D) H) ∨ (J.go i H ∧ ∃ Nx : Hp → Prop, (∀ H', Nx H' → ∃ m', m' < m ∧ W (i + 1) m' H') ∧ ∀ x H', J.yld i H x H' → g x (wipe σ vs) H' fun σ2 H2 => wipe σ2 vs = wipe σ vs ∧ tt σ2 H2 fun b H3 =>
    if b = true then te σ2 H3 fun y H4 => ∃ acc, H4 D = some (.lst acc) ∧ acc.length < sizeLine ∧ Nx (upd H4 D (.lst (acc ++ [y]))) else Nx H3)
theorem lc_core {pins : List (Addr × Obj)} {s : Shared} {σ : St} {H : Hp} {Q : VK} {elt tg iter : Expr} {ifs : List Expr} {scope : Scope} {own : List (Str × Nat)} {pos pos' : Pos} {wi : TI} {g : TG} {tt : TT} {te : TE} {use : Option (Value → Sem Unit)} {Qf : Value → Shared → Prop}
    (hc : X.calm = true) (hN : X.N.Nodup) (I : Inv X pins σ H s) (hi : PI X tg iter wi) (ok : BlkOk X.N X.env.scope scope own)
    (hg : ∀ (s : Shared) (H : Hp) (C : Addr) (cl : List (Str × Addr)) (fp : List Addr), PG (X.blk s H scope (compEnvC scope cl C X.env) fp) tg g) (ht : ∀ (s : Shared) (H : Hp) (C : Addr) (cl : List (Str × Addr)) (fp : List Addr), PTs (X.blk s H scope (compEnvC scope cl C X.env) fp) ifs tt)
    (he : ∀ (s : Shared) (H : Hp) (C : Addr) (cl : List (Str × Addr)) (fp : List Addr), PE (X.blk s H scope (compEnvC scope cl C X.env) fp) elt te) (hs : ∀ x, foldedSetIterable iter X.env x = pure x)
    (h : tLc wi g tt te (own.map (·.2)) σ H Q)
    (hRR : ∀ D C s' m H', Inv X pins σ H' s' → Q (.ref D) H' → s'.heap.Ns C m → FpOk X pins H' C → compPost (model X.prog X.w) X.A X.xe use Qf (.ref D) C (.ok .next) s') :
    wpAny (model X.prog X.w) X.A (comprehension (.ListComp elt [⟨tg, iter, ifs, 0⟩] scope pos) scope X.env pos' (newList []) false (eval iter X.env) use) Qf X.xe s := by
  have hfree : ∀ y ∈ scope.names, y.2 = .free → ∃ c, X.env.cells.lookup y.1 = some c := fun y hy e => by
    rcases ok.free y hy e with k | k
    · exact I.ok.has _ (.inl k)
    · exact I.ok.has _ (.inr k)
  refine wpAny_comprehension_free (use := use) rfl hs (closure_ok hfree) ok.kind (fun y hy e => by rw [ok.uniq y hy, e])
    (thn (hi pins s σ H _ I h) fun xv s1 hx => thn hx fun itv s2 h2 => ?_)
  obtain ⟨it, fp, tn, J, H2, e, I2, T, st2, f2, q⟩ := h2
  subst e
  refine wpAny_newObj_type (newEnv_comp ?_) (by show 0 ≤ sizeLine; decide)
  generalize hD : s2.heap.objs.size = D
  have hDn : H2 D = none := I2.hok.fresh (Nat.le_of_eq hD)
  obtain ⟨W, ⟨m0, w0⟩, turn⟩ := q D hDn
  -- the new list
  generalize hs3 : ({ s2 with heap := s2.heap.push { cls := .type "list", data := .seq ([] : List Value).toArray } } : Shared) = s3
  have I3 : Inv X pins σ (upd H2 D (.lst [])) s3 := by
    rw [← hs3]
    refine I2.laid (t' := s2.toks) (fun b o e => Heap.get?_push_of_some _ e) (Nat.le_of_eq hD) ⟨Nat.zero_le _, [], 0, .nil, ?_⟩
    rw [← hD]
    exact Heap.get?_push_size _ rfl
  have h3 : s3.heap = s2.heap.push { cls := .type "list", data := .seq ([] : List Value).toArray } := by rw [← hs3]
  have sz : ∀ b ∈ fp, b < s2.heap.objs.size := fun b hb => by
    obtain ⟨o, e, _⟩ := T.obj _ _ st2 b hb
    exact Heap.lt_size e
  have f3 : ∀ b ∈ fp, FpOk X pins (upd H2 D (.lst [])) b ∧ b < s3.heap.objs.size := fun b hb => by
    have hlt := sz b hb
    refine ⟨⟨?_, (f2 b hb).2⟩, by rw [h3, Heap.size_push]; exact Nat.lt_succ_of_lt hlt⟩
    rw [upd_ne (by rw [← hD]; exact Nat.ne_of_lt hlt)]
    exact (f2 b hb).1
  have st3 : tn 0 s3.heap := T.keep _ _ _ st2 fun b _ o e => by rw [h3]; exact Heap.get?_push_of_some _ e
  have I4 := block_start I3 ok hN f3
  have pg := hg s3 (upd H2 D (.lst [])) s3.heap.objs.size (cellsFrom (s3.heap.objs.size + 1) scope.names (cloFrom X.env.cells scope.names [])) fp
  have pt := ht s3 (upd H2 D (.lst [])) s3.heap.objs.size (cellsFrom (s3.heap.objs.size + 1) scope.names (cloFrom X.env.cells scope.names [])) fp
  have pe := he s3 (upd H2 D (.lst [])) s3.heap.objs.size (cellsFrom (s3.heap.objs.size + 1) scope.names (cloFrom X.env.cells scope.names [])) fp
  show codeAny _ _ (.compStart (.ListComp elt [⟨tg, iter, ifs, 0⟩] scope pos) 0 (.ref it) (.ref D) (compEnvC scope (cellsFrom (s3.heap.objs.size + 1) scope.names (cloFrom X.env.cells scope.names [])) s3.heap.objs.size X.env)) (compPost (model X.prog X.w) X.A X.xe use Qf (.ref D) s3.heap.objs.size) { s3 with heap := pushCells (s3.heap.push { cls := .type "dict", data := .dict #[] }) scope.names }
  have nfp : ∀ b ∈ fp, (upd H2 D (.lst [])) b = none := fun b hb => (f3 b hb).1.1
  generalize hce : compEnvC scope (cellsFrom (s3.heap.objs.size + 1) scope.names (cloFrom X.env.cells scope.names [])) s3.heap.objs.size X.env = ce at I4 pg pt pe ⊢
  have cL : ce.locals = s3.heap.objs.size := by subst hce; rfl
  generalize hH3 : upd H2 D (.lst []) = H3 at I3 I4 pg pt pe w0 nfp f3
  generalize hs4 : ({ s3 with heap := pushCells (s3.heap.push { cls := .type "dict", data := .dict #[] }) scope.names } : Shared) = s4 at I4 ⊢
  have st4 : tn 0 s4.heap := T.keep _ _ _ st3 fun b _ o e => by rw [← hs4]; exact pushCells_keeps _ _ _ _ (Heap.get?_push_of_some _ e)
  have stat : ∀ {σ' : St} {H' : Hp} {s' : Shared}, Inv (X.blk s3 H3 scope ce fp) [] σ' H' s' → (∀ b ∈ fp, H' b = none) → ∀ b ∈ fp, FpOk (X.blk s3 H3 scope ce fp) [] H' b := fun {σ' H' s'} I' hn b hb =>
    ⟨hn b hb, (I'.ok.exf b hb).1, I'.ok.exfs b hb, .inl hb, fun x c e => (I'.ok.exf b hb).2 x c e, fun p hp => absurd (show p ∈ ([] : List (Addr × Obj)) ++ [] from hp) (by simp)⟩
  have loop : codeAny (model X.prog X.w) X.A (.compLoop (.ListComp elt [⟨tg, iter, ifs, 0⟩] scope pos) 0 (.ref it) (.ref D) ce) (compPost (model X.prog X.w) X.A X.xe use Qf (.ref D) s3.heap.objs.size) s4 := by
    refine compLoop_any (fun n s' => ∃ i H', Inv (X.blk s3 H3 scope ce fp) [] (wipe σ (own.map (·.2))) H' s' ∧ tn i s'.heap ∧ (∀ b ∈ fp, H' b = none) ∧ W i n H') ?_ m0 ⟨0, H3, I4, st4, nfp, w0⟩
    rintro n s5 ⟨i, H5, I5, st5, n5, w5⟩
    rcases turn i n H5 w5 with ⟨stop, qq⟩ | ⟨go, Nx, hNx, step⟩
    · have td := T.done (X.blk s3 H3 scope ce fp) rfl rfl rfl hc i [] s5 _ H5 (fun _ _ => False) I5 (stat I5 n5) st5 stop
      refine thnF td fun r s6 ⟨hr, I6⟩ => ?_
      subst hr
      -- back in the def's context
      have I7 : Inv X pins σ H5 s6 := I3.call' (ch := fp) I6.os I6.base I6.hok I6.bare fun b hb => ⟨(f3 b hb).1.2.2.2.1, (f3 b hb).1.2.1, (f3 b hb).1.2.2.2.2.1, (f3 b hb).1.2.2.2.2.2⟩
      have nC : H5 s3.heap.objs.size = none := by
        have z : H5 ce.locals = none := I6.free
        rw [cL] at z
        exact z
      obtain ⟨m, hn, _⟩ := I6.loc
      have hn : s6.heap.Ns ce.locals m := hn
      rw [cL] at hn
      exact hRR D s3.heap.objs.size s6 m H5 I7 qq hn (I3.fpOk (Nat.le_refl _) nC)
    · have ti := T.item (X.blk s3 H3 scope ce fp) rfl rfl rfl hc i [] s5 _ H5 (fun _ _ => False) I5 (stat I5 n5) st5 go
      refine thnF ti fun r s6 ⟨u, hr, h6⟩ => ?_
      subst hr
      refine thnF h6 fun _ s7 ⟨x, H7, I7, r7, y7, st7, n7⟩ => ?_
      have I7' := I7.pinned (stat I7 n7) (T.obj _ _ st7)
      refine thnF (pg _ s7 _ H7 x u _ I7' r7 (step x H7 y7)) fun _ s8 ⟨σ8, H8, I8, hw8, q8⟩ => ?_
      refine thnF (pt _ s8 σ8 H8 _ I8 q8) fun b s9 ⟨H9, I9, q9⟩ => ?_
      -- the turn's end
      have fin : ∀ {s' : Shared} {H' : Hp}, Inv (X.blk s3 H3 scope ce fp) ([] ++ pinsAt fp s7.heap) σ8 H' s' → Nx H' → ∃ m, m < n ∧ ∃ i H', Inv (X.blk s3 H3 scope ce fp) [] (wipe σ (own.map (·.2))) H' s' ∧ tn i s'.heap ∧ (∀ b ∈ fp, H' b = none) ∧ W i m H' := fun {s' H'} I' nx => by
        obtain ⟨m', hm, w'⟩ := hNx H' nx
        have pin' : ∀ b ∈ fp, ∀ o, s7.heap.get? b = some o → s'.heap.get? b = some o ∧ H' b = none := fun b hb o e =>
          let z := I'.pin (b, o) (List.mem_append_right _ (List.mem_append_right _ (mem_pinsAt hb e)))
          ⟨z.1, z.2.1⟩
        have hl : (wipe σ (own.map (·.2))).length = σ8.length := by rw [← hw8, wipe_length]
        refine ⟨m', hm, i + 1, H', (I'.unpinned (pins := [])).weak hl (fun j v e => ?_), T.keep _ _ _ st7 fun b hb o e => (pin' b hb o e).1, fun b hb => ?_, w'⟩
        · rw [← hw8] at e
          exact (wipe_some e).1
        · obtain ⟨o, e, _⟩ := T.obj _ _ st7 b hb
          exact (pin' b hb o e).2
      cases b with
      | false =>
        simp only [Bool.false_eq_true, if_false] at q9 ⊢
        exact fin I9 q9
      | true =>
        simp only [if_true] at q9 ⊢
        refine thnF (pe _ s9 σ8 H9 _ I9 q9) fun z s10 ⟨yv, H10, I10, r10, acc, hD10, hz10, nx⟩ => ?_
        exact app_ok (X := X.blk s3 H3 scope ce fp) I10 hD10 hz10 r10 fun s11 I11 => fin I11 nx
  exact codeAny_compStart_list loop (T.self X.A 0 _ _ _ st4 loop)
/-- as a value -/
theorem pe_lc {elt tg iter : Expr} {ifs : List Expr} {scope : Scope} {own : List (Str × Nat)} {pos : Pos} {wi : TI} {g : TG} {tt : TT} {te : TE} (hc : X.calm = true) (hN : X.N.Nodup) (hi : PI X tg iter wi) (ok : BlkOk X.N X.env.scope scope own)
    (hg : ∀ (s : Shared) (H : Hp) (C : Addr) (cl : List (Str × Addr)) (fp : List Addr), PG (X.blk s H scope (compEnvC scope cl C X.env) fp) tg g) (ht : ∀ (s : Shared) (H : Hp) (C : Addr) (cl : List (Str × Addr)) (fp : List Addr), PTs (X.blk s H scope (compEnvC scope cl C X.env) fp) ifs tt)
    (he : ∀ (s : Shared) (H : Hp) (C : Addr) (cl : List (Str × Addr)) (fp : List Addr), PE (X.blk s H scope (compEnvC scope cl C X.env) fp) elt te) (hs : ∀ x, foldedSetIterable iter X.env x = pure x := by intro _; rfl) :
    PE X (.ListComp elt [⟨tg, iter, ifs, 0⟩] scope pos) (tLc wi g tt te (own.map (·.2))) := by
  intro pins s σ H Q I h
  rw [eval_ListComp]
  refine lc_core hc hN I hi ok hg ht he hs h fun D C s' m H' I' q hn f => ⟨m, hn, fun h'' sb => ?_⟩
  obtain ⟨f0, f1, f2, f3, f4, f5⟩ := f
  exact ⟨.ref D, H', I'.turned (t' := s'.toks) (fun b o hb e => (sb.2 b hb).trans e) f0 f1 f3 f4 f5, rfl, q⟩
/-- name = [..] on one line, the name a local -/
theorem ps_setLc {i : Nat} {y : Str} {py : Pos} {elt tg iter : Expr} {ifs : List Expr} {scope : Scope} {own : List (Str × Nat)} {pos spos : Pos} {wi : TI} {g : TG} {tt : TT} {te : TE} (hc : X.calm = true) (hN : X.N.Nodup) (hy : X.N[i]? = some y) (hyl : X.env.scope.names.lookup y = some .local)
    (hsw : swapsWith (.ListComp elt [⟨tg, iter, ifs, 0⟩] scope pos) (some (.Name y py)) spos.line X.env = pure true) (hi : PI X tg iter wi) (ok : BlkOk X.N X.env.scope scope own)
    (hg : ∀ (s : Shared) (H : Hp) (C : Addr) (cl : List (Str × Addr)) (fp : List Addr), PG (X.blk s H scope (compEnvC scope cl C X.env) fp) tg g) (ht : ∀ (s : Shared) (H : Hp) (C : Addr) (cl : List (Str × Addr)) (fp : List Addr), PTs (X.blk s H scope (compEnvC scope cl C X.env) fp) ifs tt)
    (he : ∀ (s : Shared) (H : Hp) (C : Addr) (cl : List (Str × Addr)) (fp : List Addr), PE (X.blk s H scope (compEnvC scope cl C X.env) fp) elt te) (hs : ∀ x, foldedSetIterable iter X.env x = pure x := by intro _; rfl) :
    PS X (.Assign [.Name y py] (.ListComp elt [⟨tg, iter, ifs, 0⟩] scope pos) spos) (tAsg (tLc wi g tt te (own.map (·.2))) (gName i)) := by
  intro pins s σ H D I h
  rw [exec_Assign_Name_used _ _ _ _ hsw]
  refine wpAny_bind (wpAny_standAt (wpAny_bind ?_))
  show wpAny _ X.A (do let _ ← comprehension (.ListComp elt [⟨tg, iter, ifs, 0⟩] scope pos) scope X.env (firstIterPos [⟨tg, iter, ifs, 0⟩] pos) (newList []) false (eval iter X.env) (some (assign (.Name y py) X.env))) _ _ s
  have h : tLc wi g tt te (own.map (·.2)) σ H (fun x H1 => gName i x σ H1 D.nx) := h
  refine wpAny_bind (thn (lc_core (Qf := fun _ s' => SP X pins D .next s') hc hN I hi ok hg ht he hs h fun L C s' m H' I' q hn f => ?_) fun _ s' hq => wpAny_pure (wpAny_pure hq))
  show wpAny _ _ (assign (.Name y py) X.env (.ref L)) _ _ _
  refine wpAny_assign_Name (store_ok2 (v := V.ref L) I' hN hy (.inl hyl) rfl (fun s2 I2 ⟨a, sb, ha⟩ => ?_) (.inr hyl))
  obtain ⟨f0, f1, f2, f3, f4, f5⟩ := f
  have haC : C ≠ a := by
    rcases ha with z | z
    · rw [z]; exact f1
    · exact fun e => f4 y a z e.symm
  refine ⟨m, hn.sameBut sb haC, fun h3 sb3 => ?_⟩
  exact ⟨_, H', I2.turned (t' := s2.toks) (fun b o hb e => (sb3.2 b hb).trans e) f0 f1 f3 f4 f5, q⟩
theorem sw_true {elt : Expr} {gs : List Comprehension} {scope : Scope} {pos py : Pos} {y : Str} {l : Nat} {env : Env} (hk : env.scope.kind = .function) (hy : env.scope.names.lookup y = some .local) (hl : (py.line == pos.line) = true)
    (ha : (scope.names.any fun (n, k) => n == y && (k == .local || k == .cell)) = false) : swapsWith (.ListComp elt gs scope pos) (some (.Name y py)) l env = pure true := by
  have ky : env.kindOf y = some .local := hy
  have hb : env.blockKind = .function := by unfold Env.blockKind; rw [hk]; rfl
  unfold swapsWith
  simp only [hb, ky, ha, Expr.pos, hl]
  rfl
end
def blkC (N : List Str) (sc scope : Scope) (own : List (Str × Nat)) : Bool :=
  (match scope.kind with | .function => true | _ => false) && (scope.names.all fun y => decide (scope.names.lookup y.1 = some y.2)) && (own.all fun p => decide (N[p.2]? = some p.1)) &&
    (scope.names.all fun y => match y.2 with
      | .free => (match sc.names.lookup y.1 with | some .cell => true | some .free => true | _ => false)
      | .local => decide (y.1 ∈ own.map (·.1)) || decide (y.1 ∉ N)
      | .cell => decide (y.1 ∈ own.map (·.1)) || decide (y.1 ∉ N)
      | _ => true)
theorem blkOk_by {N : List Str} {sc scope : Scope} {own : List (Str × Nat)} (h : blkC N sc scope own = true) : BlkOk N sc scope own := by
  unfold blkC at h
  simp only [Bool.and_eq_true, List.all_eq_true, decide_eq_true_eq] at h
  obtain ⟨⟨⟨h1, h2⟩, h3⟩, h4⟩ := h
  refine ⟨?_, h2, h3, fun y hy e => ?_, fun y hy e => ?_⟩
  · split at h1
    · assumption
    · cases h1
  · have q := h4 y hy
    simp only [e] at q
    split at q <;> first | exact .inl (by assumption) | exact .inr (by assumption) | cases q
  · have q := h4 y hy
    rcases e with e | e <;> (simp only [e, Bool.or_eq_true, decide_eq_true_eq] at q; exact q)
end L2
namespace L2
open PySem PySem.Spec PyProof.Rows
section
variable {κ : Type} [DecidableEq κ]
def valV (kvs : List (κ × V)) (k : κ) : Option V := (kvs.find? fun kv => decide (kv.1 = k)).map (·.2)
/-- in its place, or at the end -/
def putK (kvs : List (κ × V)) (k : κ) (v : V) : List (κ × V) :=
  if (kvs.any fun kv => decide (kv.1 = k)) = true then kvs.map (fun kv => if kv.1 = k then (kv.1, v) else kv) else kvs ++ [(k, v)]
def dropK (kvs : List (κ × V)) (k : κ) : List (κ × V) := kvs.filter fun kv => decide (kv.1 ≠ k)
theorem valV_pos {p : κ × V} {r : List (κ × V)} {k : κ} (e : p.1 = k) : valV (p :: r) k = some p.2 := by simp [valV, List.find?_cons, e]
theorem valV_neg {p : κ × V} {r : List (κ × V)} {k : κ} (e : ¬ p.1 = k) : valV (p :: r) k = valV r k := by simp [valV, List.find?_cons, e]
theorem valV_any (k : κ) : ∀ kvs : List (κ × V), (kvs.any fun kv => decide (kv.1 = k)) = (valV kvs k).isSome
  | [] => rfl
  | p :: r => by
    rw [List.any_cons]
    by_cases e : p.1 = k
    · simp only [valV_pos e, decide_eq_true e, Bool.true_or, Option.isSome_some]
    · rw [valV_neg e, decide_eq_false e, Bool.false_or]; exact valV_any k r
theorem RelO.isSome_eq {o : Option V} {u : Option Value} (r : RelO o u) : o.isSome = u.isSome := by
  cases o with
  | none => cases u with
    | none => rfl
    | some _ => exact (show False from r).elim
  | some _ => cases u with
    | none => exact (show False from r).elim
    | some _ => rfl
theorem RelO.getD {o : Option V} {u : Option Value} {d : V} {d' : Value} (r : RelO o u) (rd : RelV d d') : RelV (o.getD d) (u.getD d') := by
  cases o with
  | none => cases u with
    | none => exact rd
    | some _ => exact (show False from r).elim
  | some _ => cases u with
    | none => exact (show False from r).elim
    | some _ => exact r
/-- raw tables of the same keys -/
theorem KV.val {kvs : List (κ × V)} {vs : List (κ × Value)} (r : KV kvs vs) (k : κ) : RelO (valV kvs k) (valueAt vs k) := by
  unfold KV at r
  induction r with
  | nil => exact True.intro
  | @cons p q ps qs h t ih =>
    obtain ⟨h1, h2⟩ := h
    by_cases e : p.1 = k
    · have e' : q.1 = k := h1.symm.trans e
      have b : valueAt (q :: qs) k = some q.2 := by simp [valueAt, List.find?_cons, e']
      rw [valV_pos e, b]; exact h2
    · have e' : ¬ q.1 = k := fun z => e (h1.trans z)
      have b : valueAt (q :: qs) k = valueAt qs k := by simp [valueAt, List.find?_cons, e']
      rw [valV_neg e, b]; exact ih
theorem KV.any {kvs : List (κ × V)} {vs : List (κ × Value)} (r : KV kvs vs) (k : κ) : (kvs.any fun kv => decide (kv.1 = k)) = vs.any fun kv => decide (kv.1 = k) := by
  unfold KV at r
  induction r with
  | nil => rfl
  | cons h t ih => rw [List.any_cons, List.any_cons, ih, h.1]
theorem KV.repl {kvs : List (κ × V)} {vs : List (κ × Value)} (r : KV kvs vs) (k : κ) {y : V} {u : Value} (ry : RelV y u) :
    KV (kvs.map fun kv => if kv.1 = k then (kv.1, y) else kv) (vs.map fun kv => if kv.1 = k then (kv.1, u) else kv) := by
  unfold KV at r ⊢
  induction r with
  | nil => exact .nil
  | @cons p q ps qs h t ih =>
    rw [List.map_cons, List.map_cons]
    refine .cons ?_ ih
    obtain ⟨h1, h2⟩ := h
    by_cases e : p.1 = k
    · rw [if_pos e, if_pos (h1.symm.trans e)]; exact ⟨h1, ry⟩
    · rw [if_neg e, if_neg (fun z => e (h1.trans z))]; exact ⟨h1, h2⟩
theorem KV.put {kvs : List (κ × V)} {vs : List (κ × Value)} (r : KV kvs vs) (k : κ) {y : V} {u : Value} (ry : RelV y u) : KV (putK kvs k y) (stored vs k u) := by
  unfold putK stored
  rw [r.any k]
  by_cases e : (vs.any fun kv => decide (kv.1 = k)) = true
  · rw [if_pos e, if_pos e]; exact r.repl k ry
  · rw [if_neg e, if_neg e]; exact Paired.snoc r ⟨rfl, ry⟩
theorem KV.drop {kvs : List (κ × V)} {vs : List (κ × Value)} (r : KV kvs vs) (k : κ) : KV (dropK kvs k) (without vs k) := by
  unfold KV at r ⊢
  unfold dropK without
  induction r with
  | nil => exact .nil
  | @cons p q ps qs h t ih =>
    obtain ⟨h1, h2⟩ := h
    rw [List.filter_cons, List.filter_cons]
    by_cases e : p.1 = k
    · have a : ¬ decide (p.1 ≠ k) = true := by simp [e]
      have b : ¬ decide (q.1 ≠ k) = true := by simp [h1.symm.trans e]
      rw [if_neg a, if_neg b]; exact ih
    · have e' : ¬ q.1 = k := fun z => e (h1.trans z)
      have a : decide (p.1 ≠ k) = true := by simp [e]
      have b : decide (q.1 ≠ k) = true := by simp [e']
      rw [if_pos a, if_pos b]; exact .cons ⟨h1, h2⟩ ih
theorem KV.length {kvs : List (κ × V)} {vs : List (κ × Value)} (r : KV kvs vs) : kvs.length = vs.length := Paired.length r
end
theorem kV_is {P : Program} {w : World} {k : Key} {u : Value} (r : RelV (kV k) u) : (mixKind P w).is k u = true := by
  cases k with
  | inl i => obtain ⟨t, e⟩ := (show ∃ t, u = Value.int i t from r); subst e; exact mixKind_int P w i t
  | inr x => obtain ⟨t, e⟩ := (show ∃ t, u = Value.str x t from r); subst e; exact mixKind_str P w x t
theorem items_are {P : Program} {w : World} : ∀ {ks : List Key} {us : List Value}, Vals (ks.map kV) us → ItemsAre (mixKind P w) ks us
  | [], _, r => by rw [List.map_nil] at r; cases r; exact .nil
  | k :: ks, _, r => by
    rw [List.map_cons] at r
    cases r with
    | cons h t => exact .cons (kV_is h) (items_are t)
/-- raw entries of a dict with tuple keys -/
abbrev KT (H : Hp) : List (List Key × V) → List (List Key × Addr × Value) → Prop := Paired fun p q => p.1 = q.1 ∧ H q.2.1 = some (.tup (p.1.map kV)) ∧ RelV p.2 q.2.2
theorem KT.val {H : Hp} {kvs : List (List Key × V)} {xs : List (List Key × Addr × Value)} (r : KT H kvs xs) (k : List Key) : RelO (valV kvs k) ((atKey xs k).map (·.2)) := by
  induction r with
  | nil => exact True.intro
  | @cons p q ps qs h t ih =>
    obtain ⟨h1, _, h2⟩ := h
    by_cases e : p.1 = k
    · have e' : q.1 = k := h1.symm.trans e
      have b : atKey (q :: qs) k = some q.2 := by simp [atKey, List.find?_cons, e']
      rw [valV_pos e, b]; exact h2
    · have e' : ¬ q.1 = k := fun z => e (h1.trans z)
      have b : atKey (q :: qs) k = atKey qs k := by simp [atKey, List.find?_cons, e']
      rw [valV_neg e, b]; exact ih
theorem KT.repl {H : Hp} {kvs : List (List Key × V)} {xs : List (List Key × Addr × Value)} (r : KT H kvs xs) (k : List Key) {y : V} {u : Value} (ry : RelV y u) :
    KT H (kvs.map fun kv => if kv.1 = k then (kv.1, y) else kv) (xs.map (putAt k u)) := by
  induction r with
  | nil => exact .nil
  | @cons p q ps qs h t ih =>
    rw [List.map_cons, List.map_cons]
    refine .cons ?_ ih
    obtain ⟨h1, h2, h3⟩ := h
    unfold putAt
    by_cases e : p.1 = k
    · rw [if_pos e, if_pos (h1.symm.trans e)]; exact ⟨h1, h2, ry⟩
    · rw [if_neg e, if_neg (fun z => e (h1.trans z))]; exact ⟨h1, h2, h3⟩
theorem KT.put {H : Hp} {kvs : List (List Key × V)} {xs : List (List Key × Addr × Value)} (r : KT H kvs xs) (k : List Key) {b : Addr} {y : V} {u : Value} (hb : H b = some (.tup (k.map kV))) (ry : RelV y u) :
    KT H (putK kvs k y) (storedH xs k b u) := by
  have e : (kvs.any fun kv => decide (kv.1 = k)) = (atKey xs k).isSome := by
    rw [valV_any, (r.val k).isSome_eq, Option.isSome_map]
  unfold putK storedH
  rw [e]
  by_cases q : (atKey xs k).isSome = true
  · rw [if_pos q, if_pos q]; exact r.repl k ry
  · rw [if_neg q, if_neg q]; exact Paired.snoc r ⟨rfl, hb, ry⟩
theorem KT.keeps {H H' : Hp} {kvs : List (List Key × V)} {xs : List (List Key × Addr × Value)} (r : KT H kvs xs) (ht : ∀ b ys, H b = some (.tup ys) → H' b = some (.tup ys)) : KT H' kvs xs :=
  Paired.mapP r fun _ _ z => ⟨z.1, ht _ _ z.2.1, z.2.2⟩
section
variable {P : Program} {w : World} {H : Hp} {h : Heap} {a : Addr}
/-- a tracked tuple of ints and texts is a key -/
theorem key_of {ks : List Key} (ok : HOk P w H h) (e : H a = some (.tup (ks.map kV))) : (tupleKind (mixKind P w)).is h ks a := by
  obtain ⟨_, its, r, o, h1, h2, n, h3⟩ := (show ObjOk P w H h a (.tup (ks.map kV)) from ok a _ e)
  exact ⟨o, its.toArray, n, h1, h2, h3, by simpa using items_are r⟩
end
/-- what the dict at a holds at the key y -/
def DGet (H : Hp) (a : Addr) (y : V) (r : Option V) : Prop :=
  (∃ kvs k, Rd H a (.dK kvs) ∧ y = kV k ∧ r = valV kvs k) ∨ ∃ kvs k b, Rd H a (.dT kvs) ∧ y = .ref b ∧ H b = some (.tup (k.map kV)) ∧ r = valV kvs k
/-- the heap behind a[y] = v -/
def DPut (H : Hp) (a : Addr) (y v : V) (H' : Hp) : Prop :=
  (∃ kvs k, H a = some (.dK kvs) ∧ y = kV k ∧ kvs.length < sizeLine ∧ H' = upd H a (.dK (putK kvs k v))) ∨
  ∃ kvs k b, H a = some (.dT kvs) ∧ y = .ref b ∧ H b = some (.tup (k.map kV)) ∧ kvs.length < sizeLine ∧ H' = upd H a (.dT (putK kvs k v))
theorem DGet.k {H : Hp} {a : Addr} {kvs : List (Key × V)} {k : Key} (e : H a = some (.dK kvs)) : DGet H a (kV k) (valV kvs k) := .inl ⟨kvs, k, .inl e, rfl, rfl⟩
theorem DGet.t {H : Hp} {a b : Addr} {kvs : List (List Key × V)} {k : List Key} (e : H a = some (.dT kvs)) (eb : H b = some (.tup (k.map kV))) : DGet H a (.ref b) (valV kvs k) := .inr ⟨kvs, k, b, .inl e, rfl, eb, rfl⟩
theorem DPut.k {H : Hp} {a : Addr} {kvs : List (Key × V)} {k : Key} {v : V} (e : H a = some (.dK kvs)) (hl : kvs.length < sizeLine) : DPut H a (kV k) v (upd H a (.dK (putK kvs k v))) := .inl ⟨kvs, k, e, rfl, hl, rfl⟩
theorem DPut.t {H : Hp} {a b : Addr} {kvs : List (List Key × V)} {k : List Key} {v : V} (e : H a = some (.dT kvs)) (eb : H b = some (.tup (k.map kV))) (hl : kvs.length < sizeLine) :
    DPut H a (.ref b) v (upd H a (.dT (putK kvs k v))) := .inr ⟨kvs, k, b, e, rfl, eb, hl, rfl⟩
/-- a method call o.m(e) of a built-in, with one argument: what must be seen of the text -/
structure M1 (X : Cx) (o : Expr) (m : Str) (apos : Pos) (e : Expr) (cpos : Pos) : Prop where
  base : attributeBase o m X.env (eval o X.env) = eval o X.env
  few : ((backTo cpos (starEach [e] X.env)).all (fun x => !x.1) && (backToKw cpos (keywordEach [] X.env)).all (fun x => x.1.isSome)
    && decide (([e] : List Expr).length + ([] : List Keyword).length + (if ([] : List Keyword).isEmpty then 0 else 1) < 30)) = true
  line : (apos.endLine == cpos.line) = true
  trees : backTo cpos (starEach [e] X.env) = [(false, eval e X.env)]
structure M2 (X : Cx) (o : Expr) (m : Str) (apos : Pos) (e f : Expr) (cpos : Pos) : Prop where
  base : attributeBase o m X.env (eval o X.env) = eval o X.env
  few : ((backTo cpos (starEach [e, f] X.env)).all (fun x => !x.1) && (backToKw cpos (keywordEach [] X.env)).all (fun x => x.1.isSome)
    && decide (([e, f] : List Expr).length + ([] : List Keyword).length + (if ([] : List Keyword).isEmpty then 0 else 1) < 30)) = true
  line : (apos.endLine == cpos.line) = true
  trees : backTo cpos (starEach [e, f] X.env) = [(false, eval e X.env), (false, eval f X.env)]
end L2
namespace L2
open PySem PySem.Spec PyProof.Rows
section
variable {X : Cx}
theorem pairs_of {pins : List (Addr × Obj)} {σ : St} {H : Hp} {s : Shared} (I : Inv X pins σ H s) : ∀ {ps : List Addr} {kvs : List (Key × V)}, Paired (fun p kv => SqT X.K H p [kV kv.1, kv.2]) ps kvs →
    ∃ prs : List (Key × Value), KV kvs prs ∧ prs.length = ps.length ∧ ∀ (j : Nat) (q : Key × Value), prs[j]? = some q → ∃ (b : Addr) (u : Value), ps[j]? = some b ∧ IsTup s.heap b #[u, q.2] ∧ keyIs q.1 u = true
  | _, _, .nil => ⟨[], .nil, rfl, fun j q e => by simp at e⟩
  | _, _, .cons (a := p) (b := kv) h t => by
    obtain ⟨prs, r, hl, hp⟩ := pairs_of I t
    obtain ⟨its, rv, ht, _⟩ := I.tuple h
    obtain ⟨u, y, ei, ru, ry⟩ := vals2 rv
    subst ei
    refine ⟨(kv.1, y) :: prs, .cons ⟨rfl, ry⟩ r, by rw [List.length_cons, List.length_cons, hl], fun j q e => ?_⟩
    cases j with
    | zero =>
      have e' : (kv.1, y) = q := Option.some.inj e
      subst e'
      exact ⟨p, u, rfl, ht, kV_is (P := X.prog) (w := X.w) ru⟩
    | succ j =>
      obtain ⟨b, u', e1, e2, e3⟩ := hp j q (by simpa using e)
      exact ⟨b, u', by simpa using e1, e2, e3⟩
end
end L2
namespace L2
open PySem PySem.Spec PyProof.Rows
section
variable {X : Cx} {pins : List (Addr × Obj)} {σ : St} {H : Hp} {s : Shared} {h' : Heap}
/-- several records of ours have turned -/
theorem Inv.turnedL {t' : Nat} {ch : List Addr} (I : Inv X pins σ H s) (k : ∀ b o, b ∉ ch → s.heap.get? b = some o → h'.get? b = some o) (hf : ∀ b ∈ ch, FpOk X pins H b) : Inv X pins σ H { s with heap := h', toks := t' } := by
  have nit : ∀ b u, H b = some u → b ∉ ch := fun b u e z => by
    have q := (hf b z).1
    rw [q] at e; cases e
  refine I.step (g' := s.gens) (d' := s.drawn) (ch := ch) (fun b hb => ⟨(hf b hb).2.2.2.1, (hf b hb).2.1, (hf b hb).2.2.2.2.1, (hf b hb).2.2.2.2.2⟩) (fun b o _ _ hc e _ => k b o hc e) (fun b o _ _ hc e _ => ⟨o.slots, k b o hc e⟩)
    (fun _ _ _ _ n => n) (fun b o hc e => ⟨o, k b o hc e⟩) (fun _ _ e => e) (fun _ _ _ e => e) (fun b ps e => ⟨#[], by rw [e]; simp⟩) (fun m hm => ?_) (fun b u e => ?_) I.bare
  · obtain ⟨o, es, ep, ho, r⟩ := hm
    exact ⟨o, es, ep, k _ o (fun z => (hf _ z).2.1 rfl) ho, r⟩
  · refine (I.hok b u e).stay (fun c v hc q => k c v ?_ q) (fun _ q => q) fun _ _ q => q
    rcases hc with z | z
    · rw [z]; exact nit b u e
    · exact nit c _ z
/-- .. and one new object is laid -/
theorem Inv.turnedNew {t' : Nat} {ch : List Addr} {T : Addr} {ob : HO} (I : Inv X pins σ H s) (k : ∀ b o, b ∉ ch → s.heap.get? b = some o → h'.get? b = some o) (hf : ∀ b ∈ ch, FpOk X pins H b) (hT : s.heap.objs.size ≤ T)
    (new : ObjOk X.prog X.w (upd H T ob) h' T ob) : Inv X pins σ (upd H T ob) { s with heap := h', toks := t' } := by
  have hn : H T = none := I.hok.fresh hT
  have nit : ∀ b u, H b = some u → b ∉ ch := fun b u e z => by
    have q := (hf b z).1
    rw [q] at e; cases e
  refine I.step (g' := s.gens) (d' := s.drawn) (ch := ch) (fun b hb => ⟨(hf b hb).2.2.2.1, (hf b hb).2.1, (hf b hb).2.2.2.2.1, (hf b hb).2.2.2.2.2⟩) (fun b o _ _ hc e _ => k b o hc e) (fun b o _ _ hc e _ => ⟨o.slots, k b o hc e⟩)
    (fun b o _ e n => ?_) (fun b o hc e => ⟨o, k b o hc e⟩) (fun b xs e => ?_) (fun b o u e => ?_) (fun b ps e => ⟨#[], ?_⟩) (fun m hm => ?_) (fun b u e => ?_) I.bare
  · rw [upd_ne (Nat.ne_of_lt (Nat.lt_of_lt_of_le (Heap.lt_size e) hT))]; exact n
  · rw [upd_ne (ne_of_none e hn)]; exact e
  · rw [upd_ne (ne_of_none e hn)]; exact e
  · rw [upd_ne (ne_of_none e hn), e]; simp
  · obtain ⟨o, es, ep, ho, r⟩ := hm
    exact ⟨o, es, ep, k _ o (fun z => (hf _ z).2.1 rfl) ho, r⟩
  · by_cases hb : b = T
    · subst hb
      rw [upd_same] at e
      cases e
      exact new
    · rw [upd_ne hb] at e
      refine (I.hok b u e).stay (fun c v hc q => k c v ?_ q) (fun c q => by rw [upd_ne (ne_of_none q hn)]; exact q) fun c xs q => by rw [upd_ne (ne_of_none q hn)]; exact q
      rcases hc with z | z
      · rw [z]; exact nit b u e
      · exact nit c _ z
end
/-- the list at a as it stands at each turn, each item in a new pair -/
def Ite (K : PySem.W.Frag) (a : Addr) : It :=
  ⟨fun i H => ∃ (xs : List V) (x : V), SqL K H a xs ∧ xs[i]? = some x, fun i H v H' => ∃ T x, v = .ref T ∧ H T = none ∧ H' = upd H T (.tup [.int (i : Nat), x]) ∧ ∀ xs, SqL K H a xs → xs[i]? = some x, fun i H => ∃ xs : List V, SqL K H a xs ∧ xs.length ≤ i⟩
theorem turn_enum {P : Program} {w : World} {K : PySem.W.Frag} {elts : List Expr} {kk : Nat} {tpos : Pos} (a e it : Addr) :
    Turn P w K (.Tuple elts kk tpos) (Ite K a) [e, it] e (fun i h => (∃ old, IsEnum h e it ((i : Nat) : Int) old) ∧ h.IsListIter it a i ∧ e ≠ it) where
  mem := by simp
  obj := fun i h st b hb => by
    obtain ⟨⟨old, he⟩, ⟨o, ho, hc, hd⟩, _⟩ := st
    have e' : b = e ∨ b = it := by simpa using hb
    rcases e' with z | z
    · rw [z]; exact ⟨_, he, fun v q => nomatch q⟩
    · rw [z]; exact ⟨o, ho, fun v q => by rw [hd] at q; cases q⟩
  keep := fun i h h' st k => let ⟨⟨old, he⟩, hi, hne⟩ := st; ⟨⟨old, k e (by simp) _ he⟩, hi.at fun o q => k it (by simp) o q, hne⟩
  item := by
    intro X hP hw hK hc i pins s σ H E I hf st hg
    subst hP hw hK
    obtain ⟨⟨old, he⟩, hit, hne⟩ := st
    obtain ⟨xs, x, hq, hx⟩ := hg
    obtain ⟨its, rv, p, hz⟩ := I.list hq
    obtain ⟨u, hu, ru⟩ := rv.get hx
    have hel : e < s.heap.objs.size := Heap.lt_size he
    have hil : it < s.heap.objs.size := by obtain ⟨_, q, _⟩ := hit; exact Heap.lt_size q
    refine wpAny_pyNext_enum_item he hit p.isList (x := u) (by simpa using hu) hne fun h' ho hit' hT hsz hk => ?_
    refine ⟨_, rfl, wpAny_letOwnedTupleGo_enum (s := { s with heap := h', toks := s.toks + 1 }) ho fun h'' he' sb => ?_⟩
    have hT2 : h''.get? s.heap.objs.size = some { cls := .type "tuple", data := .seq #[.int i s.toks, u] } := (sb.2 _ (Nat.ne_of_gt hel)).trans hT
    have new : ObjOk X.prog X.w (upd H s.heap.objs.size (.tup [.int (i : Nat), x])) h'' s.heap.objs.size (.tup [.int (i : Nat), x]) :=
      ⟨by show 2 ≤ sizeLine; decide, [.int i s.toks, u], .cons ⟨_, rfl⟩ (.cons ru .nil), ⟨_, hT2, rfl, _, rfl⟩⟩
    have I1 : Inv X pins σ (upd H s.heap.objs.size (.tup [.int (i : Nat), x])) { s with heap := h'', toks := s.toks + 1 } :=
      I.turnedNew (ch := [e, it]) (fun b ob hb q => (sb.2 b (fun z => hb (by simp [z]))).trans (hk b ob (fun z => hb (by simp [z])) (fun z => hb (by simp [z])) q)) hf (Nat.le_refl _) new
    refine ⟨.ref s.heap.objs.size, _, I1, rfl, ⟨_, x, rfl, I.hok.fresh (Nat.le_refl _), rfl, fun ys hy => by rw [I.list_inj hy hq]; exact hx⟩, ⟨⟨u, ?_⟩, hit'.at fun o q => (sb.2 it (Ne.symm hne)).trans q, hne⟩, fun b hb => ?_⟩
    · have e1 : ((i + 1 : Nat) : Int) = (i : Int) + 1 := by omega
      rw [e1]; exact he'
    · have hb' : b < s.heap.objs.size := by
        have e' : b = e ∨ b = it := by simpa using hb
        rcases e' with z | z
        · rw [z]; exact hel
        · rw [z]; exact hil
      rw [upd_ne (Nat.ne_of_lt hb')]
      exact (hf b hb).1
  done := by
    intro X hP hw hK hc i pins s σ H E I hf st hg
    subst hP hw hK
    obtain ⟨⟨old, he⟩, hit, hne⟩ := st
    obtain ⟨xs, hq, hx⟩ := hg
    obtain ⟨its, rv, p, hz⟩ := I.list hq
    obtain ⟨f0, f1, f2, f3, f4, f5⟩ := hf it (by simp)
    have hl := rv.length
    exact wpAny_pyNext_enum_end (I.ok.hd hc) he hit p.isList (by simp; omega) fun h' eb => ⟨rfl, I.turned (t' := s.toks) (fun b o hb q => eb b o hb q) f0 f1 f3 f4 f5⟩
  self := fun A i s Q E st h => let ⟨⟨_, he⟩, _⟩ := st; wpAny_pyIter_enum he h
def iEnum (K : PySem.W.Frag) (ta : TA) : TI := fun σ H R => ta σ H fun vs H1 => ∃ a xs, vs = [.ref a] ∧ SqL K H1 a xs ∧ R (Ite K a) H1
theorem pi_enum {X : Cx} {e : Expr} {ta : TA} {p pos tpos : Pos} {elts : List Expr} {kk : Nat} (hg : Gl X "enumerate") (hm : X.mg "enumerate" = none) (ha : PA X [e] ta) (hs : starEach [e] X.env = [(false, eval e X.env)] := by rfl) :
    PI X (.Tuple elts kk tpos) (.Call (.Name "enumerate" p) [e] [] pos) (iEnum X.K ta) := by
  intro pins s σ H R I h
  refine Call_ (ld_blt I hg hm boot_enumerate (PyProof.Rows.callWith_type1 (thn (ha pos pins s σ H _ I h) fun us s1 ⟨vs, H1, I1, r1, q1⟩ => ?_) hs rfl))
  obtain ⟨a, xs, ex, hq, q⟩ := q1
  subst ex
  cases r1 with
  | cons r rr =>
    cases rr
    cases r
    obtain ⟨its, rv, p', hz⟩ := I1.list hq
    refine call_enumerate_list p'.isList fun h' he hit hsz hk => wpAny_pyIter_enum he ?_
    have I2 : Inv X pins σ H1 { s1 with heap := h' } := I1.kept (t' := s1.toks) hk
    refine ⟨s1.heap.objs.size + 1, [s1.heap.objs.size + 1, s1.heap.objs.size], _, _, H1, rfl, I2, turn_enum a (s1.heap.objs.size + 1) s1.heap.objs.size, ⟨⟨.none, he⟩, hit, Nat.succ_ne_self _⟩, fun b hb => ?_, q⟩
    have e' : b = s1.heap.objs.size + 1 ∨ b = s1.heap.objs.size := by simpa using hb
    have hle : s1.heap.objs.size ≤ b := by
      rcases e' with z | z
      · rw [z]; exact Nat.le_add_right _ _
      · rw [z]; exact Nat.le_refl _
    exact I1.fpOk hle (I1.hok.fresh hle)
theorem boot_zip5 : bootBuiltins "zip" = some (.type "zip") := by decide +kernel
/-- the lists at a and b as they stand at each turn, the items in new pairs -/
def Itz (K : PySem.W.Frag) (a b : Addr) : It :=
  ⟨fun i H => ∃ (xs ys : List V) (x y : V), SqL K H a xs ∧ SqL K H b ys ∧ xs[i]? = some x ∧ ys[i]? = some y,
    fun i H v H' => ∃ T x y, v = .ref T ∧ H T = none ∧ H' = upd H T (.tup [x, y]) ∧ (∀ xs, SqL K H a xs → xs[i]? = some x) ∧ ∀ ys, SqL K H b ys → ys[i]? = some y,
    fun i H => ∃ xs ys : List V, SqL K H a xs ∧ SqL K H b ys ∧ (xs.length ≤ i ∨ ys.length ≤ i)⟩
theorem turn_zip {P : Program} {w : World} {K : PySem.W.Frag} {elts : List Expr} {kk : Nat} {tpos : Pos} {a b z TI TO i1 i2 : Addr} (D : ZipApart z TI TO i1 i2 a b) :
    Turn P w K (.Tuple elts kk tpos) (Itz K a b) [z, TI, TO, i1, i2] z (fun i h => IsZip h z TI TO .none ∧ IsPair h TI (.ref i1) (.ref i2) ∧ (∃ x y, IsPair h TO x y) ∧ h.IsListIter i1 a i ∧ h.IsListIter i2 b i) where
  mem := by simp
  obj := fun i h st c hc => by
    obtain ⟨hz, hTI, ⟨x, y, hTO⟩, ⟨o1, e1, _, d1⟩, ⟨o2, e2, _, d2⟩⟩ := st
    have e' : c = z ∨ c = TI ∨ c = TO ∨ c = i1 ∨ c = i2 := by simpa using hc
    rcases e' with q | q | q | q | q
    · rw [q]; exact ⟨_, hz, fun v q => nomatch q⟩
    · rw [q]; exact ⟨_, hTI, fun v q => nomatch q⟩
    · rw [q]; exact ⟨_, hTO, fun v q => nomatch q⟩
    · rw [q]; exact ⟨o1, e1, fun v q => by rw [d1] at q; cases q⟩
    · rw [q]; exact ⟨o2, e2, fun v q => by rw [d2] at q; cases q⟩
  keep := fun i h h' st k => by
    obtain ⟨hz, hTI, ⟨x, y, hTO⟩, h1, h2⟩ := st
    exact ⟨k z (by simp) _ hz, k TI (by simp) _ hTI, ⟨x, y, k TO (by simp) _ hTO⟩, h1.at fun o q => k i1 (by simp) o q, h2.at fun o q => k i2 (by simp) o q⟩
  item := by
    intro X hP hw hK hc i pins s σ H E I hf st hg
    subst hP hw hK
    obtain ⟨hz, hTI, ⟨x0, y0, hTO⟩, h1, h2⟩ := st
    obtain ⟨xs, ys, x, y, hqx, hqy, hx, hy⟩ := hg
    obtain ⟨its, rv, p, _⟩ := I.list hqx
    obtain ⟨its2, rv2, p2, _⟩ := I.list hqy
    obtain ⟨u, hu, ru⟩ := rv.get hx
    obtain ⟨u2, hu2, ru2⟩ := rv2.get hy
    have hzl : z < s.heap.objs.size := Heap.lt_size hz
    refine wpAny_pyNext_zip_item D hz hTI hTO h1 h2 p.isList p2.isList (x := u) (y := u2) (by simpa using hu) (by simpa using hu2) fun h' z' TO' h1' h2' hT hsz hk => ?_
    refine ⟨_, rfl, wpAny_letOwnedTupleGo_zip (s := { s with heap := h' }) z' fun h'' z'' sb => ?_⟩
    have hT2 : h''.get? s.heap.objs.size = some { cls := .type "tuple", data := .seq #[u, u2] } := (sb.2 _ (Nat.ne_of_gt hzl)).trans hT
    have new : ObjOk X.prog X.w (upd H s.heap.objs.size (.tup [x, y])) h'' s.heap.objs.size (.tup [x, y]) :=
      ⟨by show 2 ≤ sizeLine; decide, [u, u2], .cons ru (.cons ru2 .nil), ⟨_, hT2, rfl, _, rfl⟩⟩
    have I1 : Inv X pins σ (upd H s.heap.objs.size (.tup [x, y])) { s with heap := h'' } :=
      I.turnedNew (t' := s.toks) (ch := [z, TI, TO, i1, i2]) (fun c o hb q => (sb.2 c (fun q' => hb (by simp [q']))).trans (hk c o (fun q' => hb (by simp [q'])) (fun q' => hb (by simp [q'])) (fun q' => hb (by simp [q'])) (fun q' => hb (by simp [q'])) q)) hf (Nat.le_refl _) new
    refine ⟨.ref s.heap.objs.size, _, I1, rfl, ⟨_, x, y, rfl, I.hok.fresh (Nat.le_refl _), rfl, fun l hl => by rw [I.list_inj hl hqx]; exact hx, fun l hl => by rw [I.list_inj hl hqy]; exact hy⟩, ⟨z'', ?_, ⟨u, u2, ?_⟩, ?_, ?_⟩, fun c hcm => ?_⟩
    · exact (sb.2 _ D.TIz).trans (hk _ _ D.TIz D.TITO D.TIi1 D.TIi2 hTI)
    · exact (sb.2 _ D.TOz).trans TO'
    · exact h1'.at fun o q => (sb.2 _ D.i1z).trans q
    · exact h2'.at fun o q => (sb.2 _ D.i2z).trans q
    · have hlt : c < s.heap.objs.size := by
        have e' : c = z ∨ c = TI ∨ c = TO ∨ c = i1 ∨ c = i2 := by simpa using hcm
        rcases e' with q | q | q | q | q
        · rw [q]; exact hzl
        · rw [q]; exact Heap.lt_size hTI
        · rw [q]; exact Heap.lt_size hTO
        · rw [q]; obtain ⟨_, e1, _⟩ := h1; exact Heap.lt_size e1
        · rw [q]; obtain ⟨_, e2, _⟩ := h2; exact Heap.lt_size e2
      rw [upd_ne (Nat.ne_of_lt hlt)]
      exact (hf c hcm).1
  done := by
    intro X hP hw hK hc i pins s σ H E I hf st hg
    subst hP hw hK
    obtain ⟨hz, hTI, ⟨x0, y0, hTO⟩, h1, h2⟩ := st
    obtain ⟨xs, ys, hqx, hqy, hend⟩ := hg
    obtain ⟨its, rv, p, _⟩ := I.list hqx
    obtain ⟨its2, rv2, p2, _⟩ := I.list hqy
    have l1 := rv.length
    have l2 := rv2.length
    have he : its.toArray[i]? = none ∨ its2.toArray[i]? = none := by
      rcases hend with q | q
      · exact .inl (by simp; omega)
      · exact .inr (by simp; omega)
    exact wpAny_pyNext_zip_end (I.ok.hd hc) D hz hTI hTO h1 h2 p.isList p2.isList he fun h' hk => ⟨rfl, I.turnedL (t' := s.toks) (ch := [z, TI, TO, i1, i2]) (fun c o hb q =>
      hk c o (fun q' => hb (by simp [q'])) (fun q' => hb (by simp [q'])) (fun q' => hb (by simp [q'])) (fun q' => hb (by simp [q'])) q) hf⟩
  self := fun A i s Q E st h => wpAny_pyIter_zip st.1 h
def iZip (K : PySem.W.Frag) (ta : TA) : TI := fun σ H R => ta σ H fun vs H1 => ∃ a b xs ys, vs = [.ref a, .ref b] ∧ SqL K H1 a xs ∧ SqL K H1 b ys ∧ R (Itz K a b) H1
theorem pi_zip {X : Cx} {e e2 : Expr} {ta : TA} {p pos tpos : Pos} {elts : List Expr} {kk : Nat} (hg : Gl X "zip") (hm : X.mg "zip" = none) (ha : PA X [e, e2] ta)
    (hs : starEach [e, e2] X.env = (false, eval e X.env) :: starEach [e2] X.env := by rfl) (hpl : (backTo pos (starEach [e2] X.env)).any (·.1) = false := by rfl) :
    PI X (.Tuple elts kk tpos) (.Call (.Name "zip" p) [e, e2] [] pos) (iZip X.K ta) := by
  intro pins s σ H R I h
  refine Call_ (ld_blt I hg hm boot_zip5 (PyProof.Rows.callWith_type1 (thn (ha pos pins s σ H _ I h) fun us s1 ⟨vs, H1, I1, r1, q1⟩ => ?_) hs hpl))
  obtain ⟨a, b, xs, ys, ex, hqx, hqy, q⟩ := q1
  subst ex
  cases r1 with
  | cons r rr =>
    cases rr with
    | cons r' rr =>
      cases rr
      cases r
      cases r'
      obtain ⟨its, rv, p1, _⟩ := I1.list hqx
      obtain ⟨its2, rv2, p2, _⟩ := I1.list hqy
      have la : a < s1.heap.objs.size := p1.lt
      have lb : b < s1.heap.objs.size := p2.lt
      refine call_zip_2 p1.isList p2.isList fun h' hz hTI hTO h1 h2 hsz hk => wpAny_pyIter_zip hz ?_
      have I2 : Inv X pins σ H1 { s1 with heap := h' } := I1.kept (t' := s1.toks) hk
      refine ⟨s1.heap.objs.size + 4, [s1.heap.objs.size + 4, s1.heap.objs.size + 2, s1.heap.objs.size + 3, s1.heap.objs.size, s1.heap.objs.size + 1], _, _, H1, rfl, I2, turn_zip (PySem.W.ktu_apart s1.heap.objs.size a b la lb), ⟨hz, hTI, ⟨_, _, hTO⟩, h1, h2⟩, fun c hcm => ?_, q⟩
      have e' : c = s1.heap.objs.size + 4 ∨ c = s1.heap.objs.size + 2 ∨ c = s1.heap.objs.size + 3 ∨ c = s1.heap.objs.size ∨ c = s1.heap.objs.size + 1 := by simpa using hcm
      have hle : s1.heap.objs.size ≤ c := by
        rcases e' with z | z | z | z | z
        · rw [z]; exact Nat.le_add_right _ _
        · rw [z]; exact Nat.le_add_right _ _
        · rw [z]; exact Nat.le_add_right _ _
        · rw [z]; exact Nat.le_refl _
        · rw [z]; exact Nat.le_add_right _ _
      exact I1.fpOk hle (I1.hok.fresh hle)
end L2
section 
namespace TL
open PySem PySem.Builtin PySem.Builtin.Str PySem.StrLaws
abbrev tl (x : Str) : List Nat := x.cps.toList
/-- S stands at the head of l -/
def pre (S l : List Nat) : Bool := l.take S.length == S
/-- what stands before the first S, and behind it -/
def par (S : List Nat) : List Nat → List Nat → Option (List Nat × List Nat)
  | _, [] => none
  | acc, c :: r => if pre S (c :: r) = true then some (acc, (c :: r).drop S.length) else par S (acc ++ [c]) r
end TL
end 
namespace Att
open PySem PySem.W PySem.Calls PyProof.Rows
theorem ints_of_wellAll {P : Params} {h : Heap} : ∀ (ns : List Int) (vs : List Value), WellAll P h vs (ns.map WData.int) → IntsAre vs ns := by
  intro ns
  induction ns with
  | nil =>
    intro vs w
    rw [List.map_nil] at w
    cases w
    exact .nil
  | cons n ns ih =>
    intro vs w
    rw [List.map_cons] at w
    cases w with
    | cons a b =>
      cases a
      exact .cons _ _ (ih _ b)
theorem script_of {l : OpenLaw} {n : Nat} (hn : l.most = some n) {P : Params} {h : Heap} {args : List WData} {vals : List Value}
    (hpre : l.row.toRowW.claim.pre args = true) (hwl : WellAll P h vals args) :
    ∃ a vs ns, vals = [Value.ref a] ∧ args = [WData.list (ns.map WData.int)] ∧ h.get? a = some { cls := .type "list", data := .seq vs.toArray } ∧ IntsAre vs ns ∧ ns.length ≤ n := by
  have hsh : WShape.hasAll [] args [.list .int] = true := (pre_splitW hpre).1
  have hc : l.pre.holds [] { args := args } = true := (pre_splitW hpre).2
  obtain ⟨d, r, rfl, h1, h2⟩ := hasAllW_cons hsh
  obtain rfl := hasAllW_nil h2
  obtain ⟨xs, rfl, h3⟩ := hasW_list h1
  obtain ⟨ns, rfl⟩ := items_int h3
  have hlen : ns.length ≤ n := by
    unfold OpenLaw.pre at hc
    have h4 : (WTm.not (.lt (.lit (.int (n : Int))) (.len (.arg 0)))).holds [] { args := [.list (ns.map .int)] } = true := by
      have h4 := (holds_andW hc).1
      rw [hn] at h4
      exact h4
    have h5 := condW_of h4 (w_not (w_lt w_lit (w_len_list (w_arg rfl))))
    rw [List.length_map] at h5
    refine Nat.le_of_not_lt fun q => ?_
    have q' : (n : Int) < ((ns.length : Nat) : Int) := by omega
    first
      | (rw [decide_eq_true q'] at h5; exact absurd h5 (by decide))
      | (simp at h5; omega)
  cases hwl with
  | cons w1 w2 =>
    cases w2
    cases w1 with
    | list ho hall => exact ⟨_, _, ns, rfl, rfl, ho, ints_of_wellAll ns _ hall, hlen⟩
theorem post_true (l : OpenLaw) (args : List WData) : l.row.toRowW.claim.post args (.bool true) args = true :=
  postW_of (r := l.row.toRowW) (X := (true == true))
    (show WShape.has [] (.bool true) .bool = true by first | rfl | decide | simp [WShape.has, WShape.arms, WShape.armsAll])
    (show (WTm.eq .res (.lit (.bool true))).value [] { args := args, res := some (.bool true), after := args } = some (.bool (true == true)) from w_eq_bool (w_res rfl) w_lit) rfl
end Att
namespace L2
open PySem PySem.Spec PyProof.Rows
theorem vals_ints : ∀ {vs : List Value} {ns : List Int}, IntsAre vs ns → Vals (ns.map V.int) vs
  | _, _, .nil => .nil
  | _, _, .cons n t h => .cons ⟨t, rfl⟩ (vals_ints h)
end L2
namespace L2
open PySem PySem.Spec PyProof.Rows
abbrev KOf {K : PySem.W.Frag} {h : Heap} (_ : K.In h) : PySem.W.Frag := K
end L2
namespace L2
open PySem PySem.Spec PyProof.Rows
def defArgs (s : Stmt) : Arguments := match s with
  | .FunctionDef _ a _ _ _ _ _ _ _ _ => a
  | _ => { posonlyargs := [], args := [], vararg := none, kwonlyargs := [], kw_defaults := [], kwarg := none, defaults := [] }
def defBody (s : Stmt) : List Stmt := match s with
  | .FunctionDef _ _ b _ _ _ _ _ _ _ => b
  | _ => []
def defScope (s : Stmt) : Scope := match s with
  | .FunctionDef _ _ _ _ _ _ sc _ _ _ => sc
  | _ => { kind := .function, names := [], isGenerator := false, isCoroutine := false }
abbrev CX0 : CXT := fun _ _ _ _ _ _ => False
abbrev E0 : XK := fun _ _ _ => False
theorem pass0 {X : Cx} : Passes CX0 X E0 := fun _ _ _ _ _ _ _ h => h.elim
structure Fun (K : PySem.W.Frag) (x qual : Str) (st : Stmt) (f : Addr) (fd : FuncData) : Prop where
  ex : ∃ (oc : Value) (od : Option Addr) (kV doc pm : Value) (an : Option Addr) (cdv ct : Value) (osl : Array (Option Value)),
    fd = PySem.W.fnOf x qual (defArgs st) (defBody st) (defScope st) .none kV doc pm an cdv ct ∧ K.lookup f = some ⟨oc, od, .func fd, osl⟩ ∧ PySem.W.codeIn K cdv qual = true
  kp : PySem.W.keepIn K (.ref f) = true
section
variable {P : Program} {w : World} {K : PySem.W.Frag} {mg : Str → Option Value} {base : Heap}
/-- THE RULE for a def: its body as a term of rules, and the reading of that term -/
theorem Fun.ok {x qual : Str} {st : Stmt} {f : Addr} {fd : FuncData} {N ps : List Str} {k : Nat} {sp : Sp} (F : Fun K x qual st f fd) (S : FnScope N ps (defScope st)) (len : ∀ vs H Q E, sp vs H Q E → vs.length = ps.length)
    (hbody : ∀ (cdv : Value) (A : Around) (outer : List Env) (s : Shared) (H : Hp) (vs : List V) (Q : VK) (E : XK), Room k (A.deeper (envOfC qual (defScope st) s.heap.objs.size f cdv)) → sp vs H Q E →
      ∃ t, PSs (cxOf CX0 P w K mg base N qual (defScope st) f cdv A outer s H E).nox (defBody st) t ∧ t { nx := fun _ H' => Q .non H', rt := Q } (start N vs) H) : FnOk P w K mg base CX0 (k + 1) f fd ps sp := by
  obtain ⟨oc, od, kV, doc, pm, an, cdv, ct, osl, rfl, lk, hcd⟩ := F.ex
  refine fn_of lk hcd S len fun A outer s H vs Q E hr hsp => ?_
  obtain ⟨t, h, q⟩ := hbody cdv A outer s H vs Q E hr hsp
  exact ⟨t, h.nox, q⟩
/-- how its arguments bind (no defaults): h is «fun _ _ _ _ _ _ us hl => match us, hl with | [_, _], _ => rfl», one _ a parameter -/
theorem Fun.binds {x qual : Str} {st : Stmt} {f : Addr} {fd : FuncData} {ps : List Str} (F : Fun K x qual st f fd)
    (h : ∀ (kV doc pm : Value) (an : Option Addr) (cdv ct : Value) (us : List Value), us.length = ps.length → bindArgs (PySem.W.fnOf x qual (defArgs st) (defBody st) (defScope st) .none kV doc pm an cdv ct) ⟨us, []⟩ = pure (ps.zip us)) : Binds K fd ps [] := by
  obtain ⟨oc, od, kV, doc, pm, an, cdv, ct, osl, rfl, lk, hcd⟩ := F.ex
  exact .all (h kV doc pm an cdv ct)
theorem fun_mk {x qual : Str} {st : Stmt} {f : Addr} {oc : Value} {od an : Option Addr} {osl : Array (Option Value)} {kV doc pm cdv ct : Value} (l : K.lookup f = some ⟨oc, od, .func (PySem.W.fnOf x qual (defArgs st) (defBody st) (defScope st) .none kV doc pm an cdv ct), osl⟩)
    (c : PySem.W.codeIn K cdv qual = true) (k : PySem.W.keepIn K (.ref f) = true) : Fun K x qual st f (PySem.W.fnOf x qual (defArgs st) (defBody st) (defScope st) .none kV doc pm an cdv ct) := ⟨⟨oc, od, kV, doc, pm, an, cdv, ct, osl, rfl, l, c⟩, k⟩
end
theorem hu_of {A : Around} {k : Nat} (hr : Room k A) : A.units + 1 < cLine := Nat.lt_of_le_of_lt (Nat.add_le_add_left (by decide : 1 ≤ 64) _) hr.units
section
variable {X : Cx}
theorem pv (i : Nat) {x : Str} {pos : Pos} (hN : X.N[i]? = some x := by rfl) (hv : Vis X.env.scope x := by first | exact Or.inl rfl | exact Or.inr (Or.inl rfl) | exact Or.inr (Or.inr rfl)) (hd : (x == ("__debug__" : Str)) = false := by decide)
    (hcd : (x == ("__classdict__" : Str)) = false := by decide) : PE X (.Name x pos) (tVar i) := pe_var hN hv hd hcd
end
theorem iteF {A B : Prop} (h : B) : if false = true then A else B := by
  rw [if_neg Bool.false_ne_true]
  exact h
theorem iteT {A B : Prop} (h : A) : if true = true then A else B := by
  rw [if_pos rfl]
  exact h
theorem ite2 {c A B : Prop} [Decidable c] (h1 : c → A) (h2 : ¬ c → B) : if c then A else B := by
  by_cases h : c
  · rw [if_pos h]
    exact h1 h
  · rw [if_neg h]
    exact h2 h
/-- all that was tracked is as it was -/
def Same (H H' : Hp) : Prop := ∀ b o, H b = some o → H' b = some o
theorem Same.refl (H : Hp) : Same H H := fun _ _ h => h
theorem Same.trans {H H1 H2 : Hp} (a : Same H H1) (b : Same H1 H2) : Same H H2 := fun c o h => b c o (a c o h)
theorem Same.free {H H' : Hp} (e : Same H H') {l : Addr} (h : H' l = Option.none) : H l = Option.none := by
  cases q : H l with
  | none => rfl
  | some o =>
    rw [e l o q] at h
    cases h
theorem Same.seq {K : PySem.W.Frag} {H H' : Hp} {a : Addr} {xs : List V} (e : Same H H') (h : SqL K H a xs) : SqL K H' a xs := by
  rcases h with (h | ⟨o, h⟩) | h
  · exact .inl (.inl (e _ _ h))
  · exact .inl (.inr ⟨o, e _ _ h⟩)
  · exact .inr h
section
variable {κ : Type} [DecidableEq κ]
theorem nd_snoc : ∀ {l : List κ} {k : κ}, l.Nodup → ¬ k ∈ l → (l ++ [k]).Nodup
  | [], k, _, _ => by simp
  | a :: r, k, h, hk => by
    obtain ⟨h1, h2⟩ := List.nodup_cons.mp h
    show (a :: (r ++ [k])).Nodup
    refine List.nodup_cons.mpr ⟨fun m => ?_, nd_snoc h2 fun m => hk (List.mem_cons.mpr (Or.inr m))⟩
    rcases List.mem_append.mp m with q | q
    · exact h1 q
    · exact hk (List.mem_cons.mpr (Or.inl (List.mem_singleton.mp q).symm))
end
theorem at_of {xs : List V} {z : Int} {j : Nat} {v : V} (e : z = (j : Int)) (h : xs[j]? = some v) : atI xs z = some v := by
  rw [e]
  exact atI_nat h
theorem nd_ix {α : Type} {l : List α} (hN : l.Nodup) {i j : Nat} {x : α} (a : l[i]? = some x) (b : l[j]? = some x) : i = j := by
  obtain ⟨h1, e1⟩ := List.getElem?_eq_some_iff.mp a
  obtain ⟨h2, e2⟩ := List.getElem?_eq_some_iff.mp b
  exact (List.getElem_inj hN).mp (e1.trans e2.symm)
/-- a new instance and its __init__ leave all that was tracked as it was -/
theorem Same.made {H H1 : Hp} {x dx C : Addr} (nx : H x = Option.none) (nd : H dx = Option.none) (k : ∀ b o, (upd (upd H dx (.own x)) x (.ins C dx [])) b = some o → b ≠ x → H1 b = some o) : Same H H1 := fun b o e =>
  k b o (by rw [upd_ne (ne_of_none e nx), upd_ne (ne_of_none e nd)]; exact e) (ne_of_none e nx)
end L2
set_option Elab.async false
set_option linter.all false
set_option maxRecDepth 100000
namespace L2
open PySem PySem.Spec PyProof.Rows
/-- the kind of a value, by name -/
def KindV (K : PySem.W.Frag) (H : Hp) (x : V) (k : String) : Prop := match x with
  | .non => k = "NoneType"
  | .bl _ => k = "bool"
  | .int _ => k = "int"
  | .str _ => k = "str"
  | .ref a => (k = "list" ∧ ∃ xs, SqL K H a xs) ∨ (k = "tuple" ∧ ∃ xs, SqT K H a xs)
  | _ => False
def isa (k T : String) : Bool := k == T || (k == "bool" && T == "int")
def rIsa (K : PySem.W.Frag) : List V → Hp → VK → Prop := fun xs H Q => ∃ x T k, xs = [x, .ty T] ∧ KindV K H x k ∧ (T = "int" ∨ T = "bool" ∨ T = "list" ∨ T = "tuple") ∧ Q (.bl (isa k T)) H
section
variable {X : Cx}
theorem cr_isa : CallR X (.builtin "isinstance") (rIsa X.K) := by
  intro pins s σ H xs us Q I r h
  obtain ⟨x, T, k, rfl, hk, hT, q⟩ := h
  obtain ⟨u, w', rfl, rx, rt⟩ := vals2 r
  cases rt
  have yes : ∀ {b : Bool}, isa k T = b → EP X pins σ Q (.bool b) s := fun e => ⟨.bl _, H, I, rfl, by rw [← e]; exact q⟩
  have no : ∀ {b : Bool}, isa k T = b → EP X pins σ Q (.bool b) { s with toks := s.toks + 1 } := fun e => ⟨.bl _, H, I.tok _, rfl, by rw [← e]; exact q⟩
  cases x with
  | non =>
    cases rx
    have hk : k = "NoneType" := hk
    subst hk
    rcases hT with rfl | rfl | rfl | rfl
    · exact IsiPair.NoneType_int (no rfl)
    · exact IsiPair.NoneType_bool (no rfl)
    · exact IsiPair.NoneType_list (no rfl)
    · exact IsiPair.NoneType_tuple (no rfl)
  | bl b =>
    cases rx
    have hk : k = "bool" := hk
    subst hk
    rcases hT with rfl | rfl | rfl | rfl
    · exact IsiPair.bool_int (yes rfl)
    · exact IsiPair.bool_bool (yes rfl)
    · exact IsiPair.bool_list (no rfl)
    · exact IsiPair.bool_tuple (no rfl)
  | int i =>
    obtain ⟨t, rfl⟩ := rx
    have hk : k = "int" := hk
    subst hk
    rcases hT with rfl | rfl | rfl | rfl
    · exact IsiPair.int_int (yes rfl)
    · exact IsiPair.int_bool (no rfl)
    · exact IsiPair.int_list (no rfl)
    · exact IsiPair.int_tuple (no rfl)
  | str z =>
    obtain ⟨t, rfl⟩ := rx
    have hk : k = "str" := hk
    subst hk
    rcases hT with rfl | rfl | rfl | rfl
    · exact IsiPair.str_int (no rfl)
    · exact IsiPair.str_bool (no rfl)
    · exact IsiPair.str_list (no rfl)
    · exact IsiPair.str_tuple (no rfl)
  | ref a =>
    cases rx
    have hk : (k = "list" ∧ ∃ xs, SqL X.K H a xs) ∨ (k = "tuple" ∧ ∃ xs, SqT X.K H a xs) := hk
    rcases hk with ⟨rfl, ys, hs⟩ | ⟨rfl, ys, hs⟩
    · obtain ⟨its, _, ⟨o, n, ho, hc, _⟩, _⟩ := I.list hs
      rcases hT with rfl | rfl | rfl | rfl
      · exact IsiPair.list_int ho hc (no rfl)
      · exact IsiPair.list_bool ho hc (no rfl)
      · exact IsiPair.list_list ho hc (yes rfl)
      · exact IsiPair.list_tuple ho hc (no rfl)
    · obtain ⟨its, _, ⟨o, ho, hc, _⟩, _⟩ := I.tuple hs
      rcases hT with rfl | rfl | rfl | rfl
      · exact IsiPair.tuple_int ho hc (no rfl)
      · exact IsiPair.tuple_bool ho hc (no rfl)
      · exact IsiPair.tuple_list ho hc (no rfl)
      · exact IsiPair.tuple_tuple ho hc (yes rfl)
  | byt _ => exact hk.elim
  | flt _ => exact hk.elim
  | ty _ => exact hk.elim
theorem op_mulB : OpR X (binaryOp .Mult) (rI IntMulOk fun i j => .int (i * j)) := opI fun _ _ _ _ _ _ _ hc q => mul_int q hc
theorem call_rng : CallR X (.type "range") (fun xs H Q => ∃ lo hi, (xs = [.int hi] ∧ lo = 0 ∨ xs = [.int lo, .int hi]) ∧ ∀ p, H p = none → Q (.ref p) (upd H p (.rng lo hi))) := by
  intro pins s σ H xs us Q I r h
  obtain ⟨lo, hi, e, q⟩ := h
  have hf : H s.heap.objs.size = none := I.hok.fresh (Nat.le_refl _)
  rcases e with ⟨rfl, rfl⟩ | rfl
  · obtain ⟨u, rfl, t, rfl⟩ := vals1 r
    refine call_range_1 ⟨.ref s.heap.objs.size, _, I.laid (o := .rng 0 hi) (fun b u e => Heap.get?_push_of_some _ e) (Nat.le_refl _) ?_, rfl, q _ hf⟩
    exact ⟨_, _, _, Heap.get?_push_size _ rfl⟩
  · obtain ⟨u, w', rfl, ⟨t, rfl⟩, ⟨t', rfl⟩⟩ := vals2 r
    refine call_range_2 ⟨.ref s.heap.objs.size, _, I.laid (o := .rng lo hi) (fun b u e => Heap.get?_push_of_some _ e) (Nat.le_refl _) ?_, rfl, q _ hf⟩
    exact ⟨_, _, _, Heap.get?_push_size _ rfl⟩
theorem contains_rng {r : Addr} {a b i : Int} {t u v tk : Tok} : Meets (Builtin.«range.__contains__» ⟨[.ref r, .int i tk], []⟩)
    (fun A R s => s.heap.get? r = some { cls := .type "range", data := .fields #[.int a t, .int b u, .int 1 v] } ∧ R (.ok (.ret (.bool (decide (a ≤ i) && decide (i < b))))) s) := by
  intro prog w A R s h
  obtain ⟨hp, g, d, tk', os⟩ := s
  obtain ⟨ho, h⟩ := h
  have e : (Builtin.Range.rangePlace? a b 1 i).isSome = (decide (a ≤ i) && decide (i < b)) := by
    unfold Builtin.Range.rangePlace?
    simp only [show (1 : Int) > 0 by decide, if_true, Int.emod_one]
    cases h1 : (decide (a ≤ i) && decide (i < b)) <;> simp
  rw [← e] at h
  wp_walk using AutoSeq1.wpAny_loadPart' ho
  exact h
/-- an int in a range -/
theorem op_inR : OpR X (compareOp .In) (fun x y H Q => ∃ i p lo hi, x = .int i ∧ y = .ref p ∧ H p = some (.rng lo hi) ∧ Q (.bl (decide (lo ≤ i) && decide (i < hi))) H) := by
  intro pins s σ H x y v u Q I rx ry h
  obtain ⟨i, p, lo, hi, rfl, rfl, hp, q⟩ := h
  obtain ⟨t, rfl⟩ := rx
  cases ry
  obtain ⟨t1, t2, t3, ho⟩ := I.hok p _ hp
  exact PySem.SeqRoads2.in_meets ⟨_, ho, rfl⟩ F.slot_range_contains F.entry_range_contains (F.args_range_contains_2 _ _) contains_rng ⟨ho, _, rfl, .bl _, H, I, rfl, q⟩
/-- the ints from lo on, n of them -/
def rngV (lo : Int) (n : Nat) : List V := (List.range n).map fun k : Nat => V.int (lo + (k : Int))
theorem rngV_len (lo : Int) (n : Nat) : (rngV lo n).length = n := by unfold rngV; rw [List.length_map, List.length_range]
theorem vals_items : ∀ {vs : List Value} {a : Int}, (∀ (j : Nat) (v : Value), vs[j]? = some v → ∃ t, v = Value.int (a + j * 1) t) → Vals (rngV a vs.length) vs
  | [], a, _ => .nil
  | v :: vs, a, h => by
    have e : rngV a (v :: vs).length = V.int a :: rngV (a + 1) vs.length := by
      unfold rngV
      rw [List.length_cons, List.range_succ_eq_map, List.map_cons, List.map_map]
      congr 1
      · simp
      · refine List.map_congr_left fun k _ => ?_
        show V.int (a + ((k + 1 : Nat) : Int)) = V.int (a + 1 + (k : Int))
        congr 1; push_cast; omega
    rw [e]
    obtain ⟨t, rfl⟩ := h 0 v rfl
    refine .cons ⟨t, by simp⟩ (vals_items fun j v e => ?_)
    obtain ⟨t, rfl⟩ := h (j + 1) v (by simpa using e)
    exact ⟨t, by congr 1; push_cast; omega⟩
theorem call_list_rng (hc : X.calm = true) : CallR X (.type "list") (fun xs H Q => ∃ p lo hi, xs = [.ref p] ∧ H p = some (.rng lo hi) ∧ -(2 ^ 20) ≤ lo ∧ lo ≤ 2 ^ 20 ∧ -(2 ^ 20) ≤ hi ∧ hi ≤ 2 ^ 20 ∧
    ∀ l, H l = none → Q (.ref l) (upd H l (.lst (rngV lo (hi - lo).toNat)))) := by
  intro pins s σ H xs us Q I r h
  obtain ⟨p, lo, hi, rfl, hp, h1, h2, h3, h4, q⟩ := h
  obtain ⟨u, rfl, rx⟩ := vals1 r
  cases rx
  obtain ⟨t1, t2, t3, ho⟩ := I.hok p _ hp
  have hn : Builtin.Range.rangeSize lo hi 1 = ((hi - lo).toNat : Nat) := by
    rw [rangeSize_one]
    by_cases hlt : lo < hi
    · rw [if_pos hlt]; omega
    · rw [if_neg hlt]; omega
  refine call_list_range (I.ok.hd hc) ho (small_one (by omega) (by omega) (by omega) (by omega)) hn (by omega) fun h' tk acc' c' hk hS hacc => ?_
  refine ⟨.ref s.heap.objs.size, _, I.laid (o := .lst (rngV lo (hi - lo).toNat)) hk (Nat.le_refl _) ?_, rfl, q _ (I.hok.fresh (Nat.le_refl _))⟩
  have hl : acc'.toList.length = (hi - lo).toNat := by rw [Array.length_toList]; exact hacc.1
  refine ⟨by rw [rngV_len, sizeLine_eq]; omega, acc'.toList, c', ?_, hS⟩
  rw [← hl]
  exact vals_items fun j v e => hacc.2 j v (by simpa using e)
theorem Vals.rev : ∀ {xs : List V} {us : List Value}, Vals xs us → Vals xs.reverse us.reverse
  | _, _, .nil => .nil
  | _, _, .cons r t => by
    rw [List.reverse_cons, List.reverse_cons]
    exact Vals.append (Vals.rev t) (.cons r .nil)
def tRev (K : PySem.W.Frag) (te : TE) : TE := fun σ H Q => te σ H fun x H1 => ∃ a xs, x = .ref a ∧ SqL K H1 a xs ∧ ∀ p, H1 p = none → Q (.ref p) (upd H1 p (.lst xs.reverse))
theorem pe_rev {e : Expr} {te : TE} {p1 p2 p3 pos : Pos} {k : Nat} (he : PE X e te) : PE X (.Subscript e (.Slice none none (some (.UnaryOp .USub (.Constant (.int 1) k p1) p2)) p3) pos) (tRev X.K te) := by
  intro pins s σ H Q I h
  refine Subscript_ (thn (he pins s σ H _ I h) fun v s1 ⟨x, H1, I1, r1, a, xs, ex, hx, q⟩ => ?_)
  subst ex
  cases r1
  refine wpAny_Slice ?_
  rw [evalPart_none, evalPart_some]
  refine wpAny_pure (wpAny_pure ?_)
  have hs : PE X (.UnaryOp .USub (.Constant (.int 1) k p1) p2) (tUn (rU fun i => .int (-i)) (tC (.int 1))) := pe_un un_neg pe_int
  refine thn (hs pins s1 σ H1 (fun y H' => y = .int (-1) ∧ H' = H1) I1 ⟨1, rfl, rfl, rfl⟩) fun u s2 ⟨y, H2, I2, r2, ey, eH⟩ => ?_
  subst ey eH
  obtain ⟨tk, rfl⟩ := r2
  have I4 : Inv X pins σ H2 { s2 with heap := s2.heap.push { cls := .type "slice", data := .fields #[.none, .none, .int (-1) tk] } } := I2.kept (t' := s2.toks) fun b ob q => Heap.get?_push_of_some _ q
  obtain ⟨its, r, ht, hz⟩ := I4.list hx
  have hlen := r.length
  show wpAny (model X.prog X.w) X.A (subscriptTail e _ (.ref a) (.ref s2.heap.objs.size)) (EP X pins σ Q) X.xe _
  refine tail_any (ops := [.ref a, .ref s2.heap.objs.size]) ht.isList.typeIs slot_list_getitem.lookup ?_ (by with_unfolding_all rfl)
  refine wpAny_getItem_list_slice ht.isList (Heap.IsSliceOf.new ..) .none .none (.int (-1) tk) (by decide) ?_ (by rw [List.size_toArray]; omega)
  rw [PySem.W.krv_pick]
  refine ⟨.ref _, _, I4.laid (t' := s2.toks) (o := .lst xs.reverse) (fun b ob q => Heap.get?_push_of_some _ q) (Nat.le_refl _) ?_, rfl, q _ (I4.hok.fresh (Nat.le_refl _))⟩
  exact ⟨by rw [List.length_reverse]; exact hz, its.reverse, 0, r.rev, Heap.get?_push_size _ rfl⟩
def rCount (K : PySem.W.Frag) : V → List V → Hp → VK → Prop := fun x xs H Q => ∃ (a : Addr) (ys : List V) (y : V), x = V.ref a ∧ xs = [y] ∧ SqL K H a ys ∧ flatV y = true ∧ ys.all flatV = true ∧ Q (.int (ys.countP fun z => eqV z y : Nat)) H
theorem countP_eqU {x : V} : ∀ {xs : List V} {us : List Value}, Vals xs us → xs.all flatV = true → us.countP (eqU x) = xs.countP fun y => eqV y x
  | _, _, .nil, _ => rfl
  | y :: xs, u :: us, .cons r t, f => by
    rw [List.all_cons, Bool.and_eq_true] at f
    rw [List.countP_cons, List.countP_cons, countP_eqU t f.2, eqU_of r f.1]
theorem mt_count' : MtR X "list.count" (rCount X.K) := by
  intro pins s σ H x xs v us Q I rx rxs h
  obtain ⟨a, ys, y, rfl, rfl, hs, fy, fys, q⟩ := h
  cases rx
  obtain ⟨uy, rfl, ry⟩ := vals1 rxs
  obtain ⟨its, rv, ⟨⟨cls, dd, data, sl⟩, n, ho, hc, hdn, hd⟩, hlen⟩ := I.list hs
  simp only at hc hd
  subst hc hd
  refine call_meets PySem.F.slot_list_count ⟨_, ho, rfl⟩ PySem.F.entry_list_count (PySem.F.args_list_count_2 _ _)
      (SeqAt.list_countAt a its.toArray n dd sl uy (eqU y)) ⟨ho, fun u' hu' => mem_eqAt ry fy rv fys u' (by simpa using hu'), ?_⟩
  have e : its.toArray.toList.countP (eqU y) = ys.countP fun z => eqV z y := by rw [show its.toArray.toList = its by simp]; exact countP_eqU rv fys
  rw [e]
  exact ⟨.int _, H, I.tok _, ⟨_, rfl⟩, q⟩
end
end L2
set_option Elab.async false
set_option linter.all false
set_option maxRecDepth 100000
namespace L2.ST
open PySem PySem.SetTable
theorem go_spec (xs : Array Nat) (j : Nat) (hs : xs.toList.Pairwise (· < ·)) : ∀ (fuel lo hi : Nat), lo ≤ hi → hi ≤ xs.size → hi - lo ≤ fuel →
    (∀ i (h : i < xs.size), i < lo → xs[i] < j) → (∀ i (h : i < xs.size), hi ≤ i → j ≤ xs[i]) →
    below.go xs j fuel lo hi ≤ xs.size ∧ (∀ i (h : i < xs.size), i < below.go xs j fuel lo hi → xs[i] < j) ∧ (∀ i (h : i < xs.size), below.go xs j fuel lo hi ≤ i → j ≤ xs[i])
  | 0, lo, hi, h1, h2, h3, hl, hh => by
    have e : lo = hi := by omega
    subst e
    unfold below.go
    exact ⟨h2, hl, hh⟩
  | fuel + 1, lo, hi, h1, h2, h3, hl, hh => by
    unfold below.go
    by_cases c : lo < hi
    · rw [if_pos c]
      have hm1 : (lo + hi) / 2 < hi := by omega
      have hm2 : lo ≤ (lo + hi) / 2 := by omega
      have hm3 : (lo + hi) / 2 < xs.size := by omega
      have hg : xs.getD ((lo + hi) / 2) j = xs[(lo + hi) / 2] := by simp [Array.getD, hm3]
      have mono : ∀ a b (ha : a < xs.size) (hb : b < xs.size), a < b → xs[a] < xs[b] := fun a b ha hb hab => by
        have := List.pairwise_iff_getElem.mp hs a b (by simpa using ha) (by simpa using hb) hab
        simpa using this
      dsimp only
      rw [hg]
      by_cases d : xs[(lo + hi) / 2] < j
      · rw [if_pos d]
        refine go_spec xs j hs fuel _ hi (by omega) h2 (by omega) (fun i hi' hlt => ?_) hh
        by_cases e : i = (lo + hi) / 2
        · subst e; exact d
        · exact Nat.lt_trans (mono i _ hi' hm3 (by omega)) d
      · rw [if_neg d]
        refine go_spec xs j hs fuel lo _ (by omega) (by omega) (by omega) hl fun i hi' hle => ?_
        by_cases e : i = (lo + hi) / 2
        · subst e; omega
        · have := mono _ i hm3 hi' (by omega); omega
    · rw [if_neg c]
      have e : lo = hi := by omega
      subst e
      exact ⟨h2, hl, hh⟩
theorem below_spec {xs : Array Nat} (hs : xs.toList.Pairwise (· < ·)) (j : Nat) :
    below xs j ≤ xs.size ∧ (∀ i (h : i < xs.size), i < below xs j → xs[i] < j) ∧ (∀ i (h : i < xs.size), below xs j ≤ i → j ≤ xs[i]) :=
  go_spec xs j hs xs.size 0 xs.size (Nat.zero_le _) (Nat.le_refl _) (by omega) (fun i _ h => absurd h (Nat.not_lt_zero _)) fun i h h' => by omega
theorem below_mem {xs : Array Nat} (hs : xs.toList.Pairwise (· < ·)) {j : Nat} (hj : j ∈ xs) : xs[below xs j]? = some j := by
  obtain ⟨h1, h2, h3⟩ := below_spec hs j
  obtain ⟨i, hi, e⟩ := Array.mem_iff_getElem.mp hj
  have a : ¬ i < below xs j := fun c => by have := h2 i hi c; omega
  by_cases c : below xs j = i
  · rw [c, Array.getElem?_eq_getElem hi, e]
  · have hb : below xs j < xs.size := by omega
    have hm := List.pairwise_iff_getElem.mp hs (below xs j) i (by simpa using hb) (by simpa using hi) (by omega)
    have hm : xs[below xs j] < xs[i] := by simpa using hm
    have := h3 _ hb (Nat.le_refl _)
    omega
theorem below_not {xs : Array Nat} {j : Nat} (hj : j ∉ xs) : ¬ xs[below xs j]? = some j := fun e => hj (Array.mem_of_getElem? e)
/-- an item is put where it belongs -/
theorem insert_list {α : Type} (xs : Array α) (p : Nat) (x : α) : (insertAt xs p x).toList = xs.toList.take p ++ x :: xs.toList.drop p := by
  unfold insertAt
  simp
  exact List.take_of_length_le (by simp)
theorem insert_rising {xs : Array Nat} (hs : xs.toList.Pairwise (· < ·)) {j : Nat} (hj : j ∉ xs) : (insertAt xs (below xs j) j).toList.Pairwise (· < ·) := by
  obtain ⟨h1, h2, h3⟩ := below_spec hs j
  rw [insert_list]
  refine List.pairwise_append.mpr ⟨hs.take, List.pairwise_cons.mpr ⟨fun b hb => ?_, hs.drop⟩, fun a ha b hb => ?_⟩
  · obtain ⟨i, hi, e⟩ := List.mem_iff_getElem.mp hb
    rw [List.getElem_drop] at e
    rw [List.length_drop] at hi
    have hi' : below xs j + i < xs.size := by simp at hi; omega
    have q := h3 (below xs j + i) hi' (Nat.le_add_right _ _)
    have e' : xs[below xs j + i] = b := by simpa using e
    have hne : b ≠ j := fun z => hj (by rw [← z, ← e']; exact Array.getElem_mem hi')
    omega
  · have ha' : a < j := by
      obtain ⟨i, hi, e⟩ := List.mem_iff_getElem.mp ha
      rw [List.getElem_take] at e
      rw [List.length_take] at hi
      have hi' : i < xs.size := by simp at hi; omega
      have q := h2 i hi' (by omega)
      have e' : xs[i] = a := by simpa using e
      omega
    rcases List.mem_cons.mp hb with rfl | hb
    · exact ha'
    · obtain ⟨i, hi, e⟩ := List.mem_iff_getElem.mp hb
      rw [List.getElem_drop] at e
      rw [List.length_drop] at hi
      have hi' : below xs j + i < xs.size := by simp at hi; omega
      have q := h3 (below xs j + i) hi' (Nat.le_add_right _ _)
      have e' : xs[below xs j + i] = b := by simpa using e
      omega
theorem has_nil (j : Nat) : has #[] j = false := by
  unfold has
  simp
theorem slot_mem {t : SetTable} (hs : t.place.toList.Pairwise (· < ·)) {j : Nat} (hj : j ∈ t.place) : t.slot j = .live (below t.place j) := by
  unfold SetTable.slot
  simp [below_mem hs hj]
theorem slot_not {t : SetTable} (hd : t.dummies = #[]) {j : Nat} (hj : j ∉ t.place) : t.slot j = .empty := by
  unfold SetTable.slot
  simp [below_not hj, hd, has_nil]
end L2.ST
set_option Elab.async false
set_option linter.all false
set_option maxRecDepth 100000
namespace L2.ST
open PySem PySem.SetTable
def adv (m : Nat) (p : Probe) : Probe :=
  if p.more > 0 then { p with j := p.j + 1, more := p.more - 1 } else
  { p with j := (leap m p.i p.perturb).1, more := runEnd m (leap m p.i p.perturb).1 - (leap m p.i p.perturb).1, i := (leap m p.i p.perturb).1, perturb := (leap m p.i p.perturb).2 }
def st0 (m : Nat) (h : Int) : Probe := { j := bits h % (m + 1), more := runEnd m (bits h % (m + 1)) - bits h % (m + 1), i := bits h % (m + 1), perturb := bits h, dummy := none }
def sq (m : Nat) (h : Int) : Nat → Probe
  | 0 => st0 m h
  | n + 1 => adv m (sq m h n)
theorem adv_dummy (m : Nat) (p : Probe) : (adv m p).dummy = p.dummy := by unfold adv; split <;> rfl
theorem sq_dummy (m : Nat) (h : Int) : ∀ n, (sq m h n).dummy = none
  | 0 => rfl
  | n + 1 => (adv_dummy m _).trans (sq_dummy m h n)
/-- the head of the r-th run -/
def hd (m : Nat) (h : Int) : Nat → Nat × Nat
  | 0 => (bits h % (m + 1), bits h)
  | r + 1 => leap m (hd m h r).1 (hd m h r).2
def runAt (m : Nat) (i q : Nat) : Probe := { j := i, more := runEnd m i - i, i, perturb := q, dummy := none }
theorem runEnd_le (m i : Nat) : runEnd m i - i ≤ 9 := by unfold runEnd; split <;> omega
theorem runEnd_ge (m i : Nat) : i ≤ runEnd m i := by unfold runEnd; split <;> omega
theorem runEnd_lt (m i : Nat) (h : i ≤ m) : runEnd m i ≤ m := by unfold runEnd; split <;> omega
/-- within a run -/
theorem run_in (m : Nat) (h : Int) {n i q : Nat} (e : sq m h n = runAt m i q) : ∀ k, k ≤ runEnd m i - i → sq m h (n + k) = { j := i + k, more := runEnd m i - i - k, i, perturb := q, dummy := none }
  | 0, _ => by rw [Nat.add_zero, e]; rfl
  | k + 1, hk => by
    have ih := run_in m h e k (by omega)
    show adv m (sq m h (n + k)) = _
    rw [ih]
    unfold adv
    rw [if_pos (by show runEnd m i - i - k > 0; omega)]
    show Probe.mk _ _ _ _ _ = _
    congr 1
theorem run_next (m : Nat) (h : Int) {n i q : Nat} (e : sq m h n = runAt m i q) : sq m h (n + (runEnd m i - i) + 1) = runAt m (leap m i q).1 (leap m i q).2 := by
  have ih := run_in m h e (runEnd m i - i) (Nat.le_refl _)
  show adv m (sq m h (n + (runEnd m i - i))) = _
  rw [ih]
  unfold adv
  rw [if_neg (by show ¬ (runEnd m i - i - (runEnd m i - i) > 0); omega)]
  rfl
/-- the step at which the r-th run begins -/
def bg (m : Nat) (h : Int) : Nat → Nat
  | 0 => 0
  | r + 1 => bg m h r + (runEnd m (hd m h r).1 - (hd m h r).1) + 1
theorem bg_at (m : Nat) (h : Int) : ∀ r, sq m h (bg m h r) = runAt m (hd m h r).1 (hd m h r).2
  | 0 => rfl
  | r + 1 => run_next m h (bg_at m h r)
theorem bg_le (m : Nat) (h : Int) : ∀ r, bg m h r ≤ 10 * r
  | 0 => Nat.le_refl _
  | r + 1 => by have := bg_le m h r; have := runEnd_le m (hd m h r).1; show bg m h r + _ + 1 ≤ _; omega
theorem bits_lt (h : Int) : bits h < 2 ^ 64 := by
  unfold bits
  have := Int.emod_nonneg h (show (2 ^ 64 : Int) ≠ 0 by decide)
  have := Int.emod_lt_of_pos h (show (0 : Int) < 2 ^ 64 by decide)
  omega
theorem hd_two (m : Nat) (h : Int) : ∀ r, (hd m h r).2 = bits h / 32 ^ r
  | 0 => by show bits h = _; rw [Nat.pow_zero, Nat.div_one]
  | r + 1 => by
    show (hd m h r).2 / 32 = _
    rw [hd_two m h r, Nat.div_div_eq_div_mul, Nat.pow_succ]
theorem hd_zero (m : Nat) (h : Int) (r : Nat) : (hd m h (13 + r)).2 = 0 := by
  rw [hd_two]
  refine Nat.div_eq_of_lt (Nat.lt_of_lt_of_le (bits_lt h) ?_)
  calc 2 ^ 64 ≤ 32 ^ 13 := by decide
    _ ≤ 32 ^ (13 + r) := Nat.pow_le_pow_right (by decide) (Nat.le_add_right _ _)
def lcg (m x : Nat) : Nat := (x * 5 + 1) % (m + 1)
def lcgs (m : Nat) : Nat → Nat → Nat
  | 0, x => x
  | n + 1, x => lcg m (lcgs m n x)
theorem lcgs_add (m : Nat) (a : Nat) : ∀ (b x : Nat), lcgs m (a + b) x = lcgs m b (lcgs m a x)
  | 0, x => rfl
  | b + 1, x => by show lcg m (lcgs m (a + b) x) = lcg m (lcgs m b (lcgs m a x)); rw [lcgs_add m a b x]
theorem hd_lcg (m : Nat) (h : Int) : ∀ r, (hd m h (13 + r)).1 = lcgs m r (hd m h 13).1
  | 0 => rfl
  | r + 1 => by
    show ((hd m h (13 + r)).1 * 5 + 1 + (hd m h (13 + r)).2 / 32) % (m + 1) = lcg m (lcgs m r (hd m h 13).1)
    rw [hd_zero, ← hd_lcg m h r]
    rfl
theorem hd_le (m : Nat) (h : Int) : ∀ r, (hd m h r).1 ≤ m
  | 0 => Nat.le_of_lt_succ (Nat.mod_lt _ (Nat.succ_pos _))
  | r + 1 => Nat.le_of_lt_succ (Nat.mod_lt _ (Nat.succ_pos _))
def orbit (m : Nat) : Nat → Nat → Nat → Nat × Nat
  | 0, x, acc => (x, acc)
  | n + 1, x, acc => orbit m n ((x * 5 + 1) % (m + 1)) (acc ||| (1 <<< x))
def full (m : Nat) : Bool := orbit m (m + 1) 0 0 == (0, 2 ^ (m + 1) - 1)
theorem orbit_fst (m : Nat) : ∀ (n x acc : Nat), (orbit m n x acc).1 = lcgs m n x
  | 0, x, acc => rfl
  | n + 1, x, acc => by
    show (orbit m n (lcg m x) _).1 = _
    rw [orbit_fst m n, Nat.add_comm n 1, lcgs_add]
    rfl
theorem orbit_snd (m : Nat) : ∀ (n x acc j : Nat), (orbit m n x acc).2.testBit j = true → acc.testBit j = true ∨ ∃ k, k < n ∧ lcgs m k x = j
  | 0, x, acc, j, h => .inl h
  | n + 1, x, acc, j, h => by
    rcases orbit_snd m n _ _ j h with q | ⟨k, hk, e⟩
    · rw [Nat.testBit_or, Bool.or_eq_true] at q
      rcases q with q | q
      · exact .inl q
      · refine .inr ⟨0, Nat.succ_pos _, ?_⟩
        rw [Nat.shiftLeft_eq, Nat.one_mul, Nat.testBit_two_pow] at q
        exact of_decide_eq_true q
    · refine .inr ⟨k + 1, Nat.succ_lt_succ hk, ?_⟩
      rw [Nat.add_comm k 1, lcgs_add]
      exact e
theorem full_all {m : Nat} (h : full m = true) : lcgs m (m + 1) 0 = 0 ∧ ∀ j, j ≤ m → ∃ k, k ≤ m ∧ lcgs m k 0 = j := by
  have e : orbit m (m + 1) 0 0 = (0, 2 ^ (m + 1) - 1) := eq_of_beq h
  refine ⟨by rw [← orbit_fst m (m + 1) 0 0, e], fun j hj => ?_⟩
  have q : (orbit m (m + 1) 0 0).2.testBit j = true := by
    rw [e, Nat.testBit_two_pow_sub_one]
    exact decide_eq_true (Nat.lt_succ_of_le hj)
  rcases orbit_snd m _ _ _ j q with q | ⟨k, hk, e'⟩
  · rw [Nat.zero_testBit] at q; cases q
  · exact ⟨k, Nat.le_of_lt_succ hk, e'⟩
theorem cover {m : Nat} (h : full m = true) {x j : Nat} (hx : x ≤ m) (hj : j ≤ m) : ∃ k, k ≤ m ∧ lcgs m k x = j := by
  obtain ⟨h0, ha⟩ := full_all h
  obtain ⟨a, hA, ea⟩ := ha x hx
  obtain ⟨b, hB, eb⟩ := ha j hj
  by_cases c : a ≤ b
  · refine ⟨b - a, by omega, ?_⟩
    rw [← ea, ← lcgs_add, show a + (b - a) = b by omega]
    exact eb
  · refine ⟨m + 1 + b - a, by omega, ?_⟩
    rw [← ea, ← lcgs_add, show a + (m + 1 + b - a) = m + 1 + b by omega, lcgs_add, h0]
    exact eb
def good (m : Nat) : Prop := m = 7 ∨ m = 31 ∨ m = 127 ∨ m = 511 ∨ m = 2047
theorem good_full {m : Nat} (h : good m) : full m = true := by
  rcases h with rfl | rfl | rfl | rfl | rfl <;> decide +kernel
/-- each place is the head of a run, soon enough -/
theorem come_to {m : Nat} (g : good m) (h : Int) {j : Nat} (hj : j ≤ m) : ∃ r, r ≤ 13 + m ∧ (hd m h r).1 = j := by
  obtain ⟨k, hk, e⟩ := cover (good_full g) (hd_le m h 13) hj
  exact ⟨13 + k, by omega, by rw [hd_lcg]; exact e⟩
theorem come {m : Nat} (g : good m) (h : Int) {j : Nat} (hj : j ≤ m) : ∃ n, n < 10 * turns m ∧ (sq m h n).j = j := by
  obtain ⟨r, hr, e⟩ := come_to g h hj
  refine ⟨bg m h r, ?_, by rw [bg_at]; exact e⟩
  have := bg_le m h r
  unfold turns
  omega
theorem sq_le {m : Nat} (h : Int) : ∀ n, (sq m h n).j + (sq m h n).more ≤ m ∧ (sq m h n).i ≤ m
  | 0 => by
    have a : bits h % (m + 1) ≤ m := Nat.le_of_lt_succ (Nat.mod_lt _ (Nat.succ_pos _))
    have b := runEnd_lt m _ a
    have c := runEnd_ge m (bits h % (m + 1))
    show bits h % (m + 1) + (runEnd m (bits h % (m + 1)) - bits h % (m + 1)) ≤ m ∧ bits h % (m + 1) ≤ m
    omega
  | n + 1 => by
    obtain ⟨h1, h2⟩ := sq_le h n
    show (adv m (sq m h n)).j + (adv m (sq m h n)).more ≤ m ∧ (adv m (sq m h n)).i ≤ m
    unfold adv
    by_cases c : (sq m h n).more > 0
    · rw [if_pos c]
      show (sq m h n).j + 1 + ((sq m h n).more - 1) ≤ m ∧ _
      exact ⟨by omega, h2⟩
    · rw [if_neg c]
      have a : (leap m (sq m h n).i (sq m h n).perturb).1 ≤ m := Nat.le_of_lt_succ (Nat.mod_lt _ (Nat.succ_pos _))
      have b := runEnd_lt m _ a
      have c := runEnd_ge m (leap m (sq m h n).i (sq m h n).perturb).1
      show (leap m (sq m h n).i (sq m h n).perturb).1 + (runEnd m (leap m (sq m h n).i (sq m h n).perturb).1 - (leap m (sq m h n).i (sq m h n).perturb).1) ≤ m ∧ (leap m (sq m h n).i (sq m h n).perturb).1 ≤ m
      omega
theorem sq_j {m : Nat} (h : Int) (n : Nat) : (sq m h n).j ≤ m := by have := (sq_le (m := m) h n).1; omega
end L2.ST
set_option Elab.async false
set_option linter.all false
set_option maxRecDepth 100000
namespace L2.ST
open PySem PySem.SetTable
structure TOk (t : SetTable) (hs : List Int) : Prop where
  ris : t.place.toList.Pairwise (· < ·)
  len : t.place.size = hs.length
  dum : t.dummies = #[]
  bnd : ∀ j ∈ t.place, j ≤ t.mask
  msk : good t.mask
  few : t.place.size ≤ t.mask
  reach : ∀ (i j : Nat) (h : Int), t.place[i]? = some j → hs[i]? = some h → ∃ n, (sq t.mask h n).j = j ∧ ∀ m, m < n → (sq t.mask h m).j ∈ t.place
theorem TOk.fits {t : SetTable} {hs : List Int} (k : TOk t hs) : t.fill ≤ t.mask := by
  unfold fill
  rw [k.dum]
  exact k.few
theorem good_odd {m : Nat} (g : good m) : (m % 2 == 0) = false := by
  rcases g with rfl | rfl | rfl | rfl | rfl <;> rfl
theorem fresh_ok (finger moves : Nat) (led : Bool) : TOk (fresh finger moves led) [] where
  ris := .nil
  len := rfl
  dum := rfl
  bnd := fun j hj => by cases (Array.not_mem_empty _ hj)
  msk := .inl rfl
  few := Nat.zero_le _
  reach := fun i j h e => by simp [SetTable.fresh] at e
theorem below_ge {xs : Array Nat} (hs : xs.toList.Pairwise (· < ·)) : ∀ j, (∀ i, i ≤ j → i ∈ xs) → j ≤ below xs j
  | 0, _ => Nat.zero_le _
  | j + 1, h => by
    have ih := below_ge hs j fun i hi => h i (by omega)
    have e := below_mem hs (h j (by omega))
    obtain ⟨hlt, e⟩ := Array.getElem?_eq_some_iff.mp e
    obtain ⟨h1, h2, h3⟩ := below_spec hs (j + 1)
    by_cases c : below xs j < below xs (j + 1)
    · omega
    · have := h3 (below xs j) hlt (by omega)
      omega
theorem empty_place {xs : Array Nat} (hs : xs.toList.Pairwise (· < ·)) {m : Nat} (hm : xs.size ≤ m) : ∃ j, j ≤ m ∧ j ∉ xs := by
  by_cases c : ∃ j, j ≤ m ∧ j ∉ xs
  · exact c
  · exfalso
    have all : ∀ i, i ≤ m → i ∈ xs := fun i hi => by
      by_cases d : i ∈ xs
      · exact d
      · exact absurd ⟨i, hi, d⟩ c
    have a := below_ge hs m all
    obtain ⟨hlt, _⟩ := Array.getElem?_eq_some_iff.mp (below_mem hs (all m (Nat.le_refl _)))
    omega
theorem least {P : Nat → Prop} (dec : ∀ n, P n ∨ ¬ P n) : ∀ n, P n → ∃ N, N ≤ n ∧ P N ∧ ∀ m, m < N → ¬ P m := by
  intro n
  induction n using Nat.strongRecOn with
  | _ n ih =>
    intro h
    by_cases c : ∃ m, m < n ∧ P m
    · obtain ⟨m, hm, pm⟩ := c
      obtain ⟨N, h1, h2, h3⟩ := ih m hm pm
      exact ⟨N, by omega, h2, h3⟩
    · exact ⟨n, Nat.le_refl _, h, fun m hm pm => c ⟨m, hm, pm⟩⟩
/-- the first empty place on the way of h -/
theorem TOk.first {t : SetTable} {hs : List Int} (k : TOk t hs) (h : Int) : ∃ N, N < 10 * turns t.mask ∧ (sq t.mask h N).j ∉ t.place ∧ ∀ m, m < N → (sq t.mask h m).j ∈ t.place := by
  obtain ⟨j, hj, hn⟩ := empty_place k.ris k.few
  obtain ⟨n, hn1, e⟩ := come k.msk h hj
  obtain ⟨N, h1, h2, h3⟩ := least (P := fun n => (sq t.mask h n).j ∉ t.place) (fun n => Classical.em _) n (by rw [e]; exact hn)
  exact ⟨N, by omega, h2, fun m hm => Classical.byContradiction fun c => h3 m hm c⟩
/-- the element met at the n-th step -/
def ixAt (t : SetTable) (h : Int) (n : Nat) : Nat := below t.place (sq t.mask h n).j
theorem go_live {t : SetTable} {f : Nat → Int} {h : Int} {fuel : Nat} {p : Probe} {i : Nat} (e : t.slot p.j = .live i) :
    probe.go t f h (fuel + 1) p = if f i == h then some (.candidate p.j i (t.advance p)) else probe.go t f h fuel (t.advance p) := by
  rw [probe.go]
  rw [e]
theorem go_empty {t : SetTable} {f : Nat → Int} {h : Int} {fuel : Nat} {p : Probe} (e : t.slot p.j = .empty) : probe.go t f h (fuel + 1) p = some (.empty p.j p.dummy) := by
  rw [probe.go]
  rw [e]
theorem TOk.look {t : SetTable} {hs : List Int} (k : TOk t hs) (h : Int) (f : Nat → Int) {N : Nat} (hN : (sq t.mask h N).j ∉ t.place) (hb : ∀ m, m < N → (sq t.mask h m).j ∈ t.place) :
    ∀ (d fuel n : Nat), N - n = d → n ≤ N → d < fuel →
      (∃ n1, n ≤ n1 ∧ n1 < N ∧ f (ixAt t h n1) = h ∧ (∀ m, n ≤ m → m < n1 → f (ixAt t h m) ≠ h) ∧ probe.go t f h fuel (sq t.mask h n) = some (.candidate (sq t.mask h n1).j (ixAt t h n1) (sq t.mask h (n1 + 1)))) ∨
      ((∀ m, n ≤ m → m < N → f (ixAt t h m) ≠ h) ∧ probe.go t f h fuel (sq t.mask h n) = some (.empty (sq t.mask h N).j none))
  | 0, 0, n, _, _, hf => absurd hf (Nat.lt_irrefl _)
  | 0, fuel + 1, n, hd, hn, hf => by
    have e : n = N := by omega
    subst e
    refine .inr ⟨fun m h1 h2 => by omega, ?_⟩
    rw [go_empty (slot_not k.dum hN), sq_dummy]
  | d + 1, 0, n, _, _, hf => absurd hf (Nat.not_lt_zero _)
  | d + 1, fuel + 1, n, hd, hn, hf => by
    have hlt : n < N := by omega
    have e := slot_mem k.ris (hb n hlt)
    have eg := go_live (f := f) (h := h) (fuel := fuel) e
    have ea : t.advance (sq t.mask h n) = sq t.mask h (n + 1) := rfl
    rw [ea] at eg
    by_cases c : f (below t.place (sq t.mask h n).j) = h
    · refine .inl ⟨n, Nat.le_refl _, hlt, c, fun m h1 h2 => by omega, ?_⟩
      rw [eg, if_pos (by rw [c]; exact beq_self_eq_true _)]
      rfl
    · have eg' : probe.go t f h (fuel + 1) (sq t.mask h n) = probe.go t f h fuel (sq t.mask h (n + 1)) := by rw [eg, if_neg (by simpa using c)]
      rcases TOk.look k h f hN hb d fuel (n + 1) (by omega) (by omega) (by omega) with ⟨n1, h1, h2, h3, h4, h5⟩ | ⟨h4, h5⟩
      · refine .inl ⟨n1, by omega, h2, h3, fun m m1 m2 => ?_, by rw [eg']; exact h5⟩
        by_cases z : m = n
        · subst z; exact c
        · exact h4 m (by omega) m2
      · refine .inr ⟨fun m m1 m2 => ?_, by rw [eg']; exact h5⟩
        by_cases z : m = n
        · subst z; exact c
        · exact h4 m (by omega) m2
theorem mem_insert {xs : Array Nat} {p j i : Nat} : i ∈ insertAt xs p j ↔ i = j ∨ i ∈ xs := by
  rw [← Array.mem_toList_iff, insert_list, List.mem_append, List.mem_cons]
  have e : i ∈ xs ↔ i ∈ xs.toList.take p ∨ i ∈ xs.toList.drop p := by
    rw [← List.mem_append, List.take_append_drop, Array.mem_toList_iff]
  rw [e]
  constructor
  · rintro (h | h | h)
    · exact .inr (.inl h)
    · exact .inl h
    · exact .inr (.inr h)
  · rintro (h | h | h)
    · exact .inr (.inl h)
    · exact .inl h
    · exact .inr (.inr h)
theorem two_insert {α β : Type} : ∀ {xs : List α} {ys : List β} {p : Nat} {x a : α} {y b : β} {i : Nat}, xs.length = ys.length →
    (xs.take p ++ x :: xs.drop p)[i]? = some a → (ys.take p ++ y :: ys.drop p)[i]? = some b → (a = x ∧ b = y) ∨ ∃ k : Nat, xs[k]? = some a ∧ ys[k]? = some b
  | xs, ys, 0, x, a, y, b, 0, _, h1, h2 => by
    simp at h1 h2
    exact .inl ⟨h1.symm, h2.symm⟩
  | xs, ys, 0, x, a, y, b, i + 1, _, h1, h2 => by
    simp at h1 h2
    exact .inr ⟨i, h1, h2⟩
  | [], [], p + 1, x, a, y, b, i, _, h1, h2 => by
    cases i with
    | zero => simp at h1 h2; exact .inl ⟨h1.symm, h2.symm⟩
    | succ i => simp at h1
  | u :: xs, w :: ys, p + 1, x, a, y, b, 0, _, h1, h2 => by
    simp at h1 h2
    exact .inr ⟨0, by simp [h1], by simp [h2]⟩
  | u :: xs, w :: ys, p + 1, x, a, y, b, i + 1, hl, h1, h2 => by
    rcases two_insert (p := p) (i := i) (x := x) (y := y) (Nat.succ.inj hl) (by simpa using h1) (by simpa using h2) with q | ⟨k, q1, q2⟩
    · exact .inl q
    · exact .inr ⟨k + 1, by simpa using q1, by simpa using q2⟩
theorem insert_size {α : Type} (xs : Array α) (p : Nat) (x : α) : (insertAt xs p x).size = xs.size + 1 := by
  rw [← Array.length_toList, insert_list, List.length_append, List.length_cons, List.length_take, List.length_drop, Array.length_toList]
  omega
theorem TOk.put {t : SetTable} {hs : List Int} (k : TOk t hs) {h : Int} {N : Nat} (hN : (sq t.mask h N).j ∉ t.place) (hb : ∀ m, m < N → (sq t.mask h m).j ∈ t.place) (hz : t.place.size + 1 ≤ t.mask) :
    TOk (t.put (sq t.mask h N).j).1 (hs.take (ixAt t h N) ++ h :: hs.drop (ixAt t h N)) where
  ris := insert_rising k.ris hN
  len := by
    show (insertAt t.place _ _).size = _
    rw [insert_size, k.len, List.length_append, List.length_cons, List.length_take, List.length_drop]
    omega
  dum := by
    show (if has t.dummies _ then _ else t.dummies) = #[]
    rw [k.dum, has_nil]
    rfl
  bnd := fun j hj => by
    rcases mem_insert.mp (show j ∈ insertAt t.place _ _ from hj) with rfl | q
    · exact sq_j h N
    · exact k.bnd j q
  msk := k.msk
  few := by
    show (insertAt t.place _ _).size ≤ t.mask
    rw [insert_size]
    exact hz
  reach := fun i j h' e1 e2 => by
    have e1 : (insertAt t.place (ixAt t h N) (sq t.mask h N).j)[i]? = some j := e1
    rw [← Array.getElem?_toList, insert_list] at e1
    have ml : ∀ z, z ∈ t.place → z ∈ insertAt t.place (ixAt t h N) (sq t.mask h N).j := fun z hz => mem_insert.mpr (.inr hz)
    rcases two_insert (by rw [Array.length_toList]; exact k.len) e1 e2 with ⟨rfl, rfl⟩ | ⟨q, q1, q2⟩
    · exact ⟨N, rfl, fun m hm => ml _ (hb m hm)⟩
    · obtain ⟨n, n1, n2⟩ := k.reach q j h' (by rw [← Array.getElem?_toList]; exact q1) q2
      exact ⟨n, n1, fun m hm => ml _ (n2 m hm)⟩
/-- an element that is there is met ahead of the first empty place -/
theorem TOk.met {t : SetTable} {hs : List Int} (k : TOk t hs) {h : Int} {N : Nat} (hN : (sq t.mask h N).j ∉ t.place) {i j : Nat} (e1 : t.place[i]? = some j) (e2 : hs[i]? = some h) :
    ∃ n, n < N ∧ ixAt t h n = i := by
  obtain ⟨n, n1, n2⟩ := k.reach i j h e1 e2
  have hj : j ∈ t.place := Array.mem_of_getElem? e1
  refine ⟨n, ?_, ?_⟩
  · rcases Nat.lt_trichotomy n N with c | c | c
    · exact c
    · subst c; rw [n1] at hN; exact absurd hj hN
    · exact absurd (n2 N c) hN
  · unfold ixAt
    rw [n1]
    have e3 := below_mem k.ris hj
    obtain ⟨l1, v1⟩ := Array.getElem?_eq_some_iff.mp e1
    obtain ⟨l3, v3⟩ := Array.getElem?_eq_some_iff.mp e3
    rcases Nat.lt_trichotomy (below t.place j) i with c | c | c
    · have := List.pairwise_iff_getElem.mp k.ris _ _ (by simpa using l3) (by simpa using l1) c
      simp at this; omega
    · exact c
    · have := List.pairwise_iff_getElem.mp k.ris _ _ (by simpa using l1) (by simpa using l3) c
      simp at this; omega
end L2.ST
set_option Elab.async false
set_option linter.all false
set_option maxRecDepth 100000
namespace L2.ST
open PySem PySem.SetTable
def occ (o : Array (Option Nat)) (j : Nat) : Prop := ∃ i, o[j]? = some (some i)
theorem getD_none {o : Array (Option Nat)} {j : Nat} (hj : j < o.size) : (o.getD j (some 0)).isNone = true ↔ ¬ occ o j := by
  have e : o.getD j (some 0) = o[j] := by simp [Array.getD, hj]
  rw [e]
  unfold occ
  rw [Array.getElem?_eq_getElem hj]
  cases o[j] with
  | none => simp
  | some i => simp
theorem free_spec {o : Array (Option Nat)} {m : Nat} {h : Int} (sz : o.size = m + 1) : ∀ (fuel r : Nat), (∀ q, q < bg m h r → occ o (sq m h q).j) → (∃ r', r ≤ r' ∧ r' - r < fuel ∧ ¬ occ o (hd m h r').1) →
    ∃ j, layClean.free m o fuel (hd m h r).1 (hd m h r).2 = some j ∧ ¬ occ o j ∧ j ≤ m ∧ ∃ n, (sq m h n).j = j ∧ ∀ q, q < n → occ o (sq m h q).j
  | 0, r, _, ⟨r', _, h2, _⟩ => absurd h2 (Nat.not_lt_zero _)
  | fuel + 1, r, hq, ⟨r', h1, h2, h3⟩ => by
    have hi := hd_le m h r
    have hre := runEnd_lt m _ hi
    have hrg := runEnd_ge m (hd m h r).1
    have at_ : ∀ k, k ≤ runEnd m (hd m h r).1 - (hd m h r).1 → (sq m h (bg m h r + k)).j = (hd m h r).1 + k := fun k hk => by rw [run_in m h (bg_at m h r) k hk]
    rw [layClean.free]
    cases ef : (List.range (runEnd m (hd m h r).1 + 1 - (hd m h r).1)).find? (fun k => (o.getD ((hd m h r).1 + k) (some 0)).isNone) with
    | some k =>
      obtain ⟨p1, as, bs, e1, p2⟩ := List.find?_eq_some_iff_append.mp ef
      have hk : k < runEnd m (hd m h r).1 + 1 - (hd m h r).1 := List.mem_range.mp (by rw [e1]; simp)
      have hkl : as.length = k := by
        have e2 : (List.range (runEnd m (hd m h r).1 + 1 - (hd m h r).1))[as.length]? = some k := by rw [e1]; simp
        rw [List.getElem?_range (by have := congrArg List.length e1; simp at this; omega)] at e2
        exact Option.some.inj e2
      refine ⟨(hd m h r).1 + k, rfl, (getD_none (by omega)).mp p1, by omega, bg m h r + k, at_ k (by omega), fun q hq' => ?_⟩
      by_cases c : q < bg m h r
      · exact hq q c
      · have ek : q = bg m h r + (q - bg m h r) := by omega
        rw [ek, at_ _ (by omega)]
        have hm : (q - bg m h r) ∈ as := by
          have e2 : (List.range (runEnd m (hd m h r).1 + 1 - (hd m h r).1))[q - bg m h r]? = some (q - bg m h r) := List.getElem?_range (by omega)
          rw [e1, List.getElem?_append_left (by omega)] at e2
          exact List.mem_of_getElem? e2
        have := p2 _ hm
        refine Classical.byContradiction fun z => ?_
        rw [(getD_none (by omega)).mpr z] at this
        simp at this
    | none =>
      have hn := List.find?_eq_none.mp ef
      have oc : ∀ k, k ≤ runEnd m (hd m h r).1 - (hd m h r).1 → occ o ((hd m h r).1 + k) := fun k hk => by
        refine Classical.byContradiction fun z => ?_
        exact hn k (List.mem_range.mpr (by omega)) ((getD_none (by omega)).mpr z)
      have hr : r ≠ r' := fun z => by subst z; exact h3 (oc 0 (Nat.zero_le _))
      refine free_spec sz fuel (r + 1) (fun q hq' => ?_) ⟨r', by omega, by omega, h3⟩
      by_cases c : q < bg m h r
      · exact hq q c
      · have hq' : q < bg m h r + (runEnd m (hd m h r).1 - (hd m h r).1) + 1 := hq'
        have ek : q = bg m h r + (q - bg m h r) := by omega
        rw [ek, at_ _ (by omega)]
        exact oc _ (by omega)
structure OOk (m : Nat) (o : Array (Option Nat)) (ds : List Int) : Prop where
  size : o.size = m + 1
  cnt : o.toList.countP (·.isSome) = ds.length
  all : ∀ i, i < ds.length → ∃ j : Nat, o[j]? = some (some i)
  own : ∀ j i : Nat, o[j]? = some (some i) → i < ds.length ∧ ∀ h, ds[i]? = some h → ∃ n, (sq m h n).j = j ∧ ∀ q, q < n → occ o (sq m h q).j
theorem OOk.start (m : Nat) : OOk m (Array.replicate (m + 1) none) [] where
  size := Array.size_replicate
  cnt := by rw [Array.toList_replicate, List.countP_replicate]; rfl
  all := fun i hi => absurd hi (Nat.not_lt_zero _)
  own := fun j i e => by
    rw [Array.getElem?_replicate] at e
    split at e <;> simp at e
theorem countP_set : ∀ (l : List (Option Nat)) (j k : Nat), l[j]? = some none → (l.set j (some k)).countP (·.isSome) = l.countP (·.isSome) + 1
  | [], j, k, h => by simp at h
  | a :: l, 0, k, h => by
    simp at h
    subst h
    simp
  | a :: l, j + 1, k, h => by
    have ih := countP_set l j k (by simpa using h)
    rw [List.set_cons_succ, List.countP_cons, List.countP_cons, ih]
    omega
theorem OOk.room {m : Nat} {o : Array (Option Nat)} {ds : List Int} (k : OOk m o ds) (h : ds.length ≤ m) : ∃ j, j ≤ m ∧ ¬ occ o j := by
  refine Classical.byContradiction fun z => ?_
  have a : o.toList.countP (·.isSome) = o.toList.length := by
    refine List.countP_eq_length.mpr fun x hx => ?_
    obtain ⟨i, hi, e⟩ := List.mem_iff_getElem.mp hx
    rw [Array.length_toList, k.size] at hi
    have : occ o i := Classical.byContradiction fun c => z ⟨i, by omega, c⟩
    obtain ⟨q, eq⟩ := this
    have eq' : o.toList[i]? = some (some q) := by rw [Array.getElem?_toList]; exact eq
    rw [List.getElem?_eq_getElem (by rw [Array.length_toList, k.size]; exact hi), e] at eq'
    rw [Option.some.inj eq']
    rfl
  have b : o.toList.length = m + 1 := Array.length_toList.trans k.size
  rw [k.cnt, b] at a
  omega
theorem OOk.put {m : Nat} (g : good m) {o : Array (Option Nat)} {ds : List Int} (k : OOk m o ds) (hl : ds.length ≤ m) (h : Int) :
    ∃ j, layClean.free m o (turns m) (bits h % (m + 1)) (bits h) = some j ∧ OOk m (o.setIfInBounds j (some ds.length)) (ds ++ [h]) := by
  obtain ⟨e, he, hn⟩ := k.room hl
  obtain ⟨r', hr, er⟩ := come_to g h he
  obtain ⟨j, e1, e2, e3, n, e4, e5⟩ := free_spec (h := h) k.size (turns m) 0 (fun q hq => absurd hq (Nat.not_lt_zero _)) ⟨r', Nat.zero_le _, by unfold turns; omega, by rw [er]; exact hn⟩
  have hj : j < o.size := by rw [k.size]; omega
  have oj : o[j]? = some none := by
    rw [Array.getElem?_eq_getElem hj]
    cases q : o[j] with
    | none => rfl
    | some i => exact absurd ⟨i, by rw [Array.getElem?_eq_getElem hj, q]⟩ e2
  have mono : ∀ z, occ o z → occ (o.setIfInBounds j (some ds.length)) z := fun z ⟨i, hi⟩ => by
    by_cases c : z = j
    · subst c; rw [oj] at hi; cases hi
    · exact ⟨i, by rw [Array.getElem?_setIfInBounds_ne (Ne.symm c)]; exact hi⟩
  refine ⟨j, e1, ?_, ?_, ?_, ?_⟩
  · rw [Array.size_setIfInBounds]; exact k.size
  · rw [Array.toList_setIfInBounds, countP_set _ _ _ (by rw [Array.getElem?_toList]; exact oj), k.cnt, List.length_append]
    rfl
  · intro i hi
    rw [List.length_append, List.length_singleton] at hi
    by_cases c : i < ds.length
    · obtain ⟨z, hz⟩ := k.all i c
      refine ⟨z, ?_⟩
      have c' : z ≠ j := fun y => by subst y; rw [oj] at hz; cases hz
      rw [Array.getElem?_setIfInBounds_ne (Ne.symm c')]
      exact hz
    · have : i = ds.length := by omega
      subst this
      exact ⟨j, by rw [Array.getElem?_setIfInBounds_self_of_lt hj]⟩
  · intro z i hz
    by_cases c : z = j
    · subst c
      rw [Array.getElem?_setIfInBounds_self_of_lt hj] at hz
      have ei : i = ds.length := (Option.some.inj (Option.some.inj hz)).symm
      subst ei
      refine ⟨by rw [List.length_append]; exact Nat.lt_succ_self _, fun h' e' => ?_⟩
      rw [List.getElem?_append_right (Nat.le_refl _), Nat.sub_self] at e'
      have : h' = h := (Option.some.inj e').symm
      subst this
      exact ⟨n, e4, fun q hq => mono _ (e5 q hq)⟩
    · rw [Array.getElem?_setIfInBounds_ne (Ne.symm c)] at hz
      obtain ⟨i1, i2⟩ := k.own z i hz
      refine ⟨by rw [List.length_append]; omega, fun h' e' => ?_⟩
      rw [List.getElem?_append_left i1] at e'
      obtain ⟨n', n1, n2⟩ := i2 h' e'
      exact ⟨n', n1, fun q hq => mono _ (n2 q hq)⟩
def lay1 (m : Nat) (acc : Option (Array (Option Nat) × Nat)) (h : Int) : Option (Array (Option Nat) × Nat) := do
    let (owner, k) ← acc
    let j ← layClean.free m owner (turns m) (bits h % (m + 1)) (bits h)
    pure (owner.setIfInBounds j (some k), k + 1)
theorem layAll {m : Nat} (g : good m) : ∀ (rest ds : List Int) (o : Array (Option Nat)), OOk m o ds → ds.length + rest.length ≤ m + 1 →
    ∃ o', rest.foldl (lay1 m) (some (o, ds.length)) = some (o', ds.length + rest.length) ∧ OOk m o' (ds ++ rest)
  | [], ds, o, k, _ => ⟨o, rfl, by rw [List.append_nil]; exact k⟩
  | h :: rest, ds, o, k, hl => by
    rw [List.length_cons] at hl
    obtain ⟨j, e1, k1⟩ := k.put g (by omega) h
    obtain ⟨o', e2, k2⟩ := layAll g rest (ds ++ [h]) _ k1 (by rw [List.length_append, List.length_singleton]; omega)
    refine ⟨o', ?_, by rw [List.append_assoc] at k2; exact k2⟩
    rw [List.foldl_cons]
    have e3 : lay1 m (some (o, ds.length)) h = some (o.setIfInBounds j (some ds.length), ds.length + 1) := by
      unfold lay1
      show (layClean.free m o (turns m) (bits h % (m + 1)) (bits h)).bind _ = _
      rw [e1]
      rfl
    rw [e3]
    rw [List.length_append, List.length_singleton] at e2
    rw [e2, List.length_cons]
    congr 2
    omega
theorem layClean_ok {m : Nat} (g : good m) (hs : Array Int) (hl : hs.size ≤ m + 1) : ∃ o, layClean m hs = some o ∧ OOk m o hs.toList := by
  obtain ⟨o, e, k⟩ := layAll g hs.toList [] _ (OOk.start m) (by rw [List.length_nil, Array.length_toList]; omega)
  refine ⟨o, ?_, k⟩
  unfold layClean
  have e' : hs.foldl (lay1 m) (some (Array.replicate (m + 1) none, 0)) = some (o, 0 + hs.toList.length) := by
    rw [← Array.foldl_toList]
    exact e
  have e2 : layClean m hs = (hs.foldl (lay1 m) (some (Array.replicate (m + 1) none, 0))).map (·.1) := rfl
  rw [show ((hs.foldl (lay1 m) (some (Array.replicate (m + 1) none, 0))).map (·.1)) = some o by rw [e']; rfl] at e2
  exact e2
/-- the places that are taken, with what stands there -/
def liveOf (m : Nat) (o : Array (Option Nat)) : List (Nat × Nat) := (List.range (m + 1)).filterMap fun j => (o.getD j none).map (j, ·)
theorem live_mem {m : Nat} {o : Array (Option Nat)} (sz : o.size = m + 1) {j i : Nat} : (j, i) ∈ liveOf m o ↔ o[j]? = some (some i) := by
  unfold liveOf
  rw [List.mem_filterMap]
  constructor
  · rintro ⟨a, ha, e⟩
    have hl : a < o.size := by rw [sz]; exact List.mem_range.mp ha
    have eg : o.getD a none = o[a] := by simp [Array.getD, hl]
    rw [eg] at e
    cases q : o[a] with
    | none => rw [q] at e; cases e
    | some b =>
      rw [q] at e
      have e : (a, b) = (j, i) := Option.some.inj e
      injection e with e1 e2
      subst e1 e2
      rw [Array.getElem?_eq_getElem hl, q]
  · intro e
    obtain ⟨hl, e'⟩ := Array.getElem?_eq_some_iff.mp e
    refine ⟨j, List.mem_range.mpr (by omega), ?_⟩
    have eg : o.getD j none = o[j] := by simp [Array.getD, hl]
    rw [eg, e']
    rfl
theorem live_ris (m : Nat) (o : Array (Option Nat)) : ((liveOf m o).map (·.1)).Pairwise (· < ·) := by
  unfold liveOf
  rw [List.pairwise_map]
  refine List.Pairwise.filterMap _ (R := (· < ·)) (fun a a' hlt b hb b' hb' => ?_) List.pairwise_lt_range
  cases q : o.getD a none with
  | none => rw [q] at hb; cases hb
  | some x =>
    cases q' : o.getD a' none with
    | none => rw [q'] at hb'; cases hb'
    | some y =>
      rw [q] at hb
      rw [q'] at hb'
      cases hb
      cases hb'
      exact hlt
theorem live_len {m : Nat} {o : Array (Option Nat)} (sz : o.size = m + 1) : (liveOf m o).length = o.toList.countP (·.isSome) := by
  unfold liveOf
  rw [List.length_filterMap_eq_countP]
  have e : o.toList = (List.range (m + 1)).map fun j => o.getD j none := by
    apply List.ext_getElem
    · rw [Array.length_toList, List.length_map, List.length_range, sz]
    · intro i h1 h2
      rw [Array.length_toList] at h1
      simp [Array.getD, h1]
  rw [e, List.countP_map]
  refine List.countP_congr fun j _ => ?_
  show ((o.getD j none).map (j, ·)).isSome = true ↔ (o.getD j none).isSome = true
  rw [Option.isSome_map]
end L2.ST
set_option Elab.async false
set_option linter.all false
set_option maxRecDepth 100000
namespace L2.ST
open PySem PySem.SetTable
theorem fm_total {α β : Type} (f : α → Option β) : ∀ (l : List α), (∀ p, p ∈ l → (f p).isSome = true) → (l.filterMap f).length = l.length ∧ ∀ i : Nat, (l.filterMap f)[i]? = l[i]?.bind f
  | [], _ => ⟨rfl, fun i => by simp⟩
  | a :: l, h => by
    obtain ⟨h1, h2⟩ := fm_total f l fun p hp => h p (List.mem_cons_of_mem _ hp)
    obtain ⟨b, eb⟩ := Option.isSome_iff_exists.mp (h a List.mem_cons_self)
    rw [List.filterMap_cons, eb]
    refine ⟨by simp [h1], fun i => ?_⟩
    cases i with
    | zero => simp [eb]
    | succ i => simpa using h2 i
section
variable {α : Type}
theorem relaid_ok {t : SetTable} {es : Array (Int × α)} {wanted : Nat} (g : good (sizeAbove wanted - 1)) (hl : es.size ≤ sizeAbove wanted - 1) :
    ∃ t' order, t.relaid (es.map (·.1)) wanted = some (t', order) ∧ (order.filterMap (es[·]?)).size = es.size ∧ TOk t' ((order.filterMap (es[·]?)).toList.map (·.1)) ∧
      (∀ e, e ∈ (order.filterMap (es[·]?)).toList ↔ e ∈ es.toList) ∧ t'.mask = sizeAbove wanted - 1 ∧ t'.led = t.led ∧ t'.plain = t.plain := by
  generalize em : sizeAbove wanted - 1 = m at g hl
  obtain ⟨o, e1, k⟩ := layClean_ok g (es.map (·.1)) (by rw [Array.size_map]; omega)
  have hds : (es.map (·.1)).toList = es.toList.map (·.1) := by simp
  have dl : (es.map (·.1)).toList.length = es.size := by simp
  refine ⟨{ mask := m, place := ((liveOf m o).map (·.1)).toArray, dummies := #[], finger := t.finger, led := t.led, moves := t.movedTo m, plain := t.plain }, ((liveOf m o).map (·.2)).toArray, ?_, ?_⟩
  · unfold relaid laid
    rw [em, e1]
    rfl
  have tot : ∀ p, p ∈ liveOf m o → (es[p.2]?).isSome = true := fun p hp => by
    obtain ⟨h1, _⟩ := k.own p.1 p.2 ((live_mem k.size).mp hp)
    rw [dl] at h1
    rw [Array.getElem?_eq_getElem h1]
    rfl
  have el : (((liveOf m o).map (·.2)).toArray.filterMap (es[·]?)).toList = (liveOf m o).filterMap fun p => es[p.2]? := by
    simp [List.filterMap_map, Function.comp_def]
  obtain ⟨f1, f2⟩ := fm_total (fun p : Nat × Nat => es[p.2]?) (liveOf m o) tot
  have ll : (liveOf m o).length = es.size := by rw [live_len k.size, k.cnt, dl]
  have hz : (((liveOf m o).map (·.2)).toArray.filterMap (es[·]?)).size = es.size := by rw [← Array.length_toList, el, f1, ll]
  refine ⟨hz, ?_, ?_, rfl, rfl, rfl⟩
  · refine ⟨live_ris m o, ?_, rfl, fun j hj => ?_, g, ?_, fun i j h p1 p2 => ?_⟩
    · show ((liveOf m o).map (·.1)).toArray.size = _
      rw [List.size_toArray, List.length_map, List.length_map, el, f1]
    · have hj : j ∈ ((liveOf m o).map (·.1)) := by simpa using hj
      obtain ⟨p, hp, rfl⟩ := List.mem_map.mp hj
      obtain ⟨h1, _⟩ := Array.getElem?_eq_some_iff.mp ((live_mem (j := p.1) (i := p.2) k.size).mp hp)
      rw [k.size] at h1
      exact Nat.le_of_lt_succ h1
    · show ((liveOf m o).map (·.1)).toArray.size ≤ m
      rw [List.size_toArray, List.length_map, ll]
      exact hl
    · have p1 : ((liveOf m o).map (·.1))[i]? = some j := by simpa using p1
      rw [List.getElem?_map] at p1
      rw [List.getElem?_map, el, f2] at p2
      cases q : (liveOf m o)[i]? with
      | none => rw [q] at p1; cases p1
      | some p =>
        rw [q] at p1 p2
        have e2 : p.1 = j := Option.some.inj p1
        have hp : o[p.1]? = some (some p.2) := (live_mem k.size).mp (List.mem_of_getElem? q)
        obtain ⟨_, h2⟩ := k.own p.1 p.2 hp
        have p2 : (es[p.2]?).map (·.1) = some h := p2
        obtain ⟨n, n1, n2⟩ := h2 h (by rw [hds, List.getElem?_map, Array.getElem?_toList]; exact p2)
        refine ⟨n, n1.trans e2, fun z hz => ?_⟩
        obtain ⟨x, hx⟩ := n2 z hz
        have hm := (live_mem k.size).mpr hx
        show (sq m h z).j ∈ ((liveOf m o).map (·.1)).toArray
        simp only [List.mem_toArray]
        exact List.mem_map.mpr ⟨_, hm, rfl⟩
  · intro e
    rw [el, List.mem_filterMap]
    constructor
    · rintro ⟨p, hp, e2⟩
      exact List.mem_of_getElem? (by rw [Array.getElem?_toList]; exact e2)
    · intro he
      obtain ⟨i, hi, e2⟩ := List.mem_iff_getElem.mp he
      rw [Array.length_toList] at hi
      obtain ⟨j, hj⟩ := k.all i (by rw [dl]; exact hi)
      refine ⟨(j, i), (live_mem k.size).mpr hj, ?_⟩
      show es[i]? = some e
      rw [Array.getElem?_eq_getElem hi]
      rw [Array.getElem_toList] at e2
      rw [e2]
end
end L2.ST
set_option Elab.async false
set_option linter.all false
set_option maxRecDepth 100000
namespace L2
open PySem PySem.Spec PyProof.Rows
section
variable {prog : Program} {w : World} {K : Type} [DecidableEq K] {knd : KeyKind prog w K} {A : Around} {E : Value → Shared → Prop} {s : Shared}
/-- what stands in a set of tuples: each with its hash -/
def ElT (knd : KeyKind prog w K) (h : Heap) (es : List (Int × Value)) : Prop := ∀ e ∈ es, ∃ b k, e.2 = .ref b ∧ IsTupleKey knd h k b ∧ e.1 = tupleKeyHash knd k
structure TSt (h : Heap) (a : Addr) (es : Array (Int × Value)) (ep : Nat) (t : SetTable) : Prop where
  at_ : ∃ o, h.get? a = some o ∧ o.ExactSet ∧ o.data = .set es ep t
  tok : ST.TOk t (es.toList.map (·.1))
theorem TSt.fits {h : Heap} {a : Addr} {es : Array (Int × Value)} {ep : Nat} {t : SetTable} (k : TSt h a es ep t) : t.fits es.size = true := by
  have e := k.tok.len
  rw [List.length_map, Array.length_toList] at e
  unfold SetTable.fits
  rw [e]
  simp [k.tok.fits]
/-- a tuple of things that go by their value: nothing of a search in a set can be seen -/
theorem byVal_class (n : Nat) {v : Value} (h : carriedByValue v = true) : ofAClassStatement n v = pure false := by
  cases v with
  | ref a => simp [carriedByValue] at h
  | _ => first | rfl | (unfold ofAClassStatement; rfl) | simp [ofAClassStatement]
theorem class_tuple {k : List K} {a : Addr} {Q : Bool → Shared → Prop} (hk : IsTupleKey knd s.heap k a) (h : Q false s) : wpAny (model prog w) A (ofAClassStatement 8 (.ref a)) Q E s := by
  have hT := hk.typeIs
  obtain ⟨o, items, n, ho, _, hd, hi⟩ := hk
  unfold ofAClassStatement
  refine wpAny_bind (wpAny_typeOf hT ?_)
  dsimp only
  rw [if_pos (by decide)]
  refine wpAny_bind (wpAny_pure ?_)
  simp only [Bool.not_true, Bool.false_eq_true, if_false]
  refine wpAny_bind (wpAny_seqItems ho hd ?_)
  refine wpAny_bind ?_
  show wpAny _ _ (forIn items _ _) _ _ s
  rw [← Array.forIn_toList]
  refine wpAny_forIn_list _ (fun rest r s' => r.1 = none ∧ s' = s ∧ ∀ v ∈ rest, carriedByValue v = true) _ ?_ ?_ _ _ ⟨rfl, rfl, hi.byValue⟩
  · rintro v rest r s' ⟨hr, rfl, hall⟩
    rw [byVal_class _ (hall v List.mem_cons_self)]
    refine wpAny_bind (wpAny_pure ?_)
    simp only [Bool.false_eq_true, if_false]
    exact wpAny_pure ⟨rfl, rfl, fun u hu' => hall u (List.mem_cons_of_mem _ hu')⟩
  · rintro ⟨r1, r2⟩ s' ⟨hr, rfl, _⟩
    simp only at hr
    subst hr
    exact wpAny_pure h
theorem unseen {k : List K} {a : Addr} {vs : List Value} {Q : Bool → Shared → Prop} (hk : IsTupleKey knd s.heap k a) (hv : ∀ v ∈ vs, ∃ b q, v = .ref b ∧ IsTupleKey knd s.heap q b) (h : Q false s) :
    wpAny (model prog w) A (searchCouldBeSeen (.ref a) vs) Q E s := by
  unfold searchCouldBeSeen
  refine wpAny_bind ?_
  refine wpAny_forIn_list _ (fun rest r s' => r.1 = none ∧ s' = s ∧ ∀ v ∈ rest, ∃ b q, v = .ref b ∧ IsTupleKey knd s.heap q b) _ ?_ ?_ _ _ ⟨rfl, rfl, hv⟩
  · rintro v rest r s' ⟨hr, rfl, hall⟩
    obtain ⟨b, q, rfl, hq⟩ := hall v List.mem_cons_self
    have tl : ∀ v ∈ rest, ∃ b q, v = .ref b ∧ IsTupleKey knd s'.heap q b := fun u hu' => hall u (List.mem_cons_of_mem _ hu')
    dsimp only
    split
    · exact wpAny_pure ⟨rfl, rfl, tl⟩
    · refine wpAny_bind (wpAny_eqIsQuiet_tuple hk ?_)
      simp only [Bool.not_true, Bool.false_eq_true, if_false]
      refine wpAny_bind (wpAny_eqIsQuiet_tuple hq ?_)
      simp only [Bool.not_true, Bool.false_eq_true, if_false]
      refine wpAny_bind (class_tuple hk ?_)
      simp only [Bool.false_eq_true, if_false]
      refine wpAny_bind (class_tuple hq ?_)
      simp only [Bool.false_eq_true, if_false]
      exact wpAny_pure ⟨rfl, rfl, tl⟩
  · rintro ⟨r1, r2⟩ s' ⟨hr, rfl, _⟩
    simp only at hr
    subst hr
    exact wpAny_pure h
theorem led_or {led : Bool} {m : Sem Bool} {c : Sem SetFound} {Q : SetFound → Shared → Prop} {x : String} (hm : wpAny (model prog w) A m (fun b s' => b = false ∧ s' = s) E s) (h : wpAny (model prog w) A c Q E s) :
    wpAny (model prog w) A (if (!led) = true then (m >>= fun b => if b = true then (unsupported x >>= fun (_ : PUnit) => c) else c) else c) Q E s := by
  cases led with
  | true => exact h
  | false =>
    refine wpAny_bind (wpAny_mono hm (fun b s' hb => ?_) fun _ _ e => e)
    obtain ⟨rfl, rfl⟩ := hb
    exact h
/-- the key k stands in es -/
def HasT (knd : KeyKind prog w K) (h : Heap) (es : List (Int × Value)) (k : List K) : Prop := ∃ e ∈ es, ∃ b, e.2 = .ref b ∧ IsTupleKey knd h k b
theorem search_spec {a b : Addr} {es : Array (Int × Value)} {ep : Nat} {t : SetTable} {k : List K} {adding : Bool} {Q : SetFound → Shared → Prop} (hu : A.units < cLine)
    (T : TSt s.heap a es ep t) (el : ElT knd s.heap es.toList) (hk : IsTupleKey knd s.heap k b)
    {N : Nat} (hN : (ST.sq t.mask (tupleKeyHash knd k) N).j ∉ t.place) (hb : ∀ m, m < N → (ST.sq t.mask (tupleKeyHash knd k) m).j ∈ t.place) (hNs : N < 10 * SetTable.turns t.mask)
    (yes : HasT knd s.heap es.toList k → ∀ r : Option Nat, (adding = false → r.isSome = true) → Q (.there r) s)
    (no : ¬ HasT knd s.heap es.toList k → Q (.free (ST.sq t.mask (tupleKeyHash knd k) N).j false) s) :
    ∀ (d fuel n : Nat) (stand : Option SetTable.Probe), N - n = d → n ≤ N → d < fuel → stand.getD (t.probeStart (tupleKeyHash knd k)) = ST.sq t.mask (tupleKeyHash knd k) n →
    (∀ m, m < n → ∀ e, es[ST.ixAt t (tupleKeyHash knd k) m]? = some e → ∀ c, e.2 = .ref c → ¬ IsTupleKey knd s.heap k c) →
    wpAny (model prog w) A (setSearchFrom a (.ref b) (tupleKeyHash knd k) adding fuel stand) Q E s := by
  intro d
  induction d using Nat.strongRecOn with
  | _ d ih =>
  intro fuel n stand hd hn hf hs hno
  obtain ⟨o, ho, hex, hdt⟩ := T.at_
  have pl : t.place.size = es.size := by have e := T.tok.len; rw [List.length_map, Array.length_toList] at e; exact e
  cases fuel with
  | zero => exact absurd hf (Nat.not_lt_zero _)
  | succ fuel =>
    unfold setSearchFrom
    refine wpAny_bind (wpAny_setState_of ho hdt T.fits ?_)
    dsimp only
    rw [hs]
    have hg : t.gaveWay = false := ST.good_odd T.tok.msk
    rw [hg]
    simp only [Bool.false_eq_true, if_false]
    rcases T.tok.look (tupleKeyHash knd k) (fun i => ((es[i]?).map (·.1)).getD 0) hN hb d (10 * SetTable.turns t.mask) n hd hn (by omega) with ⟨n1, h1, h2, h3, h4, h5⟩ | ⟨h4, h5⟩
    · split
      · rename_i met heq
        have e := Option.some.inj (heq.symm.trans h5)
        subst e
        dsimp only
        have hmem := hb n1 h2
        obtain ⟨hil, hij⟩ := Array.getElem?_eq_some_iff.mp (ST.below_mem T.tok.ris hmem)
        have hil' : ST.ixAt t (tupleKeyHash knd k) n1 < es.size := by rw [← pl]; exact hil
        have hei : es[ST.ixAt t (tupleKeyHash knd k) n1]? = some es[ST.ixAt t (tupleKeyHash knd k) n1] := Array.getElem?_eq_getElem hil'
        obtain ⟨c, q, ec, hq, eh⟩ := el es[ST.ixAt t (tupleKeyHash knd k) n1] (by simp)
        refine led_or (wpAny_mono (unseen hk (fun v hv => ?_) (Q := fun b s' => b = false ∧ s' = s) ⟨rfl, rfl⟩) (fun _ _ z => z) fun _ _ z => z) ?_
        · obtain ⟨e, he, rfl⟩ := List.mem_map.mp hv
          obtain ⟨b', q', h1', h2', _⟩ := el e (by have := Array.mem_filter.mp (Array.mem_toList_iff.mp he); exact Array.mem_toList_iff.mpr this.1)
          exact ⟨b', q', h1', h2'⟩
        rw [hei]
        dsimp only
        rw [ec]
        refine wpAny_bind (wpAny_holding (wpAny_eqBool_tuple hu hq hk ?_))
        refine wpAny_bind (wpAny_setState_of ho hdt T.fits ?_)
        dsimp only
        have hsm : t.sameMemory t.moves t.mask = some true := by unfold SetTable.sameMemory; rw [if_pos (beq_self_eq_true _)]
        have hsl : t.slot (ST.sq t.mask (tupleKeyHash knd k) n1).j = .live (ST.ixAt t (tupleKeyHash knd k) n1) := ST.slot_mem T.tok.ris hmem
        by_cases hqk : q = k
        · subst hqk
          have hY := yes ⟨_, List.getElem_mem (by simpa using hil'), c, by simpa using ec, hq⟩
          rw [decide_eq_true rfl]
          cases adding with
          | true => exact wpAny_pure (hY none fun z => nomatch z)
          | false =>
            rw [hsm]
            simp only [Bool.and_true, Bool.false_eq_true, if_false, if_true]
            rw [hsl]
            dsimp only
            rw [hei]
            dsimp only
            rw [ec]
            refine wpAny_bind (wpAny_isSame_ref_self (wpAny_bind (wpAny_pure ?_)))
            exact wpAny_pure (hY _ fun _ => rfl)
        · rw [decide_eq_false hqk, hsm]
          simp only [Bool.and_false, Bool.false_eq_true, if_false, if_true]
          rw [hsl]
          dsimp only
          rw [hei]
          dsimp only
          rw [ec]
          refine wpAny_bind (wpAny_isSame_ref_self (wpAny_bind (wpAny_pure ?_)))
          refine ih (N - (n1 + 1)) (by omega) fuel (n1 + 1) _ rfl (by omega) (by omega) rfl fun m hm e he c' hc' hK => ?_
          by_cases z : m < n
          · exact hno m z e he c' hc' hK
          · by_cases z' : m = n1
            · subst z'
              rw [hei] at he
              have he := Option.some.inj he
              rw [← he, ec] at hc'
              injection hc' with hc'
              subst hc'
              exact hqk (hq.inj hK)
            · obtain ⟨c2, q2, ec2, hq2, eh2⟩ := el e (Array.mem_toList_iff.mpr (Array.mem_of_getElem? he))
              rw [hc'] at ec2
              injection ec2 with ec2
              subst ec2
              have := hK.inj hq2
              subst this
              refine h4 m (by omega) (by omega) ?_
              rw [he]
              exact eh2
      · rename_i x hx
        exact absurd h5 (hx _)
    · split
      · rename_i met heq
        have e := Option.some.inj (heq.symm.trans h5)
        subst e
        refine wpAny_pure (no ?_)
        rintro ⟨e, he, c, hc, hK⟩
        obtain ⟨i, hi, ei⟩ := List.mem_iff_getElem.mp he
        rw [Array.length_toList] at hi
        obtain ⟨c2, q2, ec2, hq2, eh2⟩ := el e he
        rw [hc] at ec2
        injection ec2 with ec2
        subst ec2
        have := hK.inj hq2
        subst this
        have hei : es[i]? = some e := by rw [Array.getElem?_eq_getElem hi]; rw [Array.getElem_toList] at ei; rw [ei]
        obtain ⟨m, hm1, hm2⟩ := T.tok.met hN (i := i) (j := t.place[i]'(by omega)) (Array.getElem?_eq_getElem (by omega)) (by rw [List.getElem?_map, Array.getElem?_toList, hei, ← eh2]; rfl)
        by_cases z : m < n
        · exact hno m z e (by rw [hm2]; exact hei) c hc hK
        · refine h4 m (by omega) hm1 ?_
          rw [hm2, hei]
          exact eh2
      · rename_i x hx
        exact absurd h5 (hx _)
end
end L2
set_option Elab.async false
set_option linter.all false
set_option maxRecDepth 100000
namespace L2
open PySem PySem.Spec PyProof.Rows
section
variable {prog : Program} {w : World} {K : Type} [DecidableEq K] {knd : KeyKind prog w K} {A : Around} {E : Value → Shared → Prop} {s : Shared}
def IsSetT (h : Heap) (a : Addr) (es : Array (Int × Value)) : Prop := ∃ ep t, TSt h a es ep t ∧ es.size * 5 < t.mask * 3
theorem IsSetT.typeIs {a : Addr} {es : Array (Int × Value)} (T : IsSetT s.heap a es) : s.TypeIs (.ref a) "set" := by
  obtain ⟨ep, t, ⟨⟨o, ho, hc, _⟩, _⟩, _⟩ := T
  exact ⟨o, ho, hc.1⟩
theorem no_scan (b : Addr) (es : Array (Int × Value)) : byScan (.ref b) es = false := rfl
theorem find_spec {a b : Addr} {es : Array (Int × Value)} {k : List K} {Q : Option Nat → Shared → Prop} (hu : A.units < cLine) (T : IsSetT s.heap a es) (el : ElT knd s.heap es.toList) (hk : IsTupleKey knd s.heap k b)
    (h : ∀ r : Option Nat, (r.isSome = true ↔ HasT knd s.heap es.toList k) → Q r s) : wpAny (model prog w) A (setFind a (.ref b) (tupleKeyHash knd k)) Q E s := by
  obtain ⟨ep, t, T, few⟩ := T
  obtain ⟨o, ho, hex, hdt⟩ := T.at_
  obtain ⟨N, hNs, hN, hb⟩ := T.tok.first (tupleKeyHash knd k)
  have hm : SetTable.turns t.mask ≤ 2062 := by unfold SetTable.turns; rcases T.tok.msk with e | e | e | e | e <;> omega
  unfold setFind
  rw [show (100000 : Nat) = 99999 + 1 from rfl]
  unfold setFindIn
  refine wpAny_bind (wpAny_setState_of ho hdt T.fits ?_)
  dsimp only
  rw [no_scan]
  simp only [Bool.false_eq_true, if_false]
  unfold setSearch
  refine wpAny_bind (search_spec hu T el hk hN hb hNs (fun hY r hr => ?_) (fun hn => ?_) N 100000 0 none rfl (Nat.zero_le _) (by omega) rfl fun m hm => absurd hm (Nat.not_lt_zero _))
  · exact wpAny_pure (h r ⟨fun _ => hY, fun _ => hr rfl⟩)
  · exact wpAny_pure (h none (Iff.intro (fun z => absurd z Bool.false_ne_true) fun z => absurd z hn))
/-- x in a set of tuples -/
theorem in_setT {a b : Addr} {es : Array (Int × Value)} {k : List K} {S : Bool} {Q : Value → Shared → Prop} (hu : A.in1.units < cLine) (T : IsSetT s.heap a es) (el : ElT knd s.heap es.toList) (hk : IsTupleKey knd s.heap k b)
    (hS : S = true ↔ HasT knd s.heap es.toList k) (h : ∀ tk, Q (.bool S) { s with toks := tk }) : wpAny (model prog w) A (compareOp .In (.ref b) (.ref a)) Q E s := by
  show wpAny _ _ (do return .bool (← contains (.ref a) (.ref b))) Q E s
  refine wpAny_bind ?_
  unfold contains
  try with_reducible refine wpAny_holding ?_
  refine wpAny_bind (wpAny_specialOf T.typeIs F.slot_set_contains.lookup ?_)
  show wpAny _ _ (if (some (Value.builtin "set.__contains__") == some Value.none) = true then _ else _) _ E s
  rw [if_neg (by rw [beq_builtin_none]; exact Bool.false_ne_true)]
  refine wpAny_bind (wpAny_callSpecialUnlessNone?_slot (name := Str.ofString "__contains__") T.typeIs F.slot_set_contains
    (wpAny_call_entry F.slot_set_contains T.typeIs entry_set_contains ?_ (F.args_set_contains_2 _ _)))
  unfold Builtin.«frozenset.__contains__» Builtin.Frozenset.oneOther
  simp only [List.isEmpty_nil, bind_assoc]
  unfold Builtin.Frozenset.addrOf Builtin.Frozenset.withSetAsKey setContains
  refine wpAny_bind (wpAny_pure ?_)
  try dsimp only
  refine wpAny_bind (wpAny_pure ?_)
  try dsimp only
  refine wpAny_bind (wpAny_tryCatch ?_)
  refine wpAny_holding ?_
  refine wpAny_bind (wpAny_pyHash_tuple hu hk ?_)
  refine wpAny_bind (find_spec (s := { s with toks := s.toks + (k.length + 1) }) hu T el hk fun r hr => ?_)
  refine wpAny_pure ?_
  show wpAny _ _ (ret (Value.bool r.isSome)) _ _ _
  have e : r.isSome = S := by
    cases hs : S with
    | true => exact hr.mpr (hS.mp hs)
    | false => cases hq : r.isSome with
      | false => rfl
      | true => exact absurd (hS.mpr (hr.mp hq)) (by rw [hs]; exact Bool.false_ne_true)
  rw [e]
  exact wpAny_pure ⟨_, rfl, wpAny_truthy_bool (wpAny_pure (h _))⟩
theorem byVal_hash (n : Nat) {v : Value} (h : carriedByValue v = true) : ∃ b, hashByValue n v = pure b := by
  cases v with
  | ref a => simp [carriedByValue] at h
  | _ => first | exact ⟨_, rfl⟩ | (unfold hashByValue; exact ⟨_, rfl⟩) | (cases n <;> exact ⟨_, rfl⟩)
theorem hash_tuple {k : List K} {a : Addr} {Q : Bool → Shared → Prop} (hk : IsTupleKey knd s.heap k a) (h : ∀ b, Q b s) : wpAny (model prog w) A (hashByValue 8 (.ref a)) Q E s := by
  have hT := hk.typeIs
  obtain ⟨o, items, n, ho, _, hd, hi⟩ := hk
  unfold hashByValue
  refine wpAny_bind (wpAny_specialOf hT F.slot_tuple_hash.lookup ?_)
  dsimp only
  refine wpAny_bind (wpAny_seqItems ho hd ?_)
  refine wpAny_bind ?_
  show wpAny _ _ (forIn items _ _) _ _ s
  rw [← Array.forIn_toList]
  refine wpAny_forIn_list _ (fun rest r s' => r.1 = none ∧ s' = s ∧ ∀ v ∈ rest, carriedByValue v = true) _ ?_ ?_ _ _ ⟨rfl, rfl, hi.byValue⟩
  · rintro v rest r s' ⟨hr, rfl, hall⟩
    obtain ⟨b, e⟩ := byVal_hash 7 (hall v List.mem_cons_self)
    rw [e]
    refine wpAny_bind (wpAny_pure ?_)
    cases b with
    | true => exact wpAny_pure ⟨rfl, rfl, fun u hu' => hall u (List.mem_cons_of_mem _ hu')⟩
    | false => exact wpAny_pure (wpAny_pure (h _))
  · rintro ⟨r1, r2⟩ s' ⟨hr, rfl, _⟩
    simp only at hr
    subst hr
    exact wpAny_pure (h _)
theorem TOk_plain {t : SetTable} {hs : List Int} (k : ST.TOk t hs) (b : Bool) : ST.TOk { t with plain := b } hs := ⟨k.ris, k.len, k.dum, k.bnd, k.msk, k.few, k.reach⟩
theorem stored {h : Heap} {a : Addr} {o : Obj} {es : Array (Int × Value)} {ep : Nat} {t : SetTable} (ho : h.get? a = some o) (hex : o.ExactSet) (hd : o.data = .set es ep t) (es' : Array (Int × Value)) (t' : SetTable) :
    (h.update a (Obj.putSet es' t')).get? a = some { o with data := .set es' (ep + 1) t' } := by
  have := Heap.get?_update_self (Obj.putSet es' t') ho (by rw [putSet_of es' t' hd]; rfl)
  rw [putSet_of es' t' hd] at this
  exact this
theorem relay_spec {a : Addr} {es : Array (Int × Value)} {ep wanted : Nat} {t : SetTable} {Q : Unit → Shared → Prop} (T : TSt s.heap a es ep t) (g : ST.good (SetTable.sizeAbove wanted - 1)) (hl : es.size * 5 < (SetTable.sizeAbove wanted - 1) * 3)
    (hz : SetTable.sizeAbove wanted ≤ sizeLine) (h : ∀ h' es', Heap.SameBut a s.heap h' → IsSetT h' a es' → (∀ e, e ∈ es'.toList ↔ e ∈ es.toList) → es'.size = es.size → Q () { s with heap := h' }) :
    wpAny (model prog w) A (setRelay a wanted) Q E s := by
  obtain ⟨o, ho, hex, hdt⟩ := T.at_
  obtain ⟨t', order, e1, e2, k, e3, e4, _, _⟩ := ST.relaid_ok (t := t) (es := es) g (by rcases g with e | e | e | e | e <;> omega)
  unfold setRelay
  refine wpAny_bind (wpAny_setState_of ho hdt T.fits ?_)
  dsimp only
  rw [if_neg (by omega), e1]
  refine wpAny_bind ?_
  show wpAny _ _ (if ((order.filterMap (es[·]?)).size != es.size) = true then _ else _) _ _ _
  rw [if_neg (by rw [e2]; simp)]
  refine wpAny_pure ?_
  dsimp only
  refine wpAny_storeSet_of ho hdt ?_ (by rw [e2, sizeLine_eq]; rcases g with e | e | e | e | e <;> omega)
  refine h _ (order.filterMap (es[·]?)) (Heap.SameBut.update s.heap a _) ⟨ep + 1, t', ⟨⟨_, stored ho hex hdt _ _, hex, rfl⟩, k⟩, ?_⟩ e3 e2
  rw [e2, e4]
  exact hl
theorem add_spec {a b : Addr} {es : Array (Int × Value)} {k : List K} {Q : Bool → Shared → Prop} (hu : A.units < cLine) (T : IsSetT s.heap a es) (el : ElT knd s.heap es.toList) (hk : IsTupleKey knd s.heap k b) (hroom : es.size ≤ 1200)
    (old : HasT knd s.heap es.toList k → Q false s)
    (new : ¬ HasT knd s.heap es.toList k → ∀ h' es', Heap.SameBut a s.heap h' → IsSetT h' a es' → (∀ e, e ∈ es'.toList ↔ e = (tupleKeyHash knd k, Value.ref b) ∨ e ∈ es.toList) → es'.size = es.size + 1 → Q true { s with heap := h' }) :
    wpAny (model prog w) A (setAddHashed a (.ref b) (tupleKeyHash knd k)) Q E s := by
  obtain ⟨ep, t, T, few⟩ := T
  obtain ⟨o, ho, hex, hdt⟩ := T.at_
  obtain ⟨N, hNs, hN, hb⟩ := T.tok.first (tupleKeyHash knd k)
  have pl : t.place.size = es.size := by have e := T.tok.len; rw [List.length_map, Array.length_toList] at e; exact e
  have hm : SetTable.turns t.mask ≤ 2062 := by unfold SetTable.turns; rcases T.tok.msk with e | e | e | e | e <;> omega
  unfold setAddHashed
  rw [show (100000 : Nat) = 99999 + 1 from rfl]
  unfold setAddHashedIn
  refine wpAny_holding (wpAny_bind (wpAny_setState_of ho hdt T.fits ?_))
  dsimp only
  rw [no_scan]
  simp only [Bool.false_eq_true, if_false]
  unfold setSearch
  refine wpAny_bind (search_spec hu T el hk hN hb hNs (fun hY r hr => ?_) (fun hn => ?_) N 100000 0 none rfl (Nat.zero_le _) (by omega) rfl fun m hm => absurd hm (Nat.not_lt_zero _))
  · exact wpAny_pure (old hY)
  · dsimp only
    refine wpAny_bind (wpAny_setState_of ho hdt T.fits ?_)
    dsimp only
    have kp := T.tok.put hN hb (by rcases T.tok.msk with e | e | e | e | e <;> omega)
    have tail : ∀ b' : Bool, wpAny (model prog w) A (do
        storeSet a (SetTable.insertAt es (t.put (ST.sq t.mask (tupleKeyHash knd k) N).j).2 (tupleKeyHash knd k, Value.ref b)) (if b' = true then (t.put (ST.sq t.mask (tupleKeyHash knd k) N).j).1 else { (t.put (ST.sq t.mask (tupleKeyHash knd k) N).j).1 with plain := false })
        if (!false && (if b' = true then (t.put (ST.sq t.mask (tupleKeyHash knd k) N).j).1 else { (t.put (ST.sq t.mask (tupleKeyHash knd k) N).j).1 with plain := false }).tooFull) = true then do
          setRelay a (SetTable.grown (es.size + 1))
          pure true
        else pure true) Q E s := by
      intro b'
      generalize et1 : (if b' = true then (t.put (ST.sq t.mask (tupleKeyHash knd k) N).j).1 else { (t.put (ST.sq t.mask (tupleKeyHash knd k) N).j).1 with plain := false }) = t1
      have el1 : (SetTable.insertAt es (t.put (ST.sq t.mask (tupleKeyHash knd k) N).j).2 (tupleKeyHash knd k, Value.ref b)).toList.map (·.1)
          = (es.toList.map (·.1)).take (ST.ixAt t (tupleKeyHash knd k) N) ++ tupleKeyHash knd k :: (es.toList.map (·.1)).drop (ST.ixAt t (tupleKeyHash knd k) N) := by
        rw [ST.insert_list, List.map_append, List.map_cons, List.map_take, List.map_drop]
        rfl
      have k1 : ST.TOk t1 ((SetTable.insertAt es (t.put (ST.sq t.mask (tupleKeyHash knd k) N).j).2 (tupleKeyHash knd k, Value.ref b)).toList.map (·.1)) := by
        rw [el1, ← et1]
        cases b' with
        | true => exact kp
        | false => exact TOk_plain kp false
      have m1 : t1.mask = t.mask := by rw [← et1]; cases b' <;> rfl
      have z1 : (SetTable.insertAt es (t.put (ST.sq t.mask (tupleKeyHash knd k) N).j).2 (tupleKeyHash knd k, Value.ref b)).size = es.size + 1 := ST.insert_size _ _ _
      have mem1 : ∀ e, e ∈ (SetTable.insertAt es (t.put (ST.sq t.mask (tupleKeyHash knd k) N).j).2 (tupleKeyHash knd k, Value.ref b)).toList ↔ e = (tupleKeyHash knd k, Value.ref b) ∨ e ∈ es.toList := fun e => by
        rw [ST.insert_list, List.mem_append, List.mem_cons]
        have q : e ∈ es.toList ↔ e ∈ es.toList.take (t.put (ST.sq t.mask (tupleKeyHash knd k) N).j).2 ∨ e ∈ es.toList.drop (t.put (ST.sq t.mask (tupleKeyHash knd k) N).j).2 := by
          rw [← List.mem_append, List.take_append_drop]
        rw [q]
        exact ⟨fun z => z.elim (fun z => .inr (.inl z)) fun z => z.elim .inl fun z => .inr (.inr z), fun z => z.elim (fun z => .inr (.inl z)) fun z => z.elim .inl fun z => .inr (.inr z)⟩
      generalize SetTable.insertAt es (t.put (ST.sq t.mask (tupleKeyHash knd k) N).j).2 (tupleKeyHash knd k, Value.ref b) = es1 at k1 z1 mem1 ⊢
      have p1 : t1.place.size = es.size + 1 := by have e := k1.len; rw [List.length_map, Array.length_toList, z1] at e; exact e
      have fu : t1.tooFull = decide ((es.size + 1) * 5 ≥ t.mask * 3) := by
        unfold SetTable.tooFull SetTable.fill
        rw [k1.dum, p1, m1]
        rfl
      refine wpAny_bind (wpAny_storeSet_of ho hdt ?_ (by rw [z1, sizeLine_eq]; omega))
      have sb := Heap.SameBut.update s.heap a (Obj.putSet es1 t1)
      have T1 : TSt (s.heap.update a (Obj.putSet es1 t1)) a es1 (ep + 1) t1 := ⟨⟨_, stored ho hex hdt _ _, hex, rfl⟩, k1⟩
      rw [fu]
      by_cases c : (es.size + 1) * 5 ≥ t.mask * 3
      · rw [if_pos (by rw [decide_eq_true c]; rfl)]
        have gw : SetTable.grown (es.size + 1) = (es.size + 1) * 4 := by unfold SetTable.grown; rw [if_neg (by omega)]
        rw [gw]
        have fin : ∀ wanted, wanted = (es.size + 1) * 4 → ST.good (SetTable.sizeAbove wanted - 1) → es1.size * 5 < (SetTable.sizeAbove wanted - 1) * 3 → SetTable.sizeAbove wanted ≤ sizeLine →
            wpAny (model prog w) A (setRelay a ((es.size + 1) * 4) >>= fun _ => pure true) Q E { s with heap := s.heap.update a (Obj.putSet es1 t1) } := fun wanted ew g hl hz => by
          subst ew
          refine wpAny_bind (relay_spec T1 g hl hz fun h' es' sb' T' mem' z' => wpAny_pure ?_)
          exact new hn h' es' (sb.trans sb') T' (fun e => (mem' e).trans (mem1 e)) (z'.trans z1)
        rcases T.tok.msk with e | e | e | e | e
        · exact fin 20 (by omega) (.inr (.inl (by decide))) (by rw [show SetTable.sizeAbove 20 = 32 by decide]; omega) (by rw [sizeLine_eq]; decide)
        · exact fin 76 (by omega) (.inr (.inr (.inl (by decide)))) (by rw [show SetTable.sizeAbove 76 = 128 by decide]; omega) (by rw [sizeLine_eq]; decide)
        · exact fin 308 (by omega) (.inr (.inr (.inr (.inl (by decide))))) (by rw [show SetTable.sizeAbove 308 = 512 by decide]; omega) (by rw [sizeLine_eq]; decide)
        · exact fin 1228 (by omega) (.inr (.inr (.inr (.inr (by decide))))) (by rw [show SetTable.sizeAbove 1228 = 2048 by decide]; omega) (by rw [sizeLine_eq]; decide)
        · omega
      · rw [if_neg (by rw [decide_eq_false c]; exact Bool.false_ne_true)]
        refine wpAny_pure (new hn _ es1 sb ⟨ep + 1, t1, T1, ?_⟩ mem1 z1)
        rw [z1, m1]
        omega
    by_cases hp : (t.put (ST.sq t.mask (tupleKeyHash knd k) N).j).1.plain = true
    · rw [if_pos hp]
      exact wpAny_bind (hash_tuple hk fun b' => tail b')
    · rw [if_neg hp]
      exact wpAny_bind (wpAny_pure (tail true))
end
end L2
set_option Elab.async false
set_option linter.all false
set_option maxRecDepth 100000
namespace L2
open PySem PySem.Spec PyProof.Rows
def SetO (a : Addr) (es : Array (Int × Value)) : HO := .ext fun h => IsSetT h a es
theorem setO_ok {P : Program} {w : World} {H : Hp} {h : Heap} {a : Addr} {es : Array (Int × Value)} (T : IsSetT h a es) : ObjOk P w H h a (SetO a es) := by
  obtain ⟨ep, t, ⟨⟨o, ho, hex, hd⟩, k⟩, few⟩ := id T
  refine ⟨T, ⟨o, ho⟩, fun h1 h2 T1 keep => ?_⟩
  obtain ⟨ep, t, ⟨⟨o, ho, hex, hd⟩, k⟩, few⟩ := T1
  exact ⟨ep, t, ⟨⟨o, keep o ho, hex, hd⟩, k⟩, few⟩
theorem of_setO {P : Program} {w : World} {H : Hp} {h : Heap} {a : Addr} {es : Array (Int × Value)} (ok : HOk P w H h) (e : H a = some (SetO a es)) : IsSetT h a es := (ok a _ e).1
/-- the set at a holds the tuples ks -/
def IsTS (P : Program) (w : World) (H : Hp) (a : Addr) (ks : List (List Key)) : Prop := ∃ es : Array (Int × Value), H a = some (SetO a es) ∧ es.size = ks.length ∧
  (∀ e ∈ es.toList, ∃ b k, e.2 = .ref b ∧ H b = some (.tup (k.map kV)) ∧ e.1 = tupleKeyHash (mixKind P w) k ∧ k ∈ ks) ∧ ∀ k ∈ ks, ∃ e ∈ es.toList, ∃ b, e.2 = .ref b ∧ H b = some (.tup (k.map kV))
section
variable {P : Program} {w : World} {H : Hp} {h : Heap} {a : Addr} {ks : List (List Key)} {es : Array (Int × Value)}
theorem elT_of (ok : HOk P w H h) (h1 : ∀ e ∈ es.toList, ∃ b k, e.2 = .ref b ∧ H b = some (.tup (k.map kV)) ∧ e.1 = tupleKeyHash (mixKind P w) k ∧ k ∈ ks) : ElT (mixKind P w) h es.toList := fun e he => by
  obtain ⟨b, k, e1, e2, e3, _⟩ := h1 e he
  exact ⟨b, k, e1, key_of ok e2, e3⟩
theorem hasT_iff (ok : HOk P w H h) (h1 : ∀ e ∈ es.toList, ∃ b k, e.2 = .ref b ∧ H b = some (.tup (k.map kV)) ∧ e.1 = tupleKeyHash (mixKind P w) k ∧ k ∈ ks)
    (h2 : ∀ k ∈ ks, ∃ e ∈ es.toList, ∃ b, e.2 = .ref b ∧ H b = some (.tup (k.map kV))) (k : List Key) : HasT (mixKind P w) h es.toList k ↔ k ∈ ks := by
  constructor
  · rintro ⟨e, he, b, e1, hk⟩
    obtain ⟨b', k', e1', e2, _, hm⟩ := h1 e he
    rw [e1] at e1'
    injection e1' with e1'
    subst e1'
    have := IsTupleKey.inj hk (key_of ok e2)
    rw [this]
    exact hm
  · intro hm
    obtain ⟨e, he, b, e1, e2⟩ := h2 k hm
    exact ⟨e, he, b, e1, key_of ok e2⟩
end
def memK (k : List Key) (ks : List (List Key)) : Bool := ks.any fun q => decide (q = k)
theorem memK_iff {k : List Key} {ks : List (List Key)} : memK k ks = true ↔ k ∈ ks := by
  unfold memK
  rw [List.any_eq_true]
  exact ⟨fun ⟨q, hq, e⟩ => of_decide_eq_true e ▸ hq, fun h => ⟨k, h, decide_eq_true rfl⟩⟩
section
variable {X : Cx}
/-- set() -/
theorem call_set0 : CallR X (.type "set") (fun xs H Q => xs = [] ∧ ∀ p es, H p = none → IsTS X.prog X.w (upd H p (SetO p es)) p [] → Q (.ref p) (upd H p (SetO p es))) := by
  intro pins s σ H xs us Q I r h
  obtain ⟨rfl, q⟩ := h
  cases r
  refine call_set_0 fun led => ?_
  have hf : H s.heap.objs.size = none := I.hok.fresh (Nat.le_refl _)
  refine ⟨.ref s.heap.objs.size, upd H s.heap.objs.size (SetO s.heap.objs.size #[]), I.laid (t' := s.toks) (fun b u e => Heap.get?_push_of_some _ e) (Nat.le_refl _) (setO_ok ?_), rfl, q _ #[] hf ?_⟩
  · exact ⟨0, _, ⟨⟨_, Heap.get?_push_size _ rfl, ⟨rfl, rfl, rfl⟩, rfl⟩, ST.fresh_ok 0 0 led⟩, by show 0 * 5 < 7 * 3; decide⟩
  · exact ⟨#[], upd_same, rfl, fun e he => by simp at he, fun k hk => by cases hk⟩
/-- t in s -/
theorem op_inTS (hu : X.A.units + 1 < cLine) : OpR X (compareOp .In) (fun x y H Q => ∃ (b : Addr) (k : List Key) (a : Addr) (ks : List (List Key)), x = .ref b ∧ y = .ref a ∧ H b = some (.tup (k.map kV)) ∧ IsTS X.prog X.w H a ks ∧ Q (.bl (memK k ks)) H) := by
  intro pins s σ H x y v u Q I rx ry h
  obtain ⟨b, k, a, ks, rfl, rfl, hb, ⟨es, ha, hz, h1, h2⟩, q⟩ := h
  cases rx
  cases ry
  refine in_setT (knd := mixKind X.prog X.w) (k := k) (S := memK k ks) (tupleKind_room_in1 (knd := mixKind X.prog X.w) hu) (of_setO I.hok ha) (elT_of I.hok h1) (key_of I.hok hb) ?_ fun tk => ⟨.bl _, H, I.tok _, rfl, q⟩
  rw [hasT_iff I.hok h1 h2 k]
  exact memK_iff
def rAddTS (P : Program) (w : World) : V → List V → Hp → VK → Prop := fun x xs H Q => ∃ (a b : Addr) (k : List Key) (ks : List (List Key)), x = .ref a ∧ xs = [.ref b] ∧ H b = some (.tup (k.map kV)) ∧ IsTS P w H a ks ∧ ks.length ≤ 1200 ∧ k ∉ ks ∧
  ∀ es', IsTS P w (upd H a (SetO a es')) a (ks ++ [k]) → Q .non (upd H a (SetO a es'))
theorem mt_addTS (hu : X.A.units + 1 < cLine) : MtR X "set.add" (rAddTS X.prog X.w) := by
  intro pins s σ H x xs v us Q I rx rxs h
  obtain ⟨a, b, k, ks, rfl, rfl, hb, ⟨es, ha, hz, h1, h2⟩, hl, hn, q⟩ := h
  cases rx
  obtain ⟨u, rfl, ru⟩ := vals1 rxs
  cases ru
  have T := of_setO I.hok ha
  have hk := key_of I.hok hb
  have hu' : X.A.in1.units < cLine := tupleKind_room_in1 (knd := mixKind X.prog X.w) hu
  refine wpAny_call_entry F.slot_set_add T.typeIs F.entry_set_add ?_ (F.args_set_add_2 _ _)
  unfold Builtin.«set.add» Builtin.Frozenset.oneOther
  simp only [List.isEmpty_nil, bind_assoc]
  unfold Builtin.Frozenset.addrOf setAdd
  refine wpAny_bind (wpAny_pure ?_)
  try dsimp only
  refine wpAny_bind (wpAny_pure ?_)
  try dsimp only
  refine wpAny_bind ?_
  refine wpAny_holding ?_
  refine wpAny_bind (wpAny_pyHash_tuple hu' hk ?_)
  refine add_spec (s := { s with toks := s.toks + (k.length + 1) }) hu' T (elT_of I.hok h1) hk (by omega) (fun hY => absurd ((hasT_iff I.hok h1 h2 k).mp hY) hn) fun _ h' es' sb T' mem z => ?_
  show wpAny _ _ (ret Value.none) _ _ _
  refine wpAny_pure ⟨_, rfl, ?_⟩
  have nt : ∀ c ys, H c = some (.tup ys) → c ≠ a := fun c ys e z => by subst z; rw [ha] at e; cases e
  have keepT : ∀ c ys, H c = some (.tup ys) → upd H a (SetO a es') c = some (.tup ys) := fun c ys e => by rw [upd_ne (nt c ys e)]; exact e
  obtain ⟨ep', t', ⟨⟨o', ho', _⟩, _⟩, _⟩ := id T'
  refine ⟨.non, upd H a (SetO a es'), I.write (e := a) (t' := s.toks + (k.length + 1)) (by rw [ha]; trivial) (.inl rfl) (fun c u hc e => (sb.2 c hc).trans e) ⟨o', ho'⟩ (setO_ok T'), rfl, q es' ⟨es', upd_same, ?_, ?_, ?_⟩⟩
  · rw [z, hz, List.length_append]; rfl
  · intro e he
    rcases (mem e).mp he with rfl | he
    · exact ⟨b, k, rfl, keepT _ _ hb, rfl, by simp⟩
    · obtain ⟨b', k', e1, e2, e3, e4⟩ := h1 e he
      exact ⟨b', k', e1, keepT _ _ e2, e3, List.mem_append_left _ e4⟩
  · intro k' hk'
    rcases List.mem_append.mp hk' with hk' | hk'
    · obtain ⟨e, he, b', e1, e2⟩ := h2 k' hk'
      exact ⟨e, (mem e).mpr (.inr he), b', e1, keepT _ _ e2⟩
    · have := List.mem_singleton.mp hk'
      subst this
      exact ⟨_, (mem _).mpr (.inl rfl), b, rfl, keepT _ _ hb⟩
/-- s.add(t) -/
def tAddTS (P : Program) (w : World) (to : TE) (t : TA) : TE := fun σ H Q => to σ H fun x H1 => (∃ a ks, x = .ref a ∧ IsTS P w H1 a ks) ∧ t σ H1 fun xs H2 => rAddTS P w x xs H2 Q
theorem pe_addTS {o e : Expr} {to : TE} {t : TA} {apos cpos : Pos} (hu : X.A.units + 1 < cLine) (ho : PE X o to) (ha : PA X [e] t)
    (hbase : attributeBase o "add" X.env (eval o X.env) = eval o X.env := by rfl)
    (hfew : ((backTo cpos (starEach [e] X.env)).all (fun x => !x.1) && (backToKw cpos (keywordEach [] X.env)).all (fun x => x.1.isSome)
      && decide ([e].length + ([] : List Keyword).length + (if ([] : List Keyword).isEmpty then 0 else 1) < 30)) = true := by rfl)
    (hline : (apos.endLine == cpos.line) = true := by rfl) (hs : starEach [e] X.env = [(false, eval e X.env)] := by rfl) :
    PE X (.Call (.Attribute o "add" apos) [e] [] cpos) (tAddTS X.prog X.w to t) := by
  intro pins s σ H Q I h
  refine wpAny_Call_method_late hbase hfew hline rfl (thn (ho pins s σ H _ I h) fun v s1 ⟨x, H1, I1, r1, ⟨a, ks, ex, T⟩, q1⟩ => ?_)
  subst ex
  cases r1
  obtain ⟨es, hae, _⟩ := T
  obtain ⟨ep, tt, ⟨⟨oo, hoo, hex, _⟩, _⟩, _⟩ := of_setO I1.hok hae
  refine ⟨"set", "set.add", PySem.F.plainAttrs_set, PySem.F.slot_set_add, PySem.F.type_set_add, ⟨oo, hoo, hex.1⟩, fun c e2 => ?_, ?_⟩
  · cases e2
    exact ⟨oo, hoo, hex.2.1⟩
  have hA := ha cpos pins s1 σ H1 _ I1 q1
  rw [hs] at hA ⊢
  refine Calls.callWith_builtin rfl (Calls.evalArgs_plain ?_)
  exact thn hA fun us s2 ⟨vs, H2, I2, r2, q2⟩ => mt_addTS hu pins s2 σ H2 (.ref a) vs (.ref a) us Q I2 rfl r2 q2
end
end L2
set_option Elab.async false
set_option linter.all false
set_option maxRecDepth 100000
namespace L2
open PySem PySem.Spec PyProof.Rows
section
variable {prog : Program} {w : World} {A : Around} {E : Value → Shared → Prop} {s : Shared}
def lamParams (p : Pos) : Arguments := { posonlyargs := [], args := [{ arg := "place", annotation := none, pos := p }], vararg := none, kwonlyargs := [], kw_defaults := [], kwarg := none, defaults := [] }
def lamScope : Scope := { kind := .function, names := [("place", .local), ("counts", .free)], isGenerator := false, isCoroutine := false, more := [] }
def lamBody (p1 p2 p3 : Pos) : Expr := .Subscript (.Name "counts" p1) (.Name "place" p2) p3
abbrev lamFn (qual : Str) (p p1 p2 p3 : Pos) (c : Addr) (pm cdv ctv : Value) : FuncData := PySem.W.kla_fn "<lambda>" qual (lamParams p) (lamBody p1 p2 p3) lamScope [("counts", c)] pm cdv ctv
theorem lam_binds {qual : Str} {p p1 p2 p3 : Pos} {c : Addr} {pm cdv ctv v : Value} : bindArgs (lamFn qual p p1 p2 p3 c pm cdv ctv) ⟨[v], []⟩ = pure [(Str.ofString "place", v)] := rfl
theorem lam_call {f a c : Addr} {qual : Str} {p p1 p2 p3 : Pos} {pm cdv ctv : Value} {its : List Value} {ns : List Int} {i : Nat} {n : Int} {t : Tok}
    (hroom : A.depth < recursionLimit) (hlim : s.heap.NoLimit) (ho : s.heap.get? f = some { cls := .type "function", data := .func (lamFn qual p p1 p2 p3 c pm cdv ctv) })
    (hcd : s.heap.CodeRec cdv qual) (hc : s.heap.IsCell c (some (.ref a))) (hl : s.heap.IsList a its.toArray) (hi : IntsAre its ns) (hn : ns[i]? = some n) (hi63 : (i : Int) < 2 ^ 63) :
    wpAny (model prog w) A (call (.ref f) [.int i t]) (fun r s2 => ∃ h' tk t', s2 = { s with heap := h', toks := tk } ∧ r = .int n t' ∧ ∀ b o, s.heap.get? b = some o → h'.get? b = some o) E s := by
  refine wpAny_call ?_
  refine PySem.W.kla_callFunE hroom ho rfl rfl rfl rfl hcd ?_
  rw [lam_binds]
  refine wpAny_pure (wpAny_newFunctionEnv (by intro y hy; simp [lamScope] at hy; rcases hy with rfl | rfl <;> simp) (by intro y hy; simp at hy; subst hy; rfl) (fun h₁ hns hsb => ⟨hlim.fresh _ hsb, ?_⟩) rfl)
  have keep : ∀ b o, s.heap.get? b = some o → h₁.get? b = some o := fun b o e => hsb.extBut b o (Nat.ne_of_lt (Heap.lt_size e)) (Heap.get?_push_of_some _ e)
  obtain ⟨v, hv, u, ev⟩ : ∃ v, its[i]? = some v ∧ ∃ u, v = Value.int n u := by
    obtain ⟨u, hu⟩ := hi.get i n hn
    exact ⟨_, hu, u, rfl⟩
  subst ev
  obtain ⟨oc, hoc, hdc⟩ := hc
  obtain ⟨ol, hol, hcl, nl, hdl⟩ := hl
  refine PySem.W.kla_codeExpr ?_
  refine Subscript_ ?_
  refine wpAny_Name (wpAny_loadName_free rfl rfl rfl ⟨oc, keep _ _ hoc, hdc⟩ ?_)
  refine wpAny_Name (wpAny_loadName_local rfl rfl hns rfl ?_)
  have hl' : h₁.IsList a its.toArray := ⟨ol, keep _ _ hol, hcl, nl, hdl⟩
  refine tail_any (ops := [.ref a, .int i t]) hl'.typeIs slot_list_getitem.lookup ?_ (by with_unfolding_all rfl)
  exact wpAny_getItem_list hl' (Int.natCast_nonneg _) hi63 (by simpa using hv) ⟨h₁, _, u, rfl, rfl, keep⟩
theorem collectC {r : Addr} {a b : Int} {t u v : Tok} {n : Nat} {R : Result → Shared → Prop} (hh : A.handled = none) (hr : IsRange s.heap r a b 1 t u v) (hsmall : Builtin.Range.small a b 1 = true) (hn : Builtin.Range.rangeSize a b 1 = n) (hlen : n ≤ 2 ^ 20)
    (hR : ∀ h' tk acc c', (∀ b o, s.heap.get? b = some o → h'.get? b = some o) → h'.get? s.heap.objs.size = some { cls := .type "list", dict := none, data := .seq acc c', slots := #[] } → ItemsOf (fun i v => ∃ t, v = Value.int (a + i * 1) t) acc n →
      R (.ok (.ret (.ref s.heap.objs.size))) { s with heap := h', toks := tk }) : codeAny (model prog w) A (.builtin "proto.collect" ⟨[.ref r], []⟩) R s := by
  refine codeAny_builtin F.entry_proto_collect ?_
  rw [Around.under_plainId F.plain_proto_collect _]
  show wpAny _ A.in1 (newList [] >>= fun l => again (.builtin "list.__iadd__" ⟨[l, .ref r], []⟩)) _ _ s
  refine wpAny_bind (wpAny_newObj_type ?_)
  refine wpAny_pure ⟨plainId_quiet F.plain_list_iadd _, codeAny_builtin F.entry_list_iadd ?_⟩
  rw [Around.under_plainId F.plain_list_iadd _]
  show wpAny _ A.in1 (Builtin.List.listExtendWith (.ref s.heap.objs.size) (.ref r) (.ref s.heap.objs.size)) _ _ _
  have hS0 : (s.heap.push { cls := .type "list", data := .seq ([] : List Value).toArray }).get? s.heap.objs.size = some { cls := .type "list", data := .seq #[] 0 } := Heap.get?_push_size _ rfl
  refine wpAny_extend_range (s := { s with heap := s.heap.push { cls := .type "list", data := .seq ([] : List Value).toArray } }) (R := R) hh (Heap.get?_push_of_some _ hr) hsmall hn (by omega) s.heap.objs.size (.ref s.heap.objs.size) 0 hS0 fun h' tk acc c' hk hS hacc => ?_
  exact hR h' tk acc c' (fun b o e => hk b o (Nat.ne_of_lt (Heap.lt_size e)) (Heap.get?_push_of_some _ e)) hS hacc
theorem collect_range {r : Addr} {a b : Int} {t u v : Tok} {n : Nat} {Q : List Value → Shared → Prop} (hh : A.handled = none) (hr : IsRange s.heap r a b 1 t u v) (hsmall : Builtin.Range.small a b 1 = true) (hn : Builtin.Range.rangeSize a b 1 = n) (hlen : n ≤ 2 ^ 20)
    (hQ : ∀ h' tk acc, (∀ b o, s.heap.get? b = some o → h'.get? b = some o) → s.heap.objs.size < h'.objs.size → ItemsOf (fun i v => ∃ t, v = Value.int (a + i * 1) t) acc n → Q acc.toList { s with heap := h', toks := tk }) : wpAny (model prog w) A (collect (.ref r)) Q E s := by
  unfold collect
  refine wpAny_bind (wpAny_runValue (collectC hh hr hsmall hn hlen fun h' tk acc c' hk hS hacc => ?_))
  show wpAny _ A (load s.heap.objs.size >>= _) _ _ _
  refine wpAny_bind (wpAny_load hS ?_)
  exact wpAny_pure (hQ h' tk acc hk (Heap.lt_size hS) hacc)
theorem ns_same {h h' : Heap} {L : Addr} {m : Str → Option Value} (a : h.Ns L m) (b : h'.Ns L m) {m' : Str → Option Value} (c : h.Ns L m') : h'.Ns L m' := by
  obtain ⟨o, es, ep, ho, hd, _, hm⟩ := a
  obtain ⟨o', es', ep', ho', hd', _, hm'⟩ := c
  rw [ho] at ho'
  cases ho'
  rw [hd] at hd'
  cases hd'
  have e : m' = m := funext fun x => (hm' x).symm.trans (hm x)
  rw [e]
  exact b
/-- what comes of it: by rising counts, those of one count in their order -/
def KeySorted (g : Nat → Int) (n : Nat) (out : List Int) : Prop := ∃ xs : List Nat, out = xs.map (fun k : Nat => (k : Int)) ∧ xs.Perm (List.range n) ∧ xs.Pairwise (fun x y => g x ≤ g y) ∧ ∀ z, xs.filter (fun x => g x == z) = (List.range n).filter (fun x => g x == z)
theorem key_sorted {ns : List Int} {vs : List Value} (hl : vs.length = ns.length) (hv : ∀ (j : Nat) (v : Value), vs[j]? = some v → ∃ t, v = Value.int (j : Int) t) {out : List Value} (h : PyProof.Rows.KskOutSt false ns vs out) :
    ∃ os, IntsAre out os ∧ KeySorted (fun k => ns.getD k 0) ns.length os := by
  obtain ⟨ps, hp, ho, hs, hst⟩ := h
  have mem : ∀ p, p ∈ ns.zip vs → ∃ (k : Nat) (t : Tok), p.2 = Value.int (k : Int) t ∧ p.1 = ns.getD k 0 := fun p hp' => by
    obtain ⟨j, hj, e⟩ := List.mem_iff_getElem.mp hp'
    rw [List.length_zip] at hj
    rw [List.getElem_zip] at e
    have h1 : j < ns.length := by omega
    have h2 : j < vs.length := by omega
    obtain ⟨t, et⟩ := hv j vs[j] (List.getElem?_eq_getElem h2)
    refine ⟨j, t, by rw [← e]; exact et, ?_⟩
    rw [← e]
    show ns[j] = ns.getD j 0
    rw [List.getD_eq_getElem?_getD, List.getElem?_eq_getElem h1]
    rfl
  have fz : (ns.zip vs).map (fun p => (numOf p.2).toNat) = List.range ns.length := by
    apply List.ext_getElem
    · rw [List.length_map, List.length_zip, List.length_range]; omega
    · intro j h1 h2
      rw [List.length_range] at h2
      rw [List.getElem_map, List.getElem_zip, List.getElem_range]
      obtain ⟨t, et⟩ := hv j (vs[j]'(by omega)) (List.getElem?_eq_getElem _)
      show (numOf (vs[j]'(by omega))).toNat = j
      rw [et]
      show ((j : Int)).toNat = j
      exact Int.toNat_natCast j
  have memp : ∀ p, p ∈ ps → ∃ (k : Nat) (t : Tok), p.2 = Value.int (k : Int) t ∧ p.1 = ns.getD k 0 := fun p h' => mem p (hp.mem_iff.mp h')
  have gF : ∀ p : Int × Value, (∃ (k : Nat) (t : Tok), p.2 = Value.int (k : Int) t ∧ p.1 = ns.getD k 0) → ns.getD (numOf p.2).toNat 0 = p.1 := fun p ⟨k, t, e1, e2⟩ => by
    rw [e1, e2]
    show ns.getD ((k : Int)).toNat 0 = _
    rw [Int.toNat_natCast]
  refine ⟨(ps.map fun p => (numOf p.2).toNat).map (fun k : Nat => (k : Int)), ?_, ps.map (fun p => (numOf p.2).toNat), rfl, ?_, ?_, fun z => ?_⟩
  · rw [ho]
    clear hp hs hst ho
    induction ps with
    | nil => exact .nil
    | cons p ps ih =>
      obtain ⟨k, t, e1, _⟩ := memp p List.mem_cons_self
      rw [List.map_cons, List.map_cons, List.map_cons, e1]
      have : (((numOf (Value.int (k : Int) t)).toNat : Nat) : Int) = (k : Int) := by
        show (((k : Int).toNat : Nat) : Int) = k
        rw [Int.toNat_natCast]
      rw [this]
      exact .cons _ _ (ih fun q hq => memp q (List.mem_cons_of_mem _ hq))
  · rw [← fz]
    exact hp.map _
  · rw [List.pairwise_map]
    refine List.Pairwise.imp_of_mem (fun {p q} h1 h2 h3 => ?_) hs
    have h3 : p.1 ≤ q.1 := by simpa using h3
    show ns.getD _ 0 ≤ ns.getD _ 0
    rw [gF p (memp p h1), gF q (memp q h2)]
    exact h3
  · rw [← fz, List.filter_map, List.filter_map]
    have e1 : ps.filter ((fun x => (fun k => ns.getD k 0) x == z) ∘ fun p => (numOf p.2).toNat) = ps.filter fun p => p.1 == z := List.filter_congr fun p hp' => by
      show (ns.getD _ 0 == z) = _
      rw [gF p (memp p hp')]
    have e2 : (ns.zip vs).filter ((fun x => (fun k => ns.getD k 0) x == z) ∘ fun p => (numOf p.2).toNat) = (ns.zip vs).filter fun p => p.1 == z := List.filter_congr fun p hp' => by
      show (ns.getD _ 0 == z) = _
      rw [gF p (mem p hp')]
    rw [e1, e2, hst z]
theorem sorted_key {f r a c L : Addr} {qual : Str} {p p1 p2 p3 : Pos} {pm cdv ctv : Value} {its : List Value} {ns : List Int} {t u v : Tok} {m : Str → Option Value} {Q : Value → Shared → Prop}
    (hh : A.handled = none) (hroom : A.in1.in1.depth < recursionLimit) (hlim : s.heap.NoLimit) (hr : IsRange s.heap r 0 ns.length 1 t u v) (hlen : ns.length ≤ 2 ^ 20)
    (hns : s.heap.Ns L m) (hfL : f ≠ L) (hcL : c ≠ L) (haL : a ≠ L) (hcdL : cdv ≠ .ref L) (hlimL : cStatics ≠ L)
    (ho : s.heap.get? f = some { cls := .type "function", data := .func (lamFn qual p p1 p2 p3 c pm cdv ctv) })
    (hcd : s.heap.CodeRec cdv qual) (hc : s.heap.IsCell c (some (.ref a))) (hl : s.heap.IsList a its.toArray) (hi : IntsAre its ns)
    (h : ∀ D h' tk out c', (∀ b o, b ≠ L → s.heap.get? b = some o → h'.get? b = some o) → h'.Ns L m → s.heap.objs.size ≤ D → h'.get? D = some { cls := .type "list", data := .seq out c' } → (∃ os, IntsAre out.toList os ∧ KeySorted (fun k => ns.getD k 0) ns.length os) → Q (.ref D) { s with heap := h', toks := tk }) :
    wpAny (model prog w) A (call (.builtin "sorted") [.ref r] [(Str.ofString "key", .ref f)]) Q E s := by
  refine call_function_entry_kw PyProof.Rows.kind_sorted PyProof.Rows.plain_sorted PyProof.Rows.entry_sorted (PyProof.Rows.ksk_s1 _ _) ?_
  unfold Builtin.«sorted»
  refine wpAny_bind (m := checkCount "sorted" 1 1 _) (wpAny_pure ?_)
  have hn : Builtin.Range.rangeSize 0 (ns.length : Int) 1 = (ns.length : Nat) := by
    rw [rangeSize_one]
    by_cases z : (0 : Int) < ns.length
    · rw [if_pos z]; omega
    · rw [if_neg z]; omega
  show wpAny _ _ (collect (.ref r) >>= _) _ _ _
  refine wpAny_bind (collect_range hh hr (small_one (by omega) (by omega) (by omega) (by omega)) hn hlen fun h1 tk1 acc k1 sz1 hacc => ?_)
  have hvl : acc.toList.length = ns.length := by rw [Array.length_toList]; exact hacc.1
  have hvs : ∀ (j : Nat) (v : Value), acc.toList[j]? = some v → ∃ t, v = Value.int (j : Int) t := fun j v e => by
    obtain ⟨t, e'⟩ := hacc.2 j v (by simpa using e)
    exact ⟨t, by rw [e']; congr 1; omega⟩
  refine wpAny_bind (wpAny_newList ?_ (by rw [hvl, sizeLine_eq]; omega))
  generalize hh2 : h1.push { cls := .type "list", data := .seq acc.toList.toArray } = h2
  have k2 : ∀ b o, s.heap.get? b = some o → h2.get? b = some o := fun b o e => by rw [← hh2]; exact Heap.get?_push_of_some _ (k1 b o e)
  have hD : h2.get? h1.objs.size = some (seqObj "list" acc.toList.toArray 0) := by rw [← hh2]; exact Heap.get?_push_size _ rfl
  have hDL : h1.objs.size ≠ L := Nat.ne_of_gt (Nat.lt_of_lt_of_le hns.lt (Nat.le_of_lt sz1))
  have F2 : Fr ({} : Heap) L h2 m := ⟨hns.keeps k2, fun b o e => (nomatch (show (none : Option Obj) = some o from e)), Nat.zero_le _⟩
  have e0 : ∀ b, ({} : Heap).get? b = none := fun b => rfl
  have N2 : News ({} : Heap) L h2 (rest {} h2 L h1.objs.size) := fun q hq => news_all q (List.mem_filter.mp hq).1
  have at_ : ∀ {h3 : Heap} {own : List (Addr × Obj)}, News ({} : Heap) L h3 (rest {} h2 L h1.objs.size ++ own) → ∀ b o, b ≠ L → s.heap.get? b = some o → h3.get? b = some o := fun {h3 own} N3 b o hb e =>
    (N3 (b, o) (List.mem_append_left _ (mem_rest hb (e0 b) (k2 b o e) (Nat.ne_of_lt (Nat.lt_trans (Heap.lt_size e) sz1))))).1
  refine wpAny_bind (wpAny_holding (wpAny_call_entry_kw slot_list_sort ⟨_, hD, rfl⟩ entry_list_sort ?_ (PyProof.Rows.ksk_l1 _ _)))
  rw [PyProof.Rows.ksk_t1]
  refine PyProof.Rows.ksk_sortSt (s := { s with heap := h2, toks := tk1 }) (kz := ns) (vs := acc.toList) F2 N2 hD hDL (e0 _) rest_ne hvl.symm (by rw [hvl, sizeLine_eq]; omega) (fun i v k hv hk h3 tk3 own F3 N3 => ?_) fun h' tk out c' F' N' ko => ⟨_, rfl, wpAny_pure ⟨_, rfl, ?_⟩⟩
  · obtain ⟨tv, rfl⟩ := hvs i v hv
    have hil : i < ns.length := by have := (List.getElem?_eq_some_iff.mp hk).1; exact this
    obtain ⟨oc, hoc, hdc⟩ := hc
    obtain ⟨ol, hol, hcl, nl, hdl⟩ := hl
    obtain ⟨cc, occ, vvs, tt, ecd, hcc, hdd⟩ := hcd
    obtain ⟨mc, ⟨om, ems, epm, hom, hrm⟩, hmc⟩ := hlim
    have get := at_ N3
    have hccL : cc ≠ L := fun z => hcdL (by rw [ecd, z])
    refine wpAny_mono (lam_call (s := { s with heap := h3, toks := tk3 }) (t := tv) (n := k) hroom ⟨mc, ⟨om, ems, epm, get _ _ hlimL hom, hrm⟩, hmc⟩ (get _ _ hfL ho) ⟨cc, occ, vvs, tt, ecd, get _ _ hccL hcc, hdd⟩ ⟨oc, get _ _ hcL hoc, hdc⟩ ⟨ol, get _ _ haL hol, hcl, nl, hdl⟩ hi hk (by omega))
      (fun rv s2 ⟨h', tk', t', e1, e2, kk⟩ => ⟨h', tk', t', e1, e2, ⟨F3.ns.keeps kk, fun b o e => (nomatch (show (none : Option Obj) = some o from e)), Nat.zero_le _⟩, fun q hq => ⟨kk _ _ (N3 q hq).1, (N3 q hq).2⟩⟩) fun _ _ z => z
  · refine h h1.objs.size h' tk out c' (fun b o hb e => ?_) F'.ns (Nat.le_of_lt sz1) (N' (h1.objs.size, seqObj "list" out c') List.mem_cons_self).1 (key_sorted hvl hvs ko)
    exact (N' (b, o) (List.mem_cons_of_mem _ (mem_rest hb (e0 b) (k2 b o e) (Nat.ne_of_lt (Nat.lt_trans (Heap.lt_size e) sz1))))).1
end
end L2
set_option Elab.async false
set_option linter.all false
set_option maxRecDepth 100000
namespace L2
open PySem PySem.Spec PyProof.Rows
def CodeO (c : Addr) (q : Str) : HO := .ext fun h => h.CodeRec (.ref c) q
theorem codeO_ok {P : Program} {w : World} {H : Hp} {h : Heap} {c : Addr} {q : Str} (T : h.CodeRec (.ref c) q) : ObjOk P w H h c (CodeO c q) := by
  obtain ⟨c', o, vs, t, e, ho, r⟩ := id T
  cases e
  refine ⟨T, ⟨o, ho⟩, fun h1 h2 T1 keep => ?_⟩
  obtain ⟨c', o, vs, t, e, ho, r⟩ := T1
  cases e
  exact ⟨c, o, vs, t, rfl, keep o ho, r⟩
/-- the table at T of a def that holds one lambda at pos: empty, or the lambda's code is there -/
def TabOk (H : Hp) (T : Addr) (pos : Pos) (q : Str) : Prop := H T = some (.tbl #[]) ∨ ∃ c, H T = some (.tbl #[rawInt pos.line, rawInt pos.col, .ref c]) ∧ H c = some (CodeO c q)
theorem Inv.table {X : Cx} {pins : List (Addr × Obj)} {σ : St} {H : Hp} {s : Shared} {h' : Heap} {T c : Addr} {ps more : Array Value} {q : Str} {tk : Nat} (I : Inv X pins σ H s) (hT : H T = some (.tbl ps)) (hx : Heap.ExtBut T s.heap h')
    (hT' : h'.get? T = some (PySem.W.tabObj (ps ++ more))) (hc : s.heap.objs.size ≤ c) (hr : h'.CodeRec (.ref c) q) : Inv X pins σ (upd (upd H T (.tbl (ps ++ more))) c (CodeO c q)) { s with heap := h', toks := tk } := by
  have cT : c ≠ T := fun z => absurd (I.hok.lt hT) (by rw [← z]; exact Nat.not_lt.mpr hc)
  have old : ∀ b o, s.heap.get? b = some o → b ≠ c := fun b o e z => absurd (Heap.lt_size e) (by rw [z]; exact Nat.not_lt.mpr hc)
  have trk' : ∀ b o, H b = some o → b ≠ c := fun b o e z => absurd (I.hok.lt e) (by rw [z]; exact Nat.not_lt.mpr hc)
  have nT : ∀ b, H b = none → b ≠ T := fun b e z => by rw [z, hT] at e; cases e
  refine I.step (g' := s.gens) (d' := s.drawn) (ch := []) (fun _ z => nomatch z) (fun b o _ _ _ e n => hx b o (nT b n) e) (fun b o _ _ _ e n => ⟨o.slots, hx b o (nT b n) e⟩) (fun b o _ e n => ?_) (fun b o _ e => ?_) (fun b xs e => ?_) (fun b o u e => ?_) (fun b qs e => ?_) (fun m hm => ?_) (fun b u e => ?_) I.bare
  · rw [upd_ne (old b o e), upd_ne (nT b n)]; exact n
  · by_cases z : b = T
    · rw [z]; exact ⟨_, hT'⟩
    · exact ⟨o, hx b o z e⟩
  · have z : b ≠ T := fun z => by rw [z, hT] at e; cases e
    rw [upd_ne (trk' b _ e), upd_ne z]; exact e
  · have z : b ≠ T := fun z => by rw [z, hT] at e; cases e
    rw [upd_ne (trk' b _ e), upd_ne z]; exact e
  · by_cases z : b = T
    · subst z
      rw [hT] at e
      cases e
      exact ⟨more, by rw [upd_ne (Ne.symm cT), upd_same]⟩
    · exact ⟨#[], by rw [upd_ne (trk' b _ e), upd_ne z, e]; simp⟩
  · obtain ⟨o, es, ep, ho, r⟩ := hm
    exact ⟨o, es, ep, hx _ o (nT _ I.free) ho, r⟩
  · by_cases zc : b = c
    · subst zc
      rw [upd_same] at e
      cases e
      exact codeO_ok hr
    · rw [upd_ne zc] at e
      by_cases zT : b = T
      · subst zT
        rw [upd_same] at e
        cases e
        exact hT'
      · rw [upd_ne zT] at e
        refine (I.hok b u e).stay (fun d v hd qd => hx d v ?_ qd) (fun d qd => ?_) fun d xs qd => ?_
        · rcases hd with rfl | hd
          · exact zT
          · intro z; rw [z, hT] at hd; cases hd
        · have z : d ≠ T := fun z => by rw [z, hT] at qd; cases qd
          rw [upd_ne (trk' d _ qd), upd_ne z]; exact qd
        · have z : d ≠ T := fun z => by rw [z, hT] at qd; cases qd
          rw [upd_ne (trk' d _ qd), upd_ne z]; exact qd
/-- what a def's body must know of itself to make its lambda -/
structure LamCx (X : Cx) (c0 T cc : Addr) (i : Nat) : Prop where
  code : X.env.code = .ref c0
  hd : PySem.W.CodeHd X.base c0 T
  cell : X.env.cells.lookup (Str.ofString "counts") = some cc
  slot : X.N[i]? = some (Str.ofString "counts")
  kind : X.env.kindOf (Str.ofString "counts") = some .cell
  vis : X.env.scope.names.lookup (Str.ofString "counts") = some .cell
  bm : ∃ bm o, X.mg "__builtins__" = some (.ref bm) ∧ bm ≠ builtinsNs ∧ bm ≠ mainGlobals ∧ X.base.get? bm = some o ∧ o.cls = .type "module" ∧ o.dict = some builtinsNs ∧ o.data = .plain
theorem clos_of {env : Env} {cc : Addr} (h : env.cells.lookup (Str.ofString "counts") = some cc) : closureFor lamScope env = pure [(Str.ofString "counts", cc)] := by
  unfold closureFor cellOf
  simp [lamScope, h]
/-- all that was tracked is as it was, but the table at T, which is as it should be -/
def SameT (T : Addr) (pos : Pos) (q : Str) (H H' : Hp) : Prop := (∀ b o, H b = some o → b ≠ T → H' b = some o) ∧ TabOk H' T pos q
section
variable {X : Cx}
def tSortKey (K : PySem.W.Frag) (i : Nat) (T : Addr) (lpos : Pos) (q : Str) (te : TE) : TE := fun σ H Q => te σ H fun x H1 => ∃ (r a : Addr) (ns : List Int), x = .ref r ∧ H1 r = some (.rng 0 ns.length) ∧ σ[i]? = some (some (.ref a)) ∧ SqL K H1 a (ns.map V.int) ∧ ns.length ≤ 2 ^ 20 ∧
  TabOk H1 T lpos q ∧ ∀ (H2 : Hp) (D : Addr) (os : List Int), SameT T lpos q H1 H2 → H2 D = none → KeySorted (fun k => ns.getD k 0) ns.length os → Q (.ref D) (upd H2 D (.lst (os.map V.int)))
theorem sameT_refl {T : Addr} {pos : Pos} {q : Str} {H : Hp} (h : TabOk H T pos q) : SameT T pos q H H := ⟨fun _ _ e _ => e, h⟩
theorem pe_sortKey {e : Expr} {te : TE} {p pa p1 p2 p3 lpos kpos pos : Pos} {c0 T cc : Addr} {i k : Nat} (hr : Room (k + 2) X.A) (hcalm : X.calm = true) (hg : Gl X "sorted") (hm : X.mg "sorted" = none) (L : LamCx X c0 T cc i) (he : PE X e te)
    (hs : starEach [e] X.env = [(false, eval e X.env)] := by rfl) :
    PE X (.Call (.Name "sorted" p) [e] [⟨some "key", .Lambda (lamParams pa) (lamBody p1 p2 p3) lamScope lpos, kpos⟩] pos) (tSortKey X.K i T lpos (X.env.qual ++ "<lambda>") te) := by
  intro pins s σ H Q I h
  refine wpAny_Call_Name_kw (ld_blt I hg hm (by decide +kernel : bootBuiltins "sorted" = some (.builtin "sorted")) ?_)
  refine callWith_kw ?_ (by rw [hs]; rfl) (by rw [hs]; rfl) rfl rfl
  rw [hs]
  refine Calls.spliced_cons (thn (he pins s σ H _ I h) fun u s1 ⟨x, H1, I1, r1, r, a, ns, ex, hrg, hσ, hsq, hlen, tab, q⟩ => Calls.spliced_nil ?_)
  subst ex
  cases r1
  -- the lambda
  have fin : ∀ (H2 : Hp) (s2 : Shared) (f : Addr) (pm cdv ctv : Value), Inv X pins σ H2 s2 → SameT T lpos (X.env.qual ++ "<lambda>") H1 H2 → s2.heap.get? f = some { cls := .type "function", data := .func (lamFn (X.env.qual ++ "<lambda>") pa p1 p2 p3 cc pm cdv ctv) } →
      s2.heap.CodeRec cdv (X.env.qual ++ "<lambda>") → f ≠ X.env.locals → cdv ≠ .ref X.env.locals →
      wpAny (model X.prog X.w) X.A (call (.builtin "sorted") [.ref r] [(Str.ofString "key", .ref f)]) (EP X pins σ Q) X.xe s2 := by
    intro H2 s2 f pm cdv ctv I2 sm hf hcd hfL hcdL
    have nT : r ≠ T := fun z => by rcases tab with t | ⟨c, t, _⟩ <;> (rw [← z, hrg] at t; cases t)
    have hrg2 : H2 r = some (.rng 0 ns.length) := sm.1 r _ hrg nT
    obtain ⟨t1, t2, t3, hor⟩ := I2.hok r _ hrg2
    have hsq2 : SqL X.K H2 a (ns.map V.int) := by
      rcases hsq with (z | ⟨o, z⟩) | z
      · exact .inl (.inl (sm.1 a _ z fun w => by rcases tab with t | ⟨c, t, _⟩ <;> (rw [← w, z] at t; cases t)))
      · exact .inl (.inr ⟨o, sm.1 a _ z fun w => by rcases tab with t | ⟨c, t, _⟩ <;> (rw [← w, z] at t; cases t)⟩)
      · exact .inr z
    obtain ⟨its, rv, pl, _⟩ := I2.list hsq2
    obtain ⟨m, hn, hl⟩ := I2.loc
    obtain ⟨u, ru, lk⟩ := hl i _ _ L.slot hσ (.inr (.inl L.vis))
    cases ru
    have hcell : s2.heap.IsCell cc (some (.ref a)) := by
      rcases lk with ⟨kl, _⟩ | ⟨_, c, hc, z⟩
      · rw [L.kind] at kl; cases kl
      · rw [L.cell] at hc; cases hc; exact z
    have haL : a ≠ X.env.locals := by
      intro w
      rcases hsq2 with (z | ⟨o, z⟩) | ⟨o, its', n, z, _⟩
      · rw [w, I2.free] at z; cases z
      · rw [w, I2.free] at z; cases z
      · have z' := I2.ok.mod.kin a o z
        have := Heap.lt_size z'
        rw [w] at this
        exact absurd (Nat.lt_of_lt_of_le this I2.ok.bsz) (Nat.not_lt.mpr I2.ok.above)
    obtain ⟨mc, hmc, _⟩ := I2.ok.mod.nolimit
    have hst : cStatics ≠ X.env.locals := fun w => by
      have := hmc.lt
      rw [w] at this
      exact absurd (Nat.lt_of_lt_of_le this I2.ok.bsz) (Nat.not_lt.mpr I2.ok.above)
    refine sorted_key (L := X.env.locals) (I2.ok.hd hcalm) (hr.in1.in1).depth I2.nolimit (hor) hlen hn hfL (I2.cne _ _ L.cell) haL hcdL hst hf hcd hcell pl.isList rv.ints fun D h' tk out c' kp hn' hD hDo ⟨os, hio, ks⟩ => ?_
    have hDn : ∀ b o, s2.heap.get? b = some o → b ≠ D := fun b o e2 w => absurd (Heap.lt_size e2) (by rw [w]; exact Nat.not_lt.mpr hD)
    have tDn : ∀ b o, H2 b = some o → b ≠ D := fun b o e2 w => absurd (I2.hok.lt e2) (by rw [w]; exact Nat.not_lt.mpr hD)
    have nL : ∀ b o, H2 b = some o → b ≠ X.env.locals := fun b o e2 w => by rw [w, I2.free] at e2; cases e2
    have hf2 : H2 D = none := I2.hok.fresh hD
    have hvals : Vals (os.map V.int) out.toList := vals_ints hio
    have hol : os.length = ns.length := by obtain ⟨xs, e1, e2, _⟩ := ks; rw [e1, List.length_map, e2.length_eq, List.length_range]
    refine ⟨.ref D, upd H2 D (.lst (os.map V.int)), ?_, rfl, q H2 D os sm hf2 ks⟩
    refine I2.step (g' := s2.gens) (d' := s2.drawn) (ch := []) (fun _ z => nomatch z) (fun b o hb _ _ e2 n => kp b o hb e2) (fun b o hb _ _ e2 n => ⟨o.slots, kp b o hb e2⟩) (fun b o _ e2 n => by rw [upd_ne (hDn b o e2)]; exact n) (fun b o _ e2 => ?_)
      (fun b xs e2 => by rw [upd_ne (tDn b _ e2)]; exact e2) (fun b o u e2 => by rw [upd_ne (tDn b _ e2)]; exact e2) (fun b ps e2 => ⟨#[], by rw [upd_ne (tDn b _ e2), e2]; simp⟩) (fun m' hm' => ns_same hn hn' hm') (fun b u e2 => ?_) I2.bare
    · by_cases z : b = X.env.locals
      · obtain ⟨o', _, _, ho', _⟩ := hn'
        exact ⟨o', by rw [z]; exact ho'⟩
      · exact ⟨o, kp b o z e2⟩
    · by_cases z : b = D
      · subst z
        rw [upd_same] at e2
        cases e2
        exact ⟨by rw [List.length_map, hol, sizeLine_eq]; omega, out.toList, c', hvals, hDo⟩
      · rw [upd_ne z] at e2
        refine (I2.hok b u e2).stay (fun d v hd qd => kp d v ?_ qd) (fun d qd => by rw [upd_ne (tDn d _ qd)]; exact qd) fun d xs qd => by rw [upd_ne (tDn d _ qd)]; exact qd
        rcases hd with rfl | hd
        · exact nL _ _ e2
        · exact nL _ _ hd
  have hcl := clos_of L.cell
  have hgs := I1.mod.glob.keeps I1.bk
  have hT0 : ∃ ps, H1 T = some (.tbl ps) := by rcases tab with t | ⟨c, t, _⟩ <;> exact ⟨_, t⟩
  obtain ⟨ps, hT⟩ := hT0
  have hgP : mainGlobals ≠ T := fun z => by
    obtain ⟨o, _, _, e, _⟩ := I1.mod.glob
    have := (I1.bs _ _ e).2
    rw [z, hT] at this; cases this
  obtain ⟨bm, ob, b1, b2, b3, b4, b5, b6, b7⟩ := L.bm
  have hbT : bm ≠ T := fun z => by
    have := (I1.bs _ _ b4).2
    rw [z, hT] at this; cases this
  have hb : s1.heap.BuiltinsAt X.mg T := ⟨bm, ob, b1, b2, b3, hbT, I1.bk _ _ b4, b5, b6, b7⟩
  have C : PySem.W.CodeHd s1.heap c0 T := L.hd.keeps I1.bk
  have hLs : X.env.locals < s1.heap.objs.size := I1.lt
  show wpAny _ _ (evalAll [(do let v ← eval (.Lambda (lamParams pa) (lamBody p1 p2 p3) lamScope lpos) X.env; standAt pos; pure v)]) _ _ _
  refine wpAny_evalAll_cons (wpAny_bind (PySem.W.kla_eval rfl ?_))
  rcases tab with t | ⟨c, t, hc⟩
  · have hP : s1.heap.get? T = some (PySem.W.tabObj #[]) := I1.hok T _ t
    refine PySem.W.kla_makeFunction (mg := X.mg) hcl I1.ok.glob hgs L.code C hP trivial rfl hgP hb fun c' ctv h' tk hx hge hlt hrec htb => ?_
    refine wpAny_bind (wpAny_standAt (wpAny_pure (wpAny_evalAll_nil ?_)))
    have I2 := I1.table (tk := tk) t hx htb hge hrec
    have cT : c' ≠ T := fun z => absurd (I1.hok.lt t) (by rw [← z]; exact Nat.not_lt.mpr hge)
    refine fin _ { s1 with heap := h'.push _, toks := tk } h'.objs.size _ (.ref c') ctv (I2.kept (t' := tk) fun b o e => Heap.get?_push_of_some _ e) ⟨fun b o e z => ?_, .inr ⟨c', ?_, upd_same⟩⟩ (Heap.get?_push_size _ rfl) (hrec.push _) ?_ ?_
    · rw [upd_ne (fun w => absurd (I1.hok.lt e) (by rw [w]; exact Nat.not_lt.mpr hge)), upd_ne z]; exact e
    · rw [upd_ne (Ne.symm cT), upd_same]; simp
    · exact Nat.ne_of_gt (Nat.lt_trans (Nat.lt_of_lt_of_le hLs hge) hlt)
    · intro w; injection w with w; exact absurd hLs (by rw [← w]; exact Nat.not_lt.mpr hge)
  · have hP : s1.heap.get? T = some (PySem.W.tabObj #[rawInt lpos.line, rawInt lpos.col, .ref c]) := I1.hok T _ t
    refine PySem.W.kla_makeFunctionHit (mg := X.mg) (cv := .ref c) hcl I1.ok.glob hgs L.code C hP trivial (by simp [codeAmong, rawInt]) hb fun ctv h' tk hk hsz => ?_
    refine wpAny_bind (wpAny_standAt (wpAny_pure (wpAny_evalAll_nil ?_)))
    have I2 : Inv X pins σ H1 { s1 with heap := h', toks := tk } := I1.kept hk
    have rcd : s1.heap.CodeRec (.ref c) (X.env.qual ++ "<lambda>") := (I1.hok c _ hc).1
    refine fin H1 { s1 with heap := h'.push _, toks := tk } h'.objs.size _ (.ref c) ctv (I2.kept (t' := tk) fun b o e => Heap.get?_push_of_some _ e) (sameT_refl (.inr ⟨c, t, hc⟩)) (Heap.get?_push_size _ rfl) ((rcd.keeps hk).push _) (Nat.ne_of_gt (Nat.lt_of_lt_of_le hLs hsz)) ?_
    intro w
    injection w with w
    rw [w, I1.free] at hc; cases hc
end
end L2
set_option Elab.async false
set_option linter.all false
set_option maxRecDepth 100000
namespace L2
open PySem PySem.Spec PyProof.Rows
structure Walks (J : It) (Ok : Hp → Prop) (n : Nat) (P : Nat → V → Hp → Prop) : Prop where
  go : ∀ i H, Ok H → i < n → J.go i H
  yld : ∀ i H x H', Ok H → i < n → J.yld i H x H' → Same H H' ∧ P i x H'
  stop : ∀ i H, Ok H → n ≤ i → J.stop i H
theorem same_new' {H : Hp} {p : Addr} (h : H p = none) (o : HO) : Same H (upd H p o) := fun b u q => by rw [upd_ne (ne_of_none q h)]; exact q
theorem Walks.list {K : PySem.W.Frag} {a : Addr} {xs : List V} : Walks (Itl K a) (fun H => SqL K H a xs) xs.length (fun i x _ => xs[i]? = some x) where
  go := fun i H h hi => ⟨xs, xs[i], h, List.getElem?_eq_getElem hi⟩
  yld := fun i H x H' h hi y => by obtain ⟨rfl, y⟩ := y; exact ⟨Same.refl _, y xs h⟩
  stop := fun i H h hi => ⟨xs, h, hi⟩
theorem Walks.rng {lo : Int} {n : Nat} : Walks (Itr lo n) (fun _ => True) n (fun i x _ => x = .int (lo + i)) where
  go := fun i H _ hi => hi
  yld := fun i H x H' _ hi y => by obtain ⟨rfl, y⟩ := y; exact ⟨Same.refl _, y⟩
  stop := fun i H _ hi => hi
theorem Walks.enum {K : PySem.W.Frag} {a : Addr} {xs : List V} : Walks (Ite K a) (fun H => SqL K H a xs) xs.length (fun i v H' => ∃ T x, v = .ref T ∧ H' T = some (.tup [.int (i : Nat), x]) ∧ xs[i]? = some x) where
  go := fun i H h hi => ⟨xs, xs[i], h, List.getElem?_eq_getElem hi⟩
  yld := fun i H x H' h hi y => by obtain ⟨T, z, rfl, hT, rfl, y⟩ := y; exact ⟨same_new' hT _, T, z, rfl, upd_same, y xs h⟩
  stop := fun i H h hi => ⟨xs, h, hi⟩
theorem Walks.zip {K : PySem.W.Frag} {a b : Addr} {xs ys : List V} {n : Nat} (hn : n = min xs.length ys.length) : Walks (Itz K a b) (fun H => SqL K H a xs ∧ SqL K H b ys) n (fun i v H' => ∃ T x y, v = .ref T ∧ H' T = some (.tup [x, y]) ∧ xs[i]? = some x ∧ ys[i]? = some y) where
  go := fun i H h hi => ⟨xs, ys, xs[i]'(by omega), ys[i]'(by omega), h.1, h.2, List.getElem?_eq_getElem _, List.getElem?_eq_getElem _⟩
  yld := fun i H x H' h hi y => by obtain ⟨T, z, z', rfl, hT, rfl, y, y'⟩ := y; exact ⟨same_new' hT _, T, z, z', rfl, upd_same, y xs h.1, y' ys h.2⟩
  stop := fun i H h hi => ⟨xs, ys, h.1, h.2, by omega⟩
theorem filter_range_succ (keep : Nat → Bool) (i : Nat) : (List.range (i + 1)).filter keep = (List.range i).filter keep ++ (if keep i = true then [i] else []) := by
  rw [List.range_succ, List.filter_append, List.filter_cons, List.filter_nil]
/-- the reading of a comprehension -/
theorem lc_walk {J : It} {Ok : Hp → Prop} {n : Nat} {P : Nat → V → Hp → Prop} {g : TG} {tt : TT} {te : TE} {vs : List Nat} {σ : St} {H1 : Hp} {D : Addr} {Qd : Hp → Prop} (W : Walks J Ok n P) (hD : H1 D = none) (hok : ∀ H, Same H1 H → Ok H) (hz : n ≤ 1000000)
    (keep : Nat → Bool) (R : Nat → V → Hp → Prop) (mono : ∀ i y H H', R i y H → (∃ l, H D = some (.lst l)) → (∀ b o, H b = some o → b ≠ D → H' b = some o) → R i y H')
    (step : ∀ (Nx : Hp → Prop) i x H, i < n → Same H1 H → P i x H → (∀ H', Same H H' → keep i = false → Nx H') →
      (∀ y H', Same H H' → keep i = true → R i y H' → ∃ acc, H' D = some (.lst acc) ∧ acc.length < sizeLine ∧ Nx (upd H' D (.lst (acc ++ [y])))) →
      g x (wipe σ vs) H fun σ2 H2 => wipe σ2 vs = wipe σ vs ∧ tt σ2 H2 fun b H3 => if b = true then te σ2 H3 fun y H4 => ∃ acc, H4 D = some (.lst acc) ∧ acc.length < sizeLine ∧ Nx (upd H4 D (.lst (acc ++ [y]))) else Nx H3)
    (done : ∀ H' ys, Same H1 H' → H' D = some (.lst ys) → Paired (fun i y => R i y H') ((List.range n).filter keep) ys → Qd H') :
    ∃ W : Nat → Nat → Hp → Prop, (∃ m, W 0 m (upd H1 D (.lst []))) ∧ ∀ i m H, W i m H → (J.stop i H ∧ Qd H) ∨ (J.go i H ∧ ∃ Nx : Hp → Prop, (∀ H', Nx H' → ∃ m', m' < m ∧ W (i + 1) m' H') ∧ ∀ x H', J.yld i H x H' →
      g x (wipe σ vs) H' fun σ2 H2 => wipe σ2 vs = wipe σ vs ∧ tt σ2 H2 fun b H3 => if b = true then te σ2 H3 fun y H4 => ∃ acc, H4 D = some (.lst acc) ∧ acc.length < sizeLine ∧ Nx (upd H4 D (.lst (acc ++ [y]))) else Nx H3) := by
  have len : ∀ {l : List Nat} {ys : List V} {H : Hp}, Paired (fun i y => R i y H) l ys → ys.length = l.length := fun p => p.length.symm
  refine ⟨fun i m H => m = n - i ∧ i ≤ n ∧ Same H1 H ∧ ∃ ys, H D = some (.lst ys) ∧ Paired (fun i y => R i y H) ((List.range i).filter keep) ys, ⟨n, by simp, Nat.zero_le _, same_new' hD _, [], upd_same, .nil⟩, ?_⟩
  rintro i m H ⟨rfl, hi, sm, ys, hy, pr⟩
  have ok := hok H sm
  by_cases hlt : i < n
  · refine .inr ⟨W.go i H ok hlt, fun H' => i + 1 ≤ n ∧ Same H1 H' ∧ ∃ ys, H' D = some (.lst ys) ∧ Paired (fun i y => R i y H') ((List.range (i + 1)).filter keep) ys, fun H' ⟨h1, h2, h3⟩ => ⟨n - (i + 1), by omega, rfl, h1, h2, h3⟩, fun x H' y => ?_⟩
    obtain ⟨s1, p1⟩ := W.yld i H x H' ok hlt y
    refine step _ i x H' hlt (sm.trans s1) p1 (fun H2 s2 kf => ⟨hlt, sm.trans (s1.trans s2), ys, s2 _ _ (s1 _ _ hy), ?_⟩) fun z H2 s2 kt r => ⟨ys, s2 _ _ (s1 _ _ hy), ?_, hlt, ?_, ys ++ [z], upd_same, ?_⟩
    · rw [filter_range_succ, if_neg (by rw [kf]; exact Bool.false_ne_true), List.append_nil]
      exact Paired.mapP pr fun j v h => mono j v _ _ h ⟨ys, hy⟩ fun b o e _ => s2 _ _ (s1 _ _ e)
    · rw [len pr]
      have := List.length_filter_le keep (List.range i)
      rw [List.length_range] at this
      rw [sizeLine_eq]
      omega
    · intro b o e
      have hb : b ≠ D := ne_of_none e hD
      rw [upd_ne hb]
      exact s2 _ _ (s1 _ _ (sm b o e))
    · rw [filter_range_succ, if_pos kt]
      have up : ∀ b o, H2 b = some o → b ≠ D → upd H2 D (.lst (ys ++ [z])) b = some o := fun b o e hb => by rw [upd_ne hb]; exact e
      exact Paired.snoc (Paired.mapP pr fun j v h => mono j v _ _ h ⟨ys, hy⟩ fun b o e hb => up b o (s2 _ _ (s1 _ _ e)) hb) (mono i z _ _ r ⟨ys, s2 _ _ (s1 _ _ hy)⟩ up)
  · have e : i = n := by omega
    subst e
    exact .inl ⟨W.stop i H ok (Nat.le_refl _), done H ys sm hy pr⟩
/-- the turns of a for -/
theorem for_walk {J : It} {Ok : Hp → Prop} {n : Nat} {P : Nat → V → Hp → Prop} {g : TG} {tb : TS} {D : Ends} {σ : St} {H1 : Hp} (W : Walks J Ok n P) (Pv : Nat → St → Hp → Prop) (hok : ∀ i σ H, Pv i σ H → Ok H) (h0 : Pv 0 σ H1)
    (hs : ∀ i x σ H H', i < n → Pv i σ H → Same H H' → P i x H' → g x σ H' fun σ2 H2 => tb { D with nx := Pv (i + 1), ct := Pv (i + 1), bk := D.nx } σ2 H2) (hd : ∀ σ H, Pv n σ H → D.nx σ H) :
    ∃ W : Nat → Nat → St → Hp → Prop, (∃ m, W 0 m σ H1) ∧ ∀ i m σ H, W i m σ H →
      (J.stop i H ∧ D.nx σ H) ∨ (J.go i H ∧ ∃ N : St → Hp → Prop, (∀ σ' H', N σ' H' → ∃ m', m' < m ∧ W (i + 1) m' σ' H') ∧ ∀ x H', J.yld i H x H' → g x σ H' fun σ2 H2 => tb { D with nx := N, ct := N, bk := D.nx } σ2 H2) := by
  refine ⟨fun i m σ H => m = n - i ∧ i ≤ n ∧ Pv i σ H, ⟨n, by simp, Nat.zero_le _, h0⟩, ?_⟩
  rintro i m σ H ⟨rfl, hi, p⟩
  have ok := hok i σ H p
  by_cases hlt : i < n
  · refine .inr ⟨W.go i H ok hlt, Pv (i + 1), fun σ' H' p' => ⟨n - (i + 1), by omega, rfl, hlt, p'⟩, fun x H' y => ?_⟩
    obtain ⟨s1, p1⟩ := W.yld i H x H' ok hlt y
    exact hs i x σ H H' hlt p s1 p1
  · have e : i = n := by omega
    subst e
    exact .inl ⟨W.stop i H ok (Nat.le_refl _), hd σ H p⟩
structure Df (P : Program) (w : World) (K : PySem.W.Frag) (mg : Str → Option Value) (base : Heap) (k : Nat) (x : Str) (ps : List Str) (sp : Sp) : Prop where
  ex : ∃ f fd, FnOk P w K mg base CX0 k f fd ps sp ∧ mg x = some (.ref f) ∧ PySem.W.keepIn K (.ref f) = true ∧ Binds K fd ps []
section
variable {X : Cx}
def tDf (sp : Sp) (t : TA) : TE := fun σ H Q => t σ H fun vs H1 => sp vs H1 Q E0
theorem pe_df {k : Nat} {x : Str} {ps : List Str} {sp : Sp} {p pos : Pos} {e : Expr} {es : List Expr} {t : TA} (G : Df X.prog X.w X.K X.mg X.base k x ps sp) (hr : Room k X.A) (ha : PA X (e :: es) t) (hg : Gl X x := by rfl) (hdb : (x == ("__debug__" : Str)) = false := by decide)
    (he : starEach (e :: es) X.env = (false, eval e X.env) :: starEach es X.env := by rfl) (hpl : (backTo pos (starEach es X.env)).any (·.1) = false := by rfl) : PE X (.Call (.Name x p) (e :: es) [] pos) (tDf sp t) := by
  obtain ⟨f, fd, F, hm, hk, hb⟩ := G.ex
  intro pins s σ H Q I h
  have q := pe_call (p := p) (pos := pos) F hr hg hm hk hb .nil (pass0 (X := X)) ha hdb he hpl
  refine q pins s σ H Q I ?_
  have e1 : tCall sp [] E0 t = tDf sp t := by
    funext σ H Q
    show t σ H (fun vs H1 => sp (vs ++ []) H1 Q E0) = t σ H fun vs H1 => sp vs H1 Q E0
    congr 1
    funext vs H1
    rw [List.append_nil]
  rw [e1]
  exact h
end
end L2
set_option Elab.async false
set_option linter.all false
set_option maxRecDepth 100000
set_option maxHeartbeats 4000000
namespace Tip
open PySem PySem.Spec PyProof.Rows L2
def top (i : Nat) : Stmt := PySem.Challenge.pw_tipwebs_k02_whole_rows.main.body.getD i (.Pass ⟨0, 0, 0, 0⟩)
structure Blt (mg : Str → Option Value) : Prop where
  isinstance : mg "isinstance" = none
  int_ : mg "int" = none
  bool_ : mg "bool" = none
  list_ : mg "list" = none
  tuple_ : mg "tuple" = none
  len : mg "len" = none
  range : mg "range" = none
  zip : mg "zip" = none
  enumerate : mg "enumerate" = none
  all : mg "all" = none
  any : mg "any" = none
  set : mg "set" = none
  sum : mg "sum" = none
  sorted : mg "sorted" = none
  min : mg "min" = none
  max : mg "max" = none
  abs : mg "abs" = none
  c_MOST_PLACES : ∃ t, mg "MOST_PLACES" = some (.int 40 t)
/-- a def of the top -/
def HasDef (K : PySem.W.Frag) (mg : Str → Option Value) (x : Str) (st : Stmt) (ps : List Str) : Prop := ∃ f fd, Fun K x x st f fd ∧ mg x = some (.ref f) ∧ Binds K fd ps []
section
variable {P : Program} {w : World} {K : PySem.W.Frag} {mg : Str → Option Value} {base : Heap}
theorem HasDef.df {x : Str} {st : Stmt} {ps : List Str} {k : Nat} {sp : Sp} (h : HasDef K mg x st ps) (ok : ∀ f fd, Fun K x x st f fd → FnOk P w K mg base CX0 k f fd ps sp) : Df P w K mg base k x ps sp := by
  obtain ⟨f, fd, F, hm, hb⟩ := h
  exact ⟨f, fd, ok f fd F, hm, F.kp, hb⟩
abbrev s_is_number : Stmt := top 10
theorem sc_is_number : FnScope ["value"] ["value"] (defScope s_is_number) := ⟨rfl, rfl, rfl, by decide +kernel, rfl, by decide +kernel, by decide +kernel⟩
def isNum (k : String) : Bool := isa k "int" && !isa k "bool"
def sp_is_number (K : PySem.W.Frag) : Sp := fun vs H Q _ => ∃ x k, vs = [x] ∧ KindV K H x k ∧ Q (.bl (isNum k)) H
theorem df_is_number (T : Blt mg) (h : HasDef K mg "is_number" s_is_number ["value"]) : Df P w K mg base 1 "is_number" ["value"] (sp_is_number K) := h.df fun f fd F => by
  refine F.ok sc_is_number (fun vs H Q E h => ?_) (fun cdv A outer s H vs Q E hr h => ?_)
  · obtain ⟨x, k, rfl, _⟩ := h; rfl
  obtain ⟨x, k, rfl, hk, q⟩ := h
  have nd := sc_is_number.nd
  refine ⟨_, (pss_one (ps_ret (pe_and (pe_callB cr_isa rfl T.isinstance (by decide +kernel) (pa_cons (pv 0) (pa_cons (pe_bltn rfl T.int_ (by decide +kernel) (v := .ty "int") rfl) pa_nil))) (pe_one (pe_not (pe_callB cr_isa rfl T.isinstance (by decide +kernel) (pa_cons (pv 0) (pa_cons (pe_bltn rfl T.bool_ (by decide +kernel) (v := .ty "bool") rfl) pa_nil)))))))), ?_⟩
  refine ⟨x, rfl, x, "int", k, rfl, hk, .inl rfl, _, rfl, ?_⟩
  refine ite2 (fun c => ?_) (fun c => ?_)
  · refine ⟨x, rfl, x, "bool", k, rfl, hk, .inr (.inl rfl), _, rfl, ?_⟩
    unfold isNum at q
    rw [c, Bool.true_and] at q
    exact q
  · unfold isNum at q
    rw [Bool.eq_false_iff.mpr c, Bool.false_and] at q
    exact q
abbrev s_is_count_of_places : Stmt := top 11
theorem sc_is_count_of_places : FnScope ["value"] ["value"] (defScope s_is_count_of_places) := ⟨rfl, rfl, rfl, by decide +kernel, rfl, by decide +kernel, by decide +kernel⟩
/-- an int alone is asked here -/
def sp_is_count_of_places (K : PySem.W.Frag) : Sp := fun vs H Q _ => ∃ i, vs = [.int i] ∧ ∀ H', Same H H' → Q (.bl (decide (1 ≤ i) && decide (i < 41))) H'
structure G2 (P : Program) (w : World) (K : PySem.W.Frag) (mg : Str → Option Value) (base : Heap) : Prop where
  is_number : Df P w K mg base 1 "is_number" ["value"] (sp_is_number K)
theorem df_is_count_of_places (T : Blt mg) (G : G2 P w K mg base) (h : HasDef K mg "is_count_of_places" s_is_count_of_places ["value"]) : Df P w K mg base 2 "is_count_of_places" ["value"] (sp_is_count_of_places K) := h.df fun f fd F => by
  refine F.ok sc_is_count_of_places (fun vs H Q E h => ?_) (fun cdv A outer s H vs Q E hr h => ?_)
  · obtain ⟨i, rfl, _⟩ := h; rfl
  obtain ⟨i, rfl, q⟩ := h
  have nd := sc_is_count_of_places.nd
  obtain ⟨tk, h_MOST_PLACES⟩ := T.c_MOST_PLACES
  refine ⟨_, (pss_one (ps_ret (pe_and (pe_df G.is_number (hr.mono (by decide)) (pa_cons (pv 0) pa_nil)) (pe_one (pe_cmpR op_inR (pv 0) (pe_callTy call_rng rfl T.range (by decide +kernel) (pa_cons pe_int (pa_cons (pe_op op_add (pe_glob (v := .int 40) rfl h_MOST_PLACES ⟨_, rfl⟩) pe_int) pa_nil))) (by rfl)))))), ?_⟩
  refine ⟨_, rfl, .int i, "int", rfl, rfl, true, rfl, iteT ?_⟩
  refine ⟨_, rfl, _, _, rfl, rfl, 1, 41, .inr rfl, fun p hp => ⟨i, p, 1, 41, rfl, rfl, upd_same, ?_⟩⟩
  exact q _ (same_new' hp _)
abbrev s_is_place : Stmt := top 12
theorem sc_is_place : FnScope ["value", "places"] ["value", "places"] (defScope s_is_place) := ⟨rfl, rfl, rfl, by decide +kernel, rfl, by decide +kernel, by decide +kernel⟩
def sp_is_place (K : PySem.W.Frag) : Sp := fun vs H Q _ => ∃ i n, vs = [.int i, .int n] ∧ ∀ H', Same H H' → Q (.bl (decide (0 ≤ i) && decide (i < n))) H'
theorem df_is_place (T : Blt mg) (G : G2 P w K mg base) (h : HasDef K mg "is_place" s_is_place ["value", "places"]) : Df P w K mg base 2 "is_place" ["value", "places"] (sp_is_place K) := h.df fun f fd F => by
  refine F.ok sc_is_place (fun vs H Q E h => ?_) (fun cdv A outer s H vs Q E hr h => ?_)
  · obtain ⟨i, n, rfl, _⟩ := h; rfl
  obtain ⟨i, n, rfl, q⟩ := h
  have nd := sc_is_place.nd
  refine ⟨_, (pss_one (ps_ret (pe_and (pe_df G.is_number (hr.mono (by decide)) (pa_cons (pv 0) pa_nil)) (pe_one (pe_cmpR op_inR (pv 0) (pe_callTy call_rng rfl T.range (by decide +kernel) (pa_cons (pv 1) pa_nil)) (by rfl)))))), ?_⟩
  refine ⟨_, rfl, .int i, "int", rfl, rfl, true, rfl, iteT ?_⟩
  refine ⟨_, rfl, _, rfl, 0, n, .inl ⟨rfl, rfl⟩, fun p hp => ⟨i, p, 0, n, rfl, rfl, upd_same, ?_⟩⟩
  exact q _ (same_new' hp _)
end
end Tip
set_option Elab.async false
set_option linter.all false
set_option maxRecDepth 100000
set_option maxHeartbeats 4000000
namespace Tip
open PySem PySem.Spec PyProof.Rows L2
def TupI (H : Hp) (r : Addr) (t : Int × Int) : Prop := H r = some (.tup [.int t.1, .int t.2])
def Ties (K : PySem.W.Frag) (H : Hp) (a : Addr) (ts : List (Int × Int)) : Prop := ∃ rs : List Addr, SqL K H a (rs.map V.ref) ∧ Paired (TupI H) rs ts
theorem Ties.same {K : PySem.W.Frag} {H H' : Hp} {a : Addr} {ts : List (Int × Int)} (e : Same H H') (h : Ties K H a ts) : Ties K H' a ts := by
  obtain ⟨rs, h1, h2⟩ := h
  exact ⟨rs, e.seq h1, Paired.mapP h2 fun r t q => e _ _ q⟩
theorem Paired.at {α β : Type} {F : α → β → Prop} : ∀ {l₁ : List α} {l₂ : List β} {i : Nat} {x : α}, Paired F l₁ l₂ → l₁[i]? = some x → ∃ y, l₂[i]? = some y ∧ F x y
  | _, _, _, _, .nil, e => by simp at e
  | _, _, 0, _, .cons r _, e => by simp at e; subst e; exact ⟨_, rfl, r⟩
  | _, _, i + 1, x, .cons _ t, e => by
    obtain ⟨y, h1, h2⟩ := Paired.at (i := i) (x := x) t (by simpa using e)
    exact ⟨y, by simpa using h1, h2⟩
theorem Paired.at' {α β : Type} {F : α → β → Prop} : ∀ {l₁ : List α} {l₂ : List β} {i : Nat} {y : β}, Paired F l₁ l₂ → l₂[i]? = some y → ∃ x, l₁[i]? = some x ∧ F x y
  | _, _, _, _, .nil, e => by simp at e
  | _, _, 0, _, .cons r _, e => by simp at e; subst e; exact ⟨_, rfl, r⟩
  | _, _, i + 1, y, .cons _ t, e => by
    obtain ⟨x, h1, h2⟩ := Paired.at' (i := i) (y := y) t (by simpa using e)
    exact ⟨x, by simpa using h1, h2⟩
/-- a tie as a key -/
def tk (t : Int × Int) : List Key := [.inl t.1, .inl t.2]
theorem tk_inj {s t : Int × Int} (h : tk s = tk t) : s = t := by
  unfold tk at h
  injection h with h1 h2
  injection h2 with h2 _
  injection h1 with h1
  injection h2 with h2
  exact Prod.ext h1 h2
def tieOk (n : Int) (t : Int × Int) : Bool := (decide (0 ≤ t.1) && decide (t.1 < n)) && ((decide (0 ≤ t.2) && decide (t.2 < n)) && decide (t.1 < t.2))
structure WebOk (n : Int) (ts : List (Int × Int)) : Prop where
  lo : 1 ≤ n
  hi : n ≤ 40
  all : ∀ t ∈ ts, tieOk n t = true
  nd : ts.Nodup
  few : ts.length ≤ 1000
section
variable {P : Program} {w : World} {K : PySem.W.Frag} {mg : Str → Option Value} {base : Heap}
structure G3 (P : Program) (w : World) (K : PySem.W.Frag) (mg : Str → Option Value) (base : Heap) : Prop where
  is_number : Df P w K mg base 1 "is_number" ["value"] (sp_is_number K)
  is_count_of_places : Df P w K mg base 2 "is_count_of_places" ["value"] (sp_is_count_of_places K)
  is_place : Df P w K mg base 2 "is_place" ["value", "places"] (sp_is_place K)
abbrev s_is_tie : Stmt := top 13
theorem sc_is_tie : FnScope ["value", "places", "low", "high"] ["value", "places"] (defScope s_is_tie) := ⟨rfl, rfl, rfl, by decide +kernel, rfl, by decide +kernel, by decide +kernel⟩
def sp_is_tie (K : PySem.W.Frag) : Sp := fun vs H Q _ => ∃ r n t, vs = [.ref r, .int n] ∧ TupI H r t ∧ ∀ H', Same H H' → Q (.bl (tieOk n t)) H'
theorem df_is_tie (T : Blt mg) (G : G3 P w K mg base) (h : HasDef K mg "is_tie" s_is_tie ["value", "places"]) : Df P w K mg base 3 "is_tie" ["value", "places"] (sp_is_tie K) := h.df fun f fd F => by
  refine F.ok sc_is_tie (fun vs H Q E h => ?_) (fun cdv A outer s H vs Q E hr h => ?_)
  · obtain ⟨r, n, t, rfl, _⟩ := h; rfl
  obtain ⟨r, n, t, rfl, ht, q⟩ := h
  have nd := sc_is_tie.nd
  refine ⟨_, (pss_cons (ps_if (PW.pt (pw_or (pt_not (pt_val (pe_callB cr_isa rfl T.isinstance (by decide +kernel) (pa_cons (pv 0) (pa_cons (pe_bltn rfl T.tuple_ (by decide +kernel) (v := .ty "tuple") rfl) pa_nil))))) (pw_or1 (pt_cmpR op_ne (pe_callB call_len_seq rfl T.len PySem.boot_len (pa_cons (pv 0) pa_nil)) pe_int (nomark _))))) (pss_one (ps_ret pe_bl)) pss_nil) (pss_cons (ps_asg (pv 0) (pg_tup rfl (pgs_cons (pg_name (i := 2) nd rfl (by first | exact Or.inl rfl | exact Or.inr rfl)) (pgs_cons (pg_name (i := 3) nd rfl (by first | exact Or.inl rfl | exact Or.inr rfl)) pgs_nil)))) (pss_one (ps_ret (pe_and (pe_df G.is_place (hr.mono (by decide)) (pa_cons (pv 2) (pa_cons (pv 1) pa_nil))) (pe_and (pe_df G.is_place (hr.mono (by decide)) (pa_cons (pv 3) (pa_cons (pv 1) pa_nil))) (pe_one (pe_cmpR op_lt (pv 2) (pv 3) (nomark _))))))))), ?_⟩
  refine ⟨_, rfl, _, "tuple", "tuple", rfl, .inr ⟨rfl, _, SqT.of ht⟩, .inr (.inr (.inr rfl)), _, rfl, iteF ?_⟩
  refine ⟨_, rfl, _, _, rfl, .inr (SqT.of ht), rfl, false, rfl, iteF ?_⟩
  refine ⟨_, rfl, _, _, rfl, SqT.of ht, rfl, _, _, rfl, _, _, rfl, rfl, ?_⟩
  refine ⟨_, rfl, _, rfl, t.1, n, rfl, fun H1 s1 => ⟨_, rfl, ?_⟩⟩
  unfold tieOk at q
  refine ite2 (fun c => ?_) (fun c => ?_)
  · rw [c, Bool.true_and] at q
    refine ⟨_, rfl, _, rfl, t.2, n, rfl, fun H2 s2 => ⟨_, rfl, ?_⟩⟩
    refine ite2 (fun c => ?_) (fun c => ?_)
    · rw [c, Bool.true_and] at q
      exact ⟨_, rfl, _, rfl, t.1, t.2, rfl, rfl, q _ (s1.trans s2)⟩
    · rw [Bool.eq_false_iff.mpr c, Bool.false_and] at q
      exact q _ (s1.trans s2)
  · rw [Bool.eq_false_iff.mpr c, Bool.false_and] at q
    exact q _ s1
abbrev s_check_places : Stmt := top 14
theorem sc_check_places : FnScope ["places"] ["places"] (defScope s_check_places) := ⟨rfl, rfl, rfl, by decide +kernel, rfl, by decide +kernel, by decide +kernel⟩
def sp_check_places : Sp := fun vs H Q _ => ∃ n, vs = [.int n] ∧ 1 ≤ n ∧ n ≤ 40 ∧ ∀ H', Same H H' → Q .non H'
theorem df_check_places (T : Blt mg) (G : G3 P w K mg base) (h : HasDef K mg "check_places" s_check_places ["places"]) : Df P w K mg base 3 "check_places" ["places"] sp_check_places := h.df fun f fd F => by
  refine F.ok sc_check_places (fun vs H Q E h => ?_) (fun cdv A outer s H vs Q E hr h => ?_)
  · obtain ⟨n, rfl, _⟩ := h; rfl
  obtain ⟨n, rfl, h1, h2, q⟩ := h
  have nd := sc_check_places.nd
  refine ⟨_, (pss_one (ps_if (pt_not (pt_val (pe_df G.is_count_of_places (hr.mono (by decide)) (pa_cons (pv 0) pa_nil)))) (pss_one ps_never) pss_nil)), ?_⟩
  refine ⟨_, rfl, n, rfl, fun H1 s1 => ⟨_, rfl, ?_⟩⟩
  rw [decide_eq_true h1, decide_eq_true (show n < 41 by omega)]
  exact iteF (q _ s1)
abbrev s_check_ties : Stmt := top 15
theorem sc_check_ties : FnScope ["places", "ties", "seen", "tie"] ["places", "ties"] (defScope s_check_ties) := ⟨rfl, rfl, rfl, by decide +kernel, rfl, by decide +kernel, by decide +kernel⟩
def sp_check_ties (K : PySem.W.Frag) : Sp := fun vs H Q _ => ∃ n a ts, vs = [.int n, .ref a] ∧ Ties K H a ts ∧ WebOk n ts ∧ ∀ H', Same H H' → Q .non H'
structure G4 (P : Program) (w : World) (K : PySem.W.Frag) (mg : Str → Option Value) (base : Heap) : Prop where
  is_tie : Df P w K mg base 3 "is_tie" ["value", "places"] (sp_is_tie K)
theorem df_check_ties (T : Blt mg) (G : G4 P w K mg base) (h : HasDef K mg "check_ties" s_check_ties ["places", "ties"]) : Df P w K mg base 4 "check_ties" ["places", "ties"] (sp_check_ties K) := h.df fun f fd F => by
  refine F.ok sc_check_ties (fun vs H Q E h => ?_) (fun cdv A outer s H vs Q E hr h => ?_)
  · obtain ⟨n, a, ts, rfl, _⟩ := h; rfl
  obtain ⟨n, a, ts, rfl, ht, ok, q⟩ := h
  have nd := sc_check_ties.nd
  obtain ⟨rs, hs, hp⟩ := id ht
  refine ⟨_, (pss_cons (ps_if (pt_not (pt_val (pe_callB cr_isa rfl T.isinstance (by decide +kernel) (pa_cons (pv 1) (pa_cons (pe_bltn rfl T.list_ (by decide +kernel) (v := .ty "list") rfl) pa_nil))))) (pss_one ps_never) pss_nil) (pss_cons (ps_set (i := 2) nd rfl (by first | exact Or.inl rfl | exact Or.inr rfl) (pe_callTy0 call_set0 rfl T.set (by decide +kernel))) (pss_one (ps_for PassesOwn.never rfl (pi_list (pv 1)) (pg_name (i := 3) nd rfl (by first | exact Or.inl rfl | exact Or.inr rfl)) (pss_cons (ps_if (pt_not (pt_val (pe_df G.is_tie (hr.mono (by decide)) (pa_cons (pv 3) (pa_cons (pv 0) pa_nil))))) (pss_one ps_never) pss_nil) (pss_cons (ps_if (pt_cmpR (op_inTS (hu_of hr)) (pv 3) (pv 2) (by rfl)) (pss_one ps_never) pss_nil) (pss_one (ps_expr (pe_addTS (hu_of hr) (pv 2) (pa_cons (pv 3) pa_nil)))))))))), ?_⟩
  refine ⟨_, rfl, _, "list", "list", rfl, .inl ⟨rfl, _, hs⟩, .inr (.inr (.inl rfl)), _, rfl, iteF ?_⟩
  refine ⟨rfl, fun sd es hsd its => ?_⟩
  refine ⟨_, rfl, a, rfl, ⟨_, (same_new' hsd _).seq hs⟩, ?_⟩
  refine for_walk (Walks.list (K := K) (a := a) (xs := rs.map V.ref)) (fun i σ H' => Same H H' ∧ (∃ x, σ = [some (.int n), some (.ref a), some (.ref sd), x]) ∧ IsTS P w H' sd ((ts.take i).map tk)) (fun i σ H' h => h.1.seq hs) ⟨same_new' hsd _, ⟨_, rfl⟩, its⟩ (fun i x σ H1 H2 hi hP s2 hx => ?_) (fun σ H' h => q _ h.1)
  obtain ⟨s1, ⟨y, rfl⟩, its1⟩ := hP
  rw [List.getElem?_map] at hx
  cases hr1 : rs[i]? with
  | none => rw [hr1] at hx; cases hx
  | some r =>
    rw [hr1] at hx
    have ex : x = .ref r := (Option.some.inj hx).symm
    subst ex
    obtain ⟨t, ht1, ht2⟩ := Paired.at hp hr1
    have htm : t ∈ ts := List.mem_of_getElem? ht1
    have sH2 : Same H H2 := s1.trans s2
    have its2 : IsTS P w H2 sd ((ts.take i).map tk) := by
      obtain ⟨es, e1, e2, e3, e4⟩ := its1
      exact ⟨es, s2 _ _ e1, e2, fun e he => let ⟨b, k, q1, q2, q3, q4⟩ := e3 e he; ⟨b, k, q1, s2 _ _ q2, q3, q4⟩, fun k hk => let ⟨e, he, b, q1, q2⟩ := e4 k hk; ⟨e, he, b, q1, s2 _ _ q2⟩⟩
    refine ⟨_, rfl, _, rfl, r, n, t, rfl, sH2 _ _ ht2, fun H3 s3 => ⟨_, rfl, ?_⟩⟩
    rw [ok.all t htm]
    refine iteF ?_
    have its3 : IsTS P w H3 sd ((ts.take i).map tk) := by
      obtain ⟨es, e1, e2, e3, e4⟩ := its2
      exact ⟨es, s3 _ _ e1, e2, fun e he => let ⟨b, k, q1, q2, q3, q4⟩ := e3 e he; ⟨b, k, q1, s3 _ _ q2, q3, q4⟩, fun k hk => let ⟨e, he, b, q1, q2⟩ := e4 k hk; ⟨e, he, b, q1, s3 _ _ q2⟩⟩
    have hn : tk t ∉ (ts.take i).map tk := fun hm => by
      obtain ⟨u, hu, e⟩ := List.mem_map.mp hm
      have := tk_inj e
      subst this
      obtain ⟨j, hj, ej⟩ := List.mem_iff_getElem.mp hu
      rw [List.length_take] at hj
      rw [List.getElem_take] at ej
      have := nd_ix ok.nd (i := j) (j := i) (by rw [List.getElem?_eq_getElem (by omega), ej]) ht1
      omega
    have htk : H3 r = some (.tup ((tk t).map kV)) := s3 _ _ (sH2 _ _ ht2)
    refine ⟨_, rfl, _, rfl, r, tk t, sd, _, rfl, rfl, htk, its3, false, ?_, iteF ?_⟩
    · have : memK (tk t) ((ts.take i).map tk) = false := Bool.eq_false_iff.mpr fun z => hn (memK_iff.mp z)
      rw [this]
    refine ⟨_, rfl, ⟨sd, _, rfl, its3⟩, _, rfl, sd, r, tk t, _, rfl, rfl, htk, its3, ?_, hn, fun es' its4 => ?_⟩
    · rw [List.length_map, List.length_take]; have := ok.few; omega
    · have et : ts.take (i + 1) = ts.take i ++ [t] := by rw [List.take_add_one, ht1]; rfl
      refine ⟨fun b o e => ?_, ⟨_, rfl⟩, ?_⟩
      · have hb : b ≠ sd := ne_of_none e hsd
        rw [upd_ne hb]
        exact s3 _ _ (sH2 _ _ e)
      · rw [et, List.map_append]
        exact its4
end
end Tip
set_option Elab.async false
set_option linter.all false
set_option maxRecDepth 100000
set_option maxHeartbeats 4000000
namespace L2
open PySem PySem.Spec PyProof.Rows
/-- xs[i] ahead of xs[i] op= e -/
def rGetL (K : PySem.W.Frag) : V → V → Hp → VK → Prop := fun x y H Q => ∃ (p : Addr) (xs : List V) (j : Nat) (v : V), x = .ref p ∧ y = .int (j : Nat) ∧ SqL K H p xs ∧ xs[j]? = some v ∧ Q v H
theorem get_list {X : Cx} : PGet X (rGetL X.K) := by
  intro pins s σ H x y v u Q I rx ry h
  obtain ⟨p, xs, j, z, rfl, rfl, hs, hz, q⟩ := h
  cases rx
  obtain ⟨t, rfl⟩ := ry
  obtain ⟨its, r, pl, hl⟩ := I.list hs
  obtain ⟨w', hw, rw'⟩ := r.get hz
  have hj : j < xs.length := (List.getElem?_eq_some_iff.mp hz).1
  refine wpAny_getItem_list pl.isList (Int.natCast_nonneg _) ?_ (by simpa using hw) ⟨z, H, I, rw', q⟩
  rw [sizeLine_eq] at hl
  omega
end L2
namespace Tip
open PySem PySem.Spec PyProof.Rows L2
/-- tied, in either order -/
def tiedB (ts : List (Int × Int)) (k : Int × Int) : Bool := ts.any fun t => decide (t = k) || decide ((t.2, t.1) = k)
theorem tiedB_snoc (ts : List (Int × Int)) (t k : Int × Int) : tiedB (ts ++ [t]) k = (tiedB ts k || (decide (t = k) || decide ((t.2, t.1) = k))) := by
  unfold tiedB
  rw [List.any_append, List.any_cons, List.any_nil, Bool.or_false]
/-- how many ties a place has -/
def deg (ts : List (Int × Int)) (v : Int) : Nat := ts.countP fun t => decide (t.1 = v) || decide (t.2 = v)
theorem deg_snoc (ts : List (Int × Int)) (t : Int × Int) (v : Int) : deg (ts ++ [t]) v = deg ts v + if t.1 = v ∨ t.2 = v then 1 else 0 := by
  unfold deg
  rw [List.countP_append, List.countP_cons, List.countP_nil]
  by_cases h : t.1 = v ∨ t.2 = v
  · rw [if_pos h, if_pos (by simpa using h)]
  · rw [if_neg h, if_neg (by simpa using h)]
def degs (n : Nat) (ts : List (Int × Int)) : List Int := (List.range n).map fun v : Nat => (deg ts (v : Int) : Int)
theorem degs_len (n : Nat) (ts : List (Int × Int)) : (degs n ts).length = n := by unfold degs; rw [List.length_map, List.length_range]
theorem degs_at {n : Nat} {ts : List (Int × Int)} {j : Nat} (h : j < n) : (degs n ts)[j]? = some (deg ts j : Int) := by
  unfold degs
  rw [List.getElem?_map, List.getElem?_range h]
  rfl
section
variable {P : Program} {w : World} {K : PySem.W.Frag} {mg : Str → Option Value} {base : Heap}
abbrev s_check_web : Stmt := top 16
theorem sc_check_web : FnScope ["places", "ties"] ["places", "ties"] (defScope s_check_web) := ⟨rfl, rfl, rfl, by decide +kernel, rfl, by decide +kernel, by decide +kernel⟩
structure G5 (P : Program) (w : World) (K : PySem.W.Frag) (mg : Str → Option Value) (base : Heap) : Prop where
  check_places : Df P w K mg base 3 "check_places" ["places"] sp_check_places
  check_ties : Df P w K mg base 4 "check_ties" ["places", "ties"] (sp_check_ties K)
theorem df_check_web (T : Blt mg) (G : G5 P w K mg base) (h : HasDef K mg "check_web" s_check_web ["places", "ties"]) : Df P w K mg base 5 "check_web" ["places", "ties"] (sp_check_ties K) := h.df fun f fd F => by
  refine F.ok sc_check_web (fun vs H Q E h => ?_) (fun cdv A outer s H vs Q E hr h => ?_)
  · obtain ⟨n, a, ts, rfl, _⟩ := h; rfl
  obtain ⟨n, a, ts, rfl, ht, ok, q⟩ := h
  have nd := sc_check_web.nd
  refine ⟨_, (pss_cons (ps_expr (pe_df G.check_places (hr.mono (by decide)) (pa_cons (pv 0) pa_nil))) (pss_one (ps_expr (pe_df G.check_ties (hr.mono (by decide)) (pa_cons (pv 0) (pa_cons (pv 1) pa_nil)))))), ?_⟩
  refine ⟨_, rfl, n, rfl, ok.lo, ok.hi, fun H1 s1 => ?_⟩
  exact ⟨_, rfl, _, rfl, n, a, ts, rfl, ht.same s1, ok, fun H2 s2 => q _ (s1.trans s2)⟩
/-- the dict at d tells who is tied -/
def TiedAt (H : Hp) (d : Addr) (ts : List (Int × Int)) : Prop := ∃ kvs : List (List Key × V), H d = some (.dT kvs) ∧ ∀ k : Int × Int, (valV kvs (tk k)).isSome = tiedB ts k
def sp_tied_both_ways (K : PySem.W.Frag) : Sp := fun vs H Q _ => ∃ a ts, vs = [.ref a] ∧ Ties K H a ts ∧ ts.length ≤ 1000 ∧ ∀ H' d, Same H H' → TiedAt H' d ts → Q (.ref d) H'
abbrev s_counts_of : Stmt := top 17
theorem sc_counts_of : FnScope ["places", "ties", "counts", "low", "high"] ["places", "ties"] (defScope s_counts_of) := ⟨rfl, rfl, rfl, by decide +kernel, rfl, by decide +kernel, by decide +kernel⟩
def sp_counts_of (K : PySem.W.Frag) : Sp := fun vs H Q _ => ∃ (n : Nat) (a : Addr) (ts : List (Int × Int)), vs = [.int n, .ref a] ∧ Ties K H a ts ∧ WebOk n ts ∧ ∀ H' c, Same H H' → H c = none → H' c = some (.lst ((degs n ts).map V.int)) → Q (.ref c) H'
theorem degs_set {n : Nat} {ts : List (Int × Int)} {f : Nat → Int} {j : Nat} (hj : j < n) : ((List.range n).map fun v => V.int (f v)).set j (.int (f j + 1)) = (List.range n).map fun v => V.int (if v = j then f v + 1 else f v) := by
  apply List.ext_getElem
  · simp
  · intro i h1 h2
    simp at h1
    rw [List.getElem_set]
    by_cases e : j = i
    · subst e; simp
    · rw [if_neg e]
      simp [Ne.symm e]
theorem df_counts_of (T : Blt mg) (h : HasDef K mg "counts_of" s_counts_of ["places", "ties"]) : Df P w K mg base 1 "counts_of" ["places", "ties"] (sp_counts_of K) := h.df fun f fd F => by
  refine F.ok sc_counts_of (fun vs H Q E h => ?_) (fun cdv A outer s H vs Q E hr h => ?_)
  · obtain ⟨n, a, ts, rfl, _⟩ := h; rfl
  obtain ⟨n, a, ts, rfl, ht, ok, q⟩ := h
  have nd := sc_counts_of.nd
  obtain ⟨rs, hs, hp⟩ := id ht
  have hrl : rs.length = ts.length := hp.length
  have hn40 := ok.hi
  refine ⟨_, (pss_cons (ps_set (i := 2) nd rfl (by first | exact Or.inl rfl | exact Or.inr rfl) (pe_op op_rep (pe_lst (pa_cons pe_int pa_nil)) (pv 0))) (pss_cons (ps_for PassesOwn.never rfl (pi_list (pv 1)) (pg_tup rfl (pgs_cons (pg_name (i := 3) nd rfl (by first | exact Or.inl rfl | exact Or.inr rfl)) (pgs_cons (pg_name (i := 4) nd rfl (by first | exact Or.inl rfl | exact Or.inr rfl)) pgs_nil))) (pss_cons (ps_augS (pv 2) (pv 3) get_list pe_int ip_add set_list) (pss_one (ps_augS (pv 2) (pv 4) get_list pe_int ip_add set_list)))) (pss_one (ps_ret (pv 2))))), ?_⟩
  refine ⟨(by show 1 ≤ sizeLine; decide), fun z hz => ⟨_, rfl, z, (n : Int), _, rfl, rfl, upd_same, by omega, by omega, ?_, fun c hc => ?_⟩⟩
  · show 1 * ((n : Int)).toNat ≤ sizeLine
    rw [sizeLine_eq]; omega
  have hcH : H c = none := (same_new' hz _).free hc
  have e0 : (List.replicate ((n : Int)).toNat [V.int 0]).flatten = (degs n []).map V.int := by
    rw [Int.toNat_natCast]
    unfold degs
    apply List.ext_getElem
    · simp
    · intro i h1 h2
      simp [deg]
  have s0 : Same H (upd (upd H z (.lst [.int 0])) c (.lst (List.replicate ((n : Int)).toNat [V.int 0]).flatten)) := (same_new' hz _).trans (same_new' hc _)
  refine ⟨_, rfl, a, rfl, ⟨_, s0.seq hs⟩, ?_⟩
  refine for_walk (Walks.list (K := K) (a := a) (xs := rs.map V.ref)) (fun i σ H' => Same H H' ∧ (∃ x y, σ = [some (.int n), some (.ref a), some (.ref c), x, y]) ∧ i ≤ ts.length ∧ H' c = some (.lst ((degs n (ts.take i)).map V.int))) (fun i σ H' h => h.1.seq hs)
    ⟨s0, ⟨_, _, rfl⟩, Nat.zero_le _, by rw [upd_same, e0]; rfl⟩ (fun i x σ H1 H2 hi hP s2 hx => ?_) (fun σ H' h => ?_)
  · obtain ⟨s1, ⟨y, z', rfl⟩, hil, hk⟩ := hP
    rw [List.getElem?_map] at hx
    cases hr1 : rs[i]? with
    | none => rw [hr1] at hx; cases hx
    | some r =>
      rw [hr1] at hx
      have ex : x = .ref r := (Option.some.inj hx).symm
      subst ex
      obtain ⟨t, ht1, ht2⟩ := Paired.at hp hr1
      have hti : i < ts.length := (List.getElem?_eq_some_iff.mp ht1).1
      have sH2 : Same H H2 := s1.trans s2
      have hto := ok.all t (List.mem_of_getElem? ht1)
      unfold tieOk at hto
      simp only [Bool.and_eq_true, decide_eq_true_eq] at hto
      obtain ⟨⟨a1, a2⟩, ⟨b1, b2⟩, ab⟩ := hto
      obtain ⟨u, hu⟩ := Int.eq_ofNat_of_zero_le a1
      obtain ⟨v, hv⟩ := Int.eq_ofNat_of_zero_le b1
      have hun : u < n := by omega
      have hvn : v < n := by omega
      have hk2 := s2 _ _ hk
      refine ⟨r, _, rfl, SqT.of (sH2 _ _ ht2), rfl, _, _, rfl, _, _, rfl, rfl, ?_⟩
      have em : (degs n (ts.take i)).map V.int = (List.range n).map fun v : Nat => V.int (deg (ts.take i) (v : Int) : Int) := by unfold degs; rw [List.map_map]; rfl
      rw [em] at hk2
      refine ⟨_, rfl, _, rfl, c, _, u, .int (deg (ts.take i) u : Int), rfl, by show V.int t.1 = _; rw [hu], SqL.of hk2, by rw [List.getElem?_map, List.getElem?_range hun]; rfl, _, _, rfl, rfl, ?_⟩
      refine ⟨c, _, t.1, u, rfl, rfl, hk2, ?_, ?_⟩
      · unfold ixN
        rw [if_pos a1, if_pos (by simp; omega), hu]; rfl
      rw [degs_set (ts := ts) (f := fun v : Nat => (deg (ts.take i) (v : Int) : Int)) hun]
      refine ⟨_, rfl, _, rfl, c, _, v, .int (deg (ts.take i) v : Int), rfl, by show V.int t.2 = _; rw [hv], SqL.of upd_same, ?_, _, _, rfl, rfl, ?_⟩
      · rw [List.getElem?_map, List.getElem?_range hvn]
        show some (V.int (if v = u then _ else _)) = _
        rw [if_neg (by omega)]
      refine ⟨c, _, t.2, v, rfl, rfl, upd_same, ?_, ?_⟩
      · unfold ixN
        rw [if_pos b1, if_pos (by simp; omega), hv]; rfl
      have e2 : (deg (ts.take i) v : Int) + 1 = (fun x : Nat => if x = u then (deg (ts.take i) (x : Int) : Int) + 1 else (deg (ts.take i) (x : Int) : Int)) v + 1 := by
        show _ = (if v = u then _ else _) + 1
        rw [if_neg (by omega)]
      dsimp only
      rw [e2, degs_set (ts := ts) (f := fun x : Nat => if x = u then (deg (ts.take i) (x : Int) : Int) + 1 else (deg (ts.take i) (x : Int) : Int)) hvn, upd_upd]
      refine ⟨fun b o e => ?_, ⟨_, _, rfl⟩, hti, ?_⟩
      · rw [upd_ne (ne_of_none e hcH)]
        exact sH2 _ _ e
      · rw [upd_same]
        have et : ts.take (i + 1) = ts.take i ++ [t] := by rw [List.take_add_one, ht1]; rfl
        unfold degs
        rw [List.map_map]
        congr 2
        refine List.map_congr_left fun x hx => ?_
        show V.int _ = V.int _
        congr 1
        rw [et]
        dsimp only
        rw [deg_snoc]
        by_cases h1 : x = v
        · subst h1
          rw [if_pos rfl, if_neg (by omega), if_pos (.inr hv)]
          push_cast; rfl
        · rw [if_neg h1]
          by_cases h2 : x = u
          · subst h2
            rw [if_pos rfl, if_pos (.inl hu)]
            push_cast; rfl
          · rw [if_neg h2, if_neg (by rw [hu, hv]; omega)]
            simp
  · obtain ⟨s1, ⟨y, z', rfl⟩, _, hk⟩ := h
    rw [List.length_map, hrl, List.take_of_length_le (Nat.le_refl _)] at hk
    exact ⟨_, rfl, q _ c s1 hcH hk⟩
end
end Tip
set_option Elab.async false
set_option linter.all false
set_option maxRecDepth 100000
set_option maxHeartbeats 1000000
namespace L2
open PySem PySem.Spec PyProof.Rows
section
variable {X : Cx}
theorem op_isB : OpR X (compareOp .Is) (fun x y H Q => ∃ a b, x = .bl a ∧ y = .bl b ∧ Q (.bl (a == b)) H) := by
  intro pins s σ H x y v u Q I rx ry h
  obtain ⟨a, b, rfl, rfl, q⟩ := h
  cases rx
  cases ry
  show wpAny _ _ ((isSame (.bool a) (.bool b)) >>= fun r => pure (Value.bool r)) _ _ _
  refine wpAny_bind (wpAny_isSame_plain rfl (wpAny_pure ⟨.bl _, H, I, rfl, ?_⟩))
  have e : (Value.bool a == Value.bool b) = (a == b) := by cases a <;> cases b <;> rfl
  rw [e]; exact q
structure IsaC (K : PySem.W.Frag) (C D : Addr) (b : Bool) : Prop where
  pg : PySem.W.plainGet K C "__class__" = true
  hd : PySem.W.hasDictIn K C = true
  fi : PySem.W.findIn K (.ref C) "__class__" = some (some (.builtin "object.__class__"))
  sp : PySem.W.specialIn K (.builtin "object.__class__") "__get__" = some (some (.builtin "getset_descriptor.__get__"))
  tk : PySem.W.takesIn K (.builtin "object.__class__") = some true
  mro : PySem.W.mroIn K C (.type "object") = some true
  one : PySem.W.kitOne K (.ref C) (.ref D) = some b
def distinct (ns : List Int) : Nat := (firstMet (fun i => ns.getD i 0) ns.length).length
end
end L2
set_option Elab.async false
set_option linter.all false
set_option maxRecDepth 100000
set_option maxHeartbeats 1000000
namespace L2
open PySem PySem.Spec PyProof.Rows
section
variable {X : Cx}
def lexLe (t u : Int × Int) : Prop := t.1 < u.1 ∨ (t.1 = u.1 ∧ t.2 ≤ u.2)
def adr : Value → Addr
  | .ref a => a
  | _ => 0
theorem vals_refs : ∀ {rs : List Addr} {us : List Value}, Vals (rs.map V.ref) us → us = rs.map Value.ref
  | [], us, h => by rw [List.map_nil] at h; cases h; rfl
  | r :: rs, us, h => by
    rw [List.map_cons] at h
    cases h with
    | cons a b => cases a; rw [vals_refs b]; rfl
theorem refs_vals : ∀ (rs : List Addr), Vals (rs.map V.ref) (rs.map Value.ref)
  | [] => .nil
  | r :: rs => .cons rfl (refs_vals rs)
abbrev PairAt (H : Hp) (r : Addr) (t : Int × Int) : Prop := H r = some (.tup [.int t.1, .int t.2])
theorem pair_key {pins : List (Addr × Obj)} {σ : St} {H : Hp} {s : Shared} (I : Inv X pins σ H s) {r : Addr} {t : Int × Int} (h : PairAt H r t) :
    PyProof.Rows.G.tupKeyC s.heap (fun _ => false) (.ref r) = some [.inl t.1, .inl t.2] ∧ ∃ f, TupOf s.heap (fun _ => false) (.ref r) f := by
  obtain ⟨_, its, rv, o, ho, hc, n, hd⟩ := I.hok r _ h
  obtain ⟨u, v, rfl, ⟨tu, rfl⟩, ⟨tv, rfl⟩⟩ := vals2 rv
  refine ⟨?_, .int t.1 tu, r, o, _, n, rfl, ho, hc, hd, rfl, fun _ => ⟨_, _, rfl⟩, fun z => absurd z Bool.false_ne_true⟩
  unfold PyProof.Rows.G.tupKeyC
  have e1 : PyProof.Rows.G.isTupObj s.heap (.ref r) = true := by simp [PyProof.Rows.G.isTupObj, ho, hc]
  rw [if_pos e1]
  simp only [tupKey, ho, hd]
  rfl
theorem zip_self {α : Type} : ∀ l : List α, l.zip l = l.map fun v => (v, v)
  | [] => rfl
  | a :: l => by rw [List.zip_cons_cons, zip_self l, List.map_cons]
theorem lex_of {t u : Int × Int} (h : PyProof.Rows.lexLt itemOrd [Sum.inl u.1, Sum.inl u.2] [Sum.inl t.1, Sum.inl t.2] = false) : lexLe t u := by
  unfold lexLe
  have h : (decide (u.1 < t.1) || (!decide (t.1 < u.1) && (decide (u.2 < t.2) || (!decide (t.2 < u.2) && false)))) = false := h
  by_cases h1 : t.1 < u.1
  · exact .inl h1
  · by_cases h2 : u.1 < t.1
    · simp [h2] at h
    · have e : t.1 = u.1 := by omega
      refine .inr ⟨e, ?_⟩
      by_cases h3 : u.2 < t.2
      · simp [e, h3] at h
      · omega
def rSortedT (K : PySem.W.Frag) : List V → Hp → VK → Prop := fun xs H Q => ∃ (a : Addr) (rs : List Addr) (ts : List (Int × Int)), xs = [.ref a] ∧ SqL K H a (rs.map V.ref) ∧ Paired (PairAt H) rs ts ∧
  ∀ (rs' : List Addr) (p : Addr), H p = none → rs'.Perm rs → rs'.Pairwise (fun r r' => ∀ t t', PairAt H r t → PairAt H r' t' → lexLe t t') → Q (.ref p) (upd H p (.lst (rs'.map V.ref)))
theorem cr_sortedT : CallR X (.builtin "sorted") (rSortedT X.K) := by
  intro pins s σ H xs us Q I r h
  obtain ⟨a, rs, ts, rfl, hs, hp, q⟩ := h
  obtain ⟨its, rv, pl, hz⟩ := I.list hs
  rw [Vals.ref1 r]
  have ei := vals_refs rv
  subst ei
  rw [List.length_map] at hz
  have mem : ∀ r', r' ∈ rs → ∃ t, PairAt H r' t := fun r' hr => by
    obtain ⟨i, hi, e⟩ := List.mem_iff_getElem.mp hr
    have : ∀ {l : List Addr} {m : List (Int × Int)}, Paired (PairAt H) l m → ∀ r', r' ∈ l → ∃ t, PairAt H r' t := by
      intro l m p
      induction p with
      | nil => intro r' h; cases h
      | cons h1 _ ih =>
        intro r' h
        rcases List.mem_cons.mp h with rfl | h
        · exact ⟨_, h1⟩
        · exact ih r' h
    exact this hp r' hr
  have tups : ∀ {l : List Addr}, (∀ r', r' ∈ l → ∃ t, PairAt H r' t) → ∃ fs, TupsOf s.heap (fun _ => false) (l.map Value.ref) fs := by
    intro l
    induction l with
    | nil => exact fun _ => ⟨[], .nil⟩
    | cons r' l ih =>
      intro h
      obtain ⟨fs, hf⟩ := ih fun x hx => h x (List.mem_cons_of_mem _ hx)
      obtain ⟨t, ht⟩ := h r' List.mem_cons_self
      obtain ⟨_, f, hf1⟩ := pair_key I ht
      exact ⟨f :: fs, .cons hf1 hf⟩
  obtain ⟨fs, hfs⟩ := tups mem
  refine PyProof.Rows.G.sorted_tups (shape := fun _ => false) (vs := rs.map Value.ref) pl.isList hfs (fun v hv => ?_) (by rw [List.length_map]; exact hz) fun st' hP hS _ => ?_
  · obtain ⟨r', hr', rfl⟩ := List.mem_map.mp hv
    obtain ⟨t, ht⟩ := mem r' hr'
    exact ⟨_, (pair_key I ht).1⟩
  · have hl : (arrOf st').toList.Perm ((rs.map Value.ref).map fun v => (v, v)) := by
      have e := Array.perm_iff_toList_perm.mp hP
      rw [pairsOf_toList, zip_self] at e
      exact e
    have each : ∀ p, p ∈ (arrOf st').toList → ∃ r', r' ∈ rs ∧ p = (Value.ref r', Value.ref r') := fun p hp' => by
      have := hl.mem_iff.mp hp'
      rw [List.map_map] at this
      obtain ⟨r', h1, h2⟩ := List.mem_map.mp this
      exact ⟨r', h1, h2.symm⟩
    have hperm : ((arrOf st').toList.map fun p => adr p.2).Perm rs := by
      have := hl.map fun p : Value × Value => adr p.2
      rw [List.map_map, List.map_map] at this
      have e : (List.map (((fun p : Value × Value => adr p.2) ∘ fun v => (v, v)) ∘ Value.ref) rs) = rs := by
        conv => rhs; rw [← List.map_id rs]
        rfl
      rw [e] at this
      exact this
    have hout : ((arrOf st').map (·.2)).toList = ((arrOf st').toList.map fun p => adr p.2).map Value.ref := by
      rw [Array.toList_map, List.map_map]
      refine List.map_congr_left fun p hp' => ?_
      obtain ⟨r', _, rfl⟩ := each p hp'
      rfl
    obtain ⟨ep, he'⟩ := PyProof.Rows.sortedAll_at s.heap (rs.map Value.ref) ((arrOf st').map (·.2))
    have hlen : (((arrOf st').toList.map fun p => adr p.2).map V.ref).length ≤ sizeLine := by rw [List.length_map, hperm.length_eq]; exact hz
    refine ⟨.ref _, upd H (s.heap.objs.size + 1) (.lst (((arrOf st').toList.map fun p => adr p.2).map V.ref)), I.laid (t' := s.toks) (fun _ _ => PyProof.Rows.sortedAll_old) (Nat.le_succ _) ⟨hlen, _, ep, ?_, he'⟩, rfl,
      q _ _ (I.hok.fresh (Nat.le_succ _)) hperm ?_⟩
    · have e := refs_vals ((arrOf st').toList.map fun p => adr p.2)
      rw [← hout] at e
      exact e
    · rw [List.pairwise_map, List.pairwise_iff_getElem]
      intro i j hi hj hij t t' ht ht'
      rw [Array.length_toList] at hi hj
      obtain ⟨ri, _, ei⟩ := each _ (List.getElem_mem (by rw [Array.length_toList]; exact hi) : (arrOf st').toList[i] ∈ _)
      obtain ⟨rj, _, ej⟩ := each _ (List.getElem_mem (by rw [Array.length_toList]; exact hj) : (arrOf st').toList[j] ∈ _)
      rw [ei] at ht
      rw [ej] at ht'
      have ht : PairAt H ri t := ht
      have ht' : PairAt H rj t' := ht'
      have hsz : (arrOf st').size = (pairsOf (rs.map Value.ref)).size := hP.size_eq
      have k := hS i j (Nat.le_of_lt hij) (by rw [← hsz]; exact hj)
      have ki : KK (PyProof.Rows.G.tupKindC s.heap fun _ => false) (arrOf st') i = [Sum.inl t.1, Sum.inl t.2] := by
        unfold KK
        rw [Array.getElem?_eq_getElem hi]
        rw [Array.getElem_toList] at ei
        rw [ei]
        show (PyProof.Rows.G.tupKeyC s.heap (fun _ => false) (.ref ri)).getD [] = _
        rw [(pair_key I ht).1]
        rfl
      have kj : KK (PyProof.Rows.G.tupKindC s.heap fun _ => false) (arrOf st') j = [Sum.inl t'.1, Sum.inl t'.2] := by
        unfold KK
        rw [Array.getElem?_eq_getElem hj]
        rw [Array.getElem_toList] at ej
        rw [ej]
        show (PyProof.Rows.G.tupKeyC s.heap (fun _ => false) (.ref rj)).getD [] = _
        rw [(pair_key I ht').1]
        rfl
      rw [ki, kj] at k
      exact lex_of k
end
end L2
set_option Elab.async false
set_option linter.all false
set_option maxRecDepth 100000
set_option maxHeartbeats 4000000
namespace Tip
open PySem PySem.Spec PyProof.Rows L2
abbrev Ints (K : PySem.W.Frag) (H : Hp) (a : Addr) (ns : List Int) : Prop := SqL K H a (ns.map V.int)
section
variable {P : Program} {w : World} {K : PySem.W.Frag} {mg : Str → Option Value} {base : Heap}
theorem paired_map {α : Type} {n : Nat} {f : Nat → V} {H : Hp} : ∀ {l : List Nat} {ys : List V}, Paired (fun i y => y = f i) l ys → ys = l.map f
  | _, _, .nil => rfl
  | _, _, .cons r t => by rw [List.map_cons, r, paired_map (α := α) (n := n) (H := H) t]
theorem yesT {σ : L2.St} {H : Hp} {A B : Hp → Prop} (h : A H) : tYes σ H fun b H3 => if b = true then A H3 else B H3 := by
  show if true = true then A H else B H
  rw [if_pos rfl]
  exact h
theorem filter_true (n : Nat) : (List.range n).filter (fun _ => true) = List.range n := by simp
theorem range_get {β : Type} {l : List Int} {f : Int → β} : (List.range l.length).map (fun i => f (l.getD i 0)) = l.map f := by
  apply List.ext_getElem
  · simp
  · intro i h1 h2
    simp at h1
    simp [h1]
structure GC (P : Program) (w : World) (K : PySem.W.Frag) (mg : Str → Option Value) (base : Heap) (k : Nat) (sp : Sp) : Prop where
  copied : Df P w K mg base k "copied" ["value"] sp
def sp_are_weights (K : PySem.W.Frag) : Sp := fun vs H Q _ => ∃ a ns n, vs = [.ref a, .int n] ∧ Ints K H a ns ∧ ns.length ≤ 1000 ∧ ∀ H', Same H H' → Q (.bl (decide ((ns.length : Int) = n) && ns.all fun x => decide (0 ≤ x))) H'
def isPl (n x : Int) : Bool := decide (0 ≤ x) && decide (x < n)
def sp_are_places (K : PySem.W.Frag) : Sp := fun vs H Q _ => ∃ a ns n, vs = [.ref a, .int n] ∧ Ints K H a ns ∧ ns.length ≤ 1000 ∧ ∀ H', Same H H' → Q (.bl (ns.all (isPl n))) H'
end
end Tip
set_option Elab.async false
set_option linter.all false
set_option maxRecDepth 100000
set_option maxHeartbeats 4000000
namespace L2
open PySem PySem.Spec PyProof.Rows
theorem ix_list' {X : Cx} {K : PySem.W.Frag} (hK : X.K = K := by rfl) : IxR X (rIxL K) := by subst hK; exact ix_list
end L2
namespace Tip
open PySem PySem.Spec PyProof.Rows L2
def rowOf (ns : List Int) (i : Nat) : List (Int × Int) := (ns.drop (i + 1)).map fun y => (ns.getD i 0, y)
def prsTo (ns : List Int) (i : Nat) : List (Int × Int) := (List.range i).flatMap (rowOf ns)
theorem cut_from (xs : List V) (k : Nat) : cutV xs (some ((k : Nat) : Int)) none = xs.drop k := by
  unfold cutV
  rw [HT.sIx_nat, HT.sIx_none]
  by_cases h : k ≤ xs.length
  · rw [Nat.min_eq_left h]
    exact List.take_of_length_le (by rw [List.length_drop]; omega)
  · rw [List.drop_eq_nil_of_le (by omega), List.drop_eq_nil_of_le (by omega)]
    simp
section
variable {P : Program} {w : World} {K : PySem.W.Frag} {mg : Str → Option Value} {base : Heap}
def sp_pairs_of (K : PySem.W.Frag) : Sp := fun vs H Q _ => ∃ a ns, vs = [.ref a] ∧ Ints K H a ns ∧ ns.length ≤ 1000 ∧ ∀ H' p, Same H H' → H p = none → Ties K H' p (prsTo ns ns.length) → Q (.ref p) H'
end
end Tip
set_option Elab.async false
set_option linter.all false
set_option maxRecDepth 100000
set_option maxHeartbeats 4000000
namespace L2
open PySem PySem.Spec PyProof.Rows
def MethOk (P : Program) (w : World) (K : PySem.W.Frag) (mg : Str → Option Value) (base : Heap) (k : Nat) (C : Addr) (m : Str) (sp : Sp) : Prop := ∃ f fd ps, Cls K C ∧ Meth K C m f ∧ FnOk P w K mg base CX0 k f fd ps sp ∧ Binds K fd ps []
structure MkOk (P : Program) (w : World) (K : PySem.W.Frag) (mg : Str → Option Value) (base : Heap) (k : Nat) (x : Str) (C : Addr) (sp : Sp) : Prop where
  ex : ∃ f fd ps, Mk K C f ∧ FnOk P w K mg base CX0 k f fd ps sp ∧ mg x = some (.ref C) ∧ Binds K fd ps []
end L2
namespace Tip
open PySem PySem.Spec PyProof.Rows L2
structure HasCls (K : PySem.W.Frag) (mg : Str → Option Value) (x : Str) (C : Addr) (flds : List Str) : Prop where
  mg_ : mg x = some (.ref C)
  cl : Cls K C
  na : ∀ f ∈ flds, NoAttr K C f
def WObj (H : Hp) (C x : Addr) (p : Addr) (ns : List Int) (b : Int) : Prop := ∃ dx, H x = some (.ins C dx [("weights", .ref p), ("bound", .int b)]) ∧ H p = some (.lst (ns.map V.int))
def BObj (H : Hp) (C x : Addr) (p : Addr) (four : List Int) : Prop := ∃ dx, H x = some (.ins C dx [("four", .ref p)]) ∧ H p = some (.lst (four.map V.int))
section
variable {P : Program} {w : World} {K : PySem.W.Frag} {mg : Str → Option Value} {base : Heap}
def sp_W_init (K : PySem.W.Frag) (C : Addr) : Sp := fun vs H Q _ => ∃ x dx a ns b, vs = [.ref x, .ref a, .int b] ∧ H x = some (.ins C dx []) ∧ Ints K H a ns ∧ ns.length ≤ 1000 ∧ ∀ H' p, (∀ c o, H c = some o → c ≠ x → H' c = some o) → H p = none → WObj H' C x p ns b → Q .non H'
def sp_B_init (K : PySem.W.Frag) (C : Addr) : Sp := fun vs H Q _ => ∃ x dx a ns, vs = [.ref x, .ref a] ∧ H x = some (.ins C dx []) ∧ Ints K H a ns ∧ ns.length ≤ 1000 ∧ ∀ H' p, (∀ c o, H c = some o → c ≠ x → H' c = some o) → H p = none → BObj H' C x p ns → Q .non H'
def natI (n : Nat) : List Int := (List.range n).map fun i : Nat => (i : Int)
theorem natI_len (n : Nat) : (natI n).length = n := by unfold natI; rw [List.length_map, List.length_range]
theorem natI_get {n i : Nat} (h : i < n) : (natI n)[i]? = some (i : Int) := by unfold natI; rw [List.getElem?_map, List.getElem?_range h]; rfl
def prs (n : Nat) : List (Int × Int) := prsTo (natI n) n
theorem prs_mem {n : Nat} {p : Int × Int} : p ∈ prs n ↔ ∃ i j : Nat, i < j ∧ j < n ∧ p = ((i : Int), (j : Int)) := by
  unfold prs prsTo rowOf
  rw [List.mem_flatMap]
  constructor
  · rintro ⟨i, hi, hp⟩
    have hi := List.mem_range.mp hi
    obtain ⟨y, hy, rfl⟩ := List.mem_map.mp hp
    obtain ⟨k, hk, rfl⟩ := List.mem_iff_getElem.mp hy
    rw [List.length_drop, natI_len] at hk
    refine ⟨i, i + 1 + k, by omega, by omega, ?_⟩
    rw [List.getElem_drop, List.getD_eq_getElem?_getD, natI_get hi]
    have := natI_get (n := n) (i := i + 1 + k) (by omega)
    rw [List.getElem?_eq_getElem (by rw [natI_len]; omega)] at this
    rw [Option.some.inj this]
    rfl
  · rintro ⟨i, j, hij, hj, rfl⟩
    refine ⟨i, List.mem_range.mpr (by omega), List.mem_map.mpr ⟨(j : Int), ?_, ?_⟩⟩
    · refine List.mem_iff_getElem?.mpr ⟨j - (i + 1), ?_⟩
      rw [List.getElem?_drop, natI_get (by omega)]
      congr 1; omega
    · rw [List.getD_eq_getElem?_getD, natI_get (by omega)]; rfl
def pairOk (ns : List Int) (b : Int) (ts : List (Int × Int)) (p : Int × Int) : Bool := tiedB ts p == decide (b ≤ ns.getD p.1.toNat 0 + ns.getD p.2.toNat 0)
def wShows (ns : List Int) (b : Int) (n : Nat) (ts : List (Int × Int)) : Bool := (decide ((ns.length : Int) = n) && ns.all fun x => decide (0 ≤ x)) && (decide (1 ≤ b) && (prs n).all (pairOk ns b ts))
def sp_W_shows (K : PySem.W.Frag) (C : Addr) : Sp := fun vs H Q _ => ∃ x p ns b n a ts, vs = [.ref x, .int (n : Nat), .ref a] ∧ WObj H C x p ns b ∧ ns.length ≤ 1000 ∧ n ≤ 1000 ∧ Ties K H a ts ∧ ts.length ≤ 1000 ∧ ∀ H', Same H H' → Q (.bl (wShows ns b n ts)) H'
structure G6 (P : Program) (w : World) (K : PySem.W.Frag) (mg : Str → Option Value) (base : Heap) : Prop where
  is_number : Df P w K mg base 1 "is_number" ["value"] (sp_is_number K)
  are_weights : Df P w K mg base 2 "are_weights" ["weights", "places"] (sp_are_weights K)
  are_places : Df P w K mg base 3 "are_places" ["listed", "places"] (sp_are_places K)
  tied_both_ways : Df P w K mg base 1 "tied_both_ways" ["ties"] (sp_tied_both_ways K)
  pairs_of : Df P w K mg base 1 "pairs_of" ["listed"] (sp_pairs_of K)
theorem TiedAt.get {H : Hp} {d : Addr} {ts : List (Int × Int)} {r : Addr} {t : Int × Int} (h : TiedAt H d ts) (hr : H r = some (.tup [.int t.1, .int t.2])) : ∃ o : Option V, DGet H d (.ref r) o ∧ o.isSome = tiedB ts t := by
  obtain ⟨kvs, h1, h2⟩ := h
  exact ⟨valV kvs (tk t), .inr ⟨kvs, tk t, r, .inl h1, rfl, hr, rfl⟩, h2 t⟩
theorem TiedAt.same {H H' : Hp} {d : Addr} {ts : List (Int × Int)} (e : Same H H') (h : TiedAt H d ts) : TiedAt H' d ts := by
  obtain ⟨kvs, h1, h2⟩ := h
  exact ⟨kvs, e _ _ h1, h2⟩
theorem WObj.same {H H' : Hp} {C x p : Addr} {ns : List Int} {b : Int} (e : Same H H') (h : WObj H C x p ns b) : WObj H' C x p ns b := by
  obtain ⟨dx, h1, h2⟩ := h
  exact ⟨dx, e _ _ h1, e _ _ h2⟩
theorem BObj.same {H H' : Hp} {C x p : Addr} {ns : List Int} (e : Same H H') (h : BObj H C x p ns) : BObj H' C x p ns := by
  obtain ⟨dx, h1, h2⟩ := h
  exact ⟨dx, e _ _ h1, e _ _ h2⟩
theorem atI_int {ns : List Int} {i : Nat} (h : i < ns.length) : atI (ns.map V.int) (i : Int) = some (.int (ns.getD i 0)) := atI_nat (by rw [List.getElem?_map, List.getD_eq_getElem?_getD, List.getElem?_eq_getElem h]; rfl)
end
end Tip
set_option Elab.async false
set_option linter.all false
set_option maxRecDepth 100000
set_option maxHeartbeats 4000000
namespace Tip
open PySem PySem.Spec PyProof.Rows L2
section
variable {P : Program} {w : World} {K : PySem.W.Frag} {mg : Str → Option Value} {base : Heap}
def bars (ts : List (Int × Int)) (a b c d : Int) : Bool := (tiedB ts (a, b) && tiedB ts (c, d)) && (!tiedB ts (a, c) && !tiedB ts (b, d))
def bFour (ts : List (Int × Int)) : List Int → Bool
  | [a, b, c, d] => decide (distinct [a, b, c, d] = 4) && bars ts a b c d
  | _ => false
def bShows (four : List Int) (n : Nat) (ts : List (Int × Int)) : Bool := four.all (isPl n) && bFour ts four
def sp_B_shows (K : PySem.W.Frag) (C : Addr) : Sp := fun vs H Q _ => ∃ x p four n a ts, vs = [.ref x, .int (n : Nat), .ref a] ∧ BObj H C x p four ∧ four.length ≤ 1000 ∧ n ≤ 1000 ∧ Ties K H a ts ∧ ts.length ≤ 1000 ∧ ∀ H', Same H H' → Q (.bl (bShows four n ts)) H'
/-- the places that are tied to the one, and neither are nor are tied to the other -/
def owns (n : Nat) (ts : List (Int × Int)) (one other : Int) : List Nat := (List.range n).filter fun v : Nat => tiedB ts ((v : Int), one) && (!decide ((v : Int) = other) && !tiedB ts ((v : Int), other))
def natV (l : List Nat) : List V := l.map fun i : Nat => V.int (i : Int)
def sp_tied_to_one_only (K : PySem.W.Frag) : Sp := fun vs H Q _ => ∃ one other n d ts, vs = [.int one, .int other, .int (n : Nat), .ref d] ∧ n ≤ 1000 ∧ TiedAt H d ts ∧ ∀ H' p, Same H H' → H p = none → H' p = some (.lst (natV (owns n ts one other))) → Q (.ref p) H'
end
end Tip
set_option Elab.async false
set_option linter.all false
set_option maxRecDepth 100000
set_option maxHeartbeats 4000000
namespace Tip
open PySem PySem.Spec PyProof.Rows L2
section
variable {P : Program} {w : World} {K : PySem.W.Frag} {mg : Str → Option Value} {base : Heap}
def StepAt (H : Hp) (r : Addr) (s : Int × Bool) : Prop := H r = some (.tup [.int s.1, .bl s.2])
def RowAt (K : PySem.W.Frag) (H : Hp) (a : Addr) (st : List (Int × Bool)) : Prop := ∃ rs : List Addr, SqL K H a (rs.map V.ref) ∧ Paired (StepAt H) rs st
def wOf (m : Nat) (at_ : Nat) (t : Bool) : Int := if t = true then (m : Int) + at_ else (m : Int) - 1 - at_
def wTo (st : List (Int × Bool)) : Nat → List Int
  | 0 => List.replicate st.length 0
  | i + 1 => (wTo st i).set (st.getD i (0, false)).1.toNat (wOf st.length i (st.getD i (0, false)).2)
theorem wTo_len (st : List (Int × Bool)) : ∀ i, (wTo st i).length = st.length
  | 0 => by simp [wTo]
  | i + 1 => by rw [wTo, List.length_set, wTo_len st i]
def sp_weighed_by (K : PySem.W.Frag) (C : Addr) : Sp := fun vs H Q _ => ∃ a st, vs = [.ref a] ∧ RowAt K H a st ∧ st.length ≤ 1000 ∧ (∀ s ∈ st, 0 ≤ s.1 ∧ s.1 < st.length) ∧ ∀ H' x p, Same H H' → H x = none → H p = none → WObj H' C x p (wTo st st.length) ((st.length : Int) + st.length) → Q (.ref x) H'
structure GW (P : Program) (w : World) (K : PySem.W.Frag) (mg : Str → Option Value) (base : Heap) (C : Addr) : Prop where
  Weighed : MkOk P w K mg base 3 "Weighed" C (sp_W_init K C)
end
def posR : Pos := ⟨84, 42, 84, 69⟩
def qR : Str := (Str.ofString "row_by_counts" ++ Str.ofString ".<locals>.") ++ Str.ofString "<lambda>"
def qF : Str := (Str.ofString "four_that_bar" ++ Str.ofString ".<locals>.") ++ Str.ofString "<lambda>"
structure Tabs (TR TF : Addr) (H : Hp) : Prop where
  r : TabOk H TR posR qR
/-- all but tables is as it was -/
structure Sm (H H' : Hp) : Prop where
  keep : ∀ b o, H b = some o → (∀ ps, o ≠ .tbl ps) → H' b = some o
  free : ∀ b, H' b = none → H b = none
theorem Sm.refl (H : Hp) : Sm H H := ⟨fun _ _ h _ => h, fun _ h => h⟩
theorem Sm.trans {H H1 H2 : Hp} (a : Sm H H1) (b : Sm H1 H2) : Sm H H2 := ⟨fun c o h n => b.keep c o (a.keep c o h n) n, fun c h => a.free c (b.free c h)⟩
theorem Sm.of {H H' : Hp} (h : Same H H') : Sm H H' := ⟨fun b o e _ => h b o e, fun b e => h.free e⟩
theorem TabOk.same {H H' : Hp} {T : Addr} {pos : Pos} {q : Str} (e : Same H H') (h : TabOk H T pos q) : TabOk H' T pos q := by
  rcases h with h | ⟨c, h1, h2⟩
  · exact .inl (e _ _ h)
  · exact .inr ⟨c, e _ _ h1, e _ _ h2⟩
theorem Tabs.same {TR TF : Addr} {H H' : Hp} (e : Same H H') (h : Tabs TR TF H) : Tabs TR TF H' := ⟨TabOk.same e h.r⟩
theorem TabOk.tbl {H : Hp} {T : Addr} {pos : Pos} {q : Str} (h : TabOk H T pos q) : ∃ ps, H T = some (.tbl ps) := by
  rcases h with h | ⟨c, h1, h2⟩
  · exact ⟨_, h⟩
  · exact ⟨_, h1⟩
theorem SameT.sm {H H' : Hp} {T : Addr} {pos pos0 : Pos} {q q0 : Str} (h : SameT T pos q H H') (h0 : TabOk H T pos0 q0) : Sm H H' := by
  refine ⟨fun b o e n => h.1 b o e fun z => ?_, fun b e => ?_⟩
  · obtain ⟨ps, hp⟩ := TabOk.tbl h0
    rw [z, hp] at e
    exact n ps (Option.some.inj e).symm
  · cases q : H b with
    | none => rfl
    | some o =>
      by_cases z : b = T
      · obtain ⟨ps, hp⟩ := TabOk.tbl h.2
        rw [z, hp] at e; cases e
      · rw [h.1 b o q z] at e; cases e
theorem SameT.other {H H' : Hp} {T T2 : Addr} {pos pos2 pos0 : Pos} {q q2 q0 : Str} (h : SameT T pos q H H') (h0 : TabOk H T pos0 q0) (ne : T2 ≠ T) (h2 : TabOk H T2 pos2 q2) : TabOk H' T2 pos2 q2 := by
  obtain ⟨ps, hp⟩ := TabOk.tbl h0
  rcases h2 with h2 | ⟨c, h2, h3⟩
  · exact .inl (h.1 _ _ h2 ne)
  · refine .inr ⟨c, h.1 _ _ h2 ne, h.1 _ _ h3 fun z => ?_⟩
    rw [z, hp] at h3
    cases h3
theorem Tabs.stepR {TR TF : Addr} {H H' : Hp} (h : Tabs TR TF H) (st : SameT TR posR qR H H') : Tabs TR TF H' := ⟨st.2⟩
theorem Sm.seq {K : PySem.W.Frag} {H H' : Hp} {a : Addr} {xs : List V} (e : Sm H H') (h : SqL K H a xs) : SqL K H' a xs := by
  rcases h with (h | ⟨o, h⟩) | h
  · exact .inl (.inl (e.keep _ _ h (fun _ z => nomatch z)))
  · exact .inl (.inr ⟨o, e.keep _ _ h (fun _ z => nomatch z)⟩)
  · exact .inr h
theorem Sm.tup {H H' : Hp} {a : Addr} {xs : List V} (e : Sm H H') (h : H a = some (.tup xs)) : H' a = some (.tup xs) := e.keep _ _ h (fun _ z => nomatch z)
theorem Sm.lst {H H' : Hp} {a : Addr} {xs : List V} (e : Sm H H') (h : H a = some (.lst xs)) : H' a = some (.lst xs) := e.keep _ _ h (fun _ z => nomatch z)
theorem Ties.sm {K : PySem.W.Frag} {H H' : Hp} {a : Addr} {ts : List (Int × Int)} (e : Sm H H') (h : Ties K H a ts) : Ties K H' a ts := by
  obtain ⟨rs, h1, h2⟩ := h
  exact ⟨rs, e.seq h1, Paired.mapP h2 fun r t q => e.tup q⟩
theorem WObj.sm {H H' : Hp} {C x p : Addr} {ns : List Int} {b : Int} (e : Sm H H') (h : WObj H C x p ns b) : WObj H' C x p ns b := by
  obtain ⟨dx, h1, h2⟩ := h
  exact ⟨dx, e.keep _ _ h1 (fun _ z => nomatch z), e.lst h2⟩
theorem BObj.sm {H H' : Hp} {C x p : Addr} {ns : List Int} (e : Sm H H') (h : BObj H C x p ns) : BObj H' C x p ns := by
  obtain ⟨dx, h1, h2⟩ := h
  exact ⟨dx, e.keep _ _ h1 (fun _ z => nomatch z), e.lst h2⟩
/-- a def that holds a lambda: its code object and that one's table -/
structure FunL (K : PySem.W.Frag) (x : Str) (st : Stmt) (f : Addr) (fd : FuncData) (c0 : Addr) : Prop where
  ex : ∃ (oc : Value) (od : Option Addr) (kV doc pm : Value) (an : Option Addr) (ct : Value) (osl : Array (Option Value)),
    fd = PySem.W.fnOf x x (defArgs st) (defBody st) (defScope st) .none kV doc pm an (.ref c0) ct ∧ K.lookup f = some ⟨oc, od, .func fd, osl⟩ ∧ PySem.W.codeIn K (.ref c0) x = true
  kp : PySem.W.keepIn K (.ref f) = true
def HasDefL (K : PySem.W.Frag) (mg : Str → Option Value) (x : Str) (st : Stmt) (ps : List Str) (c0 : Addr) : Prop := ∃ f fd, FunL K x st f fd c0 ∧ mg x = some (.ref f) ∧ Binds K fd ps []
def BmOk (mg : Str → Option Value) (base : Heap) : Prop := ∃ bm o, mg "__builtins__" = some (.ref bm) ∧ bm ≠ builtinsNs ∧ bm ≠ mainGlobals ∧ base.get? bm = some o ∧ o.cls = .type "module" ∧ o.dict = some builtinsNs ∧ o.data = .plain
section
variable {P : Program} {w : World} {K : PySem.W.Frag} {mg : Str → Option Value} {base : Heap}
theorem FunL.ok {x : Str} {st : Stmt} {f c0 : Addr} {fd : FuncData} {N ps : List Str} {k : Nat} {sp : Sp} (F : FunL K x st f fd c0) (S : FnScope N ps (defScope st)) (len : ∀ vs H Q E, sp vs H Q E → vs.length = ps.length)
    (hbody : ∀ (A : Around) (outer : List Env) (s : Shared) (H : Hp) (vs : List V) (Q : VK) (E : XK), Room k (A.deeper (envOfC x (defScope st) s.heap.objs.size f (.ref c0))) → sp vs H Q E →
      ∃ t, PSs (cxOf CX0 P w K mg base N x (defScope st) f (.ref c0) A outer s H E).nox (defBody st) t ∧ t { nx := fun _ H' => Q .non H', rt := Q } (start N vs) H) : FnOk P w K mg base CX0 (k + 1) f fd ps sp := by
  obtain ⟨oc, od, kV, doc, pm, an, ct, osl, rfl, lk, hcd⟩ := F.ex
  refine fn_of lk hcd S len fun A outer s H vs Q E hr hsp => ?_
  obtain ⟨t, h, q⟩ := hbody A outer s H vs Q E hr hsp
  exact ⟨t, h.nox, q⟩
theorem HasDefL.df {x : Str} {st : Stmt} {ps : List Str} {k : Nat} {sp : Sp} {c0 : Addr} (h : HasDefL K mg x st ps c0) (ok : ∀ f fd, FunL K x st f fd c0 → FnOk P w K mg base CX0 k f fd ps sp) : Df P w K mg base k x ps sp := by
  obtain ⟨f, fd, F, hm, hb⟩ := h
  exact ⟨f, fd, ok f fd F, hm, F.kp, hb⟩
end
end Tip
set_option Elab.async false
set_option linter.all false
set_option maxRecDepth 100000
set_option maxHeartbeats 4000000
namespace Tip
open PySem PySem.Spec PyProof.Rows L2
structure Rises (n : Nat) (ts : List (Int × Int)) (os : List Nat) : Prop where
  perm : os.Perm (List.range n)
  sorted : os.Pairwise fun x y : Nat => deg ts (x : Int) ≤ deg ts (y : Int)
def NoBar (n : Nat) (ts : List (Int × Int)) (os : List Nat) (m : Nat) : Prop := ∀ i x y, i < m → os[i]? = some x → os[i + 1]? = some y → owns n ts x y = [] ∨ owns n ts y x = []
theorem rises_of {n : Nat} {ts : List (Int × Int)} {out : List Int} (h : KeySorted (fun k => (degs n ts).getD k 0) (degs n ts).length out) : ∃ os, out = os.map (fun k : Nat => (k : Int)) ∧ Rises n ts os := by
  obtain ⟨xs, e1, e2, e3, _⟩ := h
  rw [degs_len] at e2
  refine ⟨xs, e1, e2, e3.imp_of_mem fun {x y} hx hy h => ?_⟩
  have gx : ∀ z, z ∈ xs → (degs n ts).getD z 0 = (deg ts z : Int) := fun z hz => by
    have := List.mem_range.mp (e2.mem_iff.mp hz)
    rw [List.getD_eq_getElem?_getD, degs_at this]; rfl
  have h' : (degs n ts).getD x 0 ≤ (degs n ts).getD y 0 := h
  rw [gx x hx, gx y hy] at h'
  omega
section
variable {P : Program} {w : World} {K : PySem.W.Frag} {mg : Str → Option Value} {base : Heap}
def sp_four (K : PySem.W.Frag) (TR TF : Addr) : Sp := fun vs H Q _ => ∃ (n : Nat) (a : Addr) (ts : List (Int × Int)), vs = [.int n, .ref a] ∧ Ties K H a ts ∧ WebOk n ts ∧ Tabs TR TF H ∧
  (∀ H' os, Sm H H' → Tabs TR TF H' → Rises n ts os → NoBar n ts os (os.length - 1) → Q .non H') ∧
  ∀ H' p (x b c y : Nat), Sm H H' → Tabs TR TF H' → H' p = some (.lst (natV [x, b, c, y])) → b < n → c < n → b ≠ c → x ∈ owns n ts b c → y ∈ owns n ts c b → Q (.ref p) H'
structure G9 (P : Program) (w : World) (K : PySem.W.Frag) (mg : Str → Option Value) (base : Heap) : Prop where
  counts_of : Df P w K mg base 1 "counts_of" ["places", "ties"] (sp_counts_of K)
  tied_both_ways : Df P w K mg base 1 "tied_both_ways" ["ties"] (sp_tied_both_ways K)
  tied_to_one_only : Df P w K mg base 1 "tied_to_one_only" ["one", "other", "places", "tied"] (sp_tied_to_one_only K)
theorem nat_map (l : List Nat) : (l.map fun k : Nat => (k : Int)).map V.int = natV l := by unfold natV; rw [List.map_map]; rfl
theorem natV_at {l : List Nat} {i : Nat} : (natV l)[i]? = (l[i]?).map fun k : Nat => V.int (k : Int) := by unfold natV; rw [List.getElem?_map]
end
end Tip
set_option Elab.async false
set_option linter.all false
set_option maxRecDepth 100000
set_option maxHeartbeats 4000000
namespace Tip
open PySem PySem.Spec PyProof.Rows L2
/-- how the places left are taken -/
inductive Run (g : Nat → Int) : List Nat → Nat → List (Int × Bool) → Prop
  | nil {tt : Nat} : Run g [] tt []
  | low {x : Nat} {r : List Nat} {tt : Nat} {out : List (Int × Bool)} : g x = (tt : Int) → Run g r tt out → Run g (x :: r) tt (((x : Int), false) :: out)
  | high {x y : Nat} {r lf : List Nat} {tt : Nat} {out : List (Int × Bool)} : lf[0]? = some x → lf = r ++ [y] → g x ≠ (tt : Int) → g y = (tt : Int) + lf.length - 1 → Run g r (tt + 1) out → Run g lf tt (((y : Int), true) :: out)
theorem natV_len (l : List Nat) : (natV l).length = l.length := by unfold natV; rw [List.length_map]
theorem natV_app (l r : List Nat) : natV (l ++ r) = natV l ++ natV r := by unfold natV; rw [List.map_append]
section
variable {P : Program} {w : World} {K : PySem.W.Frag} {mg : Str → Option Value} {base : Heap}
abbrev s_row_by_counts : Stmt := top 25
theorem sc_row_by_counts : FnScope ["counts", "left", "behind", "taken_true"] ["counts"] (defScope s_row_by_counts) := ⟨rfl, rfl, rfl, by decide +kernel, rfl, by decide +kernel, by decide +kernel⟩
def sp_row (K : PySem.W.Frag) (TR TF : Addr) : Sp := fun vs H Q _ => ∃ (a : Addr) (ns : List Int), vs = [.ref a] ∧ Ints K H a ns ∧ ns.length ≤ 1000 ∧ Tabs TR TF H ∧
  (∀ out, KeySorted (fun k => ns.getD k 0) ns.length out → ∃ os res, out = os.map (fun k : Nat => (k : Int)) ∧ (∀ x ∈ os, x < ns.length) ∧ os.length = ns.length ∧ Run (fun k => ns.getD k 0) os 0 res ∧ ∀ H' p, Sm H H' → Tabs TR TF H' → RowAt K H' p res.reverse → Q (.ref p) H')
theorem Paired.reverse {α β : Type} {F : α → β → Prop} : ∀ {l₁ : List α} {l₂ : List β}, Paired F l₁ l₂ → Paired F l₁.reverse l₂.reverse
  | _, _, .nil => .nil
  | _, _, .cons r t => by rw [List.reverse_cons, List.reverse_cons]; exact Paired.snoc (Paired.reverse t) r
end
end Tip
set_option Elab.async false
set_option linter.all false
set_option maxRecDepth 100000
namespace Tip
open PySem PySem.Spec PyProof.Rows L2
def adj (ts : List (Int × Int)) (u v : Nat) : Bool := tiedB ts ((u : Int), (v : Int))
theorem tiedB_comm (ts : List (Int × Int)) (a b : Int) : tiedB ts (a, b) = tiedB ts (b, a) := by
  unfold tiedB
  congr 1
  funext t
  rw [Bool.eq_iff_iff]
  simp only [Bool.or_eq_true, decide_eq_true_eq]
  obtain ⟨x, y⟩ := t
  simp only [Prod.mk.injEq]
  constructor
  · rintro (⟨rfl, rfl⟩ | ⟨rfl, rfl⟩)
    · exact .inr ⟨rfl, rfl⟩
    · exact .inl ⟨rfl, rfl⟩
  · rintro (⟨rfl, rfl⟩ | ⟨rfl, rfl⟩)
    · exact .inr ⟨rfl, rfl⟩
    · exact .inl ⟨rfl, rfl⟩
theorem adj_comm (ts : List (Int × Int)) (u v : Nat) : adj ts u v = adj ts v u := tiedB_comm ts _ _
theorem WebOk.lt {n : Int} {ts : List (Int × Int)} (h : WebOk n ts) {t : Int × Int} (ht : t ∈ ts) : 0 ≤ t.1 ∧ t.1 < t.2 ∧ t.2 < n := by
  have := h.all t ht
  unfold tieOk at this
  simp only [Bool.and_eq_true, decide_eq_true_eq] at this
  exact ⟨this.1.1, this.2.2, this.2.1.2⟩
theorem adj_irr {n : Int} {ts : List (Int × Int)} (h : WebOk n ts) (u : Nat) : adj ts u u = false := by
  rw [Bool.eq_false_iff]
  intro z
  unfold adj tiedB at z
  obtain ⟨t, ht, e⟩ := List.any_eq_true.mp z
  have := h.lt ht
  simp only [Bool.or_eq_true, decide_eq_true_eq, Prod.mk.injEq] at e
  rcases e with rfl | ⟨e1, e2⟩
  · simp at this
  · omega
theorem countP_sub {p q : Nat → Bool} : ∀ {l : List Nat}, (∀ w ∈ l, p w = true → q w = true) → l.countP p ≤ l.countP q
  | [], _ => Nat.le_refl _
  | a :: r, h => by
    have ih := countP_sub (l := r) fun w hw => h w (by simp [hw])
    rw [List.countP_cons, List.countP_cons]
    have ha := h a (by simp)
    by_cases hp : p a = true
    · rw [if_pos hp, if_pos (ha hp)]; omega
    · rw [if_neg hp]; omega
theorem countP_eq_of {p q : Nat → Bool} : ∀ {l : List Nat}, (∀ w ∈ l, p w = true → q w = true) → l.countP q ≤ l.countP p → ∀ w ∈ l, q w = true → p w = true
  | [], _, _, w, hw, _ => by simp at hw
  | a :: r, h, hc, w, hw, hq => by
    have hs := countP_sub (l := r) fun w hw => h w (by simp [hw])
    rw [List.countP_cons, List.countP_cons] at hc
    have ha := h a (by simp)
    have hr : r.countP q ≤ r.countP p ∧ (q a = true → p a = true) := by
      by_cases hp : p a = true
      · rw [if_pos hp, if_pos (ha hp)] at hc; exact ⟨by omega, fun _ => hp⟩
      · rw [if_neg hp] at hc
        by_cases hq : q a = true
        · rw [if_pos hq] at hc; omega
        · exact ⟨by rw [if_neg hq] at hc; omega, fun z => absurd z hq⟩
    rcases List.mem_cons.mp hw with rfl | hw'
    · exact hr.2 hq
    · exact countP_eq_of (l := r) (fun w hw => h w (by simp [hw])) hr.1 w hw' hq
theorem countP_out {f : Nat → Bool} {u : Nat} : ∀ {l : List Nat}, u ∉ l → l.countP f = l.countP fun w => f w && !decide (w = u)
  | [], _ => rfl
  | a :: r, h => by
    have h' : u ≠ a ∧ u ∉ r := ⟨fun z => h (by simp [z]), fun z => h (by simp [z])⟩
    rw [List.countP_cons, List.countP_cons, countP_out h'.2]
    have : (f a && !decide (a = u)) = f a := by rw [decide_eq_false (Ne.symm h'.1)]; simp
    rw [this]
theorem countP_but {f : Nat → Bool} {u : Nat} : ∀ {l : List Nat}, l.Nodup → u ∈ l → l.countP f = (l.countP fun w => f w && !decide (w = u)) + if f u = true then 1 else 0
  | [], _, h => by simp at h
  | a :: r, hn, h => by
    have hn' := List.nodup_cons.mp hn
    rw [List.countP_cons, List.countP_cons]
    by_cases e : a = u
    · subst e
      have h0 : (f a && !decide (a = a)) = false := by simp
      rw [h0, if_neg Bool.false_ne_true, Nat.add_zero, ← countP_out hn'.1]
    · have hu : u ∈ r := by
        rcases List.mem_cons.mp h with z | z
        · exact absurd z.symm e
        · exact z
      have h1 : (f a && !decide (a = u)) = f a := by rw [decide_eq_false e]; simp
      rw [h1, countP_but hn'.2 hu]
      omega
theorem nodup_map_on {α β : Type} {f : α → β} : ∀ {l : List α}, (∀ x ∈ l, ∀ y ∈ l, f x = f y → x = y) → l.Nodup → (l.map f).Nodup
  | [], _, _ => List.nodup_nil
  | a :: r, h, hn => by
    have hn' := List.nodup_cons.mp hn
    rw [List.map_cons, List.nodup_cons]
    refine ⟨fun z => ?_, nodup_map_on (fun x hx y hy => h x (by simp [hx]) y (by simp [hy])) hn'.2⟩
    obtain ⟨b, hb, e⟩ := List.mem_map.mp z
    have := h b (by simp [hb]) a (by simp) e
    exact hn'.1 (this ▸ hb)
theorem deg_nb {n : Nat} {ts : List (Int × Int)} (ok : WebOk n ts) (v : Nat) : deg ts (v : Int) = (List.range n).countP fun u => adj ts u v := by
  unfold deg
  rw [List.countP_eq_length_filter, List.countP_eq_length_filter]
  let oth : Int × Int → Nat := fun t => if t.1 = (v : Int) then t.2.toNat else t.1.toNat
  have e1 : (ts.filter fun t => decide (t.1 = (v : Int)) || decide (t.2 = (v : Int))).length = ((ts.filter fun t => decide (t.1 = (v : Int)) || decide (t.2 = (v : Int))).map oth).length := (List.length_map _).symm
  rw [e1]
  apply List.Perm.length_eq
  rw [List.perm_ext_iff_of_nodup]
  · intro u
    rw [List.mem_map, List.mem_filter, List.mem_range]
    constructor
    · rintro ⟨t, ht, rfl⟩
      obtain ⟨ht1, ht2⟩ := List.mem_filter.mp ht
      have hl := ok.lt ht1
      simp only [Bool.or_eq_true, decide_eq_true_eq] at ht2
      show (if t.1 = (v : Int) then t.2.toNat else t.1.toNat) < n ∧ adj ts (if t.1 = (v : Int) then t.2.toNat else t.1.toNat) v = true
      by_cases h1 : t.1 = (v : Int)
      · rw [if_pos h1]
        refine ⟨by omega, ?_⟩
        unfold adj tiedB
        refine List.any_eq_true.mpr ⟨t, ht1, ?_⟩
        have : (t.2, t.1) = ((t.2.toNat : Int), (v : Int)) := by rw [h1, Int.toNat_of_nonneg (by omega)]
        rw [decide_eq_true this, Bool.or_true]
      · rw [if_neg h1]
        have h2 := ht2.resolve_left h1
        refine ⟨by omega, ?_⟩
        unfold adj tiedB
        refine List.any_eq_true.mpr ⟨t, ht1, ?_⟩
        have : t = ((t.1.toNat : Int), (v : Int)) := by rw [← h2, Int.toNat_of_nonneg (by omega)]
        rw [← this, decide_eq_true rfl, Bool.true_or]
    · rintro ⟨hu, ha⟩
      unfold adj tiedB at ha
      obtain ⟨t, ht, e⟩ := List.any_eq_true.mp ha
      have hl := ok.lt ht
      simp only [Bool.or_eq_true, decide_eq_true_eq] at e
      refine ⟨t, List.mem_filter.mpr ⟨ht, ?_⟩, ?_⟩
      · rcases e with rfl | e
        · simp
        · simp only [Prod.mk.injEq] at e; simp [e.2]
      · show (if t.1 = (v : Int) then t.2.toNat else t.1.toNat) = u
        rcases e with rfl | e
        · rw [if_neg (show ¬ (u : Int) = (v : Int) by simp at hl; omega)]; simp
        · simp only [Prod.mk.injEq] at e; rw [if_pos e.2, e.1]; simp
  · refine nodup_map_on (fun s hs t ht e => ?_) (ok.nd.filter _)
    obtain ⟨hs1, hs2⟩ := List.mem_filter.mp hs
    obtain ⟨ht1, ht2⟩ := List.mem_filter.mp ht
    have ls := ok.lt hs1
    have lt := ok.lt ht1
    simp only [Bool.or_eq_true, decide_eq_true_eq] at hs2 ht2
    have e' : (if s.1 = (v : Int) then s.2.toNat else s.1.toNat) = (if t.1 = (v : Int) then t.2.toNat else t.1.toNat) := e
    have : s.1 = t.1 ∧ s.2 = t.2 := by
      by_cases h1 : s.1 = (v : Int)
      · rw [if_pos h1] at e'
        by_cases h2 : t.1 = (v : Int)
        · rw [if_pos h2] at e'; exact ⟨by omega, by omega⟩
        · rw [if_neg h2] at e'; have := ht2.resolve_left h2; omega
      · rw [if_neg h1] at e'
        have h1' := hs2.resolve_left h1
        by_cases h2 : t.1 = (v : Int)
        · rw [if_pos h2] at e'; omega
        · rw [if_neg h2] at e'; have := ht2.resolve_left h2; exact ⟨by omega, by omega⟩
    exact Prod.ext this.1 this.2
  · exact List.nodup_range.filter _
def Sub (n : Nat) (ts : List (Int × Int)) (u v : Nat) : Prop := ∀ w, w < n → adj ts w u = true → w ≠ v → adj ts w v = true
theorem sub_iff {n : Nat} {ts : List (Int × Int)} {u v : Nat} : owns n ts (u : Int) (v : Int) = [] ↔ Sub n ts u v := by
  unfold owns
  rw [List.filter_eq_nil_iff]
  constructor
  · intro h w hw ha hne
    have := h w (List.mem_range.mpr hw)
    unfold adj at ha ⊢
    rw [ha, Bool.true_and] at this
    have hd : decide ((w : Int) = (v : Int)) = false := by rw [decide_eq_false_iff_not]; omega
    rw [hd] at this
    simpa using this
  · intro h w hw z
    simp only [Bool.and_eq_true, Bool.not_eq_true', decide_eq_false_iff_not] at z
    have := h w (List.mem_range.mp hw) z.1 (fun e => z.2.1 (by rw [e]))
    unfold adj at this
    rw [this] at z
    exact Bool.false_ne_true z.2.2.symm
theorem sub_trans {n : Nat} {ts : List (Int × Int)} {u v z : Nat} (hu : u < n) (hv : v < n) (hz : z < n) (huz : u ≠ z) (hvz : v ≠ z) (h1 : Sub n ts u v) (h2 : Sub n ts v z) : Sub n ts u z := by
  intro w hw ha hne
  by_cases e : w = v
  · subst e
    have a1 : adj ts u z = true := h2 u hu (by rw [adj_comm]; exact ha) huz
    have a2 : adj ts z w = true := h1 z hz (by rw [adj_comm]; exact a1) (Ne.symm hvz)
    rw [adj_comm]; exact a2
  · exact h2 w hw (h1 w hw ha e) hne
theorem sub_of_deg {n : Nat} {ts : List (Int × Int)} {u v : Nat} (ok : WebOk n ts) (hu : u < n) (hv : v < n) (hd : deg ts (u : Int) ≤ deg ts (v : Int)) (h : Sub n ts v u) : Sub n ts u v := by
  rw [deg_nb ok, deg_nb ok, countP_but List.nodup_range (List.mem_range.mpr hv), countP_but (u := u) (f := fun w => adj ts w v) List.nodup_range (List.mem_range.mpr hu)] at hd
  have hs : adj ts u v = adj ts v u := adj_comm _ _ _
  have hd' : ((List.range n).countP fun w => adj ts w u && !decide (w = v)) ≤ (List.range n).countP fun w => adj ts w v && !decide (w = u) := by
    rw [hs] at hd; omega
  intro w hw ha hne
  have key := countP_eq_of (p := fun w => adj ts w v && !decide (w = u)) (q := fun w => adj ts w u && !decide (w = v)) (l := List.range n) (fun x hx hp => ?_) hd' w (List.mem_range.mpr hw) (by simp [ha, hne])
  · simp at key; exact key.1
  · simp only [Bool.and_eq_true, Bool.not_eq_true', decide_eq_false_iff_not] at hp ⊢
    refine ⟨h x (List.mem_range.mp hx) hp.1 hp.2, fun z => ?_⟩
    rw [z, adj_irr ok] at hp
    exact Bool.false_ne_true hp.1
def TipW (n : Nat) (ts : List (Int × Int)) : Prop := ∀ u v : Nat, u < n → v < n → owns n ts (u : Int) (v : Int) = [] ∨ owns n ts (v : Int) (u : Int) = []
theorem Rises.lt {n : Nat} {ts : List (Int × Int)} {os : List Nat} (h : Rises n ts os) {x : Nat} (hx : x ∈ os) : x < n := List.mem_range.mp (h.perm.mem_iff.mp hx)
theorem Rises.nd {n : Nat} {ts : List (Int × Int)} {os : List Nat} (h : Rises n ts os) : os.Nodup := h.perm.nodup_iff.mpr List.nodup_range
theorem Rises.len {n : Nat} {ts : List (Int × Int)} {os : List Nat} (h : Rises n ts os) : os.length = n := by rw [h.perm.length_eq, List.length_range]
theorem Rises.le {n : Nat} {ts : List (Int × Int)} {os : List Nat} (h : Rises n ts os) {i j : Nat} (hij : i < j) (hj : j < os.length) : deg ts (os[i]'(by omega) : Int) ≤ deg ts (os[j] : Int) := (List.pairwise_iff_getElem.mp h.sorted) i j (by omega) hj hij
theorem chain_of {n : Nat} {ts : List (Int × Int)} {os : List Nat} (hR : Rises n ts os) (hc : ∀ i (hi : i + 1 < os.length), Sub n ts (os[i]'(by omega)) os[i + 1]) : ∀ (j i : Nat) (hij : i < j) (hj : j < os.length), Sub n ts (os[i]'(by omega)) os[j]
  | 0, i, hij, _ => by omega
  | j + 1, i, hij, hj => by
    by_cases e : i = j
    · subst e; exact hc i hj
    · have h1 := chain_of hR hc j i (by omega) (by omega)
      refine sub_trans (hR.lt (List.getElem_mem _)) (hR.lt (List.getElem_mem _)) (hR.lt (List.getElem_mem _)) (fun z => ?_) (fun z => ?_) h1 (hc j hj)
      · have := (List.getElem_inj hR.nd).mp z; omega
      · have := (List.getElem_inj hR.nd).mp z; omega
theorem nobar_tip {n : Nat} {ts : List (Int × Int)} {os : List Nat} (ok : WebOk n ts) (hR : Rises n ts os) (h : NoBar n ts os (os.length - 1)) : TipW n ts := by
  have hc : ∀ i (hi : i + 1 < os.length), Sub n ts (os[i]'(by omega)) os[i + 1] := fun i hi => by
    rcases h i _ _ (by omega) (List.getElem?_eq_getElem (by omega)) (List.getElem?_eq_getElem hi) with z | z
    · exact sub_iff.mp z
    · exact sub_of_deg ok (hR.lt (List.getElem_mem _)) (hR.lt (List.getElem_mem _)) (hR.le (Nat.lt_succ_self i) hi) (sub_iff.mp z)
  intro u v hu hv
  obtain ⟨i, hi, rfl⟩ := List.mem_iff_getElem.mp (hR.perm.mem_iff.mpr (List.mem_range.mpr hu))
  obtain ⟨j, hj, rfl⟩ := List.mem_iff_getElem.mp (hR.perm.mem_iff.mpr (List.mem_range.mpr hv))
  rcases Nat.lt_trichotomy i j with z | z | z
  · exact .inl (sub_iff.mpr (chain_of hR hc j i z hj))
  · subst z; exact .inl (sub_iff.mpr fun w hw ha _ => ha)
  · exact .inr (sub_iff.mpr (chain_of hR hc i j z hi))
theorem tip_chain {n : Nat} {ts : List (Int × Int)} {os : List Nat} (ok : WebOk n ts) (hR : Rises n ts os) (h : TipW n ts) : os.Pairwise (Sub n ts) := by
  rw [List.pairwise_iff_getElem]
  intro i j hi hj hij
  rcases h _ _ (hR.lt (List.getElem_mem hi)) (hR.lt (List.getElem_mem hj)) with z | z
  · exact sub_iff.mp z
  · exact sub_of_deg ok (hR.lt (List.getElem_mem _)) (hR.lt (List.getElem_mem _)) (hR.le hij hj) (sub_iff.mp z)
end Tip
set_option Elab.async false
set_option linter.all false
set_option maxRecDepth 100000
namespace Tip
open PySem PySem.Spec PyProof.Rows L2
structure RowR (ts : List (Int × Int)) (lf : List Nat) (out : List (Int × Bool)) : Prop where
  perm : (out.map (·.1)).Perm (lf.map fun k : Nat => (k : Int))
  tied : out.Pairwise fun s t => tiedB ts (t.1, s.1) = s.2
structure LeftOk (n : Nat) (ts : List (Int × Int)) (lf : List Nat) (tt : Nat) : Prop where
  nd : lf.Nodup
  lt : ∀ x ∈ lf, x < n
  ch : lf.Pairwise (Sub n ts)
  cnt : ∀ x ∈ lf, deg ts (x : Int) = tt + lf.countP fun y => adj ts y x
theorem countP_zero {p : Nat → Bool} {l : List Nat} (h : l.countP p = 0) {x : Nat} (hx : x ∈ l) : p x = false := by
  rw [List.countP_eq_zero] at h
  exact Bool.eq_false_iff.mpr (h x hx)
theorem run_ex {n : Nat} {ts : List (Int × Int)} {g : Nat → Int} (ok : WebOk n ts) (hg : ∀ x, x < n → g x = (deg ts (x : Int) : Int)) : ∀ (k : Nat) (lf : List Nat) (tt : Nat), lf.length = k → LeftOk n ts lf tt → ∃ out, Run g lf tt out ∧ RowR ts lf out
  | 0, lf, tt, hk, L => by
    have : lf = [] := List.eq_nil_of_length_eq_zero hk
    subst this
    exact ⟨[], .nil, ⟨.nil, .nil⟩⟩
  | k + 1, lf, tt, hk, L => by
    cases lf with
    | nil => simp at hk
    | cons x r =>
      have hxn := L.lt x (by simp)
      by_cases h : deg ts (x : Int) = tt
      · -- the first one is tied to none of them
        have h0 : (x :: r).countP (fun y => adj ts y x) = 0 := by have := L.cnt x (by simp); omega
        have hnot : ∀ y ∈ r, adj ts y x = false := fun y hy => countP_zero h0 (by simp [hy])
        have L' : LeftOk n ts r tt := ⟨(List.nodup_cons.mp L.nd).2, fun y hy => L.lt y (by simp [hy]), (List.pairwise_cons.mp L.ch).2, fun y hy => by
          have := L.cnt y (by simp [hy])
          rw [List.countP_cons, if_neg (by rw [adj_comm, hnot y hy]; exact Bool.false_ne_true)] at this
          exact this⟩
        obtain ⟨out, hr, R⟩ := run_ex ok hg k r tt (by simpa using hk) L'
        refine ⟨((x : Int), false) :: out, .low (by rw [hg x hxn, h]) hr, ?_, ?_⟩
        · exact List.Perm.cons _ R.perm
        · refine List.pairwise_cons.mpr ⟨fun t ht => ?_, R.tied⟩
          have hm := R.perm.mem_iff.mp (List.mem_map_of_mem (f := (·.1)) ht)
          obtain ⟨y, hy, e⟩ := List.mem_map.mp hm
          have := hnot y hy
          unfold adj at this
          rw [e] at this
          exact this
      · -- the last one is tied to all of them
        obtain ⟨r', y, e⟩ : ∃ r' y, x :: r = r' ++ [y] := ⟨(x :: r).dropLast, (x :: r).getLast (by simp), (List.dropLast_concat_getLast (by simp)).symm⟩
        have hpos : 0 < (x :: r).countP (fun y => adj ts y x) := by have := L.cnt x (by simp); omega
        obtain ⟨w, hw, hwx⟩ := List.countP_pos_iff.mp hpos
        have hwx : adj ts w x = true := hwx
        have hyn := L.lt y (by rw [e]; simp)
        have hyx : y ≠ x := fun z => by
          have hnd := L.nd
          rw [z] at e
          have hr0 : r = [] := by
            cases r' with
            | nil => simp at e; exact e
            | cons a r'' =>
              simp at e
              obtain ⟨rfl, e2⟩ := e
              rw [e2] at hnd
              simp at hnd
          subst hr0
          have : w = x := by simpa using hw
          rw [this, adj_irr ok] at hwx
          exact Bool.false_ne_true hwx
        have chy : ∀ z ∈ r', Sub n ts z y := fun z hz => by
          have := L.ch
          rw [e] at this
          exact (List.pairwise_append.mp this).2.2 z hz y (by simp)
        have chx : ∀ z ∈ r, Sub n ts x z := (List.pairwise_cons.mp L.ch).1
        have hxr' : x ∈ r' := by
          have : x ∈ r' ++ [y] := by rw [← e]; simp
          rcases List.mem_append.mp this with z | z
          · exact z
          · exact absurd (by simpa using z) (Ne.symm hyx)
        have hxy : adj ts x y = true := by
          by_cases hwy : w = y
          · rw [← hwy, adj_comm]; exact hwx
          · have hwr : w ∈ r' := by
              have : w ∈ r' ++ [y] := by rw [← e]; exact hw
              rcases List.mem_append.mp this with z | z
              · exact z
              · exact absurd (by simpa using z) hwy
            exact chy w hwr x hxn (by rw [adj_comm]; exact hwx) (Ne.symm hyx)
        have hall : ∀ z ∈ r', adj ts z y = true := fun z hz => by
          by_cases hzx : z = x
          · rw [hzx]; exact hxy
          · have hzr : z ∈ r := by
              have : z ∈ x :: r := by rw [e]; simp [hz]
              rcases List.mem_cons.mp this with q | q
              · exact absurd q hzx
              · exact q
            have hzy : y ≠ z := fun q => by
              have hnd := L.nd
              rw [e, List.nodup_append] at hnd
              exact hnd.2.2 z hz y (by simp) q.symm
            have := chx z hzr y hyn (by rw [adj_comm]; exact hxy) hzy
            rw [adj_comm]; exact this
        have hcy : (x :: r).countP (fun z => adj ts z y) = r'.length := by
          rw [e, List.countP_append, List.countP_cons, List.countP_nil, if_neg (by rw [adj_irr ok]; exact Bool.false_ne_true)]
          exact List.countP_eq_length.mpr hall
        have hdy := L.cnt y (by rw [e]; simp)
        have hlen : (x :: r).length = r'.length + 1 := by rw [e]; simp
        have L' : LeftOk n ts r' (tt + 1) := by
          have hnd := L.nd
          have hch := L.ch
          rw [e] at hnd hch
          refine ⟨(List.nodup_append.mp hnd).1, fun z hz => L.lt z (by rw [e]; simp [hz]), (List.pairwise_append.mp hch).1, fun z hz => ?_⟩
          have := L.cnt z (by rw [e]; simp [hz])
          rw [e, List.countP_append, List.countP_cons, List.countP_nil, if_pos (by rw [adj_comm]; exact hall z hz)] at this
          omega
        obtain ⟨out, hr, R⟩ := run_ex ok hg k r' (tt + 1) (by omega) L'
        refine ⟨((y : Int), true) :: out, .high (x := x) (by rfl) e (by rw [hg x hxn]; intro z; exact h (by omega)) (by rw [hg y hyn]; omega) hr, ?_, ?_⟩
        · rw [e, List.map_append, List.map_cons]
          exact (List.Perm.cons _ R.perm).trans (List.perm_append_comm (l₁ := [(y : Int)]))
        · refine List.pairwise_cons.mpr ⟨fun t ht => ?_, R.tied⟩
          have hm := R.perm.mem_iff.mp (List.mem_map_of_mem (f := (·.1)) ht)
          obtain ⟨z, hz, ez⟩ := List.mem_map.mp hm
          have := hall z hz
          unfold adj at this
          rw [ez] at this
          exact this
theorem run_tip {n : Nat} {ts : List (Int × Int)} {os : List Nat} (ok : WebOk n ts) (hR : Rises n ts os) (h : TipW n ts) : ∃ out, Run (fun k => (degs n ts).getD k 0) os 0 out ∧ RowR ts os out := by
  refine run_ex ok (fun x hx => by rw [List.getD_eq_getElem?_getD, degs_at hx]; rfl) os.length os 0 rfl ⟨hR.nd, fun x hx => hR.lt hx, tip_chain ok hR h, fun x hx => ?_⟩
  rw [deg_nb ok, Nat.zero_add]
  exact (hR.perm.countP_eq _).symm
structure RowOk (n : Nat) (ts : List (Int × Int)) (st : List (Int × Bool)) : Prop where
  perm : (st.map (·.1)).Perm (natI n)
  tied : st.Pairwise fun t s => tiedB ts (t.1, s.1) = s.2
theorem RowR.ok {n : Nat} {ts : List (Int × Int)} {os : List Nat} {out : List (Int × Bool)} (hR : Rises n ts os) (h : RowR ts os out) : RowOk n ts out.reverse := by
  refine ⟨?_, ?_⟩
  · rw [List.map_reverse]
    exact (List.reverse_perm _).trans (h.perm.trans (hR.perm.map _))
  · rw [List.pairwise_reverse]
    exact h.tied
theorem RowOk.len {n : Nat} {ts : List (Int × Int)} {st : List (Int × Bool)} (h : RowOk n ts st) : st.length = n := by
  have := h.perm.length_eq
  rw [List.length_map, natI_len] at this
  exact this
theorem mem_natI {n : Nat} {x : Int} : x ∈ natI n ↔ 0 ≤ x ∧ x < n := by
  unfold natI
  rw [List.mem_map]
  constructor
  · rintro ⟨k, hk, rfl⟩
    have := List.mem_range.mp hk
    omega
  · rintro ⟨h1, h2⟩
    exact ⟨x.toNat, List.mem_range.mpr (by omega), by omega⟩
theorem natI_nd (n : Nat) : (natI n).Nodup := by
  unfold natI
  exact nodup_map_on (fun x _ y _ e => by have e' : (x : Int) = (y : Int) := e; omega) List.nodup_range
theorem RowOk.pl {n : Nat} {ts : List (Int × Int)} {st : List (Int × Bool)} (h : RowOk n ts st) : ∀ s ∈ st, 0 ≤ s.1 ∧ s.1 < st.length := fun s hs => by
  rw [h.len]
  exact mem_natI.mp (h.perm.mem_iff.mp (List.mem_map_of_mem (f := (·.1)) hs))
theorem RowOk.nd {n : Nat} {ts : List (Int × Int)} {st : List (Int × Bool)} (h : RowOk n ts st) : (st.map (·.1)).Nodup := h.perm.nodup_iff.mpr (natI_nd n)
theorem wTo_at {n : Nat} {ts : List (Int × Int)} {st : List (Int × Bool)} (h : RowOk n ts st) : ∀ (m i : Nat) (hm : m ≤ st.length) (hi : i < m), (wTo st m).getD (st[i]'(by omega)).1.toNat 0 = wOf st.length i (st[i]'(by omega)).2
  | 0, i, _, hi => by omega
  | m + 1, i, hm, hi => by
    have hmm : m < st.length := by omega
    have eg : st.getD m (0, false) = st[m] := by rw [List.getD_eq_getElem?_getD, List.getElem?_eq_getElem hmm]; rfl
    rw [wTo, eg]
    have hp := h.pl st[m] (List.getElem_mem hmm)
    by_cases e : i = m
    · subst e
      rw [List.getD_eq_getElem?_getD, List.getElem?_set_self (by rw [wTo_len]; omega)]
      rfl
    · have hi' : i < st.length := by omega
      have hpi := h.pl st[i] (List.getElem_mem hi')
      have hne : st[m].1.toNat ≠ st[i].1.toNat := fun z => by
        have z' : st[m].1 = st[i].1 := by omega
        have hm1 : (st.map (·.1))[m]'(by rw [List.length_map]; exact hmm) = (st.map (·.1))[i]'(by rw [List.length_map]; exact hi') := by rw [List.getElem_map, List.getElem_map]; exact z'
        have := (List.getElem_inj h.nd).mp hm1
        omega
      rw [List.getD_eq_getElem?_getD, List.getElem?_set_ne hne, ← List.getD_eq_getElem?_getD]
      exact wTo_at h m i (by omega) (by omega)
structure GoodW (n : Nat) (ts : List (Int × Int)) (ns : List Int) (b : Int) : Prop where
  len : ns.length = n
  pos : ∀ x ∈ ns, 0 ≤ x
  one : 1 ≤ b
  tied : ∀ i j : Nat, i < j → j < n → tiedB ts ((i : Int), (j : Int)) = decide (b ≤ ns.getD i 0 + ns.getD j 0)
theorem RowOk.place {n : Nat} {ts : List (Int × Int)} {st : List (Int × Bool)} (h : RowOk n ts st) {a : Nat} (ha : a < n) : ∃ i, ∃ hi : i < st.length, st[i].1 = (a : Int) := by
  have : (a : Int) ∈ st.map (·.1) := h.perm.mem_iff.mpr (mem_natI.mpr (by omega))
  obtain ⟨i, hi, e⟩ := List.mem_iff_getElem.mp this
  rw [List.getElem_map] at e
  exact ⟨i, by simpa using hi, e⟩
theorem row_good {n : Nat} {ts : List (Int × Int)} {st : List (Int × Bool)} (hn : 1 ≤ n) (h : RowOk n ts st) : GoodW n ts (wTo st st.length) ((st.length : Int) + st.length) := by
  have hl := h.len
  have val : ∀ {a i : Nat} (hi : i < st.length), st[i].1 = (a : Int) → (wTo st st.length).getD a 0 = wOf st.length i st[i].2 := fun {a i} hi e => by
    have := wTo_at h st.length i (Nat.le_refl _) hi
    rw [e, Int.toNat_natCast] at this
    exact this
  refine ⟨by rw [wTo_len, hl], fun x hx => ?_, by omega, fun a c hac hc => ?_⟩
  · obtain ⟨k, hk, rfl⟩ := List.mem_iff_getElem.mp hx
    rw [wTo_len] at hk
    obtain ⟨i, hi, e⟩ := h.place (a := k) (by omega)
    have := val hi e
    rw [List.getD_eq_getElem?_getD, List.getElem?_eq_getElem (by rw [wTo_len]; exact hk)] at this
    have this : (wTo st st.length)[k] = wOf st.length i st[i].2 := this
    rw [this]
    unfold wOf
    split <;> omega
  · obtain ⟨i, hi, ei⟩ := h.place (a := a) (by omega)
    obtain ⟨j, hj, ej⟩ := h.place (a := c) hc
    rw [val hi ei, val hj ej]
    have hpw := List.pairwise_iff_getElem.mp h.tied
    rcases Nat.lt_trichotomy i j with z | z | z
    · have := hpw i j hi hj z
      rw [ei, ej] at this
      rw [this]
      unfold wOf
      cases hb : st[j].2 with
      | true =>
        rw [if_pos rfl, eq_comm, decide_eq_true_iff]
        split <;> omega
      | false =>
        rw [if_neg Bool.false_ne_true, eq_comm, decide_eq_false_iff_not]
        split <;> omega
    · subst z; rw [ei] at ej; omega
    · have := hpw j i hj hi z
      rw [ei, ej, tiedB_comm] at this
      rw [this]
      unfold wOf
      cases hb : st[i].2 with
      | true =>
        rw [if_pos rfl, eq_comm, decide_eq_true_iff]
        split <;> omega
      | false =>
        rw [if_neg Bool.false_ne_true, eq_comm, decide_eq_false_iff_not]
        split <;> omega
theorem GoodW.shows {n : Nat} {ts : List (Int × Int)} {ns : List Int} {b : Int} (h : GoodW n ts ns b) : wShows ns b n ts = true := by
  unfold wShows
  simp only [Bool.and_eq_true, decide_eq_true_eq, List.all_eq_true]
  refine ⟨⟨by rw [h.len], h.pos⟩, h.one, fun p hp => ?_⟩
  obtain ⟨i, j, hij, hj, rfl⟩ := prs_mem.mp hp
  unfold pairOk
  rw [h.tied i j hij hj]
  simp
end Tip
set_option Elab.async false
set_option linter.all false
set_option maxRecDepth 100000
set_option maxHeartbeats 4000000
namespace Tip
open PySem PySem.Spec PyProof.Rows L2
section
variable {P : Program} {w : World} {K : PySem.W.Frag} {mg : Str → Option Value} {base : Heap}
def sp_told (K : PySem.W.Frag) (TR TF CW CB : Addr) : Sp := fun vs H Q _ => ∃ (n : Nat) (a : Addr) (ts : List (Int × Int)), vs = [.int n, .ref a] ∧ Ties K H a ts ∧ WebOk n ts ∧ Tabs TR TF H ∧
  (TipW n ts → ∀ H' x p ns b, Sm H H' → Tabs TR TF H' → H x = none → H p = none → WObj H' CW x p ns b → GoodW n ts ns b → Q (.ref x) H') ∧
  (¬ TipW n ts → ∀ H' x p four, Sm H H' → Tabs TR TF H' → H x = none → H p = none → BObj H' CB x p four → four.length = 4 → bShows four n ts = true → Q (.ref x) H')
structure G11 (P : Program) (w : World) (K : PySem.W.Frag) (mg : Str → Option Value) (base : Heap) (TR TF CW CB : Addr) : Prop where
  check_web : Df P w K mg base 5 "check_web" ["places", "ties"] (sp_check_ties K)
  four_that_bar : Df P w K mg base 4 "four_that_bar" ["places", "ties"] (sp_four K TR TF)
  row_by_counts : Df P w K mg base 4 "row_by_counts" ["counts"] (sp_row K TR TF)
  counts_of : Df P w K mg base 1 "counts_of" ["places", "ties"] (sp_counts_of K)
  weighed_by : Df P w K mg base 5 "weighed_by" ["row"] (sp_weighed_by K CW)
  Barred : MkOk P w K mg base 3 "Barred" CB (sp_B_init K CB)
end
end Tip
set_option Elab.async false
set_option linter.all false
set_option maxRecDepth 100000
set_option maxHeartbeats 4000000
namespace L2
open PySem PySem.Spec PyProof.Rows
/-- the reading of a comprehension, by an invariant of what is collected -/
theorem lc_inv {J : It} {Ok : Hp → Prop} {n : Nat} {P : Nat → V → Hp → Prop} {g : TG} {tt : TT} {te : TE} {vs : List Nat} {σ : St} {H1 : Hp} {D : Addr} {Qd : Hp → Prop} (W : Walks J Ok n P) (hz : n ≤ 1000000)
    (Pv : Nat → List V → Hp → Prop) (hok : ∀ i ys H, Pv i ys H → H D = some (.lst ys) → Ok H) (h0 : Pv 0 [] (upd H1 D (.lst [])))
    (step : ∀ (Nx : Hp → Prop) i x ys H H', i < n → Pv i ys H → H D = some (.lst ys) → Same H H' → P i x H' → (∀ H2, H2 D = some (.lst ys) → Pv (i + 1) ys H2 → Nx H2) →
      (∀ y H2, H2 D = some (.lst ys) → Pv (i + 1) (ys ++ [y]) (upd H2 D (.lst (ys ++ [y]))) → ∃ acc, H2 D = some (.lst acc) ∧ acc.length < sizeLine ∧ Nx (upd H2 D (.lst (acc ++ [y])))) →
      g x (wipe σ vs) H' fun σ2 H2 => wipe σ2 vs = wipe σ vs ∧ tt σ2 H2 fun b H3 => if b = true then te σ2 H3 fun y H4 => ∃ acc, H4 D = some (.lst acc) ∧ acc.length < sizeLine ∧ Nx (upd H4 D (.lst (acc ++ [y]))) else Nx H3)
    (done : ∀ ys H', H' D = some (.lst ys) → Pv n ys H' → Qd H') :
    ∃ W : Nat → Nat → Hp → Prop, (∃ m, W 0 m (upd H1 D (.lst []))) ∧ ∀ i m H, W i m H → (J.stop i H ∧ Qd H) ∨ (J.go i H ∧ ∃ Nx : Hp → Prop, (∀ H', Nx H' → ∃ m', m' < m ∧ W (i + 1) m' H') ∧ ∀ x H', J.yld i H x H' →
      g x (wipe σ vs) H' fun σ2 H2 => wipe σ2 vs = wipe σ vs ∧ tt σ2 H2 fun b H3 => if b = true then te σ2 H3 fun y H4 => ∃ acc, H4 D = some (.lst acc) ∧ acc.length < sizeLine ∧ Nx (upd H4 D (.lst (acc ++ [y]))) else Nx H3) := by
  refine ⟨fun i m H => m = n - i ∧ i ≤ n ∧ ∃ ys, H D = some (.lst ys) ∧ ys.length ≤ i ∧ Pv i ys H, ⟨n, by simp, Nat.zero_le _, [], upd_same, Nat.le_refl _, h0⟩, ?_⟩
  rintro i m H ⟨rfl, hi, ys, hy, hl, pv⟩
  have ok := hok i ys H pv hy
  by_cases hlt : i < n
  · refine .inr ⟨W.go i H ok hlt, fun H' => i + 1 ≤ n ∧ ∃ ys, H' D = some (.lst ys) ∧ ys.length ≤ i + 1 ∧ Pv (i + 1) ys H', fun H' ⟨h1, h2⟩ => ⟨n - (i + 1), by omega, rfl, h1, h2⟩, fun x H' y => ?_⟩
    obtain ⟨s1, p1⟩ := W.yld i H x H' ok hlt y
    refine step _ i x ys H H' hlt pv hy s1 p1 (fun H2 e p => ⟨hlt, ys, e, by omega, p⟩) fun z H2 e p => ⟨ys, e, by rw [sizeLine_eq]; omega, hlt, ys ++ [z], upd_same, by rw [List.length_append]; simp; omega, p⟩
  · have e : i = n := by omega
    subst e
    exact .inl ⟨W.stop i H ok (Nat.le_refl _), done ys H hy pv⟩
end L2
namespace Tip
open PySem PySem.Spec PyProof.Rows L2
section
variable {P : Program} {w : World} {K : PySem.W.Frag} {mg : Str → Option Value} {base : Heap}
abbrev s_law_number : Stmt := top 27
theorem sc_law_number : FnScope ["_law_cell", "_law_at", "_law_whole_here", "_law_mixed", "_law_more"] ["_law_cell", "_law_at", "_law_whole_here"] (defScope s_law_number) := ⟨rfl, rfl, rfl, by decide +kernel, rfl, by decide +kernel, by decide +kernel⟩
def Big (x : Int) : Prop := Builtin.Int.intBits x ≤ 1049600
def sp_law_number : Sp := fun vs H Q _ => ∃ c a s, vs = [.int c, .int a, .int s] ∧ Big c ∧ 0 ≤ a ∧ a ≤ 5000 ∧ ∀ z, Q (.int z) H
theorem small_bits {x : Int} (h1 : -(2 ^ 63) < x) (h2 : x < 2 ^ 63) : Builtin.Int.intBits x ≤ 64 := intBits_le_64 (by omega) (by omega)
theorem df_law_number (T : Blt mg) (h : HasDef K mg "_law_number" s_law_number ["_law_cell", "_law_at", "_law_whole_here"]) : Df P w K mg base 1 "_law_number" ["_law_cell", "_law_at", "_law_whole_here"] sp_law_number := by
  refine h.df fun f fd F => ?_
  refine F.ok sc_law_number (fun vs H Q E h => ?_) (fun cdv A outer s H vs Q E hr h => ?_)
  · obtain ⟨c, a, s, rfl, _⟩ := h; rfl
  have nd := sc_law_number.nd
  obtain ⟨c, a, s, rfl, hc, ha, ha2, q⟩ := h
  refine ⟨_, (pss_cons (ps_if (pt_cmpR op_ge (pv 0) (pe_op op_pow pe_int pe_int) (nomark _)) (pss_one (ps_ret (pv 0))) pss_nil) (pss_cons (ps_set (i := 3) nd rfl (by first | exact Or.inl rfl | exact Or.inr rfl) (pe_op op_mod (pe_op op_add (pe_op op_mulB (pe_op op_add (pv 0) (pe_op op_mulB pe_int (pv 1))) pe_int) (pv 2)) pe_int)) (pss_cons (ps_set (i := 4) nd rfl (by first | exact Or.inl rfl | exact Or.inr rfl) (pe_op op_mulB (pe_op op_mulB (pv 3) (pe_op op_add (pe_op op_add (pv 3) (pe_op op_mulB pe_int (pv 1))) pe_int)) (pe_op op_add (pe_op op_add (pv 3) (pv 0)) pe_int))) (pss_one (ps_ret (pe_op op_fdiv (pe_op op_mulB (pv 4) (pe_op op_add (pv 4) pe_int)) pe_int)))))), ?_⟩
  refine ⟨_, rfl, _, _, rfl, rfl, ⟨by decide, by decide, by decide⟩, _, _, rfl, rfl, _, rfl, ?_⟩
  refine ite2 (fun _ => ⟨_, rfl, q _⟩) (fun _ => ?_)
  have b1 : Builtin.Int.intBits (977 * a) ≤ 64 := small_bits (by omega) (by omega)
  have b2 : Builtin.Int.intBits (c + 977 * a) ≤ 1049601 := intBits_add_le hc b1
  refine ⟨_, rfl, _, rfl, _, _, rfl, rfl, IntMulOk.of_le (small_bits (by decide) (by decide)) (small_bits (by omega) (by omega)) (by decide : 64 + 64 ≤ _), ?_⟩
  refine ⟨_, _, rfl, rfl, _, _, rfl, rfl, IntMulOk.of_le b2 (small_bits (by decide) (by decide)) (by decide : 1049601 + 64 ≤ _), ?_⟩
  refine ⟨_, rfl, _, _, rfl, rfl, _, _, rfl, rfl, (by show (0 : Int) < 2147483647; decide), ?_⟩
  have key : ∀ m : Int, 0 ≤ m → m < 2147483647 → IntMulOk m (m + 31 * a + 7) ∧ IntMulOk (m * (m + 31 * a + 7)) (m + c + 5) ∧ IntMulOk (m * (m + 31 * a + 7) * (m + c + 5)) (m * (m + 31 * a + 7) * (m + c + 5) + 48271) := fun m m0 m1 => by
    have c1 : Builtin.Int.intBits m ≤ 64 := small_bits (by omega) (by omega)
    have c2 : Builtin.Int.intBits (m + 31 * a + 7) ≤ 64 := small_bits (by omega) (by omega)
    have c3 : Builtin.Int.intBits (m * (m + 31 * a + 7)) ≤ 128 := intBits_mul_le c1 c2
    have c4 : Builtin.Int.intBits (m + c + 5) ≤ 1049602 := intBits_add_le (m := 1049601) (n := 64) (intBits_add_le (m := 64) (n := 1049600) c1 hc) (small_bits (by decide) (by decide))
    have c5 : Builtin.Int.intBits (m * (m + 31 * a + 7) * (m + c + 5)) ≤ 1049730 := intBits_mul_le c3 c4
    have c6 : Builtin.Int.intBits (m * (m + 31 * a + 7) * (m + c + 5) + 48271) ≤ 1049731 := intBits_add_le (m := 1049730) (n := 64) c5 (small_bits (by decide) (by decide))
    exact ⟨IntMulOk.of_le c1 c2 (by decide), IntMulOk.of_le c3 c4 (by decide), IntMulOk.of_le c5 c6 (by decide)⟩
  obtain ⟨k1, k2, k3⟩ := key _ (Int.emod_nonneg ((c + 977 * a) * 48271 + s) (by decide : (2147483647 : Int) ≠ 0)) (Int.emod_lt_of_pos ((c + 977 * a) * 48271 + s) (by decide : (0 : Int) < 2147483647))
  refine ⟨_, rfl, _, rfl, _, rfl, _, _, rfl, rfl, IntMulOk.of_le (small_bits (by decide) (by decide)) (small_bits (by omega) (by omega)) (by decide : 64 + 64 ≤ _), _, _, rfl, rfl, _, _, rfl, rfl, ?_⟩
  refine ⟨_, _, rfl, rfl, k1, ?_⟩
  refine ⟨_, rfl, _, rfl, _, _, rfl, rfl, _, _, rfl, rfl, _, _, rfl, rfl, k2, ?_⟩
  refine ⟨_, rfl, _, rfl, _, _, rfl, rfl, _, _, rfl, rfl, k3, _, _, rfl, rfl, ⟨by decide, by decide⟩, q _⟩
abbrev s_law_whole : Stmt := top 31
theorem sc_law_whole : FnScope ["_law_found"] ["_law_found"] (defScope s_law_whole) := ⟨rfl, rfl, rfl, by decide +kernel, rfl, by decide +kernel, by decide +kernel⟩
def sp_law_whole : Sp := fun vs H Q _ => ∃ i, vs = [.int i] ∧ Q (.bl true) H
theorem df_law_whole (T : Blt mg) (h : HasDef K mg "_law_whole" s_law_whole ["_law_found"]) : Df P w K mg base 1 "_law_whole" ["_law_found"] sp_law_whole := by
  refine h.df fun f fd F => ?_
  refine F.ok sc_law_whole (fun vs H Q E h => ?_) (fun cdv A outer s H vs Q E hr h => ?_)
  · obtain ⟨i, rfl, _⟩ := h; rfl
  have nd := sc_law_whole.nd
  obtain ⟨i, rfl, q⟩ := h
  refine ⟨_, (pss_one (ps_ret (pe_and (pe_callB cr_isa rfl T.isinstance (by decide +kernel) (pa_cons (pv 0) (pa_cons (pe_bltn rfl T.int_ (by decide +kernel) (v := .ty "int") rfl) pa_nil))) (pe_one (pe_not (pe_callB cr_isa rfl T.isinstance (by decide +kernel) (pa_cons (pv 0) (pa_cons (pe_bltn rfl T.bool_ (by decide +kernel) (v := .ty "bool") rfl) pa_nil)))))))), ?_⟩
  refine ⟨_, rfl, _, "int", "int", rfl, rfl, .inl rfl, true, rfl, iteT ?_⟩
  exact ⟨_, rfl, _, "bool", "int", rfl, rfl, .inr (.inl rfl), false, rfl, q⟩
def sp_law_numbers (K : PySem.W.Frag) : Sp := fun vs H Q _ => ∃ a ns, vs = [.ref a] ∧ Ints K H a ns ∧ ns.length ≤ 1000 ∧ ∀ H', Same H H' → Q (.bl true) H'
structure GL1 (P : Program) (w : World) (K : PySem.W.Frag) (mg : Str → Option Value) (base : Heap) : Prop where
  _law_whole : Df P w K mg base 1 "_law_whole" ["_law_found"] sp_law_whole
end
end Tip
set_option Elab.async false
set_option linter.all false
set_option maxRecDepth 100000
set_option maxHeartbeats 4000000
namespace Tip
open PySem PySem.Spec PyProof.Rows L2
def rowB (n : Nat) (g : Nat → Bool) : List V := (List.range n).map fun j : Nat => V.bl (g j)
theorem rowB_len (n : Nat) (g : Nat → Bool) : (rowB n g).length = n := by unfold rowB; rw [List.length_map, List.length_range]
theorem rowB_at {n : Nat} {g : Nat → Bool} {j : Nat} (h : j < n) : (rowB n g)[j]? = some (.bl (g j)) := by unfold rowB; rw [List.getElem?_map, List.getElem?_range h]; rfl
theorem rowB_set {n : Nat} {g : Nat → Bool} {j : Nat} (h : j < n) : (rowB n g).set j (.bl true) = rowB n fun i => g i || decide (i = j) := by
  apply List.ext_getElem
  · rw [List.length_set, rowB_len, rowB_len]
  · intro i h1 h2
    rw [List.length_set, rowB_len] at h1
    rw [List.getElem_set]
    have e : ∀ (g : Nat → Bool) (hh : i < (rowB n g).length), (rowB n g)[i] = .bl (g i) := fun g hh => by
      have := rowB_at (g := g) h1
      rw [List.getElem?_eq_getElem hh] at this
      exact Option.some.inj this
    by_cases z : j = i
    · subst z; rw [if_pos rfl, e _ h2, decide_eq_true rfl, Bool.or_true]
    · rw [if_neg z, e, e]
      rw [decide_eq_false (Ne.symm z), Bool.or_false]
def RowsAt (H : Hp) (rows : List Addr) (n : Nat) (f : Nat → Nat → Bool) : Prop := ∀ k r, rows[k]? = some r → H r = some (.lst (rowB n (f k)))
theorem RowsAt.set {H : Hp} {rows : List Addr} {n : Nat} {f : Nat → Nat → Bool} {k0 j0 : Nat} {r0 : Addr} (h : RowsAt H rows n f) (hn : rows.Nodup) (h0 : rows[k0]? = some r0) (hj : j0 < n) :
    RowsAt (upd H r0 (.lst ((rowB n (f k0)).set j0 (.bl true)))) rows n fun k j => f k j || (decide (k = k0) && decide (j = j0)) := fun k r hr => by
  by_cases e : k = k0
  · subst e
    rw [h0] at hr
    cases hr
    rw [upd_same, rowB_set hj]
    simp
  · have hne : r ≠ r0 := fun z => e (nd_ix hn (by rw [hr, z]) h0)
    rw [upd_ne hne, h k r hr]
    simp [e]
structure NearL (H : Hp) (a : Addr) (rows : List Addr) (n : Nat) (f : Nat → Nat → Bool) : Prop where
  at_ : H a = some (.lst (rows.map V.ref))
  len : rows.length = n
  nd : rows.Nodup
  out : a ∉ rows
  rows : RowsAt H rows n f
def NearAt (H : Hp) (a : Addr) (n : Nat) (ts : List (Int × Int)) : Prop := ∃ rows, NearL H a rows n fun k j => tiedB ts ((k : Int), (j : Int))
theorem NearAt.same {H H' : Hp} {a : Addr} {n : Nat} {ts : List (Int × Int)} (e : Same H H') (h : NearAt H a n ts) : NearAt H' a n ts := by
  obtain ⟨rows, h1, h2, h3, h4, h5⟩ := h
  exact ⟨rows, e _ _ h1, h2, h3, h4, fun k r hr => e _ _ (h5 k r hr)⟩
/-- near[i][j] -/
theorem NearAt.get {K : PySem.W.Frag} {H : Hp} {a : Addr} {n : Nat} {ts : List (Int × Int)} (h : NearAt H a n ts) {i j : Nat} (hi : i < n) (hj : j < n) : ∃ r rows xs, SqL K H a rows ∧ atI rows (i : Int) = some (.ref r) ∧ SqL K H r xs ∧ atI xs (j : Int) = some (.bl (tiedB ts ((i : Int), (j : Int)))) := by
  obtain ⟨rows, h1, h2, h3, h4, h5⟩ := h
  have hr : rows[i]? = some (rows[i]'(by omega)) := List.getElem?_eq_getElem (by omega)
  refine ⟨rows[i]'(by omega), _, _, SqL.of h1, atI_nat (by rw [List.getElem?_map, hr]; rfl), SqL.of (h5 i _ hr), atI_nat (rowB_at hj)⟩
section
variable {P : Program} {w : World} {K : PySem.W.Frag} {mg : Str → Option Value} {base : Heap}
abbrev s_law_near : Stmt := top 29
theorem sc_law_near : FnScope ["_law_places", "_law_ties_here", "_law_found", "_law_one", "_law_other", "_law_place"] ["_law_places", "_law_ties_here"] (defScope s_law_near) := ⟨rfl, rfl, rfl, by decide +kernel, rfl, by decide +kernel, by decide +kernel⟩
def sp_law_near (K : PySem.W.Frag) : Sp := fun vs H Q _ => ∃ (n : Nat) (a : Addr) (ts : List (Int × Int)), vs = [.int n, .ref a] ∧ Ties K H a ts ∧ WebOk n ts ∧ ∀ H' d, Same H H' → H d = none → NearAt H' d n ts → Q (.ref d) H'
theorem df_law_near (T : Blt mg) (h : HasDef K mg "_law_near" s_law_near ["_law_places", "_law_ties_here"]) : Df P w K mg base 1 "_law_near" ["_law_places", "_law_ties_here"] (sp_law_near K) := by
  refine h.df fun f fd F => ?_
  refine F.ok sc_law_near (fun vs H Q E h => ?_) (fun cdv A outer s H vs Q E hr h => ?_)
  · obtain ⟨n, a, ts, rfl, _⟩ := h; rfl
  have nd := sc_law_near.nd
  obtain ⟨n, a, ts, rfl, ht, ok, q⟩ := h
  obtain ⟨rs, hs, hp⟩ := id ht
  have hrl : rs.length = ts.length := hp.length
  have hn40 := ok.hi
  refine ⟨_, (pss_cons (ps_setLc (i := 2) (own := [("_law_place", 5)]) (g := (gName 5)) rfl nd rfl rfl (sw_true rfl rfl rfl (by decide +kernel)) (pi_range1 rfl T.range (pa_cons (pv 0) pa_nil)) (blkOk_by (own := [("_law_place", 5)]) (N := ["_law_places", "_law_ties_here", "_law_found", "_law_one", "_law_other", "_law_place"]) (sc := (defScope s_law_near)) (by decide +kernel)) (fun _ _ _ _ _ => (pg_name (i := 5) nd rfl (by first | exact Or.inl rfl | exact Or.inr rfl))) (fun _ _ _ _ _ => pts_nil) (fun _ _ _ _ _ => (pe_op op_rep (pe_lst (pa_cons pe_bl pa_nil)) (pv 0)))) (pss_cons (ps_for PassesOwn.never rfl (pi_list (pv 1)) (pg_tup rfl (pgs_cons (pg_name (i := 3) nd rfl (by first | exact Or.inl rfl | exact Or.inr rfl)) (pgs_cons (pg_name (i := 4) nd rfl (by first | exact Or.inl rfl | exact Or.inr rfl)) pgs_nil))) (pss_cons (ps_asg pe_bl (pg_sub (pe_ix ix_list (pv 2) (pv 3) (fun _ _ => rfl)) (pv 4) set_list)) (pss_one (ps_asg pe_bl (pg_sub (pe_ix ix_list (pv 2) (pv 4) (fun _ _ => rfl)) (pv 3) set_list))))) (pss_one (ps_ret (pv 2))))), ?_⟩
  refine ⟨_, rfl, _, rfl, by omega, by omega, fun D hD => ?_⟩
  refine lc_inv (Walks.rng (lo := 0) (n := n)) (by omega) (fun i ys H' => Same H H' ∧ ∃ rows : List Addr, ys = rows.map V.ref ∧ rows.length = i ∧ rows.Nodup ∧ D ∉ rows ∧ (∀ r ∈ rows, H r = none) ∧ RowsAt H' rows n fun _ _ => false) (fun _ _ _ _ _ => trivial)
    ⟨same_new' hD _, [], rfl, rfl, List.nodup_nil, by simp, by simp, fun k r hr => by simp at hr⟩ (fun Nx i x ys H1 H2 hi hP hy s2 hx hk ha => ?_) (fun ys H1 hy hP => ?_)
  · obtain ⟨s1, rows, rfl, hl, hnd, hDr, hfr, hrows⟩ := hP
    subst hx
    refine ⟨rfl, yesT ?_⟩
    refine ⟨(by show 1 ≤ sizeLine; decide), fun z hz => ⟨_, rfl, z, (n : Int), _, rfl, rfl, upd_same, by omega, by omega, ?_, fun p hp3 => ?_⟩⟩
    · show 1 * ((n : Int)).toNat ≤ sizeLine
      rw [sizeLine_eq]; omega
    have s3 := same_new' hz (.lst [.bl false])
    have e0 : (List.replicate ((n : Int)).toNat [V.bl false]).flatten = rowB n fun _ => false := by
      rw [Int.toNat_natCast]
      unfold rowB
      apply List.ext_getElem
      · simp
      · intro i h1 h2
        simp
    rw [e0]
    have s4 := same_new' hp3 (.lst (rowB n fun _ => false))
    have hy2 := s2 _ _ hy
    have hpD : p ≠ D := fun e => by rw [e, s3 _ _ hy2] at hp3; cases hp3
    have hpr : p ∉ rows := fun e => by
      obtain ⟨k, hk, rfl⟩ := List.mem_iff_getElem.mp e
      have := s3 _ _ (s2 _ _ (hrows k _ (List.getElem?_eq_getElem hk)))
      rw [this] at hp3; cases hp3
    refine ha _ _ (s4 _ _ (s3 _ _ hy2)) ⟨fun b o e => ?_, rows ++ [p], by rw [List.map_append]; rfl, by rw [List.length_append, hl]; rfl, nd_snoc hnd hpr, by simp [hDr, Ne.symm hpD], fun r hr => ?_, fun k r hr => ?_⟩
    · rw [upd_ne (ne_of_none e hD)]
      exact s4 _ _ (s3 _ _ (s2 _ _ (s1 _ _ e)))
    · rcases List.mem_append.mp hr with z | z
      · exact hfr r z
      · have : r = p := by simpa using z
        subst this
        exact s1.free (s2.free (s3.free hp3))
    · by_cases e : k < rows.length
      · rw [List.getElem?_append_left e] at hr
        have hrD : r ≠ D := fun z => hDr (z ▸ List.mem_of_getElem? hr)
        rw [upd_ne hrD]
        exact s4 _ _ (s3 _ _ (s2 _ _ (hrows k r hr)))
      · rw [List.getElem?_append_right (by omega)] at hr
        have : k - rows.length = 0 := by
          have := (List.getElem?_eq_some_iff.mp hr).1
          simp at this; omega
        rw [this] at hr
        have : r = p := by simpa using hr.symm
        subst this
        rw [upd_ne hpD, upd_same]
  · obtain ⟨s1, rows, rfl, hl, hnd, hDr, hfr, hrows⟩ := hP
    refine ⟨_, rfl, a, rfl, ⟨_, s1.seq hs⟩, ?_⟩
    refine for_walk (Walks.list (K := K) (a := a) (xs := rs.map V.ref)) (fun i σ H' => Same H H' ∧ (∃ x y u, σ = [some (.int n), some (.ref a), some (.ref D), x, y, u]) ∧ H' D = some (.lst (rows.map V.ref)) ∧ RowsAt H' rows n fun k j => tiedB (ts.take i) ((k : Int), (j : Int))) (fun i σ H' h => h.1.seq hs)
      ⟨s1, ⟨_, _, _, rfl⟩, hy, hrows⟩ (fun i x σ H3 H4 hi hP s4 hx => ?_) (fun σ H' h => ?_)
    · obtain ⟨s3, ⟨y1, y2, y3, rfl⟩, hD3, hr3⟩ := hP
      rw [List.getElem?_map] at hx
      cases hr1 : rs[i]? with
      | none => rw [hr1] at hx; cases hx
      | some r =>
        rw [hr1] at hx
        have ex : x = .ref r := (Option.some.inj hx).symm
        subst ex
        obtain ⟨t, ht1, ht2⟩ := Paired.at hp hr1
        have sH4 : Same H H4 := s3.trans s4
        obtain ⟨a1, ab, b2⟩ := ok.lt (List.mem_of_getElem? ht1)
        obtain ⟨u, hu⟩ := Int.eq_ofNat_of_zero_le a1
        obtain ⟨v, hv⟩ := Int.eq_ofNat_of_zero_le (show 0 ≤ t.2 by omega)
        have hun : u < n := by omega
        have hvn : v < n := by omega
        have hru : rows[u]? = some (rows[u]'(by omega)) := List.getElem?_eq_getElem (by omega)
        have hrv : rows[v]? = some (rows[v]'(by omega)) := List.getElem?_eq_getElem (by omega)
        have hD4 := s4 _ _ hD3
        have hr4 : RowsAt H4 rows n fun k j => tiedB (ts.take i) ((k : Int), (j : Int)) := fun k r hr => s4 _ _ (hr3 k r hr)
        refine ⟨r, _, rfl, SqT.of (sH4 _ _ ht2), rfl, _, _, rfl, _, _, rfl, rfl, ?_⟩
        have ixv : ∀ g : Nat → Bool, ixN (rowB n g).length t.2 = some v := fun g => by
          unfold ixN
          rw [if_pos (by omega), if_pos (by rw [rowB_len]; omega), hv]; rfl
        have ixu : ∀ g : Nat → Bool, ixN (rowB n g).length t.1 = some u := fun g => by
          unfold ixN
          rw [if_pos (by omega), if_pos (by rw [rowB_len]; omega), hu]; rfl
        refine ⟨_, rfl, _, rfl, D, _, t.1, _, rfl, rfl, SqL.of hD4, at_of hu (by rw [List.getElem?_map, hru]; rfl), ?_⟩
        refine ⟨_, rfl, rows[u], _, t.2, v, rfl, rfl, hr4 u _ hru, ixv _, ?_⟩
        have hr5 := hr4.set hnd hru hvn
        have hD5 : rows[u] ≠ D := fun z => hDr (z ▸ List.getElem_mem _)
        refine ⟨_, rfl, _, rfl, D, _, t.2, _, rfl, rfl, SqL.of (by rw [upd_ne (Ne.symm hD5)]; exact hD4), at_of hv (by rw [List.getElem?_map, hrv]; rfl), ?_⟩
        refine ⟨_, rfl, rows[v], _, t.1, u, rfl, rfl, hr5 v _ hrv, ixu _, ?_⟩
        have hr6 := hr5.set hnd hrv hun
        have hD6 : rows[v] ≠ D := fun z => hDr (z ▸ List.getElem_mem _)
        refine ⟨fun b o e => ?_, ⟨_, _, _, rfl⟩, ?_, ?_⟩
        · rw [upd_ne (ne_of_none e (hfr _ (List.getElem_mem _))), upd_ne (ne_of_none e (hfr _ (List.getElem_mem _)))]
          exact sH4 _ _ e
        · rw [upd_ne (Ne.symm hD6), upd_ne (Ne.symm hD5)]
          exact hD4
        · have et : ts.take (i + 1) = ts.take i ++ [t] := by rw [List.take_add_one, ht1]; rfl
          rw [et]
          have ef : (fun k j : Nat => tiedB (ts.take i ++ [t]) ((k : Int), (j : Int))) = fun k j : Nat => (tiedB (ts.take i) ((k : Int), (j : Int)) || (decide (k = u) && decide (j = v))) || (decide (k = v) && decide (j = u)) := by
            funext k j
            rw [tiedB_snoc, Bool.or_assoc]
            congr 1
            rw [Bool.eq_iff_iff]
            simp only [Bool.or_eq_true, Bool.and_eq_true, decide_eq_true_eq]
            constructor
            · rintro (e | e)
              · have e1 := congrArg Prod.fst e
                have e2 := congrArg Prod.snd e
                simp only at e1 e2
                exact .inl ⟨by omega, by omega⟩
              · have e1 := congrArg Prod.fst e
                have e2 := congrArg Prod.snd e
                simp only at e1 e2
                exact .inr ⟨by omega, by omega⟩
            · rintro (⟨rfl, rfl⟩ | ⟨rfl, rfl⟩)
              · exact .inl (Prod.ext hu hv)
              · exact .inr (Prod.ext hv hu)
          rw [ef]
          exact hr6
    · obtain ⟨s3, ⟨y1, y2, y3, rfl⟩, hD3, hr3⟩ := h
      rw [List.length_map, hrl, List.take_of_length_le (Nat.le_refl _)] at hr3
      exact ⟨_, rfl, q _ D s3 hD ⟨rows, hD3, hl, hnd, hDr, hr3⟩⟩
end
end Tip
set_option Elab.async false
set_option linter.all false
set_option maxRecDepth 100000
set_option maxHeartbeats 1000000
namespace Tip
open PySem PySem.Spec PyProof.Rows L2
def dInts (ns : List Int) : PyData := .list (ns.map .int)
def dTie (t : Int × Int) : PyData := .tuple [.int t.1, .int t.2]
def dTies (ts : List (Int × Int)) : PyData := .list (ts.map dTie)
section
variable {K : PySem.W.Frag} {H : Hp}
theorem dpAll_ints : ∀ ns : List Int, DpAll K H (ns.map V.int) (ns.map PyData.int)
  | [] => .nil
  | n :: r => .cons (.int n) (dpAll_ints r)
theorem dp_ints {a : Addr} {ns : List Int} (h : Ints K H a ns) : Dp K H (.ref a) (dInts ns) := .lst h (dpAll_ints ns)
theorem dp_tie {r : Addr} {t : Int × Int} (h : TupI H r t) : Dp K H (.ref r) (dTie t) := .tup (SqT.of h) (.cons (.int _) (.cons (.int _) .nil))
theorem dpAll_ties : ∀ {rs : List Addr} {ts : List (Int × Int)}, Paired (TupI H) rs ts → DpAll K H (rs.map V.ref) (ts.map dTie)
  | _, _, .nil => .nil
  | _, _, .cons h t => .cons (dp_tie h) (dpAll_ties t)
theorem dp_ties {a : Addr} {ts : List (Int × Int)} (h : Ties K H a ts) : Dp K H (.ref a) (dTies ts) := by
  obtain ⟨rs, h1, h2⟩ := h
  exact .lst h1 (dpAll_ties h2)
end
theorem eqvAll_ints : ∀ xs ys : List Int, PyData.eqvAll (xs.map .int) (ys.map .int) = decide (xs = ys)
  | [], [] => rfl
  | [], _ :: _ => rfl
  | _ :: _, [] => rfl
  | x :: xs, y :: ys => by
    show (PyData.eqv (.int x) (.int y) && PyData.eqvAll (xs.map .int) (ys.map .int)) = _
    rw [eqvAll_ints xs ys]
    show ((x == y) && decide (xs = ys)) = _
    rw [Bool.eq_iff_iff]
    simp
theorem eqv_ints (xs ys : List Int) : PyData.eqv (dInts xs) (dInts ys) = decide (xs = ys) := eqvAll_ints xs ys
theorem eqv_tie (s t : Int × Int) : PyData.eqv (dTie s) (dTie t) = decide (s = t) := by
  show ((s.1 == t.1) && ((s.2 == t.2) && true)) = _
  rw [Bool.eq_iff_iff]
  simp [Prod.ext_iff]
theorem eqvAll_ties : ∀ xs ys : List (Int × Int), PyData.eqvAll (xs.map dTie) (ys.map dTie) = decide (xs = ys)
  | [], [] => rfl
  | [], _ :: _ => rfl
  | _ :: _, [] => rfl
  | x :: xs, y :: ys => by
    show (PyData.eqv (dTie x) (dTie y) && PyData.eqvAll (xs.map dTie) (ys.map dTie)) = _
    rw [eqvAll_ties xs ys, eqv_tie, Bool.eq_iff_iff]
    simp
theorem eqv_ties (xs ys : List (Int × Int)) : PyData.eqv (dTies xs) (dTies ys) = decide (xs = ys) := eqvAll_ties xs ys
theorem lay_ints : ∀ ns : List Int, PyData.canLayAll0 (ns.map .int) = true ∧ PyData.depthAll (ns.map .int) ≤ 0
  | [] => ⟨rfl, Nat.le_refl _⟩
  | n :: r => by
    have := lay_ints r
    refine ⟨?_, ?_⟩
    · show (true && PyData.canLayAll0 (r.map .int)) = true
      rw [this.1]; rfl
    · show max 0 (PyData.depthAll (r.map .int)) ≤ 0
      omega
theorem lay_ties : ∀ ts : List (Int × Int), PyData.canLayAll0 (ts.map dTie) = true ∧ PyData.depthAll (ts.map dTie) ≤ 1
  | [] => ⟨rfl, Nat.zero_le _⟩
  | t :: r => by
    have := lay_ties r
    refine ⟨?_, ?_⟩
    · show (true && PyData.canLayAll0 (r.map dTie)) = true
      rw [this.1]; rfl
    · show max (max 0 (max 0 0) + 1) (PyData.depthAll (r.map dTie)) ≤ 1
      omega
theorem sh_ints (ns : List Int) : SeqAt.shaped (dInts ns) = true := by
  have h := lay_ints ns
  unfold SeqAt.shaped
  rw [show PyData.canLay0 (dInts ns) = PyData.canLayAll0 (ns.map .int) from rfl, h.1, show PyData.depth (dInts ns) = PyData.depthAll (ns.map .int) + 1 from rfl]
  simp; omega
theorem sh_ties (ts : List (Int × Int)) : SeqAt.shaped (dTies ts) = true := by
  have h := lay_ties ts
  unfold SeqAt.shaped
  rw [show PyData.canLay0 (dTies ts) = PyData.canLayAll0 (ts.map dTie) from rfl, h.1, show PyData.depth (dTies ts) = PyData.depthAll (ts.map dTie) + 1 from rfl]
  simp; omega
theorem sh_tie (t : Int × Int) : SeqAt.shaped (dTie t) = true := rfl
end Tip
namespace L2
open PySem PySem.Spec PyProof.Rows
section
variable {X : Cx}
theorem TupI.one {H : Hp} {r : Addr} {s t : Int × Int} (h1 : Tip.TupI H r s) (h2 : Tip.TupI H r t) : s = t := by
  unfold Tip.TupI at h1 h2
  rw [h1] at h2
  injection h2 with h2
  injection h2 with h2
  injection h2 with a b
  injection b with b _
  injection a with a
  injection b with b
  exact Prod.ext a b
noncomputable def isTup (H : Hp) (t : Int × Int) (u : Value) : Bool := @decide (∃ r', u = Value.ref r' ∧ Tip.TupI H r' t) (Classical.propDecidable _)
theorem isTup_iff {H : Hp} {t : Int × Int} {u : Value} : isTup H t u = true ↔ ∃ r', u = Value.ref r' ∧ Tip.TupI H r' t := by unfold isTup; exact @decide_eq_true_iff _ (Classical.propDecidable _)
theorem op_inTL (hu : X.A.units + 64 < cLine) : OpR X (compareOp .In) (fun x y H Q => ∃ (r a : Addr) (t : Int × Int) (ts : List (Int × Int)), x = .ref r ∧ y = .ref a ∧ Tip.TupI H r t ∧ Tip.Ties X.K H a ts ∧ Q (.bl (decide (t ∈ ts))) H) := by
  intro pins s σ H x y v u Q I rx ry h
  obtain ⟨r, a, t, ts, rfl, rfl, ht, ⟨rs, hs, hp⟩, q⟩ := h
  cases rx
  cases ry
  obtain ⟨its, rv, pl, hz⟩ := I.list hs
  have ei := vals_refs rv
  subst ei
  obtain ⟨as, r1⟩ := Dp.reads I (Tip.dTie t) (.ref r) (.ref r) (Tip.dp_tie ht) rfl
  refine SeqAt.in_listAt (isTup H t) pl.isList (fun w hw => ?_) ⟨.bl _, H, I, rfl, ?_⟩
  · obtain ⟨r', hr', rfl⟩ := List.mem_map.mp (by simpa using hw)
    obtain ⟨i, hi, ei⟩ := List.mem_iff_getElem.mp hr'
    obtain ⟨t', ht1, ht2⟩ := Tip.Paired.at hp (by rw [List.getElem?_eq_getElem hi, ei])
    obtain ⟨bs, r2⟩ := Dp.reads I (Tip.dTie t') (.ref r') (.ref r') (Tip.dp_tie ht2) rfl
    have e0 : X.A.in1.units = X.A.units + 1 := by simp
    have key := SeqAt.eqAt_reads (Tip.dTie t') (Tip.dTie t) X.A.in1 s (.ref r') (.ref r) bs as r2 r1 rfl rfl (show X.A.in1.units + min 1 1 < cLine from by rw [e0]; omega)
    rw [Tip.eqv_tie] at key
    have e : isTup H t (.ref r') = decide (t' = t) := by
      rw [Bool.eq_iff_iff, isTup_iff, decide_eq_true_iff]
      constructor
      · rintro ⟨r'', z, hz⟩
        injection z with z
        subst z
        exact TupI.one ht2 hz
      · rintro rfl
        exact ⟨r', rfl, ht2⟩
    rw [e]
    exact key
  · have e : ((rs.map Value.ref).toArray.any (isTup H t)) = decide (t ∈ ts) := by
      rw [Bool.eq_iff_iff, List.any_toArray, List.any_eq_true, decide_eq_true_iff]
      constructor
      · rintro ⟨u, hu, z⟩
        obtain ⟨r', hr', rfl⟩ := List.mem_map.mp hu
        obtain ⟨r'', e, h2⟩ := isTup_iff.mp z
        injection e with e
        subst e
        obtain ⟨i, hi, ei⟩ := List.mem_iff_getElem.mp hr'
        obtain ⟨t', ht1, ht2⟩ := Tip.Paired.at hp (by rw [List.getElem?_eq_getElem hi, ei])
        rw [TupI.one h2 ht2]
        exact List.mem_of_getElem? ht1
      · intro hm
        obtain ⟨i, hi, ei⟩ := List.mem_iff_getElem.mp hm
        obtain ⟨r', hr1, hr2⟩ := Tip.Paired.at' hp (by rw [List.getElem?_eq_getElem hi, ei])
        exact ⟨.ref r', List.mem_map.mpr ⟨r', List.mem_of_getElem? hr1, rfl⟩, isTup_iff.mpr ⟨r', rfl, hr2⟩⟩
    rw [e]
    exact q
end
end L2
set_option Elab.async false
set_option linter.all false
set_option maxRecDepth 100000
set_option maxHeartbeats 4000000
namespace L2
open PySem PySem.Spec PyProof.Rows
theorem pe_countK {X : Cx} {K : PySem.W.Frag} {o e : Expr} {to : TE} {t : TA} {apos cpos : Pos} (ho : PE X o to) (ha : PA X [e] t) (hK : X.K = K := by rfl) (hbase : attributeBase o "count" X.env (eval o X.env) = eval o X.env := by rfl)
    (hfew : ((backTo cpos (starEach [e] X.env)).all (fun x => !x.1) && (backToKw cpos (keywordEach [] X.env)).all (fun x => x.1.isSome)
      && decide ([e].length + ([] : List Keyword).length + (if ([] : List Keyword).isEmpty then 0 else 1) < 30)) = true := by rfl)
    (hline : (apos.endLine == cpos.line) = true := by rfl) (hs : starEach [e] X.env = (false, eval e X.env) :: starEach [] X.env := by rfl) (hplain : (backTo cpos (starEach [] X.env)).any (·.1) = false := by rfl) :
    PE X (.Call (.Attribute o "count" apos) [e] [] cpos) (tBM K "list" (rCount K) to t) := by
  subst hK
  exact pe_bm PySem.F.plainAttrs_list PySem.F.slot_list_count PySem.F.type_list_count mt_count' ho ha hbase hfew hline hs hplain
theorem call_len_seqK {X : Cx} {K : PySem.W.Frag} (hK : X.K = K := by rfl) : CallR X (.builtin "len") (fun xs H Q => ∃ p ys, xs = [.ref p] ∧ (SqL K H p ys ∨ SqT K H p ys) ∧ Q (.int ys.length) H) := by subst hK; exact call_len_seq
theorem op_neDK {X : Cx} {K : PySem.W.Frag} (hu : X.A.units + 64 < cLine) (hK : X.K = K := by rfl) : OpR X (compareOp .NotEq) (rNeD K) := by subst hK; exact op_neD hu
end L2
namespace Tip
open PySem PySem.Spec PyProof.Rows L2
theorem Paired.perm {α β : Type} {F : α → β → Prop} {l l' : List α} (p : l'.Perm l) : ∀ {m : List β}, Paired F l m → ∃ m', m'.Perm m ∧ Paired F l' m' := by
  induction p with
  | nil => intro m h; cases h; exact ⟨[], .nil, .nil⟩
  | cons a p ih =>
    intro m h
    cases h with
    | cons r t =>
      obtain ⟨m', h1, h2⟩ := ih t
      exact ⟨_ :: m', .cons _ h1, .cons r h2⟩
  | swap a b l =>
    intro m h
    cases h with
    | cons r t =>
      cases t with
      | cons r2 t2 => exact ⟨_ :: _ :: _, .swap _ _ _, .cons r2 (.cons r t2)⟩
  | trans p q ih1 ih2 =>
    intro m h
    obtain ⟨m1, h1, h2⟩ := ih2 h
    obtain ⟨m2, h3, h4⟩ := ih1 h2
    exact ⟨m2, h3.trans h1, h4⟩
theorem Paired.mem {α β : Type} {F : α → β → Prop} : ∀ {l₁ : List α} {l₂ : List β} {y : β}, Paired F l₁ l₂ → y ∈ l₂ → ∃ x ∈ l₁, F x y
  | _, _, _, .nil, h => by simp at h
  | _, _, _, .cons r t, h => by
    rcases List.mem_cons.mp h with rfl | h
    · exact ⟨_, by simp, r⟩
    · obtain ⟨x, h1, h2⟩ := Paired.mem t h
      exact ⟨x, by simp [h1], h2⟩
theorem Paired.pairwise {α β : Type} {F : α → β → Prop} {R : α → α → Prop} {S : β → β → Prop} (hRS : ∀ a a' b b', F a b → F a' b' → R a a' → S b b') : ∀ {l₁ : List α} {l₂ : List β}, Paired F l₁ l₂ → l₁.Pairwise R → l₂.Pairwise S
  | _, _, .nil, _ => .nil
  | _, _, .cons r t, h => by
    obtain ⟨h1, h2⟩ := List.pairwise_cons.mp h
    refine List.pairwise_cons.mpr ⟨fun b hb => ?_, Paired.pairwise hRS t h2⟩
    obtain ⟨a', ha', hf⟩ := Paired.mem t hb
    exact hRS _ _ _ _ r hf (h1 a' ha')
theorem refs_of {F : Nat → Addr → Prop} : ∀ {l : List Nat} {ys : List V}, Paired (fun i y => ∃ r, y = V.ref r ∧ F i r) l ys → ∃ rs : List Addr, ys = rs.map V.ref ∧ Paired (fun r i => F i r) rs l
  | _, _, .nil => ⟨[], rfl, .nil⟩
  | _, _, .cons ⟨r, e, h⟩ t => by
    obtain ⟨rs, h1, h2⟩ := refs_of t
    exact ⟨r :: rs, by rw [e, h1]; rfl, .cons h h2⟩
theorem Paired.mapR {α β γ : Type} {F : α → γ → Prop} {g : β → γ} : ∀ {l : List α} {m : List β}, Paired (fun a b => F a (g b)) l m → Paired F l (m.map g)
  | _, _, .nil => .nil
  | _, _, .cons r t => .cons r (Paired.mapR t)
theorem range_natV (os : List Nat) : (List.range os.length).map (fun i => V.int (os.getD i 0 : Int)) = natV os := by
  unfold natV
  apply List.ext_getElem
  · simp
  · intro i h1 h2
    simp at h1
    simp [h1]
theorem natmap_inj : ∀ l m : List Nat, (l.map fun k : Nat => (k : Int)) = (m.map fun k : Nat => (k : Int)) → l = m
  | [], [], _ => rfl
  | [], _ :: _, h => by simp at h
  | _ :: _, [], h => by simp at h
  | x :: l, y :: m, h => by
    rw [List.map_cons, List.map_cons] at h
    injection h with h1 h2
    have h1 : (x : Int) = (y : Int) := h1
    rw [natmap_inj l m h2, show x = y by omega]
def alone (n : Nat) (ts : List (Int × Int)) (one other : Nat) : List Nat := (List.range n).filter fun p : Nat => tiedB ts ((one : Int), (p : Int)) && !tiedB ts ((other : Int), (p : Int))
theorem alone_iff {n : Nat} {ts : List (Int × Int)} {one other : Nat} : owns n ts (one : Int) (other : Int) = [] ↔ alone n ts one other = [] ∨ alone n ts one other = [other] := by
  have mem : ∀ p, p ∈ owns n ts (one : Int) (other : Int) ↔ p ∈ alone n ts one other ∧ p ≠ other := fun p => by
    unfold owns alone
    rw [List.mem_filter, List.mem_filter]
    rw [tiedB_comm ts (p : Int) (one : Int), tiedB_comm ts (p : Int) (other : Int)]
    simp only [Bool.and_eq_true, Bool.not_eq_true', decide_eq_false_iff_not]
    constructor
    · rintro ⟨h1, h2, h3, h4⟩
      exact ⟨⟨h1, h2, h4⟩, fun z => h3 (by rw [z])⟩
    · rintro ⟨⟨h1, h2, h4⟩, h3⟩
      exact ⟨h1, h2, fun z => h3 (by omega), h4⟩
  have nd : (alone n ts one other).Nodup := List.nodup_range.filter _
  constructor
  · intro h
    have all : ∀ p ∈ alone n ts one other, p = other := fun p hp => by
      by_cases e : p = other
      · exact e
      · have := (mem p).mpr ⟨hp, e⟩
        rw [h] at this; simp at this
    generalize alone n ts one other = l at nd all
    match l with
    | [] => exact .inl rfl
    | [x] => exact .inr (by rw [all x (by simp)])
    | x :: y :: r =>
      have h1 := all x (by simp)
      have h2 := all y (by simp)
      rw [h1, h2] at nd
      simp at nd
  · intro h
    apply List.eq_nil_iff_forall_not_mem.mpr
    intro p hp
    obtain ⟨h1, h2⟩ := (mem p).mp hp
    rcases h with h | h
    · rw [h] at h1; simp at h1
    · rw [h] at h1; exact h2 (by simpa using h1)
section
variable {P : Program} {w : World} {K : PySem.W.Frag} {mg : Str → Option Value} {base : Heap}
abbrev s_law_is_tip : Stmt := top 30
theorem sc_law_is_tip : FnScope ["_law_places", "_law_ties_here", "_law_near_here", "_law_order", "_law_one", "_law_other", "_law_alone", "_law_count", "_law_place", "_law_some"] ["_law_places", "_law_ties_here"] (defScope s_law_is_tip) := ⟨rfl, rfl, rfl, by decide +kernel, rfl, by decide +kernel, by decide +kernel⟩
def sp_law_is_tip (K : PySem.W.Frag) : Sp := fun vs H Q _ => ∃ (n : Nat) (a : Addr) (ts : List (Int × Int)), vs = [.int n, .ref a] ∧ Ties K H a ts ∧ WebOk n ts ∧ (TipW n ts → ∀ H', Same H H' → Q (.bl true) H') ∧ (¬ TipW n ts → ∀ H', Same H H' → Q (.bl false) H')
structure GL3 (P : Program) (w : World) (K : PySem.W.Frag) (mg : Str → Option Value) (base : Heap) : Prop where
  _law_near : Df P w K mg base 1 "_law_near" ["_law_places", "_law_ties_here"] (sp_law_near K)
theorem row_count {n : Nat} {ts : List (Int × Int)} (ok : WebOk n ts) (i : Nat) : (rowB n fun j => tiedB ts ((i : Int), (j : Int))).countP (fun z => eqV z (.bl true)) = deg ts (i : Int) := by
  rw [deg_nb ok]
  unfold rowB
  rw [List.countP_map]
  refine List.countP_congr fun j _ => ?_
  show eqV (.bl _) (.bl true) = true ↔ adj ts j i = true
  unfold adj
  rw [tiedB_comm ts (j : Int) (i : Int)]
  show (_ == true) = true ↔ _
  simp
theorem df_law_is_tip (T : Blt mg) (G : GL3 P w K mg base) (h : HasDef K mg "_law_is_tip" s_law_is_tip ["_law_places", "_law_ties_here"]) : Df P w K mg base 2 "_law_is_tip" ["_law_places", "_law_ties_here"] (sp_law_is_tip K) := by
  refine h.df fun f fd F => ?_
  refine F.ok sc_law_is_tip (fun vs H Q E h => ?_) (fun cdv A outer s H vs Q E hr h => ?_)
  · obtain ⟨n, a, ts, rfl, _⟩ := h; rfl
  have nd := sc_law_is_tip.nd
  obtain ⟨n, a, ts, rfl, ht, ok, qT, qF⟩ := h
  have hn40 := ok.hi
  refine ⟨_, (pss_cons (ps_set (i := 2) nd rfl (by first | exact Or.inl rfl | exact Or.inr rfl) (pe_df G._law_near (hr.mono (by decide)) (pa_cons (pv 0) (pa_cons (pv 1) pa_nil)))) (pss_cons (ps_setLc (i := 3) (own := [("_law_count", 7), ("_law_place", 8)]) (g := (gTup K 2 (gCons (gName 7) (gCons (gName 8) gNil)))) rfl nd rfl rfl (sw_true rfl rfl rfl (by decide +kernel)) (pi_list (pe_callB cr_sortedT rfl T.sorted (by decide +kernel) (pa_cons (pe_lc (own := [("_law_place", 8), ("_law_some", 9)]) (g := (gTup K 2 (gCons (gName 8) (gCons (gName 9) gNil)))) rfl nd (pi_enum rfl T.enumerate (pa_cons (pv 2) pa_nil)) (blkOk_by (own := [("_law_place", 8), ("_law_some", 9)]) (N := ["_law_places", "_law_ties_here", "_law_near_here", "_law_order", "_law_one", "_law_other", "_law_alone", "_law_count", "_law_place", "_law_some"]) (sc := (defScope s_law_is_tip)) (by decide +kernel)) (fun _ _ _ _ _ => (pg_tup rfl (pgs_cons (pg_name (i := 8) nd rfl (by first | exact Or.inl rfl | exact Or.inr rfl)) (pgs_cons (pg_name (i := 9) nd rfl (by first | exact Or.inl rfl | exact Or.inr rfl)) pgs_nil)))) (fun _ _ _ _ _ => pts_nil) (fun _ _ _ _ _ => (pe_tup (pa_cons (pe_countK (K := K) (pv 9) (pa_cons pe_bl pa_nil)) (pa_cons (pv 8) pa_nil))))) pa_nil))) (blkOk_by (own := [("_law_count", 7), ("_law_place", 8)]) (N := ["_law_places", "_law_ties_here", "_law_near_here", "_law_order", "_law_one", "_law_other", "_law_alone", "_law_count", "_law_place", "_law_some"]) (sc := (defScope s_law_is_tip)) (by decide +kernel)) (fun _ _ _ _ _ => (pg_tup rfl (pgs_cons (pg_name (i := 7) nd rfl (by first | exact Or.inl rfl | exact Or.inr rfl)) (pgs_cons (pg_name (i := 8) nd rfl (by first | exact Or.inl rfl | exact Or.inr rfl)) pgs_nil)))) (fun _ _ _ _ _ => pts_nil) (fun _ _ _ _ _ => (pv 8))) (pss_cons (ps_for PassesOwn.never rfl (pi_zip rfl T.zip (pa_cons (pv 3) (pa_cons (pe_slice sl_list (pv 3) (po_some pe_int) po_none) pa_nil))) (pg_tup rfl (pgs_cons (pg_name (i := 4) nd rfl (by first | exact Or.inl rfl | exact Or.inr rfl)) (pgs_cons (pg_name (i := 5) nd rfl (by first | exact Or.inl rfl | exact Or.inr rfl)) pgs_nil))) (pss_cons (ps_setLc (i := 6) (own := [("_law_place", 8)]) (g := (gName 8)) rfl nd rfl rfl (sw_true rfl rfl rfl (by decide +kernel)) (pi_range1 rfl T.range (pa_cons (pv 0) pa_nil)) (blkOk_by (own := [("_law_place", 8)]) (N := ["_law_places", "_law_ties_here", "_law_near_here", "_law_order", "_law_one", "_law_other", "_law_alone", "_law_count", "_law_place", "_law_some"]) (sc := (defScope s_law_is_tip)) (by decide +kernel)) (fun _ _ _ _ _ => (pg_name (i := 8) nd rfl (by first | exact Or.inl rfl | exact Or.inr rfl))) (fun _ _ _ _ _ => (pts_one (PW.pt (pw_and (pt_val (pe_ix (ix_list' (K := K)) (pe_ix (ix_list' (K := K)) (pv 2) (pv 4) (fun _ _ => rfl)) (pv 8) (fun _ _ => rfl))) (pw_and1 (pt_not (pt_val (pe_ix (ix_list' (K := K)) (pe_ix (ix_list' (K := K)) (pv 2) (pv 5) (fun _ _ => rfl)) (pv 8) (fun _ _ => rfl))))))))) (fun _ _ _ _ _ => (pv 8))) (pss_one (ps_if (PW.pt (pw_and (pt_cmpR (op_neD hr.units) (pv 6) (pe_lst pa_nil) (nomark _)) (pw_and1 (pt_cmpR (op_neD hr.units) (pv 6) (pe_lst (pa_cons (pv 5) pa_nil)) (nomark _))))) (pss_one (ps_ret pe_bl)) pss_nil)))) (pss_one (ps_ret pe_bl))))), ?_⟩
  refine ⟨_, rfl, _, rfl, n, a, ts, rfl, ht, ok, fun H1 d s1 hd0 hd => ?_⟩
  obtain ⟨rows, hrow⟩ := id hd
  have hrl := hrow.len
  have hml : (rows.map V.ref).length = n := by rw [List.length_map, hrl]
  refine ⟨_, rfl, d, _, rfl, SqL.of hrow.at_, fun D1 hD1 => ?_⟩
  refine lc_walk (Walks.enum (K := K) (a := d) (xs := rows.map V.ref)) hD1 (fun H' s' => s'.seq (SqL.of hrow.at_)) (by rw [hml]; omega) (fun _ => true) (fun i y H' => ∃ r, y = .ref r ∧ H' r = some (.tup [.int (deg ts (i : Int) : Int), .int (i : Int)]))
    (fun i y H H' ⟨r, e, hr⟩ ⟨l, hl⟩ k => ⟨r, e, k r _ hr (fun z => by rw [z, hl] at hr; cases hr)⟩) (fun Nx i x H2 hi sm hx hk ha => ?_) (fun H2 ys s2 hy pr => ?_)
  · obtain ⟨T2, x2, rfl, hT2, hx2⟩ := hx
    rw [hml] at hi
    have hri : rows[i]? = some (rows[i]'(by omega)) := List.getElem?_eq_getElem (by omega)
    rw [List.getElem?_map, hri] at hx2
    have ex : x2 = .ref (rows[i]'(by omega)) := (Option.some.inj hx2).symm
    subst ex
    have hr2 := sm _ _ (hrow.rows i _ hri)
    refine ⟨T2, _, rfl, SqT.of hT2, rfl, _, _, rfl, _, _, rfl, rfl, rfl, yesT ?_⟩
    refine ⟨_, rfl, .inl ⟨rfl, _, SqL.of hr2⟩, rows[i], _, .bl true, rfl, rfl, SqL.of hr2, rfl, ?_, ?_⟩
    · unfold rowB
      simp [flatV]
    · rw [row_count ok]
      refine ⟨_, rfl, (by show 2 ≤ sizeLine; decide), fun p hp => ?_⟩
      exact ha _ _ (same_new' hp _) rfl ⟨p, rfl, upd_same⟩
  · rw [filter_true, hml] at pr
    obtain ⟨rs, rfl, hrs⟩ := refs_of pr
    refine ⟨D1, rs, _, rfl, SqL.of hy, Paired.mapR (g := fun i : Nat => ((deg ts (i : Int) : Int), (i : Int))) hrs, fun rs' p hp hperm hpw => ?_⟩
    obtain ⟨os, hos1, hos2⟩ := Paired.perm hperm hrs
    have hR : Rises n ts os := ⟨hos1, Paired.pairwise (fun r r' x y hx hy h => by
      have := h ((deg ts (x : Int) : Int), (x : Int)) ((deg ts (y : Int) : Int), (y : Int)) hx hy
      unfold lexLe at this
      simp only at this
      omega) hos2 hpw⟩
    have hol := hR.len
    have hrl' : rs'.length = n := by rw [hos2.length, hol]
    have hrml : (rs'.map V.ref).length = n := by rw [List.length_map, hrl']
    have s3 := same_new' hp (.lst (rs'.map V.ref))
    have s23 := s2.trans s3
    refine ⟨p, rfl, ⟨_, SqL.of upd_same⟩, fun D2 hD2 => ?_⟩
    refine lc_walk (Walks.list (K := K) (a := p) (xs := rs'.map V.ref)) hD2 (fun H' s' => SqL.of (s' _ _ upd_same)) (by rw [hrml]; omega) (fun _ => true) (fun i y _ => y = .int (os.getD i 0 : Int)) (fun i y H H' h _ _ => h) (fun Nx i x H4 hi sm hx hk ha => ?_) (fun H4 ys4 s4 hy4 pr4 => ?_)
    · rw [List.getElem?_map] at hx
      cases hr1 : rs'[i]? with
      | none => rw [hr1] at hx; cases hx
      | some r =>
        rw [hr1] at hx
        have ex : x = .ref r := (Option.some.inj hx).symm
        subst ex
        obtain ⟨k, hk1, hk2⟩ := Paired.at hos2 hr1
        have hr4 := sm _ _ (s3 _ _ hk2)
        refine ⟨r, _, rfl, SqT.of hr4, rfl, _, _, rfl, _, _, rfl, rfl, rfl, yesT ⟨_, rfl, ?_⟩⟩
        exact ha _ _ (Same.refl _) rfl (by rw [List.getD_eq_getElem?_getD, hk1]; rfl)
    · rw [filter_true, hrml] at pr4
      have ey : ys4 = natV os := by
        rw [paired_map (α := Nat) (n := 0) (f := fun i => V.int (os.getD i 0 : Int)) (H := H) pr4, ← hol]
        exact range_natV os
      subst ey
      have hd4 : NearAt H4 d n ts := hd.same (s23.trans s4)
      have sm4 : Same H H4 := s1.trans (s23.trans s4)
      have hnl : (natV os).length = n := by rw [natV_len, hol]
      refine ⟨_, rfl, _, rfl, 1, rfl, D2, _, rfl, SqL.of hy4, fun sl hsl => ?_⟩
      have ecut : cutV (natV os) (some 1) none = (natV os).drop 1 := cut_from _ 1
      rw [ecut]
      have s5 := same_new' hsl (.lst ((natV os).drop 1))
      generalize hH5 : upd H4 sl (.lst ((natV os).drop 1)) = H5 at *
      have hD5 : H5 D2 = some (.lst (natV os)) := s5 _ _ hy4
      have hsl5 : H5 sl = some (.lst ((natV os).drop 1)) := by rw [← hH5]; exact upd_same
      refine ⟨D2, sl, _, _, rfl, SqL.of hD5, SqL.of hsl5, ?_⟩
      refine for_walk (Walks.zip (K := K) (a := D2) (b := sl) (xs := natV os) (ys := (natV os).drop 1) (n := n - 1) (by rw [List.length_drop, hnl]; omega))
        (fun i σ H' => Same H5 H' ∧ (∃ x y u v q r, σ = [some (.int n), some (.ref a), some (.ref d), some (.ref D2), x, y, u, v, q, r]) ∧ ∀ k (hk : k < i) (hk2 : k + 1 < os.length), Sub n ts (os[k]'(by omega)) os[k + 1]) (fun i σ H' h => ⟨SqL.of (h.1 _ _ hD5), SqL.of (h.1 _ _ hsl5)⟩)
        ⟨Same.refl _, ⟨_, _, _, _, _, _, rfl⟩, fun k hk => absurd hk (Nat.not_lt_zero _)⟩ (fun i x σ H7 H8 hi hP s8 hx => ?_) (fun σ H' h => ?_)
      · obtain ⟨s7, ⟨y1, y2, y3, y4, y5, y6, rfl⟩, hno⟩ := hP
        obtain ⟨T8, u, v, rfl, hT8, hu, hv⟩ := hx
        rw [List.getElem?_drop, natV_at] at hv
        rw [natV_at] at hu
        have hi1 : i < os.length := by omega
        have hi2 : i + 1 < os.length := by omega
        rw [List.getElem?_eq_getElem hi1] at hu
        rw [show 1 + i = i + 1 by omega, List.getElem?_eq_getElem hi2] at hv
        have eu : u = .int (os[i] : Int) := (Option.some.inj hu).symm
        have ev : v = .int (os[i + 1] : Int) := (Option.some.inj hv).symm
        subst eu
        subst ev
        have h1n := hR.lt (List.getElem_mem hi1)
        have h2n := hR.lt (List.getElem_mem hi2)
        have s58 := s7.trans s8
        have hd8 : NearAt H8 d n ts := hd4.same (s5.trans s58)
        refine ⟨T8, _, rfl, SqT.of hT8, rfl, _, _, rfl, _, _, rfl, rfl, ?_⟩
        refine ⟨_, rfl, _, rfl, by omega, by omega, fun D3 hD3 => ?_⟩
        refine lc_walk (Walks.rng (lo := 0) (n := n)) hD3 (fun H' s' => trivial) (by omega) (fun p : Nat => tiedB ts ((os[i] : Int), (p : Int)) && !tiedB ts ((os[i + 1] : Int), (p : Int))) (fun i y _ => y = .int (i : Nat)) (fun i y H H' h _ _ => h) (fun Nx j x H9 hj sm hx hk ha => ?_) (fun H9 ys9 s9 hy9 pr9 => ?_)
        · subst hx
          rw [Int.zero_add]
          have hd9 := hd8.same sm
          obtain ⟨r1, l1, l2, g1, g2, g3, g4⟩ := hd9.get (K := K) h1n hj
          obtain ⟨r2, l3, l4, g5, g6, g7, g8⟩ := hd9.get (K := K) h2n hj
          refine ⟨rfl, ?_⟩
          refine ⟨_, rfl, _, rfl, d, _, _, _, rfl, rfl, g1, g2, _, rfl, r1, _, _, _, rfl, rfl, g3, g4, _, rfl, ?_⟩
          cases hb1 : tiedB ts ((os[i] : Int), (j : Int)) with
          | false => exact iteF (iteF (hk _ (Same.refl _) (by rw [hb1]; rfl)))
          | true =>
            refine iteT ⟨_, rfl, _, rfl, d, _, _, _, rfl, rfl, g5, g6, _, rfl, r2, _, _, _, rfl, rfl, g7, g8, _, rfl, ?_⟩
            cases hb2 : tiedB ts ((os[i + 1] : Int), (j : Int)) with
            | true => exact iteF (hk _ (Same.refl _) (by rw [hb1, hb2]; rfl))
            | false => exact iteT ⟨_, rfl, ha _ _ (Same.refl _) (by rw [hb1, hb2]; rfl) rfl⟩
        · have ey9 : ys9 = natV (alone n ts os[i] os[i + 1]) := by
            rw [paired_map (α := Nat) (n := 0) (f := fun i => V.int (i : Nat)) (H := H) pr9]
            rfl
          subst ey9
          have hal : Ints K H9 D3 ((alone n ts os[i] os[i + 1]).map fun k : Nat => (k : Int)) := by
            show SqL K H9 D3 _
            rw [nat_map]
            exact SqL.of hy9
          have sH9 : Same H H9 := sm4.trans (s5.trans (s58.trans s9))
          have inj := natmap_inj
          refine ⟨_, rfl, (by show 0 ≤ sizeLine; decide), fun e1 he1 => ?_⟩
          have s10 := same_new' he1 (.lst [])
          refine ⟨_, _, dp_ints (s10.seq hal), dp_ints (ns := []) (SqL.of upd_same), sh_ints _, sh_ints _, _, rfl, ?_⟩
          rw [eqv_ints]
          have cont : owns n ts (os[i] : Int) (os[i + 1] : Int) = [] → ∀ k (hk : k < i + 1) (hk2 : k + 1 < os.length), Sub n ts (os[k]'(by omega)) os[k + 1] := fun hh k hk hk2 => by
            by_cases e : k = i
            · subst e; exact sub_iff.mp hh
            · exact hno k (by omega) hk2
          by_cases ha0 : alone n ts os[i] os[i + 1] = []
          · rw [decide_eq_true (by rw [ha0]; rfl)]
            exact iteF (iteF ⟨s58.trans (s9.trans s10), ⟨_, _, _, _, _, _, rfl⟩, cont (alone_iff.mpr (.inl ha0))⟩)
          · rw [decide_eq_false (show ¬ (alone n ts os[i] os[i + 1]).map (fun k : Nat => (k : Int)) = [] from fun z => ha0 (inj _ [] z))]
            refine iteT ⟨_, rfl, _, rfl, (by show 1 ≤ sizeLine; decide), fun e2 he2 => ?_⟩
            have s11 := same_new' he2 (.lst [.int (os[i + 1] : Int)])
            refine ⟨_, _, dp_ints ((s10.trans s11).seq hal), dp_ints (ns := [(os[i + 1] : Int)]) (SqL.of upd_same), sh_ints _, sh_ints _, _, rfl, ?_⟩
            rw [eqv_ints]
            by_cases ha1 : alone n ts os[i] os[i + 1] = [os[i + 1]]
            · rw [decide_eq_true (by rw [ha1]; rfl)]
              exact iteF ⟨s58.trans (s9.trans (s10.trans s11)), ⟨_, _, _, _, _, _, rfl⟩, cont (alone_iff.mpr (.inr ha1))⟩
            · rw [decide_eq_false (show ¬ (alone n ts os[i] os[i + 1]).map (fun k : Nat => (k : Int)) = [(os[i + 1] : Int)] from fun z => ha1 (inj _ [os[i + 1]] z))]
              refine iteT (qF (fun hT => ?_) _ (sH9.trans (s10.trans s11)))
              have hc := List.pairwise_iff_getElem.mp (tip_chain ok hR hT) i (i + 1) hi1 hi2 (Nat.lt_succ_self i)
              rcases alone_iff.mp (sub_iff.mpr hc) with z | z
              · exact ha0 z
              · exact ha1 z
      · obtain ⟨s7, ⟨y1, y2, y3, y4, y5, y6, rfl⟩, hno⟩ := h
        refine qT (nobar_tip ok hR fun k x y hk hx hy => ?_) _ (sm4.trans (s5.trans s7))
        have h1 : k + 1 < os.length := by omega
        rw [List.getElem?_eq_getElem (by omega)] at hx
        rw [List.getElem?_eq_getElem h1] at hy
        cases hx
        cases hy
        exact .inl (sub_iff.mpr (hno k (by omega) h1))
end
end Tip
set_option Elab.async false
set_option linter.all false
set_option maxRecDepth 100000
set_option maxHeartbeats 4000000
namespace Tip
open PySem PySem.Spec PyProof.Rows L2
section
variable {P : Program} {w : World} {K : PySem.W.Frag} {mg : Str → Option Value} {base : Heap}
def sp_law_weighed (K : PySem.W.Frag) : Sp := fun vs H Q _ => ∃ (n : Nat) (a : Addr) (ts : List (Int × Int)) (p : Addr) (ns : List Int) (b : Int), vs = [.int n, .ref a, .ref p, .int b] ∧ Ties K H a ts ∧ WebOk n ts ∧ Ints K H p ns ∧ ns.length ≤ 1000 ∧ ∀ H', Same H H' → Q (.bl (wShows ns b n ts)) H'
end
end Tip
set_option Elab.async false
set_option linter.all false
set_option maxRecDepth 100000
set_option maxHeartbeats 4000000
namespace Tip
open PySem PySem.Spec PyProof.Rows L2
section
variable {P : Program} {w : World} {K : PySem.W.Frag} {mg : Str → Option Value} {base : Heap}
def sp_law_four (K : PySem.W.Frag) : Sp := fun vs H Q _ => ∃ (n : Nat) (a : Addr) (ts : List (Int × Int)) (p : Addr) (four : List Int), vs = [.int n, .ref a, .ref p] ∧ Ties K H a ts ∧ WebOk n ts ∧ Ints K H p four ∧ four.length ≤ 1000 ∧ ∀ H', Same H H' → Q (.bl (bShows four n ts)) H'
structure Isas (K : PySem.W.Frag) (mg : Str → Option Value) (CW CB CA CC CL : Addr) : Prop where
  m_Weighed : mg "Weighed" = some (.ref CW)
  m_Barred : mg "Barred" = some (.ref CB)
  m_Answer : mg "Answer" = some (.ref CA)
  m_Crowd : mg "Crowd" = some (.ref CC)
  m_Lonely : mg "Lonely" = some (.ref CL)
  clW : Cls K CW
  clB : Cls K CB
  naW : NoAttr K CW "weights"
  naBd : NoAttr K CW "bound"
  naF : NoAttr K CB "four"
  ww : IsaC K CW CW true
  wb : IsaC K CW CB false
  wa : IsaC K CW CA true
  wc : IsaC K CW CC false
  wl : IsaC K CW CL false
  bw : IsaC K CB CW false
  bb : IsaC K CB CB true
  ba : IsaC K CB CA true
  bc : IsaC K CB CC false
  bl : IsaC K CB CL false
def sp_law_due (K : PySem.W.Frag) (CW CB : Addr) : Sp := fun vs H Q _ => ∃ (n : Nat) (a : Addr) (ts : List (Int × Int)) (x p : Addr), vs = [.int n, .ref a, .ref x] ∧ Ties K H a ts ∧ WebOk n ts ∧
  ((∃ ns b, WObj H CW x p ns b ∧ ns.length ≤ 1000 ∧ ∀ H', Same H H' → Q (.bl (wShows ns b n ts)) H') ∨ (∃ four, BObj H CB x p four ∧ four.length ≤ 1000 ∧ ∀ H', Same H H' → Q (.bl (bShows four n ts)) H'))
structure GL5 (P : Program) (w : World) (K : PySem.W.Frag) (mg : Str → Option Value) (base : Heap) : Prop where
  _law_weighed : Df P w K mg base 2 "_law_weighed" ["_law_places", "_law_ties", "_law_weights", "_law_bound"] (sp_law_weighed K)
  _law_four : Df P w K mg base 2 "_law_four" ["_law_places", "_law_ties", "_law_four_here"] (sp_law_four K)
end
end Tip
set_option Elab.async false
set_option linter.all false
set_option maxRecDepth 100000
set_option maxHeartbeats 4000000
namespace Tip
open PySem PySem.Spec PyProof.Rows L2
theorem TabOk.upd {H : Hp} {T p : Addr} {pos : Pos} {q : Str} {l : List V} {o : HO} (h : TabOk H T pos q) (hp : H p = some (.lst l)) : TabOk (upd H p o) T pos q := by
  have ne : ∀ b u, H b = some u → (∀ l, u ≠ .lst l) → b ≠ p := fun b u e n z => by rw [z, hp] at e; exact n l (Option.some.inj e).symm
  rcases h with h | ⟨c, h1, h2⟩
  · exact .inl (by rw [upd_ne (ne _ _ h (fun _ z => nomatch z))]; exact h)
  · exact .inr ⟨c, by rw [upd_ne (ne _ _ h1 (fun _ z => nomatch z))]; exact h1, by rw [upd_ne (ne _ _ h2 (fun _ z => nomatch z))]; exact h2⟩
theorem Tabs.upd {TR TF : Addr} {H : Hp} {p : Addr} {l : List V} {o : HO} (h : Tabs TR TF H) (hp : H p = some (.lst l)) : Tabs TR TF (upd H p o) := ⟨TabOk.upd h.r hp⟩
theorem Sm.upd {H H' : Hp} {p : Addr} {o : HO} (h : Sm H H') (hp : H p = none) : Sm H (upd H' p o) := by
  refine ⟨fun b u e n => ?_, fun b e => ?_⟩
  · rw [upd_ne (ne_of_none e hp)]; exact h.keep b u e n
  · by_cases z : b = p
    · rw [z]; exact hp
    · rw [upd_ne z] at e; exact h.free b e
/-- the other webs -/
def Oth (K : PySem.W.Frag) (H : Hp) (r : Addr) : Prop := ∃ (m : Nat) (l : Addr) (ts : List (Int × Int)), H r = some (.tup [.int m, .ref l]) ∧ Ties K H l ts ∧ WebOk m ts
def Others (K : PySem.W.Frag) (H : Hp) (o : Addr) : Prop := ∃ rs : List Addr, SqL K H o (rs.map V.ref) ∧ ∀ r ∈ rs, Oth K H r
theorem Oth.sm {K : PySem.W.Frag} {H H' : Hp} {r : Addr} (e : Sm H H') (h : Oth K H r) : Oth K H' r := by
  obtain ⟨m, l, ts, h1, h2, h3⟩ := h
  exact ⟨m, l, ts, e.tup h1, h2.sm e, h3⟩
theorem Others.sm {K : PySem.W.Frag} {H H' : Hp} {o : Addr} (e : Sm H H') (h : Others K H o) : Others K H' o := by
  obtain ⟨rs, h1, h2⟩ := h
  exact ⟨rs, e.seq h1, fun r hr => (h2 r hr).sm e⟩
section
variable {P : Program} {w : World} {K : PySem.W.Frag} {mg : Str → Option Value} {base : Heap}
def sp_law_right (K : PySem.W.Frag) (TR TF : Addr) : Sp := fun vs H Q _ => ∃ (n : Nat) (a : Addr) (ts : List (Int × Int)) (o : Addr), vs = [.int n, .ref a, .ref o] ∧ Ties K H a ts ∧ WebOk n ts ∧ Others K H o ∧ Tabs TR TF H ∧ ∀ H', Sm H H' → Tabs TR TF H' → Q (.bl true) H'
structure GL6 (P : Program) (w : World) (K : PySem.W.Frag) (mg : Str → Option Value) (base : Heap) (TR TF CW CB : Addr) : Prop where
  _law_is_tip : Df P w K mg base 2 "_law_is_tip" ["_law_places", "_law_ties_here"] (sp_law_is_tip K)
  _law_numbers : Df P w K mg base 2 "_law_numbers" ["_law_found"] (sp_law_numbers K)
  _law_whole : Df P w K mg base 1 "_law_whole" ["_law_found"] sp_law_whole
  _law_due : Df P w K mg base 3 "_law_due" ["_law_places", "_law_ties", "_law_found"] (sp_law_due K CW CB)
  told : Df P w K mg base 6 "told" ["places", "ties"] (sp_told K TR TF CW CB)
  showsW : MethOk P w K mg base 4 CW "shows" (sp_W_shows K CW)
  showsB : MethOk P w K mg base 4 CB "shows" (sp_B_shows K CB)
end
end Tip
set_option Elab.async false
set_option linter.all false
set_option maxRecDepth 100000
set_option maxHeartbeats 4000000
namespace L2
open PySem PySem.Spec PyProof.Rows
theorem pe_weak {X : Cx} {e : Expr} {t t' : TE} (h : PE X e t) (k : ∀ σ H Q, t' σ H Q → t σ H Q) : PE X e t' := fun pins s σ H Q I q => h pins s σ H Q I (k σ H Q q)
theorem ps_weak {X : Cx} {st : Stmt} {t t' : TS} (h : PS X st t) (k : ∀ D σ H, t' D σ H → t D σ H) : PS X st t' := fun pins s σ H D I q => h pins s σ H D I (k D σ H q)
end L2
namespace Tip
open PySem PySem.Spec PyProof.Rows L2
theorem sub_len {α : Type} [DecidableEq α] : ∀ {l m : List α}, l.Nodup → (∀ x ∈ l, x ∈ m) → l.length ≤ m.length
  | [], _, _, _ => Nat.zero_le _
  | a :: r, m, hn, hs => by
    have hn' := List.nodup_cons.mp hn
    have ha := hs a (by simp)
    have := sub_len (l := r) (m := m.erase a) hn'.2 fun x hx => (List.mem_erase_of_ne (fun (z : x = a) => hn'.1 (by rw [← z]; exact hx))).mpr (hs x (by simp [hx]))
    rw [List.length_erase_of_mem ha] at this
    have hp : 0 < m.length := List.length_pos_of_mem ha
    rw [List.length_cons]; omega
theorem prs40 : (prs 40).length = 780 := by decide +kernel
theorem mk_web {n : Nat} {ts : List (Int × Int)} (h1 : 1 ≤ n) (h2 : n ≤ 40) (ha : ∀ t ∈ ts, 0 ≤ t.1 ∧ t.1 < t.2 ∧ t.2 < n) (hn : ts.Nodup) : WebOk n ts := by
  refine ⟨by omega, by omega, fun t ht => ?_, hn, ?_⟩
  · have := ha t ht
    unfold tieOk
    simp only [Bool.and_eq_true, decide_eq_true_eq]
    omega
  · have := sub_len (m := prs 40) hn fun t ht => by
      have := ha t ht
      exact prs_mem.mpr ⟨t.1.toNat, t.2.toNat, by omega, by omega, Prod.ext (by simp; omega) (by simp; omega)⟩
    rw [prs40] at this
    omega
/-- ties in a list that is tracked -/
def TiesO (H : Hp) (l : Addr) (ts : List (Int × Int)) : Prop := ∃ rs : List Addr, H l = some (.lst (rs.map V.ref)) ∧ Paired (TupI H) rs ts
theorem TiesO.ties {K : PySem.W.Frag} {H : Hp} {l : Addr} {ts : List (Int × Int)} (h : TiesO H l ts) : Ties K H l ts := let ⟨rs, h1, h2⟩ := h; ⟨rs, SqL.of h1, h2⟩
theorem TiesO.same {H H' : Hp} {l : Addr} {ts : List (Int × Int)} (e : Same H H') (h : TiesO H l ts) : TiesO H' l ts := let ⟨rs, h1, h2⟩ := h; ⟨rs, e _ _ h1, Paired.mapP h2 fun r t q => e _ _ q⟩
theorem cut_to (xs : List V) (k : Nat) : cutV xs none (some ((k : Nat) : Int)) = xs.take k := by
  unfold cutV
  rw [HT.sIx_nat, HT.sIx_none]
  by_cases h : k ≤ xs.length
  · rw [Nat.min_eq_left h]; simp
  · rw [Nat.min_eq_right (by omega), List.take_of_length_le (l := xs) (i := k) (by omega)]; simp
theorem ints_of : ∀ {l : List Nat} {ys : List V}, Paired (fun _ y => ∃ z, y = V.int z) l ys → ∃ ws : List Int, ys = ws.map V.int ∧ ws.length = l.length
  | _, _, .nil => ⟨[], rfl, rfl⟩
  | _, _, .cons ⟨z, e⟩ t => by
    obtain ⟨ws, h1, h2⟩ := ints_of t
    exact ⟨z :: ws, by rw [e, h1]; rfl, by simp [h2]⟩
theorem mod_at {cs : List Int} {k : Nat} (h : cs ≠ []) : ((cs.map V.int).length : Int) > 0 ∧ ∃ z ∈ cs, atI (cs.map V.int) ((k : Int) % ((cs.map V.int).length : Int)) = some (.int z) := by
  have hp : 0 < cs.length := List.length_pos_iff.mpr h
  rw [List.length_map]
  refine ⟨by omega, cs[k % cs.length]'(Nat.mod_lt _ hp), List.getElem_mem _, ?_⟩
  have e : (k : Int) % (cs.length : Int) = ((k % cs.length : Nat) : Int) := by simp
  rw [e]
  exact atI_nat (by rw [List.getElem?_map, List.getElem?_eq_getElem (Nat.mod_lt _ hp)]; rfl)
def tw_1 (K : PySem.W.Frag) : TE := fun σ H Q => ∃ a ns, σ[0]? = some (some (.ref a)) ∧ Ints K H a ns ∧ ns.length ≤ 1000 ∧ (∀ x ∈ ns, Big x) ∧ ∀ H1 c cs, Same H H1 → Ints K H1 c cs → cs ≠ [] → cs.length ≤ 1000 → (∀ x ∈ cs, Big x) → Q (.ref c) H1
def tw_2 (K : PySem.W.Frag) : TE := fun σ H Q => ∃ wv, σ[2]? = some (some (.int wv)) ∧ ∀ n : Nat, 1 ≤ n → n ≤ 40 → Q (.int n) H
def sw_1 (K : PySem.W.Frag) : TS := fun D σ H => ∃ x0 c wv n kv x5 x6 x7 oi ii b x11 x12 x13 x14 cs, σ = [x0, some (.ref c), some (.int wv), some (.int n), some (.int kv), x5, x6, x7, some (.int oi), some (.int ii), some (.bl b), x11, x12, x13, x14] ∧ Ints K H c cs ∧ cs ≠ [] ∧ cs.length ≤ 1000 ∧ (∀ x ∈ cs, Big x) ∧ 0 ≤ oi ∧ oi < 40 ∧ 0 ≤ ii ∧ ii < 40 ∧
  ∀ b y11, D.nx [x0, some (.ref c), some (.int wv), some (.int n), some (.int kv), x5, x6, x7, some (.int oi), some (.int ii), some (.bl b), y11, x12, x13, x14] H
def sw_2 (K : PySem.W.Frag) : TS := fun D σ H => ∃ x0 x1 wv n kv x5 x6 l x8 x9 x10 x11 x12 x13 x14 ts, σ = [x0, x1, some (.int wv), some (.int (n : Nat)), some (.int kv), x5, x6, some (.ref l), x8, x9, x10, x11, x12, x13, x14] ∧ TiesO H l ts ∧ WebOk n ts ∧
  ∀ y9 y12 l' ts' H', Same H H' → TiesO H' l' ts' → WebOk n ts' → D.nx [x0, x1, some (.int wv), some (.int (n : Nat)), some (.int kv), x5, x6, some (.ref l'), x8, y9, x10, x11, y12, x13, x14] H'
def tw_3 (K : PySem.W.Frag) : TE := fun σ H Q => ∃ x0 x1 x2 x3 x4 x5 x6 l x8 x9 x10 x11 p x13 x14 ts t, σ = [x0, x1, x2, x3, x4, x5, x6, some (.ref l), x8, x9, x10, x11, some (.ref p), x13, x14] ∧ TiesO H l ts ∧ ts.length ≤ 1000 ∧ TupI H p t ∧ ∀ l' ts' H', Same H H' → TiesO H' l' ts' → (ts' = ts.filter (fun u => !decide (u = t)) ∨ (t ∉ ts ∧ ts' = ts ++ [t])) → Q (.ref l') H'
def tw_4 (K : PySem.W.Frag) : TE := fun σ H Q => ∃ l ts wv, σ[7]? = some (some (.ref l)) ∧ σ[2]? = some (some (.int wv)) ∧ TiesO H l ts ∧ ∀ l' ts' H', Same H H' → TiesO H' l' ts' → (ts' = ts ∨ ts' = ts.reverse) → Q (.ref l') H'
section
variable {P : Program} {w : World} {K : PySem.W.Frag} {mg : Str → Option Value} {base : Heap}
abbrev s_law_web : Stmt := top 28
theorem sc_law_web : FnScope ["_law_script", "_law_cells", "_law_whole_here", "_law_places", "_law_kind", "_law_weights", "_law_bound", "_law_ties_here", "_law_other", "_law_one", "_law_tied", "_law_spot", "_law_pair", "_law_at", "_law_tie"] ["_law_script"] (defScope s_law_web) := ⟨rfl, rfl, rfl, by decide +kernel, rfl, by decide +kernel, by decide +kernel⟩
def sp_law_web (K : PySem.W.Frag) : Sp := fun vs H Q _ => ∃ (a : Addr) (ns : List Int), vs = [.ref a] ∧ Ints K H a ns ∧ ns.length ≤ 1000 ∧ (∀ x ∈ ns, Big x) ∧ ∀ H' p l (n : Nat) ts, Same H H' → H' p = some (.tup [.int n, .ref l]) → TiesO H' l ts → WebOk n ts → Q (.ref p) H'
structure GL7 (P : Program) (w : World) (K : PySem.W.Frag) (mg : Str → Option Value) (base : Heap) : Prop where
  _law_number : Df P w K mg base 1 "_law_number" ["_law_cell", "_law_at", "_law_whole_here"] sp_law_number
theorem df_law_web (T : Blt mg) (G : GL7 P w K mg base) (h : HasDef K mg "_law_web" s_law_web ["_law_script"]) : Df P w K mg base 2 "_law_web" ["_law_script"] (sp_law_web K) := by
  refine h.df fun f fd F => ?_
  refine F.ok sc_law_web (fun vs H Q E h => ?_) (fun cdv A outer s H vs Q E hr h => ?_)
  · obtain ⟨a, ns, rfl, _⟩ := h; rfl
  have nd := sc_law_web.nd
  obtain ⟨a, ns, rfl, hs, hl, hbig, q⟩ := h
  refine ⟨_, (pss_cons (ps_set (i := 1) nd rfl (by first | exact Or.inl rfl | exact Or.inr rfl) (pe_weak (t' := tw_1 K) (pe_ifExp (pt_cmpR (op_neD hr.units) (pv 0) (pe_lst pa_nil) (nomark _)) (pe_slice sl_list (pv 0) po_none (po_some pe_int)) (pe_lst (pa_cons pe_int pa_nil))) (fun σ H Q h => ?wk1))) (pss_cons (ps_set (i := 2) nd rfl (by first | exact Or.inl rfl | exact Or.inr rfl) (pe_callB (cr_sum rfl) rfl T.sum (by decide +kernel) (pa_cons (pv 1) pa_nil))) (pss_cons (ps_set (i := 3) nd rfl (by first | exact Or.inl rfl | exact Or.inr rfl) (pe_weak (t' := tw_2 K) (pe_ifExp (pt_cmpR op_eq (pe_op op_mod (pv 2) pe_int) pe_int (nomark _)) (pe_op op_add pe_int (pe_op op_mod (pe_op op_fdiv (pv 2) pe_int) pe_int)) (pe_op op_add pe_int (pe_op op_mod (pv 2) pe_int))) (fun σ H Q h => ?wk2))) (pss_cons (ps_set (i := 4) nd rfl (by first | exact Or.inl rfl | exact Or.inr rfl) (pe_op op_mod (pe_op op_fdiv (pv 2) pe_int) pe_int)) (pss_cons (ps_setLc (i := 5) (own := [("_law_at", 13)]) (g := (gName 13)) rfl nd rfl rfl (sw_true rfl rfl rfl (by decide +kernel)) (pi_range1 rfl T.range (pa_cons (pv 3) pa_nil)) (blkOk_by (own := [("_law_at", 13)]) (N := ["_law_script", "_law_cells", "_law_whole_here", "_law_places", "_law_kind", "_law_weights", "_law_bound", "_law_ties_here", "_law_other", "_law_one", "_law_tied", "_law_spot", "_law_pair", "_law_at", "_law_tie"]) (sc := (defScope s_law_web)) (by decide +kernel)) (fun _ _ _ _ _ => (pg_name (i := 13) nd rfl (by first | exact Or.inl rfl | exact Or.inr rfl))) (fun _ _ _ _ _ => pts_nil) (fun _ _ _ _ _ => (pe_op op_mod (pe_op op_fdiv (pe_df G._law_number (hr.mono (by decide)) (pa_cons (pe_ix (ix_list' (K := K)) (pv 1) (pe_op op_mod (pv 13) (pe_callB (call_len_seqK (K := K)) rfl T.len PySem.boot_len (pa_cons (pv 1) pa_nil))) (fun _ _ => rfl)) (pa_cons (pv 13) (pa_cons (pv 2) pa_nil)))) pe_int) (pe_op op_mul pe_int (pv 3))))) (pss_cons (ps_set (i := 6) nd rfl (by first | exact Or.inl rfl | exact Or.inr rfl) (pe_op op_add pe_int (pe_op op_mod (pe_op op_fdiv (pv 2) pe_int) (pe_op op_mul pe_int (pv 3))))) (pss_cons (ps_set (i := 7) nd rfl (by first | exact Or.inl rfl | exact Or.inr rfl) (pe_lst pa_nil)) (pss_cons (ps_for PassesOwn.never rfl (pi_range1 rfl T.range (pa_cons (pv 3) pa_nil)) (pg_name (i := 8) nd rfl (by first | exact Or.inl rfl | exact Or.inr rfl)) (pss_one (ps_for PassesOwn.never rfl (pi_range1 rfl T.range (pa_cons (pv 8) pa_nil)) (pg_name (i := 9) nd rfl (by first | exact Or.inl rfl | exact Or.inr rfl)) (pss_cons (ps_set (i := 10) nd rfl (by first | exact Or.inl rfl | exact Or.inr rfl) (pe_cmpR op_ge (pe_op op_add (pe_ix ix_list (pv 5) (pv 9) (fun _ _ => rfl)) (pe_ix ix_list (pv 5) (pv 8) (fun _ _ => rfl))) (pv 6) (nomark _))) (pss_cons (ps_weak (t' := sw_1 K) (ps_if (PW.pt (pw_and (pt_cmpR op_eq (pv 4) pe_int (nomark _)) (pw_and1 (pt_cmpR op_lt (pv 3) pe_int (nomark _))))) (pss_cons (ps_set (i := 11) nd rfl (by first | exact Or.inl rfl | exact Or.inr rfl) (pe_op op_add (pv 9) (pe_op op_mul (pv 8) (pv 8)))) (pss_one (ps_set (i := 10) nd rfl (by first | exact Or.inl rfl | exact Or.inr rfl) (pe_cmpR op_eq (pe_op op_mod (pe_op op_fdiv (pe_df G._law_number (hr.mono (by decide)) (pa_cons (pe_ix ix_list (pv 1) (pe_op op_mod (pv 11) (pe_callB call_len_seq rfl T.len PySem.boot_len (pa_cons (pv 1) pa_nil))) (fun _ _ => rfl)) (pa_cons (pv 11) (pa_cons (pv 2) pa_nil)))) pe_int) pe_int) pe_int (nomark _))))) pss_nil) (fun D σ H h => ?sk1)) (pss_one (ps_if (pt_val (pv 10)) (pss_one (ps_expr (pe_bm PySem.F.plainAttrs_list PySem.F.slot_list_append PySem.F.type_list_append mt_append (pv 7) (pa_cons (pe_tup (pa_cons (pv 9) (pa_cons (pv 8) pa_nil))) pa_nil)))) pss_nil))))))) (pss_cons (ps_weak (t' := sw_2 K) (ps_if (PW.pt (pw_and (pt_cmpR op_eq (pv 4) pe_int (nomark _)) (pw_and1 (pt_cmpR op_gt (pv 3) pe_int (nomark _))))) (pss_cons (ps_set (i := 9) nd rfl (by first | exact Or.inl rfl | exact Or.inr rfl) (pe_op op_mod (pe_op op_fdiv (pv 2) pe_int) (pe_op op_sub (pv 3) pe_int))) (pss_cons (ps_set (i := 12) nd rfl (by first | exact Or.inl rfl | exact Or.inr rfl) (pe_tup (pa_cons (pv 9) (pa_cons (pe_op op_add (pe_op op_add (pv 9) pe_int) (pe_op op_mod (pe_op op_fdiv (pv 2) pe_int) (pe_op op_sub (pe_op op_sub (pv 3) pe_int) (pv 9)))) pa_nil)))) (pss_one (ps_set (i := 7) nd rfl (by first | exact Or.inl rfl | exact Or.inr rfl) (pe_weak (t' := tw_3 K) (pe_ifExp (pt_cmpR (op_inTL hr.units) (pv 12) (pv 7) (by rfl)) (pe_lc (own := [("_law_tie", 14)]) (g := (gName 14)) rfl nd (pi_list (pv 7)) (blkOk_by (own := [("_law_tie", 14)]) (N := ["_law_script", "_law_cells", "_law_whole_here", "_law_places", "_law_kind", "_law_weights", "_law_bound", "_law_ties_here", "_law_other", "_law_one", "_law_tied", "_law_spot", "_law_pair", "_law_at", "_law_tie"]) (sc := (defScope s_law_web)) (by decide +kernel)) (fun _ _ _ _ _ => (pg_name (i := 14) nd rfl (by first | exact Or.inl rfl | exact Or.inr rfl))) (fun _ _ _ _ _ => (pts_one (pt_cmpR (op_neDK (K := K) hr.units) (pv 14) (pv 12) (nomark _)))) (fun _ _ _ _ _ => (pv 14))) (pe_op op_cat (pv 7) (pe_lst (pa_cons (pv 12) pa_nil)))) (fun σ H Q h => ?wk3)))))) pss_nil) (fun D σ H h => ?sk2)) (pss_one (ps_ret (pe_tup (pa_cons (pv 3) (pa_cons (pe_weak (t' := tw_4 K) (pe_ifExp (pt_cmpR op_eq (pe_op op_mod (pv 2) pe_int) pe_int (nomark _)) (pe_rev (pv 7)) (pv 7)) (fun σ H Q h => ?wk4)) pa_nil)))))))))))))), ?main⟩
  case wk1 =>
    obtain ⟨a, ns, e0, hs, hl, hbig, q⟩ := h
    refine ⟨_, e0, (by show 0 ≤ sizeLine; decide), fun e1 he1 => ?_⟩
    have s1 := same_new' he1 (.lst [])
    refine ⟨_, _, dp_ints (s1.seq hs), dp_ints (ns := []) (SqL.of upd_same), sh_ints _, sh_ints _, _, rfl, ?_⟩
    rw [eqv_ints]
    by_cases h0 : ns = []
    · rw [decide_eq_true h0]
      refine iteF ⟨(by show 1 ≤ sizeLine; decide), fun c hc => ?_⟩
      refine q _ c [4] (s1.trans (same_new' hc _)) (SqL.of upd_same) (by simp) (by simp) (fun x hx => ?_)
      have : x = 4 := by simpa using hx
      subst this
      exact Nat.le_trans (small_bits (by decide) (by decide)) (by decide)
    · rw [decide_eq_false h0]
      refine iteT ⟨_, e0, 63, rfl, a, _, rfl, s1.seq hs, fun c hc => ?_⟩
      have ecut : cutV (ns.map V.int) none (some 63) = (ns.take 63).map V.int := by rw [show (63 : Int) = ((63 : Nat) : Int) from rfl, cut_to, List.map_take]
      rw [ecut]
      refine q _ c (ns.take 63) (s1.trans (same_new' hc _)) (SqL.of upd_same) (fun z => h0 ?_) (by rw [List.length_take]; omega) (fun x hx => hbig x (List.mem_of_mem_take hx))
      rcases List.take_eq_nil_iff.mp z with z | z
      · omega
      · exact z
  case wk2 =>
    obtain ⟨wv, e2, q⟩ := h
    refine ⟨_, e2, _, _, rfl, rfl, (by show (0 : Int) < 32; decide), rfl, _, rfl, ?_⟩
    refine ite2 (fun _ => ?_) (fun _ => ?_)
    · refine ⟨_, e2, _, _, rfl, rfl, ⟨by decide, by decide⟩, _, _, rfl, rfl, (by show (0 : Int) < 31; decide), _, _, rfl, rfl, ?_⟩
      have h1 := Int.emod_nonneg (wv / 32) (by decide : (31 : Int) ≠ 0)
      have h2 := Int.emod_lt_of_pos (wv / 32) (by decide : (0 : Int) < 31)
      have := q (10 + wv / 32 % 31).toNat (by omega) (by omega)
      rwa [Int.toNat_of_nonneg (by omega)] at this
    · refine ⟨_, e2, _, _, rfl, rfl, (by show (0 : Int) < 9; decide), _, _, rfl, rfl, ?_⟩
      have h1 := Int.emod_nonneg wv (by decide : (9 : Int) ≠ 0)
      have h2 := Int.emod_lt_of_pos wv (by decide : (0 : Int) < 9)
      have := q (1 + wv % 9).toNat (by omega) (by omega)
      rwa [Int.toNat_of_nonneg (by omega)] at this
  case sk1 =>
    obtain ⟨x0, c, wv, n, kv, x5, x6, x7, oi, ii, b, x11, x12, x13, x14, cs, rfl, hs, hne, hl, hbig, o0, o1, i0, i1, q⟩ := h
    refine ⟨_, rfl, rfl, _, rfl, ?_⟩
    refine ite2 (fun _ => ⟨_, rfl, _, _, rfl, rfl, _, rfl, ite2 (fun _ => ?_) (fun _ => q b x11)⟩) (fun _ => iteF (q b x11))
    obtain ⟨j, rfl⟩ := Int.eq_ofNat_of_zero_le o0
    obtain ⟨i, rfl⟩ := Int.eq_ofNat_of_zero_le i0
    have hjj : j * j ≤ 39 * 39 := Nat.mul_le_mul (by omega) (by omega)
    have esp : (i : Int) + (j : Int) * (j : Int) = ((i + j * j : Nat) : Int) := by push_cast; rfl
    refine ⟨_, rfl, _, rfl, _, rfl, _, _, rfl, rfl, .inl ⟨by omega, by omega⟩, _, _, rfl, rfl, ?_⟩
    obtain ⟨hpos, z, hz, hat⟩ := mod_at (k := i + j * j) hne
    rw [← esp] at hat
    have hsp0 : 0 ≤ (i : Int) + (j : Int) * (j : Int) := by rw [esp]; omega
    have hsp1 : (i : Int) + (j : Int) * (j : Int) ≤ 5000 := by rw [esp]; omega
    refine ⟨_, rfl, _, rfl, _, rfl, c, _, rfl, .inl hs, _, _, rfl, rfl, hpos, c, _, _, _, rfl, rfl, hs, hat, _, rfl, _, rfl, z, _, wv, rfl, hbig z hz, hsp0, hsp1, fun v => ?_⟩
    exact ⟨_, _, rfl, rfl, ⟨by decide, by decide⟩, _, _, rfl, rfl, (by show (0 : Int) < 2; decide), rfl, q _ _⟩
  case sk2 =>
    obtain ⟨x0, x1, wv, n, kv, x5, x6, l, x8, x9, x10, x11, x12, x13, x14, ts, rfl, ht, ok, q⟩ := h
    have hn40 := ok.hi
    refine ⟨_, rfl, rfl, _, rfl, ?_⟩
    refine ite2 (fun _ => ⟨_, rfl, _, _, rfl, rfl, _, rfl, ite2 (fun c => ?_) (fun _ => q _ _ _ _ _ (Same.refl _) ht ok)⟩) (fun _ => iteF (q _ _ _ _ _ (Same.refl _) ht ok))
    have hn1 : (1 : Int) < n := of_decide_eq_true c
    have a1 := Int.emod_nonneg (wv / 11) (show (n : Int) - 1 ≠ 0 by omega)
    have a2 := Int.emod_lt_of_pos (wv / 11) (show (0 : Int) < (n : Int) - 1 by omega)
    have b1 := Int.emod_nonneg (wv / 13) (show (n : Int) - 1 - (wv / 11 % ((n : Int) - 1)) ≠ 0 by omega)
    have b2 := Int.emod_lt_of_pos (wv / 13) (show (0 : Int) < (n : Int) - 1 - (wv / 11 % ((n : Int) - 1)) by omega)
    refine ⟨_, rfl, _, _, rfl, rfl, ⟨by decide, by decide⟩, _, rfl, _, _, rfl, rfl, _, _, rfl, rfl, (by show (0 : Int) < (n : Int) - 1; omega), ?_⟩
    refine ⟨_, rfl, _, rfl, _, _, rfl, rfl, _, rfl, _, _, rfl, rfl, ⟨by decide, by decide⟩, _, rfl, _, _, rfl, rfl, _, rfl, _, _, rfl, rfl, _, _, rfl, rfl, (by show (0 : Int) < (n : Int) - 1 - (wv / 11 % ((n : Int) - 1)); omega), _, _, rfl, rfl, (by show 2 ≤ sizeLine; decide), fun p hp => ?_⟩
    have s1 := same_new' hp (.tup [.int (wv / 11 % ((n : Int) - 1)), .int ((wv / 11 % ((n : Int) - 1)) + 1 + wv / 13 % ((n : Int) - 1 - (wv / 11 % ((n : Int) - 1))))])
    refine ⟨_, _, _, _, _, _, _, l, _, _, _, _, p, _, _, ts, ((wv / 11 % ((n : Int) - 1)), (wv / 11 % ((n : Int) - 1)) + 1 + wv / 13 % ((n : Int) - 1 - (wv / 11 % ((n : Int) - 1)))), rfl, ht.same s1, ok.few, upd_same, fun l' ts' H' s' ht' hts => ?_⟩
    refine q _ _ l' ts' H' (s1.trans s') ht' (mk_web (by omega) (by omega) (fun t ht2 => ?_) ?_)
    · rcases hts with rfl | ⟨_, rfl⟩
      · exact ok.lt (List.mem_filter.mp ht2).1
      · rcases List.mem_append.mp ht2 with z | z
        · exact ok.lt z
        · have : t = ((wv / 11 % ((n : Int) - 1)), (wv / 11 % ((n : Int) - 1)) + 1 + wv / 13 % ((n : Int) - 1 - (wv / 11 % ((n : Int) - 1)))) := by simpa using z
          subst this
          simp only
          omega
    · rcases hts with rfl | ⟨hno, rfl⟩
      · exact ok.nd.filter _
      · exact nd_snoc ok.nd hno
  case wk3 =>
    obtain ⟨x0, x1, x2, x3, x4, x5, x6, l, x8, x9, x10, x11, p, x13, x14, ts, t, rfl, ht, hl, hp, q⟩ := h
    refine ⟨_, rfl, _, rfl, p, l, t, ts, rfl, rfl, hp, ht.ties, _, rfl, ?_⟩
    obtain ⟨rs, h1, h2⟩ := id ht
    have hrl := h2.length
    by_cases hm : t ∈ ts
    · rw [decide_eq_true hm]
      refine iteT ⟨_, rfl, l, rfl, ⟨_, SqL.of h1⟩, fun D hD => ?_⟩
      refine lc_walk (Walks.list (K := K) (a := l) (xs := rs.map V.ref)) hD (fun H' s' => SqL.of (s' _ _ h1)) (by rw [List.length_map]; omega) (fun i => !decide (ts.getD i (0, 0) = t)) (fun i y H' => ∃ r, y = .ref r ∧ TupI H' r (ts.getD i (0, 0)))
        (fun i y H H' ⟨r, e, hr⟩ ⟨l, hl⟩ k => ⟨r, e, k r _ hr (fun z => by rw [TupI, z, hl] at hr; cases hr)⟩) (fun Nx i x H1 hi sm hx hk ha => ?_) (fun H1 ys s1 hy pr => ?_)
      · rw [List.getElem?_map] at hx
        cases hr1 : rs[i]? with
        | none => rw [hr1] at hx; cases hx
        | some r =>
          rw [hr1] at hx
          have ex : x = .ref r := (Option.some.inj hx).symm
          subst ex
          obtain ⟨u, hu1, hu2⟩ := Paired.at h2 hr1
          have eg : ts.getD i (0, 0) = u := by rw [List.getD_eq_getElem?_getD, hu1]; rfl
          refine ⟨rfl, _, rfl, _, rfl, _, _, dp_tie (sm _ _ hu2), dp_tie (sm _ _ hp), sh_tie _, sh_tie _, _, rfl, ?_⟩
          rw [eqv_tie]
          by_cases e : u = t
          · rw [decide_eq_true e]
            exact iteF (hk _ (Same.refl _) (by rw [eg, decide_eq_true e]; rfl))
          · rw [decide_eq_false e]
            exact iteT ⟨_, rfl, ha _ _ (Same.refl _) (by rw [eg, decide_eq_false e]; rfl) ⟨r, rfl, by rw [eg]; exact sm _ _ hu2⟩⟩
      · obtain ⟨rs', rfl, hrs⟩ := refs_of pr
        refine q D _ H1 s1 ⟨rs', hy, Paired.mapR (g := fun i => ts.getD i (0, 0)) hrs⟩ (.inl ?_)
        rw [List.length_map, hrl]
        have : ts = (List.range ts.length).map fun i => ts.getD i (0, 0) := by
          apply List.ext_getElem
          · simp
          · intro i h1 h2
            simp [h1]
        conv => rhs; rw [this]
        rw [List.filter_map]
        rfl
    · rw [decide_eq_false hm]
      refine iteF ⟨_, rfl, _, rfl, (by show 1 ≤ sizeLine; decide), fun e1 he1 => ?_⟩
      have s1 := same_new' he1 (.lst [.ref p])
      refine ⟨l, e1, _, _, rfl, rfl, s1 _ _ h1, upd_same, by rw [List.length_map, sizeLine_eq]; simp; omega, fun D hD => ?_⟩
      have s2 := same_new' hD (.lst (rs.map V.ref ++ [.ref p]))
      refine q D (ts ++ [t]) _ (s1.trans s2) ⟨rs ++ [p], by rw [upd_same, List.map_append]; rfl, Paired.snoc (Paired.mapP h2 fun r u z => s2 _ _ (s1 _ _ z)) (s2 _ _ (s1 _ _ hp))⟩ (.inr ⟨hm, rfl⟩)
  case wk4 =>
    obtain ⟨l, ts, wv, e7, e2, ht, q⟩ := h
    refine ⟨_, e2, _, _, rfl, rfl, (by show (0 : Int) < 2; decide), rfl, _, rfl, ?_⟩
    obtain ⟨rs, h1, h2⟩ := id ht
    refine ite2 (fun _ => ?_) (fun _ => ⟨_, e7, q l ts _ (Same.refl _) ht (.inl rfl)⟩)
    refine ⟨_, e7, l, _, rfl, SqL.of h1, fun p hp => ?_⟩
    have s1 := same_new' hp (.lst (rs.map V.ref).reverse)
    exact q p ts.reverse _ s1 ⟨rs.reverse, by rw [upd_same, List.map_reverse], Paired.reverse (Paired.mapP h2 fun r u z => s1 _ _ z)⟩ (.inr rfl)
  case main =>
    refine ⟨a, ns, rfl, hs, hl, hbig, fun H1 c cs s1 hcs hne hcl hcb => ?_⟩
    refine ⟨_, rfl, c, cs, rfl, hcs, ?_⟩
    refine ⟨_, rfl, fun n hn1 hn2 => ?_⟩
    refine ⟨_, rfl, _, _, rfl, rfl, ⟨by decide, by decide⟩, _, _, rfl, rfl, (by show (0 : Int) < 4; decide), ?_⟩
    refine ⟨_, rfl, _, rfl, by omega, by omega, fun D hD => ?_⟩
    refine lc_walk (Walks.rng (lo := 0) (n := n)) hD (fun _ _ => trivial) (by omega) (fun _ => true) (fun i y _ => ∃ z, y = .int z) (fun i y H H' h _ _ => h) (fun Nx i x H2 hi sm hx hk ha => ?_) (fun H2 ys s2 hy pr => ?_)
    · subst hx
      rw [Int.zero_add]
      obtain ⟨hpos, z, hz, hat⟩ := mod_at (k := i) hne
      have hcs2 := sm.seq hcs
      refine ⟨rfl, yesT ?_⟩
      refine ⟨_, rfl, _, rfl, _, rfl, c, _, rfl, .inl hcs2, _, _, rfl, rfl, hpos, c, _, _, _, rfl, rfl, hcs2, hat, _, rfl, _, rfl, z, _, _, rfl, hcb z hz, by omega, by omega, fun v => ?_⟩
      refine ⟨_, _, rfl, rfl, ⟨by decide, by decide⟩, _, rfl, _, _, rfl, rfl, .inl ⟨by decide, by decide⟩, _, _, rfl, rfl, (by show (0 : Int) < 2 * (n : Int); omega), ?_⟩
      exact ha _ _ (Same.refl _) rfl ⟨_, rfl⟩
    · rw [filter_true] at pr
      obtain ⟨ws, rfl, hwl⟩ := ints_of pr
      rw [List.length_range] at hwl
      refine ⟨_, rfl, _, _, rfl, rfl, ⟨by decide, by decide⟩, _, rfl, _, _, rfl, rfl, .inl ⟨by decide, by decide⟩, _, _, rfl, rfl, (by show (0 : Int) < 3 * (n : Int); omega), _, _, rfl, rfl, ?_⟩
      refine ⟨(by show 0 ≤ sizeLine; decide), fun l hl2 => ?_⟩
      have s3 := same_new' hl2 (.lst [])
      have hlH : H l = none := s1.free (s2.free hl2)
      have hD2 : H2 D = some (.lst (ws.map V.int)) := hy
      have hcs2 : Ints K H2 c cs := s2.seq hcs
      refine ⟨_, rfl, _, rfl, by omega, by omega, ?_⟩
      refine for_walk (Walks.rng (lo := 0) (n := n)) (fun j σ H' => Same H2 H' ∧ (∃ x8 x9 x10 x11 x12 x13 x14, σ = [some (.ref a), some (.ref c), some (.int cs.sum), some (.int n), some (.int (cs.sum / 9 % 4)), some (.ref D), some (.int (1 + cs.sum / 5 % (3 * (n : Int)))), some (.ref l), x8, x9, x10, x11, x12, x13, x14]) ∧ ∃ ts, TiesO H' l ts ∧ ts.Nodup ∧ ∀ t ∈ ts, 0 ≤ t.1 ∧ t.1 < t.2 ∧ t.2 < (j : Int)) (fun _ _ _ _ => trivial)
        ⟨s3, ⟨_, _, _, _, _, _, _, rfl⟩, [], ⟨[], upd_same, .nil⟩, List.nodup_nil, by simp⟩ (fun j x σ H4 H5 hj hP s5 hx => ?_) (fun σ H' h => ?_)
      · obtain ⟨s4, ⟨x8, x9, x10, x11, x12, x13, x14, rfl⟩, ts, hts, hnd, hall⟩ := hP
        subst hx
        rw [Int.zero_add]
        refine ⟨_, rfl, _, rfl, by omega, by omega, ?_⟩
        refine for_walk (Walks.rng (lo := 0) (n := j)) (fun i σ H' => Same H2 H' ∧ (∃ x9 x10 x11 x12 x13 x14, σ = [some (.ref a), some (.ref c), some (.int cs.sum), some (.int n), some (.int (cs.sum / 9 % 4)), some (.ref D), some (.int (1 + cs.sum / 5 % (3 * (n : Int)))), some (.ref l), some (.int (j : Int)), x9, x10, x11, x12, x13, x14]) ∧ ∃ ts, TiesO H' l ts ∧ ts.Nodup ∧ ∀ t ∈ ts, 0 ≤ t.1 ∧ t.1 < t.2 ∧ (t.2 < (j : Int) ∨ (t.2 = (j : Int) ∧ t.1 < (i : Int)))) (fun _ _ _ _ => trivial)
          ⟨s4.trans s5, ⟨_, _, _, _, _, _, rfl⟩, ts, hts.same s5, hnd, fun t ht => ⟨(hall t ht).1, (hall t ht).2.1, .inl (hall t ht).2.2⟩⟩ (fun i x σ H6 H7 hi hP s7 hx => ?_) (fun σ H' h => ?_)
        · obtain ⟨s6, ⟨x9, x10, x11, x12, x13, x14, rfl⟩, ts, hts, hnd, hall⟩ := hP
          subst hx
          rw [Int.zero_add]
          have s27 := s6.trans s7
          have hD7 : SqL K H7 D (ws.map V.int) := SqL.of (s27 _ _ hD2)
          have hts7 := hts.same s7
          refine ⟨_, rfl, _, rfl, D, _, _, _, rfl, rfl, hD7, atI_int (by omega), _, rfl, _, rfl, D, _, _, _, rfl, rfl, hD7, atI_int (by omega), _, _, rfl, rfl, _, rfl, _, _, rfl, rfl, ?_⟩
          refine ⟨_, c, _, _, _, _, _, _, (j : Int), (i : Int), _, _, _, _, _, cs, rfl, s27.seq hcs2, hne, hcl, hcb, by omega, by omega, by omega, by omega, fun b y11 => ?_⟩
          refine ⟨_, rfl, _, rfl, ite2 (fun _ => ?_) (fun _ => ⟨s27, ⟨_, _, _, _, _, _, rfl⟩, ts, hts7, hnd, fun t ht => ⟨(hall t ht).1, (hall t ht).2.1, ?_⟩⟩)⟩
          · obtain ⟨rs, h1, h2⟩ := id hts7
            have hw := mk_web hn1 hn2 (fun t ht => ⟨(hall t ht).1, (hall t ht).2.1, by have := (hall t ht).2.2; omega⟩) hnd
            have hfew := hw.few
            refine ⟨_, rfl, .inl ⟨rfl, _, SqL.of h1⟩, _, rfl, _, rfl, (by show 2 ≤ sizeLine; decide), fun p hp => ?_⟩
            have s8 := same_new' hp (.tup [.int (i : Int), .int (j : Int)])
            refine ⟨l, _, _, rfl, rfl, s8 _ _ h1, by rw [List.length_map, h2.length, sizeLine_eq]; omega, ?_⟩
            have hpl : p ≠ l := fun z => by rw [z, h1] at hp; cases hp
            refine ⟨fun b o e => ?_, ⟨_, _, _, _, _, _, rfl⟩, ts ++ [((i : Int), (j : Int))], ⟨rs ++ [p], by rw [upd_same, List.map_append]; rfl, ?_⟩, nd_snoc hnd (fun z => ?_), fun t ht => ?_⟩
            · rw [upd_ne (ne_of_none e hl2)]
              exact s8 _ _ (s27 _ _ e)
            · refine Paired.snoc (Paired.mapP h2 fun r u z => ?_) ?_
              · have z' : H7 r = some (.tup [.int u.1, .int u.2]) := z
                have hrl : r ≠ l := fun e => by rw [e, h1] at z'; cases z'
                show _ = _
                rw [upd_ne hrl]
                exact s8 _ _ z'
              · show _ = _
                rw [upd_ne hpl, upd_same]
            · have := (hall _ z).2.2
              simp only at this
              omega
            · rcases List.mem_append.mp ht with z | z
              · have := hall t z
                refine ⟨this.1, this.2.1, ?_⟩
                push_cast
                omega
              · have : t = ((i : Int), (j : Int)) := by simpa using z
                subst this
                exact ⟨by show (0 : Int) ≤ (i : Int); omega, by show (i : Int) < (j : Int); omega, .inr ⟨rfl, by show (i : Int) < ((i + 1 : Nat) : Int); omega⟩⟩
          · have := (hall t ht).2.2
            push_cast
            omega
        · obtain ⟨s6, ⟨x9, x10, x11, x12, x13, x14, rfl⟩, ts, hts, hnd, hall⟩ := h
          refine ⟨s6, ⟨_, _, _, _, _, _, _, rfl⟩, ts, hts, hnd, fun t ht => ?_⟩
          have := hall t ht
          refine ⟨this.1, this.2.1, ?_⟩
          push_cast
          omega
      · obtain ⟨s4, ⟨x8, x9, x10, x11, x12, x13, x14, rfl⟩, ts, hts, hnd, hall⟩ := h
        refine ⟨_, _, _, n, _, _, _, l, _, _, _, _, _, _, _, ts, rfl, hts, mk_web hn1 hn2 hall hnd, fun y9 y12 l' ts' H5 s5 hts' ok' => ?_⟩
        refine ⟨_, rfl, l', ts', _, rfl, rfl, hts', fun l2 ts2 H6 s6 hts2 e2 => ?_⟩
        refine ⟨(by show 2 ≤ sizeLine; decide), fun p hp => ?_⟩
        have s7 := same_new' hp (.tup [.int (n : Int), .ref l2])
        refine q _ p l2 n ts2 (((s1.trans s2).trans s4).trans (s5.trans (s6.trans s7))) upd_same (hts2.same s7) ?_
        rcases e2 with rfl | rfl
        · exact ok'
        · exact mk_web hn1 hn2 (fun t ht => ok'.lt (List.mem_reverse.mp ht)) ((List.reverse_perm _).nodup_iff.mpr ok'.nd)
end
end Tip
set_option Elab.async false
set_option linter.all false
set_option maxRecDepth 100000
set_option maxHeartbeats 4000000
namespace Tip
open PySem PySem.Spec PyProof.Rows L2
theorem WebOk.sub {n : Int} {ts ts' : List (Int × Int)} (h : WebOk n ts) (s : ts'.Sublist ts) : WebOk n ts' := ⟨h.lo, h.hi, fun t ht => h.all t (s.subset ht), h.nd.sublist s, Nat.le_trans s.length_le h.few⟩
theorem Paired.drop {α β : Type} {F : α → β → Prop} : ∀ {l₁ : List α} {l₂ : List β} (k : Nat), Paired F l₁ l₂ → Paired F (l₁.drop k) (l₂.drop k)
  | _, _, 0, h => h
  | _, _, _ + 1, .nil => .nil
  | _, _, k + 1, .cons _ t => Paired.drop k t
theorem Paired.take {α β : Type} {F : α → β → Prop} : ∀ {l₁ : List α} {l₂ : List β} (k : Nat), Paired F l₁ l₂ → Paired F (l₁.take k) (l₂.take k)
  | _, _, 0, _ => .nil
  | _, _, _ + 1, .nil => .nil
  | _, _, k + 1, .cons r t => .cons r (Paired.take k t)
theorem cut_ties {H : Hp} {l p : Addr} {n : Int} {ts : List (Int × Int)} {rs : List Addr} {lo hi : Option Int} (h2 : Paired (TupI H) rs ts) (ok : WebOk n ts) (hp : H p = none) : ∃ ts', TiesO (upd H p (.lst (cutV (rs.map V.ref) lo hi))) p ts' ∧ WebOk n ts' := by
  unfold cutV
  rw [← List.map_drop, ← List.map_take]
  exact ⟨_, ⟨_, upd_same, Paired.mapP (Paired.take _ (Paired.drop _ h2)) fun r t z => (same_new' hp _) _ _ z⟩, ok.sub ((List.take_sublist _ _).trans (List.drop_sublist _ _))⟩
theorem TiesO.sm {H H' : Hp} {l : Addr} {ts : List (Int × Int)} (e : Sm H H') (h : TiesO H l ts) : TiesO H' l ts := let ⟨rs, h1, h2⟩ := h; ⟨rs, e.lst h1, Paired.mapP h2 fun r t q => e.tup q⟩
theorem tip3 : TipW 3 [(0, 1), (1, 2)] := by
  have : ∀ u v : Fin 3, owns 3 [(0, 1), (1, 2)] ((u : Nat) : Int) ((v : Nat) : Int) = [] ∨ owns 3 [(0, 1), (1, 2)] ((v : Nat) : Int) ((u : Nat) : Int) = [] := by decide +kernel
  exact fun u v hu hv => this ⟨u, hu⟩ ⟨v, hv⟩
section
variable {P : Program} {w : World} {K : PySem.W.Frag} {mg : Str → Option Value} {base : Heap}
abbrev s_law : Stmt := top 41
theorem sc_law : FnScope ["_law_script", "_law_places", "_law_ties_here", "_law_whole_here", "_law_counts_here", "_law_bent", "_law_moved", "_law_at", "_law_far", "_law_some", "_law_order", "_law_marks", "_law_cell", "_law_row"] ["_law_script"] (defScope s_law) := ⟨rfl, rfl, rfl, by decide +kernel, rfl, by decide +kernel, by decide +kernel⟩
structure GL8 (P : Program) (w : World) (K : PySem.W.Frag) (mg : Str → Option Value) (base : Heap) (TR TF CW CB : Addr) : Prop where
  _law_web : Df P w K mg base 2 "_law_web" ["_law_script"] (sp_law_web K)
  _law_near : Df P w K mg base 1 "_law_near" ["_law_places", "_law_ties_here"] (sp_law_near K)
  _law_right : Df P w K mg base 7 "_law_right" ["_law_places", "_law_ties", "_law_others"] (sp_law_right K TR TF)
  told : Df P w K mg base 6 "told" ["places", "ties"] (sp_told K TR TF CW CB)
end
end Tip
set_option Elab.async false
set_option linter.all false
set_option maxRecDepth 100000
set_option maxHeartbeats 1000000
namespace L2
open PySem PySem.Spec PyProof.Rows
/-- nothing is tracked but the script and the tables -/
def OnlyT (ts : List Addr) (H : Hp) : Prop := ∀ b, H b = none ∨ (∃ o xs, H b = some (.frz o (.lst xs))) ∨ (b ∈ ts ∧ H b = some (.tbl #[]))
structure TabIn (h : Heap) (P : Addr) : Prop where
  at_ : h.get? P = some (PySem.W.tabObj #[])
  code : ∃ c, PySem.W.CodeHd h c P
theorem law_callT {P : Program} {w : World} {K : PySem.W.Frag} {mg mb : Str → Option Value} {CX : CXT} {k : Nat} {fa a : Addr} {fd : FuncData} {x : Str} {sp : Sp} {s₁ : Shared} {vs : List Value} {ns : List Int} {ts : List Addr}
    (KX : K.In s₁.heap) (hts : ∀ T ∈ ts, TabIn s₁.heap T) (hnt : PySem.W.noTabs K = true) (hns : s₁.heap.Ns mainGlobals mg) (hb : s₁.heap.Ns builtinsNs mb) (hbb : ∀ x : Str, x ≠ "__name__" → mb x = bootBuiltins x) (hlim : s₁.heap.NoLimit) (hg : s₁.gens = #[])
    (ha : s₁.heap.get? a = some { cls := .type "list", data := .seq vs.toArray }) (hi : IntsAre vs ns) (hl : ns.length ≤ sizeLine) (hr : Room k callerA)
    (F : ∀ base : Heap, K.In base → base.Ns mainGlobals mg → (∀ b o, s₁.heap.get? b = some o → o.cls ≠ .type "list" → o.cls ≠ .none → base.get? b = some o) → FnOk P w K mg base CX k fa fd [x] sp) (hbind : ∀ (s : Shared) (u : Value), BindsTo s fd ⟨[u], []⟩ [(x, u)])
    (hsp : ∀ H : Hp, SqL K H a (ns.map V.int) → (∀ T ∈ ts, H T = some (.tbl #[])) → sp [.ref a] H (fun v _ => v = .bl true) fun _ _ _ => False)
    (hCX : ∀ H e s', CX [] H s₁ (fun _ _ _ => False) e s' → False) :
    codeAny (model P w) callerA (.call (.ref fa) ⟨[.ref a], []⟩) (fun r s' => r = .ok (.ret (.bool true)) ∧ OldK s₁.heap s'.heap ∧ s'.os = s₁.os ∧ AllBare s'.gens) s₁ := by
  have rv := vals_ints hi
  have lenV := hi.length
  have hats : a ∉ ts := fun z => by
    have := (hts a z).at_
    rw [ha] at this
    cases this
  have core : ∀ H : Hp, OnlyT ts H → SqL K H a (ns.map V.int) → (∀ T ∈ ts, H T = some (.tbl #[])) → HOk P w H s₁.heap → (∀ b, H b ≠ none → b = a ∨ b ∈ ts) → (H a ≠ none → K.lookup a = none) →
      codeAny (model P w) callerA (.call (.ref fa) ⟨[.ref a], []⟩) (fun r s' => r = .ok (.ret (.bool true)) ∧ OldK s₁.heap s'.heap ∧ s'.os = s₁.os ∧ AllBare s'.gens) s₁ := by
    intro H hO hS hT hok hA hK
    have base_of : ∀ {b : Addr} {o : Obj}, s₁.heap.get? b = some o → H b = none → (hidT s₁.heap H).get? b = some o := fun e n => hidT_get e n
    have noB : ∀ {b : Addr} {o : Obj}, s₁.heap.get? b = some o → o.cls ≠ .type "list" → o.cls ≠ .none → H b = none := fun {b o} e d1 d2 => by
      cases q : H b with
      | none => rfl
      | some u =>
        rcases hA b (by rw [q]; simp) with e' | e'
        · subst e'
          rw [ha] at e; cases e
          exact absurd rfl d1
        · rw [(hts b e').at_] at e; cases e
          exact absurd rfl d2
    have noA : ∀ {b : Addr} {o : Obj} {es : Array DictEntry} {ep : Nat}, s₁.heap.get? b = some o → o.data = .dict es ep → H b = none := fun {b o es ep} e d => by
      cases q : H b with
      | none => rfl
      | some u =>
        rcases hA b (by rw [q]; simp) with e' | e'
        · subst e'
          rw [ha] at e; cases e
          have d' : Data.seq vs.toArray _ = Data.dict es ep := d
          cases d'
        · rw [(hts b e').at_] at e; cases e
          have d' : Data.fields #[] = Data.dict es ep := d
          cases d'
    have nsK : ∀ {b : Addr} {m : Str → Option Value}, s₁.heap.Ns b m → (hidT s₁.heap H).Ns b m := fun {b m} ⟨o, es, ep, e, d, r⟩ => ⟨o, es, ep, base_of e (noA e d), d, r⟩
    have hKb : K.In (hidT s₁.heap H) := fun b o e => base_of (KX b o e) (by
      cases q : H b with
      | none => rfl
      | some u =>
        rcases hA b (by rw [q]; simp) with e' | e'
        · subst e'
          rw [hK (by rw [q]; simp)] at e; cases e
        · have h1 := KX b o e
          rw [(hts b e').at_] at h1
          have h2 := List.all_eq_true.mp hnt (b, o) (PySem.W.mem_of_lookupK e)
          cases h1
          exact absurd (show false = true from h2) Bool.false_ne_true)
    have hM : Mod K mg (hidT s₁.heap H) := ⟨hKb, nsK hns, ⟨mb, nsK hb, hbb⟩, let ⟨mc, h1, h2⟩ := hlim; ⟨mc, nsK h1, h2⟩⟩
    have e0 : Env0 P w K mg (hidT s₁.heap H) callerA [] s₁ H := ⟨rfl, hM, fun b o e => of_hidT e, Nat.le_of_eq (hidT_size _ _), trivial, fun b hb => absurd (show b ∈ ([] : List Addr) from hb) (by simp), hok, .of_eq hg⟩
    refine codeAny_mono ((F _ hKb (nsK hns) fun b o e d1 d2 => base_of e (noB e d1 d2)).run callerA [] s₁ H ⟨[.ref a], []⟩ [.ref a] [.ref a] _ _ hr e0 (hbind s₁ (.ref a)) (.cons rfl .nil) (hsp H hS hT)) fun r s' h => ?_
    cases r with
    | error e => exact (hCX H e s' h).elim
    | ok fl =>
      cases fl with
      | next => exact False.elim h
      | brk => exact False.elim h
      | cont => exact False.elim h
      | ret u =>
        obtain ⟨v, H', os, bare, un, hok', r', q⟩ := h
        have q' : v = .bl true := q
        subst q'
        obtain rfl : u = Value.bool true := r'
        have kept : ∀ b o, s₁.heap.get? b = some o → b ∉ ts → s'.heap.get? b = some o := fun b o e hbt => by
          cases q : H b with
          | none => exact un.keep b o e q (by intro z; exact absurd (show b ∈ ([] : List Addr) from z) (by simp)) (by simp)
          | some u =>
            rcases hO b with z | ⟨ob, xs, z⟩ | ⟨z, _⟩
            · rw [q] at z; cases z
            · have z2 := un.frzs b ob _ z
              obtain ⟨e1, _⟩ := hok b _ z
              obtain ⟨e2, _⟩ := hok' b _ z2
              rw [e] at e1; cases e1
              exact e2
            · exact absurd z hbt
        have grown : ∀ b ∈ ts, ∃ more, s'.heap.get? b = some (PySem.W.tabObj (#[] ++ more)) := fun b hbt => by
          obtain ⟨more, z⟩ := un.tbls b #[] (hT b hbt)
          exact ⟨more, hok' b _ z⟩
        refine ⟨rfl, ⟨fun b o e => ?_, fun b o e => ?_⟩, os, bare⟩
        · by_cases hbt : b ∈ ts
          · obtain ⟨more, z⟩ := grown b hbt
            obtain ⟨⟨c, hc⟩, h0⟩ := And.intro (hts b hbt).code (hts b hbt).at_
            have ht := (hc.tab h0).isCodeTable
            rw [h0] at e; cases e
            exact .inr (.inl ⟨ht, rfl, #[], more, rfl, z⟩)
          · exact .inl (kept b o e hbt)
        · by_cases hbt : b ∈ ts
          · obtain ⟨more, z⟩ := grown b hbt
            exact ⟨_, z⟩
          · exact ⟨_, kept b o e hbt⟩
  have tbl : ∀ T ∈ ts, ∀ H : Hp, ObjOk P w H s₁.heap T (.tbl #[]) := fun T hT H => (hts T hT).at_
  cases hk : K.lookup a with
  | some o =>
    have e := KX a o hk
    rw [ha] at e
    cases e
    refine core (fun b => if b ∈ ts then some (.tbl #[]) else none) (fun b => ?_) (.inr ⟨_, vs.toArray, _, hk, rfl, rfl, rfl, by rw [List.size_toArray, lenV]; exact hl, by simpa using rv⟩) (fun T hT => if_pos hT) (fun b u z => ?_) (fun b z => ?_) fun z => absurd (if_neg hats) z
    · by_cases hb : b ∈ ts
      · exact .inr (.inr ⟨hb, if_pos hb⟩)
      · exact .inl (if_neg hb)
    · by_cases hb : b ∈ ts
      · have z' := (if_pos hb).symm.trans z
        cases z'
        exact tbl b hb _
      · have z' := (if_neg hb).symm.trans z
        cases z'
    · by_cases hb : b ∈ ts
      · exact .inr hb
      · exact absurd (if_neg hb) z
  | none =>
    refine core (fun b => if b = a then some (.frz { cls := .type "list", data := .seq vs.toArray } (.lst (ns.map V.int))) else if b ∈ ts then some (.tbl #[]) else none) (fun b => ?_) (.inl (.inr ⟨{ cls := .type "list", data := .seq vs.toArray }, if_pos rfl⟩)) (fun T hT => ?_) (fun b u z => ?_) (fun b z => ?_) fun _ => hk
    · by_cases hb : b = a
      · exact .inr (.inl ⟨_, _, if_pos hb⟩)
      · by_cases hbt : b ∈ ts
        · exact .inr (.inr ⟨hbt, (if_neg hb).trans (if_pos hbt)⟩)
        · exact .inl ((if_neg hb).trans (if_neg hbt))
    · exact (if_neg (fun z => hats (by rw [← z]; exact hT))).trans (if_pos hT)
    · by_cases hb : b = a
      · have z' := (if_pos hb).symm.trans z
        cases z'
        subst hb
        exact ⟨ha, by rw [List.length_map]; exact hl, vs, _, rv, ha⟩
      · by_cases hbt : b ∈ ts
        · have z' := ((if_neg hb).trans (if_pos hbt)).symm.trans z
          cases z'
          exact tbl b hbt _
        · have z' := ((if_neg hb).trans (if_neg hbt)).symm.trans z
          cases z'
    · by_cases hb : b = a
      · exact .inl hb
      · by_cases hbt : b ∈ ts
        · exact .inr hbt
        · exact absurd ((if_neg hb).trans (if_neg hbt)) z
/-- how large a number of the script may be -/
def Bits (x : Int) : Prop := Builtin.Int.intBits x ≤ 1048576
theorem bits_all : ∀ ns : List Int, PySem.W.WData.weightAll (ns.map PySem.W.WData.int) ≤ 2 ^ 20 → ∀ x ∈ ns, Bits x
  | [], _, x, hx => by simp at hx
  | n :: r, h, x, hx => by
    rw [List.map_cons, PySem.W.WData.weightAll] at h
    rcases List.mem_cons.mp hx with e | e
    · subst e
      have : PySem.W.WData.weight (.int x) = Builtin.Int.intBits x := by rw [PySem.W.WData.weight]; rfl
      unfold Bits
      rw [← this]
      omega
    · exact bits_all r (by omega) x e
open PySem.W in
theorem attach_callB {l : OpenLaw} {n : Nat} {q : Program} {loose : List Str} {XP : (Str → Option Value) → Heap → Prop} {YP : World → Heap → Prop} {d : DefRec}
    (hn : l.most = some n) (hdf : d.params.defaults = [])
    (call : ∀ (w : World) (s₀ s₁ : Shared) (mg mb : Str → Option Value) (fa : Addr) (a : Addr) (vs : List Value) (ns : List Int),
      Ground q loose [] XP w s₀ mg mb s₁.heap → YP w s₁.heap → mg d.name = some (.ref fa) →
      s₁.heap.get? a = some { cls := .type "list", data := .seq vs.toArray } → IntsAre vs ns → ns.length ≤ n → (∀ x ∈ ns, Bits x) → s₁.gens = #[] →
      codeAny (model l.prog w) callerA (.call (.ref fa) ⟨[.ref a], []⟩) (fun r s' => r = .ok (.ret (.bool true)) ∧ OldK s₁.heap s'.heap ∧ s'.os = s₁.os ∧ AllBare s'.gens) s₁) :
    WalkO q loose XP YP l.row.toRowW d [] (fun f vs => PySem.call f vs) := by
  intro w s₀ s₁ mg mb G Y fa o pm cd doc dV kV ho hd hcd hD hmg hg args vals as hpre hlay hrd hwl hlo
  obtain rfl : dV = .none := Dflts.none hD hdf
  obtain rfl : kV = .none := Dflts.noKw hD
  obtain ⟨a, vs, ns, rfl, rfl, hobj, hints, hlen⟩ := Att.script_of hn hpre hwl
  have hbits : ∀ x ∈ ns, Bits x := by
    have h1 : WData.layable (.list (ns.map WData.int)) = true := List.all_eq_true.mp hlay _ (by simp)
    unfold WData.layable at h1
    simp only [Bool.and_eq_true, decide_eq_true_eq] at h1
    have h2 := h1.2
    rw [WData.weight] at h2
    exact bits_all ns h2
  refine enter_call (codeAny_mono (call w s₀ s₁ mg mb fa a vs ns G Y hmg hobj hints hlen hbits hg) fun r s' hq => ?_)
  obtain ⟨rfl, h2, h3, h4⟩ := hq
  exact ⟨.inl ⟨.bool true, .bool true, [], rfl, fun _ => rfl, .bool true, Att.post_true l _, fun _ => ⟨List.Pairwise.nil, fun _ hm => (nomatch hm)⟩⟩, h2, h3, h4⟩
open PySem.W in
/-- the goal that k_head leaves, from the law's promise; the tables are told with it -/
theorem walk_T {l : OpenLaw} {n k : Nat} {q : Program} {loose : List Str} {XP : (Str → Option Value) → Heap → Prop} {YP : World → Heap → Prop} {d : DefRec} {K : Params → PySem.W.Frag} {x : Str}
    (hn : l.most = some n) (hn2 : n ≤ sizeLine) (hdf : d.params.defaults = []) (hr : Room k callerA)
    (hY : ∀ (w : World) (h : Heap), YP w h → (K w.params).In h) (hnt : ∀ w : World, noTabs (K w.params) = true)
    (F : ∀ (w : World) (mg mb : Str → Option Value) (s₀ : Shared) (fa : Addr) (h : Heap), (K w.params).In h → Ground q loose [] XP w s₀ mg mb h → YP w h → mg d.name = some (.ref fa) →
      ∃ (ts : List Addr) (fd : FuncData) (sp : Sp), (∀ T ∈ ts, TabIn h T) ∧ (∀ (s : Shared) (u : Value), BindsTo s fd ⟨[u], []⟩ [(x, u)]) ∧
        (∀ base : Heap, (K w.params).In base → base.Ns mainGlobals mg → (∀ b o, h.get? b = some o → o.cls ≠ .type "list" → o.cls ≠ .none → base.get? b = some o) → FnOk l.prog w (K w.params) mg base CX0 k fa fd [x] sp) ∧
        ∀ (H : Hp) (a : Addr) (ns : List Int), ns.length ≤ n → (∀ x ∈ ns, Bits x) → SqL (K w.params) H a (ns.map V.int) → (∀ T ∈ ts, H T = some (.tbl #[])) → sp [.ref a] H (fun v _ => v = .bl true) fun _ _ _ => False) :
    WalkO q loose XP YP l.row.toRowW d [] (fun f vs => PySem.call f vs) := by
  refine attach_callB hn hdf fun w s₀ s₁ mg mb fa a vs ns G Y hmg hobj hints hlen hbits hg => ?_
  have KX := hY w _ Y
  obtain ⟨ts, fd, sp, hts, hb, hF, hsp⟩ := F w mg mb s₀ fa _ KX G Y hmg
  exact law_callT KX hts (hnt w) G.T.g G.T.b G.T.builtins G.T.nolimit hg hobj hints (Nat.le_trans hlen hn2) hr hF hb (fun H hS hT => hsp H a ns hlen hbits hS hT) fun _ _ _ z => z
end L2
set_option Elab.async false
set_option linter.all false
set_option maxRecDepth 100000
set_option maxHeartbeats 1000000
namespace L2
open PySem PySem.Spec PyProof.Rows PySem.W
/-- what the class of an exception must have -/
structure ExcK (K : Frag) (C : Addr) : Prop where
  ga : findIn K (.ref C) "__getattribute__" = some (some (.builtin "BaseException.__getattribute__"))
  nga : findIn K (.ref C) "__getattr__" = some none
  cl : findIn K (.ref C) "__class__" = some (some (.builtin "object.__class__"))
  bexc : subIn K (.ref C) (.type "BaseException") = some true
  obj : subIn K (.ref C) (.type "object") = some true
  ty : (clsIn K C).isSome = true
/-- an exception's object -/
def ExcAt (h : Heap) (a C : Addr) : Prop := ∃ o vs, h.get? a = some o ∧ o.cls = .ref C ∧ o.data = .fields vs
section
variable {prog : Program} {w : World} {A : Around} {E : Value → Shared → Prop} {h : Heap} {g : Array GenState} {d : Drawn} {t : Nat} {os : OsState} {a C : Addr} {o : Obj} {K : Frag}
theorem xc_get {R : Result → Shared → Prop} (X : K.In h) (F : ExcK K C) (hx : h.get? a = some o) (hc : o.cls = .ref C) (hq : R (.ok (.ret (.ref C))) ⟨h, g, d, t, os⟩) :
    codeAny (model prog w) A (.call (.builtin "getset_descriptor.__get__") ⟨[.builtin "object.__class__", .ref a, .ref C], []⟩) R ⟨h, g, d, t, os⟩ := by
  have hT5 : (⟨h, g, d, t, os⟩ : Shared).TypeIs (.builtin "object.__class__") "getset_descriptor" := PySem.F.typeOf_object_class
  have L : Looks (model prog w) h (isSubtype (.ref C) (.type (".".intercalate ("object.__class__".cutAt '.').dropLast))) true := by
    rw [PySem.F.owner_object_class]; exact looks_subIn X F.obj
  refine codeAny_call_builtin PySem.F.slot_gs_get.plain PySem.F.entry_gs_get (PySem.F.slot_gs_get.check _ _ _ _ _ _ _ _ hT5 (PySem.F.args_gs_get _ _ _) ?_)
  repeat (any_goals (first | assumption | (with_reducible refine wpAny_loadPart_at hx ?_; rw [hc]) | with_reducible refine L.at ?_ | wp_step))
  refine ⟨Code.quiet_builtin _ (by decide +kernel), codeAny_builtin PySem.F.entry_object_class ?_⟩
  repeat (any_goals (first | assumption | (with_reducible refine wpAny_loadPart_at hx ?_; rw [hc]) | wp_step))
theorem xc_entry {tk : Tok} {Q : Fin → Shared → Prop} (X : K.In h) (F : ExcK K C) (hx : h.get? a = some o) (hc : o.cls = .ref C) (hq : Q (.done (.ret (.ref C))) ⟨h, g, d, t, os⟩) :
    wpAny (model prog w) A (Builtin.«object.__getattribute__» ⟨[.ref a, .str "__class__" tk], []⟩) Q E ⟨h, g, d, t, os⟩ := by
  have hT5 : (⟨h, g, d, t, os⟩ : Shared).TypeIs (.builtin "object.__class__") "getset_descriptor" := PySem.F.typeOf_object_class
  have L : Looks (model prog w) h (typeLookup (.ref C) "__class__") (some (.builtin "object.__class__")) := looks_findIn X F.cl
  have f5 := PySem.F.typeOf_object_class
  have f6 := PySem.F.slot_gs_get.lookup
  have f7 := PySem.F.slot_gs_set.lookup
  repeat (any_goals (first | assumption | (with_reducible refine wpAny_loadPart_at hx ?_; rw [hc]) | with_reducible refine L.at ?_ | wp_step))
  refine xc_get X F hx hc ?_
  repeat (any_goals (first | assumption | wp_step))
theorem xc_check {M : Model} {nameV : Value} {Q : Unit → Shared → Prop} (X : K.In h) (F : ExcK K C) (hx : h.get? a = some o) (hc : o.cls = .ref C) (hq : Q () ⟨h, g, d, t, os⟩) : wpAny M A (checkBuiltinCall "BaseException.__getattribute__" ⟨[.ref a, nameV], []⟩) Q E ⟨h, g, d, t, os⟩ := by
  have hk : builtinKind "BaseException.__getattribute__" = some .slot := by decide +kernel
  have hsplit : splitId "BaseException.__getattribute__" = some ("BaseException", "__getattribute__") := by decide +kernel
  have L : Looks M h (isSubtype (.ref C) (.type "BaseException")) true := looks_subIn X F.bexc
  have ha := PySem.F.args_bexc_ga (.ref a) nameV
  simp only [checkBuiltinCall, hk, hsplit]
  refine wpAny_bind ?_
  · unfold isInstance
    repeat (first | (with_reducible refine wpAny_loadPart_at hx ?_; rw [hc]) | with_reducible refine L.at ?_ | wp_step)
    exact hq
theorem xc_call {tk : Tok} {R : Result → Shared → Prop} (hpl : PySem.ExcAttrFacts "ValueError") (X : K.In h) (F : ExcK K C) (hx : h.get? a = some o) (hc : o.cls = .ref C) (hq : R (.ok (.ret (.ref C))) ⟨h, g, d, t, os⟩) :
    codeAny (model prog w) A (.call (.builtin "BaseException.__getattribute__") ⟨[.ref a, .str "__class__" tk], []⟩) R ⟨h, g, d, t, os⟩ :=
  codeAny_call_builtin hpl.ga.plain PySem.F.entry_bexc_ga (xc_check X F hx hc (xc_entry X F hx hc hq))
theorem xc_by {tk : Tok} {Q : Value → Shared → Prop} (hpl : PySem.ExcAttrFacts "ValueError") (X : K.In h) (F : ExcK K C) (hx : h.get? a = some o) (hc : o.cls = .ref C) (hq : Q (.ref C) ⟨h, g, d, t, os⟩) : wpAny (model prog w) A (getAttrBy (.ref a) (.str "__class__" tk) false) Q E ⟨h, g, d, t, os⟩ := by
  have f3 := hpl.ga.bind (.ref a)
  have hx2 : (Value.builtin "BaseException.__getattribute__" == Value.builtin "object.__getattribute__") = false := by decide +kernel
  have hx1 : (onTheHeap (Value.ref C) && Value.builtin "BaseException.__getattribute__" == Value.builtin "object.__getattribute__") = false := by rw [hx2]; rfl
  have L : Looks (model prog w) h (typeLookup (.ref C) "__getattribute__") (some (.builtin "BaseException.__getattribute__")) := looks_findIn X F.ga
  have L2 : Looks (model prog w) h (typeLookup (.ref C) "__getattr__") none := looks_findIn X F.nga
  repeat (any_goals (first | assumption | (with_reducible refine wpAny_loadPart_at hx ?_; rw [hc]) | with_reducible refine L.at ?_ | with_reducible refine L2.at ?_ | wp_step))
  refine xc_call hpl X F hx hc ?_
  repeat (any_goals (first | assumption | wp_step))
theorem xc_attr {Q : Option Value → Shared → Prop} (hpl : PySem.ExcAttrFacts "ValueError") (X : K.In h) (F : ExcK K C) (hx : h.get? a = some o) (hc : o.cls = .ref C) (hq : Q (some (.ref C)) ⟨h, g, d, t + 1, os⟩) : wpAny (model prog w) A (getAttr? (.ref a) "__class__") Q E ⟨h, g, d, t, os⟩ := by
  unfold getAttr? getAttrBy?
  repeat (any_goals (first | assumption | with_reducible apply xc_by hpl X F hx hc | wp_step))
end
theorem kitx_exc {K : Frag} {a C : Addr} (F : ExcK K C) : KitX K (.ref a) (.ref C) (fun h => ExcAt h a C) where
  ty := fun M h _ p => by
    obtain ⟨o, vs, h1, h2, _⟩ := p
    intro A' Q' E' s' k q
    unfold typeOf
    exact wpAny_bind (wpAny_loadPart (k _ _ h1) (wpAny_pure (by show Q' o.cls s'; rw [h2]; exact q)))
  it := fun M h X _ => by
    obtain ⟨cdD, hcD⟩ := Option.isSome_iff_exists.mp F.ty
    unfold clsIn at hcD
    split at hcD
    · rename_i c' d' cd' sl' ho
      intro A' Q' E' s' k q
      unfold isType loadHead
      exact wpAny_bind (wpAny_loadPart (k _ _ (X _ _ ho)) (wpAny_pure q))
    · cases hcD
  ne := fun h tp dd its n sl X htp => by
    obtain ⟨cdD, hcD⟩ := Option.isSome_iff_exists.mp F.ty
    refine Bool.eq_false_iff.mpr fun q => ?_
    have e : C = tp := Value.ref.inj (beq_iff_eq.mp q)
    subst e
    unfold clsIn at hcD
    split at hcD
    · rename_i c' d' cd' sl' ho
      have z := (X _ _ ho).symm.trans htp
      cases z
    · cases hcD
  ca := fun {prog w A E Q s} X p hq => by
    obtain ⟨o, vs, h1, h2, _⟩ := p
    obtain ⟨h0, g, d, tt, os⟩ := s
    exact xc_attr PySem.F.attr_ValueError X F h1 h2 hq
end L2
set_option Elab.async false
set_option linter.all false
set_option maxRecDepth 100000
set_option maxHeartbeats 1000000
namespace L2
open PySem PySem.Spec PyProof.Rows
structure Exo (B : Heap) (e : Addr) (cls : Value) (h : Heap) (oe : Obj) (vs : Array Value) : Prop where
  at_ : h.get? e = some oe
  cl : oe.cls = cls
  dt : oe.data = .fields vs
  sz : vs.size = 6
  cx : vs[2]? = some .none
  tb : vs[1]? = some .none ∨ ∃ T oT ts x, vs[1]? = some (.ref T) ∧ B.get? T = none ∧ T ≠ e ∧ h.get? T = some oT ∧ oT.data = .fields ts ∧ ts[3]? = some x
structure Flyer (B : Heap) (l : List Env) (e : Addr) (cls : Value) (h : Heap) : Prop where
  st : B.StaysIn h
  nb : B.get? e = none
  ff : h.FunFrames B l
  ob : ∃ oe vs, Exo B e cls h oe vs
/-- a record of e or of its traceback is changed -/
theorem Flyer.change {B h h' : Heap} {l : List Env} {e : Addr} {cls : Value} (F : Flyer B l e cls h) {a : Addr} (na : B.get? a = none) {o : Obj} {ws : Array Value} (ho : h.get? a = some o) (hd : o.data = .fields ws) (k : ∀ b, b ≠ a → ∀ u, h.get? b = some u → h'.get? b = some u) (ob : ∃ oe vs, Exo B e cls h' oe vs) : Flyer B l e cls h' where
  st := fun b u q => k b (fun z => by rw [z, na] at q; cases q) u (F.st b u q)
  nb := F.nb
  ff := F.ff.of_keeps fun b u q hn => ⟨u, k b (fun z => by rw [z, ho] at q; cases q; exact hn ws hd) u q, rfl⟩
  ob := ob
theorem ups_change {h h' : Heap} {a : Addr} {o : Obj} {ws : Array Value} (ho : h.get? a = some o) (hd : o.data = .fields ws) (k : ∀ b, b ≠ a → ∀ u, h.get? b = some u → h'.get? b = some u) : h.UpToSlots h' := fun b u q hn =>
  ⟨u.slots, k b (fun z => by rw [z, ho] at q; cases q; exact hn ws hd) u q⟩
section
variable {M : Model} {A : Around} {E : Value → Shared → Prop} {s : Shared} {B : Heap} {l : List Env} {e : Addr} {cls : Value} {Q : Unit → Shared → Prop}
theorem upd_field {h : Heap} {a : Addr} {o : Obj} {ws : Array Value} {i : Nat} {v : Value} (ho : h.get? a = some o) (hd : o.data = .fields ws) : ∃ o', (h.update a (Obj.mapFields (·.setIfInBounds i v))).get? a = some o' ∧ o'.cls = o.cls ∧ o'.data = .fields (ws.setIfInBounds i v) :=
  ⟨_, Heap.get?_update_self _ ho (Obj.isFreed_of_fields (Obj.data_mapFields hd _)), Obj.cls_mapFields _ _, Obj.data_mapFields hd _⟩
/-- the flight's mark is set in the traceback -/
theorem fl_flight {fr : Option Addr} (F : Flyer B l e cls s.heap) (h : ∀ h', Flyer B l e cls h' → s.heap.UpToSlots h' → Q () { s with heap := h' }) : wpAny M A (setFlight (.ref e) fr) Q E s := by
  obtain ⟨oe, vs, X⟩ := id F.ob
  unfold setFlight
  rcases X.tb with ht | ⟨T, oT, ts, x, ht, hB, hTe, hT, hdT, h3⟩
  · refine wpAny_bind (wpAny_field X.at_ X.dt ht ?_)
    rw [if_neg (by decide)]
    exact wpAny_pure (h _ F (Heap.UpToSlots.refl _))
  · refine wpAny_bind (wpAny_field X.at_ X.dt ht ?_)
    rw [if_pos (by simp)]
    have i3 : 3 < ts.size := (Array.getElem?_eq_some_iff.mp h3).1
    refine wpAny_setField hT hdT i3 ?_
    obtain ⟨oT', g1, g2, g3⟩ := upd_field (i := 3) (v := fr.elim Value.none fun f => rawInt f) hT hdT
    have k : ∀ b, b ≠ T → ∀ u, s.heap.get? b = some u → (s.heap.update T (Obj.mapFields (·.setIfInBounds 3 (fr.elim Value.none fun f => rawInt f)))).get? b = some u := fun b hb u q => (Heap.get?_update_other _ _ (Ne.symm hb)).trans q
    have c3 : (ts.setIfInBounds 3 (fr.elim Value.none fun f => rawInt f))[3]? = some (fr.elim Value.none fun f => rawInt f) := Array.getElem?_setIfInBounds_self_of_lt i3
    exact h _ (F.change hB hT hdT k ⟨oe, vs, ⟨k e (Ne.symm hTe) _ X.at_, X.cl, X.dt, X.sz, X.cx, .inr ⟨T, oT', _, _, ht, hB, hTe, g1, g3, c3⟩⟩⟩) (ups_change hT hdT k)
/-- a new entry of the traceback -/
theorem fl_entry {env : Env} {outer : List Env} {L : Addr} {head : Value} {hadNext : Bool} (hfr : A.frames = some (env :: outer)) (hf : env.frame = some L) (F : Flyer B (env :: outer) e cls s.heap)
    (h : ∀ h', Flyer B (env :: outer) e cls h' → s.heap.UpToSlots h' → Q () { s with heap := h' }) :
    wpAny M A (do setField (.ref e) 1 (← EntryCells.newEntry head (← frameOf env) .none (rawInt L) .none (← entryPlaceOf L hadNext))) Q E s := by
  obtain ⟨oe, vs, X⟩ := id F.ob
  have out : e ∉ (env :: outer).filterMap (·.frame) := fun hm => by
    obtain ⟨_, o, ho, hnf⟩ := F.ff.mem hm
    rw [X.at_] at ho
    cases ho
    exact hnf vs X.dt
  refine wpAny_bind (wpAny_frameOf_fun hfr F.ff hf fun h1 so => ?_)
  refine wpAny_bind (wpAny_entryPlaceOf fun pl hpl => ?_)
  unfold EntryCells.newEntry newFields
  refine wpAny_bind (wpAny_newObj_type ?_ (hpl.sizeOk5 _ _ _ _ _))
  have e1 : h1.get? e = some oe := (so.2.1 e out).trans X.at_
  have st1 : B.StaysIn h1 := fun b u q => (so.2.1 b fun hm => by rw [(F.ff.mem hm).1] at q; cases q).trans (F.st b u q)
  generalize hcs : ([head, Value.ref L, .none, rawInt L, .none] ++ (if pl.isEmpty then List.replicate 6 Value.none else pl)) = cs
  have e2 := Heap.get?_push_of_some (h := h1) { cls := .type "traceback", dict := none, data := .fields cs.toArray } e1
  refine wpAny_setField e2 X.dt (by rw [X.sz]; decide) ?_
  obtain ⟨oe', g1, g2, g3⟩ := upd_field (i := 1) (v := Value.ref h1.objs.size) e2 X.dt
  have neT : h1.objs.size ≠ e := Nat.ne_of_gt (Heap.lt_size e1)
  have kp : ∀ b, b ≠ e → ∀ u, h1.get? b = some u → ((h1.push { cls := .type "traceback", dict := none, data := .fields cs.toArray }).update e (Obj.mapFields (·.setIfInBounds 1 (Value.ref h1.objs.size)))).get? b = some u := fun b hb u q =>
    (Heap.get?_update_other _ _ (Ne.symm hb)).trans (Heap.get?_push_of_some _ q)
  have gT : ((h1.push { cls := .type "traceback", dict := none, data := .fields cs.toArray }).update e (Obj.mapFields (·.setIfInBounds 1 (Value.ref h1.objs.size)))).get? h1.objs.size = some { cls := .type "traceback", dict := none, data := .fields cs.toArray } :=
    (Heap.get?_update_other _ _ (Ne.symm neT)).trans (Heap.get?_push_size h1 rfl)
  have c3 : cs.toArray[3]? = some (rawInt L) := by rw [← hcs]; simp
  have ups : s.heap.UpToSlots ((h1.push { cls := .type "traceback", dict := none, data := .fields cs.toArray }).update e (Obj.mapFields (·.setIfInBounds 1 (Value.ref h1.objs.size)))) := fun b u q hn => by
    obtain ⟨sl, q1⟩ := so.2.2 b u q
    exact ⟨sl, kp b (fun z => by rw [z, X.at_] at q; cases q; exact hn vs X.dt) _ q1⟩
  refine h _ ⟨fun b u q => kp b (fun z => by rw [z, F.nb] at q; cases q) u (st1 b u q), F.nb, F.ff.of_keeps fun b u q hn => ?_, oe', _, g1, g2.trans X.cl, g3, ?_, ?_, .inr ⟨h1.objs.size, _, _, _, ?_, ?_, neT, gT, rfl, c3⟩⟩ ups
  · obtain ⟨sl, q1⟩ := ups b u q hn
    exact ⟨_, q1, rfl⟩
  · rw [Array.size_setIfInBounds, X.sz]
  · rw [Array.getElem?_setIfInBounds_ne (by decide)]; exact X.cx
  · rw [Array.getElem?_setIfInBounds_self_of_lt (by rw [X.sz]; decide)]
  · cases q : B.get? h1.objs.size with
    | none => rfl
    | some u => exact absurd (Heap.lt_size (st1 _ _ q)) (Nat.lt_irrefl _)
/-- the frame that it comes through is noted -/
theorem fl_note {env : Env} {outer : List Env} {L : Addr} (hfr : A.frames = some (env :: outer)) (hf : env.frame = some L) (F : Flyer B (env :: outer) e cls s.heap)
    (h : ∀ h', Flyer B (env :: outer) e cls h' → s.heap.UpToSlots h' → Q () { s with heap := h' }) : wpAny M A (noteFrame (.ref e) env) Q E s := by
  obtain ⟨oe, vs, X⟩ := id F.ob
  unfold noteFrame
  simp only [hf]
  rcases X.tb with ht | ⟨T, oT, ts, x, ht, hB, hTe, hT, hdT, h3⟩
  · refine wpAny_bind (wpAny_field X.at_ X.dt ht ?_)
    rw [if_neg (by decide)]
    exact fl_entry hfr hf F h
  · refine wpAny_bind (wpAny_field X.at_ X.dt ht ?_)
    rw [if_pos (by simp)]
    refine wpAny_bind (wpAny_field hT hdT h3 ?_)
    by_cases hx : (x == rawInt L) = true
    · rw [if_pos hx]
      exact wpAny_pure (h _ F (Heap.UpToSlots.refl _))
    · rw [if_neg hx]
      have i3 : 3 < ts.size := (Array.getElem?_eq_some_iff.mp h3).1
      refine wpAny_bind (wpAny_setField hT hdT i3 ?_)
      obtain ⟨oT', g1, g2, g3⟩ := upd_field (i := 3) (v := Value.none) hT hdT
      have k : ∀ b, b ≠ T → ∀ u, s.heap.get? b = some u → (s.heap.update T (Obj.mapFields (·.setIfInBounds 3 Value.none))).get? b = some u := fun b hb u q => (Heap.get?_update_other _ _ (Ne.symm hb)).trans q
      have c3 : (ts.setIfInBounds 3 Value.none)[3]? = some Value.none := Array.getElem?_setIfInBounds_self_of_lt i3
      have F2 : Flyer B (env :: outer) e cls (s.heap.update T (Obj.mapFields (·.setIfInBounds 3 Value.none))) := F.change hB hT hdT k ⟨oe, vs, ⟨k e (Ne.symm hTe) _ X.at_, X.cl, X.dt, X.sz, X.cx, .inr ⟨T, oT', _, _, ht, hB, hTe, g1, g3, c3⟩⟩⟩
      exact fl_entry hfr hf F2 fun h' F' u' => h h' F' ((ups_change hT hdT k).trans u')
theorem fl_leave {env : Env} {outer : List Env} {L : Addr} (hfr : A.frames = some (env :: outer)) (hf : env.frame = some L) (F : Flyer B (env :: outer) e cls s.heap)
    (h : ∀ h', Flyer B outer e cls h' → s.heap.UpToSlots h' → Q () { s with heap := h' }) : wpAny M A (leaving env (.ref e)) Q E s := by
  unfold leaving
  refine wpAny_bind (fl_note hfr hf F fun h1 F1 u1 => ?_)
  exact fl_flight (s := { s with heap := h1 }) F1 fun h2 F2 u2 => h h2 ⟨F2.st, F2.nb, F2.ff.2.2, F2.ob⟩ (u1.trans u2)
/-- just made -/
theorem Flyer.made {h h1 : Heap} {vs : List Value} (st : B.StaysIn h) (ff : h.FunFrames B l) (hx : Heap.MadeExcOf h h1 e cls vs) : Flyer B l e cls h1 where
  st := fun b u q => hx.keeps b u (st b u q)
  nb := by
    cases q : B.get? e with
    | none => rfl
    | some u => have := st _ _ q; rw [hx.new] at this; cases this
  ff := ff.of_keeps fun b u q _ => ⟨u, hx.keeps b u q, rfl⟩
  ob := by
    obtain ⟨t, h1, _, _⟩ := hx.there
    exact ⟨_, _, h1, rfl, rfl, rfl, rfl, .inl rfl⟩
end
end L2
set_option Elab.async false
set_option linter.all false
set_option maxRecDepth 100000
set_option maxHeartbeats 1000000
namespace L2
open PySem PySem.Spec PyProof.Rows
/-- H, s: ahead of the call; H', s': with the exception on its way; B: all that the exception's way leaves alone -/
structure Fly (P : Program) (w : World) (l : List Env) (H : Hp) (s : Shared) (H' : Hp) (B : Heap) (s' : Shared) : Prop where
  os : s'.os = s.os
  bare : AllBare s'.gens
  un : Un (frs l) [] H H' s.heap s'.heap
  hok : HOk P w H' s'.heap
  frf : ∀ b ∈ frs l, H' b = none
  bb : ∀ b o, s'.heap.get? b = some o → b ∉ frs l → (H' b ≠ none ∨ ∃ o', s.heap.get? b = some o') → B.get? b = some o
def CXE (P : Program) (w : World) : CXT := fun outer H s E e s' => ∃ (a C : Addr) (H' : Hp) (B : Heap), e = .ref a ∧ Fly P w outer H s H' B s' ∧ Flyer B outer a (.ref C) s'.heap ∧ E (.ref C) none H'
section
variable {P : Program} {w : World} {l : List Env} {H H' : Hp} {s s' : Shared} {B h' : Heap}
theorem funFrames_mem {h base : Heap} : ∀ {l : List Env} {b : Addr}, h.FunFrames base l → b ∈ frs l → base.get? b = none ∧ ∃ o, h.get? b = some o ∧ ∀ vs, o.data ≠ .fields vs
  | [], b, _, hb => absurd (show b ∈ ([] : List Addr) from hb) (by simp)
  | env :: r, b, ⟨_, ⟨L, o, hf, hn, ho, hd⟩, hr⟩, hb => by
    unfold frs at hb
    rw [List.filterMap_cons, hf] at hb
    rcases List.mem_cons.mp hb with e | hb
    · subst e; exact ⟨hn, o, ho, hd⟩
    · exact funFrames_mem hr hb
theorem ObjOk.has {P : Program} {w : World} {H : Hp} {h : Heap} {a : Addr} {o : HO} (x : ObjOk P w H h a o) : ∃ ob, h.get? a = some ob := by
  cases o with
  | lst xs => obtain ⟨_, _, _, _, e⟩ := x; exact ⟨_, e⟩
  | tup xs => obtain ⟨_, _, _, ob, e, _⟩ := x; exact ⟨_, e⟩
  | dK kvs => obtain ⟨_, _, _, _, o, _, _, e, _⟩ := x; exact ⟨_, e⟩
  | dT kvs => obtain ⟨_, _, _, _, o, _, _, e, _⟩ := x; exact ⟨_, e⟩
  | set S n => obtain ⟨o, _, _, _, e, _⟩ := x; exact ⟨_, e⟩
  | ins C dx fs => obtain ⟨_, _, _, e, _⟩ := x; exact ⟨_, e⟩
  | own y => exact x
  | xd fs => obtain ⟨_, ⟨_, _, _, e, _⟩, _⟩ := x; exact ⟨_, e⟩
  | rng lo hi => obtain ⟨_, _, _, e⟩ := x; exact ⟨_, e⟩
  | frz ob u => obtain ⟨e, _⟩ := x; exact ⟨_, e⟩
  | tbl ps => exact ⟨_, x⟩
  | met f y => exact ⟨_, x⟩
  | ext φ => obtain ⟨_, e, _⟩ := x; exact e
/-- the way goes on: frames up to slots, what B has is left alone -/
theorem Fly.up (F : Fly P w l H s H' B s') (ff : s'.heap.FunFrames B l) (st : B.StaysIn h') (us : s'.heap.UpToSlots h') : Fly P w l H s H' B { s' with heap := h' } where
  os := F.os
  bare := F.bare
  un := {
    keep := fun b o e n hb hx => st _ _ (F.bb b o (F.un.keep b o e n hb hx) hb (.inr ⟨o, e⟩))
    slot := fun b o e n hb hx => by
      obtain ⟨sl, e1⟩ := F.un.slot b o e n hb hx
      obtain ⟨_, o2, e2, hd⟩ := funFrames_mem ff hb
      rw [e1] at e2
      obtain ⟨sl2, e3⟩ := us b _ e1 (by cases e2; exact hd)
      exact ⟨sl2, e3⟩
    free := F.un.free
    there := fun b o e hx => by
      obtain ⟨o1, e1⟩ := F.un.there b o e hx
      by_cases hb : b ∈ frs l
      · obtain ⟨_, o2, e2, hd⟩ := funFrames_mem ff hb
        obtain ⟨sl2, e3⟩ := us b _ e2 hd
        exact ⟨_, e3⟩
      · exact ⟨o1, st _ _ (F.bb b o1 e1 hb (.inr ⟨o, e⟩))⟩
    tups := F.un.tups
    frzs := F.un.frzs
    tbls := F.un.tbls }
  hok := fun b u e => (F.hok b u e).stay (fun c v hc q => st _ _ (F.bb c v q (fun z => by
      have := F.frf c z
      rcases hc with rfl | hc
      · rw [e] at this; cases this
      · rw [hc] at this; cases this) (.inl (by
      rcases hc with rfl | hc
      · rw [e]; simp
      · rw [hc]; simp)))) (fun _ q => q) fun _ _ q => q
  frf := F.frf
  bb := fun b o e hb hx => by
    have : ∃ o1, s'.heap.get? b = some o1 := by
      rcases hx with hx | ⟨o', hx⟩
      · cases q : H' b with
        | none => exact absurd q hx
        | some u => exact (F.hok b u q).has
      · exact F.un.there b o' hx (by simp)
    obtain ⟨o1, e1⟩ := this
    have e2 := F.bb b o1 e1 hb hx
    have e3 := st _ _ e2
    rw [e] at e3
    cases e3
    exact e2
end
end L2
set_option Elab.async false
set_option linter.all false
set_option maxRecDepth 100000
set_option maxHeartbeats 1000000
namespace L2
open PySem PySem.Spec PyProof.Rows
section
variable {X : Cx} {pins : List (Addr × Obj)} {σ : St} {H H' : Hp} {s s' : Shared} {B : Heap}
/-- a def's body: its frame stands on the stack -/
structure OnStack (X : Cx) : Prop where
  stk : X.stack = X.env :: X.outer
  fr : X.env.frame = some X.env.locals
  ex : X.ex = []
theorem OnStack.mem (o : OnStack X) {b : Addr} : b ∈ frs X.stack ↔ b = X.env.locals ∨ b ∈ frs X.outer := by
  rw [o.stk]
  unfold frs
  rw [List.filterMap_cons, o.fr]
  exact List.mem_cons
/-- here it is made: nothing is on its way yet -/
theorem Inv.fly (I : Inv X pins σ H s) (o : OnStack X) : Fly X.prog X.w X.outer X.H_0 X.s_0 H (PySem.W.hideAll s.heap (frs X.stack)) s where
  os := I.os
  bare := I.bare
  un := by have u := I.base; rw [o.ex] at u; exact u
  hok := I.hok
  frf := fun b hb => I.stkFree b (o.mem.mpr (.inr hb))
  bb := fun b ob e hb hx => PySem.W.hideAll_get _ e fun z => by
    rcases o.mem.mp z with z | z
    · rcases hx with hx | ⟨o', hx⟩
      · exact hx (by rw [z]; exact I.free)
      · exact absurd (Nat.lt_of_lt_of_le (Heap.lt_size hx) (by rw [z]; exact I.ok.above)) (Nat.lt_irrefl _)
    · exact hb z
/-- from a callee's way to the caller's own -/
theorem Fly.inv (I : Inv X pins σ H s) (F : Fly X.prog X.w X.stack H s H' B s') : Inv X pins σ H' s' := I.call' (ch := []) F.os F.un F.hok F.bare fun b z => absurd z (by simp)
theorem Fly.out (I : Inv X pins σ H s) (o : OnStack X) (F : Fly X.prog X.w X.stack H s H' B s') : Fly X.prog X.w X.outer X.H_0 X.s_0 H' B s' := by
  have J := F.inv I
  exact {
    os := J.os
    bare := J.bare
    un := by have u := J.base; rw [o.ex] at u; exact u
    hok := J.hok
    frf := fun b hb => J.stkFree b (o.mem.mpr (.inr hb))
    bb := fun b ob e hb hx => by
      refine F.bb b ob e (fun z => ?_) ?_
      · rcases o.mem.mp z with z | z
        · rcases hx with hx | ⟨o', hx⟩
          · exact hx (by rw [z]; exact J.free)
          · exact absurd (Nat.lt_of_lt_of_le (Heap.lt_size hx) (by rw [z]; exact I.ok.above)) (Nat.lt_irrefl _)
        · exact hb z
      · rcases hx with hx | ⟨o', hx⟩
        · exact .inl hx
        · exact .inr (I.base.there b o' hx (by rw [o.ex]; simp)) }
end
/-- an exception that is made here leaves as E wants -/
def Leaves (X : Cx) (E : XK) : Prop := ∀ (pins : List (Addr × Obj)) (σ : St) (H : Hp) (s : Shared) (h1 : Heap) (e C : Addr) (vs : List Value), Inv X pins σ H s → Heap.MadeExcOf s.heap h1 e (.ref C) vs → E (.ref C) none H → X.xe (.ref e) { s with heap := h1 }
section
variable {P : Program} {w : World} {K : PySem.W.Frag} {mg : Str → Option Value} {base : Heap} {N : List Str} {qual : Str} {scope : Scope} {f : Addr} {cd : Value} {A : Around} {outer : List Env} {s : Shared} {H : Hp} {E : XK}
theorem onStack_cx {CX : CXT} : OnStack (cxOf CX P w K mg base N qual scope f cd A outer s H E) := ⟨rfl, rfl, rfl⟩
theorem funFrames_hideAll {base h : Heap} : ∀ {l : List Env} {as : List Addr}, h.FunFrames base l → (∀ b ∈ frs l, b ∈ as) → h.FunFrames (PySem.W.hideAll h as) l
  | [], _, _, _ => trivial
  | env :: r, as, ⟨hk, ⟨L, o, hf, _, ho, hd⟩, hr⟩, hin => ⟨hk, ⟨L, o, hf, PySem.W.hideAll_none _ (hin L (by unfold frs; rw [List.filterMap_cons, hf]; exact List.mem_cons_self)), ho, hd⟩, funFrames_hideAll hr fun b hb => hin b (by unfold frs; rw [List.filterMap_cons, hf]; exact List.mem_cons_of_mem _ hb)⟩
theorem leaves_cx : Leaves (cxOf (CXE P w) P w K mg base N qual scope f cd A outer s H E) E := by
  intro pins σ H1 s1 h1 e C vs I hx q
  have o : OnStack (cxOf (CXE P w) P w K mg base N qual scope f cd A outer s H E) := onStack_cx
  have ff := funFrames_hideAll (as := frs (cxOf (CXE P w) P w K mg base N qual scope f cd A outer s H E).stack) I.stack fun b hb => hb
  have st : (PySem.W.hideAll s1.heap (frs (cxOf (CXE P w) P w K mg base N qual scope f cd A outer s H E).stack)).StaysIn s1.heap := fun b ob e => PySem.W.of_hideAll _ e
  have fl0 := Flyer.made (l := (cxOf (CXE P w) P w K mg base N qual scope f cd A outer s H E).stack) st ff hx
  refine fl_leave (s := { s1 with heap := h1 }) I.ok.frames rfl fl0 fun h' fl us => ?_
  have us' : s1.heap.UpToSlots h' := (Heap.UpToSlots.of_keeps hx.keeps).trans us
  have F := (I.fly o).up (h' := h') ff.2.2 fl.st us'
  exact ⟨e, C, H1, _, rfl, ⟨F.os, F.bare, F.un, F.hok, F.frf, F.bb⟩, fl, q⟩
theorem passes_cx : Passes (CXE P w) (cxOf (CXE P w) P w K mg base N qual scope f cd A outer s H E) E := by
  intro pins σ H1 s1 e s' I q
  obtain ⟨a, C, H', B, rfl, F, fl, q⟩ := q
  have o : OnStack (cxOf (CXE P w) P w K mg base N qual scope f cd A outer s H E) := onStack_cx
  refine fl_leave (s := s') I.ok.frames rfl fl fun h' fl' us => ?_
  have F' := (Fly.out I o F).up (h' := h') fl.ff.2.2 fl'.st us
  exact ⟨a, C, H', B, rfl, ⟨F'.os, F'.bare, F'.un, F'.hok, F'.frf, F'.bb⟩, fl', q⟩
/-- loops -/
theorem own_cx {CX : CXT} : PassesOwn (model P w) (A.deeper (envOfC qual scope s.heap.objs.size f cd)) (envOfC qual scope s.heap.objs.size f cd) (cxOf CX P w K mg base N qual scope f cd A outer s H E).xe := PassesOwn.leaving
/-- a promise that tells of exceptions too; the one that tells of none -/
theorem FnOk.calm {k : Nat} {f : Addr} {fd : FuncData} {ps : List Str} {sp : Sp} (F : FnOk P w K mg base (CXE P w) k f fd ps sp) : FnOk P w K mg base CX0 k f fd ps (fun vs H Q _ => sp vs H Q E0) where
  len := fun vs H Q _ h => F.len vs H Q E0 h
  run := fun A outer s H args us vs Q E hr e0 hb r h => codeAny_mono (F.run A outer s H args us vs Q E0 hr e0 hb r h) fun r s' q => by
    cases r with
    | error e => obtain ⟨_, _, _, _, _, _, _, z⟩ := q; exact z
    | ok fl => cases fl with
      | ret u => exact q
      | next => exact q
      | brk => exact q
      | cont => exact q
end
end L2
set_option Elab.async false
set_option linter.all false
set_option maxRecDepth 100000
set_option maxHeartbeats 1000000
namespace L2
open PySem PySem.Spec PyProof.Rows
abbrev vBases : List Value := [.type "ValueError", .type "Exception", .type "BaseException", .type "object"]
theorem excObj_of {K : PySem.W.Frag} {h : Heap} {C : Addr} (X : K.In h) (q : PySem.W.excIn K C vBases "ValueError.__new__" = true) :
    ∃ bm N nm q bs hdct sn sub ab col dd k0 k1 k2 k3 k5 mN, h.get? C = some (excClassObj nm q C N bs bm hdct sn sub ab col dd k0 k1 k2 k3 k5 "ValueError.__new__") ∧ h.Ns N mN ∧ mN "__init__" = none ∧ OwnTail h vBases bm := by
  unfold PySem.W.excIn at q
  split at q
  · rename_i dd cd sl ho
    split at q
    · rename_i C' bm k0 k1 k2 k3 n k5 hm hs
      simp only [Bool.and_eq_true, beq_iff_eq, Bool.not_eq_true'] at q
      obtain ⟨⟨⟨⟨⟨rfl, rfl⟩, hdel⟩, ht⟩, hok⟩, hni⟩ := q
      obtain ⟨nm, bs, mro, ns, qn, hd, sn, sub, ab, col, del⟩ := cd
      dsimp only at hm hdel hok hni
      subst hm hdel
      have hsl : sl = #[k0, k1, k2, k3, some (.builtin "ValueError.__new__"), k5] := by
        obtain ⟨l⟩ := sl
        simp only at hs
        rw [hs]
      subst hsl
      exact ⟨bm, ns, nm, qn, bs, hd, sn, sub, ab, col, dd, k0, k1, k2, k3, k5, _, X _ _ ho, .of_isNs (PySem.W.isNs_of_in X hok), PySem.W.nsMap_none_of_in X hok hni, PySem.W.tail_of_in X ht⟩
    · cases q
  · cases q
section
variable {X : Cx}
def tRaise (E : XK) (C : Addr) (te : TE) : TS := fun _ σ H => te σ H fun _ H1 => E (.ref C) none H1
theorem ps_raise {E : XK} {C : Addr} {x : Str} {np cpos pos : Pos} {e : Expr} {te : TE} (hx : Leaves X E) (hcalm : X.calm = true) (hg : Gl X x) (hm : X.mg x = some (.ref C)) (hc : PySem.W.excIn X.K C vBases "ValueError.__new__" = true) (he : PE X e te)
    (hst : starEach [e] X.env = (false, eval e X.env) :: starEach [] X.env := by rfl) (hd : (x == ("__debug__" : Str)) = false := by decide) : PS X (.Raise (some (.Call (.Name x np) [e] [] cpos)) none pos) (tRaise E C te) := by
  intro pins s σ H D I h
  obtain ⟨tl, N, nm, q, bs, hdct, sn, sub, ab, col, dd, k0, k1, k2, k3, k5, mN, hC, hN, hni, T⟩ := excObj_of I.mod.kin hc
  have hA := pa_cons he (pa_nil (X := X)) hst
  refine wpAny_Raise_call_subT (C := C) (nm := nm) (q := q) (N := N) (bs := bs) (bm := tl) (hdct := hdct) (sn := sn) (sub := sub) (ab := ab) (col := col) (dd := dd) (k0 := k0) (k1 := k1) (k2 := k2) (k3 := k3) (k5 := k5)
    PySem.F.excBase_ValueError (mN := mN) (T.hasType (by decide +kernel)) (I.ok.hd hcalm) (by rw [hst]; rfl) hni (ld_glob I hg hm ⟨rfl, ?_⟩ hd)
  have hB := hA cpos pins s σ H (fun vs H1 => match vs with | [_] => E (.ref C) none H1 | _ => False) I h
  rw [hst] at hB ⊢
  refine Calls.evalArgs_plain (wpAny_mono hB (fun vs s₂ h₂ => ?_) fun _ _ y => y)
  obtain ⟨vvs, H1, I1, r, hE⟩ := h₂
  obtain ⟨hl, hE⟩ : vvs.length = 1 ∧ E (.ref C) none H1 := by
    match vvs, hE with
    | [_], hE => exact ⟨rfl, hE⟩
  refine ⟨rfl, ?_, I1.bk _ _ hC, hN.keeps I1.bk, T.keeps I1.bk, fun h' e' hm' => hx pins σ H1 s₂ h' e' C vs I1 hm' hE⟩
  show vs.length ≤ sizeLine
  rw [← r.length, hl]
  decide
end
structure Catches (K : PySem.W.Frag) (C T : Addr) : Prop where
  ty : PySem.W.typeIn K (.ref T) = some (.type "type")
  cls : (PySem.W.clsIn K T).isSome = true
  bexc : PySem.W.subIn K (.ref T) (.type "BaseException") = some true
  sub : PySem.W.subIn K (.ref C) (.ref T) = some true
theorem excMatches_own {M : Model} {A : Around} {E : Value → Shared → Prop} {K : PySem.W.Frag} {h : Heap} {g : Array GenState} {d : Drawn} {t : Nat} {os : OsState} {e C T : Addr} {oe : Obj} {Q : Bool → Shared → Prop} (X : K.In h) (c : Catches K C T) (he : h.get? e = some oe) (hcls : oe.cls = .ref C)
    (hq : Q true ⟨h, g, d, t, os⟩) : wpAny M A (excMatches (.ref e) (.ref T)) Q E ⟨h, g, d, t, os⟩ := by
  have L1 : PySem.W.Looks M h (typeOf (.ref T)) (.type "type") := PySem.W.looks_typeIn X c.ty
  have L2 : PySem.W.Looks M h (isSubtype (.ref T) (.type "BaseException")) true := PySem.W.looks_subIn X c.bexc
  have L3 : PySem.W.Looks M h (isSubtype (.ref C) (.ref T)) true := PySem.W.looks_subIn X c.sub
  have L4 : PySem.W.Looks M h (isType (.ref T)) true := by
    obtain ⟨cdD, hcD⟩ := Option.isSome_iff_exists.mp c.cls
    unfold PySem.W.clsIn at hcD
    split at hcD
    · rename_i c' d' cd' sl' ho
      intro A' Q' E' s' k q
      unfold isType loadHead
      exact wpAny_bind (wpAny_loadPart (k _ _ (X _ _ ho)) (wpAny_pure q))
    · cases hcD
  have f := tc_notTuple
  unfold excMatches isExcClass isInstance
  repeat (first | (with_reducible refine wpAny_loadPart_at he ?_; rw [hcls]) | with_reducible refine L1.at ?_ | with_reducible refine L4.at ?_ | with_reducible refine L2.at ?_ | with_reducible refine L3.at ?_ | wp_step)
  exact hq
end L2
set_option Elab.async false
set_option linter.all false
set_option maxRecDepth 100000
set_option maxHeartbeats 1000000
namespace L2
open PySem PySem.Spec PyProof.Rows
abbrev TX := St → Hp → VK → XK → Prop
/-- an expression that may raise -/
def PX (X : Cx) (e : Expr) (t : TX) : Prop :=
  ∀ (pins : List (Addr × Obj)) (s : Shared) (σ : St) (H : Hp) (Q : VK) (E : XK), Inv X pins σ H s → t σ H Q E → wpAny (model X.prog X.w) X.A (eval e X.env) (EP X pins σ Q) (fun x s' => ∃ Hc sc, Inv X pins σ Hc sc ∧ CXE X.prog X.w X.stack Hc sc E x s') s
/-- within the clause: the exception at e is pinned -/
abbrev Cx.inSuite (X : Cx) (e : Addr) (oe : Obj) : Cx := { X with A := X.A.mark (some (.ref e)), calm := false, pn := (e, oe) :: X.pn, xe := fun _ _ => False }
section
variable {X : Cx} {pins : List (Addr × Obj)} {σ : St} {H : Hp} {s : Shared} {e : Addr} {oe : Obj}
theorem Inv.toSuite (I : Inv X pins σ H s) (h1 : s.heap.get? e = some oe) (h2 : H e = none) (h3 : e ≠ X.env.locals) (h4 : e ∉ X.fs) (h5 : ∀ v, oe.data ≠ .cell v) : Inv (X.inSuite e oe) pins σ H s :=
  ⟨⟨I.ok.mod, I.ok.kind, I.ok.glob, I.ok.blt, I.ok.above, I.ok.inj, I.ok.has, I.ok.cab, (fun z => nomatch z), I.ok.frames, I.ok.stk, I.ok.exf, I.ok.bs, I.ok.bsz, I.ok.noex, I.ok.exfs, I.ok.funs, I.ok.frf⟩, I.os, I.bare, I.base, I.loc, I.cell, I.free, I.freeC, fun p hp => by
    rcases List.mem_append.mp hp with z | z
    · rcases List.mem_cons.mp (show p ∈ (e, oe) :: X.pn from z) with z | z
      · subst z; exact ⟨h1, h2, h3, h4, h5⟩
      · exact I.pin p (List.mem_append_left _ z)
    · exact I.pin p (List.mem_append_right _ z), I.hok, I.len⟩
theorem Inv.ofSuite (ok : X.Ok) (I : Inv (X.inSuite e oe) pins σ H s) : Inv X pins σ H s :=
  ⟨ok, I.os, I.bare, I.base, I.loc, I.cell, I.free, I.freeC, fun p hp => I.pin p (by
    rcases List.mem_append.mp hp with z | z
    · exact List.mem_append_left _ (List.mem_cons_of_mem _ z)
    · exact List.mem_append_right _ z), I.hok, I.len⟩
/-- behind the clause its name is gone -/
theorem Inv.nameGone {M : Model} {A : Around} {E : Value → Shared → Prop} {i : Nat} {n : Str} {pos : Pos} {Q : Unit → Shared → Prop} (I : Inv X pins σ H s) (hnd : X.N.Nodup) (hi : X.N[i]? = some n) (hl : X.env.scope.names.lookup n = some .local)
    (h : ∀ s', Inv X pins (σ.set i none) H s' → Q () s') : wpAny M A (do bindName X.env n .none; unbindBehindTheSuite X.env n pos) Q E s := by
  obtain ⟨m, hn, hlk⟩ := id I.loc
  have hcls : (X.env.scope.kind == .class || (X.env.scope.kind == .module && X.env.locals != X.env.globals)) = false := by rw [I.ok.kind]; rfl
  have cne := I.cne
  refine wpAny_nameGoes_keeps hl hn hcls fun h' v hn' hs => ?_
  obtain ⟨oL, _, _, hoL, _⟩ := id hn
  have hiσ : i < σ.length := by rw [I.len]; exact (List.getElem?_eq_some_iff.mp hi).1
  refine h { s with heap := h', toks := s.toks + 1 } ⟨I.ok, I.os, I.bare, ⟨fun b o e n hb hx => ?_, fun b o e n hb hx => ?_, I.base.free, fun b o e hx => ?_, I.base.tups, I.base.frzs, I.base.tbls⟩, ⟨_, hn', fun j y v' e1 e2 e3 => ?_⟩, fun y c e => ?_, I.free, I.freeC, fun p hp => ?_, fun b ob eb => ?_, by simpa using I.len⟩
  · exact (hs.2 b (Nat.ne_of_lt (Nat.lt_of_lt_of_le (Heap.lt_size e) I.ok.above))).trans (I.base.keep b o e n hb hx)
  · obtain ⟨sl, e1⟩ := I.base.slot b o e n hb hx
    exact ⟨sl, (hs.2 b (Nat.ne_of_lt (Nat.lt_of_lt_of_le (Heap.lt_size e) I.ok.above))).trans e1⟩
  · obtain ⟨o', e1⟩ := I.base.there b o e hx
    exact ⟨o', (hs.2 b (Nat.ne_of_lt (Nat.lt_of_lt_of_le (Heap.lt_size e) I.ok.above))).trans e1⟩
  · by_cases hj : j = i
    · subst hj
      rw [List.getElem?_set_self hiσ] at e2
      cases e2
    · rw [List.getElem?_set_ne (Ne.symm hj)] at e2
      obtain ⟨u', r', q⟩ := hlk j y v' e1 e2 e3
      refine ⟨u', r', ?_⟩
      rcases q with ⟨k, e⟩ | ⟨k, c, e, z⟩
      · refine .inl ⟨k, ?_⟩
        have : y ≠ n := fun e => hj (nodup_ix hnd e1 (e ▸ hi))
        simp [this, e]
      · exact .inr ⟨k, c, e, z.sameBut hs (cne y c e)⟩
  · obtain ⟨w', z⟩ := I.cell y c e
    exact ⟨w', z.sameBut hs (cne y c e)⟩
  · obtain ⟨e, n, ne, nf, d⟩ := I.pin p hp
    exact ⟨(hs.2 p.1 ne).trans e, n, ne, nf, d⟩
  · refine (I.hok b ob eb).stay (fun c w' hc q => (hs.2 c ?_).trans q) (fun _ q => q) fun _ _ q => q
    rintro rfl
    rcases hc with rfl | hc
    · rw [I.free] at eb; cases eb
    · rw [I.free] at hc; cases hc
end
/-- behind the clause -/
def Ends.gone (D : Ends) (i : Nat) : Ends := { nx := fun σ H => D.nx (σ.set i none) H, rt := D.rt, bk := fun σ H => D.bk (σ.set i none) H, ct := fun σ H => D.ct (σ.set i none) H }
def tTry (K : PySem.W.Frag) (T : Addr) (i : Nat) (t : TX) (ts : Addr → Obj → TS) : TS := fun D σ H => t σ H (fun _ H1 => D.nx σ H1) fun c _ H1 => ∃ C, c = .ref C ∧ Catches K C T ∧
  ∀ (e : Addr) (oe : Obj) (vs : Array Value), oe.cls = .ref C → oe.data = .fields vs → vs[2]? = some .none → H1 e = none → ts e oe (D.gone i) (σ.set i (some (.ref e))) H1
section
variable {X : Cx}
theorem ps_try {body : Expr} {t : TX} {ts : Addr → Obj → TS} {n tx : Str} {i : Nat} {T : Addr} {b0 : Stmt} {suite : List Stmt} {np pos1 pos2 pos3 : Pos} (hb : PX X body t) (os : OnStack X) (hnd : X.N.Nodup) (hi : X.N[i]? = some n) (hl : X.env.scope.names.lookup n = some .local)
    (hgT : Gl X tx) (hmT : X.mg tx = some (.ref T)) (hs : ∀ (e : Addr) (oe : Obj) (vs : Array Value), oe.data = .fields vs → vs[2]? = some .none → PSs (X.inSuite e oe) (b0 :: suite) (ts e oe)) (hsw : swapsWith body none pos1.line X.env = pure false := by rfl) (hd : (tx == ("__debug__" : Str)) = false := by decide) :
    PS X (.Try [.Expr body pos1] [.ExceptHandler (some (.Name tx np)) (some n) (b0 :: suite) pos2] [] [] pos3) (tTry X.K T i t ts) := by
  intro pins s σ H D I h
  refine wpAny_Try_except (wpAny_execs_cons (wpAny_Expr_any (wpAny_mono (hb pins s σ H _ _ I h) (fun v s1 ⟨x, H1, I1, r1, q1⟩ => ?_) fun x s' hx => ?_) I.quiet hsw))
  · exact wpAny_execs_nil (wpAny_execs_nil ⟨σ, H1, I1, q1⟩)
  obtain ⟨Hc, sc, Ic, a, C, H', B, rfl, F, fl, c, hC, hcat, hts⟩ := hx
  have e0 : C = c := Value.ref.inj hC
  subst e0
  have hfr : X.A.frames = some (X.env :: X.outer) := by rw [← os.stk]; exact I.ok.frames
  have fl0 : Flyer B (X.env :: X.outer) a (.ref C) s'.heap := by rw [← os.stk]; exact fl
  have up1 : ∀ {h1 h2 : Heap}, Fly X.prog X.w X.stack Hc sc H' B { s' with heap := h1 } → Flyer B (X.env :: X.outer) a (.ref C) h1 → Flyer B (X.env :: X.outer) a (.ref C) h2 → h1.UpToSlots h2 → Fly X.prog X.w X.stack Hc sc H' B { s' with heap := h2 } := fun {h1 h2} F1 l1 l2 u =>
    F1.up (h' := h2) (by rw [os.stk]; exact l1.ff) l2.st u
  have suit : ∀ {h : Heap}, Fly X.prog X.w X.stack Hc sc H' B { s' with heap := h } → Flyer B (X.env :: X.outer) a (.ref C) h → ∃ o vs, h.get? a = some o ∧ o.cls = .ref C ∧ o.data = .fields vs ∧ vs[2]? = some .none ∧ H' a = none ∧ Inv (X.inSuite a o) pins σ H' { s' with heap := h } := fun {h} F1 l1 => by
    obtain ⟨o, vs, x⟩ := l1.ob
    have ff : h.FunFrames B X.stack := by rw [os.stk]; exact l1.ff
    have away : a ∉ frs X.stack := fun z => by
      obtain ⟨_, o2, e2, hd2⟩ := funFrames_mem ff z
      rw [x.at_] at e2; cases e2
      exact hd2 _ x.dt
    have un : H' a = none := by
      cases q : H' a with
      | none => rfl
      | some u =>
        have := F1.bb a o x.at_ away (.inl (by rw [q]; simp))
        rw [l1.nb] at this; cases this
    exact ⟨o, vs, x.at_, x.cl, x.dt, x.cx, un, (F1.inv Ic).toSuite x.at_ un (fun z => away (os.mem.mpr (.inl z))) (fun z => away (os.mem.mpr (.inr z))) (fun v => by rw [x.dt]; intro z; cases z)⟩
  refine fl_note (s := s') hfr os.fr fl0 fun h4 fl4 up4 => ?_
  have st4 := up1 (h1 := s'.heap) F fl0 fl4 up4
  refine fl_flight (s := { s' with heap := h4 }) fl4 fun h5 fl5 up5 => ?_
  have st5 := up1 st4 fl4 fl5 up5
  refine wpAny_handleBy_cons (codeAny_handlers_test ?_) (by intro q; cases q)
  obtain ⟨o5, vs5, e5, c5, d5, _, _, Js5⟩ := suit st5 fl5
  refine ld_glob (X := X.inSuite a o5) Js5 hgT hmT ?_ hd
  refine excMatches_own Js5.kIn hcat e5 c5 ?_
  refine codeAny_handlers_suite_as ?_
  refine fl_flight (s := { s' with heap := h5 }) fl5 fun h6 fl6 up6 => ?_
  have st6 := up1 st5 fl5 fl6 up6
  obtain ⟨o6, vs6, e6, c6, d6, x6, b2, Js6⟩ := suit st6 fl6
  refine store_ok (X := X.inSuite a o6) (v := .ref a) Js6 hnd hi (.inl hl) rfl (fun s7 J7 => ?_) (.inr hl)
  have hq := hs a o6 vs6 d6 x6 pins s7 (σ.set i (some (.ref a))) H' (D.gone i) J7 (hts a o6 vs6 c6 d6 x6 b2)
  refine wpAny_mono hq (fun f s8 q => ?_) fun _ _ z => False.elim z
  cases f with
  | next =>
    obtain ⟨σ', H8, J8, q⟩ := q
    exact (J8.ofSuite I.ok).nameGone hnd hi hl fun s9 J9 => ⟨_, _, J9, q⟩
  | brk =>
    obtain ⟨σ', H8, J8, q⟩ := q
    exact (J8.ofSuite I.ok).nameGone hnd hi hl fun s9 J9 => ⟨_, _, J9, q⟩
  | cont =>
    obtain ⟨σ', H8, J8, q⟩ := q
    exact (J8.ofSuite I.ok).nameGone hnd hi hl fun s9 J9 => ⟨_, _, J9, q⟩
  | ret u =>
    obtain ⟨v, σ', H8, J8, r, q⟩ := q
    exact (J8.ofSuite I.ok).nameGone hnd hi hl fun s9 J9 => ⟨v, _, _, J9, r, q⟩
end
end L2
set_option Elab.async false
set_option linter.all false
set_option maxRecDepth 100000
set_option maxHeartbeats 1000000
namespace L2
open PySem PySem.Spec PyProof.Rows
def rIsaX (K : PySem.W.Frag) (pn : List (Addr × Obj)) : List V → Hp → VK → Prop := fun xs H Q => ∃ (e : Addr) (oe : Obj) (C : Addr) (vs : Array Value) (y : V) (cv : Value) (b : Bool), xs = [.ref e, y] ∧ (e, oe) ∈ pn ∧ oe.cls = .ref C ∧ oe.data = .fields vs ∧ ExcK K C ∧
  (∀ u, RelV y u → u = cv) ∧ (∀ tp, cv = .ref tp → (PySem.W.clsIn K tp).isSome = true) ∧ PySem.W.kitOne K (.ref C) cv = some b ∧ Q (.bl b) H
theorem cr_isaX {X : Cx} : CallR X (.builtin "isinstance") (rIsaX X.K X.pn) := by
  intro pins s σ H xs us Q I r h
  obtain ⟨e, oe, C, vs, y, cv, b, rfl, hp, hc, hd, F, hy, hcl, hk, q⟩ := h
  obtain ⟨u, w', rfl, rx, rt⟩ := vals2 r
  cases rx
  have := hy _ rt
  subst this
  obtain ⟨e1, _, _, _, _⟩ := I.pin (e, oe) (List.mem_append_left _ hp)
  refine PySem.W.kia_one (kitx_exc F) I.kIn ⟨oe, vs, e1, hc, hd⟩ hk ?_ fun tk => ⟨.bl b, H, I.tok _, rfl, q⟩
  intro z
  first
    | (cases z; done)
    | (obtain ⟨cd, hcd⟩ := Option.isSome_iff_exists.mp (hcl _ z); unfold PySem.W.clsIn at hcd; cases hcd)
def tCallV (P : Program) (w : World) (K : PySem.W.Frag) (mg : Str → Option Value) (base : Heap) (A : Around) (i : Nat) (t : TA) : TX := fun σ H Q E => ∃ (f : Addr) (fd : FuncData) (ps : List Str) (sp : Sp) (k : Nat), σ[i]? = some (some (.ref f)) ∧ FnOk P w K mg base (CXE P w) k f fd ps sp ∧ Room k A ∧
  PySem.W.keepIn K (.ref f) = true ∧ Binds K fd ps [] ∧ t σ H fun vs H1 => sp vs H1 Q E
section
variable {X : Cx}
theorem px_callV {i : Nat} {x : Str} {p pos : Pos} {e : Expr} {es : List Expr} {t : TA} (ha : PA X.nox (e :: es) t) (hN : X.N[i]? = some x := by rfl) (hv : Vis X.env.scope x := by first | exact Or.inl rfl | exact Or.inr (Or.inl rfl) | exact Or.inr (Or.inr rfl)) (hd : (x == ("__debug__" : Str)) = false := by decide)
    (hcd : (x == ("__classdict__" : Str)) = false := by decide) (he : starEach (e :: es) X.env = (false, eval e X.env) :: starEach es X.env := by rfl) (hpl : (backTo pos (starEach es X.env)).any (·.1) = false := by rfl) :
    PX X (.Call (.Name x p) (e :: es) [] pos) (tCallV X.prog X.w X.K X.mg X.base X.A i t) := by
  intro pins s σ H Q E I h
  obtain ⟨f, fd, ps, sp, k, hi, F, hr, hk, hb, h⟩ := h
  refine wpAny_Call_Name_kw (wpAny_mono ((pe_var (X := X.nox) (pos := p) hN hv hd hcd) pins s σ H (fun v H1 => v = .ref f ∧ H1 = H) (I.wish _) ⟨_, hi, rfl, rfl⟩) (fun u s1 ⟨v, H1, I1, r1, ev, eH⟩ => ?_) fun _ _ z => False.elim z)
  subst ev eH
  obtain rfl : u = Value.ref f := r1
  refine PySem.W.callWith_K (h₀ := X.base) I.ok.mod.kin hk (wpAny_mono (ha pos pins s1 σ H1 _ I1 h) (fun us s2 ⟨vs, H2, I2, r, q⟩ => ⟨I2.kIn, ?_⟩) fun _ _ z => False.elim z) he hpl
  have I3 : Inv X pins σ H2 s2 := I2.unwish
  have hl : us.length = ps.length := by rw [← r.length]; exact F.len _ _ _ _ q
  have hbd : BindsTo s2 fd ⟨us, []⟩ (ps.zip us) := by
    have := hb s2 us I3.kIn (by rw [List.append_nil]; exact hl)
    rwa [List.append_nil] at this
  refine wpAny_call (codeAny_mono (F.run X.A X.stack s2 H2 ⟨us, []⟩ us vs Q E hr I3.env0 hbd r q) fun r s' hq => ?_)
  cases r with
  | error e => exact ⟨H2, s2, I3, hq⟩
  | ok fl =>
    cases fl with
    | ret u => exact I3.after hq
    | next => exact False.elim hq
    | brk => exact False.elim hq
    | cont => exact False.elim hq
structure DfX (P : Program) (w : World) (K : PySem.W.Frag) (mg : Str → Option Value) (base : Heap) (k : Nat) (x : Str) (ps : List Str) (sp : Sp) : Prop where
  ex : ∃ f fd, FnOk P w K mg base (CXE P w) k f fd ps sp ∧ mg x = some (.ref f) ∧ PySem.W.keepIn K (.ref f) = true ∧ Binds K fd ps []
theorem DfX.calm {P : Program} {w : World} {K : PySem.W.Frag} {mg : Str → Option Value} {base : Heap} {k : Nat} {x : Str} {ps : List Str} {sp : Sp} (G : DfX P w K mg base k x ps sp) : Df P w K mg base k x ps (fun vs H Q _ => sp vs H Q E0) := by
  obtain ⟨f, fd, F, h⟩ := G.ex
  exact ⟨f, fd, F.calm, h⟩
theorem Df.imp {P : Program} {w : World} {K : PySem.W.Frag} {mg : Str → Option Value} {base : Heap} {k : Nat} {x : Str} {ps : List Str} {sp sp' : Sp} (G : Df P w K mg base k x ps sp) (h : ∀ vs H Q E, sp' vs H Q E → sp vs H Q E) : Df P w K mg base k x ps sp' := by
  obtain ⟨f, fd, F, q⟩ := G.ex
  exact ⟨f, fd, F.imp h, q⟩
def tDfX (sp : Sp) (E : XK) (t : TA) : TE := fun σ H Q => t σ H fun vs H1 => sp vs H1 Q E
theorem pe_dfX {E : XK} {k : Nat} {x : Str} {ps : List Str} {sp : Sp} {p pos : Pos} {e : Expr} {es : List Expr} {t : TA} (hx : Passes (CXE X.prog X.w) X E) (G : DfX X.prog X.w X.K X.mg X.base k x ps sp) (hr : Room k X.A) (ha : PA X (e :: es) t) (hg : Gl X x := by rfl) (hdb : (x == ("__debug__" : Str)) = false := by decide)
    (he : starEach (e :: es) X.env = (false, eval e X.env) :: starEach es X.env := by rfl) (hpl : (backTo pos (starEach es X.env)).any (·.1) = false := by rfl) : PE X (.Call (.Name x p) (e :: es) [] pos) (tDfX sp E t) := by
  obtain ⟨f, fd, F, hm, hk, hb⟩ := G.ex
  intro pins s σ H Q I h
  have q := pe_call (p := p) (pos := pos) F hr hg hm hk hb .nil hx ha hdb he hpl
  refine q pins s σ H Q I ?_
  have e1 : tCall sp [] E t = tDfX sp E t := by
    funext σ H Q
    show t σ H (fun vs H1 => sp (vs ++ []) H1 Q E) = t σ H fun vs H1 => sp vs H1 Q E
    congr 1
    funext vs H1
    rw [List.append_nil]
  rw [e1]
  exact h
end
section
variable {P : Program} {w : World} {K : PySem.W.Frag} {mg : Str → Option Value} {base : Heap}
/-- THE RULE for a def that may raise -/
theorem Fun.okX {x qual : Str} {st : Stmt} {f : Addr} {fd : FuncData} {N ps : List Str} {k : Nat} {sp : Sp} (F : Fun K x qual st f fd) (S : FnScope N ps (defScope st)) (len : ∀ vs H Q E, sp vs H Q E → vs.length = ps.length)
    (hbody : ∀ (cdv : Value) (A : Around) (outer : List Env) (s : Shared) (H : Hp) (vs : List V) (Q : VK) (E : XK), Room k (A.deeper (envOfC qual (defScope st) s.heap.objs.size f cdv)) → sp vs H Q E →
      Leaves (cxOf (CXE P w) P w K mg base N qual (defScope st) f cdv A outer s H E) E → Passes (CXE P w) (cxOf (CXE P w) P w K mg base N qual (defScope st) f cdv A outer s H E) E →
      ∃ t, PSs (cxOf (CXE P w) P w K mg base N qual (defScope st) f cdv A outer s H E) (defBody st) t ∧ t { nx := fun _ H' => Q .non H', rt := Q } (start N vs) H) : FnOk P w K mg base (CXE P w) (k + 1) f fd ps sp := by
  obtain ⟨oc, od, kV, doc, pm, an, cdv, ct, osl, rfl, lk, hcd⟩ := F.ex
  exact fn_of lk hcd S len fun A outer s H vs Q E hr hsp => hbody cdv A outer s H vs Q E hr hsp leaves_cx passes_cx
end
end L2
set_option Elab.async false
set_option linter.all false
set_option maxRecDepth 100000
set_option maxHeartbeats 1000000
namespace L2
open PySem PySem.Spec PyProof.Rows
/-- the exception at a is being handled, and has no context of its own -/
structure Hand (A : Around) (a : Addr) (h : Heap) : Prop where
  hd : A.handled = some (.ref a)
  ob : ∃ oe vs, h.get? a = some oe ∧ oe.data = .fields vs ∧ vs[2]? = some .none
theorem entry_unchain : entryFor table "proto.unchain" = some Builtin.«proto.unchain» := entryFor_of_fast (by kernel_rfl)
section
variable {prog : Program} {w : World} {A : Around} {E : Value → Shared → Prop} {s : Shared}
theorem raiseNew_hand {α : Type} {a e : Addr} {o : Obj} {ws : Array Value} {Q : α → Shared → Prop} (X : Hand A a s.heap) (hne : a ≠ e) (ho : s.heap.get? e = some o) (hd : o.data = .fields ws) (h2 : 2 < ws.size)
    (h : ∀ h' o', h'.get? e = some o' → o'.cls = o.cls → (∀ b u, b ≠ e → s.heap.get? b = some u → h'.get? b = some u) → E (.ref e) { s with heap := h' }) : wpAny (model prog w) A (raiseNew (.ref e) : Sem α) Q E s := by
  obtain ⟨oe, vs, g1, g2, g3⟩ := X.ob
  unfold raiseNew
  refine wpAny_bind (wpAny_handled ?_)
  rw [X.hd]
  have nb : (Value.ref a != Value.ref e) = true := by
    rw [bne_iff_ne]
    intro z
    exact hne (Value.ref.inj z)
  show wpAny _ _ (if (Value.ref a != Value.ref e) = true then _ else _) _ _ s
  rw [if_pos nb]
  refine wpAny_bind (wpAny_holding (wpAny_runValue (codeAny_builtin entry_unchain ?_)))
  unfold Builtin.«proto.unchain»
  refine wpAny_bind (wpAny_field g1 g2 g3 ?_)
  rw [if_pos (by rfl)]
  refine wpAny_bind (wpAny_pure ?_)
  refine wpAny_pure ?_
  show wpAny _ _ _ _ _ s
  obtain ⟨o', k1, k2, k3⟩ := upd_field (i := 2) (v := Value.ref a) ho hd
  show wpAny _ _ ((setField (.ref e) 2 (.ref a)) >>= fun _ => throw (.ref e)) _ _ s
  refine wpAny_bind (wpAny_setField ho hd h2 ?_)
  exact wpAny_throw (h _ o' k1 k2 fun b u hb q => (Heap.get?_update_other _ _ (Ne.symm hb)).trans q)
theorem next_end_hand {it l a : Addr} {i : Nat} {items : Array Value} {Q : Option Value → Shared → Prop} (X : Hand A a s.heap) (hai : a ≠ it) (hit : s.heap.IsListIter it l i) (hl : s.heap.IsList l items) (hx : items[i]? = none)
    (hQ : ∀ h', (∀ b u, b ≠ it → s.heap.get? b = some u → h'.get? b = some u) → Q none { s with heap := h' }) : wpAny (model prog w) A (pyNext (.ref it)) Q E s := by
  obtain ⟨oi, gi, _, di⟩ := id hit
  obtain ⟨ol, gl, _, nl, dl⟩ := hl
  unfold pyNext
  refine wpAny_bind (wpAny_attempt (wpAny_callSpecial?_slot (name := Str.ofString "__next__") hit.typeIs slot_listiter_next (wpAny_call_entry slot_listiter_next hit.typeIs entry_listiter_next ?_ (args_listiter_next _))))
  show wpAny _ _ (field (.ref it) 0 >>= _) _ _ s
  refine wpAny_bind (wpAny_field gi di (x := .ref l) rfl ?_)
  show wpAny _ _ (if (Value.ref l == Value.none) = true then _ else _) _ _ s
  rw [if_neg (show ¬ ((Value.ref l == Value.none) = true) from Bool.false_ne_true)]
  show wpAny _ _ (field (.ref it) 1 >>= _) _ _ s
  refine wpAny_bind (wpAny_field gi di (x := .int i 0) rfl ?_)
  show wpAny _ _ (seqItems? (.ref l) >>= _) _ _ s
  refine wpAny_bind (wpAny_seqItems gl dl ?_)
  simp only [Int.toNat_natCast, hx]
  refine wpAny_bind (wpAny_rule (wpAny_bind (wpAny_setField gi di (by simp) ?_)))
  have keep1 : ∀ b u, b ≠ it → s.heap.get? b = some u → (s.heap.update it (Obj.mapFields (·.setIfInBounds 0 Value.none))).get? b = some u := fun b u hb q => (Heap.get?_update_other _ _ (Ne.symm hb)).trans q
  show wpAny _ _ (newExc (.type "StopIteration") [] >>= _) _ _ _
  refine wpAny_bind ?_
  simp only [newExc, newTuple]
  refine wpAny_bind (wpAny_newObj_type ?_ (by size_fits))
  refine wpAny_bind (m := firstArgMember _ _) (wpAny_of_eq (a := Value.none) (by first | rfl | (simp only [firstArgMember]; rfl)) ?_)
  refine wpAny_newObj_type ?_ (by size_fits)
  obtain ⟨oe, vs, g1, g2, g3⟩ := X.ob
  have ga := Heap.get?_push_of_some { cls := Value.type "tuple", data := .seq #[] } (keep1 a oe hai g1)
  refine raiseNew_hand (a := a) ⟨X.hd, ⟨oe, vs, Heap.get?_push_of_some _ ga, g2, g3⟩⟩ (Nat.ne_of_lt (Heap.lt_size ga)) (Heap.get?_push_size _ rfl) rfl (by rw [Array.size_append]; simp; omega) fun h' o' k1 k2 k3 => ?_
  refine wpAny_bind (wpAny_isInstance (T := "StopIteration") (b := true) ⟨o', k1, k2⟩ isSubtype_stop ?_)
  refine wpAny_pure (hQ _ fun b u hb q => ?_)
  have q1 := Heap.get?_push_of_some { cls := Value.type "tuple", data := .seq #[] } (keep1 b u hb q)
  exact k3 b u (Nat.ne_of_lt (Heap.lt_size q1)) (Heap.get?_push_of_some _ q1)
theorem walks_hand {a I ax : Addr} (hne : ax ≠ I) (hai : a ≠ I) (hd : A.handled = some (.ref a)) (items : Array Value) :
    PySem.Walks prog w A I [I, ax, a] [I] items.size (fun i v => items[i]? = some v) (fun i h => h.IsListIter I ax i ∧ h.IsList ax items ∧ Hand A a h) where
  sub := fun b hb => by rw [List.mem_singleton.mp hb]; exact List.mem_cons_self
  frame := fun i h h' q k => ⟨q.1.at (k I (by simp)), q.2.1.at (k ax (by simp)), ⟨hd, let ⟨oe, vs, g1, g2⟩ := q.2.2.ob; ⟨oe, vs, k a (by simp) _ g1, g2⟩⟩⟩
  item := fun i s Q E hi q hQ => by
    have hg : items[i]? = some items[i] := Array.getElem?_eq_getElem hi
    refine wpAny_pyNext_list_item q.1 q.2.1 hg fun h' q' sb => ?_
    have kp : ∀ b o, b ∉ [I] → s.heap.get? b = some o → h'.get? b = some o := fun b o hb e => sb.extBut b o (fun z => hb (List.mem_singleton.mpr z)) e
    obtain ⟨oe, vs, g1, g2⟩ := q.2.2.ob
    exact hQ _ h' s.toks hg ⟨q', q.2.1.extBut sb.extBut hne, ⟨hd, oe, vs, kp a oe (fun z => hai (List.mem_singleton.mp z)) g1, g2⟩⟩ kp
  done := fun s Q E q hQ => next_end_hand q.2.2 hai q.1 q.2.1 (by simp) fun h' k => hQ h' s.toks fun b o hb e => k b o (fun z => hb (List.mem_singleton.mpr z)) e
  self := fun _ _ _ _ q hQ => wpAny_pyIter_listiter q.1 hQ
end
/-- what an except suite's context has: the caught exception, pinned, without a context -/
structure InSuite (X : Cx) (a : Addr) : Prop where
  hd : X.A.handled = some (.ref a)
  ob : ∃ oe vs, (a, oe) ∈ X.pn ∧ oe.data = .fields vs ∧ vs[2]? = some .none
section
variable {X : Cx} {a : Addr}
theorem inSuite_of {X : Cx} {e : Addr} {oe : Obj} {vs : Array Value} (h1 : oe.data = .fields vs) (h2 : vs[2]? = some .none) : InSuite (X.inSuite e oe) e := ⟨rfl, oe, vs, List.mem_cons_self, h1, h2⟩
theorem InSuite.hand (S : InSuite X a) {pins : List (Addr × Obj)} {σ : St} {H : Hp} {s : Shared} (I : Inv X pins σ H s) : Hand X.A a s.heap ∧ ∃ o, s.heap.get? a = some o := by
  obtain ⟨oe, vs, hp, h1, h2⟩ := S.ob
  obtain ⟨e1, _⟩ := I.pin (a, oe) (List.mem_append_left _ hp)
  exact ⟨⟨S.hd, oe, vs, e1, h1, h2⟩, oe, e1⟩
theorem cr_anyS (S : InSuite X a) : CallR X (.builtin "any") (rAny X.K) := by
  intro pins s σ H vs us Q I r h
  obtain ⟨l, bs, rfl, hs, q⟩ := h
  obtain ⟨its, rv, hl, _⟩ := I.list hs
  rw [Vals.ref1 r]
  have hb := rv.bls
  obtain ⟨hand, oa, ha⟩ := S.hand I
  refine call_any_walk (iter_any hl.isList fun s₂ e2 st hne => ?_)
  subst e2
  have hai : a ≠ s.heap.objs.size := Nat.ne_of_lt (Heap.lt_size ha)
  obtain ⟨oe, ws, g1, g2⟩ := hand.ob
  refine ⟨_, _, _, _, _, _, _, rfl, walks_hand (A := X.A.in1) (a := a) hne hai S.hd its.toArray, ⟨st.1, st.2, ⟨S.hd, oe, ws, Heap.get?_push_of_some _ g1, g2⟩⟩, truth_bools hb, fun h' tk hk => ?_⟩
  refine ⟨.bl _, H, I.kept fun b o eo => hk b o (fun hmem => ?_) (Heap.get?_push_of_some _ eo), ?_, q⟩
  · exact absurd (List.mem_singleton.mp hmem ▸ Heap.lt_size eo) (Nat.lt_irrefl _)
  · show Value.bool _ = Value.bool _
    rw [← any_range, hb, List.size_toArray, List.length_map]
end
end L2
set_option Elab.async false
set_option linter.all false
set_option maxRecDepth 100000
set_option maxHeartbeats 4000000
namespace Tip
open PySem PySem.Spec PyProof.Rows L2
structure ErrK (K : PySem.W.Frag) (mg : Str → Option Value) (x : Str) (C TE : Addr) : Prop where
  m : mg x = some (.ref C)
  i : PySem.W.excIn K C vBases "ValueError.__new__" = true
  k : ExcK K C
  c : Catches K C TE
section
variable {P : Program} {w : World} {K : PySem.W.Frag} {mg : Str → Option Value} {base : Heap}
theorem HasDef.dfX {x : Str} {st : Stmt} {ps : List Str} {k : Nat} {sp : Sp} (h : HasDef K mg x st ps) (ok : ∀ f fd, Fun K x x st f fd → FnOk P w K mg base (CXE P w) k f fd ps sp) : DfX P w K mg base k x ps sp := by
  obtain ⟨f, fd, F, hm, hb⟩ := h
  exact ⟨f, fd, ok f fd F, hm, F.kp, hb⟩
theorem HasDefL.dfX {x : Str} {st : Stmt} {ps : List Str} {k : Nat} {sp : Sp} {c0 : Addr} (h : HasDefL K mg x st ps c0) (ok : ∀ f fd, FunL K x st f fd c0 → FnOk P w K mg base (CXE P w) k f fd ps sp) : DfX P w K mg base k x ps sp := by
  obtain ⟨f, fd, F, hm, hb⟩ := h
  exact ⟨f, fd, ok f fd F, hm, F.kp, hb⟩
theorem FunL.okX {x : Str} {st : Stmt} {f c0 : Addr} {fd : FuncData} {N ps : List Str} {k : Nat} {sp : Sp} (F : FunL K x st f fd c0) (S : FnScope N ps (defScope st)) (len : ∀ vs H Q E, sp vs H Q E → vs.length = ps.length)
    (hbody : ∀ (A : Around) (outer : List Env) (s : Shared) (H : Hp) (vs : List V) (Q : VK) (E : XK), Room k (A.deeper (envOfC x (defScope st) s.heap.objs.size f (.ref c0))) → sp vs H Q E →
      Leaves (cxOf (CXE P w) P w K mg base N x (defScope st) f (.ref c0) A outer s H E) E → Passes (CXE P w) (cxOf (CXE P w) P w K mg base N x (defScope st) f (.ref c0) A outer s H E) E →
      ∃ t, PSs (cxOf (CXE P w) P w K mg base N x (defScope st) f (.ref c0) A outer s H E) (defBody st) t ∧ t { nx := fun _ H' => Q .non H', rt := Q } (start N vs) H) : FnOk P w K mg base (CXE P w) (k + 1) f fd ps sp := by
  obtain ⟨oc, od, kV, doc, pm, an, ct, osl, rfl, lk, hcd⟩ := F.ex
  exact fn_of lk hcd S len fun A outer s H vs Q E hr hsp => hbody A outer s H vs Q E hr hsp leaves_cx passes_cx
/-- how the places left are taken; none: it is stuck -/
inductive RunS (g : Nat → Int) : List Nat → Nat → Option (List (Int × Bool)) → Prop
  | nil {tt : Nat} : RunS g [] tt (some [])
  | low {x : Nat} {r : List Nat} {tt : Nat} {out : Option (List (Int × Bool))} : g x = (tt : Int) → RunS g r tt out → RunS g (x :: r) tt (out.map (((x : Int), false) :: ·))
  | high {x y : Nat} {r lf : List Nat} {tt : Nat} {out : Option (List (Int × Bool))} : lf[0]? = some x → lf = r ++ [y] → g x ≠ (tt : Int) → g y = (tt : Int) + lf.length - 1 → RunS g r (tt + 1) out → RunS g lf tt (out.map (((y : Int), true) :: ·))
  | stuck {x y : Nat} {lf : List Nat} {tt : Nat} : lf[0]? = some x → lf.getLast? = some y → g x ≠ (tt : Int) → g y ≠ (tt : Int) + lf.length - 1 → RunS g lf tt none
theorem runS_all (g : Nat → Int) : ∀ (k : Nat) (lf : List Nat) (tt : Nat), lf.length = k → ∃ o, RunS g lf tt o
  | 0, lf, tt, h => by
    have : lf = [] := List.length_eq_zero_iff.mp h
    subst this
    exact ⟨_, .nil⟩
  | k + 1, lf, tt, h => by
    match lf, h with
    | x :: r, h =>
      by_cases hx : g x = (tt : Int)
      · obtain ⟨o, ho⟩ := runS_all g k r tt (by simpa using h)
        exact ⟨_, .low hx ho⟩
      · obtain ⟨y, hy⟩ : ∃ y, (x :: r).getLast? = some y := ⟨_, List.getLast?_eq_some_getLast (by simp)⟩
        obtain ⟨r', er⟩ : ∃ r', x :: r = r' ++ [y] := List.getLast?_eq_some_iff.mp hy
        by_cases hg : g y = (tt : Int) + ((x :: r).length : Nat) - 1
        · obtain ⟨o, ho⟩ := runS_all g k r' (tt + 1) (by have := congrArg List.length er; simp at this h; omega)
          exact ⟨_, .high rfl er hx hg ho⟩
        · exact ⟨_, .stuck rfl hy hx hg⟩
theorem RunS.run {g : Nat → Int} {lf : List Nat} {tt : Nat} {o : Option (List (Int × Bool))} (h : RunS g lf tt o) : ∀ out, o = some out → Run g lf tt out := by
  induction h with
  | nil => intro out e; cases e; exact .nil
  | low hx _ ih =>
    intro out e
    obtain ⟨o', h1, h2⟩ := Option.map_eq_some_iff.mp e
    subst h2
    exact .low hx (ih _ h1)
  | high h0 hl hx hy _ ih =>
    intro out e
    obtain ⟨o', h1, h2⟩ := Option.map_eq_some_iff.mp e
    subst h2
    exact .high h0 hl hx hy (ih _ h1)
  | stuck => intro out e; cases e
/-- a new list of pairs -/
def NewRow (H H' : Hp) (p : Addr) (st : List (Int × Bool)) : Prop := H p = none ∧ ∃ rs : List Addr, H' p = some (.lst (rs.map V.ref)) ∧ Paired (StepAt H') rs st
theorem NewRow.at {K : PySem.W.Frag} {H H' : Hp} {p : Addr} {st : List (Int × Bool)} (h : NewRow H H' p st) : RowAt K H' p st := let ⟨_, rs, h1, h2⟩ := h; ⟨rs, SqL.of h1, h2⟩
def sp_rowX (K : PySem.W.Frag) (TR TF CN : Addr) : Sp := fun vs H Q E => ∃ (a : Addr) (ns : List Int), vs = [.ref a] ∧ Ints K H a ns ∧ ns.length ≤ 1000 ∧ Tabs TR TF H ∧
  (∀ out, KeySorted (fun k => ns.getD k 0) ns.length out → ∃ os res, out = os.map (fun k : Nat => (k : Int)) ∧ (∀ x ∈ os, x < ns.length) ∧ os.length = ns.length ∧ RunS (fun k => ns.getD k 0) os 0 res ∧
    (∀ rs, res = some rs → ∀ H' p, Sm H H' → Tabs TR TF H' → NewRow H H' p rs.reverse → Q (.ref p) H') ∧ (res = none → ∀ H', Sm H H' → Tabs TR TF H' → E (.ref CN) none H'))
theorem dx_row_by_counts {TR TF c0 CN TE : Addr} (T : Blt mg) (XNoTip : ErrK K mg "NoTip" CN TE) (h : HasDefL K mg "row_by_counts" s_row_by_counts ["counts"] c0) (hcd : PySem.W.CodeHd base c0 TR) (hbm : BmOk mg base) : DfX P w K mg base 4 "row_by_counts" ["counts"] (sp_rowX K TR TF CN) := by
  refine h.dfX fun f fd F => ?_
  refine F.okX sc_row_by_counts (fun vs H Q E h => ?_) (fun A outer s H vs Q E hr h hlv hps => ?_)
  · obtain ⟨a, ns, rfl, _⟩ := h; rfl
  have nd := sc_row_by_counts.nd
  obtain ⟨a, ns, rfl, hs, hl, tb, q⟩ := h
  refine ⟨_, (pss_cons (ps_set (i := 1) nd rfl (by first | exact Or.inl rfl | exact Or.inr rfl) (pe_sortKey (k := 0) (i := 0) (hr.mono (by decide)) rfl rfl T.sorted ⟨rfl, hcd, rfl, rfl, rfl, rfl, hbm⟩ (pe_callTy call_rng rfl T.range (by decide +kernel) (pa_cons (pe_callB call_len_seq rfl T.len PySem.boot_len (pa_cons (pv 0) pa_nil)) pa_nil)))) (pss_cons (ps_set (i := 2) nd rfl (by first | exact Or.inl rfl | exact Or.inr rfl) (pe_lst pa_nil)) (pss_cons (ps_set (i := 3) nd rfl (by first | exact Or.inl rfl | exact Or.inr rfl) pe_int) (pss_cons (ps_while own_cx (pt_truth (pv 1) (by intro _; rfl)) (pss_one (ps_if (pt_cmpR op_eq (pe_ix ix_list (pv 0) (pe_ix ix_list (pv 1) pe_int (fun _ _ => rfl)) (fun _ _ => rfl)) (pv 3) (nomark _)) (pss_one (ps_expr (pe_bm PySem.F.plainAttrs_list PySem.F.slot_list_append PySem.F.type_list_append mt_append (pv 2) (pa_cons (pe_tup (pa_cons (pe_bm PySem.F.plainAttrs_list PySem.F.slot_list_pop PySem.F.type_list_pop mt_popAt (pv 1) (pa_cons pe_int pa_nil)) (pa_cons pe_bl pa_nil))) pa_nil)))) (pss_one (ps_if (pt_cmpR op_eq (pe_ix ix_list (pv 0) (pe_ix ix_list (pv 1) (pe_un un_neg pe_int) (fun _ _ => rfl)) (fun _ _ => rfl)) (pe_op op_sub (pe_op op_add (pv 3) (pe_callB call_len_seq rfl T.len PySem.boot_len (pa_cons (pv 1) pa_nil))) pe_int) (nomark _)) (pss_cons (ps_expr (pe_bm PySem.F.plainAttrs_list PySem.F.slot_list_append PySem.F.type_list_append mt_append (pv 2) (pa_cons (pe_tup (pa_cons (pe_bm0 PySem.F.plainAttrs_list PySem.F.slot_list_pop PySem.F.type_list_pop mt_pop (pv 1)) (pa_cons pe_bl pa_nil))) pa_nil))) (pss_one (ps_aug (i := 3) nd rfl (by first | exact Or.inl rfl | exact Or.inr rfl) pe_int ip_add))) (pss_one (ps_raise hlv rfl rfl XNoTip.m XNoTip.i pe_str))))))) (pss_one (ps_ret (pe_rev (pv 2)))))))), ?_⟩
  refine ⟨_, rfl, a, _, rfl, .inl hs, ?_⟩
  rw [List.length_map]
  refine ⟨0, ns.length, .inl ⟨rfl, rfl⟩, fun r hr2 => ?_⟩
  have s3 := same_new' hr2 (.rng 0 ns.length)
  have tb3 : Tabs TR TF _ := tb.same s3
  refine ⟨r, a, ns, rfl, upd_same, rfl, s3.seq hs, by omega, tb3.r, fun H4 D os st hD hks => ?_⟩
  obtain ⟨xs, res, rfl, hlt, hxl, hrun, qQ, qE⟩ := q _ hks
  rw [nat_map]
  have sm4 : Sm H H4 := (Sm.of s3).trans (SameT.sm st tb3.r)
  have tb4 : Tabs TR TF H4 := tb3.stepR st
  have s5 := same_new' hD (.lst (natV xs))
  refine ⟨(by show 0 ≤ sizeLine; decide), fun B hB => ?_⟩
  have s6 := same_new' hB (.lst [])
  have hDB : D ≠ B := ne_of_none upd_same hB
  refine ⟨fun m σ H' => ∃ (lf : List Nat) (tt : Nat) (bh : List (Int × Bool)) (rest : Option (List (Int × Bool))) (rs : List Addr), m = lf.length ∧ (∀ x ∈ lf, x < ns.length) ∧ bh.length + lf.length = ns.length ∧ σ = [some (.ref a), some (.ref D), some (.ref B), some (.int (tt : Int))] ∧ (∀ b o, H4 b = some o → H' b = some o) ∧ H' D = some (.lst (natV lf)) ∧ H' B = some (.lst (rs.map V.ref)) ∧ Paired (StepAt H') rs bh ∧ res = rest.map (bh ++ ·) ∧ RunS (fun k => ns.getD k 0) lf tt rest,
    ⟨_, xs, 0, [], res, [], rfl, hlt, by simpa using hxl, rfl, s5.trans s6, s6 _ _ upd_same, upd_same, .nil, (by cases res <;> rfl), hrun⟩, ?_⟩
  rintro m σ H7 ⟨lf, tt, bh, rest, rs, rfl, hlt7, hlen7, rfl, s47, hD7, hB7, hp7, hres, hrun7⟩
  have hs7 : Ints K H7 a ns := Sm.seq (sm4.trans (Sm.of s47)) hs
  have hrl : rs.length = bh.length := hp7.length
  have step : ∀ (x : Int) (t : Bool) (lf' : List Nat) (p : Addr), upd H7 D (.lst (natV lf')) p = none → (∀ b o, H4 b = some o → upd (upd (upd H7 D (.lst (natV lf'))) p (.tup [.int x, .bl t])) B (.lst (rs.map V.ref ++ [.ref p])) b = some o) ∧
      upd (upd (upd H7 D (.lst (natV lf'))) p (.tup [.int x, .bl t])) B (.lst (rs.map V.ref ++ [.ref p])) D = some (.lst (natV lf')) ∧
      upd (upd (upd H7 D (.lst (natV lf'))) p (.tup [.int x, .bl t])) B (.lst (rs.map V.ref ++ [.ref p])) B = some (.lst ((rs ++ [p]).map V.ref)) ∧
      Paired (StepAt (upd (upd (upd H7 D (.lst (natV lf'))) p (.tup [.int x, .bl t])) B (.lst (rs.map V.ref ++ [.ref p])))) (rs ++ [p]) (bh ++ [(x, t)]) := fun x t lf' p hp => by
    have pD : p ≠ D := fun z => by rw [z, upd_same] at hp; cases hp
    have hp' : H7 p = none := by rw [upd_ne pD] at hp; exact hp
    have pB : p ≠ B := fun z => by rw [z, hB7] at hp'; cases hp'
    refine ⟨fun b o e => ?_, ?_, ?_, ?_⟩
    · have h1 : b ≠ D := ne_of_none e hD
      have h2 : b ≠ B := ne_of_none (s5 _ _ e) hB
      have h3 : b ≠ p := ne_of_none (s47 _ _ e) hp'
      rw [upd_ne h2, upd_ne h3, upd_ne h1]
      exact s47 _ _ e
    · rw [upd_ne hDB, upd_ne (Ne.symm pD), upd_same]
    · rw [upd_same, List.map_append]; rfl
    · refine Paired.snoc (Paired.mapP hp7 fun r0 s0 h0 => ?_) ?_
      · have h0' : H7 r0 = some (.tup [.int s0.1, .bl s0.2]) := h0
        have h1 : r0 ≠ D := fun z => by rw [z, hD7] at h0'; cases h0'
        have h2 : r0 ≠ B := fun z => by rw [z, hB7] at h0'; cases h0'
        have h3 : r0 ≠ p := ne_of_none h0' hp'
        show _ = _
        rw [upd_ne h2, upd_ne h3, upd_ne h1]
        exact h0'
      · show _ = _
        rw [upd_ne pB, upd_same]
  refine ⟨_, rfl, _, .inl ⟨_, SqL.of hD7, rfl⟩, ?_⟩
  cases hrun7 with
  | nil =>
    refine iteF ?_
    have hres : res = some bh := by rw [hres]; simp
    subst hres
    refine ⟨_, rfl, B, _, rfl, SqL.of hB7, fun p hp => ?_⟩
    have s8 := same_new' hp (.lst (rs.map V.ref).reverse)
    refine qQ _ rfl _ p (sm4.trans (Sm.of (Same.trans s47 s8))) (tb4.same (Same.trans s47 s8)) ⟨(sm4.trans (Sm.of s47)).free _ hp, rs.reverse, (by rw [upd_same, List.map_reverse]), Paired.reverse (Paired.mapP hp7 fun r0 s0 h0 => s8 _ _ h0)⟩
  | @low x r _ out hx hr' =>
    refine iteT ?_
    refine ⟨fun σ H' => ∃ (lf : List Nat) (tt : Nat) (bh : List (Int × Bool)) (rest : Option (List (Int × Bool))) (rs : List Addr), lf.length < (x :: r).length ∧ (∀ x ∈ lf, x < ns.length) ∧ bh.length + lf.length = ns.length ∧ σ = [some (.ref a), some (.ref D), some (.ref B), some (.int (tt : Int))] ∧ (∀ b o, H4 b = some o → H' b = some o) ∧ H' D = some (.lst (natV lf)) ∧ H' B = some (.lst (rs.map V.ref)) ∧ Paired (StepAt H') rs bh ∧ res = rest.map (bh ++ ·) ∧ RunS (fun k => ns.getD k 0) lf tt rest,
      fun σ' H' ⟨lf, tt, bh, rest, rs, h1, h2⟩ => ⟨_, h1, lf, tt, bh, rest, rs, rfl, h2⟩, ?_⟩
    refine ⟨_, rfl, _, rfl, D, _, 0, .int (x : Int), rfl, rfl, SqL.of hD7, at_of (j := 0) rfl rfl, a, _, (x : Int), _, rfl, rfl, hs7, atI_int (hlt7 x (by simp)), ?_⟩
    refine ⟨_, rfl, rfl, _, rfl, ?_⟩
    rw [show decide (V.int (ns.getD x 0) = V.int (tt : Int)) = true by rw [decide_eq_true_iff]; exact congrArg V.int hx]
    refine iteT ?_
    refine ⟨_, rfl, .inl ⟨rfl, _, SqL.of hB7⟩, ?_⟩
    refine ⟨_, rfl, .inl ⟨rfl, _, SqL.of hD7⟩, D, _, 0, 0, .int (x : Int), rfl, rfl, hD7, by decide, by decide, (ixN_seq (by unfold ixN; rw [if_pos (by decide), if_pos (by rw [natV_len]; simp)]; rfl)).1, rfl, ?_⟩
    refine ⟨(by show 2 ≤ sizeLine; decide), fun p hp => ?_⟩
    obtain ⟨k1, k2, k3, k4⟩ := step x false r p hp
    have pB : B ≠ D := Ne.symm hDB
    have hBp : B ≠ p := fun z => by rw [← z, upd_ne pB, hB7] at hp; cases hp
    refine ⟨B, _, _, rfl, rfl, by rw [upd_ne hBp]; exact (upd_ne pB).trans hB7, by rw [List.length_map, sizeLine_eq]; omega, ?_⟩
    refine ⟨r, tt, bh ++ [((x : Int), false)], out, rs ++ [p], by simp, fun y hy => hlt7 y (by simp [hy]), by simp at hlen7 ⊢; omega, rfl, k1, k2, k3, k4, by rw [hres]; cases out <;> simp, hr'⟩
  | @high x y r _ _ out h0 he hx hy hr' =>
    subst he
    have ht0 : (!(natV (r ++ [y])).isEmpty) = true := by rw [natV_app]; simp [natV]
    rw [ht0]
    refine iteT ?_
    refine ⟨fun σ H' => ∃ (lf : List Nat) (tt : Nat) (bh : List (Int × Bool)) (rest : Option (List (Int × Bool))) (rs : List Addr), lf.length < (r ++ [y]).length ∧ (∀ x ∈ lf, x < ns.length) ∧ bh.length + lf.length = ns.length ∧ σ = [some (.ref a), some (.ref D), some (.ref B), some (.int (tt : Int))] ∧ (∀ b o, H4 b = some o → H' b = some o) ∧ H' D = some (.lst (natV lf)) ∧ H' B = some (.lst (rs.map V.ref)) ∧ Paired (StepAt H') rs bh ∧ res = rest.map (bh ++ ·) ∧ RunS (fun k => ns.getD k 0) lf tt rest,
      fun σ' H' ⟨lf, tt, bh, rest, rs, h1, h2⟩ => ⟨_, h1, lf, tt, bh, rest, rs, rfl, h2⟩, ?_⟩
    refine ⟨_, rfl, _, rfl, D, _, 0, .int (x : Int), rfl, rfl, SqL.of hD7, at_of (j := 0) rfl (by rw [natV_at, h0]; rfl), a, _, (x : Int), _, rfl, rfl, hs7, atI_int (hlt7 x (List.mem_of_getElem? h0)), ?_⟩
    refine ⟨_, rfl, rfl, _, rfl, ?_⟩
    rw [show decide (V.int (ns.getD x 0) = V.int (tt : Int)) = false by rw [decide_eq_false_iff_not]; exact fun z => hx (V.int.inj z)]
    refine iteF ?_
    refine ⟨_, rfl, _, rfl, 1, rfl, D, _, -1, .int (y : Int), rfl, rfl, SqL.of hD7, by rw [natV_app]; exact atI_last _ _, a, _, (y : Int), _, rfl, rfl, hs7, atI_int (hlt7 y (by simp)), ?_⟩
    refine ⟨_, rfl, _, rfl, D, _, rfl, .inl (SqL.of hD7), _, _, rfl, rfl, _, _, rfl, rfl, rfl, _, rfl, ?_⟩
    rw [natV_len, show decide (V.int (ns.getD y 0) = V.int ((tt : Int) + ((r ++ [y]).length : Nat) - 1)) = true by rw [decide_eq_true_iff]; exact congrArg V.int hy]
    refine iteT ?_
    refine ⟨_, rfl, .inl ⟨rfl, _, SqL.of hB7⟩, ?_⟩
    refine ⟨_, rfl, .inl ⟨rfl, _, SqL.of hD7⟩, D, _, .int (y : Int), rfl, rfl, hD7, by rw [natV_len, natV_at]; simp, ?_⟩
    have edl : (natV (r ++ [y])).dropLast = natV r := by rw [natV_app]; exact List.dropLast_concat
    rw [edl]
    refine ⟨(by show 2 ≤ sizeLine; decide), fun p hp => ?_⟩
    obtain ⟨k1, k2, k3, k4⟩ := step y true r p hp
    have pB : B ≠ D := Ne.symm hDB
    have hBp : B ≠ p := fun z => by rw [← z, upd_ne pB, hB7] at hp; cases hp
    refine ⟨B, _, _, rfl, rfl, by rw [upd_ne hBp]; exact (upd_ne pB).trans hB7, by rw [List.length_map, sizeLine_eq]; omega, ?_⟩
    refine ⟨_, rfl, _, _, rfl, rfl, ?_⟩
    refine ⟨r, tt + 1, bh ++ [((y : Int), true)], out, rs ++ [p], by simp, fun z hz => hlt7 z (by simp [hz]), by simp at hlen7 ⊢; omega, rfl, k1, k2, k3, k4, by rw [hres]; cases out <;> simp, hr'⟩
  | @stuck x y _ _ h0 hl hx hy =>
    have hne : lf ≠ [] := fun z => by rw [z] at h0; simp at h0
    have ht0 : (!(natV lf).isEmpty) = true := by
      cases lf with
      | nil => exact absurd rfl hne
      | cons => rfl
    rw [ht0]
    refine iteT ?_
    refine ⟨fun _ _ => False, fun σ' H' z => z.elim, ?_⟩
    refine ⟨_, rfl, _, rfl, D, _, 0, .int (x : Int), rfl, rfl, SqL.of hD7, at_of (j := 0) rfl (by rw [natV_at, h0]; rfl), a, _, (x : Int), _, rfl, rfl, hs7, atI_int (hlt7 x (List.mem_of_getElem? h0)), ?_⟩
    refine ⟨_, rfl, rfl, _, rfl, ?_⟩
    rw [show decide (V.int (ns.getD x 0) = V.int (tt : Int)) = false by rw [decide_eq_false_iff_not]; exact fun z => hx (V.int.inj z)]
    refine iteF ?_
    obtain ⟨r, er⟩ : ∃ r, lf = r ++ [y] := by
      rw [List.getLast?_eq_some_iff] at hl
      exact hl
    subst er
    refine ⟨_, rfl, _, rfl, 1, rfl, D, _, -1, .int (y : Int), rfl, rfl, SqL.of hD7, by rw [natV_app]; exact atI_last _ _, a, _, (y : Int), _, rfl, rfl, hs7, atI_int (hlt7 y (by simp)), ?_⟩
    refine ⟨_, rfl, _, rfl, D, _, rfl, .inl (SqL.of hD7), _, _, rfl, rfl, _, _, rfl, rfl, rfl, _, rfl, ?_⟩
    rw [natV_len, show decide (V.int (ns.getD y 0) = V.int ((tt : Int) + ((r ++ [y]).length : Nat) - 1)) = false by rw [decide_eq_false_iff_not]; exact fun z => hy (V.int.inj z)]
    refine iteF ?_
    exact qE (by rw [hres]; rfl) _ (sm4.trans (Sm.of s47)) (tb4.same s47)
end
end Tip
set_option Elab.async false
set_option linter.all false
set_option maxRecDepth 100000
namespace Tip
open PySem PySem.Spec PyProof.Rows L2
structure LeftC (n : Nat) (ts : List (Int × Int)) (lf : List Nat) (tt : Nat) : Prop where
  nd : lf.Nodup
  lt : ∀ x ∈ lf, x < n
  cnt : ∀ x ∈ lf, deg ts (x : Int) = tt + lf.countP fun y => adj ts y x
theorem run_row {n : Nat} {ts : List (Int × Int)} {g : Nat → Int} (ok : WebOk n ts) (hg : ∀ x, x < n → g x = (deg ts (x : Int) : Int)) {lf : List Nat} {tt : Nat} {out : List (Int × Bool)} (h : Run g lf tt out) : LeftC n ts lf tt → RowR ts lf out := by
  induction h with
  | nil => intro _; exact ⟨.nil, .nil⟩
  | @low x r tt out hx hr ih =>
    intro L
    have hxn := L.lt x (by simp)
    have hd : deg ts (x : Int) = tt := by rw [hg x hxn] at hx; omega
    have h0 : (x :: r).countP (fun y => adj ts y x) = 0 := by have := L.cnt x (by simp); omega
    have hnot : ∀ y ∈ r, adj ts y x = false := fun y hy => countP_zero h0 (by simp [hy])
    have R := ih ⟨(List.nodup_cons.mp L.nd).2, fun y hy => L.lt y (by simp [hy]), fun y hy => by
      have := L.cnt y (by simp [hy])
      rw [List.countP_cons, if_neg (by rw [adj_comm, hnot y hy]; exact Bool.false_ne_true)] at this
      exact this⟩
    refine ⟨List.Perm.cons _ R.perm, List.pairwise_cons.mpr ⟨fun t ht => ?_, R.tied⟩⟩
    obtain ⟨y, hy, e⟩ := List.mem_map.mp (R.perm.mem_iff.mp (List.mem_map_of_mem (f := (·.1)) ht))
    have := hnot y hy
    unfold adj at this
    rw [e] at this
    exact this
  | @high x y r lf tt out h0 e hx hy hr ih =>
    intro L
    subst e
    have hyn := L.lt y (by simp)
    have hd : deg ts (y : Int) = tt + r.length := by rw [hg y hyn] at hy; simp at hy; omega
    have hc := L.cnt y (by simp)
    rw [List.countP_append, List.countP_cons, List.countP_nil, if_neg (by rw [adj_irr ok]; exact Bool.false_ne_true)] at hc
    have hall : ∀ z ∈ r, adj ts z y = true := List.countP_eq_length.mp (by omega)
    have hnd := L.nd
    have R := ih ⟨(List.nodup_append.mp hnd).1, fun z hz => L.lt z (by simp [hz]), fun z hz => by
      have := L.cnt z (by simp [hz])
      rw [List.countP_append, List.countP_cons, List.countP_nil, if_pos (by rw [adj_comm]; exact hall z hz)] at this
      omega⟩
    refine ⟨?_, List.pairwise_cons.mpr ⟨fun t ht => ?_, R.tied⟩⟩
    · rw [List.map_append, List.map_cons]
      exact (List.Perm.cons _ R.perm).trans (List.perm_append_comm (l₁ := [(y : Int)]))
    · obtain ⟨z, hz, ez⟩ := List.mem_map.mp (R.perm.mem_iff.mp (List.mem_map_of_mem (f := (·.1)) ht))
      have := hall z hz
      unfold adj at this
      rw [ez] at this
      exact this
theorem degs_getD {n : Nat} {ts : List (Int × Int)} (x : Nat) (hx : x < n) : (degs n ts).getD x 0 = (deg ts (x : Int) : Int) := by rw [List.getD_eq_getElem?_getD, degs_at hx]; rfl
theorem run_row0 {n : Nat} {ts : List (Int × Int)} {os : List Nat} {out : List (Int × Bool)} (ok : WebOk n ts) (hR : Rises n ts os) (h : Run (fun k => (degs n ts).getD k 0) os 0 out) : RowR ts os out :=
  run_row ok (fun x hx => degs_getD x hx) h ⟨hR.nd, fun x hx => hR.lt hx, fun x hx => by
    rw [deg_nb ok, Nat.zero_add]
    exact (hR.perm.countP_eq _).symm⟩
/-- by weights: of any two places one is tied to all that the other is tied to -/
theorem good_tip {n : Nat} {ts : List (Int × Int)} {ns : List Int} {b : Int} (ok : WebOk n ts) (h : GoodW n ts ns b) : TipW n ts := by
  have key : ∀ u v : Nat, u < n → v < n → u ≠ v → adj ts u v = decide (b ≤ ns.getD u 0 + ns.getD v 0) := fun u v hu hv hne => by
    rcases Nat.lt_or_gt_of_ne hne with z | z
    · exact h.tied u v z hv
    · rw [adj_comm, show ns.getD u 0 + ns.getD v 0 = ns.getD v 0 + ns.getD u 0 from Int.add_comm _ _]; exact h.tied v u z hu
  have sub : ∀ u v : Nat, u < n → v < n → ns.getD u 0 ≤ ns.getD v 0 → Sub n ts u v := fun u v hu hv hle w hw ha hne => by
    have hwu : w ≠ u := fun z => by rw [z, adj_irr ok] at ha; cases ha
    rw [key w u hw hu hwu] at ha
    rw [key w v hw hv hne]
    simp only [decide_eq_true_eq] at ha ⊢
    omega
  intro u v hu hv
  rcases Int.le_total (ns.getD u 0) (ns.getD v 0) with z | z
  · exact .inl (sub_iff.mpr (sub u v hu hv z))
  · exact .inr (sub_iff.mpr (sub v u hv hu z))
theorem row_tip {n : Nat} {ts : List (Int × Int)} {st : List (Int × Bool)} (ok : WebOk n ts) (h : RowOk n ts st) : TipW n ts := good_tip ok (row_good (by have := ok.lo; omega) h)
theorem runS_none {g : Nat → Int} {lf : List Nat} {tt : Nat} {o : Option (List (Int × Bool))} (h : RunS g lf tt o) : o = none → ∀ out, ¬ Run g lf tt out := by
  induction h with
  | nil => intro e; cases e
  | @low x r tt o' hx _ ih =>
    intro e out hr
    have e' : o' = none := by cases o' with | none => rfl | some _ => cases e
    cases hr with
    | low _ h2 => exact ih e' _ h2
    | high h0 _ h2 _ _ => simp at h0; subst h0; exact h2 hx
  | @high x y r lf tt o' h0 hl hx hy _ ih =>
    intro e out hr
    have e' : o' = none := by cases o' with | none => rfl | some _ => cases e
    cases hr with
    | nil => simp at h0
    | low h1 _ => simp at h0; subst h0; exact hx h1
    | high h0' hl' _ _ h2 =>
      rw [hl'] at hl
      obtain ⟨rfl, _⟩ := List.append_inj' hl rfl
      exact ih e' _ h2
  | @stuck x y lf tt h0 hl hx hy =>
    intro _ out hr
    cases hr with
    | nil => simp at h0
    | low h1 _ => simp at h0; subst h0; exact hx h1
    | high h0' hl' _ h2 _ => rw [hl', List.getLast?_append] at hl; simp at hl; subst hl; exact hy h2
theorem runS_det {g : Nat → Int} {lf : List Nat} {tt : Nat} {o : Option (List (Int × Bool))} (h : RunS g lf tt o) : ∀ o', RunS g lf tt o' → o = o' := by
  induction h with
  | nil => intro o' h; cases h with
    | nil => rfl
    | high h0 _ _ _ _ => simp at h0
    | stuck h0 _ _ _ => simp at h0
  | @low x r tt o1 hx _ ih =>
    intro o' h
    cases h with
    | low _ h2 => rw [ih _ h2]
    | high h0 _ h2 _ _ => simp at h0; subst h0; exact absurd hx h2
    | stuck h0 _ h2 _ => simp at h0; subst h0; exact absurd hx h2
  | @high x y r lf tt o1 h0 hl hx hy _ ih =>
    intro o' h
    cases h with
    | nil => simp at h0
    | low h1 _ => simp at h0; subst h0; exact absurd h1 hx
    | high h0' hl' _ _ h2 =>
      rw [hl'] at hl
      obtain ⟨rfl, hyy⟩ := List.append_inj' hl rfl
      cases hyy
      rw [ih _ h2]
    | stuck _ h2 _ h3 => rw [hl, List.getLast?_append] at h2; simp at h2; subst h2; exact absurd hy h3
  | @stuck x y lf tt h0 hl hx hy =>
    intro o' h
    cases h with
    | nil => simp at h0
    | low h1 _ => simp at h0; subst h0; exact absurd h1 hx
    | high _ hl' _ h2 _ => rw [hl', List.getLast?_append] at hl; simp at hl; subst hl; exact absurd h2 hy
    | stuck _ _ _ _ => rfl
/-- the row of the counts g of n places -/
def IsRow (g : Nat → Int) (n : Nat) (res : Option (List (Int × Bool))) : Prop := ∃ os : List Nat, KeySorted g n (os.map fun k : Nat => (k : Int)) ∧ RunS g os 0 res
theorem keySorted_det {g : Nat → Int} {n : Nat} {o1 o2 : List Int} (h1 : KeySorted g n o1) (h2 : KeySorted g n o2) : o1 = o2 := by
  obtain ⟨xs, rfl, p1, s1, f1⟩ := h1
  obtain ⟨ys, rfl, p2, s2, f2⟩ := h2
  suffices xs = ys by rw [this]
  have key : ∀ (xs ys : List Nat), xs.Pairwise (fun x y => g x ≤ g y) → ys.Pairwise (fun x y => g x ≤ g y) → (∀ z, xs.filter (fun x => g x == z) = ys.filter (fun x => g x == z)) → xs = ys := by
    intro xs
    induction xs with
    | nil =>
      intro ys _ _ h
      cases ys with
      | nil => rfl
      | cons y r =>
        have := h (g y)
        rw [List.filter_cons, if_pos (by simp)] at this
        cases this
    | cons x r ih =>
      intro ys hx hy h
      cases ys with
      | nil =>
        have := h (g x)
        rw [List.filter_cons, if_pos (by simp)] at this
        cases this
      | cons y r' =>
        have hx' := List.pairwise_cons.mp hx
        have hy' := List.pairwise_cons.mp hy
        have exy : g x = g y := by
          have h1 := h (g x)
          have h2 := h (g y)
          rw [List.filter_cons, if_pos (by simp)] at h1
          rw [List.filter_cons (x := y), if_pos (by simp)] at h2
          have m1 : x ∈ (y :: r').filter (fun z => g z == g x) := by rw [← h1]; simp
          have m2 : y ∈ (x :: r).filter (fun z => g z == g y) := by rw [h2]; simp
          have le1 : g y ≤ g x := by
            rcases List.mem_cons.mp (List.mem_filter.mp m1).1 with z | z
            · rw [z]; exact Int.le_refl _
            · exact hy'.1 x z
          have le2 : g x ≤ g y := by
            rcases List.mem_cons.mp (List.mem_filter.mp m2).1 with z | z
            · rw [z]; exact Int.le_refl _
            · exact hx'.1 y z
          omega
        have hz := h (g x)
        rw [List.filter_cons, if_pos (by simp), List.filter_cons, if_pos (by simp [exy])] at hz
        obtain ⟨rfl, _⟩ := List.cons.inj hz
        congr 1
        refine ih r' hx'.2 hy'.2 fun z => ?_
        have := h z
        rw [List.filter_cons, List.filter_cons] at this
        by_cases e : (g x == z) = true
        · rw [if_pos e, if_pos e] at this
          exact (List.cons.inj this).2
        · rw [if_neg e, if_neg e] at this
          exact this
  exact key xs ys s1 s2 fun z => (f1 z).trans (f2 z).symm
theorem isRow_det {g : Nat → Int} {n : Nat} {r1 r2 : Option (List (Int × Bool))} (h1 : IsRow g n r1) (h2 : IsRow g n r2) : r1 = r2 := by
  obtain ⟨o1, k1, s1⟩ := h1
  obtain ⟨o2, k2, s2⟩ := h2
  have := keySorted_det k1 k2
  have e : o1 = o2 := (List.map_inj_right (fun a b h => by have h' : (a : Int) = (b : Int) := h; omega)).mp this
  subst e
  exact runS_det s1 _ s2
theorem isRow_tip {n : Nat} {ts : List (Int × Int)} {res : Option (List (Int × Bool))} (ok : WebOk n ts) (h : IsRow (fun k => (degs n ts).getD k 0) n res) : (TipW n ts ∧ ∃ out, res = some out ∧ RowOk n ts out.reverse) ∨ (¬ TipW n ts ∧ res = none) := by
  obtain ⟨os, k, s⟩ := h
  obtain ⟨os', e, hR⟩ := rises_of (n := n) (ts := ts) (by rw [degs_len]; exact k)
  have e' : os = os' := (List.map_inj_right (fun a b h => by have h' : (a : Int) = (b : Int) := h; omega)).mp e
  subst e'
  cases res with
  | some out =>
    have R := (run_row0 ok hR (s.run out rfl)).ok hR
    exact .inl ⟨row_tip ok R, out, rfl, R⟩
  | none =>
    refine .inr ⟨fun hT => ?_, rfl⟩
    obtain ⟨out, hr, _⟩ := run_tip ok hR hT
    exact runS_none s rfl out hr
end Tip
set_option Elab.async false
set_option linter.all false
set_option maxRecDepth 100000
set_option maxHeartbeats 4000000
namespace Tip
open PySem PySem.Spec PyProof.Rows L2
section
variable {P : Program} {w : World} {K : PySem.W.Frag} {mg : Str → Option Value} {base : Heap}
abbrev s_row_of : Stmt := top 19
theorem sc_row_of : FnScope ["places", "ties"] ["places", "ties"] (defScope s_row_of) := ⟨rfl, rfl, rfl, by decide +kernel, rfl, by decide +kernel, by decide +kernel⟩
def sp_row_of (K : PySem.W.Frag) (TR TF CN : Addr) : Sp := fun vs H Q E => ∃ (n : Nat) (a : Addr) (ts : List (Int × Int)), vs = [.int n, .ref a] ∧ Ties K H a ts ∧ WebOk n ts ∧ Tabs TR TF H ∧ ∀ res, IsRow (fun k => (degs n ts).getD k 0) n res →
  (∀ out, res = some out → TipW n ts → RowOk n ts out.reverse → ∀ H' p, Sm H H' → Tabs TR TF H' → NewRow H H' p out.reverse → Q (.ref p) H') ∧ (res = none → ¬ TipW n ts → ∀ H', Sm H H' → Tabs TR TF H' → E (.ref CN) none H')
structure GX2 (P : Program) (w : World) (K : PySem.W.Frag) (mg : Str → Option Value) (base : Heap) (TR TF CN : Addr) : Prop where
  check_web : Df P w K mg base 5 "check_web" ["places", "ties"] (sp_check_ties K)
  counts_of : Df P w K mg base 1 "counts_of" ["places", "ties"] (sp_counts_of K)
  row_by_counts : DfX P w K mg base 4 "row_by_counts" ["counts"] (sp_rowX K TR TF CN)
theorem dx_row_of {TR TF CN : Addr} (T : Blt mg) (G : GX2 P w K mg base TR TF CN) (h : HasDef K mg "row_of" s_row_of ["places", "ties"]) : DfX P w K mg base 6 "row_of" ["places", "ties"] (sp_row_of K TR TF CN) := by
  refine h.dfX fun f fd F => ?_
  refine F.okX sc_row_of (fun vs H Q E h => ?_) (fun cdv A outer s H vs Q E hr h hlv hps => ?_)
  · obtain ⟨n, a, ts, rfl, _⟩ := h; rfl
  have nd := sc_row_of.nd
  obtain ⟨n, a, ts, rfl, ht, ok, tb, q⟩ := h
  have hn40 := ok.hi
  refine ⟨_, (pss_cons (ps_expr (pe_df G.check_web (hr.mono (by decide)) (pa_cons (pv 0) (pa_cons (pv 1) pa_nil)))) (pss_one (ps_ret (pe_dfX hps G.row_by_counts (hr.mono (by decide)) (pa_cons (pe_df G.counts_of (hr.mono (by decide)) (pa_cons (pv 0) (pa_cons (pv 1) pa_nil))) pa_nil))))), ?_⟩
  refine ⟨_, rfl, _, rfl, n, a, ts, rfl, ht, ok, fun H1 s1 => ?_⟩
  refine ⟨_, rfl, _, rfl, n, a, ts, rfl, ht.same s1, ok, fun H2 c s2 hc0 hc => ?_⟩
  have s12 := s1.trans s2
  refine ⟨c, degs n ts, rfl, SqL.of hc, by rw [degs_len]; omega, tb.same s12, fun out hks => ?_⟩
  obtain ⟨xs, rfl, hRx⟩ := rises_of hks
  obtain ⟨res, hrun⟩ := runS_all (fun k => (degs n ts).getD k 0) xs.length xs 0 rfl
  have hI : IsRow (fun k => (degs n ts).getD k 0) n res := ⟨xs, by rw [degs_len] at hks; exact hks, hrun⟩
  obtain ⟨q1, q2⟩ := q res hI
  refine ⟨xs, res, rfl, fun x hx => by rw [degs_len]; exact hRx.lt hx, by rw [degs_len, hRx.len], hrun, fun rs e H3 p sm tb3 hrow => ?_, fun e H3 sm tb3 => ?_⟩
  · rcases isRow_tip ok hI with ⟨hT, out, e', R⟩ | ⟨_, e'⟩
    · rw [e] at e'; cases e'
      refine q1 rs e hT R H3 p ((Sm.of s12).trans sm) tb3 ⟨s12.free hrow.1, hrow.2⟩
    · rw [e] at e'; cases e'
  · rcases isRow_tip ok hI with ⟨hT, out, e', R⟩ | ⟨hT, e'⟩
    · rw [e] at e'; cases e'
    · exact q2 e hT H3 ((Sm.of s12).trans sm) tb3
end
end Tip
set_option Elab.async false
set_option linter.all false
set_option maxRecDepth 100000
set_option maxHeartbeats 4000000
namespace Tip
open PySem PySem.Spec PyProof.Rows L2
/-- a promise that may be weakened -/
def MonoS (sp : Sp) : Prop := ∀ vs H Q Q' E E', (∀ v H, Q v H → Q' v H) → (∀ c x H, E c x H → E' c x H) → sp vs H Q E → sp vs H Q' E'
structure ErA where
  tip : Addr
  bp : Addr
  bt : Addr
  br : Addr
  bc : Addr
  bn : Addr
  nt : Addr
def errOne (K : PySem.W.Frag) (te c : Addr) : Bool := PySem.W.excIn K c vBases "ValueError.__new__" && (PySem.W.findIn K (.ref c) "__getattribute__" == some (some (.builtin "BaseException.__getattribute__"))) && (PySem.W.findIn K (.ref c) "__getattr__" == some none) &&
  (PySem.W.findIn K (.ref c) "__class__" == some (some (.builtin "object.__class__"))) && (PySem.W.subIn K (.ref c) (.type "BaseException") == some true) && (PySem.W.subIn K (.ref c) (.type "object") == some true) && (PySem.W.clsIn K c).isSome && (PySem.W.subIn K (.ref c) (.ref te) == some true)
def errB (K : PySem.W.Frag) (te : Addr) (cs : List Addr) : Bool := (PySem.W.typeIn K (.ref te) == some (.type "type")) && (PySem.W.clsIn K te).isSome && (PySem.W.subIn K (.ref te) (.type "BaseException") == some true) && cs.all (errOne K te) &&
  (List.range cs.length).all fun i => (List.range cs.length).all fun j => PySem.W.kitOne K (.ref (cs.getD i 0)) (.ref (cs.getD j 0)) == some (i == j)
structure Errs (K : PySem.W.Frag) (mg : Str → Option Value) (er : ErA) : Prop where
  tip : mg "TipError" = some (.ref er.tip)
  bp : mg "BadPlaces" = some (.ref er.bp)
  bt : mg "BadTies" = some (.ref er.bt)
  br : mg "BadRow" = some (.ref er.br)
  bc : mg "BadCounts" = some (.ref er.bc)
  bn : mg "BadNumber" = some (.ref er.bn)
  nt : mg "NoTip" = some (.ref er.nt)
  ok : errB K er.tip [er.bp, er.bt, er.br, er.bc, er.bn, er.nt] = true
abbrev ErA.at (er : ErA) (i : Nat) : Addr := [er.bp, er.bt, er.br, er.bc, er.bn, er.nt].getD i 0
section
variable {P : Program} {w : World} {K : PySem.W.Frag} {mg : Str → Option Value} {base : Heap} {er : ErA}
theorem errK_of {x : Str} {te c : Addr} {cs : List Addr} (h : errB K te cs = true) (hc : c ∈ cs) (hm : mg x = some (.ref c)) : ErrK K mg x c te := by
  unfold errB at h
  simp only [Bool.and_eq_true, beq_iff_eq] at h
  obtain ⟨⟨⟨⟨h1, h2⟩, h3⟩, h4⟩, _⟩ := h
  have := List.all_eq_true.mp h4 c hc
  unfold errOne at this
  simp only [Bool.and_eq_true, beq_iff_eq] at this
  obtain ⟨⟨⟨⟨⟨⟨⟨a1, a2⟩, a3⟩, a4⟩, a5⟩, a6⟩, a7⟩, a8⟩ := this
  exact ⟨hm, a1, ⟨a2, a3, a4, a5, a6, a7⟩, ⟨h1, h2, h3, a8⟩⟩
theorem errKit {te : Addr} {cs : List Addr} (h : errB K te cs = true) {i j : Nat} (hi : i < cs.length) (hj : j < cs.length) : PySem.W.kitOne K (.ref (cs.getD i 0)) (.ref (cs.getD j 0)) = some (i == j) := by
  unfold errB at h
  simp only [Bool.and_eq_true, beq_iff_eq] at h
  exact beq_iff_eq.mp (List.all_eq_true.mp (List.all_eq_true.mp h.2 i (List.mem_range.mpr hi)) j (List.mem_range.mpr hj))
theorem Errs.x_nt (E : Errs K mg er) : ErrK K mg "NoTip" er.nt er.tip := errK_of E.ok (by simp) E.nt
theorem Errs.kit (E : Errs K mg er) {i j : Nat} (hi : i < 6) (hj : j < 6) : PySem.W.kitOne K (.ref (er.at i)) (.ref (er.at j)) = some (i == j) := errKit E.ok hi hj
theorem Errs.kx (E : Errs K mg er) {i : Nat} (hi : i < 6) : ExcK K (er.at i) := by
  have hm : er.at i ∈ [er.bp, er.bt, er.br, er.bc, er.bn, er.nt] := by
    unfold ErA.at
    match i, hi with
    | 0, _ => simp
    | 1, _ => simp
    | 2, _ => simp
    | 3, _ => simp
    | 4, _ => simp
    | 5, _ => simp
  exact (errK_of (mg := fun _ => some (.ref (er.at i))) (x := "") E.ok hm rfl).k
theorem Errs.cx (E : Errs K mg er) {i : Nat} (hi : i < 6) : Catches K (er.at i) er.tip := by
  have hm : er.at i ∈ [er.bp, er.bt, er.br, er.bc, er.bn, er.nt] := by
    unfold ErA.at
    match i, hi with
    | 0, _ => simp
    | 1, _ => simp
    | 2, _ => simp
    | 3, _ => simp
    | 4, _ => simp
    | 5, _ => simp
  exact (errK_of (mg := fun _ => some (.ref (er.at i))) (x := "") E.ok hm rfl).c
theorem onStack_cx' {CX : CXT} {N : List Str} {qual : Str} {scope : Scope} {f : Addr} {cd : Value} {A : Around} {outer : List Env} {s : Shared} {H : Hp} {E : XK} : OnStack (cxOf CX P w K mg base N qual scope f cd A outer s H E).nox := ⟨rfl, rfl, rfl⟩
abbrev s_law_refused : Stmt := top 33
theorem sc_law_refused : FnScope ["_law_ask", "_law_one", "_law_other", "error", "_law_others"] ["_law_ask", "_law_one", "_law_other"] (defScope s_law_refused) := ⟨rfl, rfl, rfl, by decide +kernel, rfl, by decide +kernel, by decide +kernel⟩
/-- what is asked refuses with NoTip alone -/
def sp_refused (P : Program) (w : World) (K : PySem.W.Frag) (mg : Str → Option Value) (base : Heap) (er : ErA) : Sp := fun vs H Q _ => ∃ (f : Addr) (v1 v2 : V) (fd : FuncData) (ps : List Str) (sp : Sp), vs = [.ref f, v1, v2] ∧ FnOk P w K mg base (CXE P w) 8 f fd ps sp ∧ PySem.W.keepIn K (.ref f) = true ∧ Binds K fd ps [] ∧ MonoS sp ∧
  sp [v1, v2] H (fun _ _ => False) fun c _ H' => c = .ref er.nt ∧ ∀ H'', Same H' H'' → Q (.bl true) H''
theorem df_law_refused (T : Blt mg) (ER : Errs K mg er) (h : HasDef K mg "_law_refused" s_law_refused ["_law_ask", "_law_one", "_law_other"]) : Df P w K mg base 9 "_law_refused" ["_law_ask", "_law_one", "_law_other"] (sp_refused P w K mg base er) := by
  refine h.df fun f fd F => ?_
  refine F.ok sc_law_refused (fun vs H Q E h => ?_) (fun cdv A outer s H vs Q E hr h => ?_)
  · obtain ⟨f1, v1, v2, fd1, ps, sp, rfl, _⟩ := h; rfl
  have nd := sc_law_refused.nd
  obtain ⟨f1, v1, v2, fd1, ps, sp, rfl, F1, hk, hb, mo, q⟩ := h
  refine ⟨_, (pss_cons (ps_try (i := 3) (px_callV (i := 0) (pa_cons (pv 1) (pa_cons (pv 2) pa_nil))) onStack_cx' nd rfl rfl rfl ER.tip (fun xe xo xv hxd hxc => (pss_cons (ps_set (i := 4) nd rfl (by first | exact Or.inl rfl | exact Or.inr rfl) (pe_lst (pa_cons (pe_callB cr_isaX rfl T.isinstance (by decide +kernel) (pa_cons (pv 3) (pa_cons (pe_glob (v := .ref er.bp) rfl ER.bp rfl) pa_nil))) (pa_cons (pe_callB cr_isaX rfl T.isinstance (by decide +kernel) (pa_cons (pv 3) (pa_cons (pe_glob (v := .ref er.bt) rfl ER.bt rfl) pa_nil))) (pa_cons (pe_callB cr_isaX rfl T.isinstance (by decide +kernel) (pa_cons (pv 3) (pa_cons (pe_glob (v := .ref er.br) rfl ER.br rfl) pa_nil))) pa_nil))))) (pss_cons (ps_set (i := 4) nd rfl (by first | exact Or.inl rfl | exact Or.inr rfl) (pe_op op_cat (pv 4) (pe_lst (pa_cons (pe_callB cr_isaX rfl T.isinstance (by decide +kernel) (pa_cons (pv 3) (pa_cons (pe_glob (v := .ref er.bc) rfl ER.bc rfl) pa_nil))) (pa_cons (pe_callB cr_isaX rfl T.isinstance (by decide +kernel) (pa_cons (pv 3) (pa_cons (pe_glob (v := .ref er.bn) rfl ER.bn rfl) pa_nil))) pa_nil))))) (pss_one (ps_ret (pe_and (pe_callB cr_isaX rfl T.isinstance (by decide +kernel) (pa_cons (pv 3) (pa_cons (pe_glob (v := .ref er.nt) rfl ER.nt rfl) pa_nil))) (pe_one (pe_not (pe_callB (cr_anyS (inSuite_of hxd hxc)) rfl T.any (by decide +kernel) (pa_cons (pv 4) pa_nil))))))))))) (pss_one (ps_ret pe_bl))), ?_⟩
  refine ⟨f1, fd1, ps, sp, 8, rfl, F1, hr.mono (by decide), hk, hb, ?_⟩
  refine ⟨_, rfl, _, rfl, ?_⟩
  refine mo _ _ _ _ _ _ (fun v H1 z => z.elim) (fun c x H1 ⟨hc, qq⟩ => ⟨er.nt, hc, ER.cx (i := 5) (by decide), fun e oe vs h1 h2 h3 h4 => ?_⟩) q
  have kx : ExcK K er.nt := ER.kx (i := 5) (by decide)
  have k0 : PySem.W.kitOne K (.ref er.nt) (.ref er.bp) = some false := ER.kit (i := 5) (j := 0) (by decide) (by decide)
  have c0 : ∀ tp, Value.ref er.bp = .ref tp → (PySem.W.clsIn K tp).isSome = true := fun tp z => by cases z; exact (ER.kx (i := 0) (by decide)).ty
  have k1 : PySem.W.kitOne K (.ref er.nt) (.ref er.bt) = some false := ER.kit (i := 5) (j := 1) (by decide) (by decide)
  have c1 : ∀ tp, Value.ref er.bt = .ref tp → (PySem.W.clsIn K tp).isSome = true := fun tp z => by cases z; exact (ER.kx (i := 1) (by decide)).ty
  have k2 : PySem.W.kitOne K (.ref er.nt) (.ref er.br) = some false := ER.kit (i := 5) (j := 2) (by decide) (by decide)
  have c2 : ∀ tp, Value.ref er.br = .ref tp → (PySem.W.clsIn K tp).isSome = true := fun tp z => by cases z; exact (ER.kx (i := 2) (by decide)).ty
  have k3 : PySem.W.kitOne K (.ref er.nt) (.ref er.bc) = some false := ER.kit (i := 5) (j := 3) (by decide) (by decide)
  have c3 : ∀ tp, Value.ref er.bc = .ref tp → (PySem.W.clsIn K tp).isSome = true := fun tp z => by cases z; exact (ER.kx (i := 3) (by decide)).ty
  have k4 : PySem.W.kitOne K (.ref er.nt) (.ref er.bn) = some false := ER.kit (i := 5) (j := 4) (by decide) (by decide)
  have c4 : ∀ tp, Value.ref er.bn = .ref tp → (PySem.W.clsIn K tp).isSome = true := fun tp z => by cases z; exact (ER.kx (i := 4) (by decide)).ty
  have k5 : PySem.W.kitOne K (.ref er.nt) (.ref er.nt) = some true := ER.kit (i := 5) (j := 5) (by decide) (by decide)
  have c5 : ∀ tp, Value.ref er.nt = .ref tp → (PySem.W.clsIn K tp).isSome = true := fun tp z => by cases z; exact (ER.kx (i := 5) (by decide)).ty
  refine ⟨_, rfl, e, oe, er.nt, vs, .ref er.bp, .ref er.bp, _, rfl, List.mem_cons_self, h1, h2, kx, fun u r => r, c0, k0, ?_⟩
  refine ⟨_, rfl, e, oe, er.nt, vs, .ref er.bt, .ref er.bt, _, rfl, List.mem_cons_self, h1, h2, kx, fun u r => r, c1, k1, ?_⟩
  refine ⟨_, rfl, e, oe, er.nt, vs, .ref er.br, .ref er.br, _, rfl, List.mem_cons_self, h1, h2, kx, fun u r => r, c2, k2, ?_⟩
  refine ⟨(by show 3 ≤ sizeLine; decide), fun p1 hp1 => ?_⟩
  refine ⟨_, rfl, ?_⟩
  refine ⟨_, rfl, e, oe, er.nt, vs, .ref er.bc, .ref er.bc, _, rfl, List.mem_cons_self, h1, h2, kx, fun u r => r, c3, k3, ?_⟩
  refine ⟨_, rfl, e, oe, er.nt, vs, .ref er.bn, .ref er.bn, _, rfl, List.mem_cons_self, h1, h2, kx, fun u r => r, c4, k4, ?_⟩
  refine ⟨(by show 2 ≤ sizeLine; decide), fun p2 hp2 => ?_⟩
  have p12 : p1 ≠ p2 := ne_of_none upd_same hp2
  refine ⟨p1, p2, _, _, rfl, rfl, by rw [upd_ne p12, upd_same], upd_same, by show 3 + 2 ≤ sizeLine; decide, fun p3 hp3 => ?_⟩
  refine ⟨_, rfl, e, oe, er.nt, vs, .ref er.nt, .ref er.nt, _, rfl, List.mem_cons_self, h1, h2, kx, fun u r => r, c5, k5, true, rfl, iteT ?_⟩
  refine ⟨_, rfl, p3, [false, false, false, false, false], rfl, SqL.of upd_same, ?_⟩
  refine ⟨false, rfl, ?_⟩
  exact qq _ (((same_new' hp1 _).trans (same_new' hp2 _)).trans (same_new' hp3 _))
end
end Tip
set_option Elab.async false
set_option linter.all false
set_option maxRecDepth 100000
set_option maxHeartbeats 4000000
namespace Tip
open PySem PySem.Spec PyProof.Rows L2
section
variable {P : Program} {w : World} {K : PySem.W.Frag} {mg : Str → Option Value} {base : Heap}
theorem mk_fun {x qual : Str} {st : Stmt} {ps : List Str} {f : Addr} {oc : Value} {od an : Option Addr} {osl : Array (Option Value)} {kV doc pm cdv ct : Value}
    (l : K.lookup f = some ⟨oc, od, .func (PySem.W.fnOf x qual (defArgs st) (defBody st) (defScope st) .none kV doc pm an cdv ct), osl⟩) (c : PySem.W.codeIn K cdv qual = true) (k : PySem.W.keepIn K (.ref f) = true)
    (hb : ∀ (kV doc pm : Value) (an : Option Addr) (cdv ct : Value) (us : List Value), us.length = ps.length → bindArgs (PySem.W.fnOf x qual (defArgs st) (defBody st) (defScope st) .none kV doc pm an cdv ct) ⟨us, []⟩ = pure (ps.zip us)) : ∃ fd, Fun K x qual st f fd ∧ Binds K fd ps [] :=
  ⟨_, fun_mk (st := st) l c k, (fun_mk (st := st) l c k).binds hb⟩
theorem mk_def {h : Heap} {x : Str} {st : Stmt} {ps : List Str} {f : Addr} {oc : Value} {od an : Option Addr} {osl : Array (Option Value)} {kV doc pm cdv ct : Value} (X : K.In h) (G : h.Ns mainGlobals mg)
    (hb : ∀ (kV doc pm : Value) (an : Option Addr) (cdv ct : Value) (us : List Value), us.length = ps.length → bindArgs (PySem.W.fnOf x x (defArgs st) (defBody st) (defScope st) .none kV doc pm an cdv ct) ⟨us, []⟩ = pure (ps.zip us))
    (a : PySem.W.nsIn K mainGlobals x = some (some (.ref f))) (l : K.lookup f = some ⟨oc, od, .func (PySem.W.fnOf x x (defArgs st) (defBody st) (defScope st) .none kV doc pm an cdv ct), osl⟩) (c : PySem.W.codeIn K cdv x = true) (k : PySem.W.keepIn K (.ref f) = true) : HasDef K mg x st ps :=
  let ⟨fd, F, B⟩ := mk_fun (ps := ps) l c k hb
  ⟨f, fd, F, PySem.W.mg_of X G a, B⟩
theorem mk_defL {h : Heap} {x : Str} {st : Stmt} {ps : List Str} {f c0 : Addr} {oc : Value} {od an : Option Addr} {osl : Array (Option Value)} {kV doc pm ct : Value} (X : K.In h) (G : h.Ns mainGlobals mg)
    (hb : ∀ (kV doc pm : Value) (an : Option Addr) (cdv ct : Value) (us : List Value), us.length = ps.length → bindArgs (PySem.W.fnOf x x (defArgs st) (defBody st) (defScope st) .none kV doc pm an cdv ct) ⟨us, []⟩ = pure (ps.zip us))
    (a : PySem.W.nsIn K mainGlobals x = some (some (.ref f))) (l : K.lookup f = some ⟨oc, od, .func (PySem.W.fnOf x x (defArgs st) (defBody st) (defScope st) .none kV doc pm an (.ref c0) ct), osl⟩) (c : PySem.W.codeIn K (.ref c0) x = true) (k : PySem.W.keepIn K (.ref f) = true) : HasDefL K mg x st ps c0 :=
  ⟨f, _, ⟨⟨oc, od, kV, doc, pm, an, ct, osl, rfl, l, c⟩, k⟩, PySem.W.mg_of X G a, (fun_mk (st := st) l c k).binds hb⟩
theorem bm_of {q : Program} {loose : List Str} {mean : ExcName → Option Value} {mb : Str → Option Value} {h : Heap} (T : Top q loose mean mg mb h) (kp : ∀ b o, h.get? b = some o → o.cls ≠ .type "list" → o.cls ≠ .none → base.get? b = some o) : BmOk mg base := by
  obtain ⟨bm, ob, h1, h2, h3, h4, h5, h6⟩ := T.bmain
  refine ⟨bm, ob, h1, h2, fun z => ?_, kp _ _ h3 (by rw [h4]; intro z; injection z with z; exact absurd z (by decide)) (by rw [h4]; intro z; cases z), h4, h5, h6⟩
  obtain ⟨o, es, ep, e, d, _⟩ := T.g
  rw [z, e] at h3
  cases h3
  rw [h6] at d
  cases d
theorem most_mk {h : Heap} {v : Value} (X : K.In h) (G : h.Ns mainGlobals mg) (a : PySem.W.nsIn K mainGlobals "MOST_PLACES" = some (some v)) (e : ∃ t, v = .int 40 t) : ∃ t, mg "MOST_PLACES" = some (.int 40 t) := by
  obtain ⟨t, rfl⟩ := e
  exact ⟨t, PySem.W.mg_of X G a⟩
theorem law_mk {h : Heap} {f : Addr} {oc : Value} {od an : Option Addr} {osl : Array (Option Value)} {kV doc pm cdv ct : Value} (X : K.In h) (G : h.Ns mainGlobals mg)
    (a : PySem.W.nsIn K mainGlobals "law" = some (some (.ref f))) (l : K.lookup f = some ⟨oc, od, .func (PySem.W.fnOf "law" "law" (defArgs s_law) (defBody s_law) (defScope s_law) .none kV doc pm an cdv ct), osl⟩) (c : PySem.W.codeIn K cdv "law" = true) (k : PySem.W.keepIn K (.ref f) = true) :
    ∃ f fd, Fun K "law" "law" s_law f fd ∧ mg "law" = some (.ref f) ∧ ∀ (s : Shared) (u : Value), BindsTo s fd ⟨[u], []⟩ [("_law_script", u)] :=
  ⟨f, _, fun_mk (st := s_law) l c k, PySem.W.mg_of X G a, fun s u => .of_eq rfl⟩
theorem errs_mk {h : Heap} {te bp bt br bc bn nt : Addr} (X : K.In h) (G : h.Ns mainGlobals mg) (a0 : PySem.W.nsIn K mainGlobals "TipError" = some (some (.ref te))) (a1 : PySem.W.nsIn K mainGlobals "BadPlaces" = some (some (.ref bp))) (a2 : PySem.W.nsIn K mainGlobals "BadTies" = some (some (.ref bt)))
    (a3 : PySem.W.nsIn K mainGlobals "BadRow" = some (some (.ref br))) (a4 : PySem.W.nsIn K mainGlobals "BadCounts" = some (some (.ref bc))) (a5 : PySem.W.nsIn K mainGlobals "BadNumber" = some (some (.ref bn))) (a6 : PySem.W.nsIn K mainGlobals "NoTip" = some (some (.ref nt)))
    (ok : errB K te [bp, bt, br, bc, bn, nt] = true) : ∃ er, Errs K mg er :=
  ⟨⟨te, bp, bt, br, bc, bn, nt⟩, PySem.W.mg_of X G a0, PySem.W.mg_of X G a1, PySem.W.mg_of X G a2, PySem.W.mg_of X G a3, PySem.W.mg_of X G a4, PySem.W.mg_of X G a5, PySem.W.mg_of X G a6, ok⟩
end
end Tip
set_option Elab.async false
set_option linter.all false
set_option maxRecDepth 100000
set_option maxHeartbeats 1000000
namespace L2
open PySem PySem.Spec PyProof.Rows
section
variable {X : Cx}
theorem Vals.insert {xs : List V} {us : List Value} (r : Vals xs us) {y : V} {u : Value} (ry : RelV y u) (k : Nat) : Vals (xs.take k ++ y :: xs.drop k) (us.take k ++ u :: us.drop k) := by
  have h1 : ∀ {xs : List V} {us : List Value}, Vals xs us → ∀ k, Vals (xs.take k) (us.take k) ∧ Vals (xs.drop k) (us.drop k) := by
    intro xs us r
    induction r with
    | nil => intro k; rw [List.take_nil, List.take_nil, List.drop_nil, List.drop_nil]; exact ⟨.nil, .nil⟩
    | cons a b ih =>
      intro k
      cases k with
      | zero => exact ⟨.nil, .cons a b⟩
      | succ k =>
        rw [List.take_succ_cons, List.take_succ_cons, List.drop_succ_cons, List.drop_succ_cons]
        exact ⟨.cons a (ih k).1, (ih k).2⟩
  exact Vals.append (h1 r k).1 (.cons ry (h1 r k).2)
def rInsert : V → List V → Hp → VK → Prop := fun x vs H Q => ∃ l xs k y, x = .ref l ∧ vs = [.int (k : Nat), y] ∧ H l = some (.lst xs) ∧ k ≤ xs.length ∧ xs.length < 1000000 ∧ Q .non (upd H l (.lst (xs.take k ++ y :: xs.drop k)))
theorem mt_insert : MtM X "list.insert" rInsert := by
  intro pins s σ H x vs v us Q I rx rv h
  obtain ⟨l, xs, k, y, rfl, rfl, hH, h1, h2, q⟩ := h
  cases rx
  obtain ⟨u1, u2, rfl, ⟨t, rfl⟩, ru⟩ := vals2 rv
  obtain ⟨z, its, n, r, hl, e⟩ := I.lstM hH
  generalize hx : ((k : Nat) : Int) = x
  have hc : ¬ (!Builtin.List.listFitsIndex x) = true := by
    rw [← hx]
    unfold Builtin.List.listFitsIndex
    rw [decide_eq_true (show -(2 ^ 63 : Int) ≤ (k : Int) by have : (0 : Int) ≤ 2 ^ 63 := by decide
                                                            omega), decide_eq_true (show (k : Int) < 2 ^ 63 by have : (1000000 : Int) ≤ 2 ^ 63 := by decide
                                                                                                               omega)]
    exact Bool.false_ne_true
  have hs : its.toArray.size ≤ sizeLine := by rw [List.size_toArray, sizeLine_eq]; omega
  have M0 := AutoSeq1.list_insert_list_int_val_1 l its.toArray n x t u2
  have M1 := M0 hc
  have M := M1 hs
  refine call_meets F.slot_list_insert ⟨_, e, rfl⟩ F.entry_list_insert (F.args_list_insert_3 _ _ _) M ⟨e, ?_⟩
  refine ⟨.non, _, I.lset (its' := its.take k ++ u2 :: its.drop k) hH e ?_ (r.insert ru k) ?_, rfl, q⟩
  · have hk : k ≤ its.length := by omega
    subst hx
    simp only [Int.toNat_natCast, List.size_toArray]
    rw [if_neg (by omega), Nat.min_eq_left hk]
    apply Array.ext'
    simp
    rw [List.take_of_length_le (by rw [List.length_drop]; omega)]
  · rw [List.length_append, List.length_cons, List.length_take, List.length_drop, sizeLine_eq]
    omega
end
end L2
namespace L2
open PySem PySem.Spec PyProof.Rows
theorem cr_isaK {X : Cx} {K : PySem.W.Frag} (h : X.K = K := by rfl) : CallR X (.builtin "isinstance") (rIsa K) := by
  subst h
  exact cr_isa
end L2
set_option Elab.async false
set_option linter.all false
set_option maxRecDepth 100000
set_option maxHeartbeats 4000000
namespace Tip
open PySem PySem.Spec PyProof.Rows L2
theorem lexLe_anti {t u : Int × Int} (h1 : lexLe t u) (h2 : lexLe u t) : t = u := by
  unfold lexLe at h1 h2
  refine Prod.ext ?_ ?_ <;> omega
structure Srt (ts l : List (Int × Int)) : Prop where
  perm : ts.Perm l
  ord : ts.Pairwise lexLe
theorem perm_sorted_eq {α : Type} {le : α → α → Prop} (anti : ∀ a b, le a b → le b a → a = b) : ∀ {l m : List α}, l.Perm m → l.Pairwise le → m.Pairwise le → l = m
  | [], m, p, _, _ => by rw [List.nil_perm.mp p]
  | a :: l, [], p, _, _ => by have := p.length_eq; simp at this
  | a :: l, b :: m, p, hl, hm => by
    have hl' := List.pairwise_cons.mp hl
    have hm' := List.pairwise_cons.mp hm
    have e : a = b := by
      have h1 : a ∈ b :: m := p.mem_iff.mp List.mem_cons_self
      have h2 : b ∈ a :: l := p.mem_iff.mpr List.mem_cons_self
      rcases List.mem_cons.mp h1 with z | z
      · exact z
      rcases List.mem_cons.mp h2 with y | y
      · exact y.symm
      exact anti _ _ (hl'.1 b y) (hm'.1 a z)
    subst e
    rw [perm_sorted_eq anti (List.perm_cons _ |>.mp p) hl'.2 hm'.2]
theorem Srt.eq {ts ts' l l' : List (Int × Int)} (h : Srt ts l) (h' : Srt ts' l') (p : l.Perm l') : ts = ts' :=
  perm_sorted_eq (fun _ _ => lexLe_anti) ((h.perm.trans p).trans h'.perm.symm) h.ord h'.ord
/-- a new list of pairs of ints -/
def NewTies (H H' : Hp) (p : Addr) (ts : List (Int × Int)) : Prop := H p = none ∧ ∃ rs : List Addr, H' p = some (.lst (rs.map V.ref)) ∧ Paired (TupI H') rs ts
theorem NewTies.at {K : PySem.W.Frag} {H H' : Hp} {p : Addr} {ts : List (Int × Int)} (h : NewTies H H' p ts) : Ties K H' p ts := let ⟨_, rs, h1, h2⟩ := h; ⟨rs, SqL.of h1, h2⟩
/-- what sorted tells of pairs -/
theorem sortedT_of {K : PySem.W.Frag} {H : Hp} {Q : VK} {a : Addr} {ts : List (Int × Int)} (ht : Ties K H a ts) (q : ∀ ts' p H', Srt ts' ts → Same H H' → NewTies H H' p ts' → Q (.ref p) H') : rSortedT K [.ref a] H Q := by
  obtain ⟨rs, hs, hp⟩ := ht
  refine ⟨a, rs, ts, rfl, hs, hp, fun rs' p hp0 hperm hord => ?_⟩
  obtain ⟨ts', h1, h2⟩ := Paired.perm hperm hp
  have sm := same_new' hp0 (.lst (rs'.map V.ref))
  refine q ts' p _ ⟨h1, ?_⟩ sm ⟨hp0, rs', upd_same, Paired.mapP h2 fun r t e => sm _ _ e⟩
  have key : ∀ {l : List Addr} {m : List (Int × Int)}, Paired (PairAt H) l m → l.Pairwise (fun r r' => ∀ t t', PairAt H r t → PairAt H r' t' → lexLe t t') → m.Pairwise lexLe := by
    intro l m h
    induction h with
    | nil => intro _; exact .nil
    | cons a b ih =>
      intro hp
      have hp' := List.pairwise_cons.mp hp
      refine List.pairwise_cons.mpr ⟨fun t' ht' => ?_, ih hp'.2⟩
      obtain ⟨j, hj, e⟩ := List.mem_iff_getElem.mp ht'
      obtain ⟨r', hr1, hr2⟩ := Paired.at' b (List.getElem?_eq_getElem hj)
      rw [e] at hr2
      exact hp'.1 r' (List.mem_of_getElem? hr1) _ _ a hr2
  exact key h2 hord
section
variable {P : Program} {w : World} {K : PySem.W.Frag} {mg : Str → Option Value} {base : Heap}
/-- each place once, the first one with False -/
structure RowGood (st : List (Int × Bool)) : Prop where
  lo : 1 ≤ st.length
  hi : st.length ≤ 40
  perm : (st.map (·.1)).Perm (natI st.length)
  fst : ∃ p r, st = (p, false) :: r
theorem RowGood.pl {st : List (Int × Bool)} (h : RowGood st) : ∀ s ∈ st, 0 ≤ s.1 ∧ s.1 < st.length := fun s hs => mem_natI.mp (h.perm.mem_iff.mp (List.mem_map_of_mem (f := (·.1)) hs))
abbrev s_is_step : Stmt := top 23
theorem sc_is_step : FnScope ["value", "places", "place", "truth"] ["value", "places"] (defScope s_is_step) := ⟨rfl, rfl, rfl, by decide +kernel, rfl, by decide +kernel, by decide +kernel⟩
def sp_is_step : Sp := fun vs H Q _ => ∃ r n s, vs = [.ref r, .int n] ∧ StepAt H r s ∧ 0 ≤ s.1 ∧ s.1 < n ∧ ∀ H', Same H H' → Q (.bl true) H'
theorem df_is_step (T : Blt mg) (G : G3 P w K mg base) (h : HasDef K mg "is_step" s_is_step ["value", "places"]) : Df P w K mg base 3 "is_step" ["value", "places"] sp_is_step := by
  refine h.df fun f fd F => ?_
  refine F.ok sc_is_step (fun vs H Q E h => ?_) (fun cdv A outer s H vs Q E hr h => ?_)
  · obtain ⟨r, n, t, rfl, _⟩ := h; rfl
  have nd := sc_is_step.nd
  obtain ⟨r, n, t, rfl, ht, h1, h2, q⟩ := h
  refine ⟨_, (pss_cons (ps_if (PW.pt (pw_or (pt_not (pt_val (pe_callB cr_isa rfl T.isinstance (by decide +kernel) (pa_cons (pv 0) (pa_cons (pe_bltn rfl T.tuple_ (by decide +kernel) (v := .ty "tuple") rfl) pa_nil))))) (pw_or1 (pt_cmpR op_ne (pe_callB call_len_seq rfl T.len PySem.boot_len (pa_cons (pv 0) pa_nil)) pe_int (nomark _))))) (pss_one (ps_ret pe_bl)) pss_nil) (pss_cons (ps_asg (pv 0) (pg_tup rfl (pgs_cons (pg_name (i := 2) nd rfl (by first | exact Or.inl rfl | exact Or.inr rfl)) (pgs_cons (pg_name (i := 3) nd rfl (by first | exact Or.inl rfl | exact Or.inr rfl)) pgs_nil)))) (pss_one (ps_ret (pe_and (pe_df G.is_place (hr.mono (by decide)) (pa_cons (pv 2) (pa_cons (pv 1) pa_nil))) (pe_one (pe_callB cr_isa rfl T.isinstance (by decide +kernel) (pa_cons (pv 3) (pa_cons (pe_bltn rfl T.bool_ (by decide +kernel) (v := .ty "bool") rfl) pa_nil))))))))), ?_⟩
  refine ⟨_, rfl, _, "tuple", "tuple", rfl, .inr ⟨rfl, _, SqT.of ht⟩, .inr (.inr (.inr rfl)), _, rfl, iteF ?_⟩
  refine ⟨_, rfl, _, _, rfl, .inr (SqT.of ht), rfl, false, rfl, iteF ?_⟩
  refine ⟨_, rfl, _, _, rfl, SqT.of ht, rfl, _, _, rfl, _, _, rfl, rfl, ?_⟩
  refine ⟨_, rfl, _, rfl, t.1, n, rfl, fun H1 s1 => ⟨_, rfl, ?_⟩⟩
  rw [decide_eq_true h1, decide_eq_true h2]
  refine iteT ?_
  exact ⟨_, rfl, .bl t.2, "bool", "bool", rfl, rfl, .inr (.inl rfl), q _ s1⟩
abbrev s_is_row : Stmt := top 22
theorem sc_is_row : FnScope ["value", "each_once", "step", "place", "truth"] ["value"] (defScope s_is_row) := ⟨rfl, rfl, rfl, by decide +kernel, rfl, by decide +kernel, by decide +kernel⟩
def sp_is_row (K : PySem.W.Frag) : Sp := fun vs H Q _ => ∃ a st, vs = [.ref a] ∧ RowAt K H a st ∧ RowGood st ∧ ∀ H', Same H H' → Q (.bl true) H'
structure GX4 (P : Program) (w : World) (K : PySem.W.Frag) (mg : Str → Option Value) (base : Heap) : Prop where
  is_count_of_places : Df P w K mg base 2 "is_count_of_places" ["value"] (sp_is_count_of_places K)
  is_step : Df P w K mg base 3 "is_step" ["value", "places"] sp_is_step
theorem df_is_row (T : Blt mg) (G : GX4 P w K mg base) (h : HasDef K mg "is_row" s_is_row ["value"]) : Df P w K mg base 4 "is_row" ["value"] (sp_is_row K) := by
  refine h.df fun f fd F => ?_
  refine F.ok sc_is_row (fun vs H Q E h => ?_) (fun cdv A outer s H vs Q E hr h => ?_)
  · obtain ⟨a, st, rfl, _⟩ := h; rfl
  have nd := sc_is_row.nd
  obtain ⟨a, st, rfl, hrow, hg, q⟩ := h
  obtain ⟨rs, hs, hp⟩ := id hrow
  have hrl : rs.length = st.length := hp.length
  have hll : (rs.map V.ref).length = st.length := by rw [List.length_map, hrl]
  have l1 := hg.lo
  have l2 := hg.hi
  refine ⟨_, (pss_cons (ps_if (PW.pt (pw_or (pt_not (pt_val (pe_callB cr_isa rfl T.isinstance (by decide +kernel) (pa_cons (pv 0) (pa_cons (pe_bltn rfl T.list_ (by decide +kernel) (v := .ty "list") rfl) pa_nil))))) (pw_or1 (pt_not (pt_val (pe_df G.is_count_of_places (hr.mono (by decide)) (pa_cons (pe_callB call_len_seq rfl T.len PySem.boot_len (pa_cons (pv 0) pa_nil)) pa_nil))))))) (pss_one (ps_ret pe_bl)) pss_nil) (pss_cons (ps_if (pt_not (pt_val (pe_callB (cr_all rfl) rfl T.all (by decide +kernel) (pa_cons (pe_lc (own := [("step", 2)]) (g := (gName 2)) rfl nd (pi_list (pv 0)) (blkOk_by (own := [("step", 2)]) (N := ["value", "each_once", "step", "place", "truth"]) (sc := (defScope s_is_row)) (by decide +kernel)) (fun _ _ _ _ _ => (pg_name (i := 2) nd rfl (by first | exact Or.inl rfl | exact Or.inr rfl))) (fun _ _ _ _ _ => pts_nil) (fun _ _ _ _ _ => (pe_df G.is_step (hr.mono (by decide)) (pa_cons (pv 2) (pa_cons (pe_callB (call_len_seqK (K := K)) rfl T.len PySem.boot_len (pa_cons (pv 0) pa_nil)) pa_nil))))) pa_nil)))) (pss_one (ps_ret pe_bl)) pss_nil) (pss_cons (ps_set (i := 1) nd rfl (by first | exact Or.inl rfl | exact Or.inr rfl) (pe_cmpR (op_eqD hr.units) (pe_callB cr_sorted rfl T.sorted (by decide +kernel) (pa_cons (pe_lc (own := [("place", 3), ("truth", 4)]) (g := (gTup K 2 (gCons (gName 3) (gCons (gName 4) gNil)))) rfl nd (pi_list (pv 0)) (blkOk_by (own := [("place", 3), ("truth", 4)]) (N := ["value", "each_once", "step", "place", "truth"]) (sc := (defScope s_is_row)) (by decide +kernel)) (fun _ _ _ _ _ => (pg_tup rfl (pgs_cons (pg_name (i := 3) nd rfl (by first | exact Or.inl rfl | exact Or.inr rfl)) (pgs_cons (pg_name (i := 4) nd rfl (by first | exact Or.inl rfl | exact Or.inr rfl)) pgs_nil)))) (fun _ _ _ _ _ => pts_nil) (fun _ _ _ _ _ => (pv 3))) pa_nil)) (pe_callTy (call_list_rng rfl) rfl T.list_ (by decide +kernel) (pa_cons (pe_callTy call_rng rfl T.range (by decide +kernel) (pa_cons (pe_callB call_len_seq rfl T.len PySem.boot_len (pa_cons (pv 0) pa_nil)) pa_nil)) pa_nil)) (nomark _))) (pss_one (ps_ret (pe_and (pv 1) (pe_one (pe_cmpR op_isB (pe_ix ix_seq (pe_ix ix_seq (pv 0) pe_int (fun _ _ => rfl)) pe_int (fun _ _ => rfl)) pe_bl (nomark _))))))))), ?_⟩
  refine ⟨_, rfl, _, "list", "list", rfl, .inl ⟨rfl, _, hs⟩, .inr (.inr (.inl rfl)), _, rfl, iteF ?_⟩
  refine ⟨_, rfl, a, _, rfl, .inl hs, ?_⟩
  rw [hll]
  refine ⟨(st.length : Int), rfl, fun H1 s1 => ⟨_, rfl, ?_⟩⟩
  rw [decide_eq_true (show (1 : Int) ≤ st.length by omega), decide_eq_true (show (st.length : Int) < 41 by omega)]
  refine iteF ?_
  have stepAt : ∀ {i : Nat} {x : V}, (rs.map V.ref)[i]? = some x → ∃ r s, x = .ref r ∧ st[i]? = some s ∧ StepAt H r s := fun {i x} hx => by
    rw [List.getElem?_map] at hx
    cases hr1 : rs[i]? with
    | none => rw [hr1] at hx; cases hx
    | some r =>
      rw [hr1] at hx
      obtain ⟨t, ht1, ht2⟩ := Paired.at hp hr1
      exact ⟨r, t, (Option.some.inj hx).symm, ht1, ht2⟩
  refine ⟨_, rfl, a, rfl, ⟨_, s1.seq hs⟩, fun D hD => ?_⟩
  refine lc_walk (Walks.list (K := K) (a := a) (xs := rs.map V.ref)) hD (fun H' s' => (s1.trans s').seq hs) (by rw [hll]; omega) (fun _ => true) (fun i y _ => y = .bl true) (fun i y H H' h _ _ => h) (fun Nx i x H2 hi sm hx hk ha => ?_) (fun H' ys s' hy pr => ?_)
  · obtain ⟨r, t, rfl, ht1, ht2⟩ := stepAt hx
    have sH2 := s1.trans sm
    have pl := hg.pl t (List.mem_of_getElem? ht1)
    refine ⟨rfl, yesT ⟨_, rfl, _, rfl, a, _, rfl, .inl (sH2.seq hs), ?_⟩⟩
    rw [hll]
    exact ⟨r, _, t, rfl, sH2 _ _ ht2, pl.1, pl.2, fun H3 s3 => ha _ _ s3 rfl rfl⟩
  rw [paired_map (α := Nat) (n := 0) (H := H) pr, filter_true] at hy
  have sa := s1.trans s'
  refine ⟨D, (List.range (rs.map V.ref).length).map fun _ => true, rfl, SqL.of (by rw [hy, List.map_map]; rfl), _, rfl, ?_⟩
  rw [show ((List.range (rs.map V.ref).length).map fun _ => true).all id = true by simp]
  refine iteF ?_
  refine ⟨_, rfl, a, rfl, ⟨_, sa.seq hs⟩, fun D2 hD2 => ?_⟩
  refine lc_walk (Walks.list (K := K) (a := a) (xs := rs.map V.ref)) hD2 (fun H2 s2 => (sa.trans s2).seq hs) (by rw [hll]; omega) (fun _ => true) (fun i y _ => y = .int ((st.map (·.1)).getD i 0)) (fun i y H H' h _ _ => h) (fun Nx i x H2 hi sm hx hk ha => ?_) (fun H2 ys2 s2 hy2 pr2 => ?_)
  · obtain ⟨r, t, rfl, ht1, ht2⟩ := stepAt hx
    have sH2 := sa.trans sm
    refine ⟨r, _, rfl, SqT.of (sH2 _ _ ht2), rfl, _, _, rfl, _, _, rfl, rfl, rfl, yesT ⟨_, rfl, ?_⟩⟩
    exact ha _ _ (Same.refl _) rfl (by rw [List.getD_eq_getElem?_getD, List.getElem?_map, ht1]; rfl)
  rw [paired_map (α := Nat) (n := 0) (H := H) pr2, filter_true, hll, ← List.length_map (·.1), range_get (l := st.map (·.1)) (f := V.int)] at hy2
  have sb := sa.trans s2
  refine ⟨D2, st.map (·.1), rfl, SqL.of hy2, by rw [List.length_map]; omega, fun ns' p hperm hord hp0 => ?_⟩
  have s3 := same_new' hp0 (.lst (ns'.map V.int))
  have sc := sb.trans s3
  refine ⟨_, rfl, a, _, rfl, .inl (sc.seq hs), ?_⟩
  rw [hll]
  refine ⟨0, (st.length : Int), .inl ⟨rfl, rfl⟩, fun rg hrg => ?_⟩
  have s4 := same_new' hrg (.rng 0 (st.length : Int))
  refine ⟨rg, 0, (st.length : Int), rfl, upd_same, by decide, by decide, by omega, by omega, fun l hl2 => ?_⟩
  have s5 := same_new' hl2 (.lst (rngV 0 ((st.length : Int) - 0).toNat))
  have erng : rngV 0 ((st.length : Int) - 0).toNat = (natI st.length).map V.int := by
    unfold rngV natI
    rw [List.map_map, show ((st.length : Int) - 0).toNat = st.length by omega]
    refine List.map_congr_left fun i _ => ?_
    show V.int (0 + (i : Int)) = V.int (i : Int)
    rw [Int.zero_add]
  have hns : ns' = natI st.length := by
    refine perm_sorted_eq (fun _ _ h1 h2 => Int.le_antisymm h1 h2) (hperm.trans hg.perm) hord ?_
    unfold natI
    rw [List.pairwise_map]
    exact List.pairwise_lt_range.imp fun h => by omega
  refine ⟨_, _, dp_ints (ns := ns') ((s4.trans s5).seq (SqL.of upd_same)), dp_ints (ns := natI st.length) (SqL.of (by rw [upd_same, erng])), sh_ints _, sh_ints _, ?_⟩
  rw [eqv_ints, decide_eq_true hns]
  have sd := sc.trans (s4.trans s5)
  refine ⟨_, rfl, true, rfl, iteT ?_⟩
  obtain ⟨p0, r0, e0⟩ := hg.fst
  obtain ⟨r1, hr1, hr2⟩ := Paired.at' hp (show st[0]? = some (p0, false) by rw [e0]; rfl)
  refine ⟨_, rfl, .inl ⟨a, _, 0, _, rfl, rfl, sd.seq hs, at_of (j := 0) rfl (by rw [List.getElem?_map, hr1]; rfl), ?_⟩⟩
  refine .inr (.inl ⟨r1, _, 1, _, rfl, rfl, SqT.of (sd _ _ hr2), rfl, ?_⟩)
  exact ⟨_, _, rfl, rfl, q _ sd⟩
theorem Paired.app {α β : Type} {F : α → β → Prop} : ∀ {l₁ m₁ : List α} {l₂ m₂ : List β}, Paired F l₁ l₂ → Paired F m₁ m₂ → Paired F (l₁ ++ m₁) (l₂ ++ m₂)
  | _, _, _, _, .nil, h => h
  | _, _, _, _, .cons r t, h => .cons r (Paired.app t h)
theorem paired_refs {H : Hp} {f : Nat → Int × Int} : ∀ {l : List Nat} {ys : List V}, Paired (fun j y => ∃ r, y = .ref r ∧ TupI H r (f j)) l ys → ∃ qs : List Addr, ys = qs.map V.ref ∧ Paired (TupI H) qs (l.map f)
  | _, _, .nil => ⟨[], rfl, .nil⟩
  | _, _, .cons r t => by
    obtain ⟨qs, e, h⟩ := paired_refs t
    obtain ⟨q, e1, h1⟩ := r
    exact ⟨q :: qs, by rw [e, e1]; rfl, .cons h1 h⟩
/-- the ties that a row's place brings, those of the whole row -/
def tieOf (a b : Int) : Int × Int := (if b < a then b else a, if b > a then b else a)
def tiesAt (st : List (Int × Bool)) (i : Nat) : List (Int × Int) := if (st.getD i (0, false)).2 = true then (st.take i).map fun s => tieOf (st.getD i (0, false)).1 s.1 else []
def tiesTo (st : List (Int × Bool)) : Nat → List (Int × Int)
  | 0 => []
  | i + 1 => tiesTo st i ++ tiesAt st i
theorem tiesTo_len (st : List (Int × Bool)) : ∀ i, i ≤ 40 → (tiesTo st i).length ≤ 40 * i
  | 0, _ => Nat.le_refl _
  | i + 1, h => by
    have ih := tiesTo_len st i (by omega)
    rw [tiesTo, List.length_append]
    have : (tiesAt st i).length ≤ i := by
      unfold tiesAt
      split
      · rw [List.length_map, List.length_take]; omega
      · exact Nat.zero_le _
    omega
abbrev s_by_row : Stmt := top 20
theorem sc_by_row : FnScope ["row", "ties", "at", "place", "truth", "ahead", "other"] ["row"] (defScope s_by_row) := ⟨rfl, rfl, rfl, by decide +kernel, rfl, by decide +kernel, by decide +kernel⟩
def sp_by_row (K : PySem.W.Frag) : Sp := fun vs H Q _ => ∃ a st, vs = [.ref a] ∧ RowAt K H a st ∧ RowGood st ∧ ∀ H' p ts, Same H H' → NewTies H H' p ts → Srt ts (tiesTo st st.length) → Q (.ref p) H'
structure GX4b (P : Program) (w : World) (K : PySem.W.Frag) (mg : Str → Option Value) (base : Heap) : Prop where
  is_row : Df P w K mg base 4 "is_row" ["value"] (sp_is_row K)
theorem df_by_row (T : Blt mg) (G : GX4b P w K mg base) (h : HasDef K mg "by_row" s_by_row ["row"]) : Df P w K mg base 5 "by_row" ["row"] (sp_by_row K) := by
  refine h.df fun f fd F => ?_
  refine F.ok sc_by_row (fun vs H Q E h => ?_) (fun cdv A outer s H vs Q E hr h => ?_)
  · obtain ⟨a, st, rfl, _⟩ := h; rfl
  have nd := sc_by_row.nd
  obtain ⟨a, st, rfl, hrow, hg, q⟩ := h
  obtain ⟨rs, hs, hp⟩ := id hrow
  have hrl : rs.length = st.length := hp.length
  have hll : (rs.map V.ref).length = st.length := by rw [List.length_map, hrl]
  have l1 := hg.lo
  have l2 := hg.hi
  refine ⟨_, (pss_cons (ps_if (pt_not (pt_val (pe_df G.is_row (hr.mono (by decide)) (pa_cons (pv 0) pa_nil)))) (pss_one ps_never) pss_nil) (pss_cons (ps_set (i := 1) nd rfl (by first | exact Or.inl rfl | exact Or.inr rfl) (pe_lst pa_nil)) (pss_cons (ps_for PassesOwn.never rfl (pi_enum rfl T.enumerate (pa_cons (pv 0) pa_nil)) (pg_tup rfl (pgs_cons (pg_name (i := 2) nd rfl (by first | exact Or.inl rfl | exact Or.inr rfl)) (pgs_cons (pg_tup rfl (pgs_cons (pg_name (i := 3) nd rfl (by first | exact Or.inl rfl | exact Or.inr rfl)) (pgs_cons (pg_name (i := 4) nd rfl (by first | exact Or.inl rfl | exact Or.inr rfl)) pgs_nil))) pgs_nil))) (pss_one (ps_if (pt_val (pv 4)) (pss_one (ps_expr (pe_bm PySem.F.plainAttrs_list PySem.F.slot_list_extend PySem.F.type_list_extend mt_extend (pv 1) (pa_cons (pe_lc (own := [("ahead", 5), ("other", 6)]) (g := (gTup K 2 (gCons (gName 5) (gCons (gName 6) gNil)))) rfl nd (pi_list (pe_slice sl_list (pv 0) po_none (po_some (pv 2)))) (blkOk_by (own := [("ahead", 5), ("other", 6)]) (N := ["row", "ties", "at", "place", "truth", "ahead", "other"]) (sc := (defScope s_by_row)) (by decide +kernel)) (fun _ _ _ _ _ => (pg_tup rfl (pgs_cons (pg_name (i := 5) nd rfl (by first | exact Or.inl rfl | exact Or.inr rfl)) (pgs_cons (pg_name (i := 6) nd rfl (by first | exact Or.inl rfl | exact Or.inr rfl)) pgs_nil)))) (fun _ _ _ _ _ => pts_nil) (fun _ _ _ _ _ => (pe_tup (pa_cons (pe_callB (call_min2 rfl) rfl T.min (by decide +kernel) (pa_cons (pv 3) (pa_cons (pv 5) pa_nil))) (pa_cons (pe_callB (call_max2 rfl) rfl T.max (by decide +kernel) (pa_cons (pv 3) (pa_cons (pv 5) pa_nil))) pa_nil))))) pa_nil)))) pss_nil))) (pss_one (ps_ret (pe_callB cr_sortedT rfl T.sorted (by decide +kernel) (pa_cons (pv 1) pa_nil))))))), ?_⟩
  refine ⟨_, rfl, a, st, rfl, hrow, hg, fun H1 s1 => ⟨_, rfl, iteF ?_⟩⟩
  refine ⟨(by show 0 ≤ sizeLine; decide), fun D hD => ?_⟩
  have s2 := same_new' hD (.lst [])
  refine ⟨_, rfl, a, _, rfl, (s1.trans s2).seq hs, ?_⟩
  refine for_walk (Walks.enum (K := K) (a := a) (xs := rs.map V.ref)) (fun i σ H' => Same H1 H' ∧ (∃ x y u v w, σ = [some (.ref a), some (.ref D), x, y, u, v, w]) ∧ i ≤ st.length ∧ ∃ ps : List Addr, H' D = some (.lst (ps.map V.ref)) ∧ Paired (TupI H') ps (tiesTo st i)) (fun i σ H' h => (s1.trans h.1).seq hs)
    ⟨s2, ⟨_, _, _, _, _, rfl⟩, Nat.zero_le _, [], upd_same, .nil⟩ (fun i x σ H2 H3 hi hP s3 hx => ?_) (fun σ H' h => ?_)
  · obtain ⟨s12, ⟨x1, x2, x3, x4, x5, rfl⟩, hil, ps, hD2, hps⟩ := hP
    obtain ⟨T2, x0, rfl, hT2, hx2⟩ := hx
    rw [List.getElem?_map] at hx2
    cases hr1 : rs[i]? with
    | none => rw [hr1] at hx2; cases hx2
    | some r =>
      rw [hr1] at hx2
      have ex : x0 = .ref r := (Option.some.inj hx2).symm
      subst ex
      obtain ⟨t, ht1, ht2⟩ := Paired.at hp hr1
      have hti : i < st.length := (List.getElem?_eq_some_iff.mp ht1).1
      have egd : st.getD i (0, false) = t := by rw [List.getD_eq_getElem?_getD, ht1]; rfl
      have sH3 : Same H H3 := (s1.trans s12).trans s3
      refine ⟨T2, _, rfl, SqT.of hT2, rfl, _, _, rfl, _, _, rfl, ?_⟩
      refine ⟨r, _, rfl, SqT.of (sH3 _ _ ht2), rfl, _, _, rfl, _, _, rfl, rfl, rfl, ?_⟩
      refine ⟨_, rfl, t.2, rfl, ?_⟩
      refine ite2 (fun c => ?_) (fun c => ?_)
      · have s13 := s12.trans s3
        have hD3 := s3 _ _ hD2
        refine ⟨_, rfl, .inl ⟨rfl, _, SqL.of hD3⟩, ?_⟩
        refine ⟨_, rfl, _, rfl, (i : Int), rfl, a, _, rfl, sH3.seq hs, fun p hp0 => ?_⟩
        rw [cut_to]
        have s4 := same_new' hp0 (.lst ((rs.map V.ref).take i))
        refine ⟨p, rfl, ⟨_, SqL.of upd_same⟩, fun D2 hD2n => ?_⟩
        have hlen : ((rs.map V.ref).take i).length = i := by rw [List.length_take, hll]; omega
        refine lc_walk (Walks.list (K := K) (a := p) (xs := (rs.map V.ref).take i)) hD2n (fun H' s' => s'.seq (SqL.of upd_same)) (by rw [hlen]; omega) (fun _ => true) (fun j y H => ∃ r, y = .ref r ∧ TupI H r (tieOf t.1 (st.getD j (0, false)).1)) (fun j y H H' h hD k => ?_) (fun Nx j x H4 hj sm hx hk ha => ?_) (fun H5 ys s5 hy pr => ?_)
        · obtain ⟨r2, rfl, hr2⟩ := h
          refine ⟨r2, rfl, k _ _ hr2 fun z => ?_⟩
          obtain ⟨l, hl⟩ := hD
          have hr2' : H r2 = some (.tup _) := hr2
          rw [z, hl] at hr2'
          cases hr2'
        · rw [hlen] at hj
          rw [List.getElem?_take_of_lt hj, List.getElem?_map] at hx
          cases hr3 : rs[j]? with
          | none => rw [hr3] at hx; cases hx
          | some r3 =>
            rw [hr3] at hx
            have ex : x = .ref r3 := (Option.some.inj hx).symm
            subst ex
            obtain ⟨t3, ht3, ht4⟩ := Paired.at hp hr3
            have e3 : st.getD j (0, false) = t3 := by rw [List.getD_eq_getElem?_getD, ht3]; rfl
            have sH4 := sH3.trans (s4.trans sm)
            refine ⟨r3, _, rfl, SqT.of (sH4 _ _ ht4), rfl, _, _, rfl, _, _, rfl, rfl, rfl, yesT ?_⟩
            refine ⟨_, rfl, _, rfl, t.1, t3.1, rfl, ?_⟩
            refine ⟨_, rfl, _, rfl, t.1, t3.1, rfl, ?_⟩
            refine ⟨(by show 2 ≤ sizeLine; decide), fun q1 hq1 => ?_⟩
            exact ha _ _ (same_new' hq1 _) rfl ⟨q1, rfl, by rw [e3]; exact upd_same⟩
        · rw [filter_true, hlen] at pr
          obtain ⟨qs, rfl, hqs⟩ := paired_refs pr
          have em : (List.range i).map (fun j => tieOf t.1 (st.getD j (0, false)).1) = tiesAt st i := by
            unfold tiesAt
            rw [egd, if_pos c]
            apply List.ext_getElem
            · rw [List.length_map, List.length_range, List.length_map, List.length_take]; omega
            · intro j h1 h2
              rw [List.length_map, List.length_range] at h1
              rw [List.getElem_map, List.getElem_map, List.getElem_range, List.getElem_take, List.getD_eq_getElem?_getD, List.getElem?_eq_getElem (by omega)]
              rfl
          rw [em] at hqs
          have s35 := s4.trans s5
          have hD5 := s35 _ _ hD3
          have ne1 : D ≠ D2 := ne_of_none (s4 _ _ hD3) hD2n
          have hlp := hps.length
          have htl := tiesTo_len st i (by omega)
          have hql := hqs.length
          have htl2 := tiesTo_len st (i + 1) (by omega)
          rw [tiesTo, List.length_append] at htl2
          refine ⟨D, D2, _, _, rfl, rfl, hD5, hy, by rw [List.length_map, List.length_map, sizeLine_eq]; omega, ?_⟩
          have up : ∀ r u, H5 r = some (.tup u) → upd H5 D (.lst (ps.map V.ref ++ qs.map V.ref)) r = some (.tup u) := fun r u e => by
            rw [upd_ne fun z => by rw [z, hD5] at e; cases e]
            exact e
          refine ⟨fun b o e => ?_, ⟨_, _, _, _, _, rfl⟩, hti, ps ++ qs, by rw [upd_same, List.map_append], ?_⟩
          · rw [upd_ne (ne_of_none e hD)]
            exact s35 _ _ (s13 _ _ e)
          · rw [tiesTo]
            exact Paired.app (Paired.mapP hps fun r u e => up r _ (s35 _ _ (s3 _ _ e))) (Paired.mapP hqs fun r u e => up r _ e)
      · refine ⟨s12.trans s3, ⟨_, _, _, _, _, rfl⟩, hti, ps, s3 _ _ hD2, ?_⟩
        rw [tiesTo, tiesAt, egd, if_neg c, List.append_nil]
        exact Paired.mapP hps fun r u e => s3 _ _ e
  · obtain ⟨s12, ⟨x1, x2, x3, x4, x5, rfl⟩, hil, ps, hD2, hps⟩ := h
    rw [hll] at hps
    refine ⟨_, rfl, sortedT_of (ts := tiesTo st st.length) ⟨ps, SqL.of hD2, hps⟩ fun ts' p H3 hsrt s3 hnew => ?_⟩
    exact q H3 p ts' (s1.trans (s12.trans s3)) ⟨(s1.trans s12).free hnew.1, hnew.2⟩ hsrt
end
end Tip
set_option Elab.async false
set_option linter.all false
set_option maxRecDepth 100000
namespace Tip
open PySem PySem.Spec PyProof.Rows L2
theorem run_last {g : Nat → Int} {lf : List Nat} {tt : Nat} {out : List (Int × Bool)} (h : Run g lf tt out) : lf ≠ [] → ∃ x, out.getLast? = some (x, false) := by
  induction h with
  | nil => intro z; exact absurd rfl z
  | @low x r tt out hx hr ih =>
    intro _
    cases hr with
    | nil => exact ⟨_, rfl⟩
    | low a b => obtain ⟨y, hy⟩ := ih (by simp); exact ⟨y, by rw [List.getLast?_cons, hy]; rfl⟩
    | high a b c d e => obtain ⟨y, hy⟩ := ih (by rw [b]; simp); exact ⟨y, by rw [List.getLast?_cons, hy]; rfl⟩
  | @high x y r lf tt out h0 e hx hy hr ih =>
    intro _
    subst e
    by_cases hr0 : r = []
    · subst hr0
      simp at h0 hy
      subst h0
      exact absurd (by omega) hx
    · obtain ⟨z, hz⟩ := ih hr0
      exact ⟨z, by rw [List.getLast?_cons, hz]; rfl⟩
theorem isRow_fst {g : Nat → Int} {n : Nat} {out : List (Int × Bool)} (hn : 1 ≤ n) (h : IsRow g n (some out)) : ∃ p r, out.reverse = (p, false) :: r := by
  obtain ⟨os, ⟨xs, e, hp, _⟩, s⟩ := h
  have e' : os = xs := (List.map_inj_right (fun a b h => by have h' : (a : Int) = (b : Int) := h; omega)).mp e
  subst e'
  have hne : os ≠ [] := fun z => by have := hp.length_eq; rw [z, List.length_range] at this; simp at this; omega
  obtain ⟨x, hx⟩ := run_last (s.run out rfl) hne
  obtain ⟨r, hr⟩ := List.getLast?_eq_some_iff.mp hx
  exact ⟨x, r.reverse, by rw [hr]; simp⟩
theorem RowOk.good {n : Nat} {ts : List (Int × Int)} {st : List (Int × Bool)} (ok : WebOk n ts) (h : RowOk n ts st) (hf : ∃ p r, st = (p, false) :: r) : RowGood st := by
  have h1 := ok.lo
  have h2 := ok.hi
  have := h.len
  exact ⟨by omega, by omega, by rw [this]; exact h.perm, hf⟩
end Tip
set_option Elab.async false
set_option linter.all false
set_option maxRecDepth 100000
set_option maxHeartbeats 4000000
set_option Elab.async false
set_option linter.all false
set_option maxRecDepth 100000
namespace Tip
open PySem PySem.Spec PyProof.Rows L2
theorem tieOf_lt {a b : Int} (h : a ≠ b) : (tieOf a b).1 < (tieOf a b).2 := by
  unfold tieOf
  show (if b < a then b else a) < if b > a then b else a
  split <;> split <;> omega
theorem tieOf_cases (a b : Int) : tieOf a b = (a, b) ∨ tieOf a b = (b, a) := by
  unfold tieOf
  rcases Int.lt_trichotomy a b with h | h | h
  · left; rw [if_neg (by omega), if_pos (by omega)]
  · left; subst h; simp
  · right; rw [if_pos (by omega), if_neg (by omega)]
theorem tieOf_inj {a b c d : Int} (h : tieOf a b = tieOf c d) : (a = c ∧ b = d) ∨ (a = d ∧ b = c) := by
  rcases tieOf_cases a b with e | e <;> rcases tieOf_cases c d with f | f <;> rw [e, f] at h <;> have h1 := congrArg Prod.fst h <;> have h2 := congrArg Prod.snd h <;> dsimp only at h1 h2
  · exact .inl ⟨h1, h2⟩
  · exact .inr ⟨h1, h2⟩
  · exact .inr ⟨h2, h1⟩
  · exact .inl ⟨h2, h1⟩
theorem mem_tiesTo {st : List (Int × Bool)} {t : Int × Int} : ∀ {m : Nat}, m ≤ st.length → (t ∈ tiesTo st m ↔ ∃ (i j : Nat) (s u : Int × Bool), j < i ∧ i < m ∧ st[i]? = some s ∧ st[j]? = some u ∧ s.2 = true ∧ t = tieOf s.1 u.1)
  | 0, _ => by
    constructor
    · intro h; simp [tiesTo] at h
    · rintro ⟨i, j, s, u, _, h, _⟩; omega
  | m + 1, hm => by
    have ih := mem_tiesTo (st := st) (t := t) (m := m) (by omega)
    have eg : st.getD m (0, false) = st[m]'(by omega) := by rw [List.getD_eq_getElem?_getD, List.getElem?_eq_getElem (by omega)]; rfl
    rw [tiesTo, List.mem_append, ih]
    constructor
    · rintro (⟨i, j, s, u, h1, h2, h3⟩ | h)
      · exact ⟨i, j, s, u, h1, by omega, h3⟩
      · unfold tiesAt at h
        rw [eg] at h
        split at h
        · rename_i hb
          obtain ⟨u, hu, e⟩ := List.mem_map.mp h
          obtain ⟨j, hj, ej⟩ := List.mem_iff_getElem.mp hu
          rw [List.length_take] at hj
          rw [List.getElem_take] at ej
          exact ⟨m, j, st[m]'(by omega), u, by omega, by omega, List.getElem?_eq_getElem _, by rw [List.getElem?_eq_getElem (by omega), ej], hb, e.symm⟩
        · simp at h
    · rintro ⟨i, j, s, u, h1, h2, h3, h4, h5, h6⟩
      by_cases hi : i < m
      · exact .inl ⟨i, j, s, u, h1, hi, h3, h4, h5, h6⟩
      · have : i = m := by omega
        subst this
        right
        unfold tiesAt
        have es : st[i]'(by omega) = s := (List.getElem?_eq_some_iff.mp h3).2
        rw [eg, es, if_pos h5]
        refine List.mem_map.mpr ⟨u, List.mem_iff_getElem.mpr ⟨j, by rw [List.length_take]; omega, ?_⟩, h6.symm⟩
        rw [List.getElem_take]
        exact (List.getElem?_eq_some_iff.mp h4).2
theorem row_inj {st : List (Int × Bool)} (hn : (st.map (·.1)).Nodup) {i j : Nat} {s u : Int × Bool} (h1 : st[i]? = some s) (h2 : st[j]? = some u) (e : s.1 = u.1) : i = j :=
  nd_ix hn (i := i) (j := j) (x := s.1) (by rw [List.getElem?_map, h1]; rfl) (by rw [List.getElem?_map, h2, e]; rfl)
theorem tiesTo_nd {st : List (Int × Bool)} (hn : (st.map (·.1)).Nodup) : ∀ {m : Nat}, m ≤ st.length → (tiesTo st m).Nodup
  | 0, _ => List.nodup_nil
  | m + 1, hm => by
    have ih := tiesTo_nd hn (m := m) (by omega)
    rw [tiesTo, List.nodup_append]
    have eg : st.getD m (0, false) = st[m]'(by omega) := by rw [List.getD_eq_getElem?_getD, List.getElem?_eq_getElem (by omega)]; rfl
    refine ⟨ih, ?_, fun a ha b hb e => ?_⟩
    · unfold tiesAt
      split
      · refine nodup_map_on (fun x hx y hy e => ?_) ?_
        · obtain ⟨j, hj, ej⟩ := List.mem_iff_getElem.mp hx
          obtain ⟨l, hl, el⟩ := List.mem_iff_getElem.mp hy
          rw [List.length_take] at hj hl
          rw [List.getElem_take] at ej el
          have gj : st[j]? = some x := by rw [List.getElem?_eq_getElem (by omega), ej]
          have gl : st[l]? = some y := by rw [List.getElem?_eq_getElem (by omega), el]
          have gm : st[m]? = some (st[m]'(by omega)) := List.getElem?_eq_getElem _
          rcases tieOf_inj e with ⟨_, q⟩ | ⟨q, _⟩
          · have := row_inj hn gj gl q
            subst this
            rw [gj] at gl
            exact Option.some.inj gl
          · rw [eg] at q
            have := row_inj hn gm gl q
            omega
        · have : st.Nodup := (List.pairwise_map.mp hn).imp fun h e => h (by rw [e])
          exact this.sublist (List.take_sublist _ _)
      · exact List.nodup_nil
    · subst e
      obtain ⟨i, j, s, u, h1, h2, h3, h4, _, h6⟩ := (mem_tiesTo (by omega)).mp ha
      unfold tiesAt at hb
      split at hb
      · obtain ⟨v, hv, e⟩ := List.mem_map.mp hb
        rw [h6] at e
        rw [eg] at e
        have gm : st[m]? = some (st[m]'(by omega)) := List.getElem?_eq_getElem _
        rcases tieOf_inj e with ⟨q, _⟩ | ⟨q, _⟩
        · have := row_inj hn gm h3 q; omega
        · have := row_inj hn gm h4 q; omega
      · simp at hb
theorem tiesTo_few (st : List (Int × Bool)) : ∀ i, 2 * (tiesTo st i).length + i ≤ i * i
  | 0 => by simp [tiesTo]
  | i + 1 => by
    have ih := tiesTo_few st i
    rw [tiesTo, List.length_append]
    have : (tiesAt st i).length ≤ i := by
      unfold tiesAt
      split
      · rw [List.length_map, List.length_take]; omega
      · exact Nat.zero_le _
    have e : (i + 1) * (i + 1) = i * i + 2 * i + 1 := by rw [Nat.add_mul, Nat.mul_add]; omega
    omega
theorem row_web {st : List (Int × Bool)} {ts : List (Int × Int)} (hg : RowGood st) (hp : ts.Perm (tiesTo st st.length)) : WebOk st.length ts ∧ RowOk st.length ts st := by
  have hn : (st.map (·.1)).Nodup := hg.perm.nodup_iff.mpr (natI_nd _)
  have h40 := hg.hi
  have h1 := hg.lo
  have pl := hg.pl
  have plA : ∀ {i : Nat} {s : Int × Bool}, st[i]? = some s → 0 ≤ s.1 ∧ s.1 < st.length := fun h => pl _ (List.mem_of_getElem? h)
  refine ⟨⟨by omega, by omega, fun t ht => ?_, hp.nodup_iff.mpr (tiesTo_nd hn (Nat.le_refl _)), ?_⟩, ⟨hg.perm, ?_⟩⟩
  · obtain ⟨i, j, s, u, h1, h2, h3, h4, _, h6⟩ := (mem_tiesTo (Nat.le_refl _)).mp (hp.mem_iff.mp ht)
    have hne : s.1 ≠ u.1 := fun e => by have := row_inj hn h3 h4 e; omega
    have hlt := tieOf_lt hne
    have a := plA h3
    have b := plA h4
    have : 0 ≤ t.1 ∧ t.1 < st.length ∧ 0 ≤ t.2 ∧ t.2 < st.length ∧ t.1 < t.2 := by
      rw [h6]
      rcases tieOf_cases s.1 u.1 with e | e <;> rw [e] at hlt ⊢ <;> exact ⟨by omega, by omega, by omega, by omega, hlt⟩
    unfold tieOk
    simp only [Bool.and_eq_true, decide_eq_true_eq]
    exact ⟨⟨this.1, this.2.1⟩, ⟨this.2.2.1, this.2.2.2.1⟩, this.2.2.2.2⟩
  · rw [hp.length_eq]
    have := tiesTo_few st st.length
    have h2 : st.length * st.length ≤ 40 * 40 := Nat.mul_le_mul h40 h40
    omega
  · rw [List.pairwise_iff_getElem]
    intro j i hj hi hji
    have gi : st[i]? = some st[i] := List.getElem?_eq_getElem hi
    have gj : st[j]? = some st[j] := List.getElem?_eq_getElem hj
    rw [Bool.eq_iff_iff]
    unfold tiedB
    rw [List.any_eq_true]
    constructor
    · rintro ⟨t, ht, e⟩
      obtain ⟨i', j', s, u, h1, h2, h3, h4, h5, h6⟩ := (mem_tiesTo (Nat.le_refl _)).mp (hp.mem_iff.mp ht)
      simp only [Bool.or_eq_true, decide_eq_true_eq] at e
      have e' : (s.1 = st[j].1 ∧ u.1 = st[i].1) ∨ (s.1 = st[i].1 ∧ u.1 = st[j].1) := by
        rcases e with e | e
        · rw [h6] at e
          rcases tieOf_cases s.1 u.1 with f | f <;> rw [f] at e <;> have q1 := congrArg Prod.fst e <;> have q2 := congrArg Prod.snd e <;> dsimp only at q1 q2
          · exact .inl ⟨q1, q2⟩
          · exact .inr ⟨q2, q1⟩
        · rw [h6] at e
          rcases tieOf_cases s.1 u.1 with f | f <;> rw [f] at e <;> have q1 := congrArg Prod.fst e <;> have q2 := congrArg Prod.snd e <;> dsimp only at q1 q2
          · exact .inr ⟨q2, q1⟩
          · exact .inl ⟨q1, q2⟩
      rcases e' with ⟨q1, q2⟩ | ⟨q1, q2⟩
      · have := row_inj hn h3 gj q1
        have := row_inj hn h4 gi q2
        omega
      · have := row_inj hn h3 gi q1
        subst this
        rw [gi] at h3
        rw [Option.some.inj h3]
        exact h5
    · intro hb
      refine ⟨tieOf st[i].1 st[j].1, hp.mem_iff.mpr ((mem_tiesTo (Nat.le_refl _)).mpr ⟨i, j, st[i], st[j], hji, hi, gi, gj, hb, rfl⟩), ?_⟩
      rcases tieOf_cases st[i].1 st[j].1 with e | e <;> rw [e] <;> simp
theorem WebOk.perm {n : Int} {ts ts' : List (Int × Int)} (h : ts'.Perm ts) (ok : WebOk n ts) : WebOk n ts' := ⟨ok.lo, ok.hi, fun t ht => ok.all t (h.mem_iff.mp ht), h.nodup_iff.mpr ok.nd, by rw [h.length_eq]; exact ok.few⟩
end Tip
set_option Elab.async false
set_option linter.all false
set_option maxRecDepth 100000
namespace Tip
open PySem PySem.Spec PyProof.Rows L2
def tiesR : List (Int × Bool) → List (Int × Int)
  | [] => []
  | s :: r => (if s.2 = true then r.map fun u => tieOf s.1 u.1 else []) ++ tiesR r
theorem tiesTo_app (st u : List (Int × Bool)) : ∀ i, i ≤ st.length → tiesTo (st ++ u) i = tiesTo st i
  | 0, _ => rfl
  | i + 1, h => by
    rw [tiesTo, tiesTo, tiesTo_app st u i (by omega)]
    congr 1
    unfold tiesAt
    have e : (st ++ u).getD i (0, false) = st.getD i (0, false) := by
      rw [List.getD_eq_getElem?_getD, List.getD_eq_getElem?_getD, List.getElem?_append_left (by omega)]
    rw [e, List.take_append_of_le_length (by omega)]
theorem tiesR_perm : ∀ out : List (Int × Bool), (tiesTo out.reverse out.length).Perm (tiesR out)
  | [] => List.Perm.refl _
  | s :: r => by
    rw [List.reverse_cons, List.length_cons, tiesTo, tiesTo_app _ _ _ (by rw [List.length_reverse]; exact Nat.le_refl _)]
    have e : tiesAt (r.reverse ++ [s]) r.length = if s.2 = true then r.reverse.map (fun u => tieOf s.1 u.1) else [] := by
      unfold tiesAt
      have : (r.reverse ++ [s]).getD r.length (0, false) = s := by
        rw [List.getD_eq_getElem?_getD, List.getElem?_append_right (by simp)]; simp
      rw [this, List.take_append_of_le_length (by simp), List.take_of_length_le (by simp)]
    rw [e, tiesR]
    refine List.perm_append_comm.trans (List.Perm.append ?_ (tiesR_perm r))
    split
    · exact (List.reverse_perm r).map _
    · exact List.Perm.refl _
theorem run_perm {g : Nat → Int} {lf : List Nat} {tt : Nat} {out : List (Int × Bool)} (h : Run g lf tt out) : (out.map (·.1)).Perm (lf.map fun k : Nat => (k : Int)) := by
  induction h with
  | nil => exact List.Perm.refl _
  | low _ _ ih => exact ih.cons _
  | @high x y r lf tt out _ e _ _ _ ih =>
    subst e
    rw [List.map_append]
    exact (ih.cons _).trans (List.perm_append_comm (l₁ := [(y : Int)]))
theorem isRow_good {g : Nat → Int} {n : Nat} {out : List (Int × Bool)} (h1 : 1 ≤ n) (h2 : n ≤ 40) (h : IsRow g n (some out)) : RowGood out.reverse ∧ out.length = n := by
  have hf := isRow_fst h1 h
  obtain ⟨os, ⟨xs, e, hp, _⟩, s⟩ := h
  have e' : os = xs := (List.map_inj_right (fun a b h => by have h' : (a : Int) = (b : Int) := h; omega)).mp e
  subst e'
  have rp := run_perm (s.run out rfl)
  have rp2 : (out.map (·.1)).Perm (natI n) := rp.trans (hp.map _)
  have hl : out.length = n := by have := rp2.length_eq; rw [List.length_map, natI_len] at this; exact this
  refine ⟨⟨by rw [List.length_reverse]; omega, by rw [List.length_reverse]; omega, ?_, hf⟩, hl⟩
  rw [List.length_reverse, hl, List.map_reverse]
  exact (List.reverse_perm _).trans rp2
theorem deg_app (a b : List (Int × Int)) (v : Int) : deg (a ++ b) v = deg a v + deg b v := List.countP_append
theorem tieOf_has (y u v : Int) : (decide ((tieOf y u).1 = v) || decide ((tieOf y u).2 = v)) = (decide (y = v) || decide (u = v)) := by
  rcases tieOf_cases y u with e | e <;> rw [e]
  exact Bool.or_comm _ _
theorem deg_map (y v : Int) (l : List Int) : deg (l.map (tieOf y)) v = l.countP fun u => decide (y = v) || decide (u = v) := by
  unfold deg
  rw [List.countP_map]
  refine List.countP_congr fun u _ => ?_
  show (decide ((tieOf y u).1 = v) || decide ((tieOf y u).2 = v)) = true ↔ _
  rw [tieOf_has]
theorem countP_one {v : Int} : ∀ {l : List Int}, l.Nodup → v ∈ l → l.countP (fun u => decide (u = v)) = 1
  | [], _, h => by simp at h
  | x :: r, nd, h => by
    have nd' := List.nodup_cons.mp nd
    rw [List.countP_cons]
    by_cases e : x = v
    · subst e
      rw [if_pos (by simp), List.countP_eq_zero.mpr]
      intro u hu
      simp
      exact fun z => nd'.1 (z ▸ hu)
    · rw [if_neg (by simpa using e)]
      have hv : v ∈ r := by
        rcases List.mem_cons.mp h with z | z
        · exact absurd z.symm e
        · exact z
      rw [countP_one nd'.2 hv]
theorem tiesR_mem : ∀ {out : List (Int × Bool)} {t : Int × Int}, t ∈ tiesR out → t.1 ∈ out.map (·.1) ∧ t.2 ∈ out.map (·.1)
  | [], t, h => by simp [tiesR] at h
  | s :: r, t, h => by
    rw [tiesR, List.mem_append] at h
    rcases h with h | h
    · split at h
      · obtain ⟨u, hu, e⟩ := List.mem_map.mp h
        have mu : u.1 ∈ r.map (·.1) := List.mem_map_of_mem (f := (·.1)) hu
        rw [← e]
        rcases tieOf_cases s.1 u.1 with f | f <;> rw [f] <;> simp only [List.map_cons, List.mem_cons]
        · exact ⟨.inl trivial, .inr mu⟩
        · exact ⟨.inr mu, .inl trivial⟩
      · simp at h
    · obtain ⟨h1, h2⟩ := tiesR_mem h
      exact ⟨List.mem_cons_of_mem _ h1, List.mem_cons_of_mem _ h2⟩
theorem deg_out {out : List (Int × Bool)} {v : Int} (h : v ∉ out.map (·.1)) : deg (tiesR out) v = 0 := by
  unfold deg
  rw [List.countP_eq_zero]
  intro t ht e
  simp only [Bool.or_eq_true, decide_eq_true_eq] at e
  have := tiesR_mem ht
  rcases e with e | e <;> rw [e] at this
  · exact h this.1
  · exact h this.2
theorem cast_mem {x : Nat} {l : List Nat} (h : (x : Int) ∈ l.map fun k : Nat => (k : Int)) : x ∈ l := by
  obtain ⟨k, hk, e⟩ := List.mem_map.mp h
  have : k = x := by have e' : (k : Int) = (x : Int) := e; omega
  exact this ▸ hk
theorem cast_nd {l : List Nat} (h : l.Nodup) : (l.map fun k : Nat => (k : Int)).Nodup := nodup_map_on (fun x _ y _ e => by have e' : (x : Int) = (y : Int) := e; omega) h
theorem run_deg {g : Nat → Int} {lf : List Nat} {tt : Nat} {out : List (Int × Bool)} (h : Run g lf tt out) : lf.Nodup → ∀ x ∈ lf, g x = (tt : Int) + (deg (tiesR out) (x : Int) : Int) := by
  induction h with
  | nil => intro _ x hx; simp at hx
  | @low x r tt out hx hr ih =>
    intro nd z hz
    have nd' := List.nodup_cons.mp nd
    have e0 : tiesR (((x : Int), false) :: out) = tiesR out := by rw [tiesR]; rfl
    rw [e0]
    rcases List.mem_cons.mp hz with e | hz
    · subst e
      rw [deg_out (fun m => nd'.1 (cast_mem ((run_perm hr).mem_iff.mp m))), hx]
      simp
    · exact ih nd'.2 z hz
  | @high x y r lf tt out h0 e hx hy hr ih =>
    subst e
    intro nd z hz
    have nd1 := List.nodup_append.mp nd
    have rp := run_perm hr
    have e0 : tiesR (((y : Int), true) :: out) = (out.map (·.1)).map (tieOf (y : Int)) ++ tiesR out := by rw [tiesR, List.map_map]; rfl
    rw [e0, deg_app, deg_map]
    have hol : out.length = r.length := by have := rp.length_eq; simpa using this
    rcases List.mem_append.mp hz with hz | hz
    · have hzy : z ≠ y := nd1.2.2 z hz y (by simp)
      have : ((out.map (·.1)).countP fun u => decide ((y : Int) = (z : Int)) || decide (u = (z : Int))) = 1 := by
        rw [← countP_one (v := (z : Int)) (rp.nodup_iff.mpr (cast_nd nd1.1)) (rp.mem_iff.mpr (List.mem_map_of_mem (f := fun k : Nat => (k : Int)) hz))]
        refine List.countP_congr fun u _ => ?_
        rw [show decide ((y : Int) = (z : Int)) = false from decide_eq_false (by omega), Bool.false_or]
      rw [this, ih nd1.1 z hz]
      push_cast
      omega
    · have ez : z = y := by simpa using hz
      subst ez
      have hn : z ∉ r := fun m => nd1.2.2 z m z (by simp) rfl
      rw [deg_out (fun m => hn (cast_mem (rp.mem_iff.mp m)))]
      have : ((out.map (·.1)).countP fun u => decide ((z : Int) = (z : Int)) || decide (u = (z : Int))) = out.length := by
        rw [← List.length_map (f := (·.1)) (as := out)]
        rw [List.countP_eq_length]
        intro u _
        simp
      rw [this, hol, hy]
      simp
      omega
inductive RunL (g : Nat → Int) : List Nat → Nat → Option (List (Int × Int)) → Prop
  | nil {tt : Nat} : RunL g [] tt (some [])
  | high {y : Nat} {r lf : List Nat} {tt : Nat} {o : Option (List (Int × Int))} : lf = r ++ [y] → g y = (tt : Int) + lf.length - 1 → RunL g r (tt + 1) o → RunL g lf tt (o.map ((r.map fun z : Nat => tieOf (y : Int) (z : Int)) ++ ·))
  | low {x y : Nat} {r : List Nat} {tt : Nat} {o : Option (List (Int × Int))} : (x :: r).getLast? = some y → g y ≠ (tt : Int) + (x :: r).length - 1 → g x = (tt : Int) → RunL g r tt o → RunL g (x :: r) tt o
  | stuck {x y : Nat} {lf : List Nat} {tt : Nat} : lf[0]? = some x → lf.getLast? = some y → g y ≠ (tt : Int) + lf.length - 1 → g x ≠ (tt : Int) → RunL g lf tt none
theorem last_of {x : Nat} {r : List Nat} : ∃ y r', (x :: r).getLast? = some y ∧ x :: r = r' ++ [y] := by
  obtain ⟨y, hy⟩ : ∃ y, (x :: r).getLast? = some y := ⟨_, List.getLast?_eq_some_getLast (by simp)⟩
  obtain ⟨r', er⟩ : ∃ r', x :: r = r' ++ [y] := List.getLast?_eq_some_iff.mp hy
  exact ⟨y, r', hy, er⟩
theorem runL_all (g : Nat → Int) : ∀ (k : Nat) (lf : List Nat) (tt : Nat), lf.length = k → ∃ o, RunL g lf tt o
  | 0, lf, tt, h => by
    have : lf = [] := List.length_eq_zero_iff.mp h
    subst this
    exact ⟨_, .nil⟩
  | k + 1, lf, tt, h => by
    match lf, h with
    | x :: r, h =>
      obtain ⟨y, r', hy, er⟩ := last_of (x := x) (r := r)
      by_cases hg : g y = (tt : Int) + ((x :: r).length : Nat) - 1
      · obtain ⟨o, ho⟩ := runL_all g k r' (tt + 1) (by have := congrArg List.length er; simp at this h; omega)
        exact ⟨_, .high er hg ho⟩
      · by_cases hx : g x = (tt : Int)
        · obtain ⟨o, ho⟩ := runL_all g k r tt (by simpa using h)
          exact ⟨_, .low hy hg hx ho⟩
        · exact ⟨_, .stuck rfl hy hg hx⟩
theorem runS_over {g : Nat → Int} {lf : List Nat} {tt : Nat} {res : Option (List (Int × Bool))} (h : RunS g lf tt res) : ∀ y, lf.getLast? = some y → (tt : Int) + lf.length ≤ g y → res = none := by
  induction h with
  | nil => intro y h; simp at h
  | @low x r tt o hx hr ih =>
    intro y hy hg
    cases r with
    | nil => simp at hy hg; subst hy; omega
    | cons z r =>
      have hy' : (z :: r).getLast? = some y := by rw [List.getLast?_cons_cons] at hy; exact hy
      rw [ih y hy' (by simp at hg ⊢; omega)]
      rfl
  | @high x y r lf tt o h0 e hx hy _ ih =>
    intro y' hy' hg
    rw [e, List.getLast?_append] at hy'
    simp at hy'
    subst hy'
    omega
  | stuck => intro _ _ _; rfl
theorem runL_under {g : Nat → Int} {lf : List Nat} {tt : Nat} {o : Option (List (Int × Int))} (h : RunL g lf tt o) : lf.Pairwise (fun x y => g x ≤ g y) → (∃ x ∈ lf, g x < (tt : Int)) → o = none := by
  induction h with
  | nil => rintro _ ⟨x, hx, _⟩; simp at hx
  | @high y r lf tt o e hy _ ih =>
    rintro hp ⟨x, hx, hg⟩
    subst e
    have hxr : x ∈ r := by
      rcases List.mem_append.mp hx with z | z
      · exact z
      · have : x = y := by simpa using z
        subst this
        simp at hy
        omega
    rw [ih (List.pairwise_append.mp hp).1 ⟨x, hxr, by push_cast; omega⟩]
    rfl
  | @low x y r tt o hl hy hx _ ih =>
    rintro hp ⟨z, hz, hg⟩
    have hp' := List.pairwise_cons.mp hp
    rcases List.mem_cons.mp hz with e | e
    · subst e; omega
    · have := hp'.1 z e
      omega
  | stuck => intro _ _; rfl
theorem runL_of {g : Nat → Int} {lf : List Nat} {tt : Nat} {res : Option (List (Int × Bool))} (h : RunS g lf tt res) : lf.Pairwise (fun x y => g x ≤ g y) → ∃ o, RunL g lf tt o ∧ (res = none → o = none) ∧ ∀ out, res = some out → ∃ ts, o = some ts ∧ ts.Perm (tiesR out) := by
  induction h with
  | nil => intro _; exact ⟨_, .nil, (fun z => by cases z), fun out e => by cases e; exact ⟨[], rfl, List.Perm.refl _⟩⟩
  | @low x r tt o' hx hr ih =>
    intro hp
    have hp' := List.pairwise_cons.mp hp
    obtain ⟨y, r', hy, er⟩ := last_of (x := x) (r := r)
    by_cases hg : g y = (tt : Int) + ((x :: r).length : Nat) - 1
    · cases r with
      | nil =>
        cases hr with
        | nil =>
          have : y = x := by simpa using hy.symm
          subst this
          refine ⟨_, .high (r := []) rfl hg .nil, (fun z => by cases z), fun out e => ?_⟩
          cases e
          exact ⟨[], rfl, List.Perm.refl _⟩
        | high h0 => simp at h0
        | stuck h0 => simp at h0
      | cons z r =>
        have hy' : (z :: r).getLast? = some y := by rw [List.getLast?_cons_cons] at hy; exact hy
        have en : o' = none := runS_over hr y hy' (by rw [hg]; simp; omega)
        subst en
        obtain ⟨o, ho⟩ := runL_all g r'.length r' (tt + 1) rfl
        have hxr : x ∈ r' := by
          cases r' with
          | nil => simp at er
          | cons a b => have := (List.cons.inj er).1; simp [this]
        have hpr : r'.Pairwise (fun x y => g x ≤ g y) := by rw [er] at hp; exact (List.pairwise_append.mp hp).1
        have on := runL_under ho hpr ⟨x, hxr, by push_cast; omega⟩
        subst on
        exact ⟨_, .high er hg ho, fun _ => rfl, fun out e => by cases e⟩
    · obtain ⟨o, ho, h1, h2⟩ := ih hp'.2
      refine ⟨o, .low hy hg hx ho, fun e => h1 (by cases o' with | none => rfl | some _ => cases e), fun out e => ?_⟩
      obtain ⟨out', e1, e2⟩ := Option.map_eq_some_iff.mp e
      obtain ⟨ts, e3, pt⟩ := h2 out' e1
      refine ⟨ts, e3, ?_⟩
      rw [← e2, tiesR]
      exact pt
  | @high x y r lf tt o' h0 e hx hy hr ih =>
    intro hp
    have hp' : r.Pairwise (fun x y => g x ≤ g y) := by rw [e] at hp; exact (List.pairwise_append.mp hp).1
    obtain ⟨o, ho, h1, h2⟩ := ih hp'
    refine ⟨_, .high e hy ho, fun z => ?_, fun out z => ?_⟩
    · rw [h1 (by cases o' with | none => rfl | some _ => cases z)]
      rfl
    · obtain ⟨out', e1, e2⟩ := Option.map_eq_some_iff.mp z
      obtain ⟨ts, e3, pt⟩ := h2 out' e1
      refine ⟨_, by rw [e3]; rfl, ?_⟩
      rw [← e2]
      have e0 : tiesR (((y : Int), true) :: out') = (out'.map (·.1)).map (tieOf (y : Int)) ++ tiesR out' := by rw [tiesR, List.map_map]; rfl
      rw [e0]
      have e4 : (r.map fun z : Nat => tieOf (y : Int) (z : Int)) = (r.map fun k : Nat => (k : Int)).map (tieOf (y : Int)) := by rw [List.map_map]; rfl
      rw [e4]
      exact List.Perm.append ((run_perm (hr.run out' e1)).symm.map _) pt
  | @stuck x y lf tt h0 hl hx hy => intro _; exact ⟨_, .stuck h0 hl hy hx, fun _ => rfl, fun out e => by cases e⟩
theorem lex_of {g : Nat → Int} : ∀ {xs : List Nat}, xs.Pairwise (fun x y => g x ≤ g y) → (∀ z, (xs.filter fun x => g x == z).Pairwise (· < ·)) → xs.Pairwise (fun x y => g x < g y ∨ (g x = g y ∧ x < y))
  | [], _, _ => .nil
  | x :: r, h, hf => by
    have h' := List.pairwise_cons.mp h
    refine List.pairwise_cons.mpr ⟨fun y hy => ?_, lex_of h'.2 fun z => ?_⟩
    · have hle := h'.1 y hy
      by_cases e : g x = g y
      · right
        refine ⟨e, ?_⟩
        have := hf (g x)
        rw [List.filter_cons, if_pos (by simp)] at this
        exact (List.pairwise_cons.mp this).1 y (List.mem_filter.mpr ⟨hy, by simp [e]⟩)
      · left; omega
    · have := hf z
      rw [List.filter_cons] at this
      split at this
      · exact (List.pairwise_cons.mp this).2
      · exact this
theorem keySorted_lex {g : Nat → Int} {n : Nat} {os : List Nat} (h : KeySorted g n (os.map fun k : Nat => (k : Int))) : os.Perm (List.range n) ∧ os.Pairwise (fun x y => g x ≤ g y) ∧ os.Pairwise (fun x y => g x < g y ∨ (g x = g y ∧ x < y)) := by
  obtain ⟨xs, e, hp, hs, hf⟩ := h
  have e' : os = xs := (List.map_inj_right (fun a b h => by have h' : (a : Int) = (b : Int) := h; omega)).mp e
  subst e'
  refine ⟨hp, hs, lex_of hs fun z => ?_⟩
  rw [hf z]
  exact List.pairwise_lt_range.filter _
theorem keySorted_ex (g : Nat → Int) (n : Nat) : ∃ os : List Nat, KeySorted g n (os.map fun k : Nat => (k : Int)) := by
  let le : Nat → Nat → Bool := fun x y => decide (g x < g y) || (decide (g x = g y) && decide (x ≤ y))
  have tr : ∀ a b c, le a b = true → le b c = true → le a c = true := fun a b c h1 h2 => by
    simp only [le, Bool.or_eq_true, Bool.and_eq_true, decide_eq_true_eq] at *
    omega
  have tot : ∀ a b, (le a b || le b a) = true := fun a b => by
    simp only [le, Bool.or_eq_true, Bool.and_eq_true, decide_eq_true_eq]
    omega
  have hs := List.pairwise_mergeSort (le := le) tr tot (List.range n)
  have hp := List.mergeSort_perm (List.range n) le
  refine ⟨(List.range n).mergeSort le, _, rfl, hp, hs.imp fun h => by simp only [le, Bool.or_eq_true, Bool.and_eq_true, decide_eq_true_eq] at h; omega, fun z => ?_⟩
  refine perm_sorted_eq (le := (· ≤ ·)) (fun _ _ h1 h2 => Nat.le_antisymm h1 h2) (hp.filter _) ?_ ((List.pairwise_lt_range.filter _).imp fun h => Nat.le_of_lt h)
  have h1 : (((List.range n).mergeSort le).filter fun x => g x == z).Pairwise (fun x y => le x y = true) := hs.filter _
  refine (List.Pairwise.and_mem.mp h1).imp fun {x y} h => ?_
  obtain ⟨h2, h3, h4⟩ := h
  have e2 := (List.mem_filter.mp h2).2
  have e3 := (List.mem_filter.mp h3).2
  simp only [le, Bool.or_eq_true, Bool.and_eq_true, decide_eq_true_eq, beq_iff_eq] at h4 e2 e3
  omega
theorem isRow_ex (g : Nat → Int) (n : Nat) : ∃ res, IsRow g n res := by
  obtain ⟨os, h⟩ := keySorted_ex g n
  obtain ⟨o, ho⟩ := runS_all g os.length os 0 rfl
  exact ⟨o, os, h, ho⟩
/-- what the law's own way finds by the counts -/
theorem law_by {g : Nat → Int} {n : Nat} {res : Option (List (Int × Bool))} (h : IsRow g n res) : ∃ os o, os.Perm (List.range n) ∧ os.Pairwise (fun x y => g x < g y ∨ (g x = g y ∧ x < y)) ∧ RunL g os 0 o ∧ (res = none → o = none) ∧ ∀ out, res = some out → ∃ ts, o = some ts ∧ ts.Perm (tiesTo out.reverse out.length) := by
  obtain ⟨os, hk, hr⟩ := h
  obtain ⟨h1, h2, h3⟩ := keySorted_lex hk
  obtain ⟨o, ho, h4, h5⟩ := runL_of hr h2
  refine ⟨os, o, h1, h3, ho, h4, fun out e => ?_⟩
  obtain ⟨ts, e1, pt⟩ := h5 out e
  exact ⟨ts, e1, pt.trans (tiesR_perm out).symm⟩
/-- the ties found have the counts -/
theorem isRow_degs {ns : List Int} {out : List (Int × Bool)} {ts : List (Int × Int)} (h : IsRow (fun k => ns.getD k 0) ns.length (some out)) (hp : ts.Perm (tiesTo out.reverse out.length)) : degs ns.length ts = ns := by
  obtain ⟨os, hk, hr⟩ := h
  obtain ⟨h1, _, _⟩ := keySorted_lex hk
  have hd := run_deg (hr.run out rfl) (h1.nodup_iff.mpr List.nodup_range)
  unfold degs
  apply List.ext_getElem
  · rw [List.length_map, List.length_range]
  · intro i hi hi2
    rw [List.getElem_map, List.getElem_range]
    have := hd i (h1.mem_iff.mpr (List.mem_range.mpr hi2))
    rw [show deg ts (i : Int) = deg (tiesR out) (i : Int) from (hp.trans (tiesR_perm out)).countP_eq _]
    have e : ns.getD i 0 = ns[i] := by rw [List.getD_eq_getElem?_getD, List.getElem?_eq_getElem hi2]; rfl
    have this' : ns.getD i 0 = ((0 : Nat) : Int) + (deg (tiesR out) (i : Int) : Int) := this
    rw [← e]
    omega
theorem web_mem {n : Int} {ts : List (Int × Int)} (ok : WebOk n ts) (t : Int × Int) : t ∈ ts ↔ (0 ≤ t.1 ∧ t.1 < t.2 ∧ t.2 < n ∧ tiedB ts t = true) := by
  constructor
  · intro h
    have := ok.lt h
    refine ⟨this.1, this.2.1, this.2.2, ?_⟩
    unfold tiedB
    rw [List.any_eq_true]
    exact ⟨t, h, by simp⟩
  · rintro ⟨h1, h2, h3, h4⟩
    unfold tiedB at h4
    rw [List.any_eq_true] at h4
    obtain ⟨u, hu, e⟩ := h4
    simp only [Bool.or_eq_true, decide_eq_true_eq] at e
    rcases e with e | e
    · exact e ▸ hu
    · have := ok.lt hu
      have q1 := congrArg Prod.fst e
      have q2 := congrArg Prod.snd e
      dsimp only at q1 q2
      omega
theorem row_ties {n : Nat} {ts : List (Int × Int)} {st : List (Int × Bool)} (ok : WebOk n ts) (R : RowOk n ts st) (hg : RowGood st) : ts.Perm (tiesTo st st.length) := by
  obtain ⟨ok0, R0⟩ := row_web hg (List.Perm.refl (tiesTo st st.length))
  have hn : st.length = n := R.len
  refine (List.perm_ext_iff_of_nodup ok.nd ok0.nd).mpr fun t => ?_
  rw [web_mem ok, web_mem ok0, hn]
  have key : 0 ≤ t.1 → t.1 < t.2 → t.2 < n → tiedB ts t = tiedB (tiesTo st n) t := fun a b c => by
    obtain ⟨i, hi, ei⟩ := R.place (a := t.1.toNat) (by omega)
    obtain ⟨j, hj, ej⟩ := R.place (a := t.2.toNat) (by omega)
    have ei' : st[i].1 = t.1 := by rw [ei]; omega
    have ej' : st[j].1 = t.2 := by rw [ej]; omega
    have p1 := List.pairwise_iff_getElem.mp R.tied
    have R0t : st.Pairwise fun t s => tiedB (tiesTo st n) (t.1, s.1) = s.2 := by
      have := R0.tied
      rw [hn] at this
      exact this
    have p2 := List.pairwise_iff_getElem.mp R0t
    rcases Nat.lt_trichotomy i j with h | h | h
    · have a1 := p1 i j hi hj h
      have a2 := p2 i j hi hj h
      rw [ei', ej'] at a1 a2
      rw [a1.trans a2.symm]
    · subst h; omega
    · have a1 := p1 j i hj hi h
      have a2 := p2 j i hj hi h
      rw [ei', ej', tiedB_comm] at a1 a2
      rw [a1.trans a2.symm]
  constructor
  · rintro ⟨a, b, c, d⟩; exact ⟨a, b, c, by rw [← key a b c]; exact d⟩
  · rintro ⟨a, b, c, d⟩; exact ⟨a, b, c, by rw [key a b c]; exact d⟩
end Tip
set_option Elab.async false
set_option linter.all false
set_option maxRecDepth 100000
set_option maxHeartbeats 4000000
namespace Tip
open PySem PySem.Spec PyProof.Rows L2
theorem ix_seq' {X : Cx} {K : PySem.W.Frag} (hK : X.K = K := by rfl) : IxR X (rIx K) := by subst hK; exact ix_seq
section
variable {P : Program} {w : World} {K : PySem.W.Frag} {mg : Str → Option Value} {base : Heap}
abbrev s_are_counts : Stmt := top 24
theorem sc_are_counts : FnScope ["value", "count"] ["value"] (defScope s_are_counts) := ⟨rfl, rfl, rfl, by decide +kernel, rfl, by decide +kernel, by decide +kernel⟩
def sp_are_counts (K : PySem.W.Frag) : Sp := fun vs H Q _ => ∃ a ns, vs = [.ref a] ∧ Ints K H a ns ∧ 1 ≤ ns.length ∧ ns.length ≤ 40 ∧ (∀ x ∈ ns, 0 ≤ x) ∧ ∀ H', Same H H' → Q (.bl true) H'
structure GX7 (P : Program) (w : World) (K : PySem.W.Frag) (mg : Str → Option Value) (base : Heap) : Prop where
  is_number : Df P w K mg base 1 "is_number" ["value"] (sp_is_number K)
  is_count_of_places : Df P w K mg base 2 "is_count_of_places" ["value"] (sp_is_count_of_places K)
theorem df_are_counts (T : Blt mg) (G : GX7 P w K mg base) (h : HasDef K mg "are_counts" s_are_counts ["value"]) : Df P w K mg base 3 "are_counts" ["value"] (sp_are_counts K) := by
  refine h.df fun f fd F => ?_
  refine F.ok sc_are_counts (fun vs H Q E h => ?_) (fun cdv A outer s H vs Q E hr h => ?_)
  · obtain ⟨a, ns, rfl, _⟩ := h; rfl
  have nd := sc_are_counts.nd
  obtain ⟨a, ns, rfl, hs, l1, l2, nn, q⟩ := h
  refine ⟨_, (pss_cons (ps_if (PW.pt (pw_or (pt_not (pt_val (pe_callB cr_isa rfl T.isinstance (by decide +kernel) (pa_cons (pv 0) (pa_cons (pe_bltn rfl T.list_ (by decide +kernel) (v := .ty "list") rfl) pa_nil))))) (pw_or1 (pt_not (pt_val (pe_df G.is_count_of_places (hr.mono (by decide)) (pa_cons (pe_callB call_len_seq rfl T.len PySem.boot_len (pa_cons (pv 0) pa_nil)) pa_nil))))))) (pss_one (ps_ret pe_bl)) pss_nil) (pss_one (ps_ret (pe_callB (cr_all rfl) rfl T.all (by decide +kernel) (pa_cons (pe_lc (own := [("count", 1)]) (g := (gName 1)) rfl nd (pi_list (pv 0)) (blkOk_by (own := [("count", 1)]) (N := ["value", "count"]) (sc := (defScope s_are_counts)) (by decide +kernel)) (fun _ _ _ _ _ => (pg_name (i := 1) nd rfl (by first | exact Or.inl rfl | exact Or.inr rfl))) (fun _ _ _ _ _ => pts_nil) (fun _ _ _ _ _ => (pe_and (pe_df G.is_number (hr.mono (by decide)) (pa_cons (pv 1) pa_nil)) (pe_one (pe_cmpR op_ge (pv 1) pe_int (nomark _)))))) pa_nil))))), ?_⟩
  refine ⟨_, rfl, _, "list", "list", rfl, .inl ⟨rfl, _, hs⟩, .inr (.inr (.inl rfl)), _, rfl, iteF ?_⟩
  refine ⟨_, rfl, a, _, rfl, .inl hs, ?_⟩
  rw [List.length_map]
  refine ⟨(ns.length : Int), rfl, fun H1 s1 => ⟨_, rfl, ?_⟩⟩
  rw [decide_eq_true (show (1 : Int) ≤ ns.length by omega), decide_eq_true (show (ns.length : Int) < 41 by omega)]
  refine iteF ?_
  refine ⟨_, rfl, a, rfl, ⟨_, s1.seq hs⟩, fun D hD => ?_⟩
  refine lc_walk (Walks.list (K := K) (a := a) (xs := ns.map V.int)) hD (fun H' s' => (s1.trans s').seq hs) (by rw [List.length_map]; omega) (fun _ => true) (fun i y _ => y = .bl true) (fun i y H H' h _ _ => h) (fun Nx i x H2 hi sm hx hk ha => ?_) (fun H' ys s' hy pr => ?_)
  · rw [List.getElem?_map] at hx
    cases e : ns[i]? with
    | none => rw [e] at hx; cases hx
    | some m =>
      rw [e] at hx
      have ex : x = .int m := (Option.some.inj hx).symm
      subst ex
      refine ⟨rfl, yesT ⟨_, rfl, .int m, "int", rfl, rfl, true, rfl, iteT ⟨_, rfl, m, 0, rfl, rfl, ?_⟩⟩⟩
      exact ha _ _ (Same.refl _) rfl (by show V.bl (decide (0 ≤ m)) = _; rw [decide_eq_true (nn m (List.mem_of_getElem? e))])
  · rw [paired_map (α := Nat) (n := 0) (H := H) pr, filter_true, List.length_map] at hy
    refine ⟨D, (List.range ns.length).map fun _ => true, rfl, SqL.of (by rw [hy, List.map_map]; rfl), ?_⟩
    rw [show ((List.range ns.length).map fun _ => true).all id = true by simp]
    exact q _ (s1.trans s')
abbrev s_by_counts : Stmt := top 21
theorem sc_by_counts : FnScope ["counts"] ["counts"] (defScope s_by_counts) := ⟨rfl, rfl, rfl, by decide +kernel, rfl, by decide +kernel, by decide +kernel⟩
def sp_by_counts (K : PySem.W.Frag) (TR TF CN : Addr) : Sp := fun vs H Q E => ∃ (a : Addr) (ns : List Int), vs = [.ref a] ∧ Ints K H a ns ∧ 1 ≤ ns.length ∧ ns.length ≤ 40 ∧ (∀ x ∈ ns, 0 ≤ x) ∧ Tabs TR TF H ∧ ∀ res, IsRow (fun k => ns.getD k 0) ns.length res →
  (∀ out, res = some out → ∀ H' p ts, Sm H H' → Tabs TR TF H' → NewTies H H' p ts → Srt ts (tiesTo out.reverse out.length) → Q (.ref p) H') ∧ (res = none → ∀ H', Sm H H' → Tabs TR TF H' → E (.ref CN) none H')
structure GX7b (P : Program) (w : World) (K : PySem.W.Frag) (mg : Str → Option Value) (base : Heap) (TR TF CN : Addr) : Prop where
  are_counts : Df P w K mg base 3 "are_counts" ["value"] (sp_are_counts K)
  by_row : Df P w K mg base 5 "by_row" ["row"] (sp_by_row K)
  row_by_counts : DfX P w K mg base 4 "row_by_counts" ["counts"] (sp_rowX K TR TF CN)
theorem dx_by_counts {TR TF CN : Addr} (T : Blt mg) (G : GX7b P w K mg base TR TF CN) (h : HasDef K mg "by_counts" s_by_counts ["counts"]) : DfX P w K mg base 6 "by_counts" ["counts"] (sp_by_counts K TR TF CN) := by
  refine h.dfX fun f fd F => ?_
  refine F.okX sc_by_counts (fun vs H Q E h => ?_) (fun cdv A outer s H vs Q E hr h hlv hps => ?_)
  · obtain ⟨a, ns, rfl, _⟩ := h; rfl
  have nd := sc_by_counts.nd
  obtain ⟨a, ns, rfl, hs, l1, l2, nn, tb, q⟩ := h
  refine ⟨_, (pss_cons (ps_if (pt_not (pt_val (pe_df G.are_counts (hr.mono (by decide)) (pa_cons (pv 0) pa_nil)))) (pss_one ps_never) pss_nil) (pss_one (ps_ret (pe_df G.by_row (hr.mono (by decide)) (pa_cons (pe_dfX hps G.row_by_counts (hr.mono (by decide)) (pa_cons (pv 0) pa_nil)) pa_nil))))), ?_⟩
  refine ⟨_, rfl, a, ns, rfl, hs, l1, l2, nn, fun H1 s1 => ⟨_, rfl, iteF ?_⟩⟩
  refine ⟨_, rfl, a, ns, rfl, s1.seq hs, by omega, tb.same s1, fun out hks => ?_⟩
  obtain ⟨xs, rfl, hpx, _⟩ := id hks
  obtain ⟨res, hrun⟩ := runS_all (fun k => ns.getD k 0) xs.length xs 0 rfl
  have hI : IsRow (fun k => ns.getD k 0) ns.length res := ⟨xs, hks, hrun⟩
  obtain ⟨q1, q2⟩ := q res hI
  refine ⟨xs, res, rfl, fun x hx => List.mem_range.mp (hpx.mem_iff.mp hx), by rw [hpx.length_eq, List.length_range], hrun, fun rs e H2 p sm tb2 hrow => ?_, fun e H3 sm tb3 => ?_⟩
  · subst e
    obtain ⟨hg, hl⟩ := isRow_good l1 l2 hI
    refine ⟨p, rs.reverse, rfl, hrow.at, hg, fun H3 p3 ts s3 n3 srt => ?_⟩
    rw [List.length_reverse] at srt
    have sm2 : Sm H H2 := (Sm.of s1).trans sm
    exact q1 rs rfl H3 p3 ts (sm2.trans (Sm.of s3)) (tb2.same s3) ⟨sm2.free _ n3.1, n3.2⟩ srt
  · exact q2 e H3 ((Sm.of s1).trans sm) tb3
abbrev s_law_counts : Stmt := top 36
theorem sc_law_counts : FnScope ["_law_places", "_law_ties_here", "_law_near_here", "_law_some"] ["_law_places", "_law_ties_here"] (defScope s_law_counts) := ⟨rfl, rfl, rfl, by decide +kernel, rfl, by decide +kernel, by decide +kernel⟩
theorem df_law_counts (T : Blt mg) (G : GL3 P w K mg base) (h : HasDef K mg "_law_counts" s_law_counts ["_law_places", "_law_ties_here"]) : Df P w K mg base 2 "_law_counts" ["_law_places", "_law_ties_here"] (sp_counts_of K) := by
  refine h.df fun f fd F => ?_
  refine F.ok sc_law_counts (fun vs H Q E h => ?_) (fun cdv A outer s H vs Q E hr h => ?_)
  · obtain ⟨n, a, ts, rfl, _⟩ := h; rfl
  have nd := sc_law_counts.nd
  obtain ⟨n, a, ts, rfl, ht, ok, q⟩ := h
  have hn40 := ok.hi
  refine ⟨_, (pss_cons (ps_set (i := 2) nd rfl (by first | exact Or.inl rfl | exact Or.inr rfl) (pe_df G._law_near (hr.mono (by decide)) (pa_cons (pv 0) (pa_cons (pv 1) pa_nil)))) (pss_one (ps_ret (pe_lc (own := [("_law_some", 3)]) (g := (gName 3)) rfl nd (pi_list (pv 2)) (blkOk_by (own := [("_law_some", 3)]) (N := ["_law_places", "_law_ties_here", "_law_near_here", "_law_some"]) (sc := (defScope s_law_counts)) (by decide +kernel)) (fun _ _ _ _ _ => (pg_name (i := 3) nd rfl (by first | exact Or.inl rfl | exact Or.inr rfl))) (fun _ _ _ _ _ => pts_nil) (fun _ _ _ _ _ => (pe_countK (K := K) (pv 3) (pa_cons pe_bl pa_nil))))))), ?_⟩
  refine ⟨_, rfl, _, rfl, n, a, ts, rfl, ht, ok, fun H1 d s1 hd0 hd => ?_⟩
  obtain ⟨rows, hrow⟩ := id hd
  have hrl := hrow.len
  have hml : (rows.map V.ref).length = n := by rw [List.length_map, hrl]
  refine ⟨_, rfl, d, rfl, ⟨_, SqL.of hrow.at_⟩, fun D1 hD1 => ?_⟩
  refine lc_walk (Walks.list (K := K) (a := d) (xs := rows.map V.ref)) hD1 (fun H' s' => s'.seq (SqL.of hrow.at_)) (by rw [hml]; omega) (fun _ => true) (fun i y _ => y = .int (deg ts (i : Int) : Int))
    (fun i y H H' h _ _ => h) (fun Nx i x H2 hi sm hx hk ha => ?_) (fun H2 ys s2 hy pr => ?_)
  · rw [hml] at hi
    have hri : rows[i]? = some (rows[i]'(by omega)) := List.getElem?_eq_getElem (by omega)
    rw [List.getElem?_map, hri] at hx
    have ex : x = .ref (rows[i]'(by omega)) := (Option.some.inj hx).symm
    subst ex
    have hr2 := sm _ _ (hrow.rows i _ hri)
    refine ⟨rfl, yesT ?_⟩
    refine ⟨_, rfl, .inl ⟨rfl, _, SqL.of hr2⟩, rows[i], _, .bl true, rfl, rfl, SqL.of hr2, rfl, ?_, ?_⟩
    · unfold rowB
      simp [flatV]
    · rw [row_count ok]
      exact ha _ _ (Same.refl _) rfl rfl
  · rw [paired_map (α := Nat) (n := 0) (H := H) pr, filter_true, hml] at hy
    refine q H2 D1 (s1.trans s2) (s1.free hD1) ?_
    rw [hy]
    unfold degs
    rw [List.map_map]
    rfl
abbrev s_law_ties : Stmt := top 34
theorem sc_law_ties : FnScope ["_law_row", "_law_found", "_law_at", "_law_place", "_law_tied", "_law_other", "_law_mark"] ["_law_row"] (defScope s_law_ties) := ⟨rfl, rfl, rfl, by decide +kernel, rfl, by decide +kernel, by decide +kernel⟩
def sp_law_ties (K : PySem.W.Frag) : Sp := fun vs H Q _ => ∃ a st, vs = [.ref a] ∧ RowAt K H a st ∧ st.length ≤ 40 ∧ ∀ H' p ts, Same H H' → NewTies H H' p ts → Srt ts (tiesTo st st.length) → Q (.ref p) H'
/-- those of the place at i to the first j -/
def tiesIn (st : List (Int × Bool)) (i j : Nat) : List (Int × Int) := if (st.getD i (0, false)).2 = true then (st.take j).map fun s => tieOf (st.getD i (0, false)).1 s.1 else []
theorem df_law_ties (T : Blt mg) (h : HasDef K mg "_law_ties" s_law_ties ["_law_row"]) : Df P w K mg base 1 "_law_ties" ["_law_row"] (sp_law_ties K) := by
  refine h.df fun f fd F => ?_
  refine F.ok sc_law_ties (fun vs H Q E h => ?_) (fun cdv A outer s H vs Q E hr h => ?_)
  · obtain ⟨a, st, rfl, _⟩ := h; rfl
  have nd := sc_law_ties.nd
  obtain ⟨a, st, rfl, hrow, l2, q⟩ := h
  obtain ⟨rs, hs, hp⟩ := id hrow
  have hrl : rs.length = st.length := hp.length
  have hll : (rs.map V.ref).length = st.length := by rw [List.length_map, hrl]
  refine ⟨_, (pss_cons (ps_set (i := 1) nd rfl (by first | exact Or.inl rfl | exact Or.inr rfl) (pe_lst pa_nil)) (pss_cons (ps_for PassesOwn.never rfl (pi_enum rfl T.enumerate (pa_cons (pv 0) pa_nil)) (pg_tup rfl (pgs_cons (pg_name (i := 2) nd rfl (by first | exact Or.inl rfl | exact Or.inr rfl)) (pgs_cons (pg_tup rfl (pgs_cons (pg_name (i := 3) nd rfl (by first | exact Or.inl rfl | exact Or.inr rfl)) (pgs_cons (pg_name (i := 4) nd rfl (by first | exact Or.inl rfl | exact Or.inr rfl)) pgs_nil))) pgs_nil))) (pss_one (ps_for PassesOwn.never rfl (pi_list (pe_slice sl_list (pv 0) po_none (po_some (pv 2)))) (pg_tup rfl (pgs_cons (pg_name (i := 5) nd rfl (by first | exact Or.inl rfl | exact Or.inr rfl)) (pgs_cons (pg_name (i := 6) nd rfl (by first | exact Or.inl rfl | exact Or.inr rfl)) pgs_nil))) (pss_one (ps_if (pt_val (pv 4)) (pss_one (ps_expr (pe_bm PySem.F.plainAttrs_list PySem.F.slot_list_append PySem.F.type_list_append mt_append (pv 1) (pa_cons (pe_tup (pa_cons (pe_callB (call_min2 rfl) rfl T.min (by decide +kernel) (pa_cons (pv 3) (pa_cons (pv 5) pa_nil))) (pa_cons (pe_callB (call_max2 rfl) rfl T.max (by decide +kernel) (pa_cons (pv 3) (pa_cons (pv 5) pa_nil))) pa_nil))) pa_nil)))) pss_nil))))) (pss_one (ps_ret (pe_callB cr_sortedT rfl T.sorted (by decide +kernel) (pa_cons (pv 1) pa_nil)))))), ?_⟩
  refine ⟨(by show 0 ≤ sizeLine; decide), fun D hD => ?_⟩
  have s2 := same_new' hD (.lst [])
  refine ⟨_, rfl, a, _, rfl, s2.seq hs, ?_⟩
  refine for_walk (Walks.enum (K := K) (a := a) (xs := rs.map V.ref)) (fun i σ H' => Same H H' ∧ (∃ x y u v w, σ = [some (.ref a), some (.ref D), x, y, u, v, w]) ∧ i ≤ st.length ∧ ∃ ps : List Addr, H' D = some (.lst (ps.map V.ref)) ∧ Paired (TupI H') ps (tiesTo st i)) (fun i σ H' h => h.1.seq hs)
    ⟨s2, ⟨_, _, _, _, _, rfl⟩, Nat.zero_le _, [], upd_same, .nil⟩ (fun i x σ H2 H3 hi hP s3 hx => ?_) (fun σ H' h => ?_)
  · obtain ⟨s12, ⟨x1, x2, x3, x4, x5, rfl⟩, hil, ps, hD2, hps⟩ := hP
    obtain ⟨T2, x0, rfl, hT2, hx2⟩ := hx
    rw [List.getElem?_map] at hx2
    cases hr1 : rs[i]? with
    | none => rw [hr1] at hx2; cases hx2
    | some r =>
      rw [hr1] at hx2
      have ex : x0 = .ref r := (Option.some.inj hx2).symm
      subst ex
      obtain ⟨t, ht1, ht2⟩ := Paired.at hp hr1
      have hti : i < st.length := (List.getElem?_eq_some_iff.mp ht1).1
      have egd : st.getD i (0, false) = t := by rw [List.getD_eq_getElem?_getD, ht1]; rfl
      have sH3 : Same H H3 := s12.trans s3
      refine ⟨T2, _, rfl, SqT.of hT2, rfl, _, _, rfl, _, _, rfl, ?_⟩
      refine ⟨r, _, rfl, SqT.of (sH3 _ _ ht2), rfl, _, _, rfl, _, _, rfl, rfl, rfl, ?_⟩
      refine ⟨_, rfl, _, rfl, (i : Int), rfl, a, _, rfl, sH3.seq hs, fun p hp0 => ?_⟩
      rw [cut_to]
      have s4 := same_new' hp0 (.lst ((rs.map V.ref).take i))
      have hD3 := s3 _ _ hD2
      have nDp : D ≠ p := ne_of_none hD3 hp0
      have hlen : ((rs.map V.ref).take i).length = i := by rw [List.length_take, hll]; omega
      refine ⟨p, rfl, ⟨_, SqL.of upd_same⟩, ?_⟩
      generalize hH4 : upd H3 p (.lst ((rs.map V.ref).take i)) = H4 at *
      have hp4 : H4 p = some (.lst ((rs.map V.ref).take i)) := by rw [← hH4]; exact upd_same
      have sH4 := sH3.trans s4
      refine for_walk (Walks.list (K := K) (a := p) (xs := (rs.map V.ref).take i)) (fun j σ H' => (∀ b o, H4 b = some o → b ≠ D → H' b = some o) ∧ (∃ v w, σ = [some (.ref a), some (.ref D), some (.int (i : Int)), some (.int t.1), some (.bl t.2), v, w]) ∧ ∃ ps : List Addr, H' D = some (.lst (ps.map V.ref)) ∧ Paired (TupI H') ps (tiesTo st i ++ tiesIn st i j))
        (fun j σ H' h => SqL.of (h.1 _ _ hp4 (Ne.symm nDp))) ⟨fun b o e _ => e, ⟨_, _, rfl⟩, ps, s4 _ _ hD3, ?_⟩ (fun j x σ H5 H6 hj hP s6 hx => ?_) (fun σ H5 h => ?_)
      · rw [show tiesIn st i 0 = [] by unfold tiesIn; split <;> simp, List.append_nil]
        exact Paired.mapP hps fun r u e => s4 _ _ (s3 _ _ e)
      · obtain ⟨k5, ⟨v, w, rfl⟩, ps5, hD5, hps5⟩ := hP
        rw [hlen] at hj
        rw [List.getElem?_take_of_lt hj, List.getElem?_map] at hx
        cases hr3 : rs[j]? with
        | none => rw [hr3] at hx; cases hx
        | some r3 =>
          rw [hr3] at hx
          have ex : x = .ref r3 := (Option.some.inj hx).symm
          subst ex
          obtain ⟨t3, ht3, ht4⟩ := Paired.at hp hr3
          have ht4' : H6 r3 = some (.tup [.int t3.1, .bl t3.2]) := s6 _ _ (k5 _ _ (sH4 _ _ ht4) (ne_of_none ht4 hD))
          have hD6 := s6 _ _ hD5
          refine ⟨r3, _, rfl, SqT.of ht4', rfl, _, _, rfl, _, _, rfl, rfl, ?_⟩
          refine ⟨_, rfl, t.2, rfl, ?_⟩
          have eTake : tiesIn st i (j + 1) = tiesIn st i j ++ if t.2 = true then [tieOf t.1 t3.1] else [] := by
            unfold tiesIn
            rw [egd]
            split
            · rw [List.take_add_one, ht3, List.map_append]
              rfl
            · rfl
          refine ite2 (fun c => ?_) (fun c => ?_)
          · refine ⟨_, rfl, .inl ⟨rfl, _, SqL.of hD6⟩, ?_⟩
            refine ⟨_, rfl, _, rfl, t.1, t3.1, rfl, ?_⟩
            refine ⟨_, rfl, _, rfl, t.1, t3.1, rfl, ?_⟩
            refine ⟨(by show 2 ≤ sizeLine; decide), fun q1 hq1 => ?_⟩
            have sq := same_new' hq1 (.tup [.int (tieOf t.1 t3.1).1, .int (tieOf t.1 t3.1).2])
            have nDq : D ≠ q1 := ne_of_none hD6 hq1
            have htl := tiesTo_len st i (by omega)
            have hpl := hps5.length
            have hin : (tiesIn st i j).length ≤ j := by
              unfold tiesIn
              split
              · rw [List.length_map, List.length_take]; omega
              · exact Nat.zero_le _
            rw [List.length_append] at hpl
            refine ⟨D, _, _, rfl, rfl, sq _ _ hD6, by rw [List.length_map, sizeLine_eq]; omega, ?_⟩
            refine ⟨fun b o e hb => ?_, ⟨_, _, rfl⟩, ps5 ++ [q1], by rw [upd_same, List.map_append]; rfl, ?_⟩
            · rw [upd_ne hb]
              exact sq _ _ (s6 _ _ (k5 _ _ e hb))
            · have up : ∀ r u, upd H6 q1 (.tup [.int (tieOf t.1 t3.1).1, .int (tieOf t.1 t3.1).2]) r = some (.tup u) → upd (upd H6 q1 (.tup [.int (tieOf t.1 t3.1).1, .int (tieOf t.1 t3.1).2])) D (.lst (ps5.map V.ref ++ [.ref q1])) r = some (.tup u) := fun r u e => by
                rw [upd_ne fun z => by rw [z, sq _ _ hD6] at e; cases e]
                exact e
              rw [eTake, if_pos c, ← List.append_assoc]
              exact Paired.snoc (Paired.mapP hps5 fun r u e => up r _ (sq _ _ (s6 _ _ e))) (up _ _ upd_same)
          · refine ⟨fun b o e hb => s6 _ _ (k5 _ _ e hb), ⟨_, _, rfl⟩, ps5, hD6, ?_⟩
            rw [eTake, if_neg c, List.append_nil]
            exact Paired.mapP hps5 fun r u e => s6 _ _ e
      · rw [hlen] at h
        obtain ⟨k5, ⟨v, w, rfl⟩, ps5, hD5, hps5⟩ := h
        refine ⟨fun b o e => k5 _ _ (sH4 _ _ e) (ne_of_none e hD), ⟨_, _, _, _, _, rfl⟩, hti, ps5, hD5, ?_⟩
        rw [tiesTo]
        exact hps5
  · obtain ⟨s12, ⟨x1, x2, x3, x4, x5, rfl⟩, hil, ps, hD2, hps⟩ := h
    rw [hll] at hps
    refine ⟨_, rfl, sortedT_of (ts := tiesTo st st.length) ⟨ps, SqL.of hD2, hps⟩ fun ts' p H3 hsrt s3 hnew => ?_⟩
    exact q H3 p ts' (s12.trans s3) ⟨s12.free hnew.1, hnew.2⟩ hsrt
end
end Tip
set_option Elab.async false
set_option linter.all false
set_option maxRecDepth 100000
set_option maxHeartbeats 4000000
namespace Tip
open PySem PySem.Spec PyProof.Rows L2
theorem op_eqDK {X : Cx} {K : PySem.W.Frag} (hu : X.A.units + 64 < cLine) (hK : X.K = K := by rfl) : OpR X (compareOp .Eq) (rEqD K) := by subst hK; exact op_eqD hu
section
variable {P : Program} {w : World} {K : PySem.W.Frag} {mg : Str → Option Value} {base : Heap} {er : ErA}
abbrev s_law_is_row : Stmt := top 35
theorem sc_law_is_row : FnScope ["_law_found", "_law_places", "_law_part", "_law_place", "_law_tied"] ["_law_found", "_law_places"] (defScope s_law_is_row) := ⟨rfl, rfl, rfl, by decide +kernel, rfl, by decide +kernel, by decide +kernel⟩
def sp_law_is_row (K : PySem.W.Frag) : Sp := fun vs H Q _ => ∃ a st, vs = [.ref a, .int (st.length : Int)] ∧ RowAt K H a st ∧ RowGood st ∧ ∀ H', Same H H' → Q (.bl true) H'
structure GX8 (P : Program) (w : World) (K : PySem.W.Frag) (mg : Str → Option Value) (base : Heap) : Prop where
  _law_whole : Df P w K mg base 1 "_law_whole" ["_law_found"] sp_law_whole
theorem df_law_is_row (T : Blt mg) (G : GX8 P w K mg base) (h : HasDef K mg "_law_is_row" s_law_is_row ["_law_found", "_law_places"]) : Df P w K mg base 2 "_law_is_row" ["_law_found", "_law_places"] (sp_law_is_row K) := by
  refine h.df fun f fd F => ?_
  refine F.ok sc_law_is_row (fun vs H Q E h => ?_) (fun cdv A outer s H vs Q E hr h => ?_)
  · obtain ⟨a, st, rfl, _⟩ := h; rfl
  have nd := sc_law_is_row.nd
  obtain ⟨a, st, rfl, hrow, hg, q⟩ := h
  obtain ⟨rs, hs, hp⟩ := id hrow
  have hrl : rs.length = st.length := hp.length
  have hll : (rs.map V.ref).length = st.length := by rw [List.length_map, hrl]
  have l1 := hg.lo
  have l2 := hg.hi
  have stepAt : ∀ {i : Nat} {x : V}, (rs.map V.ref)[i]? = some x → ∃ r s, x = .ref r ∧ st[i]? = some s ∧ StepAt H r s := fun {i x} hx => by
    rw [List.getElem?_map] at hx
    cases hr1 : rs[i]? with
    | none => rw [hr1] at hx; cases hx
    | some r =>
      rw [hr1] at hx
      obtain ⟨t, ht1, ht2⟩ := Paired.at hp hr1
      exact ⟨r, t, (Option.some.inj hx).symm, ht1, ht2⟩
  refine ⟨_, (pss_cons (ps_if (PW.pt (pw_or (pt_not (pt_val (pe_callB cr_isa rfl T.isinstance (by decide +kernel) (pa_cons (pv 0) (pa_cons (pe_bltn rfl T.list_ (by decide +kernel) (v := .ty "list") rfl) pa_nil))))) (pw_or (pt_cmpR (op_neD hr.units) (pe_callB call_len_seq rfl T.len PySem.boot_len (pa_cons (pv 0) pa_nil)) (pv 1) (nomark _)) (pw_or1 (pt_not (pt_val (pe_callB (cr_all rfl) rfl T.all (by decide +kernel) (pa_cons (pe_lc (own := [("_law_part", 2)]) (g := (gName 2)) rfl nd (pi_list (pv 0)) (blkOk_by (own := [("_law_part", 2)]) (N := ["_law_found", "_law_places", "_law_part", "_law_place", "_law_tied"]) (sc := (defScope s_law_is_row)) (by decide +kernel)) (fun _ _ _ _ _ => (pg_name (i := 2) nd rfl (by first | exact Or.inl rfl | exact Or.inr rfl))) (fun _ _ _ _ _ => pts_nil) (fun _ _ _ _ _ => (pe_callB (cr_isaK (K := K)) rfl T.isinstance (by decide +kernel) (pa_cons (pv 2) (pa_cons (pe_bltn rfl T.tuple_ (by decide +kernel) (v := .ty "tuple") rfl) pa_nil))))) pa_nil)))))))) (pss_one (ps_ret pe_bl)) pss_nil) (pss_cons (ps_if (pt_not (pt_val (pe_callB (cr_all rfl) rfl T.all (by decide +kernel) (pa_cons (pe_lc (own := [("_law_part", 2)]) (g := (gName 2)) rfl nd (pi_list (pv 0)) (blkOk_by (own := [("_law_part", 2)]) (N := ["_law_found", "_law_places", "_law_part", "_law_place", "_law_tied"]) (sc := (defScope s_law_is_row)) (by decide +kernel)) (fun _ _ _ _ _ => (pg_name (i := 2) nd rfl (by first | exact Or.inl rfl | exact Or.inr rfl))) (fun _ _ _ _ _ => pts_nil) (fun _ _ _ _ _ => (pe_and (pe_cmpR (op_eqDK (K := K) hr.units) (pe_callB (call_len_seqK (K := K)) rfl T.len PySem.boot_len (pa_cons (pv 2) pa_nil)) pe_int (nomark _)) (pe_and (pe_df G._law_whole (hr.mono (by decide)) (pa_cons (pe_ix (ix_seq' (K := K)) (pv 2) pe_int (fun _ _ => rfl)) pa_nil)) (pe_one (pe_callB (cr_isaK (K := K)) rfl T.isinstance (by decide +kernel) (pa_cons (pe_ix (ix_seq' (K := K)) (pv 2) pe_int (fun _ _ => rfl)) (pa_cons (pe_bltn rfl T.bool_ (by decide +kernel) (v := .ty "bool") rfl) pa_nil)))))))) pa_nil)))) (pss_one (ps_ret pe_bl)) pss_nil) (pss_one (ps_ret (pe_and (pe_not (pe_ix ix_seq (pe_ix ix_seq (pv 0) pe_int (fun _ _ => rfl)) pe_int (fun _ _ => rfl))) (pe_one (pe_cmpR (op_eqD hr.units) (pe_callB cr_sorted rfl T.sorted (by decide +kernel) (pa_cons (pe_lc (own := [("_law_place", 3), ("_law_tied", 4)]) (g := (gTup K 2 (gCons (gName 3) (gCons (gName 4) gNil)))) rfl nd (pi_list (pv 0)) (blkOk_by (own := [("_law_place", 3), ("_law_tied", 4)]) (N := ["_law_found", "_law_places", "_law_part", "_law_place", "_law_tied"]) (sc := (defScope s_law_is_row)) (by decide +kernel)) (fun _ _ _ _ _ => (pg_tup rfl (pgs_cons (pg_name (i := 3) nd rfl (by first | exact Or.inl rfl | exact Or.inr rfl)) (pgs_cons (pg_name (i := 4) nd rfl (by first | exact Or.inl rfl | exact Or.inr rfl)) pgs_nil)))) (fun _ _ _ _ _ => pts_nil) (fun _ _ _ _ _ => (pv 3))) pa_nil)) (pe_callTy (call_list_rng rfl) rfl T.list_ (by decide +kernel) (pa_cons (pe_callTy call_rng rfl T.range (by decide +kernel) (pa_cons (pv 1) pa_nil)) pa_nil)) (nomark _)))))))), ?_⟩
  refine ⟨_, rfl, _, "list", "list", rfl, .inl ⟨rfl, _, hs⟩, .inr (.inr (.inl rfl)), _, rfl, iteF ?_⟩
  refine ⟨_, rfl, a, _, rfl, .inl hs, ?_⟩
  rw [hll]
  refine ⟨_, rfl, .int (st.length : Int), .int (st.length : Int), .int _, .int _, rfl, rfl, _, rfl, ?_⟩
  rw [show PyData.eqv (.int (st.length : Int)) (.int (st.length : Int)) = true from beq_self_eq_true (st.length : Int)]
  refine iteF ?_
  refine ⟨_, rfl, a, rfl, ⟨_, hs⟩, fun D hD => ?_⟩
  refine lc_walk (Walks.list (K := K) (a := a) (xs := rs.map V.ref)) hD (fun H' s' => s'.seq hs) (by rw [hll]; omega) (fun _ => true) (fun i y _ => y = .bl true) (fun i y H H' h _ _ => h) (fun Nx i x H2 hi sm hx hk ha => ?_) (fun H' ys s' hy pr => ?_)
  · obtain ⟨r, t, rfl, ht1, ht2⟩ := stepAt hx
    refine ⟨rfl, yesT ⟨_, rfl, _, "tuple", "tuple", rfl, .inr ⟨rfl, _, SqT.of (sm _ _ ht2)⟩, .inr (.inr (.inr rfl)), ?_⟩⟩
    exact ha _ _ (Same.refl _) rfl rfl
  rw [paired_map (α := Nat) (n := 0) (H := H) pr, filter_true] at hy
  refine ⟨D, (List.range (rs.map V.ref).length).map fun _ => true, rfl, SqL.of (by rw [hy, List.map_map]; rfl), _, rfl, ?_⟩
  rw [show ((List.range (rs.map V.ref).length).map fun _ => true).all id = true by simp]
  refine iteF ?_
  refine ⟨_, rfl, a, rfl, ⟨_, s'.seq hs⟩, fun D1 hD1 => ?_⟩
  refine lc_walk (Walks.list (K := K) (a := a) (xs := rs.map V.ref)) hD1 (fun H2 s2 => (s'.trans s2).seq hs) (by rw [hll]; omega) (fun _ => true) (fun i y _ => y = .bl true) (fun i y H H' h _ _ => h) (fun Nx i x H2 hi sm hx hk ha => ?_) (fun H1 ys1 s1 hy1 pr1 => ?_)
  · obtain ⟨r, t, rfl, ht1, ht2⟩ := stepAt hx
    have ht3 : H2 r = some (.tup [.int t.1, .bl t.2]) := sm _ _ (s' _ _ ht2)
    refine ⟨rfl, yesT ?_⟩
    refine ⟨_, rfl, r, _, rfl, .inr (SqT.of ht3), .int 2, .int 2, .int _, .int _, rfl, rfl, true, rfl, iteT ?_⟩
    refine ⟨_, rfl, .inr (.inl ⟨r, _, 0, _, rfl, rfl, SqT.of ht3, rfl, ?_⟩)⟩
    refine ⟨t.1, rfl, true, rfl, iteT ?_⟩
    refine ⟨_, rfl, .inr (.inl ⟨r, _, 1, _, rfl, rfl, SqT.of ht3, rfl, ?_⟩)⟩
    refine ⟨.bl t.2, "bool", "bool", rfl, rfl, .inr (.inl rfl), ?_⟩
    exact ha _ _ (Same.refl _) rfl rfl
  rw [paired_map (α := Nat) (n := 0) (H := H) pr1, filter_true] at hy1
  have sa := s'.trans s1
  refine ⟨D1, (List.range (rs.map V.ref).length).map fun _ => true, rfl, SqL.of (by rw [hy1, List.map_map]; rfl), _, rfl, ?_⟩
  rw [show ((List.range (rs.map V.ref).length).map fun _ => true).all id = true by simp]
  refine iteF ?_
  obtain ⟨p0, r0, e0⟩ := hg.fst
  obtain ⟨r1, hr1, hr2⟩ := Paired.at' hp (show st[0]? = some (p0, false) by rw [e0]; rfl)
  refine ⟨_, rfl, .inl ⟨a, _, 0, _, rfl, rfl, sa.seq hs, at_of (j := 0) rfl (by rw [List.getElem?_map, hr1]; rfl), ?_⟩⟩
  refine .inr (.inl ⟨r1, _, 1, _, rfl, rfl, SqT.of (sa _ _ hr2), rfl, ?_⟩)
  refine ⟨false, rfl, true, rfl, iteT ?_⟩
  refine ⟨_, rfl, a, rfl, ⟨_, sa.seq hs⟩, fun D2 hD2 => ?_⟩
  refine lc_walk (Walks.list (K := K) (a := a) (xs := rs.map V.ref)) hD2 (fun H2 s2 => (sa.trans s2).seq hs) (by rw [hll]; omega) (fun _ => true) (fun i y _ => y = .int ((st.map (·.1)).getD i 0)) (fun i y H H' h _ _ => h) (fun Nx i x H2 hi sm hx hk ha => ?_) (fun H2 ys2 s2 hy2 pr2 => ?_)
  · obtain ⟨r, t, rfl, ht1, ht2⟩ := stepAt hx
    have sH2 := sa.trans sm
    refine ⟨r, _, rfl, SqT.of (sH2 _ _ ht2), rfl, _, _, rfl, _, _, rfl, rfl, rfl, yesT ⟨_, rfl, ?_⟩⟩
    exact ha _ _ (Same.refl _) rfl (by rw [List.getD_eq_getElem?_getD, List.getElem?_map, ht1]; rfl)
  rw [paired_map (α := Nat) (n := 0) (H := H) pr2, filter_true, hll, ← List.length_map (·.1), range_get (l := st.map (·.1)) (f := V.int)] at hy2
  have sb := sa.trans s2
  refine ⟨D2, st.map (·.1), rfl, SqL.of hy2, by rw [List.length_map]; omega, fun ns' p hperm hord hp0 => ?_⟩
  have s3 := same_new' hp0 (.lst (ns'.map V.int))
  have sc := sb.trans s3
  refine ⟨_, rfl, 0, (st.length : Int), .inl ⟨rfl, rfl⟩, fun rg hrg => ?_⟩
  have s4 := same_new' hrg (.rng 0 (st.length : Int))
  refine ⟨rg, 0, (st.length : Int), rfl, upd_same, by decide, by decide, by omega, by omega, fun l hl2 => ?_⟩
  have s5 := same_new' hl2 (.lst (rngV 0 ((st.length : Int) - 0).toNat))
  have erng : rngV 0 ((st.length : Int) - 0).toNat = (natI st.length).map V.int := by
    unfold rngV natI
    rw [List.map_map, show ((st.length : Int) - 0).toNat = st.length by omega]
    refine List.map_congr_left fun i _ => ?_
    show V.int (0 + (i : Int)) = V.int (i : Int)
    rw [Int.zero_add]
  have hns : ns' = natI st.length := by
    refine perm_sorted_eq (fun _ _ h1 h2 => Int.le_antisymm h1 h2) (hperm.trans hg.perm) hord ?_
    unfold natI
    rw [List.pairwise_map]
    exact List.pairwise_lt_range.imp fun h => by omega
  refine ⟨_, _, dp_ints (ns := ns') ((s4.trans s5).seq (SqL.of upd_same)), dp_ints (ns := natI st.length) (SqL.of (by rw [upd_same, erng])), sh_ints _, sh_ints _, ?_⟩
  rw [eqv_ints, decide_eq_true hns]
  exact q _ (sc.trans (s4.trans s5))
abbrev s_law_with_counts : Stmt := top 38
theorem sc_law_with_counts : FnScope ["_law_one", "_law_other"] ["_law_one", "_law_other"] (defScope s_law_with_counts) := ⟨rfl, rfl, rfl, by decide +kernel, rfl, by decide +kernel, by decide +kernel⟩
def sp_with_counts (K : PySem.W.Frag) (TR TF CN : Addr) : Sp := fun vs H Q E => ∃ x y, vs = [x, y] ∧ sp_by_counts K TR TF CN [x] H Q E
structure GX8b (P : Program) (w : World) (K : PySem.W.Frag) (mg : Str → Option Value) (base : Heap) (TR TF CN : Addr) : Prop where
  by_counts : DfX P w K mg base 6 "by_counts" ["counts"] (sp_by_counts K TR TF CN)
theorem dx_with_counts {TR TF CN : Addr} (T : Blt mg) (G : GX8b P w K mg base TR TF CN) (h : HasDef K mg "_law_with_counts" s_law_with_counts ["_law_one", "_law_other"]) : DfX P w K mg base 7 "_law_with_counts" ["_law_one", "_law_other"] (sp_with_counts K TR TF CN) := by
  refine h.dfX fun f fd F => ?_
  refine F.okX sc_law_with_counts (fun vs H Q E h => ?_) (fun cdv A outer s H vs Q E hr h hlv hps => ?_)
  · obtain ⟨x, y, rfl, _⟩ := h; rfl
  have nd := sc_law_with_counts.nd
  obtain ⟨x, y, rfl, h⟩ := h
  refine ⟨_, (pss_one (ps_ret (pe_dfX hps G.by_counts (hr.mono (by decide)) (pa_cons (pv 0) pa_nil)))), ?_⟩
  exact ⟨_, rfl, h⟩
theorem mono_by_counts {TR TF CN : Addr} : MonoS (sp_by_counts K TR TF CN) := by
  intro vs H Q Q' E E' hQ hE h
  obtain ⟨a, ns, e, h1, h2, h3, h4, h5, h6⟩ := h
  exact ⟨a, ns, e, h1, h2, h3, h4, h5, fun res hI => ⟨fun out e H' p ts sm tb n s => hQ _ _ ((h6 res hI).1 out e H' p ts sm tb n s), fun e H' sm tb => hE _ _ _ ((h6 res hI).2 e H' sm tb)⟩⟩
theorem mono_with_counts {TR TF CN : Addr} : MonoS (sp_with_counts K TR TF CN) := by
  intro vs H Q Q' E E' hQ hE h
  obtain ⟨x, y, e, h⟩ := h
  exact ⟨x, y, e, mono_by_counts _ _ _ _ _ _ hQ hE h⟩
theorem mono_row_of {TR TF CN : Addr} : MonoS (sp_row_of K TR TF CN) := by
  intro vs H Q Q' E E' hQ hE h
  obtain ⟨n, a, ts, e, h1, h2, h3, h4⟩ := h
  exact ⟨n, a, ts, e, h1, h2, h3, fun res hI => ⟨fun out e hT R H' p sm tb nr => hQ _ _ ((h4 res hI).1 out e hT R H' p sm tb nr), fun e hT H' sm tb => hE _ _ _ ((h4 res hI).2 e hT H' sm tb)⟩⟩
end
end Tip
set_option Elab.async false
set_option linter.all false
set_option maxRecDepth 100000
set_option maxHeartbeats 4000000
namespace Tip
open PySem PySem.Spec PyProof.Rows L2
theorem Paired.unsnoc {α β : Type} {F : α → β → Prop} : ∀ {l : List α} {a : α} {m : List β} {b : β}, Paired F (l ++ [a]) (m ++ [b]) → Paired F l m ∧ F a b
  | [], a, [], b, h => by cases h with | cons r t => exact ⟨.nil, r⟩
  | [], a, y :: m, b, h => by have := h.length; simp at this
  | x :: l, a, [], b, h => by have := h.length; simp at this
  | x :: l, a, y :: m, b, h => by cases h with | cons r t => obtain ⟨h1, h2⟩ := Paired.unsnoc t; exact ⟨.cons r h1, h2⟩
theorem range_map {α β : Type} (l : List α) (d : α) (φ : α → β) : (List.range l.length).map (fun j => φ (l.getD j d)) = l.map φ := by
  apply List.ext_getElem
  · rw [List.length_map, List.length_map, List.length_range]
  · intro j h1 h2
    rw [List.length_map, List.length_range] at h1
    rw [List.getElem_map, List.getElem_map, List.getElem_range, List.getD_eq_getElem?_getD, List.getElem?_eq_getElem h1]
    rfl
theorem sorted_fact {H : Hp} {rs rs' : List Addr} {ts : List (Int × Int)} (hp : Paired (TupI H) rs ts) (hperm : rs'.Perm rs) (hord : rs'.Pairwise (fun r r' => ∀ t t', PairAt H r t → PairAt H r' t' → lexLe t t')) : ∃ ts', Srt ts' ts ∧ Paired (TupI H) rs' ts' := by
  obtain ⟨ts', h1, h2⟩ := Paired.perm hperm hp
  refine ⟨ts', ⟨h1, ?_⟩, h2⟩
  have key : ∀ {l : List Addr} {m : List (Int × Int)}, Paired (PairAt H) l m → l.Pairwise (fun r r' => ∀ t t', PairAt H r t → PairAt H r' t' → lexLe t t') → m.Pairwise lexLe := by
    intro l m h
    induction h with
    | nil => intro _; exact .nil
    | cons a b ih =>
      intro hp
      have hp' := List.pairwise_cons.mp hp
      refine List.pairwise_cons.mpr ⟨fun t' ht' => ?_, ih hp'.2⟩
      obtain ⟨j, hj, e⟩ := List.mem_iff_getElem.mp ht'
      obtain ⟨r', hr1, hr2⟩ := Paired.at' b (List.getElem?_eq_getElem hj)
      rw [e] at hr2
      exact hp'.1 r' (List.mem_of_getElem? hr1) _ _ a hr2
  exact key h2 hord
def lfP (g : Nat → Int) (tt : Nat) (lf : List Nat) : List (Int × Int) := lf.map fun p : Nat => (g p - (tt : Int), (p : Int))
theorem lfP_len {g : Nat → Int} {tt : Nat} {lf : List Nat} : (lfP g tt lf).length = lf.length := by unfold lfP; rw [List.length_map]
theorem lfP_app {g : Nat → Int} {tt : Nat} {r : List Nat} {y : Nat} : lfP g tt (r ++ [y]) = lfP g tt r ++ [(g y - (tt : Int), (y : Int))] := by unfold lfP; rw [List.map_append]; rfl
theorem lfP_srt {g : Nat → Int} {tt : Nat} {lf : List Nat} (h : lf.Pairwise (fun x y => g x < g y ∨ (g x = g y ∧ x < y))) : (lfP g tt lf).Pairwise lexLe := by
  unfold lfP
  rw [List.pairwise_map]
  exact h.imp fun {x y} h => by unfold lexLe; show g x - (tt : Int) < g y - (tt : Int) ∨ (g x - (tt : Int) = g y - (tt : Int) ∧ (x : Int) ≤ (y : Int)); omega
theorem lfP_next {g : Nat → Int} {tt : Nat} {lf : List Nat} : (lfP g tt lf).map (fun t => (t.1 - 1, t.2)) = lfP g (tt + 1) lf := by
  unfold lfP
  rw [List.map_map]
  refine List.map_congr_left fun p _ => ?_
  show (g p - (tt : Int) - 1, (p : Int)) = (g p - ((tt + 1 : Nat) : Int), (p : Int))
  congr 1
  push_cast
  omega
section
variable {P : Program} {w : World} {K : PySem.W.Frag} {mg : Str → Option Value} {base : Heap} {er : ErA}
abbrev s_law_by_counts : Stmt := top 37
theorem sc_law_by_counts : FnScope ["_law_counts_here", "_law_left", "_law_ties_here", "_law_one", "_law_place", "_law_count"] ["_law_counts_here"] (defScope s_law_by_counts) := ⟨rfl, rfl, rfl, by decide +kernel, rfl, by decide +kernel, by decide +kernel⟩
def sp_law_by_counts (K : PySem.W.Frag) : Sp := fun vs H Q _ => ∃ (a : Addr) (ns : List Int), vs = [.ref a] ∧ Ints K H a ns ∧ ns.length ≤ 40 ∧ ∀ res, IsRow (fun k => ns.getD k 0) ns.length res →
  (∀ out, res = some out → ∀ H' p ts, Same H H' → NewTies H H' p ts → Srt ts (tiesTo out.reverse out.length) → Q (.ref p) H') ∧ (res = none → ∀ H', Same H H' → Q .non H')
theorem df_law_by_counts (T : Blt mg) (h : HasDef K mg "_law_by_counts" s_law_by_counts ["_law_counts_here"]) : Df P w K mg base 1 "_law_by_counts" ["_law_counts_here"] (sp_law_by_counts K) := by
  refine h.df fun f fd F => ?_
  refine F.ok sc_law_by_counts (fun vs H Q E h => ?_) (fun cdv A outer s H vs Q E hr h => ?_)
  · obtain ⟨a, ns, rfl, _⟩ := h; rfl
  have nd := sc_law_by_counts.nd
  obtain ⟨a, ns, rfl, hs, l2, q⟩ := h
  obtain ⟨g, hg⟩ : ∃ g : Nat → Int, g = fun k => ns.getD k 0 := ⟨_, rfl⟩
  rw [← hg] at q
  obtain ⟨res, hI⟩ := isRow_ex g ns.length
  obtain ⟨os, o, hperm, hlex, hrunL, hno, hso⟩ := law_by hI
  obtain ⟨q1, q2⟩ := q res hI
  have hosl : os.length = ns.length := by rw [hperm.length_eq, List.length_range]
  refine ⟨_, (pss_cons (ps_par (i := 1) (j := 2) rfl nd rfl rfl (by decide) rfl rfl (pa_cons (pe_lc (own := [("_law_place", 4), ("_law_count", 5)]) (g := (gTup K 2 (gCons (gName 4) (gCons (gName 5) gNil)))) rfl nd (pi_enum rfl T.enumerate (pa_cons (pv 0) pa_nil)) (blkOk_by (own := [("_law_place", 4), ("_law_count", 5)]) (N := ["_law_counts_here", "_law_left", "_law_ties_here", "_law_one", "_law_place", "_law_count"]) (sc := (defScope s_law_by_counts)) (by decide +kernel)) (fun _ _ _ _ _ => (pg_tup rfl (pgs_cons (pg_name (i := 4) nd rfl (by first | exact Or.inl rfl | exact Or.inr rfl)) (pgs_cons (pg_name (i := 5) nd rfl (by first | exact Or.inl rfl | exact Or.inr rfl)) pgs_nil)))) (fun _ _ _ _ _ => pts_nil) (fun _ _ _ _ _ => (pe_tup (pa_cons (pv 5) (pa_cons (pv 4) pa_nil))))) (pa_cons (pe_lst pa_nil) pa_nil)) (by rfl)) (pss_cons (ps_while PassesOwn.never (pt_cmpR (op_neD hr.units) (pv 1) (pe_lst pa_nil) (nomark _)) (pss_cons (ps_set (i := 1) nd rfl (by first | exact Or.inl rfl | exact Or.inr rfl) (pe_callB cr_sortedT rfl T.sorted (by decide +kernel) (pa_cons (pv 1) pa_nil))) (pss_one (ps_if (pt_cmpR op_eq (pe_ix ix_seq (pe_ix ix_seq (pv 1) (pe_un un_neg pe_int) (fun _ _ => rfl)) pe_int (fun _ _ => rfl)) (pe_op op_sub (pe_callB call_len_seq rfl T.len PySem.boot_len (pa_cons (pv 1) pa_nil)) pe_int) (nomark _)) (pss_cons (ps_set (i := 3) nd rfl (by first | exact Or.inl rfl | exact Or.inr rfl) (pe_ix ix_seq (pe_bm0 PySem.F.plainAttrs_list PySem.F.slot_list_pop PySem.F.type_list_pop mt_pop (pv 1)) pe_int (fun _ _ => rfl))) (pss_cons (ps_set (i := 2) nd rfl (by first | exact Or.inl rfl | exact Or.inr rfl) (pe_op op_cat (pv 2) (pe_lc (own := [("_law_count", 5), ("_law_place", 4)]) (g := (gTup K 2 (gCons (gName 5) (gCons (gName 4) gNil)))) rfl nd (pi_list (pv 1)) (blkOk_by (own := [("_law_count", 5), ("_law_place", 4)]) (N := ["_law_counts_here", "_law_left", "_law_ties_here", "_law_one", "_law_place", "_law_count"]) (sc := (defScope s_law_by_counts)) (by decide +kernel)) (fun _ _ _ _ _ => (pg_tup rfl (pgs_cons (pg_name (i := 5) nd rfl (by first | exact Or.inl rfl | exact Or.inr rfl)) (pgs_cons (pg_name (i := 4) nd rfl (by first | exact Or.inl rfl | exact Or.inr rfl)) pgs_nil)))) (fun _ _ _ _ _ => pts_nil) (fun _ _ _ _ _ => (pe_tup (pa_cons (pe_callB (call_min2 rfl) rfl T.min (by decide +kernel) (pa_cons (pv 3) (pa_cons (pv 4) pa_nil))) (pa_cons (pe_callB (call_max2 rfl) rfl T.max (by decide +kernel) (pa_cons (pv 3) (pa_cons (pv 4) pa_nil))) pa_nil))))))) (pss_one (ps_setLc (i := 1) (own := [("_law_count", 5), ("_law_place", 4)]) (g := (gTup K 2 (gCons (gName 5) (gCons (gName 4) gNil)))) rfl nd rfl rfl (sw_true rfl rfl rfl (by decide +kernel)) (pi_list (pv 1)) (blkOk_by (own := [("_law_count", 5), ("_law_place", 4)]) (N := ["_law_counts_here", "_law_left", "_law_ties_here", "_law_one", "_law_place", "_law_count"]) (sc := (defScope s_law_by_counts)) (by decide +kernel)) (fun _ _ _ _ _ => (pg_tup rfl (pgs_cons (pg_name (i := 5) nd rfl (by first | exact Or.inl rfl | exact Or.inr rfl)) (pgs_cons (pg_name (i := 4) nd rfl (by first | exact Or.inl rfl | exact Or.inr rfl)) pgs_nil)))) (fun _ _ _ _ _ => pts_nil) (fun _ _ _ _ _ => (pe_tup (pa_cons (pe_op op_sub (pv 5) pe_int) (pa_cons (pv 4) pa_nil)))))))) (pss_one (ps_if (pt_cmpR op_eq (pe_ix ix_seq (pe_ix ix_seq (pv 1) pe_int (fun _ _ => rfl)) pe_int (fun _ _ => rfl)) pe_int (nomark _)) (pss_one (ps_set (i := 1) nd rfl (by first | exact Or.inl rfl | exact Or.inr rfl) (pe_slice sl_list (pv 1) (po_some pe_int) po_none))) (pss_one (ps_ret pe_non)))))))) (pss_one (ps_ret (pe_callB cr_sortedT rfl T.sorted (by decide +kernel) (pa_cons (pv 2) pa_nil)))))), ?_⟩
  refine ⟨_, rfl, a, _, rfl, hs, fun D hD => ?_⟩
  refine lc_walk (Walks.enum (K := K) (a := a) (xs := ns.map V.int)) hD (fun H' s' => s'.seq hs) (by rw [List.length_map]; omega) (fun _ => true) (fun i y H' => ∃ r, y = .ref r ∧ TupI H' r (g i - ((0 : Nat) : Int), (i : Int)))
    (fun i y H H' ⟨r, e, hr⟩ ⟨l, hl⟩ k => ⟨r, e, k r _ hr (fun z => by have hr' : H r = some (.tup _) := hr; rw [z, hl] at hr'; cases hr')⟩) (fun Nx i x H2 hi sm hx hk ha => ?_) (fun H2 ys s2 hy pr => ?_)
  · obtain ⟨T2, x2, rfl, hT2, hx2⟩ := hx
    rw [List.getElem?_map] at hx2
    cases e : ns[i]? with
    | none => rw [e] at hx2; cases hx2
    | some m =>
      rw [e] at hx2
      have ex : x2 = .int m := (Option.some.inj hx2).symm
      subst ex
      have em : g i - ((0 : Nat) : Int) = m := by rw [hg]; show ns.getD i 0 - 0 = m; rw [List.getD_eq_getElem?_getD, e, Int.sub_zero]; rfl
      refine ⟨T2, _, rfl, SqT.of hT2, rfl, _, _, rfl, _, _, rfl, rfl, rfl, yesT ?_⟩
      refine ⟨_, rfl, _, rfl, (by show 2 ≤ sizeLine; decide), fun p hp => ?_⟩
      exact ha _ _ (same_new' hp _) rfl ⟨p, rfl, by rw [em]; exact upd_same⟩
  rw [filter_true, List.length_map] at pr
  obtain ⟨qs, rfl, hqs⟩ := paired_refs pr
  refine ⟨(by show 0 ≤ sizeLine; decide), fun B hB => ?_⟩
  have sB := same_new' hB (.lst [])
  refine ⟨_, _, rfl, ?_⟩
  have hp0 : ((List.range ns.length).map fun i : Nat => (g i - ((0 : Nat) : Int), (i : Int))).Perm (lfP g 0 os) := (hperm.symm.map _)
  refine ⟨fun m σ H' => ∃ (lf : List Nat) (tt : Nat) (rest : Option (List (Int × Int))) (acc ls : List (Int × Int)) (L B : Addr) (x3 x4 x5 : Option V), m = lf.length ∧ σ = [some (.ref a), some (.ref L), some (.ref B), x3, x4, x5] ∧ Same H H' ∧ Ties K H' L ls ∧ NewTies H H' B acc ∧ ls.Perm (lfP g tt lf) ∧ lf.length ≤ 40 ∧ acc.length + 40 * lf.length ≤ 1600 ∧ lf.Pairwise (fun x y => g x < g y ∨ (g x = g y ∧ x < y)) ∧ o = rest.map (acc ++ ·) ∧ RunL g lf tt rest,
    ⟨_, os, 0, o, [], _, D, B, _, _, _, rfl, rfl, s2.trans sB, ⟨qs, SqL.of (sB _ _ hy), Paired.mapP hqs fun r t e => sB _ _ e⟩, ⟨s2.free hB, [], upd_same, .nil⟩, hp0, by omega, by simp; omega, hlex, (by cases o <;> simp), hrunL⟩, ?_⟩
  rintro m σ H3 ⟨lf, tt, rest, acc, ls, L, B, x3, x4, x5, rfl, rfl, s3, tL, nB, hpl, hl40, hacc, hlx, ho, hrun⟩
  refine ⟨_, rfl, (by show 0 ≤ sizeLine; decide), fun q0 hq0 => ?_⟩
  have sq0 := same_new' hq0 (.lst [])
  refine ⟨_, _, dp_ties (tL.same sq0), dp_ties (K := K) (ts := []) ⟨[], SqL.of upd_same, .nil⟩, sh_ties _, sh_ties _, _, rfl, ?_⟩
  rw [eqv_ties]
  have hll : ls.length = lf.length := by rw [hpl.length_eq, lfP_len]
  have s4 := s3.trans sq0
  generalize hH4 : upd H3 q0 (.lst []) = H4 at *
  have tL4 : Ties K H4 L ls := tL.same sq0
  obtain ⟨hB0, rsB, hB3, hpB⟩ := nB
  have hB4 : H4 B = some (.lst (rsB.map V.ref)) := sq0 _ _ hB3
  have hpB4 : Paired (TupI H4) rsB acc := Paired.mapP hpB fun r t e => sq0 _ _ e
  have hrB : rsB.length = acc.length := hpB.length
  by_cases hlf : lf = []
  · subst hlf
    have els : ls = [] := List.length_eq_zero_iff.mp hll
    rw [decide_eq_true els]
    refine iteF ?_
    have er : rest = some [] := by
      cases hrun with
      | nil => rfl
      | high e => simp at e
      | stuck e => simp at e
    have eo : o = some acc := by rw [ho, er]; simp
    refine ⟨_, rfl, sortedT_of (ts := acc) ⟨rsB, SqL.of hB4, hpB4⟩ fun ts' p H5 hsrt s5 hnew => ?_⟩
    cases res with
    | none => rw [hno rfl] at eo; cases eo
    | some out =>
      obtain ⟨ts, e1, pt⟩ := hso out rfl
      rw [eo] at e1
      cases e1
      exact q1 out rfl H5 p ts' (s4.trans s5) ⟨s4.free hnew.1, hnew.2⟩ ⟨hsrt.perm.trans pt, hsrt.ord⟩
  have hls : ls ≠ [] := fun z => hlf (List.length_eq_zero_iff.mp (by rw [← hll, z]; rfl))
  rw [decide_eq_false hls]
  refine iteT ?_
  refine ⟨fun σ H' => ∃ (lf' : List Nat) (tt : Nat) (rest : Option (List (Int × Int))) (acc ls : List (Int × Int)) (L B : Addr) (x3 x4 x5 : Option V), lf'.length < lf.length ∧ σ = [some (.ref a), some (.ref L), some (.ref B), x3, x4, x5] ∧ Same H H' ∧ Ties K H' L ls ∧ NewTies H H' B acc ∧ ls.Perm (lfP g tt lf') ∧ lf'.length ≤ 40 ∧ acc.length + 40 * lf'.length ≤ 1600 ∧ lf'.Pairwise (fun x y => g x < g y ∨ (g x = g y ∧ x < y)) ∧ o = rest.map (acc ++ ·) ∧ RunL g lf' tt rest,
      fun σ' H' ⟨lf, tt, rest, acc, ls, L, B, x3, x4, x5, h1, h2⟩ => ⟨_, h1, lf, tt, rest, acc, ls, L, B, x3, x4, x5, rfl, h2⟩, ?_⟩
  obtain ⟨rsL, hsL, hpL⟩ := tL4
  refine ⟨_, rfl, L, rsL, ls, rfl, hsL, hpL, fun rs' p hp0' hperm' hord' => ?_⟩
  obtain ⟨ts', hsrt, hpT'⟩ := sorted_fact hpL hperm' hord'
  have s5 := same_new' hp0' (.lst (rs'.map V.ref))
  generalize hH5 : upd H4 p (.lst (rs'.map V.ref)) = H5 at *
  have hnew : NewTies H4 H5 p ts' := ⟨hp0', rs', by rw [← hH5]; exact upd_same, Paired.mapP hpT' fun r t e => s5 _ _ e⟩
  have ets : ts' = lfP g tt lf := hsrt.eq (ts' := lfP g tt lf) (l' := lfP g tt lf) ⟨List.Perm.refl _, lfP_srt hlx⟩ hpl
  subst ets
  obtain ⟨_, rsP, hP5, hpP⟩ := hnew
  have s05 := s4.trans s5
  have hB5 := s5 _ _ hB4
  have hpB5 : Paired (TupI H5) rsB acc := Paired.mapP hpB4 fun r t e => s5 _ _ e
  have hrP : rsP.length = lf.length := by rw [hpP.length, lfP_len]
  obtain ⟨r, y, elf⟩ : ∃ r y, lf = r ++ [y] := by
    rcases List.eq_nil_or_concat lf with z | ⟨r, y, z⟩
    · exact absurd z hlf
    · exact ⟨r, y, by rw [z]; simp⟩
  obtain ⟨rsR, ry, ersP⟩ : ∃ r y, rsP = r ++ [y] := by
    rcases List.eq_nil_or_concat rsP with z | ⟨r, y, z⟩
    · rw [z] at hrP; exact absurd (List.length_eq_zero_iff.mp hrP.symm) hlf
    · exact ⟨r, y, by rw [z]; simp⟩
  have hpS : Paired (TupI H5) (rsR ++ [ry]) (lfP g tt r ++ [(g y - (tt : Int), (y : Int))]) := by rw [← ersP, ← lfP_app, ← elf]; exact hpP
  obtain ⟨hpR, hry⟩ := Paired.unsnoc hpS
  have hry' : H5 ry = some (.tup [.int (g y - (tt : Int)), .int (y : Int)]) := hry
  have hrR : rsR.length = r.length := by rw [hpR.length, lfP_len]
  have eP : rsP.map V.ref = rsR.map V.ref ++ [.ref ry] := by rw [ersP, List.map_append]; rfl
  have elen : lf.length = r.length + 1 := by rw [elf]; simp
  have hml : (rsP.map V.ref).length = lf.length := by rw [List.length_map, hrP]
  have hpn : H p = none := s4.free hp0'
  refine ⟨_, rfl, 1, rfl, .inl ⟨p, _, -1, .ref ry, rfl, rfl, SqL.of hP5, by rw [eP]; exact atI_last _ _, ?_⟩⟩
  refine .inr (.inl ⟨ry, _, 0, _, rfl, rfl, SqT.of hry', rfl, ?_⟩)
  refine ⟨_, rfl, p, _, rfl, .inl (SqL.of hP5), _, _, rfl, rfl, rfl, _, rfl, ?_⟩
  rw [hml]
  by_cases hy : g y = (tt : Int) + lf.length - 1
  · rw [show decide (V.int (g y - (tt : Int)) = V.int ((lf.length : Int) - 1)) = true by rw [decide_eq_true_iff]; exact congrArg V.int (by omega)]
    refine iteT ?_
    obtain ⟨o', er, hrun'⟩ : ∃ o', rest = o'.map ((r.map fun z : Nat => tieOf (y : Int) (z : Int)) ++ ·) ∧ RunL g r (tt + 1) o' := by
      cases hrun with
      | nil => simp at elf
      | high e h1 h2 =>
        rw [elf] at e
        obtain ⟨rfl, ey⟩ := List.append_inj' e rfl
        cases ey
        exact ⟨_, rfl, h2⟩
      | low hl hn hx _ =>
        rw [elf, List.getLast?_append] at hl
        simp at hl
        subst hl
        exact absurd hy hn
      | stuck h0 hl hn _ =>
        rw [elf, List.getLast?_append] at hl
        simp at hl
        subst hl
        exact absurd hy hn
    refine ⟨_, rfl, .inl ⟨rfl, _, SqL.of hP5⟩, p, _, .ref ry, rfl, rfl, hP5, by rw [eP]; simp, ?_⟩
    rw [show (rsP.map V.ref).dropLast = rsR.map V.ref by rw [eP]; exact List.dropLast_concat]
    generalize hH6 : upd H5 p (.lst (rsR.map V.ref)) = H6
    have k6 : ∀ b o, H5 b = some o → b ≠ p → H6 b = some o := fun b o e hb => by rw [← hH6, upd_ne hb]; exact e
    have tup6 : ∀ b u, H5 b = some (.tup u) → H6 b = some (.tup u) := fun b u e => k6 b _ e (fun z => by rw [z, hP5] at e; cases e)
    have s06 : Same H H6 := fun b o e => k6 b o (s05 _ _ e) (ne_of_none e hpn)
    have hBp : B ≠ p := ne_of_none hB4 hp0'
    have hB6 := k6 _ _ hB5 hBp
    have hP6 : H6 p = some (.lst (rsR.map V.ref)) := by rw [← hH6]; exact upd_same
    have hpR6 : Paired (TupI H6) rsR (lfP g tt r) := Paired.mapP hpR fun r t e => tup6 _ _ e
    have hpB6 : Paired (TupI H6) rsB acc := Paired.mapP hpB5 fun r t e => tup6 _ _ e
    refine .inr (.inl ⟨ry, _, 1, _, rfl, rfl, SqT.of (tup6 _ _ hry'), rfl, ?_⟩)
    have hrl : (rsR.map V.ref).length = (lfP g tt r).length := by rw [List.length_map, hrR, lfP_len]
    have pAt : ∀ {H' : Hp}, Same H6 H' → ∀ {i : Nat} {x : V}, (rsR.map V.ref)[i]? = some x → ∃ r0 t, x = .ref r0 ∧ (lfP g tt r).getD i (0, 0) = t ∧ H' r0 = some (.tup [.int t.1, .int t.2]) := fun {H'} s' {i x} hx => by
      rw [List.getElem?_map] at hx
      cases hr1 : rsR[i]? with
      | none => rw [hr1] at hx; cases hx
      | some r0 =>
        rw [hr1] at hx
        obtain ⟨t, ht1, ht2⟩ := Paired.at hpR6 hr1
        exact ⟨r0, t, (Option.some.inj hx).symm, by rw [List.getD_eq_getElem?_getD, ht1]; rfl, s' _ _ ht2⟩
    have monoR : ∀ {D : Addr} {φ : Nat → Int × Int} (i : Nat) (y : V) (H H' : Hp), (∃ r, y = .ref r ∧ TupI H r (φ i)) → (∃ l, H D = some (.lst l)) → (∀ b o, H b = some o → b ≠ D → H' b = some o) → ∃ r, y = .ref r ∧ TupI H' r (φ i) := fun i y H H' ⟨r, e, hr⟩ ⟨l, hl⟩ k => ⟨r, e, k r _ hr (fun z => by have hr' : H r = some (.tup _) := hr; rw [z, hl] at hr'; cases hr')⟩
    refine ⟨_, rfl, _, rfl, p, rfl, ⟨_, SqL.of hP6⟩, fun D2 hD2 => ?_⟩
    refine lc_walk (Walks.list (K := K) (a := p) (xs := rsR.map V.ref)) hD2 (fun H' s' => s'.seq (SqL.of hP6)) (by rw [hrl, lfP_len]; omega) (fun _ => true) (fun j y0 H => ∃ r9, y0 = .ref r9 ∧ TupI H r9 (tieOf (y : Int) ((lfP g tt r).getD j (0, 0)).2)) (fun j y0 H H' h hD k => monoR (φ := fun j => tieOf (y : Int) ((lfP g tt _).getD j (0, 0)).2) j y0 H H' h hD k) (fun Nx j x H7 hj sm hx hk ha => ?_) (fun H7 ys7 s7 hy7 pr7 => ?_)
    · obtain ⟨r0, t, rfl, et, ht⟩ := pAt sm hx
      refine ⟨r0, _, rfl, SqT.of ht, rfl, _, _, rfl, _, _, rfl, rfl, rfl, yesT ?_⟩
      refine ⟨_, rfl, _, rfl, (y : Int), t.2, rfl, ?_⟩
      refine ⟨_, rfl, _, rfl, (y : Int), t.2, rfl, ?_⟩
      refine ⟨(by show 2 ≤ sizeLine; decide), fun q3 hq3 => ?_⟩
      exact ha _ _ (same_new' hq3 _) rfl ⟨q3, rfl, by rw [et]; exact upd_same⟩
    rw [filter_true, hrl] at pr7
    obtain ⟨qs7, rfl, hqs7⟩ := paired_refs (f := fun j => tieOf (y : Int) ((lfP g tt r).getD j (0, 0)).2) pr7
    rw [range_map (lfP g tt r) (0, 0) (fun t => tieOf (y : Int) t.2)] at hqs7
    have e7 : (lfP g tt r).map (fun t => tieOf (y : Int) t.2) = r.map fun z : Nat => tieOf (y : Int) (z : Int) := by unfold lfP; rw [List.map_map]; rfl
    rw [e7] at hqs7
    have hq7 : qs7.length = r.length := by rw [hqs7.length, List.length_map]
    refine ⟨B, D2, _, _, rfl, rfl, s7 _ _ hB6, hy7, by rw [List.length_map, List.length_map, sizeLine_eq, hq7, hrB]; omega, fun c hc => ?_⟩
    have s8 := same_new' hc (.lst (rsB.map V.ref ++ qs7.map V.ref))
    generalize hH8 : upd H7 c (.lst (rsB.map V.ref ++ qs7.map V.ref)) = H8 at *
    have hc8 : H8 c = some (.lst ((rsB ++ qs7).map V.ref)) := by rw [← hH8, List.map_append]; exact upd_same
    have s68 := s7.trans s8
    refine ⟨_, rfl, p, rfl, ⟨_, SqL.of (s68 _ _ hP6)⟩, fun D3 hD3 => ?_⟩
    refine lc_walk (Walks.list (K := K) (a := p) (xs := rsR.map V.ref)) hD3 (fun H' s' => s'.seq (SqL.of (s68 _ _ hP6))) (by rw [hrl, lfP_len]; omega) (fun _ => true) (fun j y0 H => ∃ r9, y0 = .ref r9 ∧ TupI H r9 (((lfP g tt r).getD j (0, 0)).1 - 1, ((lfP g tt r).getD j (0, 0)).2)) (fun j y0 H H' h hD k => monoR (φ := fun j => (((lfP g tt _).getD j (0, 0)).1 - 1, ((lfP g tt _).getD j (0, 0)).2)) j y0 H H' h hD k) (fun Nx j x H9 hj sm hx hk ha => ?_) (fun H9 ys9 s9 hy9 pr9 => ?_)
    · obtain ⟨r0, t, rfl, et, ht⟩ := pAt (s68.trans sm) hx
      refine ⟨r0, _, rfl, SqT.of ht, rfl, _, _, rfl, _, _, rfl, rfl, rfl, yesT ?_⟩
      refine ⟨_, rfl, _, _, rfl, rfl, _, rfl, (by show 2 ≤ sizeLine; decide), fun q3 hq3 => ?_⟩
      exact ha _ _ (same_new' hq3 _) rfl ⟨q3, rfl, by rw [et]; exact upd_same⟩
    rw [filter_true, hrl] at pr9
    obtain ⟨qs9, rfl, hqs9⟩ := paired_refs (f := fun j => (((lfP g tt r).getD j (0, 0)).1 - 1, ((lfP g tt r).getD j (0, 0)).2)) pr9
    rw [range_map (lfP g tt r) (0, 0) (fun t => (t.1 - 1, t.2)), lfP_next] at hqs9
    have s89 : Same H8 H9 := s9
    refine ⟨r, tt + 1, o', acc ++ r.map (fun z : Nat => tieOf (y : Int) (z : Int)), lfP g (tt + 1) r, D3, c, _, _, _, by omega, rfl, (s06.trans s68).trans s9, ⟨qs9, SqL.of hy9, hqs9⟩, ⟨(s06.trans s7).free hc, rsB ++ qs7, s9 _ _ hc8, Paired.app (Paired.mapP hpB6 fun r t e => s9 _ _ (s68 _ _ e)) (Paired.mapP hqs7 fun r t e => s9 _ _ (s8 _ _ e))⟩, List.Perm.refl _, by omega, by rw [List.length_append, List.length_map]; omega, by rw [elf] at hlx; exact (List.pairwise_append.mp hlx).1, by rw [ho, er]; cases o' <;> simp, hrun'⟩
  · rw [show decide (V.int (g y - (tt : Int)) = V.int ((lf.length : Int) - 1)) = false by rw [decide_eq_false_iff_not]; exact fun z => hy (by have := V.int.inj z; omega)]
    refine iteF ?_
    match lf, rsP, hrun, elf, hP5, hpP, hml, hlx, elen, hl40, hacc with
    | [], _, _, elf, _, _, _, _, _, _, _ => simp at elf
    | x :: r0, [], _, _, _, hpP, _, _, _, _, _ => have := hpP.length; simp [lfP] at this
    | x :: r0, rx :: rs0, hrun, elf, hP5, hpP, hml, hlx, elen, hl40, hacc =>
      cases hpP with
      | cons hrx hpT =>
      have hrx' : H5 rx = some (.tup [.int (g x - (tt : Int)), .int (x : Int)]) := hrx
      refine ⟨_, rfl, .inl ⟨p, _, 0, .ref rx, rfl, rfl, SqL.of hP5, at_of (j := 0) rfl rfl, ?_⟩⟩
      refine .inr (.inl ⟨rx, _, 0, _, rfl, rfl, SqT.of hrx', rfl, ?_⟩)
      refine ⟨rfl, _, rfl, ?_⟩
      by_cases hx : g x = (tt : Int)
      · rw [show decide (V.int (g x - (tt : Int)) = V.int 0) = true by rw [decide_eq_true_iff]; exact congrArg V.int (by omega)]
        refine iteT ?_
        refine ⟨_, rfl, 1, rfl, p, _, rfl, SqL.of hP5, fun sl hsl => ?_⟩
        rw [show cutV ((rx :: rs0).map V.ref) (some 1) none = rs0.map V.ref from cut_from _ 1]
        have s6 := same_new' hsl (.lst (rs0.map V.ref))
        have hrun' : RunL g r0 tt rest := by
          cases hrun with
          | high e h1 h2 =>
            rw [elf] at e
            obtain ⟨_, ey⟩ := List.append_inj' e rfl
            cases ey
            exact absurd h1 hy
          | low hl hn hx h => exact h
          | stuck h0 hl hn hx' => simp at h0; subst h0; exact absurd hx hx'
        refine ⟨r0, tt, rest, acc, lfP g tt r0, sl, B, _, _, _, by simp, rfl, s05.trans s6, ⟨rs0, SqL.of upd_same, Paired.mapP hpT fun r t e => s6 _ _ e⟩, ⟨hB0, rsB, s6 _ _ hB5, Paired.mapP hpB5 fun r t e => s6 _ _ e⟩, List.Perm.refl _, by simp at hl40; omega, by simp at hacc; omega, (List.pairwise_cons.mp hlx).2, ho, hrun'⟩
      · rw [show decide (V.int (g x - (tt : Int)) = V.int 0) = false by rw [decide_eq_false_iff_not]; exact fun z => hx (by have := V.int.inj z; omega)]
        refine iteF ?_
        have er : rest = none := by
          cases hrun with
          | high e h1 h2 =>
            rw [elf] at e
            obtain ⟨_, ey⟩ := List.append_inj' e rfl
            cases ey
            exact absurd h1 hy
          | low hl hn hx' h => exact absurd hx' hx
          | stuck => rfl
        have eo : o = none := by rw [ho, er]; rfl
        refine q2 ?_ _ s05
        cases res with
        | none => rfl
        | some out =>
          obtain ⟨ts, e1, _⟩ := hso out rfl
          rw [eo] at e1
          cases e1
end
end Tip
set_option Elab.async false
set_option linter.all false
set_option maxRecDepth 100000
set_option maxHeartbeats 4000000
namespace Tip
open PySem PySem.Spec PyProof.Rows L2
def dStep (s : Int × Bool) : PyData := .tuple [.int s.1, .bool s.2]
def dRow (st : List (Int × Bool)) : PyData := .list (st.map dStep)
section
variable {K : PySem.W.Frag} {H : Hp}
theorem dpAll_row : ∀ {rs : List Addr} {st : List (Int × Bool)}, Paired (StepAt H) rs st → DpAll K H (rs.map V.ref) (st.map dStep)
  | _, _, .nil => .nil
  | _, _, .cons h t => .cons (.tup (SqT.of h) (.cons (.int _) (.cons (.bl _) .nil))) (dpAll_row t)
theorem dp_row {a : Addr} {st : List (Int × Bool)} (h : RowAt K H a st) : Dp K H (.ref a) (dRow st) := by
  obtain ⟨rs, h1, h2⟩ := h
  exact .lst h1 (dpAll_row h2)
end
theorem eqvAll_row : ∀ xs : List (Int × Bool), PyData.eqvAll (xs.map dStep) (xs.map dStep) = true
  | [] => rfl
  | x :: xs => by
    show (((x.1 == x.1) && ((x.2 == x.2) && true)) && PyData.eqvAll (xs.map dStep) (xs.map dStep)) = true
    rw [eqvAll_row xs]
    simp
theorem eqv_row (xs : List (Int × Bool)) : PyData.eqv (dRow xs) (dRow xs) = true := eqvAll_row xs
theorem lay_row : ∀ ts : List (Int × Bool), PyData.canLayAll0 (ts.map dStep) = true ∧ PyData.depthAll (ts.map dStep) ≤ 1
  | [] => ⟨rfl, Nat.zero_le _⟩
  | t :: r => by
    have := lay_row r
    refine ⟨?_, ?_⟩
    · show (true && PyData.canLayAll0 (r.map dStep)) = true
      rw [this.1]; rfl
    · show max (max 0 (max 0 0) + 1) (PyData.depthAll (r.map dStep)) ≤ 1
      omega
theorem sh_row (ts : List (Int × Bool)) : SeqAt.shaped (dRow ts) = true := by
  have h := lay_row ts
  unfold SeqAt.shaped
  rw [show PyData.canLay0 (dRow ts) = PyData.canLayAll0 (ts.map dStep) from rfl, h.1, show PyData.depth (dRow ts) = PyData.depthAll (ts.map dStep) + 1 from rfl]
  simp; omega
theorem RowAt.same {K : PySem.W.Frag} {H H' : Hp} {a : Addr} {st : List (Int × Bool)} (s : Same H H') (h : RowAt K H a st) : RowAt K H' a st := by
  obtain ⟨rs, h1, h2⟩ := h
  exact ⟨rs, s.seq h1, Paired.mapP h2 fun r t e => s _ _ e⟩
theorem RowAt.sm {K : PySem.W.Frag} {H H' : Hp} {a : Addr} {st : List (Int × Bool)} (s : Sm H H') (h : RowAt K H a st) : RowAt K H' a st := by
  obtain ⟨rs, h1, h2⟩ := h
  exact ⟨rs, s.seq h1, Paired.mapP h2 fun r t e => s.tup e⟩
section
variable {P : Program} {w : World} {K : PySem.W.Frag} {mg : Str → Option Value} {base : Heap} {er : ErA}
abbrev s_law_counts_right : Stmt := top 39
theorem sc_law_counts_right : FnScope ["_law_counts_here", "_law_due", "_law_handed", "_law_found"] ["_law_counts_here"] (defScope s_law_counts_right) := ⟨rfl, rfl, rfl, by decide +kernel, rfl, by decide +kernel, by decide +kernel⟩
def sp_counts_right (K : PySem.W.Frag) (TR TF : Addr) : Sp := fun vs H Q _ => ∃ (a : Addr) (ns : List Int), vs = [.ref a] ∧ Ints K H a ns ∧ 1 ≤ ns.length ∧ ns.length ≤ 40 ∧ (∀ x ∈ ns, 0 ≤ x) ∧ Tabs TR TF H ∧ ∀ H', Sm H H' → Tabs TR TF H' → Q (.bl true) H'
structure GY1 (P : Program) (w : World) (K : PySem.W.Frag) (mg : Str → Option Value) (base : Heap) (TR TF : Addr) (er : ErA) : Prop where
  _law_by_counts : Df P w K mg base 1 "_law_by_counts" ["_law_counts_here"] (sp_law_by_counts K)
  _law_refused : Df P w K mg base 9 "_law_refused" ["_law_ask", "_law_one", "_law_other"] (sp_refused P w K mg base er)
  by_counts : Df P w K mg base 6 "by_counts" ["counts"] (fun vs H Q _ => sp_by_counts K TR TF er.nt vs H Q E0)
  with_counts : DfX P w K mg base 7 "_law_with_counts" ["_law_one", "_law_other"] (sp_with_counts K TR TF er.nt)
  _law_counts : Df P w K mg base 2 "_law_counts" ["_law_places", "_law_ties_here"] (sp_counts_of K)
theorem df_law_counts_right {TR TF : Addr} (T : Blt mg) (G : GY1 P w K mg base TR TF er) (h : HasDef K mg "_law_counts_right" s_law_counts_right ["_law_counts_here"]) : Df P w K mg base 10 "_law_counts_right" ["_law_counts_here"] (sp_counts_right K TR TF) := by
  refine h.df fun f fd F => ?_
  refine F.ok sc_law_counts_right (fun vs H Q E h => ?_) (fun cdv A outer s H vs Q E hr h => ?_)
  · obtain ⟨a, ns, rfl, _⟩ := h; rfl
  have nd := sc_law_counts_right.nd
  obtain ⟨a, ns, rfl, hs, l1, l2, nn, tb, q⟩ := h
  obtain ⟨fv__law_with_counts, fdN, FN, hm__law_with_counts, hkN, hbN⟩ := G.with_counts.ex
  refine ⟨_, (pss_cons (ps_par (i := 1) (j := 2) rfl nd rfl rfl (by decide) rfl rfl (pa_cons (pe_df G._law_by_counts (hr.mono (by decide)) (pa_cons (pv 0) pa_nil)) (pa_cons (pe_callTy call_list_of rfl T.list_ (by decide +kernel) (pa_cons (pv 0) pa_nil)) pa_nil)) (by rfl)) (pss_cons (ps_if (pt_cmpR op_isN (pv 1) pe_non (nomark _)) (pss_one (ps_ret (pe_df G._law_refused (hr.mono (by decide)) (pa_cons (pe_glob (v := .ref fv__law_with_counts) rfl hm__law_with_counts rfl) (pa_cons (pv 2) (pa_cons pe_int pa_nil)))))) pss_nil) (pss_cons (ps_set (i := 3) nd rfl (by first | exact Or.inl rfl | exact Or.inr rfl) (pe_df G.by_counts (hr.mono (by decide)) (pa_cons (pv 2) pa_nil))) (pss_cons (ps_if (PW.pt (pw_or (pt_cmpR (op_neD hr.units) (pv 3) (pv 1) (nomark _)) (pw_or (pt_cmpR (op_neD hr.units) (pv 2) (pv 0) (nomark _)) (pw_or1 (pt_cmpR (op_neD hr.units) (pe_df G._law_counts (hr.mono (by decide)) (pa_cons (pe_callB call_len_seq rfl T.len PySem.boot_len (pa_cons (pv 0) pa_nil)) (pa_cons (pv 1) pa_nil))) (pv 0) (nomark _)))))) (pss_one (ps_ret pe_bl)) pss_nil) (pss_cons (ps_expr (pe_bm PySem.F.plainAttrs_list PySem.F.slot_list_append PySem.F.type_list_append mt_append (pv 3) (pa_cons (pe_tup (pa_cons pe_int (pa_cons pe_int pa_nil))) pa_nil))) (pss_one (ps_ret (pe_cmpR (op_eqD hr.units) (pe_df G.by_counts (hr.mono (by decide)) (pa_cons (pv 2) pa_nil)) (pv 1) (nomark _))))))))), ?_⟩
  refine ⟨_, rfl, a, ns, rfl, hs, l2, fun res hI => ⟨fun out e H1 p ts s1 n1 srt => ?_, fun e H1 s1 => ?_⟩⟩
  · subst e
    refine ⟨_, rfl, a, _, rfl, .inl (s1.seq hs), fun l hl => ?_⟩
    have s2 := same_new' hl (.lst (ns.map V.int))
    refine ⟨_, _, rfl, ?_⟩
    refine ⟨_, rfl, rfl, _, rfl, ?_⟩
    rw [show decide (V.ref p = V.non) = false from rfl]
    refine iteF ?_
    have s12 := s1.trans s2
    have hl2 : Ints K (upd H1 l (.lst (ns.map V.int))) l ns := SqL.of upd_same
    have t1 : Ties K (upd H1 l (.lst (ns.map V.int))) p ts := (n1.at (K := K)).same s2
    refine ⟨_, rfl, l, ns, rfl, hl2, l1, l2, nn, tb.same s12, fun res2 hI2 => ⟨fun out2 e2 H3 p3 ts3 sm3 tb3 n3 srt3 => ?_, fun e2 => by have := isRow_det hI hI2; rw [e2] at this; cases this⟩⟩
    have e3 := isRow_det hI hI2
    rw [e2] at e3
    cases e3
    have ets : ts3 = ts := srt3.eq srt (List.Perm.refl _)
    subst ets
    obtain ⟨hgood, hol⟩ := isRow_good l1 l2 hI
    obtain ⟨ok, R⟩ := row_web hgood (ts := ts3) (by rw [List.length_reverse]; exact srt.perm)
    rw [List.length_reverse, hol] at ok
    have t13 : Ties K H3 p ts3 := t1.sm sm3
    refine ⟨_, rfl, _, rfl, _, _, dp_ties n3.at, dp_ties t13, sh_ties _, sh_ties _, _, rfl, ?_⟩
    rw [eqv_ties, decide_eq_true rfl]
    refine iteF ?_
    have sm03 : Sm H H3 := (Sm.of s12).trans sm3
    refine ⟨_, rfl, _, rfl, _, _, dp_ints (ns := ns) (sm3.seq hl2), dp_ints (ns := ns) (sm03.seq hs), sh_ints _, sh_ints _, _, rfl, ?_⟩
    rw [eqv_ints, decide_eq_true rfl]
    refine iteF ?_
    refine ⟨_, rfl, a, _, rfl, .inl (sm03.seq hs), ?_⟩
    rw [List.length_map]
    refine ⟨_, rfl, ns.length, p, ts3, rfl, t13, ok, fun H4 c s4 hc0 hc => ?_⟩
    have ed : degs ns.length ts3 = ns := isRow_degs hI srt.perm
    rw [ed] at hc
    refine ⟨_, rfl, _, _, dp_ints (ns := ns) (SqL.of hc), dp_ints (ns := ns) ((sm03.trans (Sm.of s4)).seq hs), sh_ints _, sh_ints _, _, rfl, ?_⟩
    rw [eqv_ints, decide_eq_true rfl]
    refine iteF ?_
    -- found.append
    obtain ⟨hp30, rs3, hl3, hpp3⟩ := n3
    have hl34 : H4 p3 = some (.lst (rs3.map V.ref)) := s4 _ _ hl3
    refine ⟨_, rfl, .inl ⟨rfl, _, SqL.of hl34⟩, ?_⟩
    refine ⟨(by show 2 ≤ sizeLine; decide), fun q1 hq1 => ?_⟩
    have hfew := ok.few
    refine ⟨p3, _, _, rfl, rfl, by rw [upd_ne (ne_of_none hl34 hq1)]; exact hl34, by rw [List.length_map, hpp3.length, sizeLine_eq]; omega, ?_⟩
    have sq1 := same_new' hq1 (.tup [.int 0, .int 0])
    generalize hH6 : upd (upd H4 q1 (.tup [.int 0, .int 0])) p3 (.lst (rs3.map V.ref ++ [.ref q1])) = H6
    have sm26 : Sm (upd H1 l (.lst (ns.map V.int))) H6 := by
      rw [← hH6]
      exact ((sm3.trans (Sm.of s4)).trans (Sm.of sq1)).upd hp30
    have sm06 : Sm H H6 := (Sm.of s12).trans sm26
    have tb6 : Tabs TR TF H6 := by
      rw [← hH6]
      exact ((tb3.same s4).same sq1).upd (sq1 _ _ hl34)
    refine ⟨_, rfl, l, ns, rfl, sm26.seq hl2, l1, l2, nn, tb6, fun res5 hI5 => ⟨fun out5 e5 H7 p7 ts7 sm7 tb7 n7 srt7 => ?_, fun e5 => by have := isRow_det hI hI5; rw [e5] at this; cases this⟩⟩
    have e6 := isRow_det hI hI5
    rw [e5] at e6
    cases e6
    have ets7 : ts7 = ts3 := srt7.eq srt (List.Perm.refl _)
    subst ets7
    refine ⟨_, rfl, _, _, dp_ties n7.at, dp_ties ((t1.sm sm26).sm sm7), sh_ties _, sh_ties _, ?_⟩
    rw [eqv_ties, decide_eq_true rfl]
    exact q H7 (sm06.trans sm7) tb7
  · subst e
    refine ⟨_, rfl, a, _, rfl, .inl (s1.seq hs), fun l hl => ?_⟩
    have s2 := same_new' hl (.lst (ns.map V.int))
    refine ⟨_, _, rfl, ?_⟩
    refine ⟨_, rfl, rfl, _, rfl, ?_⟩
    rw [show decide (V.non = V.non) = true from rfl]
    refine iteT ?_
    have s12 := s1.trans s2
    refine ⟨_, rfl, fv__law_with_counts, _, _, fdN, _, sp_with_counts K TR TF er.nt, rfl, FN.mono (by decide), hkN, hbN, mono_with_counts, ?_⟩
    refine ⟨.ref l, .int 0, rfl, ?_⟩
    refine ⟨l, ns, rfl, SqL.of upd_same, l1, l2, nn, tb.same s12, fun res2 hI2 => ⟨fun out2 e2 => ?_, fun e2 H3 sm3 tb3 => ⟨rfl, fun H4 s4 => ?_⟩⟩⟩
    · have e6 := isRow_det hI hI2
      rw [e2] at e6
      cases e6
    exact q H4 (((Sm.of s12).trans sm3).trans (Sm.of s4)) (tb3.same s4)
end
end Tip
set_option Elab.async false
set_option linter.all false
set_option maxRecDepth 100000
set_option maxHeartbeats 8000000
namespace Tip
open PySem PySem.Spec PyProof.Rows L2
theorem cut_last (xs : List V) (x : V) : cutV (xs ++ [x]) none (some (-1)) = xs := by
  unfold cutV
  rw [HT.sIx_none]
  have e : HT.sIx (xs ++ [x]).length (xs ++ [x]).length (some (-1)) = xs.length := by
    unfold HT.sIx
    simp
    omega
  rw [e]
  simp
theorem sorted_new {K : PySem.W.Frag} {H : Hp} {a : Addr} {ts : List (Int × Int)} (ht : Ties K H a ts) : ∃ rs : List Addr, SqL K H a (rs.map V.ref) ∧ Paired (PairAt H) rs ts ∧ ∀ (rs' : List Addr) (p : Addr), H p = none → rs'.Perm rs → rs'.Pairwise (fun r r' => ∀ t t', PairAt H r t → PairAt H r' t' → lexLe t t') →
    ∃ ts', Srt ts' ts ∧ Same H (upd H p (.lst (rs'.map V.ref))) ∧ NewTies H (upd H p (.lst (rs'.map V.ref))) p ts' := by
  obtain ⟨rs, h1, h2⟩ := ht
  refine ⟨rs, h1, h2, fun rs' p hp hperm hord => ?_⟩
  obtain ⟨ts', hs, hp'⟩ := sorted_fact h2 hperm hord
  have s := same_new' hp (.lst (rs'.map V.ref))
  exact ⟨ts', hs, s, hp, rs', upd_same, Paired.mapP hp' fun r t e => s _ _ e⟩
/-- a list of its own that is there, kept while another one is written -/
theorem paired_upd {α : Type} {H : Hp} {p : Addr} {l l' : List V} {f : α → List V} {rs : List Addr} {st : List α} (hl : H p = some (.lst l)) (h : Paired (fun r s => H r = some (.tup (f s))) rs st) : Paired (fun r s => upd H p (.lst l') r = some (.tup (f s))) rs st :=
  Paired.mapP h fun r s e => by rw [upd_ne fun z => by rw [z, hl] at e; cases e]; exact e
section
variable {P : Program} {w : World} {K : PySem.W.Frag} {mg : Str → Option Value} {base : Heap} {er : ErA}
abbrev s_law_right2 : Stmt := top 40
theorem sc_law_right2 : FnScope ["_law_places", "_law_ties_here", "_law_handed", "_law_found", "_law_kept", "_law_back"] ["_law_places", "_law_ties_here"] (defScope s_law_right2) := ⟨rfl, rfl, rfl, by decide +kernel, rfl, by decide +kernel, by decide +kernel⟩
def sp_right2 (K : PySem.W.Frag) (TR TF : Addr) : Sp := fun vs H Q _ => ∃ (n : Nat) (a : Addr) (ts : List (Int × Int)), vs = [.int n, .ref a] ∧ Ties K H a ts ∧ WebOk n ts ∧ Tabs TR TF H ∧ ∀ H', Sm H H' → Tabs TR TF H' → Q (.bl true) H'
structure GR2 (P : Program) (w : World) (K : PySem.W.Frag) (mg : Str → Option Value) (base : Heap) (TR TF : Addr) (er : ErA) : Prop where
  _law_is_tip : Df P w K mg base 2 "_law_is_tip" ["_law_places", "_law_ties_here"] (sp_law_is_tip K)
  _law_refused : Df P w K mg base 9 "_law_refused" ["_law_ask", "_law_one", "_law_other"] (sp_refused P w K mg base er)
  row_of : Df P w K mg base 6 "row_of" ["places", "ties"] (fun vs H Q _ => sp_row_of K TR TF er.nt vs H Q E0)
  row_ofX : DfX P w K mg base 6 "row_of" ["places", "ties"] (sp_row_of K TR TF er.nt)
  _law_is_row : Df P w K mg base 2 "_law_is_row" ["_law_found", "_law_places"] (sp_law_is_row K)
  _law_ties : Df P w K mg base 1 "_law_ties" ["_law_row"] (sp_law_ties K)
  by_row : Df P w K mg base 5 "by_row" ["row"] (sp_by_row K)
  by_counts : Df P w K mg base 6 "by_counts" ["counts"] (fun vs H Q _ => sp_by_counts K TR TF er.nt vs H Q E0)
  _law_counts : Df P w K mg base 2 "_law_counts" ["_law_places", "_law_ties_here"] (sp_counts_of K)
theorem df_law_right2 {TR TF : Addr} (T : Blt mg) (G : GR2 P w K mg base TR TF er) (h : HasDef K mg "_law_right" s_law_right2 ["_law_places", "_law_ties_here"]) : Df P w K mg base 10 "_law_right" ["_law_places", "_law_ties_here"] (sp_right2 K TR TF) := by
  refine h.df fun f fd F => ?_
  refine F.ok sc_law_right2 (fun vs H Q E h => ?_) (fun cdv A outer s H vs Q E hr h => ?_)
  · obtain ⟨n, a, ts, rfl, _⟩ := h; rfl
  have nd := sc_law_right2.nd
  obtain ⟨n, a, ts, rfl, ht, ok, tb, q⟩ := h
  have hn1 := ok.lo
  have hn40 := ok.hi
  obtain ⟨fv_row_of, fdN, FN, hm_row_of, hkN, hbN⟩ := G.row_ofX.ex
  refine ⟨_, (pss_cons (ps_set (i := 2) nd rfl (by first | exact Or.inl rfl | exact Or.inr rfl) (pe_callTy call_list_of rfl T.list_ (by decide +kernel) (pa_cons (pv 1) pa_nil))) (pss_cons (ps_if (pt_not (pt_val (pe_df G._law_is_tip (hr.mono (by decide)) (pa_cons (pv 0) (pa_cons (pv 1) pa_nil))))) (pss_one (ps_ret (pe_and (pe_df G._law_refused (hr.mono (by decide)) (pa_cons (pe_glob (v := .ref fv_row_of) rfl hm_row_of rfl) (pa_cons (pv 0) (pa_cons (pv 2) pa_nil)))) (pe_one (pe_cmpR (op_eqD hr.units) (pv 2) (pv 1) (nomark _)))))) pss_nil) (pss_cons (ps_set (i := 3) nd rfl (by first | exact Or.inl rfl | exact Or.inr rfl) (pe_df G.row_of (hr.mono (by decide)) (pa_cons (pv 0) (pa_cons (pv 2) pa_nil)))) (pss_cons (ps_if (PW.pt (pw_or (pt_not (pt_val (pe_df G._law_is_row (hr.mono (by decide)) (pa_cons (pv 3) (pa_cons (pv 0) pa_nil))))) (pw_or (pt_cmpR (op_neD hr.units) (pe_df G._law_ties (hr.mono (by decide)) (pa_cons (pv 3) pa_nil)) (pe_callB cr_sortedT rfl T.sorted (by decide +kernel) (pa_cons (pv 1) pa_nil)) (nomark _)) (pw_or1 (pt_cmpR (op_neD hr.units) (pv 2) (pv 1) (nomark _)))))) (pss_one (ps_ret pe_bl)) pss_nil) (pss_cons (ps_set (i := 4) nd rfl (by first | exact Or.inl rfl | exact Or.inr rfl) (pe_callTy call_list_of rfl T.list_ (by decide +kernel) (pa_cons (pv 3) pa_nil))) (pss_cons (ps_set (i := 5) nd rfl (by first | exact Or.inl rfl | exact Or.inr rfl) (pe_df G.by_row (hr.mono (by decide)) (pa_cons (pv 4) pa_nil))) (pss_cons (ps_expr (pe_bm PySem.F.plainAttrs_list PySem.F.slot_list_append PySem.F.type_list_append mt_append (pv 3) (pa_cons (pe_tup (pa_cons pe_int (pa_cons pe_bl pa_nil))) pa_nil))) (pss_cons (ps_if (PW.pt (pw_or (pt_cmpR (op_neD hr.units) (pv 5) (pe_callB cr_sortedT rfl T.sorted (by decide +kernel) (pa_cons (pv 1) pa_nil)) (nomark _)) (pw_or (pt_cmpR (op_neD hr.units) (pv 4) (pe_slice sl_list (pv 3) po_none (po_some (pe_un un_neg pe_int))) (nomark _)) (pw_or1 (pt_cmpR (op_neD hr.units) (pe_df G.row_of (hr.mono (by decide)) (pa_cons (pv 0) (pa_cons (pv 2) pa_nil))) (pv 4) (nomark _)))))) (pss_one (ps_ret pe_bl)) pss_nil) (pss_cons (ps_expr (pe_bm PySem.F.plainAttrs_list PySem.F.slot_list_append PySem.F.type_list_append mt_append (pv 5) (pa_cons (pe_tup (pa_cons pe_int (pa_cons pe_int pa_nil))) pa_nil))) (pss_one (ps_ret (pe_and (pe_cmpR (op_eqD hr.units) (pe_df G.by_row (hr.mono (by decide)) (pa_cons (pv 4) pa_nil)) (pe_slice sl_list (pv 5) po_none (po_some (pe_un un_neg pe_int))) (nomark _)) (pe_one (pe_cmpR (op_eqD hr.units) (pe_df G.by_counts (hr.mono (by decide)) (pa_cons (pe_df G._law_counts (hr.mono (by decide)) (pa_cons (pv 0) (pa_cons (pv 1) pa_nil))) pa_nil)) (pe_callB cr_sortedT rfl T.sorted (by decide +kernel) (pa_cons (pv 1) pa_nil)) (nomark _))))))))))))))), ?_⟩
  obtain ⟨rs0, hs0, hp0⟩ := id ht
  refine ⟨_, rfl, a, _, rfl, .inl hs0, fun l hl => ?_⟩
  have s1 := same_new' hl (.lst (rs0.map V.ref))
  have hl1 : Ties K (upd H l (.lst (rs0.map V.ref))) l ts := ⟨rs0, SqL.of upd_same, Paired.mapP hp0 fun r t e => s1 _ _ e⟩
  generalize hH1 : upd H l (.lst (rs0.map V.ref)) = H1 at *
  refine ⟨_, rfl, _, rfl, n, a, ts, rfl, ht.same s1, ok, fun hT H2 s2 => ⟨_, rfl, iteF ?_⟩, fun hT H2 s2 => ⟨_, rfl, iteT ?_⟩⟩
  · have s12 := s1.trans s2
    have ta2 : Ties K H2 a ts := ht.same s12
    have tl2 : Ties K H2 l ts := hl1.same s2
    have tb2 := tb.same s12
    refine ⟨_, rfl, _, rfl, n, l, ts, rfl, tl2, ok, tb2, fun res hI => ⟨fun out e hT1 R H3 p sm3 tb3 nr => ?_, fun e hn => absurd hT hn⟩⟩
    subst e
    obtain ⟨row, hrow⟩ : ∃ row, row = out.reverse := ⟨_, rfl⟩
    rw [← hrow] at R nr
    have hgood : RowGood row := R.good ok (by rw [hrow]; exact isRow_fst (by omega) hI)
    have hlen : row.length = n := R.len
    have hpt : ts.Perm (tiesTo row row.length) := row_ties ok R hgood
    have hol : out.length = row.length := by rw [hrow, List.length_reverse]
    refine ⟨_, rfl, _, rfl, p, row, (by show [V.ref p, V.int (n : Int)] = _; rw [hlen]), nr.at, hgood, fun H4 s4 => ⟨_, rfl, iteF ?_⟩⟩
    refine ⟨_, rfl, p, row, rfl, (nr.at (K := K)).same s4, by omega, fun H5 p5 ts5 s5 n5 srt5 => ?_⟩
    have sm25 : Sm H2 H5 := (sm3.trans (Sm.of s4)).trans (Sm.of s5)
    obtain ⟨rsA, hsA, hpA, fA⟩ := sorted_new (ta2.sm sm25)
    refine ⟨_, rfl, a, rsA, ts, rfl, hsA, hpA, fun rs6 p6 hp6 h61 h62 => ?_⟩
    obtain ⟨ts6, srt6, s6, n6⟩ := fA rs6 p6 hp6 h61 h62
    generalize hH6 : upd H5 p6 (.lst (rs6.map V.ref)) = H6 at *
    have e56 : ts5 = ts6 := srt5.eq srt6 hpt.symm
    subst e56
    refine ⟨_, _, dp_ties ((n5.at (K := K)).same s6), dp_ties n6.at, sh_ties _, sh_ties _, _, rfl, ?_⟩
    rw [eqv_ties, decide_eq_true rfl]
    refine iteF ?_
    have sm26 := sm25.trans (Sm.of s6)
    refine ⟨_, rfl, _, rfl, _, _, dp_ties (tl2.sm sm26), dp_ties (ta2.sm sm26), sh_ties _, sh_ties _, _, rfl, ?_⟩
    rw [eqv_ties, decide_eq_true rfl]
    refine iteF ?_
    -- kept
    obtain ⟨hpn, rsr, hp3, hpp3⟩ := nr
    have s36 : Same H3 H6 := (s4.trans s5).trans s6
    have hp6' := s36 _ _ hp3
    refine ⟨_, rfl, p, _, rfl, .inl (SqL.of hp6'), fun kp hkp => ?_⟩
    have s7 := same_new' hkp (.lst (rsr.map V.ref))
    have hkp7 : upd H6 kp (.lst (rsr.map V.ref)) kp = some (.lst (rsr.map V.ref)) := upd_same
    have npk : p ≠ kp := ne_of_none hp6' hkp
    generalize hH7 : upd H6 kp (.lst (rsr.map V.ref)) = H7 at *
    have s37 := s36.trans s7
    have hpp7 : Paired (StepAt H7) rsr row := Paired.mapP hpp3 fun r t e => s37 _ _ e
    refine ⟨_, rfl, kp, row, rfl, ⟨rsr, SqL.of hkp7, hpp7⟩, hgood, fun H8 b ts8 s8 n8 srt8 => ?_⟩
    have e8 : ts8 = ts5 := srt8.eq srt5 (List.Perm.refl _)
    subst e8
    obtain ⟨hbn, rsb, hb8, hpb8⟩ := n8
    have hp8 : H8 p = some (.lst (rsr.map V.ref)) := s8 _ _ (s37 _ _ hp3)
    have hkp8 := s8 _ _ hkp7
    have hpp8 : Paired (StepAt H8) rsr row := Paired.mapP hpp7 fun r t e => s8 _ _ e
    have npb : p ≠ b := ne_of_none (s37 _ _ hp3) hbn
    have nkb : kp ≠ b := ne_of_none hkp7 hbn
    -- found.append
    refine ⟨_, rfl, .inl ⟨rfl, _, SqL.of hp8⟩, ?_⟩
    refine ⟨(by show 2 ≤ sizeLine; decide), fun q1 hq1 => ?_⟩
    have sq1 := same_new' hq1 (.tup [.int 0, .bl false])
    have hrl : rsr.length = row.length := hpp3.length
    refine ⟨p, _, _, rfl, rfl, sq1 _ _ hp8, by rw [List.length_map, sizeLine_eq]; omega, ?_⟩
    have hq1p : p ≠ q1 := ne_of_none hp8 hq1
    generalize hHq : upd H8 q1 (.tup [.int 0, .bl false]) = Hq at *
    have hpq := sq1 _ _ hp8
    have sm2q : Sm H2 Hq := ((sm26.trans (Sm.of s7)).trans (Sm.of s8)).trans (Sm.of sq1)
    have tbq : Tabs TR TF Hq := (((tb3.same s37).same s8).same sq1)
    have hpp9 := paired_upd (l' := rsr.map V.ref ++ [.ref q1]) (f := fun s : Int × Bool => [.int s.1, .bl s.2]) hpq (Paired.mapP hpp8 fun r t e => sq1 _ _ e)
    have hpb9 := paired_upd (l' := rsr.map V.ref ++ [.ref q1]) (f := fun s : Int × Int => [.int s.1, .int s.2]) hpq (Paired.mapP hpb8 fun r t e => sq1 _ _ e)
    have hkp9 : upd Hq p (.lst (rsr.map V.ref ++ [.ref q1])) kp = some (.lst (rsr.map V.ref)) := by rw [upd_ne (Ne.symm npk)]; exact sq1 _ _ hkp8
    have hb9 : upd Hq p (.lst (rsr.map V.ref ++ [.ref q1])) b = some (.lst (rsb.map V.ref)) := by rw [upd_ne (Ne.symm npb)]; exact sq1 _ _ hb8
    have hp9 : upd Hq p (.lst (rsr.map V.ref ++ [.ref q1])) p = some (.lst (rsr.map V.ref ++ [.ref q1])) := upd_same
    have sm29 : Sm H2 (upd Hq p (.lst (rsr.map V.ref ++ [.ref q1]))) := sm2q.upd hpn
    have tb9 : Tabs TR TF (upd Hq p (.lst (rsr.map V.ref ++ [.ref q1]))) := tbq.upd hpq
    generalize hH9 : upd Hq p (.lst (rsr.map V.ref ++ [.ref q1])) = H9 at *
    -- back != sorted
    obtain ⟨rsB, hsB, hpB, fB⟩ := sorted_new (ta2.sm sm29)
    refine ⟨_, rfl, _, rfl, a, rsB, ts, rfl, hsB, hpB, fun rs10 p10 hp10 h101 h102 => ?_⟩
    obtain ⟨ts10, srt10, s10, n10⟩ := fB rs10 p10 hp10 h101 h102
    generalize hH10 : upd H9 p10 (.lst (rs10.map V.ref)) = H10 at *
    have e10 : ts10 = ts8 := srt10.eq srt8 hpt
    subst e10
    have row9 : RowAt K H9 kp row := ⟨rsr, SqL.of hkp9, hpp9⟩
    have back9 : Ties K H9 b ts10 := ⟨rsb, SqL.of hb9, hpb9⟩
    refine ⟨_, _, dp_ties (back9.same s10), dp_ties n10.at, sh_ties _, sh_ties _, _, rfl, ?_⟩
    rw [eqv_ties, decide_eq_true rfl]
    refine iteF ?_
    -- kept != found[:-1]
    refine ⟨_, rfl, _, rfl, 1, rfl, -1, rfl, p, _, rfl, SqL.of (s10 _ _ hp9), fun sl hsl => ?_⟩
    rw [cut_last]
    have s11 := same_new' hsl (.lst (rsr.map V.ref))
    have hsl11 : upd H10 sl (.lst (rsr.map V.ref)) sl = some (.lst (rsr.map V.ref)) := upd_same
    generalize hH11 : upd H10 sl (.lst (rsr.map V.ref)) = H11 at *
    have s911 := s10.trans s11
    have row11 := row9.same s911
    have rowS : RowAt K H11 sl row := ⟨rsr, SqL.of hsl11, Paired.mapP hpp9 fun r t e => s911 _ _ e⟩
    refine ⟨_, _, dp_row row11, dp_row rowS, sh_row _, sh_row _, _, rfl, ?_⟩
    rw [eqv_row]
    refine iteF ?_
    -- row_of again
    have sm211 := sm29.trans (Sm.of s911)
    refine ⟨_, rfl, _, rfl, n, l, ts, rfl, tl2.sm sm211, ok, tb9.same s911, fun res2 hI2 => ⟨fun out2 e2 hT2 R2 H12 p12 sm12 tb12 nr12 => ?_, fun e hn => absurd hT hn⟩⟩
    have eo : out2 = out := by have := isRow_det hI2 hI; rw [e2] at this; exact Option.some.inj this
    subst eo
    rw [← hrow] at nr12
    have row12 := row11.sm sm12
    refine ⟨_, rfl, _, _, dp_row nr12.at, dp_row row12, sh_row _, sh_row _, _, rfl, ?_⟩
    rw [eqv_row]
    refine iteF ?_
    -- back.append
    have hb12 : H12 b = some (.lst (rsb.map V.ref)) := sm12.lst (s911 _ _ hb9)
    have hkp12 : H12 kp = some (.lst (rsr.map V.ref)) := sm12.lst (s911 _ _ hkp9)
    have hpp12 : Paired (StepAt H12) rsr row := Paired.mapP hpp9 fun r t e => sm12.tup (s911 _ _ e)
    have hpb12 : Paired (TupI H12) rsb ts10 := Paired.mapP hpb9 fun r t e => sm12.tup (s911 _ _ e)
    have sm212 := sm211.trans sm12
    refine ⟨_, rfl, .inl ⟨rfl, _, SqL.of hb12⟩, ?_⟩
    refine ⟨(by show 2 ≤ sizeLine; decide), fun q2 hq2 => ?_⟩
    have sq2 := same_new' hq2 (.tup [.int 0, .int 0])
    have hfew := ok.few
    have htl : ts10.length = ts.length := srt10.perm.length_eq
    refine ⟨b, _, _, rfl, rfl, sq2 _ _ hb12, by rw [List.length_map, hpb12.length, sizeLine_eq]; omega, ?_⟩
    generalize hHr : upd H12 q2 (.tup [.int 0, .int 0]) = Hr at *
    have hbr := sq2 _ _ hb12
    have hpp13 := paired_upd (l' := rsb.map V.ref ++ [.ref q2]) (f := fun s : Int × Bool => [.int s.1, .bl s.2]) hbr (Paired.mapP hpp12 fun r t e => sq2 _ _ e)
    have hpb13 := paired_upd (l' := rsb.map V.ref ++ [.ref q2]) (f := fun s : Int × Int => [.int s.1, .int s.2]) hbr (Paired.mapP hpb12 fun r t e => sq2 _ _ e)
    have hkp13 : upd Hr b (.lst (rsb.map V.ref ++ [.ref q2])) kp = some (.lst (rsr.map V.ref)) := by rw [upd_ne nkb]; exact sq2 _ _ hkp12
    have hb13 : upd Hr b (.lst (rsb.map V.ref ++ [.ref q2])) b = some (.lst (rsb.map V.ref ++ [.ref q2])) := upd_same
    have hbH2 : H2 b = none := (sm26.trans (Sm.of s7)).free _ hbn
    have sm213 : Sm H2 (upd Hr b (.lst (rsb.map V.ref ++ [.ref q2]))) := (sm212.trans (Sm.of sq2)).upd hbH2
    have tb13 : Tabs TR TF (upd Hr b (.lst (rsb.map V.ref ++ [.ref q2]))) := (tb12.same sq2).upd hbr
    generalize hH13 : upd Hr b (.lst (rsb.map V.ref ++ [.ref q2])) = H13 at *
    refine ⟨_, rfl, kp, row, rfl, ⟨rsr, SqL.of hkp13, hpp13⟩, hgood, fun H14 b14 ts14 s14 n14 srt14 => ?_⟩
    have e14 : ts14 = ts10 := srt14.eq srt8 (List.Perm.refl _)
    subst e14
    refine ⟨_, rfl, 1, rfl, -1, rfl, b, _, rfl, SqL.of (s14 _ _ hb13), fun sl2 hsl2 => ?_⟩
    rw [cut_last]
    have s15 := same_new' hsl2 (.lst (rsb.map V.ref))
    have s1315 := s14.trans s15
    refine ⟨_, _, dp_ties ((n14.at (K := K)).same s15), dp_ties (K := K) (ts := ts14) ⟨rsb, SqL.of upd_same, Paired.mapP hpb13 fun r t e => s1315 _ _ e⟩, sh_ties _, sh_ties _, _, rfl, ?_⟩
    rw [eqv_ties, decide_eq_true rfl]
    refine iteT ?_
    have sm215 := sm213.trans (Sm.of s1315)
    have tb15 := tb13.same s1315
    refine ⟨_, rfl, _, rfl, n, a, ts, rfl, ta2.sm sm215, ok, fun H16 c s16 hc0 hc => ?_⟩
    refine ⟨c, degs n ts, rfl, SqL.of hc, by rw [degs_len]; omega, by rw [degs_len]; omega, fun x hx => ?_, tb15.same s16, fun res3 hI3 => ?_⟩
    · unfold degs at hx
      obtain ⟨k, _, e⟩ := List.mem_map.mp hx
      omega
    rw [degs_len] at hI3
    refine ⟨fun out3 e3 H17 p17 ts17 sm17 tb17 n17 srt17 => ?_, fun e3 => ?_⟩
    · have eo : out3 = out2 := by have := isRow_det hI3 hI; rw [e3] at this; exact Option.some.inj this
      subst eo
      rw [← hrow, hol] at srt17
      have sm217 := (sm215.trans (Sm.of s16)).trans sm17
      obtain ⟨rsC, hsC, hpC, fC⟩ := sorted_new (ta2.sm sm217)
      refine ⟨_, rfl, a, rsC, ts, rfl, hsC, hpC, fun rs18 p18 hp18 h181 h182 => ?_⟩
      obtain ⟨ts18, srt18, s18, n18⟩ := fC rs18 p18 hp18 h181 h182
      have e18 : ts18 = ts17 := srt18.eq srt17 hpt
      subst e18
      refine ⟨_, _, dp_ties ((n17.at (K := K)).same s18), dp_ties n18.at, sh_ties _, sh_ties _, ?_⟩
      rw [eqv_ties, decide_eq_true rfl]
      exact q _ (((Sm.of s12).trans sm217).trans (Sm.of s18)) (tb17.same s18)
    · have := isRow_det hI3 hI
      rw [e3] at this
      cases this
  · have s12 := s1.trans s2
    have ta2 : Ties K H2 a ts := ht.same s12
    have tl2 : Ties K H2 l ts := hl1.same s2
    refine ⟨_, rfl, _, rfl, fv_row_of, _, _, fdN, _, sp_row_of K TR TF er.nt, rfl, FN.mono (by decide), hkN, hbN, mono_row_of, ?_⟩
    refine ⟨n, l, ts, rfl, tl2, ok, tb.same s12, fun res hI => ⟨fun out e hT1 => absurd hT1 hT, fun e hn H3 sm3 tb3 => ⟨rfl, fun H4 s4 => ⟨true, rfl, iteT ?_⟩⟩⟩⟩
    have sm24 := sm3.trans (Sm.of s4)
    refine ⟨_, rfl, _, rfl, _, _, dp_ties (tl2.sm sm24), dp_ties (ta2.sm sm24), sh_ties _, sh_ties _, ?_⟩
    rw [eqv_ties, decide_eq_true rfl]
    exact q _ ((Sm.of s12).trans sm24) (tb3.same s4)
end
end Tip
set_option Elab.async false
set_option linter.all false
set_option maxRecDepth 100000
set_option maxHeartbeats 4000000
namespace PySem
open Sem (wp)
/-- a zip that has handed out its own pair, T, which is still held -/
abbrev IsZipH (h : Heap) (z TI TO : Addr) (T : Nat) (b1 : Bool) : Prop :=
  h.get? z = some { cls := .type "zip", dict := none, data := .fields #[rawInt T, .bool b1, .bool false, .ref TI, .ref TO], slots := #[] }
section
variable {prog : Program} {w : World} {A : Around} {E : Value → Shared → Prop} {s : Shared}
theorem wpAny_loadIfAlive {a : Addr} {Q : Option Obj → Shared → Prop} (h : Q (s.heap.get? a) s) : wpAny (model prog w) A (loadIfAlive a) Q E s := fun Γ p hΓ => by
  unfold loadIfAlive
  rw [Sem.wp_loadIfAlive, Sem.wp_pure]
  exact h
theorem owned_held {z TI TO : Addr} {T : Nat} {b1 : Bool} {oT : Obj} {Q : Bool → Shared → Prop} (hz : IsZipH s.heap z TI TO T b1) (hT : s.heap.get? T = some oT) (h : ∀ h', IsZipH h' z TI TO T true → Heap.SameBut z s.heap h' → Q false { s with heap := h' }) : wpAny (model prog w) A (Builtin.SmallTypes.ownedTupleIsFree (.ref z)) Q E s := by
  unfold Builtin.SmallTypes.ownedTupleIsFree
  refine wpAny_bind (wpAny_field hz rfl (x := rawInt T) rfl ?_)
  show wpAny _ _ (loadIfAlive (T : Int).toNat >>= _) _ _ _
  refine wpAny_bind (wpAny_loadIfAlive ?_)
  rw [Int.toNat_natCast, hT]
  show wpAny _ _ (field (.ref z) 1 >>= _) _ _ _
  refine wpAny_bind (wpAny_field hz rfl (x := .bool b1) rfl ?_)
  cases b1 with
  | true => exact wpAny_pure (h s.heap hz (Heap.SameBut.refl ..))
  | false =>
    show wpAny _ _ (setField (.ref z) 1 (.bool true) >>= _) _ _ _
    refine wpAny_bind (wpAny_setField_rec hz (by simp) fun h₁ hz₁ hs₁ => ?_)
    exact wpAny_pure (h h₁ hz₁ hs₁)
theorem zip_held_item {z TI TO i1 i2 l1 l2 : Addr} {T k1 k2 : Nat} {b1 : Bool} {oT : Obj} {xs ys : Array Value} {x y a b : Value} {Q : Value → Shared → Prop} (D : ZipApart z TI TO i1 i2 l1 l2)
    (hz : IsZipH s.heap z TI TO T b1) (hT : s.heap.get? T = some oT) (hTI : IsPair s.heap TI (.ref i1) (.ref i2))
    (h1 : s.heap.IsListIter i1 l1 k1) (h2 : s.heap.IsListIter i2 l2 k2) (hl1 : s.heap.IsList l1 xs) (hl2 : s.heap.IsList l2 ys) (hx : xs[k1]? = some x) (hy : ys[k2]? = some y)
    (hQ : ∀ h', IsZipH h' z TI TO T true → h'.IsListIter i1 l1 (k1 + 1) → h'.IsListIter i2 l2 (k2 + 1) → IsPair h' s.heap.objs.size x y → h'.objs.size = s.heap.objs.size + 1 →
      (∀ c o, c ≠ z → c ≠ i1 → c ≠ i2 → s.heap.get? c = some o → h'.get? c = some o) → Q (.ref s.heap.objs.size) { s with heap := h' }) :
    wpAny (model prog w) A (Builtin.«zip.__next__» ⟨[.ref z], []⟩) (fun fin s' => ∃ v, fin = .done (.ret v) ∧ Q v s') E s := by
  show wpAny _ _ (field (.ref z) 2 >>= _) _ _ _
  refine wpAny_bind (wpAny_field hz rfl (x := .bool false) rfl ?_)
  show wpAny _ _ (field (.ref z) 3 >>= _) _ _ _
  refine wpAny_bind (wpAny_field hz rfl (x := .ref TI) rfl ?_)
  refine wpAny_bind (wpAny_seqItems hTI rfl ?_)
  show wpAny _ _ (Builtin.SmallTypes.ownedTupleIsFree (.ref z) >>= _) _ _ _
  refine wpAny_bind (owned_held hz hT fun h₁ hz₁ hs₁ => ?_)
  simp only [Bool.false_eq_true, if_false]
  rw [← Array.forIn_toList]
  simp only [List.forIn_cons, List.forIn_nil]
  refine wpAny_bind (wpAny_bind (wpAny_bind (wpAny_holding ?_)))
  show wpAny _ _ (Builtin.SmallTypes.nextOf (.ref i1) >>= _) _ _ _
  refine wpAny_bind (wpAny_nextOf_list_item (h1.extBut hs₁.extBut D.i1z) (hl1.extBut hs₁.extBut D.l1z) hx fun h₂ h1₂ hs₂ => wpAny_pure (wpAny_pure ?_))
  refine wpAny_bind (wpAny_bind (wpAny_holding ?_))
  show wpAny _ _ (Builtin.SmallTypes.nextOf (.ref i2) >>= _) _ _ _
  refine wpAny_bind (wpAny_nextOf_list_item ((h2.extBut hs₁.extBut D.i2z).extBut hs₂.extBut D.i12.symm) ((hl2.extBut hs₁.extBut D.l2z).extBut hs₂.extBut D.l2i1) hy fun h₄ h2₄ hs₄ => wpAny_pure (wpAny_pure (wpAny_pure ?_)))
  refine wpAny_bind (wpAny_newTuple ?_ (hsz := by show 2 ≤ sizeLine; decide))
  have hsz : h₄.objs.size = s.heap.objs.size := by rw [hs₄.1, hs₂.1, hs₁.1]
  have hz₄ : IsZipH h₄ z TI TO T true := hs₄.extBut _ _ D.i2z.symm (hs₂.extBut _ _ D.i1z.symm hz₁)
  have h1₄ : h₄.IsListIter i1 l1 (k1 + 1) := h1₂.extBut hs₄.extBut D.i12
  refine wpAny_pure ⟨_, rfl, ?_⟩
  show Q (.ref h₄.objs.size) _
  rw [hsz]
  refine hQ _ (Heap.get?_push_of_some _ hz₄) (h1₄.at fun o e => Heap.get?_push_of_some _ e) (h2₄.at fun o e => Heap.get?_push_of_some _ e) ?_ (by rw [Heap.size_push, hsz]) fun c o c1 c3 c4 e => Heap.get?_push_of_some _ (hs₄.extBut _ _ c4 (hs₂.extBut _ _ c3 (hs₁.extBut _ _ c1 e)))
  rw [← hsz]
  exact Heap.get?_push_size _ rfl
theorem zip_held_end {z TI TO i1 i2 l1 l2 : Addr} {T k1 k2 : Nat} {b1 : Bool} {oT : Obj} {xs ys : Array Value} {Q : Fin → Shared → Prop} (hh : A.handled = none) (D : ZipApart z TI TO i1 i2 l1 l2)
    (hz : IsZipH s.heap z TI TO T b1) (hT : s.heap.get? T = some oT) (hTI : IsPair s.heap TI (.ref i1) (.ref i2))
    (h1 : s.heap.IsListIter i1 l1 k1) (hl1 : s.heap.IsList l1 xs) (hx : xs[k1]? = none)
    (hE : ∀ h' e, (∀ c o, c ≠ z → c ≠ i1 → s.heap.get? c = some o → h'.get? c = some o) → (∃ o, h'.get? e = some o ∧ o.cls = .type "StopIteration") → E (.ref e) { s with heap := h' }) :
    wpAny (model prog w) A (Builtin.«zip.__next__» ⟨[.ref z], []⟩) Q E s := by
  show wpAny _ _ (field (.ref z) 2 >>= _) _ _ _
  refine wpAny_bind (wpAny_field hz rfl (x := .bool false) rfl ?_)
  show wpAny _ _ (field (.ref z) 3 >>= _) _ _ _
  refine wpAny_bind (wpAny_field hz rfl (x := .ref TI) rfl ?_)
  refine wpAny_bind (wpAny_seqItems hTI rfl ?_)
  show wpAny _ _ (Builtin.SmallTypes.ownedTupleIsFree (.ref z) >>= _) _ _ _
  refine wpAny_bind (owned_held hz hT fun h₁ hz₁ hs₁ => ?_)
  simp only [Bool.false_eq_true, if_false]
  rw [← Array.forIn_toList]
  simp only [List.forIn_cons, List.forIn_nil]
  refine wpAny_bind (wpAny_bind (wpAny_bind (wpAny_holding ?_)))
  show wpAny _ _ (Builtin.SmallTypes.nextOf (.ref i1) >>= _) _ _ _
  refine wpAny_bind (wpAny_nextOf_list_end hh (h1.extBut hs₁.extBut D.i1z) (hl1.extBut hs₁.extBut D.l1z) hx fun h₂ e hs₂ he => ?_)
  exact hE h₂ e (fun c o c1 c3 x => hs₂ _ _ c3 (hs₁.extBut _ _ c1 x)) he
theorem pyNext_held_item {z TI TO i1 i2 l1 l2 : Addr} {T k1 k2 : Nat} {b1 : Bool} {oT : Obj} {xs ys : Array Value} {x y : Value} {Q : Option Value → Shared → Prop} (D : ZipApart z TI TO i1 i2 l1 l2)
    (hz : IsZipH s.heap z TI TO T b1) (hT : s.heap.get? T = some oT) (hTI : IsPair s.heap TI (.ref i1) (.ref i2))
    (h1 : s.heap.IsListIter i1 l1 k1) (h2 : s.heap.IsListIter i2 l2 k2) (hl1 : s.heap.IsList l1 xs) (hl2 : s.heap.IsList l2 ys) (hx : xs[k1]? = some x) (hy : ys[k2]? = some y)
    (hQ : ∀ h', IsZipH h' z TI TO T true → h'.IsListIter i1 l1 (k1 + 1) → h'.IsListIter i2 l2 (k2 + 1) → IsPair h' s.heap.objs.size x y → h'.objs.size = s.heap.objs.size + 1 →
      (∀ c o, c ≠ z → c ≠ i1 → c ≠ i2 → s.heap.get? c = some o → h'.get? c = some o) → Q (some (.ref s.heap.objs.size)) { s with heap := h' }) :
    wpAny (model prog w) A (pyNext (.ref z)) Q E s := by
  have hTz : s.TypeIs (.ref z) "zip" := ⟨_, hz, rfl⟩
  unfold pyNext
  exact wpAny_bind (wpAny_attempt (wpAny_callSpecial?_slot (name := Str.ofString "__next__") hTz F.slot_zip_next
    (wpAny_call_entry F.slot_zip_next hTz F.entry_zip_next
      (zip_held_item (a := .none) (b := .none) D hz hT hTI h1 h2 hl1 hl2 hx hy fun h' a1 a3 a4 a5 a6 a7 => wpAny_pure (hQ h' a1 a3 a4 a5 a6 a7)) (F.args_zip_next_1 _))))
theorem pyNext_held_end {z TI TO i1 i2 l1 l2 : Addr} {T k1 k2 : Nat} {b1 : Bool} {oT : Obj} {xs ys : Array Value} {Q : Option Value → Shared → Prop} (hh : A.handled = none) (D : ZipApart z TI TO i1 i2 l1 l2)
    (hz : IsZipH s.heap z TI TO T b1) (hT : s.heap.get? T = some oT) (hTI : IsPair s.heap TI (.ref i1) (.ref i2))
    (h1 : s.heap.IsListIter i1 l1 k1) (hl1 : s.heap.IsList l1 xs) (hx : xs[k1]? = none)
    (hQ : ∀ h', (∀ c o, c ≠ z → c ≠ i1 → s.heap.get? c = some o → h'.get? c = some o) → Q none { s with heap := h' }) : wpAny (model prog w) A (pyNext (.ref z)) Q E s := by
  have hTz : s.TypeIs (.ref z) "zip" := ⟨_, hz, rfl⟩
  unfold pyNext
  refine wpAny_bind (wpAny_attempt (wpAny_callSpecial?_slot (name := Str.ofString "__next__") hTz F.slot_zip_next
    (wpAny_call_entry F.slot_zip_next hTz F.entry_zip_next (zip_held_end (i2 := i2) (l2 := l2) (ys := #[]) (k2 := 0) hh D hz hT hTI h1 hl1 hx fun h' e hk he => ?_) (F.args_zip_next_1 _))))
  obtain ⟨o, ho, hc⟩ := he
  refine wpAny_bind (wpAny_isInstance (T := "StopIteration") (b := true) ⟨o, ho, hc⟩ isSubtype_stop ?_)
  exact wpAny_pure (hQ _ hk)
end
end PySem
set_option Elab.async false
set_option linter.all false
set_option maxRecDepth 100000
set_option maxHeartbeats 4000000
namespace PySem
open Sem (wp)
/-- the pairs that were met -/
def ItemsZ (h : Heap) (xs ys acc : Array Value) (i base : Nat) : Prop := acc.size = i ∧ ∀ j, j < i → ∃ (r : Nat) (x y : Value), acc[j]? = some (.ref r) ∧ r = base + j ∧ xs[j]? = some x ∧ ys[j]? = some y ∧ IsPair h r x y
section
variable {prog : Program} {w : World} {A : Around} {R : Result → Shared → Prop}
theorem extend_zip_held {z TI TO i1 i2 l1 l2 S base : Nat} {T : Nat} {xs ys : Array Value} {res : Value} {n : Nat} (hh : A.handled = none) (D : ZipApart z TI TO i1 i2 l1 l2) (hn : n ≤ 1000) (hxs : xs.size = n) (hys : ys.size = n)
    (bz : z < base) (b1 : i1 < base) (b2 : i2 < base) (bS : S < base) (bT : base ≤ T) (Sz : S ≠ z) (S1 : S ≠ i1) (S2 : S ≠ i2) (STI : S ≠ TI) (Sl1 : S ≠ l1) (Sl2 : S ≠ l2) :
    ∀ (k i : Nat) (s : Shared) (acc : Array Value) (c : Nat) (b : Bool) (oT : Obj), n - i = k → i ≤ n → s.heap.objs.size = base + i → IsZipH s.heap z TI TO T b → s.heap.get? T = some oT → IsPair s.heap TI (.ref i1) (.ref i2) →
    s.heap.IsListIter i1 l1 i → s.heap.IsListIter i2 l2 i → s.heap.IsList l1 xs → s.heap.IsList l2 ys → s.heap.get? S = some { cls := .type "list", dict := none, data := .seq acc c, slots := #[] } → ItemsZ s.heap xs ys acc i base →
    (∀ h' acc' c', (∀ b o, b ≠ z → b ≠ i1 → b ≠ i2 → b ≠ S → s.heap.get? b = some o → h'.get? b = some o) → h'.get? S = some { cls := .type "list", dict := none, data := .seq acc' c', slots := #[] } → ItemsZ h' xs ys acc' n base → R (.ok (.ret res)) { s with heap := h' }) →
    codeAny (model prog w) A (.builtin "list.extend.loop" ⟨[.ref S, .ref z, res], []⟩) R s := by
  intro k
  induction k with
  | zero =>
    intro i s acc c b oT hk hi hbs hz hT hTI h1 h2 hl1 hl2 hS hacc hR
    have hin : i = n := by omega
    subst hin
    refine codeAny_builtin F.entry_extend_loop ?_
    rw [Around.under_plainId F.plain_extend_loop _]
    show wpAny _ A.in1 (pyNext (.ref z) >>= _) _ _ s
    refine wpAny_bind (pyNext_held_end (A := A.in1) (i2 := i2) (l2 := l2) (ys := ys) (k2 := 0) hh D hz hT hTI h1 hl1 (by simp; omega) fun h' hk' => ?_)
    refine wpAny_pure (hR h' acc c (fun b o c1 c2 c3 c4 e => hk' b o c1 c2 e) (hk' _ _ Sz S1 hS) ⟨hacc.1, fun j hj => ?_⟩)
    obtain ⟨r, x, y, e1, e2, e3, e4, e5⟩ := hacc.2 j hj
    have nb : ∀ {u r : Nat}, u < base → base ≤ r → r ≠ u := fun h1 h2 => Nat.ne_of_gt (Nat.lt_of_lt_of_le h1 h2)
    have e2' : base ≤ r := by omega
    exact ⟨r, x, y, e1, e2, e3, e4, hk' _ _ (nb bz e2') (nb b1 e2') e5⟩
  | succ k ih =>
    intro i s acc c b oT hk hi hbs hz hT hTI h1 h2 hl1 hl2 hS hacc hR
    have hlt : i < n := by omega
    refine codeAny_builtin F.entry_extend_loop ?_
    rw [Around.under_plainId F.plain_extend_loop _]
    show wpAny _ A.in1 (pyNext (.ref z) >>= _) _ _ s
    have hx : xs[i]? = some (xs[i]'(by omega)) := by simp
    have hy : ys[i]? = some (ys[i]'(by omega)) := by simp
    refine wpAny_bind (pyNext_held_item (A := A.in1) D hz hT hTI h1 h2 hl1 hl2 hx hy fun h' z' h1' h2' hp' hsz' hk' => ?_)
    have hS' := hk' _ _ Sz S1 S2 hS
    show wpAny _ A.in1 (updateSeq S (·.push (.ref s.heap.objs.size)) >>= _) _ _ _
    refine wpAny_bind ?_
    have hTlt : T < s.heap.objs.size := Heap.lt_size hT
    have nb : ∀ {u r : Nat}, u < base → base ≤ r → r ≠ u := fun h1 h2 => Nat.ne_of_gt (Nat.lt_of_lt_of_le h1 h2)
    have oth : ∀ b o, b ≠ S → h'.get? b = some o → (h'.update S (Obj.mapSeq (·.push (.ref s.heap.objs.size)))).get? b = some o := fun b o hb e => (Heap.get?_update_other _ _ (Ne.symm hb)).trans e
    have hl1' : h'.IsList l1 xs := hl1.at fun o e => hk' _ o D.l1z D.l1i1 D.l1i2 e
    have hl2' : h'.IsList l2 ys := hl2.at fun o e => hk' _ o D.l2z D.l2i1 D.l2i2 e
    have hTI' := hk' _ _ D.TIz D.TIi1 D.TIi2 hTI
    refine wpAny_updateSeq hS' rfl (wpAny_pure ⟨plainId_quiet F.plain_extend_loop _, ih (i + 1) _ (acc.push (.ref s.heap.objs.size)) _ true oT (by omega) hlt ?_ (oth _ _ (Ne.symm Sz) z') (oth _ _ (nb bS bT) (hk' _ _ (nb bz bT) (nb b1 bT) (nb b2 bT) hT)) (oth _ _ (Ne.symm STI) hTI')
      (h1'.at fun o e => oth _ o (Ne.symm S1) e) (h2'.at fun o e => oth _ o (Ne.symm S2) e) (hl1'.at fun o e => oth _ o (Ne.symm Sl1) e) (hl2'.at fun o e => oth _ o (Ne.symm Sl2) e) (Heap.get?_update_self _ hS' rfl) ⟨by rw [Array.size_push, hacc.1], fun j hj => ?_⟩ fun h'' acc' c' hk'' hS'' hacc' => ?_⟩)
      (by rw [hacc.1, sizeLine_eq]; omega) (by show (acc.push _).size ≤ sizeLine + 1; rw [Array.size_push, hacc.1, sizeLine_eq]; omega)
    · show (h'.update S _).objs.size = base + (i + 1)
      rw [Heap.size_update, hsz', hbs]
      rfl
    · by_cases hji : j < i
      · obtain ⟨r, x, y, e1, e2, e3, e4, e5⟩ := hacc.2 j hji
        have e2' : base ≤ r := by omega
        refine ⟨r, x, y, ?_, e2, e3, e4, oth _ _ (nb bS e2') (hk' _ _ (nb bz e2') (nb b1 e2') (nb b2 e2') e5)⟩
        rw [Array.getElem?_push, if_neg (by rw [hacc.1]; omega)]
        exact e1
      · have : j = i := by omega
        subst this
        refine ⟨s.heap.objs.size, _, _, ?_, hbs, hx, hy, oth _ _ (nb bS (by rw [hbs]; exact Nat.le_add_right _ _)) hp'⟩
        rw [Array.getElem?_push, if_pos (by rw [hacc.1])]
    · exact hR h'' acc' c' (fun b o c1 c2 c3 c4 e => hk'' b o c1 c2 c3 c4 (oth _ _ c4 (hk' _ _ c1 c2 c3 e))) hS'' hacc'
end
end PySem
set_option Elab.async false
set_option linter.all false
set_option maxRecDepth 100000
set_option maxHeartbeats 4000000
namespace PySem
open Sem (wp)
namespace F
theorem zip_no_len : typeLookup (.type "zip") (Str.ofString "__len__") = pure none := by rw [typeLookup_type, builtinLookup_eq_fast]; kernel_rfl
theorem zip_no_hint : typeLookup (.type "zip") (Str.ofString "__length_hint__") = pure none := by rw [typeLookup_type, builtinLookup_eq_fast]; kernel_rfl
end F
section
variable {prog : Program} {w : World} {A : Around} {s : Shared} {R : Result → Shared → Prop}
theorem wpAny_extend_zip {z TI TO i1 i2 l1 l2 S : Nat} {xs ys : Array Value} {res a b : Value} {n c₀ : Nat} (hh : A.handled = none) (D : ZipApart z TI TO i1 i2 l1 l2) (hn1 : 1 ≤ n) (hn : n ≤ 1000) (hxs : xs.size = n) (hys : ys.size = n)
    (hz : IsZip s.heap z TI TO .none) (hTI : IsPair s.heap TI (.ref i1) (.ref i2)) (hTO : IsPair s.heap TO a b) (h1 : s.heap.IsListIter i1 l1 0) (h2 : s.heap.IsListIter i2 l2 0) (hl1 : s.heap.IsList l1 xs) (hl2 : s.heap.IsList l2 ys)
    (hS : s.heap.get? S = some { cls := .type "list", data := .seq #[] c₀ }) (Sz : S ≠ z) (S1 : S ≠ i1) (S2 : S ≠ i2) (STI : S ≠ TI) (STO : S ≠ TO) (Sl1 : S ≠ l1) (Sl2 : S ≠ l2)
    (hR : ∀ h' acc' c', (∀ b o, b ≠ z → b ≠ TO → b ≠ i1 → b ≠ i2 → b ≠ S → s.heap.get? b = some o → h'.get? b = some o) → h'.get? S = some { cls := .type "list", dict := none, data := .seq acc' c', slots := #[] } → ItemsZ h' xs ys acc' n s.heap.objs.size → R (.ok (.ret res)) { s with heap := h' }) :
    wpAny (model prog w) A.in1 (Builtin.List.listExtendWith (.ref S) (.ref z) res)
      (fun fin s' => match fin with | .done f => R (.ok f) s' | .again c' => c'.quiet = true ∧ codeAny (model prog w) A c' R s') (fun e s' => R (.error e) s') s := by
  have hTz : s.TypeIs (.ref z) "zip" := ⟨_, hz, rfl⟩
  unfold Builtin.List.listExtendWith
  refine wpAny_bind (wpAny_typeOf hTz ?_)
  have e1 : Builtin.List.listSameRef (.ref S) (.ref z) = false := by simp [Builtin.List.listSameRef, Sz]
  have e2 : (Value.type "zip" == Value.type "list") = false := by decide
  have e3 : (Value.type "zip" == Value.type "tuple") = false := by decide
  simp only [e1, e2, e3, Bool.or_false, Bool.false_eq_true, if_false]
  refine wpAny_bind (wpAny_pyIter_zip hz ?_)
  refine wpAny_bind (wpAny_holding ?_)
  unfold Builtin.List.listLengthHint
  refine wpAny_bind (wpAny_specialOf hTz F.zip_no_len ?_)
  show wpAny _ A.in1 (specialOf (Value.ref z) (Str.ofString "__length_hint__") >>= _) _ _ _
  refine wpAny_bind (wpAny_specialOf hTz F.zip_no_hint ?_)
  refine wpAny_pure ?_
  show wpAny _ A.in1 (rule "list.extend.makes-room" >>= fun _ => Builtin.List.listTouch (.ref S) >>= fun _ =>
    again (.builtin "list.extend.loop" ⟨[.ref S, .ref z, res], []⟩)) _ _ _
  refine wpAny_bind (wpAny_rule ?_)
  refine wpAny_bind ?_
  show wpAny _ A.in1 (updateSeq S (·.push .none) >>= fun _ => updateSeq S (·.pop)) _ _ _
  refine wpAny_bind (wpAny_updateSeq hS rfl ?_)
  have hS₂ := Heap.get?_update_self (Obj.mapSeq (·.push Value.none)) hS rfl
  refine wpAny_updateSeq (hz := by seq_fits) hS₂ rfl ?_
  have hS₃ := Heap.get?_update_self (Obj.mapSeq (·.pop)) hS₂ rfl
  have oth : ∀ b o, b ≠ S → s.heap.get? b = some o → ((s.heap.update S (Obj.mapSeq (·.push Value.none))).update S (Obj.mapSeq (·.pop))).get? b = some o := fun b o hb e => (Heap.get?_update_other _ _ (Ne.symm hb)).trans ((Heap.get?_update_other _ _ (Ne.symm hb)).trans e)
  have hsz3 : ((s.heap.update S (Obj.mapSeq (·.push Value.none))).update S (Obj.mapSeq (·.pop))).objs.size = s.heap.objs.size := by rw [Heap.size_update, Heap.size_update]
  generalize hh3 : (s.heap.update S (Obj.mapSeq (·.push Value.none))).update S (Obj.mapSeq (·.pop)) = h3 at *
  refine wpAny_pure ⟨plainId_quiet F.plain_extend_loop _, ?_⟩
  refine codeAny_builtin F.entry_extend_loop ?_
  rw [Around.under_plainId F.plain_extend_loop _]
  show wpAny _ A.in1 (pyNext (.ref z) >>= _) _ _ _
  have hx : xs[0]? = some (xs[0]'(by omega)) := by simp
  have hy : ys[0]? = some (ys[0]'(by omega)) := by simp
  have hl1' : h3.IsList l1 xs := hl1.at fun o e => oth _ o (Ne.symm Sl1) e
  have hl2' : h3.IsList l2 ys := hl2.at fun o e => oth _ o (Ne.symm Sl2) e
  refine wpAny_bind (wpAny_pyNext_zip_item (A := A.in1) (s := { s with heap := h3 }) D (oth _ _ (Ne.symm Sz) hz) (oth _ _ (Ne.symm STI) hTI) (oth _ _ (Ne.symm STO) hTO) (h1.at fun o e => oth _ o (Ne.symm S1) e) (h2.at fun o e => oth _ o (Ne.symm S2) e) hl1' hl2' hx hy fun h' z' TO' h1' h2' hp' hsz' hk' => ?_)
  have hS' := hk' _ _ Sz STO S1 S2 hS₃
  show wpAny _ A.in1 (updateSeq S (·.push (.ref h3.objs.size)) >>= _) _ _ _
  refine wpAny_bind ?_
  have oth2 : ∀ b o, b ≠ S → h'.get? b = some o → (h'.update S (Obj.mapSeq (·.push (.ref h3.objs.size)))).get? b = some o := fun b o hb e => (Heap.get?_update_other _ _ (Ne.symm hb)).trans e
  have bz : z < h3.objs.size := Heap.lt_size (oth _ _ (Ne.symm Sz) hz)
  have bS : S < h3.objs.size := Heap.lt_size hS₃
  have b1 : i1 < h3.objs.size := by obtain ⟨_, e, _⟩ := h1; exact Heap.lt_size (oth _ _ (Ne.symm S1) e)
  have b2 : i2 < h3.objs.size := by obtain ⟨_, e, _⟩ := h2; exact Heap.lt_size (oth _ _ (Ne.symm S2) e)
  have hp2 := oth2 _ _ (Nat.ne_of_gt bS) hp'
  have hl1'' : h'.IsList l1 xs := hl1'.at fun o e => hk' _ o D.l1z D.l1TO D.l1i1 D.l1i2 e
  have hl2'' : h'.IsList l2 ys := hl2'.at fun o e => hk' _ o D.l2z D.l2TO D.l2i1 D.l2i2 e
  have hTI' := hk' _ _ D.TIz D.TITO D.TIi1 D.TIi2 (oth _ _ (Ne.symm STI) hTI)
  refine wpAny_updateSeq hS' rfl (wpAny_pure ⟨plainId_quiet F.plain_extend_loop _, extend_zip_held hh D hn hxs hys bz b1 b2 bS (Nat.le_refl _) Sz S1 S2 STI Sl1 Sl2 (n - 1) 1 _ _ _ false _ rfl hn1 ?_ (oth2 _ _ (Ne.symm Sz) z') hp2 (oth2 _ _ (Ne.symm STI) hTI')
      (h1'.at fun o e => oth2 _ o (Ne.symm S1) e) (h2'.at fun o e => oth2 _ o (Ne.symm S2) e) (hl1''.at fun o e => oth2 _ o (Ne.symm Sl1) e) (hl2''.at fun o e => oth2 _ o (Ne.symm Sl2) e) (Heap.get?_update_self _ hS' rfl) ⟨rfl, fun j hj => ?_⟩ fun h'' acc' c' hk'' hS'' hacc' => ?_⟩)
      (Nat.zero_le _) (by show 1 ≤ sizeLine + 1; decide)
  · show (h'.update S _).objs.size = h3.objs.size + 1
    rw [Heap.size_update, hsz']
  · have : j = 0 := by omega
    subst this
    exact ⟨h3.objs.size, _, _, rfl, rfl, hx, hy, hp2⟩
  · rw [hsz3] at hacc'
    exact hR h'' acc' c' (fun b o c1 c2 c3 c4 c5 e => hk'' b o c1 c3 c4 c5 (oth2 _ _ c5 (hk' _ _ c1 c2 c3 c4 (oth _ _ c5 e)))) hS'' hacc'
theorem wpAny_list_init_zip {z TI TO i1 i2 l1 l2 S : Nat} {xs ys : Array Value} {a b : Value} {n : Nat} (hh : A.handled = none) (D : ZipApart z TI TO i1 i2 l1 l2) (hn1 : 1 ≤ n) (hn : n ≤ 1000) (hxs : xs.size = n) (hys : ys.size = n)
    (hz : IsZip s.heap z TI TO .none) (hTI : IsPair s.heap TI (.ref i1) (.ref i2)) (hTO : IsPair s.heap TO a b) (h1 : s.heap.IsListIter i1 l1 0) (h2 : s.heap.IsListIter i2 l2 0) (hl1 : s.heap.IsList l1 xs) (hl2 : s.heap.IsList l2 ys)
    (hS : s.heap.get? S = some { cls := .type "list", data := .seq #[] }) (Sz : S ≠ z) (S1 : S ≠ i1) (S2 : S ≠ i2) (STI : S ≠ TI) (STO : S ≠ TO) (Sl1 : S ≠ l1) (Sl2 : S ≠ l2)
    (hR : ∀ h' acc' c', (∀ b o, b ≠ z → b ≠ TO → b ≠ i1 → b ≠ i2 → b ≠ S → s.heap.get? b = some o → h'.get? b = some o) → h'.get? S = some { cls := .type "list", dict := none, data := .seq acc' c', slots := #[] } → ItemsZ h' xs ys acc' n s.heap.objs.size → R (.ok (.ret .none)) { s with heap := h' }) :
    wpAny (model prog w) A.in1 (Builtin.«list.__init__» ⟨[.ref S, .ref z], []⟩)
      (fun fin s' => match fin with | .done f => R (.ok f) s' | .again c' => c'.quiet = true ∧ codeAny (model prog w) A c' R s') (fun e s' => R (.error e) s') s := by
  show wpAny _ _ (do let old ← Builtin.List.listItems (.ref S); Builtin.List.listUpdate (.ref S) (fun _ => #[]); letGo old.toList.reverse; Builtin.List.listExtendWith (.ref S) (.ref z) .none) _ _ s
  refine wpAny_bind ?_
  unfold Builtin.List.listItems
  refine wpAny_bind (wpAny_seqItems hS rfl (wpAny_pure ?_))
  show wpAny _ _ (updateSeq S (fun _ => #[]) >>= fun _ => letGo (#[] : Array Value).toList.reverse >>= fun _ => Builtin.List.listExtendWith (.ref S) (.ref z) .none) _ _ s
  refine wpAny_bind (wpAny_updateSeq hS rfl ?_)
  have hS₂ := Heap.get?_update_self (Obj.mapSeq (fun _ => (#[] : Array Value))) hS rfl
  have oth : ∀ b o, b ≠ S → s.heap.get? b = some o → (s.heap.update S (Obj.mapSeq (fun _ => (#[] : Array Value)))).get? b = some o :=
    fun b o hb e => (Heap.get?_update_other _ _ (Ne.symm hb)).trans e
  refine wpAny_bind (wpAny_letGo ?_)
  refine wpAny_extend_zip hh D hn1 hn hxs hys (oth _ _ (Ne.symm Sz) hz) (oth _ _ (Ne.symm STI) hTI) (oth _ _ (Ne.symm STO) hTO) (h1.at fun o e => oth _ o (Ne.symm S1) e) (h2.at fun o e => oth _ o (Ne.symm S2) e) (hl1.at fun o e => oth _ o (Ne.symm Sl1) e) (hl2.at fun o e => oth _ o (Ne.symm Sl2) e) hS₂ Sz S1 S2 STI STO Sl1 Sl2 fun h' acc' c' hk hS' hacc => ?_
  refine hR h' acc' c' (fun b o c1 c2 c3 c4 c5 e => hk b o c1 c2 c3 c4 c5 (oth b o c5 e)) hS' ?_
  have : (s.heap.update S (Obj.mapSeq (fun _ => (#[] : Array Value)))).objs.size = s.heap.objs.size := Heap.size_update ..
  rw [← this]
  exact hacc
theorem call_list_zip {E : Value → Shared → Prop} {Q : Value → Shared → Prop} {z TI TO i1 i2 l1 l2 : Nat} {xs ys : Array Value} {a b : Value} {n : Nat} (hh : A.handled = none) (D : ZipApart z TI TO i1 i2 l1 l2) (hn1 : 1 ≤ n) (hn : n ≤ 1000) (hxs : xs.size = n) (hys : ys.size = n)
    (hz : IsZip s.heap z TI TO .none) (hTI : IsPair s.heap TI (.ref i1) (.ref i2)) (hTO : IsPair s.heap TO a b) (h1 : s.heap.IsListIter i1 l1 0) (h2 : s.heap.IsListIter i2 l2 0) (hl1 : s.heap.IsList l1 xs) (hl2 : s.heap.IsList l2 ys)
    (hQ : ∀ h' acc' c', (∀ b o, b ≠ z → b ≠ TO → b ≠ i1 → b ≠ i2 → s.heap.get? b = some o → h'.get? b = some o) → h'.get? s.heap.objs.size = some { cls := .type "list", dict := none, data := .seq acc' c', slots := #[] } → ItemsZ h' xs ys acc' n (s.heap.objs.size + 1) → Q (.ref s.heap.objs.size) { s with heap := h' }) :
    wpAny (model prog w) A (call (.type "list") [.ref z]) Q E s := by
  refine callType_codes (Q₁ := fun obj s₁ => obj = .ref s.heap.objs.size ∧ s₁ = { s with heap := s.heap.push { cls := .type "list", data := .seq #[] } }) F.called_list (F.typeCall_list_1 _) F.entry_list_init
    (code_list_new _ ⟨rfl, rfl⟩) fun obj s₁ h₁ => ?_
  obtain ⟨rfl, rfl⟩ := h₁
  have hS : (s.heap.push { cls := .type "list", data := .seq #[] }).get? s.heap.objs.size = some { cls := .type "list", data := .seq #[] } := Heap.get?_push_size _ rfl
  have ps : ∀ b o, s.heap.get? b = some o → (s.heap.push { cls := .type "list", data := .seq #[] }).get? b = some o := fun b o e => Heap.get?_push_of_some _ e
  have nz : s.heap.objs.size ≠ z := Nat.ne_of_gt (Heap.lt_size hz)
  have n1 : s.heap.objs.size ≠ i1 := by obtain ⟨_, e, _⟩ := h1; exact Nat.ne_of_gt (Heap.lt_size e)
  have n2 : s.heap.objs.size ≠ i2 := by obtain ⟨_, e, _⟩ := h2; exact Nat.ne_of_gt (Heap.lt_size e)
  have nl1 : s.heap.objs.size ≠ l1 := by obtain ⟨_, e, _⟩ := hl1; exact Nat.ne_of_gt (Heap.lt_size e)
  have nl2 : s.heap.objs.size ≠ l2 := by obtain ⟨_, e, _⟩ := hl2; exact Nat.ne_of_gt (Heap.lt_size e)
  refine ⟨⟨_, hS, rfl⟩, F.args_list_init_2 _ _, wpAny_list_init_zip (A := A.in1) hh D hn1 hn hxs hys (ps _ _ hz) (ps _ _ hTI) (ps _ _ hTO) (h1.at fun o e => ps _ o e) (h2.at fun o e => ps _ o e) (hl1.at fun o e => ps _ o e) (hl2.at fun o e => ps _ o e) hS nz n1 n2 (Nat.ne_of_gt (Heap.lt_size hTI)) (Nat.ne_of_gt (Heap.lt_size hTO)) nl1 nl2 fun h' acc' c' hk hS' hacc => ?_⟩
  refine ⟨rfl, hQ h' acc' c' (fun b o c1 c2 c3 c4 e => hk b o c1 c2 c3 c4 (Nat.ne_of_lt (Heap.lt_size e)) (ps _ _ e)) hS' ?_⟩
  have : (s.heap.push { cls := .type "list", data := .seq #[] }).objs.size = s.heap.objs.size + 1 := Heap.size_push ..
  rw [← this]
  exact hacc
end
end PySem
set_option Elab.async false
set_option linter.all false
set_option maxRecDepth 100000
set_option maxHeartbeats 4000000
namespace L2
open PySem PySem.Spec PyProof.Rows
/-- many objects laid at once -/
theorem Inv.many {X : Cx} {pins : List (Addr × Obj)} {σ : St} {H : Hp} {s : Shared} {h' : Heap} {t' : Nat} (I : Inv X pins σ H s) (k : ∀ b u, s.heap.get? b = some u → h'.get? b = some u) (Nw : Nat → Option HO)
    (new : ∀ b o, s.heap.objs.size ≤ b → Nw b = some o → ObjOk X.prog X.w (fun b => if s.heap.objs.size ≤ b then Nw b else H b) h' b o) : Inv X pins σ (fun b => if s.heap.objs.size ≤ b then Nw b else H b) { s with heap := h', toks := t' } := by
  have old : ∀ b o, H b = some o → (if s.heap.objs.size ≤ b then Nw b else H b) = some o := fun b o e => by rw [if_neg (Nat.not_le.mpr (I.hok.lt e))]; exact e
  refine I.un ⟨fun b u q _ _ _ => k b u q, fun b u q _ _ _ => ⟨u.slots, k b u q⟩, fun b u q n _ => ?_, fun b u q _ => ⟨u, k b u q⟩, fun b xs q => old _ _ q, fun b o u q => old _ _ q, fun b ps q => ⟨#[], by rw [old _ _ q]; simp⟩⟩ (fun b u e => ?_)
  · rw [if_neg (Nat.not_le.mpr (Heap.lt_size q))]; exact n
  · by_cases hb : s.heap.objs.size ≤ b
    · rw [if_pos hb] at e; exact new b u hb e
    · rw [if_neg hb] at e; exact (I.hok b u e).stay (fun c v _ q => k c v q) (fun c q => old _ _ q) fun c xs q => old _ _ q
def tListZip (K : PySem.W.Frag) (ta : TA) : TE := fun σ H Q => ta σ H fun vs H1 => ∃ (a b : Addr) (xs ys : List V), vs = [.ref a, .ref b] ∧ SqL K H1 a xs ∧ SqL K H1 b ys ∧ xs.length = ys.length ∧ 1 ≤ xs.length ∧ xs.length ≤ 1000 ∧
  ∀ H' l (rs : List Addr), Same H1 H' → H1 l = none → H' l = some (.lst (rs.map V.ref)) → rs.length = xs.length → (∀ (i : Nat) (r : Addr) (x y : V), rs[i]? = some r → xs[i]? = some x → ys[i]? = some y → H' r = some (.tup [x, y])) → Q (.ref l) H'
theorem boot_list5 : bootBuiltins "list" = some (.type "list") := by decide +kernel
theorem pe_listZip {X : Cx} {e e2 : Expr} {ta : TA} {p p2 pos pos2 : Pos} (hgl : Gl X "list") (hml : X.mg "list" = none) (hg : Gl X "zip") (hm : X.mg "zip" = none) (ha : PA X [e, e2] ta) (hc : X.calm = true := by rfl)
    (hs : starEach [.Call (.Name "zip" p2) [e, e2] [] pos2] X.env = (false, eval (.Call (.Name "zip" p2) [e, e2] [] pos2) X.env) :: starEach [] X.env := by rfl) (hpl : (backTo pos (starEach [] X.env)).any (·.1) = false := by rfl)
    (hs2 : starEach [e, e2] X.env = (false, eval e X.env) :: starEach [e2] X.env := by rfl) (hpl2 : (backTo pos2 (starEach [e2] X.env)).any (·.1) = false := by rfl) : PE X (.Call (.Name "list" p) [.Call (.Name "zip" p2) [e, e2] [] pos2] [] pos) (tListZip X.K ta) := by
  intro pins s σ H Q I h
  refine wpAny_Call_Name_kw (ld_blt I hgl hml boot_list5 ?_ (by decide) (by decide))
  refine PyProof.Rows.callWith_type1 ?_ hs hpl
  rw [hs]
  show wpAny _ _ (spliced ((false, eval (.Call (.Name "zip" p2) [e, e2] [] pos2) X.env) :: backTo pos (starEach [] X.env))) _ _ s
  refine Calls.spliced_cons ?_
  refine wpAny_Call_Name_kw (ld_blt I hg hm boot_zip5 (PyProof.Rows.callWith_type1 (thn (ha pos2 pins s σ H _ I h) fun us s1 ⟨vs, H1, I1, r1, q1⟩ => ?_) hs2 hpl2) (by decide) (by decide))
  obtain ⟨a, b, xs, ys, ex, hqx, hqy, hlen, hn1, hn, q⟩ := q1
  subst ex
  cases r1 with
  | cons r rr =>
    cases rr with
    | cons r' rr =>
      cases rr
      cases r
      cases r'
      obtain ⟨its, rv, p1, _⟩ := I1.list hqx
      obtain ⟨its2, rv2, p2', _⟩ := I1.list hqy
      have la : a < s1.heap.objs.size := p1.lt
      have lb : b < s1.heap.objs.size := p2'.lt
      refine call_zip_2 p1.isList p2'.isList fun h' hz hTI hTO h1 h2 hsz hk => ?_
      refine wpAny_pure ?_
      have l1 := rv.length
      have l2 := rv2.length
      refine call_list_zip (n := xs.length) (I.ok.hd hc) (PySem.W.ktu_apart s1.heap.objs.size a b la lb) hn1 hn (by simp; omega) (by simp; omega) hz hTI hTO h1 h2 (p1.isList.at fun o e => hk _ o e) (p2'.isList.at fun o e => hk _ o e) fun h'' acc' c' hk' hS' hacc => ?_
      have hL : h'.objs.size = s1.heap.objs.size + 5 := hsz
      have hS2 : h''.get? h'.objs.size = some { cls := .type "list", dict := none, data := .seq acc' c', slots := #[] } := hS'
      have hacc2 : ItemsZ h'' its.toArray its2.toArray acc' xs.length (h'.objs.size + 1) := hacc
      clear hS' hacc
      generalize hLd : h'.objs.size = L at *
      generalize hNd : s1.heap.objs.size = N0 at *
      have kp : ∀ b u, s1.heap.get? b = some u → h''.get? b = some u := fun b u e => by
        have hb : b < N0 := by rw [← hNd]; exact Heap.lt_size e
        exact hk' b u (Nat.ne_of_lt (Nat.lt_of_lt_of_le hb (Nat.le_add_right _ _))) (Nat.ne_of_lt (Nat.lt_of_lt_of_le hb (Nat.le_add_right _ _))) (Nat.ne_of_lt hb) (Nat.ne_of_lt (Nat.lt_of_lt_of_le hb (Nat.le_add_right _ _))) (hk _ _ e)
      have newOk := fun Nw new => Inv.many (t' := s1.toks) I1 kp Nw new
      rw [hNd] at newOk
      let rs : List Addr := (List.range xs.length).map fun j => L + 1 + j
      let Nw : Nat → Option HO := fun b => if b = L then some (.lst (rs.map V.ref)) else if L + 1 ≤ b ∧ b < L + 1 + xs.length then some (.tup [xs.getD (b - (L + 1)) .non, ys.getD (b - (L + 1)) .non]) else none
      have hacc3 : acc'.toList = rs.map Value.ref := by
        apply List.ext_getElem?
        intro j
        by_cases hj : j < xs.length
        · obtain ⟨r, x, y, e1, e2, _⟩ := hacc2.2 j hj
          subst e2
          rw [Array.getElem?_toList, e1, List.getElem?_map, List.getElem?_map, List.getElem?_range hj]
          rfl
        · rw [Array.getElem?_toList, Array.getElem?_eq_none (by rw [hacc2.1]; omega), List.getElem?_map, List.getElem?_map, List.getElem?_eq_none (by rw [List.length_range]; omega)]
          rfl
      have getT : ∀ j, j < xs.length → ∃ x y u u2, xs[j]? = some x ∧ ys[j]? = some y ∧ RelV x u ∧ RelV y u2 ∧ IsPair h'' (L + 1 + j) u u2 := fun j hj => by
        obtain ⟨r, x', y', e1, e2, e3, e4, e5⟩ := hacc2.2 j hj
        subst e2
        have hx : xs[j]? = some (xs[j]'hj) := List.getElem?_eq_getElem hj
        have hy : ys[j]? = some (ys[j]'(by omega)) := List.getElem?_eq_getElem (by omega)
        obtain ⟨u, hu, ru⟩ := rv.get hx
        obtain ⟨u2, hu2, ru2⟩ := rv2.get hy
        have eu : x' = u := by
          have : its.toArray[j]? = its[j]? := by simp
          rw [this, hu] at e3
          exact (Option.some.inj e3).symm
        have eu2 : y' = u2 := by
          have : its2.toArray[j]? = its2[j]? := by simp
          rw [this, hu2] at e4
          exact (Option.some.inj e4).symm
        subst eu eu2
        exact ⟨_, _, _, _, hx, hy, ru, ru2, e5⟩
      have vref : ∀ l : List Addr, Vals (l.map V.ref) (l.map Value.ref) := fun l => by
        induction l with
        | nil => exact .nil
        | cons a r ih => exact .cons rfl ih
      have I2 := newOk Nw (fun b o hb e => by
        by_cases eb : b = L
        · subst eb
          have : o = .lst (rs.map V.ref) := by
            have e' : some (HO.lst (rs.map V.ref)) = some o := by rw [← e]; show _ = (if b = b then _ else _); rw [if_pos rfl]
            exact (Option.some.inj e').symm
          subst this
          exact ⟨by show (rs.map V.ref).length ≤ sizeLine; simp only [rs, List.length_map, List.length_range]; rw [sizeLine_eq]; omega, acc'.toList, c', by rw [hacc3]; exact vref rs, hS2⟩
        · by_cases hr : L + 1 ≤ b ∧ b < L + 1 + xs.length
          · obtain ⟨j, rfl⟩ : ∃ j, b = L + 1 + j := ⟨b - (L + 1), by omega⟩
            have hj : j < xs.length := by omega
            obtain ⟨x, y, u, u2, hx, hy, ru, ru2, hp⟩ := getT j hj
            have : o = .tup [x, y] := by
              have e' : some (HO.tup [x, y]) = some o := by
                rw [← e]
                show _ = (if L + 1 + j = L then _ else if L + 1 ≤ L + 1 + j ∧ L + 1 + j < L + 1 + xs.length then _ else _)
                rw [if_neg eb, if_pos hr, Nat.add_sub_cancel_left, List.getD_eq_getElem?_getD, hx, List.getD_eq_getElem?_getD, hy]
                rfl
              exact (Option.some.inj e').symm
            subst this
            exact ⟨by show 2 ≤ sizeLine; decide, [u, u2], .cons ru (.cons ru2 .nil), ⟨_, hp, rfl, _, rfl⟩⟩
          · have : Nw b = none := by show (if b = L then _ else if L + 1 ≤ b ∧ b < L + 1 + xs.length then _ else _) = _; rw [if_neg eb, if_neg hr]
            rw [this] at e
            cases e)
      have oldH : ∀ b o, H1 b = some o → (if N0 ≤ b then Nw b else H1 b) = some o := fun b o e => by
        have := I1.hok.lt e
        rw [hNd] at this
        rw [if_neg (Nat.not_le.mpr this)]
        exact e
      refine ⟨.ref L, _, I2, rfl, q _ L rs (fun b o e => oldH b o e) (I1.hok.fresh (by rw [hNd, hL]; exact Nat.le_add_right _ _)) ?_ (by simp [rs]) fun i r x y hr hx hy => ?_⟩
      · show (if N0 ≤ L then Nw L else H1 L) = _
        rw [if_pos (by rw [hL]; exact Nat.le_add_right _ _)]
        show (if L = L then _ else _) = _
        rw [if_pos rfl]
      · have hi : i < xs.length := (List.getElem?_eq_some_iff.mp hx).1
        have er : r = L + 1 + i := by
          rw [show rs[i]? = some (L + 1 + i) by simp only [rs]; rw [List.getElem?_map, List.getElem?_range hi]; rfl] at hr
          exact (Option.some.inj hr).symm
        subst er
        show (if N0 ≤ L + 1 + i then Nw (L + 1 + i) else H1 (L + 1 + i)) = _
        rw [if_pos (by omega)]
        show (if L + 1 + i = L then _ else if L + 1 ≤ L + 1 + i ∧ L + 1 + i < L + 1 + xs.length then _ else _) = _
        rw [if_neg (by omega), if_pos (by omega), Nat.add_sub_cancel_left, List.getD_eq_getElem?_getD, hx, List.getD_eq_getElem?_getD, hy]
        rfl
end L2
set_option Elab.async false
set_option linter.all false
set_option maxRecDepth 100000
set_option maxHeartbeats 1000000
set_option Elab.async false
set_option linter.all false
set_option maxRecDepth 100000
set_option maxHeartbeats 8000000
namespace Tip
open PySem PySem.Spec PyProof.Rows L2
def sp_lawB (K : PySem.W.Frag) (TR TF : Addr) : Sp := fun vs H Q _ => ∃ (a : Addr) (ns : List Int), vs = [.ref a] ∧ Ints K H a ns ∧ ns.length ≤ 63 ∧ (∀ x ∈ ns, Bits x) ∧ Tabs TR TF H ∧ ∀ H', Q (.bl true) H'
theorem bits_big {x : Int} (h : Bits x) : Big x := Nat.le_trans h (by decide)
theorem rep_flat (t : Bool) : ∀ n : Nat, (List.replicate n [V.bl t]).flatten = (List.replicate n t).map V.bl
  | 0 => rfl
  | n + 1 => by rw [List.replicate_succ, List.flatten_cons, rep_flat t n, List.replicate_succ]; rfl
theorem Paired.of_at {α β : Type} {F : α → β → Prop} : ∀ {l : List α} {m : List β}, l.length = m.length → (∀ (i : Nat) (a : α) (b : β), l[i]? = some a → m[i]? = some b → F a b) → Paired F l m
  | [], [], _, _ => .nil
  | [], _ :: _, h, _ => by simp at h
  | _ :: _, [], h, _ => by simp at h
  | a :: l, b :: m, h, f => .cons (f 0 a b rfl rfl) (Paired.of_at (by simpa using h) fun i x y hx hy => f (i + 1) x y (by simpa using hx) (by simpa using hy))
theorem erase_map : ∀ (l : List Int) (i : Nat), (l.map V.int).eraseIdx i = (l.eraseIdx i).map V.int
  | [], _ => rfl
  | _ :: _, 0 => rfl
  | x :: r, i + 1 => by
    show V.int x :: (r.map V.int).eraseIdx i = V.int x :: (r.eraseIdx i).map V.int
    rw [erase_map r i]
theorem erase_perm : ∀ (l : List Int) (i : Nat) (h : i < l.length), (l[i] :: l.eraseIdx i).Perm l
  | [], i, h => by simp at h
  | _ :: _, 0, _ => List.Perm.refl _
  | x :: r, i + 1, h => (List.Perm.swap _ _ _).trans ((erase_perm r i (by simpa using h)).cons x)
section
variable {P : Program} {w : World} {K : PySem.W.Frag} {mg : Str → Option Value} {base : Heap} {er : ErA}
structure GQ2 (P : Program) (w : World) (K : PySem.W.Frag) (mg : Str → Option Value) (base : Heap) (TR TF : Addr) (er : ErA) : Prop where
  _law_web : Df P w K mg base 2 "_law_web" ["_law_script"] (sp_law_web K)
  _law_right : Df P w K mg base 10 "_law_right" ["_law_places", "_law_ties_here"] (sp_right2 K TR TF)
  _law_counts : Df P w K mg base 2 "_law_counts" ["_law_places", "_law_ties_here"] (sp_counts_of K)
  _law_counts_right : Df P w K mg base 10 "_law_counts_right" ["_law_counts_here"] (sp_counts_right K TR TF)
  _law_ties : Df P w K mg base 1 "_law_ties" ["_law_row"] (sp_law_ties K)
  by_row : Df P w K mg base 5 "by_row" ["row"] (sp_by_row K)
  by_counts : Df P w K mg base 6 "by_counts" ["counts"] (fun vs H Q _ => sp_by_counts K TR TF er.nt vs H Q E0)
  row_of : Df P w K mg base 6 "row_of" ["places", "ties"] (fun vs H Q _ => sp_row_of K TR TF er.nt vs H Q E0)
theorem law_ok2 {TR TF f : Addr} {fd : FuncData} (T : Blt mg) (G : GQ2 P w K mg base TR TF er) (F : Fun K "law" "law" s_law f fd) : FnOk P w K mg base CX0 12 f fd ["_law_script"] (sp_lawB K TR TF) := by
  refine F.ok sc_law (fun vs H Q E h => ?_) (fun cdv A outer s H vs Q E hr h => ?_)
  · obtain ⟨a, ns, rfl, _⟩ := h; rfl
  have nd := sc_law.nd
  obtain ⟨a, ns, rfl, hs, hl, hbits, tb, q⟩ := h
  refine ⟨_, (pss_cons (ps_asg (pe_df G._law_web (hr.mono (by decide)) (pa_cons (pv 0) pa_nil)) (pg_tup rfl (pgs_cons (pg_name (i := 1) nd rfl (by first | exact Or.inl rfl | exact Or.inr rfl)) (pgs_cons (pg_name (i := 2) nd rfl (by first | exact Or.inl rfl | exact Or.inr rfl)) pgs_nil)))) (pss_cons (ps_set (i := 3) nd rfl (by first | exact Or.inl rfl | exact Or.inr rfl) (pe_callB (cr_sum rfl) rfl T.sum (by decide +kernel) (pa_cons (pe_slice sl_list (pv 0) po_none (po_some pe_int)) pa_nil))) (pss_cons (ps_if (PW.pt (pw_or (pt_not (pt_val (pe_df G._law_right (hr.mono (by decide)) (pa_cons (pv 1) (pa_cons (pv 2) pa_nil))))) (pw_or (pt_not (pt_val (pe_df G._law_right (hr.mono (by decide)) (pa_cons (pv 1) (pa_cons (pe_slice sl_list (pv 2) (po_some pe_int) po_none) pa_nil))))) (pw_or1 (pt_not (pt_val (pe_df G._law_right (hr.mono (by decide)) (pa_cons (pv 1) (pa_cons (pe_lst pa_nil) pa_nil))))))))) (pss_one (ps_ret pe_bl)) pss_nil) (pss_cons (ps_set (i := 4) nd rfl (by first | exact Or.inl rfl | exact Or.inr rfl) (pe_df G._law_counts (hr.mono (by decide)) (pa_cons (pv 1) (pa_cons (pv 2) pa_nil)))) (pss_cons (ps_par (i := 5) (j := 6) rfl nd rfl rfl (by decide) rfl rfl (pa_cons (pe_callTy call_list_of rfl T.list_ (by decide +kernel) (pa_cons (pv 4) pa_nil)) (pa_cons (pe_callTy call_list_of rfl T.list_ (by decide +kernel) (pa_cons (pv 4) pa_nil)) pa_nil)) (by rfl)) (pss_cons (ps_par (i := 7) (j := 8) rfl nd rfl rfl (by decide) rfl rfl (pa_cons (pe_op op_mod (pv 3) (pv 1)) (pa_cons (pe_op op_mod (pe_op op_fdiv (pv 3) pe_int) (pv 1)) pa_nil)) (by rfl)) (pss_cons (ps_asg (pe_op op_add (pe_ix ix_list (pv 5) (pv 7) (fun _ _ => rfl)) pe_int) (pg_sub (pv 5) (pv 7) set_list)) (pss_cons (ps_asg (pe_tup (pa_cons (pe_op op_add (pe_ix ix_list (pv 6) (pv 8) (fun _ _ => rfl)) pe_int) (pa_cons (pe_callB (call_max2 rfl) rfl T.max (by decide +kernel) (pa_cons pe_int (pa_cons (pe_op op_sub (pe_ix ix_list (pv 6) (pv 7) (fun _ _ => rfl)) pe_int) pa_nil))) pa_nil))) (pg_tup rfl (pgs_cons (pg_sub (pv 6) (pv 7) set_list) (pgs_cons (pg_sub (pv 6) (pv 8) set_list) pgs_nil)))) (pss_cons (ps_for PassesOwn.never rfl (pi_list (pe_lst (pa_cons (pv 4) (pa_cons (pe_rev (pv 4)) (pa_cons (pe_callB cr_sorted rfl T.sorted (by decide +kernel) (pa_cons (pv 4) pa_nil)) (pa_cons (pv 5) (pa_cons (pv 6) (pa_cons (pe_op op_cat (pv 4) (pe_lst (pa_cons pe_int pa_nil))) (pa_cons (pe_op op_cat (pe_slice sl_list (pv 4) (po_some pe_int) po_none) (pe_lst (pa_cons (pv 1) pa_nil))) pa_nil))))))))) (pg_name (i := 9) nd rfl (by first | exact Or.inl rfl | exact Or.inr rfl)) (pss_one (ps_if (pt_not (pt_val (pe_df G._law_counts_right (hr.mono (by decide)) (pa_cons (pe_slice sl_list (pv 9) po_none (po_some pe_int)) pa_nil)))) (pss_one (ps_ret pe_bl)) pss_nil))) (pss_cons (ps_par (i := 10) (j := 11) rfl nd rfl rfl (by decide) rfl rfl (pa_cons (pe_callTy (call_list_rng rfl) rfl T.list_ (by decide +kernel) (pa_cons (pe_callTy call_rng rfl T.range (by decide +kernel) (pa_cons (pv 1) pa_nil)) pa_nil)) (pa_cons (pe_lst pa_nil) pa_nil)) (by rfl)) (pss_cons (ps_for PassesOwn.never rfl (pi_list (pe_slice sl_list (pv 0) po_none (po_some (pv 1)))) (pg_name (i := 12) nd rfl (by first | exact Or.inl rfl | exact Or.inr rfl)) (pss_cons (ps_expr (pe_bm PySem.F.plainAttrs_list PySem.F.slot_list_insert PySem.F.type_list_insert mt_insert (pv 10) (pa_cons (pe_op op_mod (pv 12) (pv 1)) (pa_cons (pe_bm PySem.F.plainAttrs_list PySem.F.slot_list_pop PySem.F.type_list_pop mt_popAt (pv 10) (pa_cons (pe_op op_mod (pe_op op_fdiv (pv 12) pe_int) (pv 1)) pa_nil)) pa_nil)))) (pss_one (ps_expr (pe_bm PySem.F.plainAttrs_list PySem.F.slot_list_append PySem.F.type_list_append mt_append (pv 11) (pa_cons (pe_cmpR (op_eqD hr.units) (pe_op op_mod (pe_op op_fdiv (pv 12) pe_int) pe_int) pe_int (nomark _)) pa_nil)))))) (pss_cons (ps_set (i := 11) nd rfl (by first | exact Or.inl rfl | exact Or.inr rfl) (pe_slice sl_list (pe_op op_cat (pe_op op_cat (pe_lst (pa_cons pe_bl pa_nil)) (pv 11)) (pe_op op_rep (pe_lst (pa_cons (pe_cmpR (op_eqD hr.units) (pe_op op_mod (pv 3) pe_int) pe_int (nomark _)) pa_nil)) (pv 1))) po_none (po_some (pv 1)))) (pss_cons (ps_set (i := 13) nd rfl (by first | exact Or.inl rfl | exact Or.inr rfl) (pe_listZip rfl T.list_ rfl T.zip (pa_cons (pv 10) (pa_cons (pv 11) pa_nil)))) (pss_cons (ps_if (PW.pt (pw_or (pt_cmpR (op_neD hr.units) (pe_df G.by_row (hr.mono (by decide)) (pa_cons (pv 13) pa_nil)) (pe_df G._law_ties (hr.mono (by decide)) (pa_cons (pv 13) pa_nil)) (nomark _)) (pw_or1 (pt_not (pt_val (pe_df G._law_right (hr.mono (by decide)) (pa_cons (pv 1) (pa_cons (pe_df G._law_ties (hr.mono (by decide)) (pa_cons (pv 13) pa_nil)) pa_nil)))))))) (pss_one (ps_ret pe_bl)) pss_nil) (pss_one (ps_ret (pe_and (pe_cmpR (op_eqD hr.units) (pe_df G.by_row (hr.mono (by decide)) (pa_cons (pe_lst (pa_cons (pe_tup (pa_cons pe_int (pa_cons pe_bl pa_nil))) pa_nil)) pa_nil)) (pe_lst pa_nil) (nomark _)) (pe_and (pe_cmpR (op_eqD hr.units) (pe_df G.by_counts (hr.mono (by decide)) (pa_cons (pe_lst (pa_cons pe_int (pa_cons pe_int (pa_cons pe_int pa_nil)))) pa_nil)) (pe_lst (pa_cons (pe_tup (pa_cons pe_int (pa_cons pe_int pa_nil))) (pa_cons (pe_tup (pa_cons pe_int (pa_cons pe_int pa_nil))) pa_nil))) (nomark _)) (pe_one (pe_cmpR (op_eqD hr.units) (pe_df G.row_of (hr.mono (by decide)) (pa_cons pe_int (pa_cons (pe_lst pa_nil) pa_nil))) (pe_lst (pa_cons (pe_tup (pa_cons pe_int (pa_cons pe_bl pa_nil))) pa_nil)) (nomark _))))))))))))))))))))), ?_⟩
  refine ⟨_, rfl, a, ns, rfl, hs, by omega, fun x hx => bits_big (hbits x hx), fun H1 p l n ts s1 hp hto ok => ?_⟩
  have hn1 := ok.lo
  have hn40 := ok.hi
  refine ⟨p, _, rfl, SqT.of hp, rfl, _, _, rfl, _, _, rfl, rfl, ?_⟩
  refine ⟨_, rfl, 63, rfl, a, _, rfl, s1.seq hs, fun c hc => ?_⟩
  have ecut : cutV (ns.map V.int) none (some 63) = (ns.take 63).map V.int := by rw [show (63 : Int) = ((63 : Nat) : Int) from rfl, cut_to, List.map_take]
  rw [ecut]
  have s2 := same_new' hc (.lst ((ns.take 63).map V.int))
  refine ⟨c, ns.take 63, rfl, SqL.of upd_same, ?_⟩
  generalize (ns.take 63).sum = wh
  generalize hH2 : upd H1 c (.lst ((ns.take 63).map V.int)) = H2 at *
  have s02 := s1.trans s2
  have t2 : TiesO H2 l ts := hto.same s2
  refine ⟨_, rfl, _, rfl, n, l, ts, rfl, t2.ties, ok, tb.same s02, fun H3 sm3 tb3 => ⟨_, rfl, iteF ?_⟩⟩
  have t3 : TiesO H3 l ts := t2.sm sm3
  obtain ⟨rs3, h31, h32⟩ := id t3
  refine ⟨_, rfl, _, rfl, 1, rfl, l, _, rfl, SqL.of h31, fun sl hsl => ?_⟩
  obtain ⟨ts', hto4, ok4⟩ := cut_ties (l := l) (lo := some 1) (hi := none) h32 ok hsl
  have s4 := same_new' hsl (.lst (cutV (rs3.map V.ref) (some 1) none))
  refine ⟨n, sl, ts', rfl, hto4.ties, ok4, tb3.same s4, fun H5 sm5 tb5 => ⟨_, rfl, iteF ?_⟩⟩
  refine ⟨_, rfl, (by show 0 ≤ sizeLine; decide), fun em hem => ?_⟩
  have s6 := same_new' hem (.lst [])
  refine ⟨n, em, [], rfl, ⟨[], SqL.of upd_same, .nil⟩, ⟨ok.lo, ok.hi, fun t ht => by simp at ht, List.nodup_nil, by simp⟩, tb5.same s6, fun H7 sm7 tb7 => ⟨_, rfl, iteF ?_⟩⟩
  have sm27 : Sm H2 H7 := ((sm3.trans (Sm.of s4)).trans sm5).trans ((Sm.of s6).trans sm7)
  have t7 : TiesO H7 l ts := t2.sm sm27
  refine ⟨_, rfl, _, rfl, n, l, ts, rfl, t7.ties, ok, fun H8 cc s8 hcc0 hcc => ?_⟩
  have hdl : (degs n ts).length = n := degs_len n ts
  have hd0 : ∀ x ∈ degs n ts, 0 ≤ x := fun x hx => by
    unfold degs at hx
    obtain ⟨k, _, e⟩ := List.mem_map.mp hx
    omega
  generalize hds : degs n ts = ds at *
  refine ⟨_, rfl, cc, _, rfl, .inl (SqL.of hcc), fun bt hbt => ?_⟩
  have s9 := same_new' hbt (.lst (ds.map V.int))
  refine ⟨_, rfl, cc, _, rfl, .inl (SqL.of (s9 _ _ hcc)), fun mv hmv => ?_⟩
  have s10 := same_new' hmv (.lst (ds.map V.int))
  refine ⟨_, _, rfl, ?_⟩
  generalize hH9 : upd H8 bt (.lst (ds.map V.int)) = H9 at *
  have hbt9 : H9 bt = some (.lst (ds.map V.int)) := by rw [← hH9]; exact upd_same
  have hmv10 : upd H9 mv (.lst (ds.map V.int)) mv = some (.lst (ds.map V.int)) := upd_same
  generalize hH10 : upd H9 mv (.lst (ds.map V.int)) = H10 at *
  have hbt10 := s10 _ _ hbt9
  have hcc10 := s10 _ _ (s9 _ _ hcc)
  have nbm : bt ≠ mv := ne_of_none hbt9 hmv
  have ncb : cc ≠ bt := ne_of_none hcc hbt
  have ncm : cc ≠ mv := ne_of_none (s9 _ _ hcc) hmv
  obtain ⟨u, hu⟩ := Int.eq_ofNat_of_zero_le (Int.emod_nonneg wh (show (n : Int) ≠ 0 by omega))
  obtain ⟨v, hv⟩ := Int.eq_ofNat_of_zero_le (Int.emod_nonneg (wh / 3) (show (n : Int) ≠ 0 by omega))
  have hun : u < n := by have := Int.emod_lt_of_pos wh (show (0 : Int) < n by omega); omega
  have hvn : v < n := by have := Int.emod_lt_of_pos (wh / 3) (show (0 : Int) < n by omega); omega
  have ixu : ∀ {xs : List Int}, xs.length = n → ixN (xs.map V.int).length (wh % (n : Int)) = some u := fun {xs} hx => by rw [hu]; unfold ixN; rw [if_pos (by omega), if_pos (by rw [List.length_map, hx]; omega)]; rfl
  have ixv : ∀ {xs : List Int}, xs.length = n → ixN (xs.map V.int).length (wh / 3 % (n : Int)) = some v := fun {xs} hx => by rw [hv]; unfold ixN; rw [if_pos (by omega), if_pos (by rw [List.length_map, hx]; omega)]; rfl
  have atu : ∀ {xs : List Int}, xs.length = n → atI (xs.map V.int) (wh % (n : Int)) = some (.int (xs.getD u 0)) := fun {xs} hx => by rw [hu]; exact atI_int (by omega)
  have atv : ∀ {xs : List Int}, xs.length = n → atI (xs.map V.int) (wh / 3 % (n : Int)) = some (.int (xs.getD v 0)) := fun {xs} hx => by rw [hv]; exact atI_int (by omega)
  refine ⟨_, rfl, _, rfl, wh, (n : Int), rfl, rfl, (by show (0 : Int) < (n : Int); omega), ?_⟩
  refine ⟨_, rfl, wh, 3, rfl, rfl, ⟨by decide, by decide⟩, _, rfl, wh / 3, (n : Int), rfl, rfl, (by show (0 : Int) < (n : Int); omega), ?_⟩
  refine ⟨_, _, rfl, ?_⟩
  refine ⟨_, rfl, _, rfl, bt, _, wh % (n : Int), _, rfl, rfl, SqL.of hbt10, atu hdl, _, _, rfl, rfl, ?_⟩
  refine ⟨_, rfl, _, rfl, bt, _, wh % (n : Int), u, rfl, rfl, hbt10, ixu hdl, ?_⟩
  have hset : ∀ (xs : List Int) (j : Nat) (z : Int), (xs.map V.int).set j (.int z) = (xs.set j z).map V.int := fun xs j z => (List.map_set ..).symm
  rw [hset]
  have hbtF : ∃ bs : List Int, bs = ds.set u (ds.getD u 0 + 1) := ⟨_, rfl⟩
  obtain ⟨bs, hbs⟩ := hbtF
  rw [← hbs]
  have bsl : bs.length = n := by rw [hbs, List.length_set, hdl]
  have nnGet : ∀ j, 0 ≤ ds.getD j 0 := fun j => by
    rw [List.getD_eq_getElem?_getD]
    cases e : ds[j]? with
    | none => exact Int.le_refl 0
    | some x => exact hd0 x (List.mem_of_getElem? e)
  have bs0 : ∀ x ∈ bs, 0 ≤ x := fun x hx => by
    rw [hbs] at hx
    rcases List.mem_or_eq_of_mem_set hx with z | z
    · exact hd0 x z
    · have := nnGet u; omega
  generalize hH11 : upd H10 bt (.lst (bs.map V.int)) = H11
  have k11 : ∀ b o, H10 b = some o → b ≠ bt → H11 b = some o := fun b o e hb => by rw [← hH11, upd_ne hb]; exact e
  have hbt11 : H11 bt = some (.lst (bs.map V.int)) := by rw [← hH11]; exact upd_same
  have hmv11 := k11 _ _ hmv10 (Ne.symm nbm)
  have hcc11 := k11 _ _ hcc10 ncb
  refine ⟨_, rfl, _, rfl, mv, _, wh / 3 % (n : Int), _, rfl, rfl, SqL.of hmv11, atv hdl, _, _, rfl, rfl, ?_⟩
  refine ⟨_, rfl, _, rfl, mv, _, wh % (n : Int), _, rfl, rfl, SqL.of hmv11, atu hdl, _, _, rfl, rfl, _, _, rfl, ?_⟩
  refine ⟨(by show 2 ≤ sizeLine; decide), fun tp htp => ?_⟩
  have sT := same_new' htp (.tup [.int (ds.getD v 0 + 1), .int (if ds.getD u 0 - 1 > 0 then ds.getD u 0 - 1 else 0)])
  refine ⟨tp, _, rfl, SqT.of upd_same, rfl, _, _, rfl, ?_⟩
  refine ⟨_, rfl, _, rfl, mv, _, wh % (n : Int), u, rfl, rfl, sT _ _ hmv11, ixu hdl, ?_⟩
  rw [hset]
  refine ⟨_, _, rfl, ?_⟩
  refine ⟨_, rfl, _, rfl, mv, _, wh / 3 % (n : Int), v, rfl, rfl, upd_same, ixv (by rw [List.length_set, hdl]), ?_⟩
  rw [hset, upd_upd]
  refine ⟨rfl, ?_⟩
  obtain ⟨ms, hms⟩ : ∃ ms : List Int, ms = (ds.set u (ds.getD v 0 + 1)).set v (if ds.getD u 0 - 1 > 0 then ds.getD u 0 - 1 else 0) := ⟨_, rfl⟩
  rw [← hms]
  have msl : ms.length = n := by rw [hms, List.length_set, List.length_set, hdl]
  have ms0 : ∀ x ∈ ms, 0 ≤ x := fun x hx => by
    rw [hms] at hx
    rcases List.mem_or_eq_of_mem_set hx with z | z
    · rcases List.mem_or_eq_of_mem_set z with z | z
      · exact hd0 x z
      · have := nnGet v; omega
    · rw [z]; split <;> omega
  generalize hH12a : upd H11 tp (.tup [.int (ds.getD v 0 + 1), .int (if ds.getD u 0 - 1 > 0 then ds.getD u 0 - 1 else 0)]) = H12a at *
  generalize hH12 : upd H12a mv (.lst (ms.map V.int)) = H12
  have k12 : ∀ b o, H11 b = some o → b ≠ mv → H12 b = some o := fun b o e hb => by rw [← hH12, upd_ne hb]; exact sT _ _ e
  have hmv12 : H12 mv = some (.lst (ms.map V.int)) := by rw [← hH12]; exact upd_same
  have hbt12 := k12 _ _ hbt11 nbm
  have hcc12 := k12 _ _ hcc11 ncm
  have hbt7 : H7 bt = none := s8.free hbt
  have hmv7 : H7 mv = none := (s8.trans s9).free hmv
  have s712 : Same H7 H12 := fun b o e => k12 _ _ (k11 _ _ (s10 _ _ (s9 _ _ (s8 _ _ e))) (ne_of_none e hbt7)) (ne_of_none e hmv7)
  have tb12 := tb7.same s712
  have sm212 : Sm H2 H12 := sm27.trans (Sm.of s712)
  -- the list of lists
  refine ⟨_, rfl, _, rfl, cc, _, rfl, SqL.of hcc12, fun rv hrv => ?_⟩
  have e1 := same_new' hrv (.lst (ds.map V.int).reverse)
  refine ⟨_, rfl, cc, ds, rfl, SqL.of (e1 _ _ hcc12), by omega, fun ns' so hperm hord hso => ?_⟩
  have e2 := same_new' hso (.lst (ns'.map V.int))
  refine ⟨_, rfl, _, rfl, ?_⟩
  refine ⟨_, rfl, (by show 1 ≤ sizeLine; decide), fun z0 hz0 => ?_⟩
  have e3 := same_new' hz0 (.lst [.int 0])
  have e13 := (e1.trans e2).trans e3
  refine ⟨cc, z0, _, _, rfl, rfl, e13 _ _ hcc12, upd_same, by rw [List.length_map, hdl, sizeLine_eq]; simp; omega, fun ca hca => ?_⟩
  have e4 := same_new' hca (.lst (ds.map V.int ++ [.int 0]))
  have e14 := e13.trans e4
  refine ⟨_, rfl, 1, rfl, cc, _, rfl, SqL.of (e14 _ _ hcc12), fun sl2 hsl2 => ?_⟩
  rw [show cutV (ds.map V.int) (some 1) none = (ds.map V.int).drop 1 from cut_from _ 1]
  have e5 := same_new' hsl2 (.lst ((ds.map V.int).drop 1))
  refine ⟨_, rfl, (by show 1 ≤ sizeLine; decide), fun z1 hz1 => ?_⟩
  have e6 := same_new' hz1 (.lst [.int (n : Int)])
  refine ⟨sl2, z1, _, _, rfl, rfl, e6 _ _ upd_same, upd_same, by rw [List.length_drop, List.length_map, hdl, sizeLine_eq]; simp; omega, fun cb hcb => ?_⟩
  have e7 := same_new' hcb (.lst ((ds.map V.int).drop 1 ++ [.int (n : Int)]))
  refine ⟨(by show 7 ≤ sizeLine; decide), fun LL hLL => ?_⟩
  have e8 := same_new' hLL (.lst [.ref cc, .ref rv, .ref so, .ref bt, .ref mv, .ref ca, .ref cb])
  refine ⟨LL, rfl, ⟨_, SqL.of upd_same⟩, ?_⟩
  have e58 := ((e5.trans e6).trans e7).trans e8
  have e18 := e14.trans e58
  have hgoodL : ∀ x ∈ [V.ref cc, .ref rv, .ref so, .ref bt, .ref mv, .ref ca, .ref cb], ∃ (r : Addr) (xs : List Int), x = .ref r ∧ upd _ LL (.lst [.ref cc, .ref rv, .ref so, .ref bt, .ref mv, .ref ca, .ref cb]) r = some (.lst (xs.map V.int)) ∧ 1 ≤ xs.length ∧ ∀ z ∈ xs, 0 ≤ z := fun x hx => by
    simp only [List.mem_cons, List.not_mem_nil, or_false] at hx
    rcases hx with rfl | rfl | rfl | rfl | rfl | rfl | rfl
    · exact ⟨cc, ds, rfl, e18 _ _ hcc12, by omega, hd0⟩
    · exact ⟨rv, ds.reverse, rfl, by rw [List.map_reverse]; exact e58 _ _ (e4 _ _ (e3 _ _ (e2 _ _ upd_same))), by rw [List.length_reverse]; omega, fun z hz => hd0 z (List.mem_reverse.mp hz)⟩
    · exact ⟨so, ns', rfl, e58 _ _ (e4 _ _ (e3 _ _ upd_same)), by rw [hperm.length_eq]; omega, fun z hz => hd0 z (hperm.mem_iff.mp hz)⟩
    · exact ⟨bt, bs, rfl, e18 _ _ hbt12, by omega, bs0⟩
    · exact ⟨mv, ms, rfl, e18 _ _ hmv12, by omega, ms0⟩
    · exact ⟨ca, ds ++ [0], rfl, by rw [List.map_append]; exact e58 _ _ upd_same, by simp, fun z hz => by rcases List.mem_append.mp hz with h | h; exact hd0 z h; simp at h; omega⟩
    · exact ⟨cb, ds.drop 1 ++ [(n : Int)], rfl, by rw [List.map_append, List.map_drop]; exact e8 _ _ upd_same, by simp, fun z hz => by rcases List.mem_append.mp hz with h | h; exact hd0 z (List.mem_of_mem_drop h); simp at h; omega⟩
  generalize hH13 : upd _ LL (.lst [.ref cc, .ref rv, .ref so, .ref bt, .ref mv, .ref ca, .ref cb]) = H13 at *
  have hLL13 : H13 LL = some (.lst [.ref cc, .ref rv, .ref so, .ref bt, .ref mv, .ref ca, .ref cb]) := by rw [← hH13]; exact upd_same
  have tb13 := tb12.same e18
  have sm213 := sm212.trans (Sm.of e18)
  refine for_walk (L2.Walks.list (K := K) (a := LL) (xs := [.ref cc, .ref rv, .ref so, .ref bt, .ref mv, .ref ca, .ref cb])) (fun i σ H' => Sm H13 H' ∧ Tabs TR TF H' ∧ ∃ x4 x5 x6 x7 x8 x9 x10 x11 x12 x13, σ = [some (.ref a), some (.int (n : Int)), some (.ref l), some (.int wh), x4, x5, x6, x7, x8, x9, x10, x11, x12, x13])
    (fun i σ H' h => SqL.of (h.1.lst hLL13)) ⟨Sm.refl _, tb13, _, _, _, _, _, _, _, _, _, _, rfl⟩ (fun i x σ H14 H15 hi hP s15 hx => ?_) (fun σ H14 h => ?_)
  · obtain ⟨sm14, tb14, x4, x5, x6, x7, x8, x9, x10, x11, x12, x13, rfl⟩ := hP
    obtain ⟨r, xs, rfl, hr13, hx1, hx0⟩ := hgoodL x (List.mem_of_getElem? hx)
    have sm15 := sm14.trans (Sm.of s15)
    refine ⟨_, rfl, 40, rfl, r, _, rfl, SqL.of (sm15.lst hr13), fun c4 hc4 => ?_⟩
    rw [show cutV (xs.map V.int) none (some 40) = (xs.take 40).map V.int by rw [show (40 : Int) = ((40 : Nat) : Int) from rfl, cut_to, List.map_take]]
    have s16 := same_new' hc4 (.lst ((xs.take 40).map V.int))
    refine ⟨c4, xs.take 40, rfl, SqL.of upd_same, by rw [List.length_take]; omega, by rw [List.length_take]; omega, fun z hz => hx0 z (List.mem_of_mem_take hz), (tb14.same s15).same s16, fun H17 sm17 tb17 => ⟨_, rfl, iteF ?_⟩⟩
    exact ⟨(sm15.trans (Sm.of s16)).trans sm17, tb17, _, _, _, _, _, _, _, _, _, _, rfl⟩
  obtain ⟨sm14, tb14, x4, x5, x6, x7, x8, x9, x10, x11, x12, x13, rfl⟩ := h
  have sm214 := sm213.trans sm14
  have erng : rngV 0 ((n : Int) - 0).toNat = (natI n).map V.int := by
    unfold rngV natI
    rw [List.map_map, show ((n : Int) - 0).toNat = n by omega]
    refine List.map_congr_left fun i _ => ?_
    show V.int (0 + (i : Int)) = V.int (i : Int)
    rw [Int.zero_add]
  refine ⟨_, rfl, 0, (n : Int), .inl ⟨rfl, rfl⟩, fun rg hrg => ?_⟩
  have f1 := same_new' hrg (.rng 0 (n : Int))
  refine ⟨rg, 0, (n : Int), rfl, upd_same, by decide, by decide, by omega, by omega, fun lo hlo => ?_⟩
  rw [erng]
  have f2 := same_new' hlo (.lst ((natI n).map V.int))
  refine ⟨(by show 0 ≤ sizeLine; decide), fun mk hmk => ?_⟩
  have f3 := same_new' hmk (.lst [])
  have nlm : lo ≠ mk := ne_of_none upd_same hmk
  have hlo20 : upd (upd (upd H14 rg (.rng 0 (n : Int))) lo (.lst ((natI n).map V.int))) mk (.lst []) lo = some (.lst ((natI n).map V.int)) := f3 _ _ upd_same
  have hmk20 : upd (upd (upd H14 rg (.rng 0 (n : Int))) lo (.lst ((natI n).map V.int))) mk (.lst []) mk = some (.lst []) := upd_same
  have f13 := (f1.trans f2).trans f3
  have hlo14 : H14 lo = none := f1.free hlo
  have hmk14 : H14 mk = none := (f1.trans f2).free hmk
  generalize hH20 : upd (upd (upd H14 rg (.rng 0 (n : Int))) lo (.lst ((natI n).map V.int))) mk (.lst []) = H20 at *
  refine ⟨_, _, rfl, ?_⟩
  have sm020 : Sm H H20 := ((Sm.of s02).trans sm214).trans (Sm.of f13)
  refine ⟨_, rfl, _, rfl, (n : Int), rfl, a, _, rfl, sm020.seq hs, fun c2 hc2 => ?_⟩
  rw [cut_to]
  have f4 := same_new' hc2 (.lst ((ns.map V.int).take n))
  have hc221 : upd H20 c2 (.lst ((ns.map V.int).take n)) c2 = some (.lst ((ns.map V.int).take n)) := upd_same
  have nlc : c2 ≠ lo := Ne.symm (ne_of_none hlo20 hc2)
  have nmc : c2 ≠ mk := Ne.symm (ne_of_none hmk20 hc2)
  refine ⟨c2, rfl, ⟨_, SqL.of upd_same⟩, ?_⟩
  generalize hH21 : upd H20 c2 (.lst ((ns.map V.int).take n)) = H21 at *
  have hnl : ((ns.map V.int).take n).length ≤ 40 := by rw [List.length_take]; omega
  refine for_walk (L2.Walks.list (K := K) (a := c2) (xs := (ns.map V.int).take n)) (fun i σ H' => (∀ b o, H21 b = some o → b ≠ lo → b ≠ mk → H' b = some o) ∧ (∃ x4 x5 x6 x7 x8 x9 x12 x13, σ = [some (.ref a), some (.int (n : Int)), some (.ref l), some (.int wh), x4, x5, x6, x7, x8, x9, some (.ref lo), some (.ref mk), x12, x13]) ∧ i ≤ 40 ∧ (∃ os : List Int, H' lo = some (.lst (os.map V.int)) ∧ os.Perm (natI n)) ∧ ∃ bl : List Bool, H' mk = some (.lst (bl.map V.bl)) ∧ bl.length = i)
    (fun i σ H' h => SqL.of (h.1 _ _ hc221 nlc nmc)) ⟨fun b o e _ _ => e, ⟨_, _, _, _, _, _, _, _, rfl⟩, by omega, ⟨natI n, f4 _ _ hlo20, List.Perm.refl _⟩, [], f4 _ _ hmk20, rfl⟩ (fun i x σ H22 H23 hi hP s23 hx => ?_) (fun σ H22 h => ?_)
  · obtain ⟨k22, ⟨x4, x5, x6, x7, x8, x9, x12, x13, rfl⟩, hi40, ⟨os, hlo22, hperm2⟩, bl, hmk22, hbl⟩ := hP
    have hosl : os.length = n := by rw [hperm2.length_eq, natI_len]
    have hx' : ∃ z : Int, x = .int z := by
      have := List.mem_of_getElem? hx
      have := List.mem_of_mem_take this
      obtain ⟨z, _, e⟩ := List.mem_map.mp this
      exact ⟨z, e.symm⟩
    obtain ⟨z, rfl⟩ := hx'
    have hlo23 := s23 _ _ hlo22
    have hmk23 := s23 _ _ hmk22
    obtain ⟨u2, hu2⟩ := Int.eq_ofNat_of_zero_le (Int.emod_nonneg z (show (n : Int) ≠ 0 by omega))
    obtain ⟨v2, hv2⟩ := Int.eq_ofNat_of_zero_le (Int.emod_nonneg (z / 7) (show (n : Int) ≠ 0 by omega))
    have hun2 : u2 < n := by have := Int.emod_lt_of_pos z (show (0 : Int) < n by omega); omega
    have hvn2 : v2 < n := by have := Int.emod_lt_of_pos (z / 7) (show (0 : Int) < n by omega); omega
    refine ⟨_, rfl, .inl ⟨rfl, _, SqL.of hlo23⟩, ?_⟩
    refine ⟨_, rfl, _, rfl, z, (n : Int), rfl, rfl, (by show (0 : Int) < (n : Int); omega), ?_⟩
    refine ⟨_, rfl, .inl ⟨rfl, _, SqL.of hlo23⟩, ?_⟩
    refine ⟨_, rfl, z, 7, rfl, rfl, ⟨by decide, by decide⟩, _, rfl, z / 7, (n : Int), rfl, rfl, (by show (0 : Int) < (n : Int); omega), ?_⟩
    refine ⟨lo, _, z / 7 % (n : Int), v2, .int (os.getD v2 0), rfl, rfl, hlo23, by omega, by omega, ?_, ?_, ?_⟩
    · rw [hv2]
      refine (ixN_seq ?_).1
      unfold ixN
      rw [if_pos (by omega), if_pos (by rw [List.length_map, hosl]; omega)]
      rfl
    · rw [List.getElem?_map, List.getD_eq_getElem?_getD, List.getElem?_eq_getElem (by omega)]
      rfl
    rw [erase_map os v2]
    have hol : (os.eraseIdx v2).length = n - 1 := by rw [List.length_eraseIdx, if_pos (by omega), hosl]
    refine ⟨lo, _, u2, .int (os.getD v2 0), rfl, (by show [V.int (z % (n : Int)), _] = _; rw [hu2]), upd_same, by rw [List.length_map, hol]; omega, by rw [List.length_map, hol]; omega, ?_⟩
    rw [upd_upd]
    have hmk24 : ∀ o, upd H23 lo o mk = some (.lst (bl.map V.bl)) := fun o => by rw [upd_ne (Ne.symm nlm)]; exact hmk23
    refine ⟨_, rfl, .inl ⟨rfl, _, SqL.of (hmk24 _)⟩, ?_⟩
    refine ⟨_, rfl, z, 49, rfl, rfl, ⟨by decide, by decide⟩, z / 49, 2, rfl, rfl, (by show (0 : Int) < 2; decide), .int _, .int _, .int _, .int _, rfl, rfl, ?_⟩
    refine ⟨mk, _, _, rfl, rfl, hmk24 _, by rw [List.length_map, sizeLine_eq]; omega, ?_⟩
    rw [List.length_take] at hi
    refine ⟨fun b o e h1 h2 => ?_, ⟨_, _, _, _, _, _, _, _, rfl⟩, by omega, ⟨(os.eraseIdx v2).take u2 ++ os.getD v2 0 :: (os.eraseIdx v2).drop u2, ?_, ?_⟩, bl ++ [_], by rw [upd_same, List.map_append]; rfl, by simp [hbl]⟩
    · rw [upd_ne h2, upd_ne h1]
      exact s23 _ _ (k22 _ _ e h1 h2)
    · rw [upd_ne nlm, upd_same, List.map_append, List.map_cons, List.map_take, List.map_drop]
    · refine List.Perm.trans ?_ hperm2
      refine List.perm_middle.trans ?_
      rw [List.take_append_drop]
      have e1 : os.getD v2 0 = os[v2]'(by omega) := by rw [List.getD_eq_getElem?_getD, List.getElem?_eq_getElem (by omega)]; rfl
      rw [e1]
      exact erase_perm os v2 (by omega)
  obtain ⟨k22, ⟨x4, x5, x6, x7, x8, x9, x12, x13, rfl⟩, hi40, ⟨os, hlo22, hperm2⟩, bl, hmk22, hbl⟩ := h
  have hosl : os.length = n := by rw [hperm2.length_eq, natI_len]
  have s1422 : Same H14 H22 := fun b o e => k22 _ _ (f4 _ _ (f13 _ _ e)) (ne_of_none e hlo14) (ne_of_none e hmk14)
  have tb22 := tb14.same s1422
  -- the marks
  refine ⟨(by show 1 ≤ sizeLine; decide), fun g0 hg0 => ?_⟩
  have j0 := same_new' hg0 (.lst [.bl false])
  refine ⟨_, rfl, g0, mk, _, _, rfl, rfl, upd_same, j0 _ _ hmk22, by rw [List.length_map, sizeLine_eq]; simp; omega, fun g1 hg1 => ?_⟩
  have j1 := same_new' hg1 (.lst ([.bl false] ++ bl.map V.bl))
  refine ⟨_, rfl, wh, 2, rfl, rfl, (by show (0 : Int) < 2; decide), .int _, .int _, .int _, .int _, rfl, rfl, ?_⟩
  generalize PyData.eqv (.int (wh % 2)) (.int 0) = tm
  refine ⟨(by show 1 ≤ sizeLine; decide), fun g2 hg2 => ?_⟩
  have j2 := same_new' hg2 (.lst [.bl tm])
  refine ⟨_, rfl, g2, (n : Int), _, rfl, rfl, upd_same, by omega, by omega, by rw [sizeLine_eq]; simp; omega, fun g3 hg3 => ?_⟩
  have j3 := same_new' hg3 (.lst (List.replicate (n : Int).toNat [V.bl tm]).flatten)
  have elr : (List.replicate (n : Int).toNat [V.bl tm]).flatten = (List.replicate n tm).map V.bl := by rw [Int.toNat_natCast]; exact rep_flat tm n
  refine ⟨g1, g3, _, _, rfl, rfl, j3 _ _ (j2 _ _ upd_same), upd_same, by rw [elr, List.length_map, List.length_replicate, List.length_append, List.length_map, sizeLine_eq]; simp; omega, fun g4 hg4 => ?_⟩
  have j4 := same_new' hg4 (.lst (([.bl false] ++ bl.map V.bl) ++ (List.replicate (n : Int).toNat [V.bl tm]).flatten))
  refine ⟨_, rfl, (n : Int), rfl, g4, _, rfl, SqL.of upd_same, fun g5 hg5 => ?_⟩
  obtain ⟨ml, hml⟩ : ∃ ml : List Bool, ml = (false :: (bl ++ List.replicate n tm)).take n := ⟨_, rfl⟩
  have ecm : cutV (([.bl false] ++ bl.map V.bl) ++ (List.replicate (n : Int).toNat [V.bl tm]).flatten) none (some (n : Int)) = ml.map V.bl := by
    rw [cut_to, elr, hml, List.map_take]
    simp
  rw [ecm]
  have j5 := same_new' hg5 (.lst (ml.map V.bl))
  have hmll : ml.length = n := by rw [hml, List.length_take, List.length_cons, List.length_append, List.length_replicate]; omega
  have j05 := ((j0.trans j1).trans (j2.trans j3)).trans (j4.trans j5)
  have hlo30 := j05 _ _ hlo22
  refine ⟨_, rfl, _, rfl, lo, g5, _, _, rfl, SqL.of hlo30, SqL.of upd_same, by rw [List.length_map, List.length_map, hosl, hmll], by rw [List.length_map, hosl]; omega, by rw [List.length_map, hosl]; omega, fun H31 rw0 rsz s31 hrw0 hrw hrwl hrit => ?_⟩
  rw [List.length_map, hosl] at hrwl
  obtain ⟨st, hst⟩ : ∃ st, st = os.zip ml := ⟨_, rfl⟩
  have hstl : st.length = n := by rw [hst, List.length_zip, hosl, hmll]; omega
  have hst1 : st.map (·.1) = os := by rw [hst]; exact List.map_fst_zip (by omega)
  have hgood : RowGood st := by
    refine ⟨by omega, by omega, by rw [hst1, hstl]; exact hperm2, ?_⟩
    match os, ml, hosl, hmll, hst, hml with
    | [], _, h, _, _, _ => simp at h; omega
    | _ :: _, [], _, h, _, _ => simp at h; omega
    | o0 :: os', m0 :: ml', _, _, hst, hml =>
      have : m0 = false := by
        match n, hml with
        | 0, hml => simp at hml
        | k + 1, hml => rw [List.take_succ_cons] at hml; exact (List.cons.inj hml).1
      rw [this] at hst
      exact ⟨o0, os'.zip ml', by rw [hst]; rfl⟩
  have hrow : RowAt K H31 rw0 st := ⟨rsz, SqL.of hrw, Paired.of_at (by omega) fun i r x hr hx => by
    rw [hst, List.getElem?_zip_eq_some] at hx
    exact hrit i r _ _ hr (by rw [List.getElem?_map, hx.1]; rfl) (by rw [List.getElem?_map, hx.2]; rfl)⟩
  have tb31 := (tb22.same j05).same s31
  refine ⟨_, rfl, rw0, st, rfl, hrow, hgood, fun H32 p32 ts32 s32 n32 srt32 => ?_⟩
  refine ⟨_, rfl, rw0, st, rfl, hrow.same s32, by omega, fun H33 p33 ts33 s33 n33 srt33 => ?_⟩
  have e33 : ts33 = ts32 := srt33.eq srt32 (List.Perm.refl _)
  subst e33
  refine ⟨_, _, dp_ties ((n32.at (K := K)).same s33), dp_ties n33.at, sh_ties _, sh_ties _, _, rfl, ?_⟩
  rw [eqv_ties, decide_eq_true rfl]
  refine iteF ?_
  refine ⟨_, rfl, _, rfl, rw0, st, rfl, (hrow.same s32).same s33, by omega, fun H34 p34 ts34 s34 n34 srt34 => ?_⟩
  obtain ⟨okR, _⟩ := row_web hgood srt34.perm
  rw [hstl] at okR
  have tb34 := ((tb31.same s32).same s33).same s34
  refine ⟨n, p34, ts34, rfl, n34.at, okR, tb34, fun H35 sm35 tb35 => ⟨_, rfl, iteF ?_⟩⟩
  -- the last row
  refine ⟨(by show 2 ≤ sizeLine; decide), fun q1 hq1 => ⟨(by show 1 ≤ sizeLine; decide), fun q2 hq2 => ?_⟩⟩
  have m1 := same_new' hq1 (.tup [.int 0, .bl false])
  have m2 := same_new' hq2 (.lst [.ref q1])
  have g1' : RowGood [((0 : Int), false)] := ⟨by decide, by decide, by decide, _, _, rfl⟩
  refine ⟨q2, [((0 : Int), false)], rfl, ⟨[q1], SqL.of upd_same, .cons (m2 _ _ upd_same) .nil⟩, g1', fun H36 p36 ts36 s36 n36 srt36 => ?_⟩
  have e36 : ts36 = [] := List.perm_nil.mp srt36.perm
  subst e36
  refine ⟨(by show 0 ≤ sizeLine; decide), fun q3 hq3 => ?_⟩
  have m3 := same_new' hq3 (.lst [])
  refine ⟨_, _, dp_ties (K := K) (ts := []) ((n36.at (K := K)).same m3), dp_ties (K := K) (ts := []) ⟨[], SqL.of upd_same, .nil⟩, sh_ties _, sh_ties _, _, rfl, ?_⟩
  rw [eqv_ties, decide_eq_true rfl]
  refine iteT ?_
  have tb37 := ((tb35.same m1).same m2).same (s36.trans m3)
  refine ⟨(by show 3 ≤ sizeLine; decide), fun q4 hq4 => ?_⟩
  have m4 := same_new' hq4 (.lst [.int 1, .int 2, .int 1])
  have ok3 : WebOk (3 : Nat) [((0 : Int), (1 : Int)), (1, 2)] := ⟨by decide, by decide, by decide, by decide, by decide⟩
  have ed3 : degs 3 [((0 : Int), (1 : Int)), (1, 2)] = [1, 2, 1] := by decide
  refine ⟨q4, [1, 2, 1], rfl, SqL.of upd_same, by decide, by decide, by decide, tb37.same m4, fun res hI => ?_⟩
  have hI' : IsRow (fun k => (degs 3 [((0 : Int), (1 : Int)), (1, 2)]).getD k 0) 3 res := by rw [ed3]; exact hI
  obtain ⟨out, eo, R3⟩ : ∃ out, res = some out ∧ RowOk 3 [((0 : Int), (1 : Int)), (1, 2)] out.reverse := by
    rcases isRow_tip ok3 hI' with ⟨_, h⟩ | ⟨hn, _⟩
    · exact h
    · exact absurd tip3 hn
  subst eo
  have gd3 : RowGood out.reverse := (isRow_good (by decide) (by decide) hI').1
  have pt3 := row_ties ok3 R3 gd3
  refine ⟨fun out2 e2 H38 p38 ts38 sm38 tb38 n38 srt38 => ?_, fun e2 => by cases e2⟩
  cases e2
  rw [List.length_reverse] at pt3
  have e38 : ts38 = [(0, 1), (1, 2)] := srt38.eq (ts' := [(0, 1), (1, 2)]) (l' := [(0, 1), (1, 2)]) ⟨List.Perm.refl _, by show List.Pairwise (fun t u : Int × Int => t.1 < u.1 ∨ (t.1 = u.1 ∧ t.2 ≤ u.2)) _; decide⟩ pt3.symm
  subst e38
  refine ⟨(by show 2 ≤ sizeLine; decide), fun q5 hq5 => ⟨(by show 2 ≤ sizeLine; decide), fun q6 hq6 => ⟨(by show 2 ≤ sizeLine; decide), fun q7 hq7 => ?_⟩⟩⟩
  have t1 := same_new' hq5 (.tup [.int 0, .int 1])
  have t2' := same_new' hq6 (.tup [.int 1, .int 2])
  have t3' := same_new' hq7 (.lst [.ref q5, .ref q6])
  have t13 := t1.trans (t2'.trans t3')
  refine ⟨_, _, dp_ties (K := K) (ts := [(0, 1), (1, 2)]) ((n38.at (K := K)).same t13), dp_ties (K := K) (ts := [(0, 1), (1, 2)]) ⟨[q5, q6], SqL.of upd_same, .cons (t3' _ _ (t2' _ _ upd_same)) (.cons (t3' _ _ upd_same) .nil)⟩, sh_ties _, sh_ties _, _, rfl, ?_⟩
  rw [eqv_ties, decide_eq_true rfl]
  refine iteT ?_
  refine ⟨(by show 0 ≤ sizeLine; decide), fun q8 hq8 => ?_⟩
  obtain ⟨ok1, R1⟩ := row_web (ts := []) g1' (List.Perm.of_eq (by decide))
  refine ⟨1, q8, [], rfl, ⟨[], SqL.of upd_same, .nil⟩, ok1, (tb38.same t13).same (same_new' hq8 _), fun res1 hI1 => ⟨fun out1 e1 hT1 R1' H39 p39 sm39 tb39 nr39 => ?_, fun _ hn => absurd (row_tip ok1 R1) hn⟩⟩
  subst e1
  have er1 : out1.reverse = [((0 : Int), false)] := by
    obtain ⟨p0, r0, e0⟩ := isRow_fst (by decide) hI1
    have hp := R1'.perm
    rw [e0] at hp ⊢
    have hl1 := hp.length_eq
    rw [natI_len, List.length_map, List.length_cons] at hl1
    have er0 : r0 = [] := List.length_eq_zero_iff.mp (by omega)
    subst er0
    have : (p0 : Int) ∈ natI 1 := hp.mem_iff.mp (by simp)
    have := mem_natI.mp this
    have : p0 = 0 := by omega
    rw [this]
  rw [er1] at nr39
  refine ⟨(by show 2 ≤ sizeLine; decide), fun q9 hq9 => ⟨(by show 1 ≤ sizeLine; decide), fun q10 hq10 => ?_⟩⟩
  have v1 := same_new' hq9 (.tup [.int 0, .bl false])
  have v2 := same_new' hq10 (.lst [.ref q9])
  refine ⟨_, _, dp_row (K := K) (st := [((0 : Int), false)]) ((nr39.at (K := K)).same (v1.trans v2)), dp_row (K := K) (st := [((0 : Int), false)]) ⟨[q9], SqL.of upd_same, .cons (v2 _ _ upd_same) .nil⟩, sh_row _, sh_row _, ?_⟩
  rw [eqv_row]
  exact q _
end
end Tip
set_option Elab.async false
set_option linter.all false
set_option maxRecDepth 100000
set_option maxHeartbeats 4000000
namespace Tip
open PySem PySem.Spec PyProof.Rows L2
section
variable {P : Program} {w : World} {K : PySem.W.Frag} {mg : Str → Option Value} {base : Heap} {er : ErA}
structure Has (K : PySem.W.Frag) (mg : Str → Option Value) (c_row_by_counts : Addr) : Prop where
  h_is_number : HasDef K mg "is_number" s_is_number ["value"]
  h_is_count_of_places : HasDef K mg "is_count_of_places" s_is_count_of_places ["value"]
  h_is_place : HasDef K mg "is_place" s_is_place ["value", "places"]
  h_is_tie : HasDef K mg "is_tie" s_is_tie ["value", "places"]
  h_check_places : HasDef K mg "check_places" s_check_places ["places"]
  h_check_ties : HasDef K mg "check_ties" s_check_ties ["places", "ties"]
  h_check_web : HasDef K mg "check_web" s_check_web ["places", "ties"]
  h_counts_of : HasDef K mg "counts_of" s_counts_of ["places", "ties"]
  h_row_of : HasDef K mg "row_of" s_row_of ["places", "ties"]
  h_by_row : HasDef K mg "by_row" s_by_row ["row"]
  h_is_row : HasDef K mg "is_row" s_is_row ["value"]
  h_is_step : HasDef K mg "is_step" s_is_step ["value", "places"]
  h_are_counts : HasDef K mg "are_counts" s_are_counts ["value"]
  h_by_counts : HasDef K mg "by_counts" s_by_counts ["counts"]
  h__law_number : HasDef K mg "_law_number" s_law_number ["_law_cell", "_law_at", "_law_whole_here"]
  h__law_web : HasDef K mg "_law_web" s_law_web ["_law_script"]
  h__law_near : HasDef K mg "_law_near" s_law_near ["_law_places", "_law_ties_here"]
  h__law_is_tip : HasDef K mg "_law_is_tip" s_law_is_tip ["_law_places", "_law_ties_here"]
  h__law_whole : HasDef K mg "_law_whole" s_law_whole ["_law_found"]
  h__law_refused : HasDef K mg "_law_refused" s_law_refused ["_law_ask", "_law_one", "_law_other"]
  h__law_ties : HasDef K mg "_law_ties" s_law_ties ["_law_row"]
  h__law_is_row : HasDef K mg "_law_is_row" s_law_is_row ["_law_found", "_law_places"]
  h__law_counts : HasDef K mg "_law_counts" s_law_counts ["_law_places", "_law_ties_here"]
  h__law_by_counts : HasDef K mg "_law_by_counts" s_law_by_counts ["_law_counts_here"]
  h__law_with_counts : HasDef K mg "_law_with_counts" s_law_with_counts ["_law_one", "_law_other"]
  h__law_counts_right : HasDef K mg "_law_counts_right" s_law_counts_right ["_law_counts_here"]
  h__law_right : HasDef K mg "_law_right" s_law_right2 ["_law_places", "_law_ties_here"]
  h_row_by_counts : HasDefL K mg "row_by_counts" s_row_by_counts ["counts"] c_row_by_counts
theorem law_all {TR TF c_row_by_counts f : Addr} {fd : FuncData} (T : Blt mg) (ER : Errs K mg er) (h : Has K mg c_row_by_counts) (hR : PySem.W.CodeHd base c_row_by_counts TR) (hbm : BmOk mg base) (F : Fun K "law" "law" s_law f fd) : FnOk P w K mg base CX0 12 f fd ["_law_script"] (sp_lawB K TR TF) := by
  have d1 := df_is_number (P := P) (w := w) (base := base) T h.h_is_number
  have d2 := df_is_count_of_places T ⟨d1⟩ h.h_is_count_of_places
  have d3 := df_is_place T ⟨d1⟩ h.h_is_place
  have d4 := df_is_tie T ⟨d1, d2, d3⟩ h.h_is_tie
  have d5 := df_check_places T ⟨d1, d2, d3⟩ h.h_check_places
  have d6 := df_check_ties T ⟨d4⟩ h.h_check_ties
  have d7 := df_check_web T ⟨d5, d6⟩ h.h_check_web
  have d9 := df_counts_of (P := P) (w := w) (base := base) T h.h_counts_of
  have d17 := dx_row_by_counts (P := P) (w := w) (TF := TF) T ER.x_nt h.h_row_by_counts hR hbm
  have d18 := dx_row_of T ⟨d7, d9, d17⟩ h.h_row_of
  have d19 := df_is_step T ⟨d1, d2, d3⟩ h.h_is_step
  have d20 := df_is_row T ⟨d2, d19⟩ h.h_is_row
  have d21 := df_by_row T ⟨d20⟩ h.h_by_row
  have d22 := df_are_counts T ⟨d1, d2⟩ h.h_are_counts
  have d23 := dx_by_counts T ⟨d22, d21, d17⟩ h.h_by_counts
  have e1 := df_law_number (P := P) (w := w) (base := base) T h.h__law_number
  have e2 := df_law_whole (P := P) (w := w) (base := base) T h.h__law_whole
  have e4 := df_law_near (P := P) (w := w) (base := base) T h.h__law_near
  have e5 := df_law_is_tip T ⟨e4⟩ h.h__law_is_tip
  have e6 := df_law_refused (P := P) (w := w) (base := base) T ER h.h__law_refused
  have e7 := df_law_ties (P := P) (w := w) (base := base) T h.h__law_ties
  have e8 := df_law_is_row T ⟨e2⟩ h.h__law_is_row
  have e9 := df_law_counts T ⟨e4⟩ h.h__law_counts
  have e10 := df_law_by_counts (P := P) (w := w) (base := base) T h.h__law_by_counts
  have e11 := dx_with_counts T ⟨d23⟩ h.h__law_with_counts
  have e12 := df_law_counts_right T ⟨e10, e6, d23.calm, e11, e9⟩ h.h__law_counts_right
  have e13 := df_law_right2 T ⟨e5, e6, d18.calm, d18, e8, e7, d21, d23.calm, e9⟩ h.h__law_right
  have e14 := df_law_web T ⟨e1⟩ h.h__law_web
  exact law_ok2 T ⟨e14, e13, e9, e12, e7, d21, d23.calm, d18.calm⟩ F
theorem b_is_number : ∀ (kV doc pm : Value) (an : Option Addr) (cdv ct : Value) (us : List Value), us.length = (["value"] : List Str).length → bindArgs (PySem.W.fnOf "is_number" "is_number" (defArgs s_is_number) (defBody s_is_number) (defScope s_is_number) .none kV doc pm an cdv ct) ⟨us, []⟩ = pure ((["value"] : List Str).zip us) := fun _ _ _ _ _ _ us hl => match us, hl with | [_], _ => rfl
theorem b_is_count_of_places : ∀ (kV doc pm : Value) (an : Option Addr) (cdv ct : Value) (us : List Value), us.length = (["value"] : List Str).length → bindArgs (PySem.W.fnOf "is_count_of_places" "is_count_of_places" (defArgs s_is_count_of_places) (defBody s_is_count_of_places) (defScope s_is_count_of_places) .none kV doc pm an cdv ct) ⟨us, []⟩ = pure ((["value"] : List Str).zip us) := fun _ _ _ _ _ _ us hl => match us, hl with | [_], _ => rfl
theorem b_is_place : ∀ (kV doc pm : Value) (an : Option Addr) (cdv ct : Value) (us : List Value), us.length = (["value", "places"] : List Str).length → bindArgs (PySem.W.fnOf "is_place" "is_place" (defArgs s_is_place) (defBody s_is_place) (defScope s_is_place) .none kV doc pm an cdv ct) ⟨us, []⟩ = pure ((["value", "places"] : List Str).zip us) := fun _ _ _ _ _ _ us hl => match us, hl with | [_, _], _ => rfl
theorem b_is_tie : ∀ (kV doc pm : Value) (an : Option Addr) (cdv ct : Value) (us : List Value), us.length = (["value", "places"] : List Str).length → bindArgs (PySem.W.fnOf "is_tie" "is_tie" (defArgs s_is_tie) (defBody s_is_tie) (defScope s_is_tie) .none kV doc pm an cdv ct) ⟨us, []⟩ = pure ((["value", "places"] : List Str).zip us) := fun _ _ _ _ _ _ us hl => match us, hl with | [_, _], _ => rfl
theorem b_check_places : ∀ (kV doc pm : Value) (an : Option Addr) (cdv ct : Value) (us : List Value), us.length = (["places"] : List Str).length → bindArgs (PySem.W.fnOf "check_places" "check_places" (defArgs s_check_places) (defBody s_check_places) (defScope s_check_places) .none kV doc pm an cdv ct) ⟨us, []⟩ = pure ((["places"] : List Str).zip us) := fun _ _ _ _ _ _ us hl => match us, hl with | [_], _ => rfl
theorem b_check_ties : ∀ (kV doc pm : Value) (an : Option Addr) (cdv ct : Value) (us : List Value), us.length = (["places", "ties"] : List Str).length → bindArgs (PySem.W.fnOf "check_ties" "check_ties" (defArgs s_check_ties) (defBody s_check_ties) (defScope s_check_ties) .none kV doc pm an cdv ct) ⟨us, []⟩ = pure ((["places", "ties"] : List Str).zip us) := fun _ _ _ _ _ _ us hl => match us, hl with | [_, _], _ => rfl
theorem b_check_web : ∀ (kV doc pm : Value) (an : Option Addr) (cdv ct : Value) (us : List Value), us.length = (["places", "ties"] : List Str).length → bindArgs (PySem.W.fnOf "check_web" "check_web" (defArgs s_check_web) (defBody s_check_web) (defScope s_check_web) .none kV doc pm an cdv ct) ⟨us, []⟩ = pure ((["places", "ties"] : List Str).zip us) := fun _ _ _ _ _ _ us hl => match us, hl with | [_, _], _ => rfl
theorem b_counts_of : ∀ (kV doc pm : Value) (an : Option Addr) (cdv ct : Value) (us : List Value), us.length = (["places", "ties"] : List Str).length → bindArgs (PySem.W.fnOf "counts_of" "counts_of" (defArgs s_counts_of) (defBody s_counts_of) (defScope s_counts_of) .none kV doc pm an cdv ct) ⟨us, []⟩ = pure ((["places", "ties"] : List Str).zip us) := fun _ _ _ _ _ _ us hl => match us, hl with | [_, _], _ => rfl
theorem b_row_of : ∀ (kV doc pm : Value) (an : Option Addr) (cdv ct : Value) (us : List Value), us.length = (["places", "ties"] : List Str).length → bindArgs (PySem.W.fnOf "row_of" "row_of" (defArgs s_row_of) (defBody s_row_of) (defScope s_row_of) .none kV doc pm an cdv ct) ⟨us, []⟩ = pure ((["places", "ties"] : List Str).zip us) := fun _ _ _ _ _ _ us hl => match us, hl with | [_, _], _ => rfl
theorem b_by_row : ∀ (kV doc pm : Value) (an : Option Addr) (cdv ct : Value) (us : List Value), us.length = (["row"] : List Str).length → bindArgs (PySem.W.fnOf "by_row" "by_row" (defArgs s_by_row) (defBody s_by_row) (defScope s_by_row) .none kV doc pm an cdv ct) ⟨us, []⟩ = pure ((["row"] : List Str).zip us) := fun _ _ _ _ _ _ us hl => match us, hl with | [_], _ => rfl
theorem b_is_row : ∀ (kV doc pm : Value) (an : Option Addr) (cdv ct : Value) (us : List Value), us.length = (["value"] : List Str).length → bindArgs (PySem.W.fnOf "is_row" "is_row" (defArgs s_is_row) (defBody s_is_row) (defScope s_is_row) .none kV doc pm an cdv ct) ⟨us, []⟩ = pure ((["value"] : List Str).zip us) := fun _ _ _ _ _ _ us hl => match us, hl with | [_], _ => rfl
theorem b_is_step : ∀ (kV doc pm : Value) (an : Option Addr) (cdv ct : Value) (us : List Value), us.length = (["value", "places"] : List Str).length → bindArgs (PySem.W.fnOf "is_step" "is_step" (defArgs s_is_step) (defBody s_is_step) (defScope s_is_step) .none kV doc pm an cdv ct) ⟨us, []⟩ = pure ((["value", "places"] : List Str).zip us) := fun _ _ _ _ _ _ us hl => match us, hl with | [_, _], _ => rfl
theorem b_are_counts : ∀ (kV doc pm : Value) (an : Option Addr) (cdv ct : Value) (us : List Value), us.length = (["value"] : List Str).length → bindArgs (PySem.W.fnOf "are_counts" "are_counts" (defArgs s_are_counts) (defBody s_are_counts) (defScope s_are_counts) .none kV doc pm an cdv ct) ⟨us, []⟩ = pure ((["value"] : List Str).zip us) := fun _ _ _ _ _ _ us hl => match us, hl with | [_], _ => rfl
theorem b_by_counts : ∀ (kV doc pm : Value) (an : Option Addr) (cdv ct : Value) (us : List Value), us.length = (["counts"] : List Str).length → bindArgs (PySem.W.fnOf "by_counts" "by_counts" (defArgs s_by_counts) (defBody s_by_counts) (defScope s_by_counts) .none kV doc pm an cdv ct) ⟨us, []⟩ = pure ((["counts"] : List Str).zip us) := fun _ _ _ _ _ _ us hl => match us, hl with | [_], _ => rfl
theorem b__law_number : ∀ (kV doc pm : Value) (an : Option Addr) (cdv ct : Value) (us : List Value), us.length = (["_law_cell", "_law_at", "_law_whole_here"] : List Str).length → bindArgs (PySem.W.fnOf "_law_number" "_law_number" (defArgs s_law_number) (defBody s_law_number) (defScope s_law_number) .none kV doc pm an cdv ct) ⟨us, []⟩ = pure ((["_law_cell", "_law_at", "_law_whole_here"] : List Str).zip us) := fun _ _ _ _ _ _ us hl => match us, hl with | [_, _, _], _ => rfl
theorem b__law_web : ∀ (kV doc pm : Value) (an : Option Addr) (cdv ct : Value) (us : List Value), us.length = (["_law_script"] : List Str).length → bindArgs (PySem.W.fnOf "_law_web" "_law_web" (defArgs s_law_web) (defBody s_law_web) (defScope s_law_web) .none kV doc pm an cdv ct) ⟨us, []⟩ = pure ((["_law_script"] : List Str).zip us) := fun _ _ _ _ _ _ us hl => match us, hl with | [_], _ => rfl
theorem b__law_near : ∀ (kV doc pm : Value) (an : Option Addr) (cdv ct : Value) (us : List Value), us.length = (["_law_places", "_law_ties_here"] : List Str).length → bindArgs (PySem.W.fnOf "_law_near" "_law_near" (defArgs s_law_near) (defBody s_law_near) (defScope s_law_near) .none kV doc pm an cdv ct) ⟨us, []⟩ = pure ((["_law_places", "_law_ties_here"] : List Str).zip us) := fun _ _ _ _ _ _ us hl => match us, hl with | [_, _], _ => rfl
theorem b__law_is_tip : ∀ (kV doc pm : Value) (an : Option Addr) (cdv ct : Value) (us : List Value), us.length = (["_law_places", "_law_ties_here"] : List Str).length → bindArgs (PySem.W.fnOf "_law_is_tip" "_law_is_tip" (defArgs s_law_is_tip) (defBody s_law_is_tip) (defScope s_law_is_tip) .none kV doc pm an cdv ct) ⟨us, []⟩ = pure ((["_law_places", "_law_ties_here"] : List Str).zip us) := fun _ _ _ _ _ _ us hl => match us, hl with | [_, _], _ => rfl
theorem b__law_whole : ∀ (kV doc pm : Value) (an : Option Addr) (cdv ct : Value) (us : List Value), us.length = (["_law_found"] : List Str).length → bindArgs (PySem.W.fnOf "_law_whole" "_law_whole" (defArgs s_law_whole) (defBody s_law_whole) (defScope s_law_whole) .none kV doc pm an cdv ct) ⟨us, []⟩ = pure ((["_law_found"] : List Str).zip us) := fun _ _ _ _ _ _ us hl => match us, hl with | [_], _ => rfl
theorem b__law_refused : ∀ (kV doc pm : Value) (an : Option Addr) (cdv ct : Value) (us : List Value), us.length = (["_law_ask", "_law_one", "_law_other"] : List Str).length → bindArgs (PySem.W.fnOf "_law_refused" "_law_refused" (defArgs s_law_refused) (defBody s_law_refused) (defScope s_law_refused) .none kV doc pm an cdv ct) ⟨us, []⟩ = pure ((["_law_ask", "_law_one", "_law_other"] : List Str).zip us) := fun _ _ _ _ _ _ us hl => match us, hl with | [_, _, _], _ => rfl
theorem b__law_ties : ∀ (kV doc pm : Value) (an : Option Addr) (cdv ct : Value) (us : List Value), us.length = (["_law_row"] : List Str).length → bindArgs (PySem.W.fnOf "_law_ties" "_law_ties" (defArgs s_law_ties) (defBody s_law_ties) (defScope s_law_ties) .none kV doc pm an cdv ct) ⟨us, []⟩ = pure ((["_law_row"] : List Str).zip us) := fun _ _ _ _ _ _ us hl => match us, hl with | [_], _ => rfl
theorem b__law_is_row : ∀ (kV doc pm : Value) (an : Option Addr) (cdv ct : Value) (us : List Value), us.length = (["_law_found", "_law_places"] : List Str).length → bindArgs (PySem.W.fnOf "_law_is_row" "_law_is_row" (defArgs s_law_is_row) (defBody s_law_is_row) (defScope s_law_is_row) .none kV doc pm an cdv ct) ⟨us, []⟩ = pure ((["_law_found", "_law_places"] : List Str).zip us) := fun _ _ _ _ _ _ us hl => match us, hl with | [_, _], _ => rfl
theorem b__law_counts : ∀ (kV doc pm : Value) (an : Option Addr) (cdv ct : Value) (us : List Value), us.length = (["_law_places", "_law_ties_here"] : List Str).length → bindArgs (PySem.W.fnOf "_law_counts" "_law_counts" (defArgs s_law_counts) (defBody s_law_counts) (defScope s_law_counts) .none kV doc pm an cdv ct) ⟨us, []⟩ = pure ((["_law_places", "_law_ties_here"] : List Str).zip us) := fun _ _ _ _ _ _ us hl => match us, hl with | [_, _], _ => rfl
theorem b__law_by_counts : ∀ (kV doc pm : Value) (an : Option Addr) (cdv ct : Value) (us : List Value), us.length = (["_law_counts_here"] : List Str).length → bindArgs (PySem.W.fnOf "_law_by_counts" "_law_by_counts" (defArgs s_law_by_counts) (defBody s_law_by_counts) (defScope s_law_by_counts) .none kV doc pm an cdv ct) ⟨us, []⟩ = pure ((["_law_counts_here"] : List Str).zip us) := fun _ _ _ _ _ _ us hl => match us, hl with | [_], _ => rfl
theorem b__law_with_counts : ∀ (kV doc pm : Value) (an : Option Addr) (cdv ct : Value) (us : List Value), us.length = (["_law_one", "_law_other"] : List Str).length → bindArgs (PySem.W.fnOf "_law_with_counts" "_law_with_counts" (defArgs s_law_with_counts) (defBody s_law_with_counts) (defScope s_law_with_counts) .none kV doc pm an cdv ct) ⟨us, []⟩ = pure ((["_law_one", "_law_other"] : List Str).zip us) := fun _ _ _ _ _ _ us hl => match us, hl with | [_, _], _ => rfl
theorem b__law_counts_right : ∀ (kV doc pm : Value) (an : Option Addr) (cdv ct : Value) (us : List Value), us.length = (["_law_counts_here"] : List Str).length → bindArgs (PySem.W.fnOf "_law_counts_right" "_law_counts_right" (defArgs s_law_counts_right) (defBody s_law_counts_right) (defScope s_law_counts_right) .none kV doc pm an cdv ct) ⟨us, []⟩ = pure ((["_law_counts_here"] : List Str).zip us) := fun _ _ _ _ _ _ us hl => match us, hl with | [_], _ => rfl
theorem b__law_right : ∀ (kV doc pm : Value) (an : Option Addr) (cdv ct : Value) (us : List Value), us.length = (["_law_places", "_law_ties_here"] : List Str).length → bindArgs (PySem.W.fnOf "_law_right" "_law_right" (defArgs s_law_right2) (defBody s_law_right2) (defScope s_law_right2) .none kV doc pm an cdv ct) ⟨us, []⟩ = pure ((["_law_places", "_law_ties_here"] : List Str).zip us) := fun _ _ _ _ _ _ us hl => match us, hl with | [_, _], _ => rfl
theorem b_row_by_counts : ∀ (kV doc pm : Value) (an : Option Addr) (cdv ct : Value) (us : List Value), us.length = (["counts"] : List Str).length → bindArgs (PySem.W.fnOf "row_by_counts" "row_by_counts" (defArgs s_row_by_counts) (defBody s_row_by_counts) (defScope s_row_by_counts) .none kV doc pm an cdv ct) ⟨us, []⟩ = pure ((["counts"] : List Str).zip us) := fun _ _ _ _ _ _ us hl => match us, hl with | [_], _ => rfl
end
end Tip
set_option Elab.async false
open PySem PySem.W PyProof.Rows
set_option maxRecDepth 100000 in
set_option maxHeartbeats 0 in
theorem PySem.Challenge.cw_tipwebs_k02_whole_rows_holds : PySem.Challenge.rw_tipwebs_k02_whole_rows.Holds := by
  w_on; o_law; k_head; (case hw => w_witness2)
  k_fill
  refine L2.walk_T (l := PySem.Challenge.rw_tipwebs_k02_whole_rows) (n := 63) (k := 12) (x := "_law_script") rfl (by decide) rfl ⟨rfl, by decide, by decide⟩ (fun w h Y => km_in_of Y) (fun w => by kernel_rfl) ?F
  intro w mg mb s₀ fa h KX G Y hmg
  have hns := G.T.g
  have h_is_number : Tip.HasDef (L2.KOf KX) mg "is_number" Tip.s_is_number ["value"] := by
    dsimp only [L2.KOf]
    refine' Tip.mk_def KX hns Tip.b_is_number ?a ?l ?c ?k
    (case a => k_is); (case l => k_is); (case c => k_is); (case k => k_is)
  have h_is_count_of_places : Tip.HasDef (L2.KOf KX) mg "is_count_of_places" Tip.s_is_count_of_places ["value"] := by
    dsimp only [L2.KOf]
    refine' Tip.mk_def KX hns Tip.b_is_count_of_places ?a ?l ?c ?k
    (case a => k_is); (case l => k_is); (case c => k_is); (case k => k_is)
  have h_is_place : Tip.HasDef (L2.KOf KX) mg "is_place" Tip.s_is_place ["value", "places"] := by
    dsimp only [L2.KOf]
    refine' Tip.mk_def KX hns Tip.b_is_place ?a ?l ?c ?k
    (case a => k_is); (case l => k_is); (case c => k_is); (case k => k_is)
  have h_is_tie : Tip.HasDef (L2.KOf KX) mg "is_tie" Tip.s_is_tie ["value", "places"] := by
    dsimp only [L2.KOf]
    refine' Tip.mk_def KX hns Tip.b_is_tie ?a ?l ?c ?k
    (case a => k_is); (case l => k_is); (case c => k_is); (case k => k_is)
  have h_check_places : Tip.HasDef (L2.KOf KX) mg "check_places" Tip.s_check_places ["places"] := by
    dsimp only [L2.KOf]
    refine' Tip.mk_def KX hns Tip.b_check_places ?a ?l ?c ?k
    (case a => k_is); (case l => k_is); (case c => k_is); (case k => k_is)
  have h_check_ties : Tip.HasDef (L2.KOf KX) mg "check_ties" Tip.s_check_ties ["places", "ties"] := by
    dsimp only [L2.KOf]
    refine' Tip.mk_def KX hns Tip.b_check_ties ?a ?l ?c ?k
    (case a => k_is); (case l => k_is); (case c => k_is); (case k => k_is)
  have h_check_web : Tip.HasDef (L2.KOf KX) mg "check_web" Tip.s_check_web ["places", "ties"] := by
    dsimp only [L2.KOf]
    refine' Tip.mk_def KX hns Tip.b_check_web ?a ?l ?c ?k
    (case a => k_is); (case l => k_is); (case c => k_is); (case k => k_is)
  have h_counts_of : Tip.HasDef (L2.KOf KX) mg "counts_of" Tip.s_counts_of ["places", "ties"] := by
    dsimp only [L2.KOf]
    refine' Tip.mk_def KX hns Tip.b_counts_of ?a ?l ?c ?k
    (case a => k_is); (case l => k_is); (case c => k_is); (case k => k_is)
  have h_row_of : Tip.HasDef (L2.KOf KX) mg "row_of" Tip.s_row_of ["places", "ties"] := by
    dsimp only [L2.KOf]
    refine' Tip.mk_def KX hns Tip.b_row_of ?a ?l ?c ?k
    (case a => k_is); (case l => k_is); (case c => k_is); (case k => k_is)
  have h_by_row : Tip.HasDef (L2.KOf KX) mg "by_row" Tip.s_by_row ["row"] := by
    dsimp only [L2.KOf]
    refine' Tip.mk_def KX hns Tip.b_by_row ?a ?l ?c ?k
    (case a => k_is); (case l => k_is); (case c => k_is); (case k => k_is)
  have h_is_row : Tip.HasDef (L2.KOf KX) mg "is_row" Tip.s_is_row ["value"] := by
    dsimp only [L2.KOf]
    refine' Tip.mk_def KX hns Tip.b_is_row ?a ?l ?c ?k
    (case a => k_is); (case l => k_is); (case c => k_is); (case k => k_is)
  have h_is_step : Tip.HasDef (L2.KOf KX) mg "is_step" Tip.s_is_step ["value", "places"] := by
    dsimp only [L2.KOf]
    refine' Tip.mk_def KX hns Tip.b_is_step ?a ?l ?c ?k
    (case a => k_is); (case l => k_is); (case c => k_is); (case k => k_is)
  have h_are_counts : Tip.HasDef (L2.KOf KX) mg "are_counts" Tip.s_are_counts ["value"] := by
    dsimp only [L2.KOf]
    refine' Tip.mk_def KX hns Tip.b_are_counts ?a ?l ?c ?k
    (case a => k_is); (case l => k_is); (case c => k_is); (case k => k_is)
  have h_by_counts : Tip.HasDef (L2.KOf KX) mg "by_counts" Tip.s_by_counts ["counts"] := by
    dsimp only [L2.KOf]
    refine' Tip.mk_def KX hns Tip.b_by_counts ?a ?l ?c ?k
    (case a => k_is); (case l => k_is); (case c => k_is); (case k => k_is)
  have h__law_number : Tip.HasDef (L2.KOf KX) mg "_law_number" Tip.s_law_number ["_law_cell", "_law_at", "_law_whole_here"] := by
    dsimp only [L2.KOf]
    refine' Tip.mk_def KX hns Tip.b__law_number ?a ?l ?c ?k
    (case a => k_is); (case l => k_is); (case c => k_is); (case k => k_is)
  have h__law_web : Tip.HasDef (L2.KOf KX) mg "_law_web" Tip.s_law_web ["_law_script"] := by
    dsimp only [L2.KOf]
    refine' Tip.mk_def KX hns Tip.b__law_web ?a ?l ?c ?k
    (case a => k_is); (case l => k_is); (case c => k_is); (case k => k_is)
  have h__law_near : Tip.HasDef (L2.KOf KX) mg "_law_near" Tip.s_law_near ["_law_places", "_law_ties_here"] := by
    dsimp only [L2.KOf]
    refine' Tip.mk_def KX hns Tip.b__law_near ?a ?l ?c ?k
    (case a => k_is); (case l => k_is); (case c => k_is); (case k => k_is)
  have h__law_is_tip : Tip.HasDef (L2.KOf KX) mg "_law_is_tip" Tip.s_law_is_tip ["_law_places", "_law_ties_here"] := by
    dsimp only [L2.KOf]
    refine' Tip.mk_def KX hns Tip.b__law_is_tip ?a ?l ?c ?k
    (case a => k_is); (case l => k_is); (case c => k_is); (case k => k_is)
  have h__law_whole : Tip.HasDef (L2.KOf KX) mg "_law_whole" Tip.s_law_whole ["_law_found"] := by
    dsimp only [L2.KOf]
    refine' Tip.mk_def KX hns Tip.b__law_whole ?a ?l ?c ?k
    (case a => k_is); (case l => k_is); (case c => k_is); (case k => k_is)
  have h__law_refused : Tip.HasDef (L2.KOf KX) mg "_law_refused" Tip.s_law_refused ["_law_ask", "_law_one", "_law_other"] := by
    dsimp only [L2.KOf]
    refine' Tip.mk_def KX hns Tip.b__law_refused ?a ?l ?c ?k
    (case a => k_is); (case l => k_is); (case c => k_is); (case k => k_is)
  have h__law_ties : Tip.HasDef (L2.KOf KX) mg "_law_ties" Tip.s_law_ties ["_law_row"] := by
    dsimp only [L2.KOf]
    refine' Tip.mk_def KX hns Tip.b__law_ties ?a ?l ?c ?k
    (case a => k_is); (case l => k_is); (case c => k_is); (case k => k_is)
  have h__law_is_row : Tip.HasDef (L2.KOf KX) mg "_law_is_row" Tip.s_law_is_row ["_law_found", "_law_places"] := by
    dsimp only [L2.KOf]
    refine' Tip.mk_def KX hns Tip.b__law_is_row ?a ?l ?c ?k
    (case a => k_is); (case l => k_is); (case c => k_is); (case k => k_is)
  have h__law_counts : Tip.HasDef (L2.KOf KX) mg "_law_counts" Tip.s_law_counts ["_law_places", "_law_ties_here"] := by
    dsimp only [L2.KOf]
    refine' Tip.mk_def KX hns Tip.b__law_counts ?a ?l ?c ?k
    (case a => k_is); (case l => k_is); (case c => k_is); (case k => k_is)
  have h__law_by_counts : Tip.HasDef (L2.KOf KX) mg "_law_by_counts" Tip.s_law_by_counts ["_law_counts_here"] := by
    dsimp only [L2.KOf]
    refine' Tip.mk_def KX hns Tip.b__law_by_counts ?a ?l ?c ?k
    (case a => k_is); (case l => k_is); (case c => k_is); (case k => k_is)
  have h__law_with_counts : Tip.HasDef (L2.KOf KX) mg "_law_with_counts" Tip.s_law_with_counts ["_law_one", "_law_other"] := by
    dsimp only [L2.KOf]
    refine' Tip.mk_def KX hns Tip.b__law_with_counts ?a ?l ?c ?k
    (case a => k_is); (case l => k_is); (case c => k_is); (case k => k_is)
  have h__law_counts_right : Tip.HasDef (L2.KOf KX) mg "_law_counts_right" Tip.s_law_counts_right ["_law_counts_here"] := by
    dsimp only [L2.KOf]
    refine' Tip.mk_def KX hns Tip.b__law_counts_right ?a ?l ?c ?k
    (case a => k_is); (case l => k_is); (case c => k_is); (case k => k_is)
  have h__law_right : Tip.HasDef (L2.KOf KX) mg "_law_right" Tip.s_law_right2 ["_law_places", "_law_ties_here"] := by
    dsimp only [L2.KOf]
    refine' Tip.mk_def KX hns Tip.b__law_right ?a ?l ?c ?k
    (case a => k_is); (case l => k_is); (case c => k_is); (case k => k_is)
  obtain ⟨c_row_by_counts, h_row_by_counts, hc_row_by_counts⟩ : ∃ c, Tip.HasDefL (L2.KOf KX) mg "row_by_counts" Tip.s_row_by_counts ["counts"] c ∧ codeHdIn (L2.KOf KX) c 193 = true := by
    dsimp only [L2.KOf]
    refine' ⟨_, Tip.mk_defL KX hns Tip.b_row_by_counts ?a ?l ?c ?k, ?d⟩
    (case a => k_is); (case l => k_is); (case c => k_is); (case k => k_is); (case d => kernel_rfl)
  have z_isinstance : mg "isinstance" = none := by
    refine' mg_none_of KX hns ?z
    (case z => k_is)
  have z_int : mg "int" = none := by
    refine' mg_none_of KX hns ?z
    (case z => k_is)
  have z_bool : mg "bool" = none := by
    refine' mg_none_of KX hns ?z
    (case z => k_is)
  have z_list : mg "list" = none := by
    refine' mg_none_of KX hns ?z
    (case z => k_is)
  have z_tuple : mg "tuple" = none := by
    refine' mg_none_of KX hns ?z
    (case z => k_is)
  have z_len : mg "len" = none := by
    refine' mg_none_of KX hns ?z
    (case z => k_is)
  have z_range : mg "range" = none := by
    refine' mg_none_of KX hns ?z
    (case z => k_is)
  have z_zip : mg "zip" = none := by
    refine' mg_none_of KX hns ?z
    (case z => k_is)
  have z_enumerate : mg "enumerate" = none := by
    refine' mg_none_of KX hns ?z
    (case z => k_is)
  have z_all : mg "all" = none := by
    refine' mg_none_of KX hns ?z
    (case z => k_is)
  have z_any : mg "any" = none := by
    refine' mg_none_of KX hns ?z
    (case z => k_is)
  have z_set : mg "set" = none := by
    refine' mg_none_of KX hns ?z
    (case z => k_is)
  have z_sum : mg "sum" = none := by
    refine' mg_none_of KX hns ?z
    (case z => k_is)
  have z_sorted : mg "sorted" = none := by
    refine' mg_none_of KX hns ?z
    (case z => k_is)
  have z_min : mg "min" = none := by
    refine' mg_none_of KX hns ?z
    (case z => k_is)
  have z_max : mg "max" = none := by
    refine' mg_none_of KX hns ?z
    (case z => k_is)
  have z_abs : mg "abs" = none := by
    refine' mg_none_of KX hns ?z
    (case z => k_is)
  have z_most : ∃ t, mg "MOST_PLACES" = some (.int 40 t) := by
    refine' Tip.most_mk KX hns ?z ?e
    (case z => k_is)
    (case e => exact ⟨_, rfl⟩)
  have T : Tip.Blt mg := ⟨z_isinstance, z_int, z_bool, z_list, z_tuple, z_len, z_range, z_zip, z_enumerate, z_all, z_any, z_set, z_sum, z_sorted, z_min, z_max, z_abs, z_most⟩
  obtain ⟨er, ER⟩ : ∃ er, Tip.Errs (L2.KOf KX) mg er := by
    dsimp only [L2.KOf]
    refine' Tip.errs_mk KX hns ?e0 ?e1 ?e2 ?e3 ?e4 ?e5 ?e6 ?ok
    (case e0 => k_is); (case e1 => k_is); (case e2 => k_is); (case e3 => k_is); (case e4 => k_is); (case e5 => k_is); (case e6 => k_is); (case ok => kernel_rfl)
  have hns1 := km_tabs_of Y
  have hs : Tip.Has (L2.KOf KX) mg c_row_by_counts := ⟨h_is_number, h_is_count_of_places, h_is_place, h_is_tie, h_check_places, h_check_ties, h_check_web, h_counts_of, h_row_of, h_by_row, h_is_row, h_is_step, h_are_counts, h_by_counts, h__law_number, h__law_web, h__law_near, h__law_is_tip, h__law_whole, h__law_refused, h__law_ties, h__law_is_row, h__law_counts, h__law_by_counts, h__law_with_counts, h__law_counts_right, h__law_right, h_row_by_counts⟩
  obtain ⟨f, fd, F, hf, hbd⟩ : ∃ f fd, L2.Fun (L2.KOf KX) "law" "law" Tip.s_law f fd ∧ mg "law" = some (.ref f) ∧ ∀ (s : Shared) (u : Value), BindsTo s fd ⟨[u], []⟩ [("_law_script", u)] := by
    dsimp only [L2.KOf]
    refine' Tip.law_mk KX hns ?a ?l ?c ?k
    (case a => k_is); (case l => k_is); (case c => k_is); (case k => k_is)
  have ef : fa = f := by
    have e0 := hmg.symm.trans hf
    cases e0
    rfl
  subst ef
  refine ⟨[193], fd, Tip.sp_lawB (L2.KOf KX) 193 0, fun T hT => ⟨hns1 T hT, ?code⟩, hbd, fun base kb nb kp => Tip.law_all T ER hs (codeHd_of_K kb hc_row_by_counts) (Tip.bm_of G.T kp) F, fun H a ns h1 h2 h3 h4 => ⟨a, ns, rfl, h3, h1, h2, ⟨.inl (h4 _ (by simp))⟩, fun _ => rfl⟩⟩
  simp only [List.mem_cons, List.not_mem_nil, or_false] at hT
  subst hT
  exact ⟨_, codeHd_of_K KX hc_row_by_counts⟩
