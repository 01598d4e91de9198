import PyProof.Rows.All
import Wide.All
import OpenK.AllK
import Wide.FinOn
import PyProof.EqAt
import PyProof.EqKinds
import PyProof.TupleCall
import KE.BitLaws
import PyProof.IsiPairs
import PyProof.IsiHeapPairs
import PyProof.IsiNone
import PyProof.ListMulRoad
import PyProof.Rows.SeqMore
import PyProof.ReprRoads
import KE.KIntText
import KE.IntTextLaws
import PyProof.Rows.Digits
import PyProof.CallStr
import PyProof.StationsW
import KE.KTryMore
import PyProof.ExcInit
import PyProof.InstStoreFacts
import PyProof.ExcBaseAll.ValueError
import PyProof.ExcBaseAll.ZeroDivisionError
import PyProof.ExcBaseAll.IndexError
import PyProof.ExcBaseAll.LookupError
import PyProof.ExcAttrAll.ValueError
import PyProof.ExcAttrAll.ZeroDivisionError
import PyProof.ExcAttrAll.IndexError
import PyProof.ExcAttrAll.LookupError
import KE.KIsAll
import PyProof.NsDelKeeps
import PyProof.RulesAs
import PyProof.TupleIter
import PyProof.WalksMore
import OpenK.KOwn
import PyProof.Rows.StrOr
import PyProof.StrCalls
import PyProof.ListStr
import PyProof.Rows.SetFrom
import PyProof.FactsAll.set
import PyProof.Rows.SortShellAny
import PyProof.CollectIter
import PyProof.CollectStr
import PyProof.TupleOfSeq
import PyProof.EnumMake
import KE.KItemsList
import KE.KDictList
import KE.KEqDict
import PyProof.Rows.CallKwBuiltin
import PyProof.ListRange
import PyProof.AttrMissHeap
import KE.KDictOf
import KE.KSortTupG
import PySem.Challenge.RW_chancetongue_k22_what_unknowns_may_be
set_option Elab.async false
set_option linter.all false
set_option maxRecDepth 100000
namespace L2
open PySem PySem.Spec PyProof.Rows
/-- a key: an int or a str -/
abbrev Key := Sum Int Str
def keyIs : Key → Value → Bool
  | .inl k, v => Value.isInt k v
  | .inr x, v => Value.isStrOf x v
def keyH (w : World) : Key → Int
  | .inl k => hashInt k
  | .inr x => hashStr w x
theorem keyIs_shape : ∀ {k : Key} {v : Value}, keyIs k v = true → (∃ i t, k = Sum.inl i ∧ v = Value.int i t) ∨ (∃ x t, k = Sum.inr x ∧ v = Value.str x t)
  | .inl i, v, h => by
    obtain ⟨t, e⟩ := Value.isInt_shape (k := i) (v := v) h
    exact .inl ⟨i, t, rfl, e⟩
  | .inr x, v, h => by
    obtain ⟨t, e⟩ := Value.isStrOf_shape (x := x) (v := v) h
    exact .inr ⟨x, t, rfl, e⟩
theorem keyIs_int (i : Int) (t : Tok) : keyIs (.inl i) (.int i t) = true := by simp [keyIs, Value.isInt]
theorem keyIs_str (x : Str) (t : Tok) : keyIs (.inr x) (.str x t) = true := by simp [keyIs, Value.isStrOf]
theorem key_ll (a b : Int) : decide ((Sum.inl a : Key) = Sum.inl b) = (a == b) := by
  by_cases e : a = b
  · subst e; simp
  · have h : ¬ (Sum.inl a : Key) = Sum.inl b := fun q => e (Sum.inl.inj q)
    rw [decide_eq_false h]
    exact (beq_eq_false_iff_ne.mpr e).symm
theorem key_rr (a b : Str) : decide ((Sum.inr a : Key) = Sum.inr b) = decide (a = b) := by
  by_cases e : a = b
  · subst e; simp
  · have h : ¬ (Sum.inr a : Key) = Sum.inr b := fun q => e (Sum.inr.inj q)
    rw [decide_eq_false h, decide_eq_false e]
theorem key_lr (a : Int) (b : Str) : decide ((Sum.inl a : Key) = Sum.inr b) = false := decide_eq_false (fun q => nomatch q)
theorem key_rl (a : Str) (b : Int) : decide ((Sum.inr a : Key) = Sum.inl b) = false := decide_eq_false (fun q => nomatch q)
def mixKind (prog : Program) (w : World) : PySem.KeyKind prog w Key where
  is := keyIs
  hash := keyH w
  inj := fun v a b ha hb => by
    rcases keyIs_shape ha with ⟨i, t, rfl, rfl⟩ | ⟨x, t, rfl, rfl⟩
    · rcases keyIs_shape hb with ⟨j, u, rfl, e⟩ | ⟨y, u, rfl, e⟩
      · injection e with e1 _; rw [e1]
      · exact nomatch e
    · rcases keyIs_shape hb with ⟨j, u, rfl, e⟩ | ⟨y, u, rfl, e⟩
      · exact nomatch e
      · injection e with e1 _; rw [e1]
  byValue := fun k v h => by
    rcases keyIs_shape h with ⟨i, t, rfl, rfl⟩ | ⟨x, t, rfl, rfl⟩ <;> rfl
  pyHash := fun hv h => by
    rcases keyIs_shape hv with ⟨i, t, rfl, rfl⟩ | ⟨x, t, rfl, rfl⟩
    · exact wpAny_pyHash_int h
    · exact wpAny_pyHash_str h
  eqBool := fun hu hv h => by
    rcases keyIs_shape hu with ⟨i, t, rfl, rfl⟩ | ⟨x, t, rfl, rfl⟩
    · rcases keyIs_shape hv with ⟨j, u, rfl, rfl⟩ | ⟨y, u, rfl, rfl⟩
      · rw [key_ll] at h; exact wpAny_eqBool_int h
      · rw [key_lr] at h; exact SeqAt.EqAt.int_str i t y u _ _ _ _ h
    · rcases keyIs_shape hv with ⟨j, u, rfl, rfl⟩ | ⟨y, u, rfl, rfl⟩
      · rw [key_rl] at h; exact SeqAt.EqAt.str_int x t j u _ _ _ _ h
      · rw [key_rr] at h; exact wpAny_eqBool_str h
  «strs» := fun k x t v h => by
    rcases keyIs_shape h with ⟨i, u, rfl, e⟩ | ⟨y, u, rfl, e⟩
    · exact nomatch e
    · injection e with e1 _
      subst e1
      cases v <;> rfl
theorem mixKind_int (prog : Program) (w : World) (i : Int) (t : Tok) : (mixKind prog w).is (.inl i) (.int i t) = true := keyIs_int i t
theorem mixKind_str (prog : Program) (w : World) (x : Str) (t : Tok) : (mixKind prog w).is (.inr x) (.str x t) = true := keyIs_str x t
end L2
namespace L2
open PySem PySem.Spec PyProof.Rows
/-- a value, without the heap -/
inductive V where
  | non | bl (b : Bool) | int (i : Int) | str (x : Str) | byt (b : Array UInt8) | flt (b : UInt64) | ref (a : Addr) | ty (n : String)
  deriving DecidableEq
def RelV : V → Value → Prop
  | .non, u => u = Value.none
  | .bl b, u => u = Value.bool b
  | .int i, u => ∃ t, u = Value.int i t
  | .str x, u => ∃ t, u = Value.str x t
  | .byt b, u => ∃ t, u = Value.bytes b t
  | .flt b, u => ∃ t, u = Value.float b t
  | .ref a, u => u = Value.ref a
  | .ty n, u => u = Value.type n
abbrev Vals : List V → List Value → Prop := Paired RelV
theorem Vals.length {xs : List V} {us : List Value} (r : Vals xs us) : xs.length = us.length := Paired.length r
theorem Vals.get : ∀ {xs : List V} {us : List Value} {i : Nat} {x : V}, Vals xs us → xs[i]? = some x → ∃ u, us[i]? = some u ∧ RelV x u
  | _, _, _, _, .nil, e => by simp at e
  | _, _, 0, _, .cons r _, e => by simp at e; subst e; exact ⟨_, rfl, r⟩
  | _, _, i + 1, x, .cons _ t, e => by
    obtain ⟨u, h1, h2⟩ := Vals.get (i := i) (x := x) t (by simpa using e)
    exact ⟨u, by simpa using h1, h2⟩
theorem Vals.set {x : V} {u : Value} (r : RelV x u) : ∀ {xs : List V} {us : List Value} (i : Nat), Vals xs us → Vals (xs.set i x) (us.set i u)
  | _, _, _, .nil => .nil
  | _, _, 0, .cons _ t => .cons r t
  | _, _, i + 1, .cons q t => .cons q (Vals.set r i t)
theorem Vals.append : ∀ {xs ys : List V} {us ws : List Value}, Vals xs us → Vals ys ws → Vals (xs ++ ys) (us ++ ws)
  | _, _, _, _, .nil, s => s
  | _, _, _, _, .cons r t, s => .cons r (Vals.append t s)
theorem Vals.take : ∀ {xs : List V} {us : List Value} (n : Nat), Vals xs us → Vals (xs.take n) (us.take n)
  | _, _, 0, _ => .nil
  | _, _, _ + 1, .nil => .nil
  | _, _, n + 1, .cons r t => .cons r (Vals.take n t)
theorem Vals.drop : ∀ {xs : List V} {us : List Value} (n : Nat), Vals xs us → Vals (xs.drop n) (us.drop n)
  | _, _, 0, r => r
  | _, _, _ + 1, .nil => .nil
  | _, _, n + 1, .cons _ t => Vals.drop n t
def RelO : Option V → Option Value → Prop
  | some v, some u => RelV v u
  | none, none => True
  | _, _ => False
def KV {κ : Type} : List (κ × V) → List (κ × Value) → Prop := Paired fun (p : κ × V) (q : κ × Value) => p.1 = q.1 ∧ RelV p.2 q.2
/-- a key of a dict (00_mix): an int or a text -/
def kV : Key → V
  | .inl i => .int i
  | .inr x => .str x
/-- what stands at a tracked address -/
inductive HO where
  /-- a list -/
  | lst (xs : List V)
  /-- a tuple (never changes) -/
  | tup (xs : List V)
  /-- a dict whose keys are ints and texts; one whose keys are tuples of ints and texts (the empty one is both) -/
  | dK (kvs : List (Key × V)) | dT (kvs : List (List Key × V))
  /-- a set of ints: its members, its size -/
  | set (S : Int → Bool) (n : Nat)
  /-- an instance of the class at C, its dict at dx, its attributes -/
  | ins (C dx : Addr) (fs : List (Str × V))
  /-- the dict of the instance at x -/
  | own (x : Addr)
  /-- the dict of an exception -/
  | xd (fs : List (Str × V))
  /-- a bound method, f of x -/
  | met (f x : Addr)
  /-- a range object lo, lo + 1, .. below hi -/
  | rng (lo hi : Int)
  /-- a thing that is known to the object (the script; a dict while a loop walks it): read, never written while it is so -/
  | frz (o : Obj) (u : HO)
  /-- a code object's table -/
  | tbl (ps : Array Value)
  /-- any other thing, by what is true of its one object (a def of one's own: SetO a S n := HO.ext fun h => ..) -/
  | ext (φ : Heap → Prop)
abbrev Hp := Addr → Option HO
def upd (H : Hp) (a : Addr) (o : HO) : Hp := fun b => if b = a then some o else H b
theorem upd_same {H : Hp} {a : Addr} {o : HO} : upd H a o a = some o := by unfold upd; rw [if_pos rfl]
theorem upd_ne {H : Hp} {a b : Addr} {o : HO} (h : b ≠ a) : upd H a o b = H b := by unfold upd; rw [if_neg h]
/-- two objects of different content stand apart -/
theorem ne_of {H : Hp} {a b : Addr} {o u : HO} (h : H a = some o) (h' : H b = some u) (d : o ≠ u) : a ≠ b := by
  intro e; subst e; rw [h] at h'; exact d (Option.some.inj h')
theorem ne_of_none {H : Hp} {a b : Addr} {o : HO} (h : H a = some o) (h' : H b = none) : a ≠ b := by
  intro e; subst e; rw [h] at h'; cases h'
section
variable (P : Program) (w : World)
def ObjOk (H : Hp) (h : Heap) (a : Addr) : HO → Prop
  | .lst xs => xs.length ≤ sizeLine ∧ ∃ (its : List Value) (n : Nat), Vals xs its ∧ h.get? a = some { cls := .type "list", data := .seq its.toArray n }
  | .tup xs => xs.length ≤ sizeLine ∧ ∃ its : List Value, Vals xs its ∧ IsTup h a its.toArray
  | .dK kvs => kvs.length ≤ sizeLine ∧ (a == sysModules) = false ∧ ∃ vs, KV kvs vs ∧ h.DictOf (mixKind P w) a vs
  | .dT kvs => kvs.length ≤ sizeLine ∧ (a == sysModules) = false ∧ ∃ xs : List (List Key × Addr × Value),
      Paired (fun (p : List Key × V) (q : List Key × Addr × Value) => p.1 = q.1 ∧ H q.2.1 = some (.tup (p.1.map kV)) ∧ RelV p.2 q.2.2) kvs xs ∧
      ∃ o es ep, h.get? a = some o ∧ o.ExactDict ∧ o.data = .dict es ep ∧ es.toList = xs.map (entryOfKey (tupleKind (mixKind P w))) ∧ (xs.map (·.1)).Nodup
  | .set S n => h.SetOf (intKind P w) a S n
  | .ins C dx fs => H dx = some (.own a) ∧ fs.length ≤ 1000 ∧ dx ≠ a ∧ h.get? a = some (PySem.W.instObj C dx) ∧
      ∃ mA, h.Ns1 dx mA ∧ (∀ f, RelO (fs.lookup f) (mA f)) ∧ PySem.Within mA (fs.map (·.1))
  | .own _ => ∃ o, h.get? a = some o
  | .xd fs => ∃ mA, h.Ns1 a mA ∧ ∀ f, RelO (fs.lookup f) (mA f)
  | .rng lo hi => ∃ t u v, h.get? a = some { cls := .type "range", data := .fields #[.int lo t, .int hi u, .int 1 v] }
  | .frz o u => h.get? a = some o ∧ ObjOk H h a u
  | .tbl ps => h.get? a = some { cls := .none, data := .fields ps }
  | .met f x => h.get? a = some (PySem.W.methodObj (.ref f) (.ref x))
  | .ext φ => φ h ∧ (∃ o, h.get? a = some o) ∧ ∀ h1 h2 : Heap, φ h1 → (∀ o, h1.get? a = some o → h2.get? a = some o) → φ h2
/-- the abstract heap is held -/
def HOk (H : Hp) (h : Heap) : Prop := ∀ a o, H a = some o → ObjOk P w H h a o
end
section
variable {P : Program} {w : World} {H H' : Hp} {h h' : Heap} {a : Addr} {o : HO}
theorem ObjOk.lt (x : ObjOk P w H h a o) : a < h.objs.size := by
  cases o with
  | lst xs => obtain ⟨_, _, _, _, e⟩ := x; exact Heap.lt_size e
  | tup xs => obtain ⟨_, _, _, p⟩ := x; exact p.lt
  | dK kvs => obtain ⟨_, _, _, _, o, _, _, e, _⟩ := x; exact Heap.lt_size e
  | dT kvs => obtain ⟨_, _, _, _, o, _, _, e, _⟩ := x; exact Heap.lt_size e
  | set S n => obtain ⟨o, _, _, _, e, _⟩ := x; exact Heap.lt_size e
  | ins C dx fs => obtain ⟨_, _, _, e, _⟩ := x; exact Heap.lt_size e
  | own y => obtain ⟨_, e⟩ := x; exact Heap.lt_size e
  | xd fs => obtain ⟨_, ⟨_, _, _, e, _⟩, _⟩ := x; exact Heap.lt_size e
  | rng lo hi => obtain ⟨_, _, _, e⟩ := x; exact Heap.lt_size e
  | frz ob u => obtain ⟨e, _⟩ := x; exact Heap.lt_size e
  | tbl ps => exact Heap.lt_size (show h.get? a = some _ from x)
  | met f y => exact Heap.lt_size (show h.get? a = some _ from x)
  | ext φ => obtain ⟨_, ⟨_, e⟩, _⟩ := x; exact Heap.lt_size e
theorem Paired.mapP {α β : Type} {F G : α → β → Prop} : ∀ {l₁ : List α} {l₂ : List β}, Paired F l₁ l₂ → (∀ a b, F a b → G a b) → Paired G l₁ l₂
  | _, _, .nil, _ => .nil
  | _, _, .cons r t, f => .cons (f _ _ r) (Paired.mapP t f)
/-- what an object's description leans on: its own object, its own dict, the tuples -/
theorem ObjOk.stay (x : ObjOk P w H h a o) (k : ∀ b u, (b = a ∨ H b = some (.own a)) → h.get? b = some u → h'.get? b = some u)
    (ho : ∀ b, H b = some (.own a) → H' b = some (.own a)) (ht : ∀ b xs, H b = some (.tup xs) → H' b = some (.tup xs)) : ObjOk P w H' h' a o := by
  induction o with
  | lst xs => obtain ⟨z, its, n, r, e⟩ := x; exact ⟨z, its, n, r, k _ _ (.inl rfl) e⟩
  | tup xs => obtain ⟨z, its, r, ob, e, c⟩ := x; exact ⟨z, its, r, ob, k _ _ (.inl rfl) e, c⟩
  | dK kvs => obtain ⟨z, y, vs, r, ob, es, ep, e, c⟩ := x; exact ⟨z, y, vs, r, ob, es, ep, k _ _ (.inl rfl) e, c⟩
  | dT kvs =>
    obtain ⟨z, y, xs, r, ob, es, ep, e, c⟩ := x
    exact ⟨z, y, xs, Paired.mapP r fun p q z => ⟨z.1, ht _ _ z.2.1, z.2.2⟩, ob, es, ep, k _ _ (.inl rfl) e, c⟩
  | set S n => obtain ⟨ob, es, ep, t, e, c⟩ := x; exact ⟨ob, es, ep, t, k _ _ (.inl rfl) e, c⟩
  | ins C dx fs =>
    obtain ⟨d, z, ne, e, mA, ⟨od, es, ep, e2, c⟩, r⟩ := x
    exact ⟨ho _ d, z, ne, k _ _ (.inl rfl) e, mA, ⟨od, es, ep, k _ _ (.inr d) e2, c⟩, r⟩
  | own y => obtain ⟨ob, e⟩ := x; exact ⟨ob, k _ _ (.inl rfl) e⟩
  | xd fs => obtain ⟨mA, ⟨od, es, ep, e, c⟩, r⟩ := x; exact ⟨mA, ⟨od, es, ep, k _ _ (.inl rfl) e, c⟩, r⟩
  | rng lo hi => obtain ⟨t, u, v, e⟩ := x; exact ⟨t, u, v, k _ _ (.inl rfl) e⟩
  | frz ob u ih => obtain ⟨e, q⟩ := x; exact ⟨k _ _ (.inl rfl) e, ih q⟩
  | tbl ps =>
    have e : h.get? a = some { cls := .none, data := .fields ps } := x
    show h'.get? a = some { cls := .none, data := .fields ps }
    exact k a _ (.inl rfl) e
  | met f y =>
    have e : h.get? a = some (PySem.W.methodObj (.ref f) (.ref y)) := x
    show h'.get? a = some (PySem.W.methodObj (.ref f) (.ref y))
    exact k a _ (.inl rfl) e
  | ext φ => obtain ⟨p, ⟨o, e⟩, st⟩ := x; exact ⟨st _ _ p fun o q => k _ _ (.inl rfl) q, ⟨o, k _ _ (.inl rfl) e⟩, st⟩
theorem HOk.lt (x : HOk P w H h) (e : H a = some o) : a < h.objs.size := (x a o e).lt
theorem HOk.fresh (x : HOk P w H h) (e : h.objs.size ≤ a) : H a = none := by
  cases q : H a with
  | none => rfl
  | some u => exact absurd (Nat.lt_of_lt_of_le (x.lt q) e) (Nat.lt_irrefl _)
/-- every object of the heap is kept -/
theorem HOk.kept (x : HOk P w H h) (k : ∀ b u, h.get? b = some u → h'.get? b = some u) : HOk P w H h' := fun a o e =>
  (x a o e).stay (fun b u _ q => k b u q) (fun _ q => q) fun _ _ q => q
/-- a new object is laid and tracked -/
theorem HOk.laid (x : HOk P w H h) (k : ∀ b u, h.get? b = some u → h'.get? b = some u) (hp : h.objs.size ≤ a) (new : ObjOk P w (upd H a o) h' a o) : HOk P w (upd H a o) h' := fun b u e => by
  have hn := x.fresh hp
  by_cases hb : b = a
  · subst hb; rw [upd_same] at e; cases e; exact new
  · rw [upd_ne hb] at e
    exact (x b u e).stay (fun c v _ q => k c v q) (fun c q => by rw [upd_ne (ne_of_none q hn)]; exact q) fun c xs q => by rw [upd_ne (ne_of_none q hn)]; exact q
end
/-- what may be read as u: it is u, or a known u -/
def Rd (H : Hp) (a : Addr) (u : HO) : Prop := H a = some u ∨ ∃ o, H a = some (.frz o u)
theorem Rd.of {H : Hp} {a : Addr} {u : HO} (h : H a = some u) : Rd H a u := .inl h
theorem Rd.ok {P : Program} {w : World} {H : Hp} {h : Heap} {a : Addr} {u : HO} (r : Rd H a u) (x : HOk P w H h) : ObjOk P w H h a u := by
  rcases r with r | ⟨o, r⟩
  · exact x a u r
  · obtain ⟨_, q⟩ := x a _ r
    exact q
/-- what may be written -/
def Mut : Option HO → Prop
  | some (.lst _) => True
  | some (.dK _) => True
  | some (.dT _) => True
  | some (.set _ _) => True
  | some (.ins _ _ _) => True
  | some (.ext _) => True
  | _ => False
section
variable {P : Program} {w : World} {H : Hp} {h h' : Heap} {x e : Addr} {o' : HO}
/-- the object at e is changed: x itself, or the dict of the instance x -/
theorem HOk.write (ok : HOk P w H h) (mu : Mut (H x)) (he : e = x ∨ H e = some (.own x)) (k : ∀ b u, b ≠ e → h.get? b = some u → h'.get? b = some u) (heo : ∃ u, h'.get? e = some u)
    (new : ObjOk P w (upd H x o') h' x o') : HOk P w (upd H x o') h' := fun b u q => by
  have nown : ∀ c y, H c = some (.own y) → c ≠ x := fun c y r z => by subst z; rw [r] at mu; exact mu
  have ntup : ∀ c xs, H c = some (.tup xs) → c ≠ x := fun c xs r z => by subst z; rw [r] at mu; exact mu
  by_cases hb : b = x
  · subst hb; rw [upd_same] at q; cases q; exact new
  · rw [upd_ne hb] at q
    by_cases hbe : b = e
    · have q' : H b = some (.own x) := by
        rcases he with z | z
        · exact absurd (hbe.trans z) hb
        · rw [hbe]; exact z
      rw [q] at q'; cases q'
      obtain ⟨v, hv⟩ := heo
      exact ⟨v, by rw [hbe]; exact hv⟩
    · refine (ok b u q).stay (fun c v hc r => k c v ?_ r) (fun c r => by rw [upd_ne (nown c b r)]; exact r) fun c xs r => by rw [upd_ne (ntup c xs r)]; exact r
      rcases hc with rfl | hc
      · exact hbe
      · rintro rfl
        rcases he with z | z
        · exact nown c b hc z
        · rw [hc] at z; cases z; exact hb rfl
end
structure Un (fs ex : List Addr) (H H' : Hp) (h h' : Heap) : Prop where
  keep : ∀ b o, h.get? b = some o → H b = none → b ∉ fs → b ∉ ex → h'.get? b = some o
  slot : ∀ b o, h.get? b = some o → H b = none → b ∈ fs → b ∉ ex → ∃ sl, h'.get? b = some { o with slots := sl }
  free : ∀ b o, h.get? b = some o → H b = none → b ∉ ex → H' b = none
  there : ∀ b o, h.get? b = some o → b ∉ ex → ∃ o', h'.get? b = some o'
  tups : ∀ b xs, H b = some (.tup xs) → H' b = some (.tup xs)
  frzs : ∀ b o u, H b = some (.frz o u) → H' b = some (.frz o u)
  tbls : ∀ b ps, H b = some (.tbl ps) → ∃ more, H' b = some (.tbl (ps ++ more))
section
variable {fs fs' ex ex' : List Addr} {H H1 H2 : Hp} {h h1 h2 h' : Heap} {a x e : Addr} {o : HO}
theorem Un.any (u : Un fs ex H H1 h h1) {b : Addr} {ob : Obj} (q : h.get? b = some ob) (n : H b = none) (hx : b ∉ ex) : ∃ sl, h1.get? b = some { ob with slots := sl } := by
  by_cases hb : b ∈ fs
  · exact u.slot b ob q n hb hx
  · exact ⟨ob.slots, u.keep b ob q n hb hx⟩
theorem Un.trans (a : Un fs ex H H1 h h1) (b : Un fs ex H1 H2 h1 h2) : Un fs ex H H2 h h2 where
  keep := fun c ob q n hc hx => b.keep c ob (a.keep c ob q n hc hx) (a.free c ob q n hx) hc hx
  slot := fun c ob q n hc hx => by
    obtain ⟨sl, e1⟩ := a.slot c ob q n hc hx
    obtain ⟨sl', e2⟩ := b.slot c _ e1 (a.free c ob q n hx) hc hx
    exact ⟨sl', e2⟩
  free := fun c ob q n hx => by
    obtain ⟨o', e1⟩ := a.there c ob q hx
    exact b.free c o' e1 (a.free c ob q n hx) hx
  there := fun c ob q hx => by
    obtain ⟨o', e1⟩ := a.there c ob q hx
    exact b.there c o' e1 hx
  tups := fun c xs q => b.tups c xs (a.tups c xs q)
  frzs := fun c ob xs q => b.frzs c ob xs (a.frzs c ob xs q)
  tbls := fun c ps q => by
    obtain ⟨m1, e1⟩ := a.tbls c ps q
    obtain ⟨m2, e2⟩ := b.tbls c _ e1
    exact ⟨m1 ++ m2, by rw [e2, Array.append_assoc]⟩
theorem Un.kept (k : ∀ b u, h.get? b = some u → h'.get? b = some u) : Un fs ex H H h h' :=
  ⟨fun b ob q _ _ _ => k b ob q, fun b ob q _ _ _ => ⟨ob.slots, k b ob q⟩, fun _ _ _ n _ => n, fun b ob q _ => ⟨ob, k b ob q⟩, fun _ _ q => q, fun _ _ _ q => q, fun _ ps q => ⟨#[], by rw [q]; simp⟩⟩
theorem Un.refl : Un fs ex H H h h := Un.kept fun _ _ q => q
theorem Un.laid (k : ∀ b u, h.get? b = some u → h'.get? b = some u) (hp : h.objs.size ≤ a) (hn : H a = none) : Un fs ex H (upd H a o) h h' where
  keep := fun b u q _ _ _ => k b u q
  slot := fun b u q _ _ _ => ⟨u.slots, k b u q⟩
  free := fun b u q n _ => by rw [upd_ne (Nat.ne_of_lt (Nat.lt_of_lt_of_le (Heap.lt_size q) hp))]; exact n
  there := fun b u q _ => ⟨u, k b u q⟩
  tups := fun b xs q => by rw [upd_ne (ne_of_none q hn)]; exact q
  frzs := fun b u xs q => by rw [upd_ne (ne_of_none q hn)]; exact q
  tbls := fun b ps q => ⟨#[], by rw [upd_ne (ne_of_none q hn), q]; simp⟩
theorem Un.write (mu : Mut (H x)) (he : e = x ∨ H e = some (.own x)) (k : ∀ b u, b ≠ e → h.get? b = some u → h'.get? b = some u) (heo : ∃ u, h'.get? e = some u) : Un fs ex H (upd H x o) h h' := by
  have hx : ∀ b, H b = none → b ≠ x := fun b n z => by subst z; rw [n] at mu; exact mu
  have hb : ∀ b, H b = none → b ≠ e := fun b n z => by
    subst z
    rcases he with r | r
    · exact hx b n r
    · rw [n] at r; cases r
  have hm : ∀ b u, H b = some u → ¬ Mut (some u) → b ≠ x := fun b u q nm z => by subst z; rw [q] at mu; exact nm mu
  refine ⟨fun b u q n _ _ => k b u (hb b n) q, fun b u q n _ _ => ⟨u.slots, k b u (hb b n) q⟩, fun b u q n _ => by rw [upd_ne (hx b n)]; exact n, fun b u q _ => ?_,
    fun b xs q => by rw [upd_ne (hm b _ q fun z => z)]; exact q, fun b u xs q => by rw [upd_ne (hm b _ q fun z => z)]; exact q, fun b ps q => ⟨#[], by rw [upd_ne (hm b _ q fun z => z), q]; simp⟩⟩
  by_cases hbe : b = e
  · subst hbe; exact heo
  · exact ⟨u, k b u hbe q⟩
theorem Un.mono (u : Un fs ex H H1 h h1) (hs : ∀ b ∈ fs, b ∈ fs') (hx : ∀ b ∈ ex, b ∈ ex') : Un fs' ex' H H1 h h1 :=
  ⟨fun b ob q n hb he => u.keep b ob q n (fun z => hb (hs b z)) fun z => he (hx b z), fun _ _ q n _ he => u.any q n fun z => he (hx _ z), fun b ob q n he => u.free b ob q n fun z => he (hx b z), fun b ob q he => u.there b ob q fun z => he (hx b z), u.tups, u.frzs, u.tbls⟩
end
def trk (h : Heap) (H : Hp) : List Addr := (List.range h.objs.size).filter fun a => (H a).isSome
def hidT (h : Heap) (H : Hp) : Heap := PySem.W.hideAll h (trk h H)
theorem hidT_size (h : Heap) (H : Hp) : (hidT h H).objs.size = h.objs.size := PySem.W.hideAll_size _ _
theorem hidT_get {h : Heap} {H : Hp} {b : Addr} {o : Obj} (e : h.get? b = some o) (n : H b = none) : (hidT h H).get? b = some o :=
  PySem.W.hideAll_get _ e fun hm => by
    have q : (H b).isSome = true := (List.mem_filter.mp hm).2
    rw [n] at q; simp at q
theorem of_hidT {h : Heap} {H : Hp} {b : Addr} {o : Obj} (e : (hidT h H).get? b = some o) : h.get? b = some o ∧ H b = none := by
  have e' : h.get? b = some o := PySem.W.of_hideAll (trk h H) e
  refine ⟨e', ?_⟩
  cases q : H b with
  | none => rfl
  | some x =>
    have hm : b ∈ trk h H := List.mem_filter.mpr ⟨List.mem_range.mpr (Heap.lt_size e'), by simp [q]⟩
    have z : (hidT h H).get? b = none := PySem.W.hideAll_none (trk h H) hm
    rw [z] at e; cases e
def allNews (g h : Heap) (L : Addr) : List (Addr × Obj) := (List.range h.objs.size).filterMap fun a => if a = L ∨ (g.get? a).isSome = true then none else (h.get? a).map fun o => (a, o)
def rest (g h : Heap) (L d : Addr) : List (Addr × Obj) := (allNews g h L).filter fun p => decide (p.1 ≠ d)
end L2
namespace L2
open PySem PySem.Spec PyProof.Rows
/-- the module's facts, over the base: the heap at the law's entry without what is tracked there -/
structure Mod (K : PySem.W.Frag) (mg : Str → Option Value) (base : Heap) : Prop where
  kin : K.In base
  glob : base.Ns mainGlobals mg
  blt : ∃ mb, base.Ns builtinsNs mb ∧ ∀ x : Str, x ≠ "__name__" → mb x = bootBuiltins x
  nolimit : base.NoLimit
  nodigits : base.NoDigits
  seer : base.NoSeer
/-- the context: a def's body (or a comprehension's block) running. base: fixed through the whole law; s₀, H₀: the entry; outer: the frames whose slots others may change (a def's callers); stack: all frames that run;
   ex: iterators that were made ahead of the entry and are walked here (a comprehension's); fn: the names whose cells were made at the entry (a def: all; a comprehension's block: its own); calm: not within an except suite; pn: pins that every state bears; xe: what is wanted of an exception that leaves the code -/
structure Cx where
  prog : Program
  w : World
  K : PySem.W.Frag
  mg : Str → Option Value
  base : Heap
  A : Around
  N : List Str
  s_0 : Shared
  H_0 : Hp
  env : Env
  outer : List Env
  stack : List Env
  ex : List Addr
  fn : Str → Bool
  calm : Bool
  pn : List (Addr × Obj)
  xe : Value → Shared → Prop
/-- the callers' frames -/
def frs (l : List Env) : List Addr := l.filterMap (·.frame)
abbrev Cx.fs (X : Cx) : List Addr := frs X.outer
def Vis (sc : Scope) (x : Str) : Prop := sc.names.lookup x = some .local ∨ sc.names.lookup x = some .cell ∨ sc.names.lookup x = some .free
def Loc (sc : Scope) (x : Str) : Prop := sc.names.lookup x = some .local ∨ sc.names.lookup x = some .cell
def Look (env : Env) (h : Heap) (m : Str → Option Value) (x : Str) (u : Value) : Prop :=
  (env.kindOf x = some .local ∧ m x = some u) ∨ ((env.kindOf x = some .cell ∨ env.kindOf x = some .free) ∧ ∃ c, env.cells.lookup x = some c ∧ h.IsCell c (some u))
structure Cx.Ok (X : Cx) : Prop where
  mod : Mod X.K X.mg X.base
  kind : X.env.scope.kind = .function
  glob : X.env.globals = mainGlobals
  blt : X.env.builtins = builtinsNs
  above : X.s_0.heap.objs.size ≤ X.env.locals
  inj : ∀ x y c, X.env.cells.lookup x = some c → X.env.cells.lookup y = some c → x = y
  has : ∀ x, (X.env.kindOf x = some .cell ∨ X.env.kindOf x = some .free) → ∃ c, X.env.cells.lookup x = some c
  cab : ∀ x c, X.fn x = true → X.env.cells.lookup x = some c → X.s_0.heap.objs.size ≤ c
  hd : X.calm = true → X.A.handled = none
  frames : X.A.frames = some X.stack
  stk : X.stack = X.outer ∨ (X.stack = X.env :: X.outer ∧ X.env.frame = some X.env.locals)
  exf : ∀ b ∈ X.ex, b ≠ X.env.locals ∧ ∀ x c, X.env.cells.lookup x = some c → c ≠ b
  bs : ∀ b o, X.base.get? b = some o → X.s_0.heap.get? b = some o ∧ X.H_0 b = none
  bsz : X.base.objs.size ≤ X.s_0.heap.objs.size
  noex : ∀ b o, X.base.get? b = some o → b ∉ X.ex
  exfs : ∀ b ∈ X.ex, b ∉ X.fs
  funs : X.s_0.heap.FunFrames X.base X.outer
  frf : ∀ b ∈ X.fs, X.H_0 b = none
structure Inv (X : Cx) (pins : List (Addr × Obj)) (σ : List (Option V)) (H : Hp) (s : Shared) : Prop where
  ok : X.Ok
  os : s.os = X.s_0.os
  bare : AllBare s.gens
  base : Un X.fs X.ex X.H_0 H X.s_0.heap s.heap
  loc : ∃ m, s.heap.Ns X.env.locals m ∧ ∀ (i : Nat) (x : Str) (v : V), X.N[i]? = some x → σ[i]? = some (some v) → Vis X.env.scope x → ∃ u, RelV v u ∧ Look X.env s.heap m x u
  cell : ∀ x c, X.env.cells.lookup x = some c → ∃ v, s.heap.IsCell c v
  free : H X.env.locals = none
  freeC : ∀ x c, X.env.cells.lookup x = some c → H c = none
  pin : ∀ p ∈ X.pn ++ pins, s.heap.get? p.1 = some p.2 ∧ H p.1 = none ∧ p.1 ≠ X.env.locals ∧ p.1 ∉ X.fs ∧ ∀ v, p.2.data ≠ .cell v
  hok : HOk X.prog X.w H s.heap
  len : σ.length = X.N.length
section
variable {X : Cx} {pins : List (Addr × Obj)} {σ : List (Option V)} {H H' : Hp} {s : Shared} {h' : Heap}
theorem Cx.Ok.nofr (ok : X.Ok) {b : Addr} {o : Obj} (e : X.base.get? b = some o) : b ∉ X.fs := fun hb => by
  have := (ok.funs.mem hb).1
  rw [e] at this; cases this
theorem Inv.bs (I : Inv X pins σ H s) : ∀ b o, X.base.get? b = some o → s.heap.get? b = some o ∧ H b = none := fun b o e =>
  ⟨I.base.keep b o (I.ok.bs b o e).1 (I.ok.bs b o e).2 (I.ok.nofr e) (I.ok.noex b o e), I.base.free b o (I.ok.bs b o e).1 (I.ok.bs b o e).2 (I.ok.noex b o e)⟩
theorem Inv.bk (I : Inv X pins σ H s) : ∀ b o, X.base.get? b = some o → s.heap.get? b = some o := fun b o e => (I.bs b o e).1
theorem Inv.mod (I : Inv X pins σ H s) : Mod X.K X.mg X.base := I.ok.mod
theorem Inv.kIn (I : Inv X pins σ H s) : X.K.In s.heap := I.ok.mod.kin.keeps I.bk
theorem Inv.nolimit (I : Inv X pins σ H s) : s.heap.NoLimit := I.ok.mod.nolimit.keeps I.bk
theorem Inv.nodigits (I : Inv X pins σ H s) : s.heap.NoDigits := I.ok.mod.nodigits.keeps I.bk
theorem Inv.seer (I : Inv X pins σ H s) : s.heap.NoSeer := I.ok.mod.seer.keeps I.bk
/-- the frame over the base: for OpenK's rules (K.In X.base is I.mod.kin) -/
theorem Inv.fr (I : Inv X pins σ H s) : ∃ m, Fr X.base X.env.locals s.heap m :=
  let ⟨m, hn, _⟩ := I.loc
  ⟨m, hn, I.bk, Nat.le_trans I.ok.bsz I.ok.above⟩
theorem Inv.lt (I : Inv X pins σ H s) : X.env.locals < s.heap.objs.size := let ⟨_, hn, _⟩ := I.loc; hn.lt
theorem Inv.sz (I : Inv X pins σ H s) : X.s_0.heap.objs.size ≤ s.heap.objs.size := Nat.le_trans I.ok.above (Nat.le_of_lt I.lt)
theorem Inv.nofs (I : Inv X pins σ H s) {a : Addr} (h : s.heap.objs.size ≤ a) : a ∉ X.fs := fun hb => by
  obtain ⟨_, o, ho, _⟩ := I.ok.funs.mem hb
  exact absurd (Nat.lt_of_lt_of_le (Heap.lt_size ho) (Nat.le_trans I.sz h)) (Nat.lt_irrefl _)
theorem Inv.cne (I : Inv X pins σ H s) : ∀ x c, X.env.cells.lookup x = some c → c ≠ X.env.locals := fun x c e z => by
  obtain ⟨v, o, ho, hd⟩ := I.cell x c e
  obtain ⟨m, ⟨o', es, ep, ho', hd', _⟩, _⟩ := I.loc
  rw [z, ho'] at ho; cases ho; rw [hd'] at hd; cases hd
theorem Inv.funs (I : Inv X pins σ H s) : s.heap.FunFrames X.base X.outer := by
  have all : ∀ (l : List Env), (∀ b ∈ frs l, b ∈ X.fs) → X.s_0.heap.FunFrames X.base l → s.heap.FunFrames X.base l := by
    intro l
    induction l with
    | nil => intro _ _; trivial
    | cons env r ih =>
      intro hs hl
      obtain ⟨hk, ⟨L, o, hf, hn, ho, hd⟩, hr⟩ := hl
      have hL : L ∈ X.fs := hs L (by unfold frs; rw [List.filterMap_cons, hf]; exact List.mem_cons_self)
      obtain ⟨sl, e⟩ := I.base.slot L o ho (I.ok.frf L hL) hL fun z => I.ok.exfs L z hL
      exact ⟨hk, ⟨L, _, hf, hn, e, hd⟩, ih (fun b hb => hs b (by unfold frs; rw [List.filterMap_cons, hf]; exact List.mem_cons_of_mem _ hb)) hr⟩
  exact all X.outer (fun _ hb => hb) I.ok.funs
/-- the frames that run, for a call -/
theorem Inv.stack (I : Inv X pins σ H s) : s.heap.FunFrames X.base X.stack := by
  rcases I.ok.stk with e | ⟨e, hf⟩
  · rw [e]; exact I.funs
  · rw [e]
    obtain ⟨m, hn, _⟩ := I.loc
    refine .cons (by rw [I.ok.kind]; decide) hf hn ?_ I.funs
    exact Heap.get?_none_of_le (Nat.le_trans I.ok.bsz I.ok.above)
theorem Inv.stkSub (I : Inv X pins σ H s) : ∀ b ∈ frs X.stack, b ∈ X.env.locals :: X.fs := fun b hb => by
  rcases I.ok.stk with e | ⟨e, hf⟩
  · rw [e] at hb; exact List.mem_cons_of_mem _ hb
  · rw [e] at hb
    unfold frs at hb
    rw [List.filterMap_cons, hf] at hb
    exact hb
theorem Inv.stkFree (I : Inv X pins σ H s) : ∀ b ∈ frs X.stack, H b = none := fun b hb => by
  rcases List.mem_cons.mp (I.stkSub b hb) with e | hb
  · rw [e]; exact I.free
  · obtain ⟨_, o, ho, _⟩ := I.ok.funs.mem hb
    exact I.base.free b o ho (I.ok.frf b hb) fun z => I.ok.exfs b z hb
/-- THE STEP: the untracked objects but the frame and the records at ch are kept (the callers' frames up to slots), the frame's map is kept, the new abstract heap is held -/
theorem Inv.step {g' : Array GenState} {t' : Nat} {d' : Drawn} {ch : List Addr} (I : Inv X pins σ H s)
    (hch : ∀ b ∈ ch, (b ∈ X.ex ∨ X.s_0.heap.objs.size ≤ b) ∧ b ≠ X.env.locals ∧ (∀ x c, X.env.cells.lookup x = some c → c ≠ b) ∧ ∀ p ∈ X.pn ++ pins, p.1 ≠ b)
    (keep : ∀ b o, b ≠ X.env.locals → b ∉ X.fs → b ∉ ch → s.heap.get? b = some o → H b = none → h'.get? b = some o)
    (slot : ∀ b o, b ≠ X.env.locals → b ∈ X.fs → b ∉ ch → s.heap.get? b = some o → H b = none → ∃ sl, h'.get? b = some { o with slots := sl }) (free : ∀ b o, b ∉ ch → s.heap.get? b = some o → H b = none → H' b = none)
    (there : ∀ b o, b ∉ ch → s.heap.get? b = some o → ∃ o', h'.get? b = some o')
    (tups : ∀ b xs, H b = some (.tup xs) → H' b = some (.tup xs)) (frzs : ∀ b o u, H b = some (.frz o u) → H' b = some (.frz o u)) (tbls : ∀ b ps, H b = some (.tbl ps) → ∃ more, H' b = some (.tbl (ps ++ more)))
    (ns : ∀ m, s.heap.Ns X.env.locals m → h'.Ns X.env.locals m) (hok : HOk X.prog X.w H' h') (hg : AllBare g') :
    Inv X pins σ H' { s with heap := h', gens := g', drawn := d', toks := t' } := by
  have neL : ∀ b o, X.s_0.heap.get? b = some o → b ≠ X.env.locals := fun b o e => Nat.ne_of_lt (Nat.lt_of_lt_of_le (Heap.lt_size e) I.ok.above)
  have neC : ∀ b o, X.s_0.heap.get? b = some o → b ∉ X.ex → b ∉ ch := fun b o e hx hb => by
    rcases (hch b hb).1 with z | z
    · exact hx z
    · exact absurd (Nat.lt_of_lt_of_le (Heap.lt_size e) z) (Nat.lt_irrefl _)
  have cellK : ∀ x c, X.env.cells.lookup x = some c → ∀ v, s.heap.IsCell c v → h'.IsCell c v := fun x c e v ⟨o, ho, hd⟩ => by
    have nch : c ∉ ch := fun z => (hch c z).2.2.1 x c e rfl
    by_cases hc : c ∈ X.fs
    · obtain ⟨sl, q⟩ := slot c o (I.cne x c e) hc nch ho (I.freeC x c e)
      exact ⟨_, q, hd⟩
    · exact ⟨o, keep c o (I.cne x c e) hc nch ho (I.freeC x c e), hd⟩
  refine ⟨I.ok, I.os, hg, ⟨fun b o e n hb hx => ?_, fun b o e n hb hx => ?_, fun b o e n hx => ?_, fun b o e hx => ?_, fun b xs e => tups b xs (I.base.tups b xs e), fun b o xs e => frzs b o xs (I.base.frzs b o xs e), fun b ps e => ?_⟩, ?_, fun x c e => ?_, ?_, fun x c e => ?_, fun p hp => ?_, hok, I.len⟩
  · exact keep b o (neL b o e) hb (neC b o e hx) (I.base.keep b o e n hb hx) (I.base.free b o e n hx)
  · obtain ⟨sl, e1⟩ := I.base.slot b o e n hb hx
    obtain ⟨sl', e2⟩ := slot b _ (neL b o e) hb (neC b o e hx) e1 (I.base.free b o e n hx)
    exact ⟨sl', e2⟩
  · obtain ⟨o', e1⟩ := I.base.there b o e hx
    exact free b o' (neC b o e hx) e1 (I.base.free b o e n hx)
  · obtain ⟨o', e1⟩ := I.base.there b o e hx
    exact there b o' (neC b o e hx) e1
  · obtain ⟨m1, e1⟩ := I.base.tbls b ps e
    obtain ⟨m2, e2⟩ := tbls b _ e1
    exact ⟨m1 ++ m2, by rw [e2, Array.append_assoc]⟩
  · obtain ⟨m, hn, hl⟩ := I.loc
    refine ⟨m, ns m hn, fun i x v e1 e2 e3 => ?_⟩
    obtain ⟨u, r, l⟩ := hl i x v e1 e2 e3
    refine ⟨u, r, ?_⟩
    rcases l with l | ⟨k, c, e, z⟩
    · exact .inl l
    · exact .inr ⟨k, c, e, cellK x c e _ z⟩
  · obtain ⟨v, z⟩ := I.cell x c e
    exact ⟨v, cellK x c e v z⟩
  · obtain ⟨m, ⟨o, _, _, ho, _⟩, _⟩ := I.loc
    exact free _ o (fun z => (hch _ z).2.1 rfl) ho I.free
  · obtain ⟨v, o, ho, hd⟩ := I.cell x c e
    exact free c o (fun z => (hch c z).2.2.1 x c e rfl) ho (I.freeC x c e)
  · obtain ⟨e, n, ne, nf, d⟩ := I.pin p hp
    have nch : p.1 ∉ ch := fun z => (hch p.1 z).2.2.2 p hp rfl
    exact ⟨keep p.1 p.2 ne nf nch e n, free p.1 p.2 nch e n, ne, nf, d⟩
/-- .. where the frame's own object is kept too -/
theorem Inv.un {t' : Nat} (I : Inv X pins σ H s) (u : Un X.fs [] H H' s.heap h') (hok : HOk X.prog X.w H' h') : Inv X pins σ H' { s with heap := h', toks := t' } := by
  obtain ⟨m, ⟨o, es, ep, ho, r⟩, _⟩ := id I.loc
  obtain ⟨sl, hL⟩ := u.any ho I.free (by simp)
  exact I.step (g' := s.gens) (d' := s.drawn) (ch := []) (fun _ z => nomatch z) (fun b o _ hb _ e n => u.keep b o e n hb (by simp)) (fun b o _ hb _ e n => u.slot b o e n hb (by simp)) (fun b o _ e n => u.free b o e n (by simp)) (fun b o _ e => u.there b o e (by simp)) u.tups u.frzs u.tbls (fun m' hm => by
    obtain ⟨o', es', ep', ho', r'⟩ := hm
    rw [ho] at ho'; cases ho'
    exact ⟨_, es', ep', hL, r'⟩) hok I.bare
/-- behind a call (or a comprehension's block): the slots of this frame may have changed too, the records at ch may have turned -/
theorem Inv.call {g' : Array GenState} {t' : Nat} {d' : Drawn} {ch : List Addr} (I : Inv X pins σ H s) (u : Un (frs X.stack) ch H H' s.heap h') (hok : HOk X.prog X.w H' h') (hg : AllBare g')
    (hch : ∀ b ∈ ch, (b ∈ X.ex ∨ X.s_0.heap.objs.size ≤ b) ∧ b ≠ X.env.locals ∧ (∀ x c, X.env.cells.lookup x = some c → c ≠ b) ∧ ∀ p ∈ X.pn ++ pins, p.1 ≠ b) :
    Inv X pins σ H' { s with heap := h', gens := g', drawn := d', toks := t' } := by
  obtain ⟨m, ⟨o, es, ep, ho, r⟩, _⟩ := id I.loc
  obtain ⟨sl, hL⟩ := u.any ho I.free fun z => (hch _ z).2.1 rfl
  exact I.step (ch := ch) hch (fun b o hL hb hc e n => u.keep b o e n (fun z => (List.mem_cons.mp (I.stkSub b z)).elim hL hb) hc) (fun b o _ _ hc e n => u.any e n hc) (fun b o hc e n => u.free b o e n hc) (fun b o hc e => u.there b o e hc) u.tups u.frzs u.tbls (fun m' hm => by
    obtain ⟨o', es', ep', ho', r'⟩ := hm
    rw [ho] at ho'; cases ho'
    exact ⟨_, es', ep', hL, r'⟩) hok hg
/-- an untracked record of ours (an iterator) has turned -/
theorem Inv.turned {t' : Nat} {it : Addr} (I : Inv X pins σ H s) (k : ∀ b o, b ≠ it → s.heap.get? b = some o → h'.get? b = some o) (hn : H it = none) (hL : it ≠ X.env.locals)
    (h1 : it ∈ X.ex ∨ X.s_0.heap.objs.size ≤ it) (h2 : ∀ x c, X.env.cells.lookup x = some c → c ≠ it) (h3 : ∀ p ∈ X.pn ++ pins, p.1 ≠ it) : Inv X pins σ H { s with heap := h', toks := t' } := by
  have nit : ∀ b u, H b = some u → b ≠ it := fun b u e z => by rw [z, hn] at e; cases e
  refine I.step (g' := s.gens) (d' := s.drawn) (ch := [it]) (fun b hb => ?_) (fun b o _ _ hc e _ => k b o (fun z => hc (by simp [z])) e) (fun b o _ _ hc e _ => ⟨o.slots, k b o (fun z => hc (by simp [z])) e⟩) (fun _ _ _ _ n => n)
    (fun b o hc e => ⟨o, k b o (fun z => hc (by simp [z])) e⟩) (fun _ _ e => e) (fun _ _ _ e => e) (fun b ps e => ⟨#[], by rw [e]; simp⟩) (fun m hm => ?_) (fun b u e => ?_) I.bare
  · have e : b = it := by simpa using hb
    subst e
    exact ⟨h1, hL, h2, h3⟩
  · obtain ⟨o, es, ep, ho, r⟩ := hm
    exact ⟨o, es, ep, k _ o (Ne.symm hL) ho, r⟩
  · refine (I.hok b u e).stay (fun c v hc q => k c v ?_ q) (fun _ q => q) fun _ _ q => q
    rcases hc with z | z
    · rw [z]; exact nit b u e
    · exact nit c _ z
theorem Inv.tok (I : Inv X pins σ H s) (t : Nat) : Inv X pins σ H { s with toks := t } := I.un (h' := s.heap) (t' := t) Un.refl I.hok
/-- all objects kept -/
theorem Inv.kept {t' : Nat} (I : Inv X pins σ H s) (k : ∀ b u, s.heap.get? b = some u → h'.get? b = some u) : Inv X pins σ H { s with heap := h', toks := t' } := I.un (Un.kept k) (I.hok.kept k)
/-- a new object laid and tracked -/
theorem Inv.laid {a : Addr} {o : HO} {t' : Nat} (I : Inv X pins σ H s) (k : ∀ b u, s.heap.get? b = some u → h'.get? b = some u) (hp : s.heap.objs.size ≤ a) (new : ObjOk X.prog X.w (upd H a o) h' a o) :
    Inv X pins σ (upd H a o) { s with heap := h', toks := t' } := I.un (Un.laid k hp (I.hok.fresh hp)) (I.hok.laid k hp new)
/-- an object written -/
theorem Inv.write {x e : Addr} {o : HO} {t' : Nat} (I : Inv X pins σ H s) (mu : Mut (H x)) (he : e = x ∨ H e = some (.own x)) (k : ∀ b u, b ≠ e → s.heap.get? b = some u → h'.get? b = some u) (heo : ∃ u, h'.get? e = some u)
    (new : ObjOk X.prog X.w (upd H x o) h' x o) : Inv X pins σ (upd H x o) { s with heap := h', toks := t' } := I.un (Un.write mu he k heo) (I.hok.write mu he k heo new)
/-- forgetting slots, pins -/
theorem Inv.weak {σ' : List (Option V)} (I : Inv X pins σ H s) (hl : σ'.length = σ.length) (w : ∀ (i : Nat) v, σ'[i]? = some (some v) → σ[i]? = some (some v)) : Inv X pins σ' H s :=
  ⟨I.ok, I.os, I.bare, I.base, let ⟨m, hn, hl'⟩ := I.loc; ⟨m, hn, fun i x v e1 e2 e3 => hl' i x v e1 (w i v e2) e3⟩, I.cell, I.free, I.freeC, I.pin, I.hok, hl.trans I.len⟩
theorem Inv.pins_of {pins' : List (Addr × Obj)} (I : Inv X pins σ H s) (h : ∀ p ∈ pins', s.heap.get? p.1 = some p.2 ∧ H p.1 = none ∧ p.1 ≠ X.env.locals ∧ p.1 ∉ X.fs ∧ ∀ v, p.2.data ≠ .cell v) : Inv X pins' σ H s :=
  ⟨I.ok, I.os, I.bare, I.base, I.loc, I.cell, I.free, I.freeC, fun p hp => (List.mem_append.mp hp).elim (fun z => I.pin p (List.mem_append_left _ z)) (h p), I.hok, I.len⟩
theorem nodup_ix {N : List Str} (hN : N.Nodup) {i j : Nat} {x : Str} (a : N[i]? = some x) (b : N[j]? = some x) : i = j := by
  obtain ⟨h1, e1⟩ := List.getElem?_eq_some_iff.mp a
  obtain ⟨h2, e2⟩ := List.getElem?_eq_some_iff.mp b
  exact (List.getElem_inj hN).mp (e1.trans e2.symm)
/-- a name is stored; what changed -/
theorem store_ok2 {M : Model} {A : Around} {E : Value → Shared → Prop} {i : Nat} {x : Str} {v : V} {u : Value} {Q : Unit → Shared → Prop} (I : Inv X pins σ H s) (hN : X.N.Nodup) (hi : X.N[i]? = some x) (hx : Loc X.env.scope x) (r : RelV v u)
    (h : ∀ s', Inv X pins (σ.set i (some v)) H s' → (∃ a, Heap.SameBut a s.heap s'.heap ∧ (a = X.env.locals ∨ X.env.cells.lookup x = some a)) → Q () s') (hf : X.fn x = true ∨ X.env.scope.names.lookup x = some .local := by first | exact .inl rfl | exact .inr rfl | assumption) : wpAny M A (storeName X.env x u) Q E s := by
  obtain ⟨m, hn, hl⟩ := id I.loc
  have hcls : (X.env.scope.kind == .class || (X.env.scope.kind == .module && X.env.locals != X.env.globals)) = false := by rw [I.ok.kind]; rfl
  have hiσ : i < σ.length := by rw [I.len]; exact (List.getElem?_eq_some_iff.mp hi).1
  have cne := I.cne
  have tracked : ∀ {a : Addr} {h' : Heap}, (∃ o, s.heap.get? a = some o ∧ H a = none) → Heap.SameBut a s.heap h' → HOk X.prog X.w H h' := fun {a h'} ha hs b ob e => by
    obtain ⟨_, _, hfree⟩ := ha
    refine (I.hok b ob e).stay (fun c w' hc q => (hs.2 c ?_).trans q) (fun _ q => q) fun _ _ q => q
    rintro rfl
    rcases hc with rfl | hc
    · rw [hfree] at e; cases e
    · rw [hfree] at hc; cases hc
  rcases hx with hk | hk
  · refine wpAny_storeName_local hk hn (fun h' hn' hs => ?_) hcls
    obtain ⟨oL, _, _, hoL, _⟩ := id hn
    refine h _ ⟨I.ok, I.os, I.bare, ⟨fun b o e n hb hx => ?_, fun b o e n hb hx => ?_, I.base.free, fun b o e hx => ?_, I.base.tups, I.base.frzs, I.base.tbls⟩, ⟨_, hn', fun j y v' e1 e2 e3 => ?_⟩, fun y c e => ?_, I.free, I.freeC, fun p hp => ?_, tracked ⟨oL, hoL, I.free⟩ hs, by simpa using I.len⟩ ⟨_, hs, .inl rfl⟩
    · exact (hs.2 b (Nat.ne_of_lt (Nat.lt_of_lt_of_le (Heap.lt_size e) I.ok.above))).trans (I.base.keep b o e n hb hx)
    · obtain ⟨sl, e1⟩ := I.base.slot b o e n hb hx
      exact ⟨sl, (hs.2 b (Nat.ne_of_lt (Nat.lt_of_lt_of_le (Heap.lt_size e) I.ok.above))).trans e1⟩
    · obtain ⟨o', e1⟩ := I.base.there b o e hx
      exact ⟨o', (hs.2 b (Nat.ne_of_lt (Nat.lt_of_lt_of_le (Heap.lt_size e) I.ok.above))).trans e1⟩
    · by_cases hj : j = i
      · subst hj
        rw [hi] at e1; cases e1
        rw [List.getElem?_set_self hiσ] at e2
        cases e2
        exact ⟨u, r, .inl ⟨hk, by simp⟩⟩
      · rw [List.getElem?_set_ne (Ne.symm hj)] at e2
        obtain ⟨u', r', q⟩ := hl j y v' e1 e2 e3
        refine ⟨u', r', ?_⟩
        rcases q with ⟨k, e⟩ | ⟨k, c, e, z⟩
        · refine .inl ⟨k, ?_⟩
          have : y ≠ x := fun e => hj (nodup_ix hN e1 (e ▸ hi))
          simp [this, e]
        · exact .inr ⟨k, c, e, z.sameBut hs (cne y c e)⟩
    · obtain ⟨w', z⟩ := I.cell y c e
      exact ⟨w', z.sameBut hs (cne y c e)⟩
    · obtain ⟨e, n, ne, nf, d⟩ := I.pin p hp
      exact ⟨(hs.2 p.1 ne).trans e, n, ne, nf, d⟩
  · have hfn : X.fn x = true := by
      rcases hf with z | z
      · exact z
      · rw [z] at hk; cases hk
    obtain ⟨c, hc⟩ := I.ok.has x (.inl hk)
    obtain ⟨w', z⟩ := I.cell x c hc
    refine wpAny_storeName_cell I.ok.kind hk hc z (fun h' hc' hs => ?_)
    obtain ⟨oc, hoc, hocd⟩ := id z
    refine h { s with heap := h' } ⟨I.ok, I.os, I.bare, ⟨fun b o e n hb hx => ?_, fun b o e n hb hx => ?_, I.base.free, fun b o e hx => ?_, I.base.tups, I.base.frzs, I.base.tbls⟩, ⟨m, hn.sameBut hs (Ne.symm (cne x c hc)), fun j y v' e1 e2 e3 => ?_⟩, fun y c' e => ?_, I.free, I.freeC, fun p hp => ?_, tracked ⟨oc, hoc, I.freeC x c hc⟩ hs, by simpa using I.len⟩ ⟨c, hs, .inr hc⟩
    · exact (hs.2 b (Nat.ne_of_lt (Nat.lt_of_lt_of_le (Heap.lt_size e) (I.ok.cab x c hfn hc)))).trans (I.base.keep b o e n hb hx)
    · obtain ⟨sl, e1⟩ := I.base.slot b o e n hb hx
      exact ⟨sl, (hs.2 b (Nat.ne_of_lt (Nat.lt_of_lt_of_le (Heap.lt_size e) (I.ok.cab x c hfn hc)))).trans e1⟩
    · obtain ⟨o', e1⟩ := I.base.there b o e hx
      exact ⟨o', (hs.2 b (Nat.ne_of_lt (Nat.lt_of_lt_of_le (Heap.lt_size e) (I.ok.cab x c hfn hc)))).trans e1⟩
    · by_cases hj : j = i
      · subst hj
        rw [hi] at e1; cases e1
        rw [List.getElem?_set_self hiσ] at e2
        cases e2
        exact ⟨u, r, .inr ⟨.inl hk, c, hc, hc'⟩⟩
      · rw [List.getElem?_set_ne (Ne.symm hj)] at e2
        obtain ⟨u', r', q⟩ := hl j y v' e1 e2 e3
        refine ⟨u', r', ?_⟩
        rcases q with q | ⟨k, c', e, z'⟩
        · exact .inl q
        · refine .inr ⟨k, c', e, z'.sameBut hs ?_⟩
          rintro rfl
          exact hj (nodup_ix hN e1 (I.ok.inj _ _ _ e hc ▸ hi))
    · by_cases hcc : c' = c
      · subst hcc; exact ⟨_, hc'⟩
      · obtain ⟨w2, z2⟩ := I.cell y c' e
        exact ⟨w2, z2.sameBut hs hcc⟩
    · obtain ⟨e, n, ne, nf, d⟩ := I.pin p hp
      refine ⟨(hs.2 p.1 ?_).trans e, n, ne, nf, d⟩
      intro q
      rw [q, hoc] at e
      have q' : oc = p.2 := Option.some.inj e
      exact d w' (by rw [← q']; exact hocd)
theorem store_ok {M : Model} {A : Around} {E : Value → Shared → Prop} {i : Nat} {x : Str} {v : V} {u : Value} {Q : Unit → Shared → Prop} (I : Inv X pins σ H s) (hN : X.N.Nodup) (hi : X.N[i]? = some x) (hx : Loc X.env.scope x) (r : RelV v u)
    (h : ∀ s', Inv X pins (σ.set i (some v)) H s' → Q () s') (hf : X.fn x = true ∨ X.env.scope.names.lookup x = some .local := by first | exact .inl rfl | exact .inr rfl | assumption) : wpAny M A (storeName X.env x u) Q E s :=
  store_ok2 I hN hi hx r (fun s' I' _ => h s' I') hf
/-- behind a call or a block, the state as it is -/
theorem Inv.call' {s' : Shared} {ch : List Addr} (I : Inv X pins σ H s) (ho : s'.os = s.os) (u : Un (frs X.stack) ch H H' s.heap s'.heap) (hok : HOk X.prog X.w H' s'.heap) (hg : AllBare s'.gens)
    (hch : ∀ b ∈ ch, (b ∈ X.ex ∨ X.s_0.heap.objs.size ≤ b) ∧ b ≠ X.env.locals ∧ (∀ x c, X.env.cells.lookup x = some c → c ≠ b) ∧ ∀ p ∈ X.pn ++ pins, p.1 ≠ b) : Inv X pins σ H' s' := by
  obtain ⟨h', g', d', t', o'⟩ := s'
  have e : o' = s.os := ho
  subst e
  exact I.call (g' := g') (t' := t') (d' := d') u hok hg hch
end
/-- an exception: its class, its own dict's address (where it has one), the abstract heap behind it -/
abbrev XK := Value → Option Addr → Hp → Prop
abbrev St := List (Option V)
abbrev VK := V → Hp → Prop
/-- an expression's reading; a test's; an argument list's -/
abbrev TE := St → Hp → VK → Prop
abbrev TT := St → Hp → (Bool → Hp → Prop) → Prop
abbrev TA := St → Hp → (List V → Hp → Prop) → Prop
/-- what is wanted behind a statement -/
structure Ends where
  nx : St → Hp → Prop
  rt : VK
  bk : St → Hp → Prop := fun _ _ => False
  ct : St → Hp → Prop := fun _ _ => False
abbrev TS := Ends → St → Hp → Prop
def EP (X : Cx) (pins : List (Addr × Obj)) (σ : St) (Q : VK) (u : Value) (s' : Shared) : Prop := ∃ v H', Inv X pins σ H' s' ∧ RelV v u ∧ Q v H'
def TP (X : Cx) (pins : List (Addr × Obj)) (σ : St) (Q : Bool → Hp → Prop) (b : Bool) (s' : Shared) : Prop := ∃ H', Inv X pins σ H' s' ∧ Q b H'
def AP (X : Cx) (pins : List (Addr × Obj)) (σ : St) (Q : List V → Hp → Prop) (us : List Value) (s' : Shared) : Prop := ∃ vs H', Inv X pins σ H' s' ∧ Vals vs us ∧ Q vs H'
def SP (X : Cx) (pins : List (Addr × Obj)) (D : Ends) (f : Flow) (s' : Shared) : Prop :=
  match f with
  | .next => ∃ σ' H', Inv X pins σ' H' s' ∧ D.nx σ' H'
  | .brk => ∃ σ' H', Inv X pins σ' H' s' ∧ D.bk σ' H'
  | .cont => ∃ σ' H', Inv X pins σ' H' s' ∧ D.ct σ' H'
  | .ret u => ∃ v σ' H', Inv X pins σ' H' s' ∧ RelV v u ∧ D.rt v H'
def PE (X : Cx) (e : Expr) (t : TE) : Prop :=
  ∀ (pins : List (Addr × Obj)) (s : Shared) (σ : St) (H : Hp) (Q : VK), Inv X pins σ H s → t σ H Q → wpAny (model X.prog X.w) X.A (eval e X.env) (EP X pins σ Q) X.xe s
def PT (X : Cx) (e : Expr) (t : TT) : Prop :=
  ∀ (pins : List (Addr × Obj)) (s : Shared) (σ : St) (H : Hp) (Q : Bool → Hp → Prop), Inv X pins σ H s → t σ H Q → wpAny (model X.prog X.w) X.A (isTrue e X.env (eval e X.env)) (TP X pins σ Q) X.xe s
/-- a test whatever its 'whole' is (and, or) -/
def PW (X : Cx) (e : Expr) (t : TT) : Prop :=
  ∀ (whole : Sem Value) (pins : List (Addr × Obj)) (s : Shared) (σ : St) (H : Hp) (Q : Bool → Hp → Prop), Inv X pins σ H s → t σ H Q → wpAny (model X.prog X.w) X.A (isTrue e X.env whole) (TP X pins σ Q) X.xe s
theorem PW.pt {X : Cx} {e : Expr} {t : TT} (h : PW X e t) : PT X e t := h _
/-- an argument list (no star), from the left -/
def PA (X : Cx) (es : List Expr) (t : TA) : Prop :=
  ∀ (pos : Pos) (pins : List (Addr × Obj)) (s : Shared) (σ : St) (H : Hp) (Q : List V → Hp → Prop), Inv X pins σ H s → t σ H Q → wpAny (model X.prog X.w) X.A (spliced (backTo pos (starEach es X.env))) (AP X pins σ Q) X.xe s
def PS (X : Cx) (st : Stmt) (t : TS) : Prop :=
  ∀ (pins : List (Addr × Obj)) (s : Shared) (σ : St) (H : Hp) (D : Ends), Inv X pins σ H s → t D σ H → wpAny (model X.prog X.w) X.A (exec st X.env) (SP X pins D) X.xe s
def PSs (X : Cx) (st : List Stmt) (t : TS) : Prop :=
  ∀ (pins : List (Addr × Obj)) (s : Shared) (σ : St) (H : Hp) (D : Ends), Inv X pins σ H s → t D σ H → wpAny (model X.prog X.w) X.A (execs st X.env) (SP X pins D) X.xe s
/-- weaken the end -/
theorem thn {α : Type} {t : Sem α} {Q Q' : α → Shared → Prop} {M : Model} {A : Around} {E : Value → Shared → Prop} {s : Shared} (h : wpAny M A t Q E s) (hQ : ∀ a s, Q a s → Q' a s) : wpAny M A t Q' E s := wpAny_mono h hQ fun _ _ x => x
end L2
namespace L2
open PySem PySem.Spec PyProof.Rows
section
variable {X : Cx}
def tVar (i : Nat) : TE := fun σ H Q => ∃ v, σ[i]? = some (some v) ∧ Q v H
def tC (v : V) : TE := fun _ H Q => Q v H
theorem pe_var {i : Nat} {x : Str} {pos : Pos} (hN : X.N[i]? = some x) (hv : Vis X.env.scope x) (hd : (x == ("__debug__" : Str)) = false := by decide) (hcd : (x == ("__classdict__" : Str)) = false := by decide) : PE X (.Name x pos) (tVar i) := by
  intro pins s σ H Q I h
  obtain ⟨v, e, h⟩ := h
  obtain ⟨m, hn, hl⟩ := I.loc
  obtain ⟨u, r, l⟩ := hl i x v hN e hv
  have fin : EP X pins σ Q u s := ⟨v, H, I, r, h⟩
  rcases l with ⟨hk, hm⟩ | ⟨hk, c, hc, hcell⟩
  · exact wpAny_Name (wpAny_loadName_local I.ok.kind hk hn hm fin) hd
  · rcases hk with hk | hk
    · exact wpAny_Name (wpAny_loadName_cell I.ok.kind hk hc hcell fin) hd
    · exact wpAny_Name (wpAny_loadName_free I.ok.kind hk hc hcell fin hcd) hd
theorem pe_int {i j pos} : PE X (.Constant (.int i) j pos) (tC (.int i)) := fun _ _ _ H _ I h => wpAny_Constant_int ⟨.int i, H, I.tok _, ⟨_, rfl⟩, h⟩
theorem pe_bl {b j pos} : PE X (.Constant (.bool b) j pos) (tC (.bl b)) := fun _ _ _ H _ I h => Constant_bool ⟨.bl b, H, I, rfl, h⟩
theorem pe_str {x j pos} : PE X (.Constant (.str x) j pos) (tC (.str x)) := fun _ _ _ H _ I h => Calls.Constant_str ⟨.str x, H, I.tok _, ⟨_, rfl⟩, h⟩
/-- a global name of the def -/
def Gl (X : Cx) (x : Str) : Prop := X.env.kindOf x = some .globalImplicit
theorem ld_glob {E : Value → Shared → Prop} {pins : List (Addr × Obj)} {s : Shared} {σ : St} {H : Hp} {x : Str} {u : Value} {pos : Pos} {Q : Value → Shared → Prop} (I : Inv X pins σ H s) (hg : Gl X x) (hm : X.mg x = some u) (h : Q u s)
    (hd : (x == ("__debug__" : Str)) = false := by decide) : wpAny (model X.prog X.w) X.A (eval (.Name x pos) X.env) Q E s :=
  Calls.Name_function_global I.ok.kind hg (Calls.loadGlobal_global (by rw [I.ok.glob]; exact I.mod.glob.keeps I.bk) hm h) hd
theorem ld_blt {E : Value → Shared → Prop} {pins : List (Addr × Obj)} {s : Shared} {σ : St} {H : Hp} {x : Str} {u : Value} {pos : Pos} {Q : Value → Shared → Prop} (I : Inv X pins σ H s) (hg : Gl X x) (hm : X.mg x = none) (hv : bootBuiltins x = some u) (h : Q u s)
    (hn : x ≠ "__name__" := by decide) (hd : (x == ("__debug__" : Str)) = false := by decide) : wpAny (model X.prog X.w) X.A (eval (.Name x pos) X.env) Q E s := by
  obtain ⟨mb, h1, h2⟩ := I.mod.blt
  exact Calls.Name_function_global I.ok.kind hg (Calls.loadGlobal_builtin (by rw [I.ok.glob]; exact I.mod.glob.keeps I.bk) hm (by rw [I.ok.blt]; exact h1.keeps I.bk) ((h2 x hn).trans hv) h) hd
/-- a module's constant, a class, a function, as a value -/
theorem pe_glob {x : Str} {v : V} {u : Value} {pos : Pos} (hg : Gl X x) (hm : X.mg x = some u) (r : RelV v u) (hd : (x == ("__debug__" : Str)) = false := by decide) : PE X (.Name x pos) (tC v) :=
  fun _ _ _ H _ I h => ld_glob I hg hm ⟨v, H, I, r, h⟩ hd
theorem pe_bltn {x : Str} {v : V} {u : Value} {pos : Pos} (hg : Gl X x) (hm : X.mg x = none) (hv : bootBuiltins x = some u) (r : RelV v u) (hn : x ≠ "__name__" := by decide) (hd : (x == ("__debug__" : Str)) = false := by decide) : PE X (.Name x pos) (tC v) :=
  fun _ _ _ H _ I h => ld_blt I hg hm hv ⟨v, H, I, r, h⟩ hn hd
variable {a b : Expr} {ta tb : TE} {pos : Pos}
def PC (X : Cx) (op : CmpOp) (a b : Expr) (t : TE) : Prop :=
  ∀ (pins : List (Addr × Obj)) (s : Shared) (σ : St) (H : Hp) (Q : VK), Inv X pins σ H s → t σ H Q →
    wpAny (model X.prog X.w) X.A (eval a X.env) (fun v s₁ => wpAny (model X.prog X.w) X.A (eval b X.env) (fun u s₂ => wpAny (model X.prog X.w) X.A (compareOp op v u) (EP X pins σ Q) X.xe s₂) X.xe s₁) X.xe s
theorem nobehind (b : Expr) {op : CmpOp} (h : op ≠ .In) (h2 : op ≠ .NotIn) : behindInMarks op b = false := by
  have e1 : (op == CmpOp.In) = false := by cases op <;> first | rfl | exact absurd rfl h
  have e2 : (op == CmpOp.NotIn) = false := by cases op <;> first | rfl | exact absurd rfl h2
  cases b <;> simp [behindInMarks, e1, e2]
/-- a comparison as a value, as a test -/
def tB (t : TE) : TT := fun σ H Q => t σ H fun x H1 => ∃ c, x = .bl c ∧ Q c H1
theorem pt_cmp {op : CmpOp} {t : TE} (h : PC X op a b t) (h1 : behindInMarks op b = false := by first | exact nobehind _ (by decide) (by decide) | rfl) : PT X (.Compare a [op] [b] pos) (tB t) := by
  intro pins s σ H Q I hw
  refine wpAny_isTrue_Compare1 (thn (h pins s σ H _ I hw) fun v s1 h1 => thn h1 fun u s2 h2 => thn h2 fun c s3 ⟨x, H1, I1, r1, q1⟩ => ?_) h1
  obtain ⟨d, rfl, q⟩ := q1
  cases r1
  exact wpAny_truthy_bool ⟨H1, I1, q⟩
/-- an expression whose value is a bool, as a test -/
theorem pt_val {e : Expr} {t : TE} (h : PE X e t) (he : ∀ whole, isTrue e X.env whole = (do let v ← whole; standAt e.pos; holding [v] (truthy v)) := by intro _; rfl) : PT X e (tB t) := by
  intro pins s σ H Q I hw
  refine isTrue_plain (thn (h pins s σ H _ I hw) fun v s1 ⟨x, H1, I1, r1, q1⟩ => ?_) (he _)
  obtain ⟨d, rfl, q⟩ := q1
  cases r1
  exact wpAny_truthy_bool ⟨H1, I1, q⟩
variable {tA tB' : TT} {rest : List Expr}
def tAnd (t u : TT) : TT := fun σ H Q => t σ H fun c H1 => if c = true then u σ H1 Q else Q false H1
def tOr (t u : TT) : TT := fun σ H Q => t σ H fun c H1 => if c = true then Q true H1 else u σ H1 Q
def tNot (t : TT) : TT := fun σ H Q => t σ H fun c H1 => Q (!c) H1
theorem pw_and1 (ha : PT X a tA) : PW X (.BoolOp .And [a] pos) tA := by
  intro wh pins s σ H Q I h
  refine isTrue_and (thn (ha pins s σ H Q I h) fun c s1 e => ?_)
  cases c with
  | true => exact isTrue_and_nil e
  | false => exact e
theorem pw_or1 (ha : PT X a tA) : PW X (.BoolOp .Or [a] pos) tA := by
  intro wh pins s σ H Q I h
  refine isTrue_or (thn (ha pins s σ H Q I h) fun c s1 e => ?_)
  cases c with
  | false => exact isTrue_or_nil e
  | true => exact e
theorem pw_and (ha : PT X a tA) (hb : PW X (.BoolOp .And (b :: rest) pos) tB') : PW X (.BoolOp .And (a :: b :: rest) pos) (tAnd tA tB') := by
  intro wh pins s σ H Q I h
  refine isTrue_and (thn (ha pins s σ H _ I h) fun c s1 ⟨H1, I1, q1⟩ => ?_)
  cases c with
  | true => exact hb wh pins s1 σ H1 Q I1 q1
  | false => exact ⟨H1, I1, q1⟩
theorem pw_or (ha : PT X a tA) (hb : PW X (.BoolOp .Or (b :: rest) pos) tB') : PW X (.BoolOp .Or (a :: b :: rest) pos) (tOr tA tB') := by
  intro wh pins s σ H Q I h
  refine isTrue_or (thn (ha pins s σ H _ I h) fun c s1 ⟨H1, I1, q1⟩ => ?_)
  cases c with
  | true => exact ⟨H1, I1, q1⟩
  | false => exact hb wh pins s1 σ H1 Q I1 q1
theorem pt_not (ha : PT X a tA) : PT X (.UnaryOp .Not a pos) (tNot tA) := by
  intro pins s σ H Q I h
  exact isTrue_not (ha pins s σ H (fun c H1 => Q (!c) H1) I h)
/-- .. as values (bools) -/
def tAndV (ta tb : TE) : TE := fun σ H Q => ta σ H fun x H1 => ∃ c, x = .bl c ∧ if c = true then tb σ H1 Q else Q (.bl false) H1
theorem pe_one {op} {t : TE} (h : PE X a t) : PE X (.BoolOp op [a] pos) t := fun pins s σ H Q I hw => BoolOp_one (h pins s σ H Q I hw)
theorem pe_and (ha : PE X a ta) (hb : PE X (.BoolOp .And (b :: rest) pos) tb) : PE X (.BoolOp .And (a :: b :: rest) pos) (tAndV ta tb) := by
  intro pins s σ H Q I h
  refine BoolOp_and (thn (ha pins s σ H _ I h) fun v s1 ⟨x, H1, I1, r1, q1⟩ => ?_)
  obtain ⟨c, rfl, q1⟩ := q1
  cases r1
  refine wpAny_truthy_bool ?_
  cases c with
  | true => exact hb pins s1 σ H1 Q I1 q1
  | false => exact ⟨.bl false, H1, I1, rfl, q1⟩
/-- a if t else b -/
def tIf (t : TT) (ta tb : TE) : TE := fun σ H Q => t σ H fun c H1 => if c = true then ta σ H1 Q else tb σ H1 Q
theorem pe_ifExp {c : Expr} (hc : PT X c tA) (ha : PE X a ta) (hb : PE X b tb) : PE X (.IfExp c a b pos) (tIf tA ta tb) := by
  intro pins s σ H Q I h
  refine wpAny_IfExp (thn (hc pins s σ H _ I h) fun d s1 ⟨H1, I1, q1⟩ => ?_)
  cases d with
  | true => exact ha pins s1 σ H1 Q I1 q1
  | false => exact hb pins s1 σ H1 Q I1 q1
end
end L2
namespace L2
open PySem PySem.Spec PyProof.Rows
def SqL (K : PySem.W.Frag) (H : Hp) (a : Addr) (xs : List V) : Prop :=
  Rd H a (.lst xs) ∨
    ∃ (o : Obj) (its : Array Value) (n : Nat), K.lookup a = some o ∧ o.cls = .type "list" ∧ o.dict = none ∧ o.data = .seq its n ∧ its.size ≤ sizeLine ∧ Vals xs its.toList
def SqT (K : PySem.W.Frag) (H : Hp) (a : Addr) (xs : List V) : Prop :=
  Rd H a (.tup xs) ∨
    ∃ (o : Obj) (its : Array Value) (n : Nat), K.lookup a = some o ∧ o.cls = .type "tuple" ∧ o.data = .seq its n ∧ its.size ≤ sizeLine ∧ Vals xs its.toList
def absV : Value → Option V
  | .none => some .non
  | .bool b => some (.bl b)
  | .int i _ => some (.int i)
  | .str x _ => some (.str x)
  | .bytes b _ => some (.byt b)
  | .float b _ => some (.flt b)
  | .ref a => some (.ref a)
  | .type n => some (.ty n)
  | _ => none
theorem RelV.abs {x : V} {u : Value} (r : RelV x u) : absV u = some x := by
  cases x with
  | non => cases r; rfl
  | bl _ => cases r; rfl
  | int _ => obtain ⟨t, rfl⟩ := r; rfl
  | str _ => obtain ⟨t, rfl⟩ := r; rfl
  | byt _ => obtain ⟨t, rfl⟩ := r; rfl
  | flt _ => obtain ⟨t, rfl⟩ := r; rfl
  | ref _ => cases r; rfl
  | ty _ => cases r; rfl
theorem RelV.inj {x y : V} {u : Value} (r : RelV x u) (q : RelV y u) : x = y := Option.some.inj (r.abs.symm.trans q.abs)
theorem Vals.inj : ∀ {xs ys : List V} {us : List Value}, Vals xs us → Vals ys us → xs = ys
  | _, _, _, .nil, .nil => rfl
  | _, _, _, .cons r t, .cons r' t' => by rw [r.inj r', Vals.inj t t']
section
variable {X : Cx} {pins : List (Addr × Obj)} {σ : St} {H : Hp} {s : Shared} {a : Addr} {xs ys : List V}
theorem SqL.of {K : PySem.W.Frag} (h : H a = some (.lst xs)) : SqL K H a xs := .inl (.inl h)
theorem SqT.of {K : PySem.W.Frag} (h : H a = some (.tup xs)) : SqT K H a xs := .inl (.inl h)
theorem Inv.list (I : Inv X pins σ H s) (h : SqL X.K H a xs) : ∃ its : List Value, Vals xs its ∧ PlainL s.heap a its.toArray ∧ xs.length ≤ sizeLine := by
  rcases h with h | ⟨o, its, n, hk, hc, hd, hs, hz, r⟩
  · obtain ⟨z, its, n, r, e⟩ := h.ok I.hok
    exact ⟨its, r, ⟨_, n, e, rfl, rfl, rfl⟩, z⟩
  · refine ⟨its.toList, r, ⟨o, n, I.kIn a o hk, hc, hd, by simpa using hs⟩, ?_⟩
    have e := r.length
    simp only [Array.length_toList] at e
    omega
theorem Inv.tuple (I : Inv X pins σ H s) (h : SqT X.K H a xs) : ∃ its : List Value, Vals xs its ∧ IsTup s.heap a its.toArray ∧ xs.length ≤ sizeLine := by
  rcases h with h | ⟨o, its, n, hk, hc, hs, hz, r⟩
  · obtain ⟨z, its, r, p⟩ := h.ok I.hok
    exact ⟨its, r, p, z⟩
  · refine ⟨its.toList, r, ⟨o, I.kIn a o hk, hc, n, by simpa using hs⟩, ?_⟩
    have e := r.length
    simp only [Array.length_toList] at e
    omega
theorem Inv.list_inj (I : Inv X pins σ H s) (h : SqL X.K H a xs) (h' : SqL X.K H a ys) : xs = ys := by
  obtain ⟨its, r, ⟨o, n, e, _, _, d⟩, _⟩ := I.list h
  obtain ⟨its', r', ⟨o', n', e', _, _, d'⟩, _⟩ := I.list h'
  rw [e] at e'; cases e'
  rw [d] at d'
  injection d' with d1 _
  have : its = its' := by simpa using congrArg Array.toList d1
  subst this
  exact r.inj r'
theorem Inv.tuple_inj (I : Inv X pins σ H s) (h : SqT X.K H a xs) (h' : SqT X.K H a ys) : xs = ys := by
  obtain ⟨its, r, ⟨o, e, _, n, d⟩, _⟩ := I.tuple h
  obtain ⟨its', r', ⟨o', e', _, n', d'⟩, _⟩ := I.tuple h'
  rw [e] at e'; cases e'
  rw [d] at d'
  injection d' with d1 _
  have : its = its' := by simpa using congrArg Array.toList d1
  subst this
  exact r.inj r'
end
abbrev Cx.wish (X : Cx) (E : Value → Shared → Prop) : Cx := { X with xe := E }
/-- no exception leaves -/
abbrev Cx.nox (X : Cx) : Cx := X.wish fun _ _ => False
theorem Cx.Ok.wish {X : Cx} (ok : X.Ok) (E : Value → Shared → Prop) : (X.wish E).Ok :=
  ⟨ok.mod, ok.kind, ok.glob, ok.blt, ok.above, ok.inj, ok.has, ok.cab, ok.hd, ok.frames, ok.stk, ok.exf, ok.bs, ok.bsz, ok.noex, ok.exfs, ok.funs, ok.frf⟩
theorem Cx.Ok.unwish {X : Cx} {E : Value → Shared → Prop} (ok : (X.wish E).Ok) : X.Ok :=
  ⟨ok.mod, ok.kind, ok.glob, ok.blt, ok.above, ok.inj, ok.has, ok.cab, ok.hd, ok.frames, ok.stk, ok.exf, ok.bs, ok.bsz, ok.noex, ok.exfs, ok.funs, ok.frf⟩
section
variable {X : Cx} {pins : List (Addr × Obj)} {σ : St} {H : Hp} {s : Shared} {E : Value → Shared → Prop}
theorem Inv.wish (I : Inv X pins σ H s) (E : Value → Shared → Prop) : Inv (X.wish E) pins σ H s := ⟨I.ok.wish E, I.os, I.bare, I.base, I.loc, I.cell, I.free, I.freeC, I.pin, I.hok, I.len⟩
theorem Inv.unwish (I : Inv (X.wish E) pins σ H s) : Inv X pins σ H s := ⟨I.ok.unwish, I.os, I.bare, I.base, I.loc, I.cell, I.free, I.freeC, I.pin, I.hok, I.len⟩
theorem SP.unwish {D : Ends} {f : Flow} {s' : Shared} (h : SP (X.wish E) pins D f s') : SP X pins D f s' := by
  cases f with
  | next => obtain ⟨σ', H', I, q⟩ := h; exact ⟨σ', H', I.unwish, q⟩
  | brk => obtain ⟨σ', H', I, q⟩ := h; exact ⟨σ', H', I.unwish, q⟩
  | cont => obtain ⟨σ', H', I, q⟩ := h; exact ⟨σ', H', I.unwish, q⟩
  | ret u => obtain ⟨v, σ', H', I, r, q⟩ := h; exact ⟨v, σ', H', I.unwish, r, q⟩
theorem PE.nox {e : Expr} {t : TE} (h : PE X.nox e t) : PE X e t := fun pins s σ H Q I hw =>
  wpAny_mono (h pins s σ H Q (I.wish _) hw) (fun _ _ ⟨v, H', I', r, q⟩ => ⟨v, H', I'.unwish, r, q⟩) fun _ _ z => False.elim z
theorem PT.nox {e : Expr} {t : TT} (h : PT X.nox e t) : PT X e t := fun pins s σ H Q I hw =>
  wpAny_mono (h pins s σ H Q (I.wish _) hw) (fun _ _ ⟨H', I', q⟩ => ⟨H', I'.unwish, q⟩) fun _ _ z => False.elim z
theorem PSs.nox {st : List Stmt} {t : TS} (h : PSs X.nox st t) : PSs X st t := fun pins s σ H D I hw =>
  wpAny_mono (h pins s σ H D (I.wish _) hw) (fun _ _ q => q.unwish) fun _ _ z => False.elim z
end
section
variable {X : Cx} {st : Stmt} {rest : List Stmt} {t u : TS} {e : Expr} {te : TE} {pos : Pos}
def tNext : TS := fun D σ H => D.nx σ H
def tSeq (t u : TS) : TS := fun D σ H => t { D with nx := u D } σ H
theorem pss_nil : PSs X [] tNext := fun _ _ σ H _ I h => wpAny_execs_nil ⟨σ, H, I, h⟩
theorem pss_cons (h1 : PS X st t) (h2 : PSs X rest u) : PSs X (st :: rest) (tSeq t u) := by
  intro pins s σ H D I h
  refine wpAny_execs_cons (thn (h1 pins s σ H { D with nx := u D } I h) fun f s1 q => ?_)
  cases f with
  | next =>
    obtain ⟨σ', H', I', q⟩ := q
    exact h2 pins s1 σ' H' D I' q
  | ret v => exact q
  | brk => exact q
  | cont => exact q
theorem pss_one (h1 : PS X st t) : PSs X [st] t := by
  intro pins s σ H D I h
  refine wpAny_execs_cons (thn (h1 pins s σ H D I h) fun f s1 q => ?_)
  cases f with
  | next => exact wpAny_execs_nil q
  | ret v => exact q
  | brk => exact q
  | cont => exact q
/-- in a def's body nothing is shown -/
theorem Inv.quiet {pins : List (Addr × Obj)} {σ : St} {H : Hp} {s : Shared} (I : Inv X pins σ H s) : interactive X.env = false := by simp [interactive, I.ok.kind]
/-- an expression whose value is dropped -/
def tDrop (te : TE) : TS := fun D σ H => te σ H fun _ H1 => D.nx σ H1
theorem ps_expr (he : PE X e te) (hs : swapsWith e none pos.line X.env = pure false := by rfl) : PS X (.Expr e pos) (tDrop te) := by
  intro pins s σ H D I h
  exact wpAny_Expr_any (thn (he pins s σ H _ I h) fun v s1 ⟨x, H1, I1, r1, q1⟩ => ⟨σ, H1, I1, q1⟩) I.quiet hs
def tRet (te : TE) : TS := fun D σ H => te σ H D.rt
theorem ps_ret (he : PE X e te) : PS X (.Return (some e) pos) (tRet te) := by
  intro pins s σ H D I h
  exact wpAny_Return_some (thn (he pins s σ H _ I h) fun v s1 ⟨x, H1, I1, r1, q1⟩ => ⟨x, σ, H1, I1, r1, q1⟩)
def tIfS (c : TT) (t u : TS) : TS := fun D σ H => c σ H fun b H1 => if b = true then t D σ H1 else u D σ H1
theorem ps_if {c : Expr} {a b : List Stmt} {tc : TT} (hc : PT X c tc) (ha : PSs X a t) (hb : PSs X b u) : PS X (.If c a b pos) (tIfS tc t u) := by
  intro pins s σ H D I h
  refine wpAny_If (thn (hc pins s σ H _ I h) fun d s1 ⟨H1, I1, q1⟩ => ?_)
  cases d with
  | true => exact ha pins s1 σ H1 D I1 q1
  | false => exact hb pins s1 σ H1 D I1 q1
/-- code that the proof never comes to -/
def tNever : TS := fun _ _ _ => False
theorem ps_never : PS X st tNever := fun _ _ _ _ _ _ h => h.elim
end
abbrev TG := V → St → Hp → (St → Hp → Prop) → Prop
abbrev TGs := List V → St → Hp → (St → Hp → Prop) → Prop
def PG (X : Cx) (target : Expr) (t : TG) : Prop :=
  ∀ (pins : List (Addr × Obj)) (s : Shared) (σ : St) (H : Hp) (v : V) (u : Value) (Q : St → Hp → Prop), Inv X pins σ H s → RelV v u → t v σ H Q →
    wpAny (model X.prog X.w) X.A (assign target X.env u) (fun _ s' => ∃ σ' H', Inv X pins σ' H' s' ∧ Q σ' H') X.xe s
/-- several targets, one after another -/
def PGs (X : Cx) (ts : List Expr) (t : TGs) : Prop :=
  ∀ (pins : List (Addr × Obj)) (s : Shared) (σ : St) (H : Hp) (vs : List V) (us : List Value) (Q : St → Hp → Prop), Inv X pins σ H s → Vals vs us → t vs σ H Q →
    wpAny (model X.prog X.w) X.A (assignInOrder ((assignEach ts X.env).map (·.2)) us) (fun _ s' => ∃ σ' H', Inv X pins σ' H' s' ∧ Q σ' H') X.xe s
section
variable {X : Cx} {pos : Pos}
def gName (i : Nat) : TG := fun v σ H Q => Q (σ.set i (some v)) H
theorem pg_name {i : Nat} {x : Str} (hN : X.N.Nodup) (hi : X.N[i]? = some x) (hx : Loc X.env.scope x) (hf : X.fn x = true ∨ X.env.scope.names.lookup x = some .local := by first | exact .inl rfl | exact .inr rfl | assumption) : PG X (.Name x pos) (gName i) := by
  intro pins s σ H v u Q I r h
  exact wpAny_assign_Name (store_ok I hN hi hx r (fun s' I' => ⟨_, H, I', h⟩) hf)
def gNil : TGs := fun vs σ H Q => vs = [] ∧ Q σ H
def gCons (t : TG) (u : TGs) : TGs := fun vs σ H Q => ∃ v r, vs = v :: r ∧ t v σ H fun σ' H' => u r σ' H' Q
theorem pgs_nil : PGs X [] gNil := by
  intro pins s σ H vs us Q I r h
  obtain ⟨e, h⟩ := h
  subst e
  cases r
  exact assignInOrder_nil ⟨σ, H, I, h⟩
theorem pgs_cons {e : Expr} {es : List Expr} {t : TG} {u : TGs} (h1 : PG X e t) (h2 : PGs X es u)
    (hs : (assignEach (e :: es) X.env).map (·.2) = assign e X.env :: (assignEach es X.env).map (·.2) := by rfl) : PGs X (e :: es) (gCons t u) := by
  intro pins s σ H vs us Q I r h
  obtain ⟨v, vr, e1, h⟩ := h
  subst e1
  cases r with
  | cons r rr =>
    rw [hs]
    refine assignInOrder_cons (thn (h1 pins s σ H _ _ _ I r h) fun _ s1 ⟨σ1, H1, I1, q1⟩ => ?_)
    exact h2 pins s1 σ1 H1 _ _ Q I1 rr q1
/-- (a, b, ..) = a tuple of that length -/
def gTup (K : PySem.W.Frag) (n : Nat) (t : TGs) : TG := fun v σ H Q => ∃ a xs, v = .ref a ∧ SqT K H a xs ∧ xs.length = n ∧ t xs σ H Q
theorem pg_tup {es : List Expr} {k : Nat} {t : TGs} {n : Nat} (hc : X.calm = true) (h : PGs X es t)
    (hn : (assignEach es X.env).length = n := by rfl) (hst : (assignEach es X.env).findIdx? (·.1) = none := by rfl) : PG X (.Tuple es k pos) (gTup X.K n t) := by
  intro pins s σ H v u Q I r hw
  obtain ⟨a, xs, e1, hq, hl, hw⟩ := hw
  subst e1
  cases r
  obtain ⟨its, rv, ht, hz⟩ := I.tuple hq
  refine assign_Tuple_tuple (I.ok.hd hc) ht (by simp [hn, ← hl, rv.length]) hst fun h' hx => ?_
  have I1 : Inv X pins σ H { s with heap := h' } := I.kept (t' := s.toks) fun b o e => hx b o (Nat.ne_of_lt (Heap.lt_size e)) e
  exact h pins _ σ H xs _ Q I1 (by simpa using rv) hw
/-- target = value -/
def tAsg (te : TE) (g : TG) : TS := fun D σ H => te σ H fun x H1 => g x σ H1 D.nx
theorem ps_asg {tg e : Expr} {te : TE} {g : TG} (he : PE X e te) (hg : PG X tg g) (hs : swapsWithSole [tg] e pos.line X.env = pure false := by rfl) (hw : swappedStores [tg] e X.env = pure none := by rfl)
    (h1 : (assignEach [tg] X.env).map (·.2) = [assign tg X.env] := by rfl) : PS X (.Assign [tg] e pos) (tAsg te g) := by
  intro pins s σ H D I h
  refine wpAny_Assign_stores (thn (he pins s σ H _ I h) fun v s1 ⟨x, H1, I1, r1, q1⟩ => ?_) hs hw
  rw [h1]
  exact thn (hg pins s1 σ H1 x v _ I1 r1 q1) fun _ s2 q => q
/-- name = value -/
theorem ps_set {i : Nat} {x : Str} {e : Expr} {te : TE} {pos' : Pos} (hN : X.N.Nodup) (hi : X.N[i]? = some x) (hx : Loc X.env.scope x) (he : PE X e te) (hs : swapsWith e (some (.Name x pos')) pos.line X.env = pure false := by rfl) (hf : X.fn x = true ∨ X.env.scope.names.lookup x = some .local := by first | exact .inl rfl | exact .inr rfl | assumption) :
    PS X (.Assign [.Name x pos'] e pos) (tAsg te (gName i)) := by
  intro pins s σ H D I h
  refine wpAny_Assign_Name (thn (he pins s σ H _ I h) fun v s1 ⟨y, H1, I1, r1, q1⟩ => ?_) hs
  exact store_ok I1 hN hi hx r1 (fun s2 I2 => ⟨_, H1, I2, q1⟩) hf
/-- a, b = x, y with plain local names: stored from the right; the pair itself is not tracked (the opening rows as in PyProof/Rows/TupAssign.lean:23) -/
def tPar (i j : Nat) (ta : TA) : TS := fun D σ H => ta σ H fun vs H1 => ∃ v w, vs = [v, w] ∧ D.nx ((σ.set i (some v)).set j (some w)) H1
theorem ps_par {i j : Nat} {x y : Str} {a b : Expr} {ta : TA} {px py pt : Pos} {kt k2 pt2} (hc : X.calm = true) (hN : X.N.Nodup) (hi : X.N[i]? = some x) (hj : X.N[j]? = some y) (hij : i ≠ j)
    (hx : X.env.scope.names.lookup x = some .local) (hy : X.env.scope.names.lookup y = some .local) (ha : PA X [a, b] ta)
    (hw : swappedStores [.Tuple [.Name x px, .Name y py] kt pt] (.Tuple [a, b] k2 pt2) X.env = pure (some [x, y]))
    (hs : swapsWithSole [.Tuple [.Name x px, .Name y py] kt pt] (.Tuple [a, b] k2 pt2) pos.line X.env = pure false := by rfl) :
    PS X (.Assign [.Tuple [.Name x px, .Name y py] kt pt] (.Tuple [a, b] k2 pt2) pos) (tPar i j ta) := by
  intro pins s σ H D I h
  rw [exec_Assign_arm]
  refine wpAny_bind (wpAny_standAt ?_)
  rw [hs]
  refine wpAny_bind (wpAny_pure ?_)
  rw [if_neg (by decide)]
  refine wpAny_bind (Tuple_ (thn (ha _ pins s σ H _ I h) fun us s1 ⟨vs, H1, I1, r1, q1⟩ => ?_))
  obtain ⟨v, w, e1, q1⟩ := q1
  subst e1
  obtain ⟨u1, u2, rfl, rv, rw'⟩ : ∃ u1 u2, us = [u1, u2] ∧ RelV v u1 ∧ RelV w u2 := by
    cases r1 with
    | cons p q =>
      cases q with
      | cons p' q' =>
        cases q'
        exact ⟨_, _, rfl, p, p'⟩
  refine wpAny_newObj_type ?_ (by show 2 ≤ sizeLine; decide)
  have I2 : Inv X pins σ H1 { s1 with heap := s1.heap.push { cls := .type "tuple", data := .seq [u1, u2].toArray } } := I1.kept (t' := s1.toks) fun b o e => Heap.get?_push_of_some _ e
  rw [hw]
  refine wpAny_bind (wpAny_pure ?_)
  show wpAny (model X.prog X.w) X.A (do rule "assign.swapped-stores"; let items ← unpackItems (.ref s1.heap.objs.size) 2 none; assignInOrder [fun v => bindName X.env y v, fun v => bindName X.env x v] items.reverse; pure Flow.next) _ _ _
  refine wpAny_bind (wpAny_rule (wpAny_bind (unpackItems_tuple (items := #[u1, u2]) (I.ok.hd hc) (IsTup.new s1.heap _) fun h' hx' => ?_)))
  have I3 := I2.kept (h' := h') (t' := s1.toks) fun b o e => hx' b o (Nat.ne_of_lt (Heap.lt_size e)) e
  show wpAny _ _ (assignInOrder [fun v => bindName X.env y v, fun v => bindName X.env x v] [u2, u1] >>= fun _ => pure Flow.next) _ _ _
  refine wpAny_bind (assignInOrder_cons (wpAny_bindName (store_ok I3 hN hj (.inl hy) rw' (fun s2 I4 => ?_) (.inr hy))))
  refine assignInOrder_cons (wpAny_bindName (store_ok I4 hN hi (.inl hx) rv (fun s3 I5 => assignInOrder_nil (wpAny_pure ?_)) (.inr hx)))
  rw [List.set_comm _ _ (Ne.symm hij)] at I5
  exact ⟨_, H1, I5, q1⟩
end
section
variable {X : Cx} {pos : Pos}
/-- the invariant W with its measure -/
def tWhile (c : TT) (tb : TS) : TS := fun D σ H => ∃ W : Nat → St → Hp → Prop, (∃ m, W m σ H) ∧ ∀ m σ H, W m σ H →
  c σ H fun b H1 => if b = true then ∃ N : St → Hp → Prop, (∀ σ' H', N σ' H' → ∃ m', m' < m ∧ W m' σ' H') ∧ tb { D with nx := N, ct := N, bk := D.nx } σ H1 else D.nx σ H1
theorem ps_while {c : Expr} {body : List Stmt} {tc : TT} {tb : TS} (hp : PassesOwn (model X.prog X.w) X.A X.env X.xe) (hc : PT X c tc) (hb : PSs X body tb) : PS X (.While c body [] pos) (tWhile tc tb) := by
  intro pins s σ H D I h
  obtain ⟨W, ⟨m0, w0⟩, turn⟩ := h
  refine wpAny_While (codeAny_whileLoop (fun n s' => ∃ σ' H', Inv X pins σ' H' s' ∧ W n σ' H') ?_ m0 ⟨σ, H, I, w0⟩)
  rintro n s1 ⟨σ1, H1, I1, w1⟩
  refine wpAny_passesOwn hp (thn (hc pins s1 σ1 H1 _ I1 (turn n σ1 H1 w1)) fun b s2 ⟨H2, I2, q2⟩ => ?_)
  cases b with
  | true =>
    obtain ⟨N, hN, q2⟩ := q2
    rw [if_pos rfl]
    refine wpAny_passesOwn hp (thn (hb pins s2 σ1 H2 _ I2 q2) fun f s3 q3 => ?_)
    cases f with
    | next =>
      obtain ⟨σ3, H3, I3, n3⟩ := q3
      obtain ⟨m', hm, w3⟩ := hN σ3 H3 n3
      exact ⟨m', hm, σ3, H3, I3, w3⟩
    | cont =>
      obtain ⟨σ3, H3, I3, n3⟩ := q3
      obtain ⟨m', hm, w3⟩ := hN σ3 H3 n3
      exact ⟨m', hm, σ3, H3, I3, w3⟩
    | brk => exact q3
    | ret v => exact q3
  | false =>
    rw [if_neg Bool.false_ne_true]
    exact wpAny_execs_nil ⟨σ1, H2, I2, q2⟩
end
/-- at turn i: it yields x (the heap may grow), or it stops -/
structure It where
  go : Nat → Hp → Prop
  yld : Nat → Hp → V → Hp → Prop
  stop : Nat → Hp → Prop
/-- the iterator's own objects may turn: they are not the frame's, not pinned, younger than the entry (or a comprehension's own) -/
def FpOk (X : Cx) (pins : List (Addr × Obj)) (H : Hp) (b : Addr) : Prop :=
  H b = none ∧ b ≠ X.env.locals ∧ b ∉ X.fs ∧ (b ∈ X.ex ∨ X.s_0.heap.objs.size ≤ b) ∧ (∀ x c, X.env.cells.lookup x = some c → c ≠ b) ∧ ∀ p ∈ X.pn ++ pins, p.1 ≠ b
theorem Inv.fpOk {X : Cx} {pins : List (Addr × Obj)} {σ : St} {H H' : Hp} {s : Shared} {b : Addr} (I : Inv X pins σ H s) (hb : s.heap.objs.size ≤ b) (hn : H' b = none) : FpOk X pins H' b := by
  refine ⟨hn, Nat.ne_of_gt (Nat.lt_of_lt_of_le I.lt hb), I.nofs hb, .inr (Nat.le_trans I.sz hb), fun x c e z => ?_, fun p hp z => ?_⟩
  · obtain ⟨v, q⟩ := I.cell x c e
    exact absurd (Nat.lt_of_lt_of_le q.lt (by rw [z]; exact hb)) (Nat.lt_irrefl _)
  · exact absurd (Nat.lt_of_lt_of_le (Heap.lt_size (I.pin p hp).1) (by rw [z]; exact hb)) (Nat.lt_irrefl _)
structure Turn (P : Program) (w : World) (K : PySem.W.Frag) (tg : Expr) (J : It) (fp : List Addr) (it : Addr) (tn : Nat → Heap → Prop) : Prop where
  mem : it ∈ fp
  obj : ∀ i h, tn i h → ∀ b ∈ fp, ∃ o, h.get? b = some o ∧ ∀ v, o.data ≠ .cell v
  keep : ∀ i h h', tn i h → (∀ b ∈ fp, ∀ o, h.get? b = some o → h'.get? b = some o) → tn i h'
  item : ∀ (X : Cx), X.prog = P → X.w = w → X.K = K → X.calm = true → ∀ (i : Nat) (pins : List (Addr × Obj)) (s : Shared) (σ : St) (H : Hp) (E : Value → Shared → Prop), Inv X pins σ H s → (∀ b ∈ fp, FpOk X pins H b) → tn i s.heap → J.go i H →
    wpAny (model P w) X.A (pyNext (.ref it)) (fun r s1 => ∃ u, r = some u ∧
      wpAny (model P w) X.A (letOwnedTupleGo tg (.ref it) u) (fun _ s2 => ∃ x H', Inv X pins σ H' s2 ∧ RelV x u ∧ J.yld i H x H' ∧ tn (i + 1) s2.heap ∧ ∀ b ∈ fp, H' b = none) E s1) E s
  done : ∀ (X : Cx), X.prog = P → X.w = w → X.K = K → X.calm = true → ∀ (i : Nat) (pins : List (Addr × Obj)) (s : Shared) (σ : St) (H : Hp) (E : Value → Shared → Prop), Inv X pins σ H s → (∀ b ∈ fp, FpOk X pins H b) → tn i s.heap → J.stop i H →
    wpAny (model P w) X.A (pyNext (.ref it)) (fun r s1 => r = none ∧ Inv X pins σ H s1) E s
  self : ∀ (A : Around) (i : Nat) (s : Shared) (Q : Value → Shared → Prop) (E : Value → Shared → Prop), tn i s.heap → Q (.ref it) s → wpAny (model P w) A (pyIter (.ref it)) Q E s
abbrev TI := St → Hp → (It → Hp → Prop) → Prop
/-- an iterator has come -/
def PIE (X : Cx) (pins : List (Addr × Obj)) (σ : St) (tg : Expr) (R : It → Hp → Prop) (itv : Value) (s2 : Shared) : Prop :=
  ∃ (it : Addr) (fp : List Addr) (tn : Nat → Heap → Prop) (J : It) (H' : Hp), itv = .ref it ∧ Inv X pins σ H' s2 ∧ Turn X.prog X.w X.K tg J fp it tn ∧ tn 0 s2.heap ∧ (∀ b ∈ fp, FpOk X pins H' b) ∧ R J H'
def PI (X : Cx) (tg iter : Expr) (wi : TI) : Prop :=
  ∀ (pins : List (Addr × Obj)) (s : Shared) (σ : St) (H : Hp) (R : It → Hp → Prop), Inv X pins σ H s → wi σ H R →
    wpAny (model X.prog X.w) X.A (eval iter X.env) (fun v s1 => wpAny (model X.prog X.w) X.A (pyIter v) (PIE X pins σ tg R) X.xe s1) X.xe s
/-- the step ahead of the store is nothing for an iterator that keeps no tuple -/
theorem go_of {M : Model} {A : Around} {E : Value → Shared → Prop} {s : Shared} {tg : Expr} {it : Addr} {u : Value} {o : Obj} {n : String} {vs : Array Value} {Q : Unit → Shared → Prop} (ho : s.heap.get? it = some o) (hc : o.cls = .type n) (hd : o.data = .fields vs)
    (hn : ["enumerate", "zip", "dict_itemiterator", "dict_reverseitemiterator", "odict_iterator", "itertools.zip_longest", "itertools.pairwise"].contains n = false) (hQ : Q () s) : wpAny M A (letOwnedTupleGo tg (.ref it) u) Q E s := by
  unfold letOwnedTupleGo
  cases tg <;> first
    | exact wpAny_pure hQ
    | (cases u <;> first
        | exact wpAny_pure hQ
        | (refine wpAny_bind (wpAny_load ho ?_)
           rw [hc, hd]
           show wpAny M A (if (["enumerate", "zip", "dict_itemiterator", "dict_reverseitemiterator", "odict_iterator", "itertools.zip_longest", "itertools.pairwise"].contains n && vs[0]? == some (rawInt _)) = true then _ else _) Q E s
           rw [if_neg (by intro h; rw [hn, Bool.false_and] at h; cases h)]
           exact wpAny_pure hQ))
/-- the list at a, as it stands at each turn (a loop may append to it) -/
def Itl (K : PySem.W.Frag) (a : Addr) : It :=
  ⟨fun i H => ∃ xs x, SqL K H a xs ∧ xs[i]? = some x, fun i H x H' => H' = H ∧ ∀ xs, SqL K H a xs → xs[i]? = some x, fun i H => ∃ xs, SqL K H a xs ∧ xs.length ≤ i⟩
def Itt (K : PySem.W.Frag) (a : Addr) : It :=
  ⟨fun i H => ∃ xs x, SqT K H a xs ∧ xs[i]? = some x, fun i H x H' => H' = H ∧ ∀ xs, SqT K H a xs → xs[i]? = some x, fun i H => ∃ xs, SqT K H a xs ∧ xs.length ≤ i⟩
/-- lo, lo + 1, .. (n of them) -/
def Itr (lo : Int) (n : Nat) : It := ⟨fun i _ => i < n, fun i H x H' => H' = H ∧ x = .int (lo + i), fun i _ => n ≤ i⟩
theorem turn_list {P : Program} {w : World} {K : PySem.W.Frag} {tg : Expr} (a it : Addr) : Turn P w K tg (Itl K a) [it] it (fun i h => h.IsListIter it a i) where
  mem := by simp
  obj := fun i h st b hb => by
    have e : b = it := by simpa using hb
    subst e
    obtain ⟨o, e, c, d⟩ := st
    exact ⟨o, e, fun v z => by rw [d] at z; cases z⟩
  keep := fun i h h' st k => st.at fun o e => k it (by simp) o e
  item := by
    intro X hP hw hK hc i pins s σ H E I hf st hg
    subst hP hw hK
    obtain ⟨xs, x, hq, hx⟩ := hg
    obtain ⟨its, rv, p, hz⟩ := I.list hq
    obtain ⟨u, hu, ru⟩ := rv.get hx
    obtain ⟨f0, f1, f2, f3, f4, f5⟩ := hf it (by simp)
    refine wpAny_pyNext_list_item st p.isList (x := u) (by simpa using hu) fun h' st' sb => ?_
    have I1 : Inv X pins σ H { s with heap := h' } := I.turned (t' := s.toks) (fun b o hb e => (sb.2 b hb).trans e) f0 f1 f3 f4 f5
    obtain ⟨o, e, c, d⟩ := id st'
    exact ⟨u, rfl, go_of (s := { s with heap := h' }) e c d (by decide) ⟨x, H, I1, ru, ⟨rfl, fun ys hy => by rw [I.list_inj hy hq]; exact hx⟩, st', fun b hb => (hf b hb).1⟩⟩
  done := by
    intro X hP hw hK hc i pins s σ H E I hf st hg
    subst hP hw hK
    obtain ⟨xs, hq, hx⟩ := hg
    obtain ⟨its, rv, p, hz⟩ := I.list hq
    obtain ⟨f0, f1, f2, f3, f4, f5⟩ := hf it (by simp)
    have hl := rv.length
    exact wpAny_pyNext_list_end (I.ok.hd hc) st p.isList (by simp; omega) fun h' eb => ⟨rfl, I.turned (t' := s.toks) (fun b o hb e => eb b o hb e) f0 f1 f3 f4 f5⟩
  self := fun _ _ _ _ _ st h => wpAny_pyIter_listiter st h
theorem turn_tuple {P : Program} {w : World} {K : PySem.W.Frag} {tg : Expr} (a it : Addr) : Turn P w K tg (Itt K a) [it] it (fun i h => h.IsTupleIter it a i) where
  mem := by simp
  obj := fun i h st b hb => by
    have e : b = it := by simpa using hb
    subst e
    obtain ⟨o, e, c, d⟩ := st
    exact ⟨o, e, fun v z => by rw [d] at z; cases z⟩
  keep := fun i h h' st k => st.at fun o e => k it (by simp) o e
  item := by
    intro X hP hw hK hc i pins s σ H E I hf st hg
    subst hP hw hK
    obtain ⟨xs, x, hq, hx⟩ := hg
    obtain ⟨its, rv, p, hz⟩ := I.tuple hq
    obtain ⟨u, hu, ru⟩ := rv.get hx
    obtain ⟨f0, f1, f2, f3, f4, f5⟩ := hf it (by simp)
    refine wpAny_pyNext_tuple_item st (show s.heap.IsTuple a its.toArray from p) (x := u) (by simpa using hu) fun h' st' sb => ?_
    have I1 : Inv X pins σ H { s with heap := h' } := I.turned (t' := s.toks) (fun b o hb e => (sb.2 b hb).trans e) f0 f1 f3 f4 f5
    obtain ⟨o, e, c, d⟩ := id st'
    exact ⟨u, rfl, go_of (s := { s with heap := h' }) e c d (by decide) ⟨x, H, I1, ru, ⟨rfl, fun ys hy => by rw [I.tuple_inj hy hq]; exact hx⟩, st', fun b hb => (hf b hb).1⟩⟩
  done := by
    intro X hP hw hK hc i pins s σ H E I hf st hg
    subst hP hw hK
    obtain ⟨xs, hq, hx⟩ := hg
    obtain ⟨its, rv, p, hz⟩ := I.tuple hq
    obtain ⟨f0, f1, f2, f3, f4, f5⟩ := hf it (by simp)
    have hl := rv.length
    exact wpAny_pyNext_tuple_end (I.ok.hd hc) st (show s.heap.IsTuple a its.toArray from p) (by simp; omega) fun h' eb => ⟨rfl, I.turned (t' := s.toks) (fun b o hb e => eb b o hb e) f0 f1 f3 f4 f5⟩
  self := fun _ _ _ _ _ st h => wpAny_pyIter_tupleiter st h
theorem turn_range {P : Program} {w : World} {K : PySem.W.Frag} {tg : Expr} (it : Addr) (lo : Int) (n : Nat) : Turn P w K tg (Itr lo n) [it] it (fun i h => IsRangeIter h it (lo + (i : Nat) * 1) ((n : Int) - (i : Nat)) 1) where
  mem := by simp
  obj := fun i h st b hb => by
    have e : b = it := by simpa using hb
    subst e
    exact ⟨_, st, fun v z => by
      have z' : Data.fields _ = Data.cell v := z
      cases z'⟩
  keep := fun i h h' st k => k it (by simp) _ st
  item := by
    intro X hP hw hK hc i pins s σ H E I hf st hg
    subst hP hw hK
    obtain ⟨f0, f1, f2, f3, f4, f5⟩ := hf it (by simp)
    have W := Walks.range (prog := X.prog) (w := X.w) (I.ok.hd hc) it lo 1 n
    refine W.item i s _ _ hg st fun v h' tk hv st' kk => ?_
    obtain ⟨t, rfl⟩ := hv
    have I1 : Inv X pins σ H { s with heap := h', toks := tk } := I.turned (fun b o hb e => kk b o (by simpa using hb) e) f0 f1 f3 f4 f5
    refine ⟨_, rfl, go_of (s := { s with heap := h', toks := tk }) (n := "range_iterator") st' rfl rfl (by decide) ⟨.int (lo + i), H, I1, ⟨t, ?_⟩, ⟨rfl, rfl⟩, st', fun b hb => (hf b hb).1⟩⟩
    rw [Int.mul_one]
  done := by
    intro X hP hw hK hc i pins s σ H E I hf st hg
    subst hP hw hK
    obtain ⟨f0, f1, f2, f3, f4, f5⟩ := hf it (by simp)
    exact wpAny_pyNext_range_end (I.ok.hd hc) st (by have : n ≤ i := hg; omega) fun h' eb => ⟨rfl, I.turned (t' := s.toks) (fun b o hb e => eb b o hb e) f0 f1 f3 f4 f5⟩
  self := fun _ _ _ _ _ st h => wpAny_pyIter_rangeiter st h
end L2
namespace L2
open PySem PySem.Spec PyProof.Rows
section
variable {X : Cx} {tg : Expr}
def iList (K : PySem.W.Frag) (tl : TE) : TI := fun σ H R => tl σ H fun x H1 => ∃ a, x = .ref a ∧ (∃ xs, SqL K H1 a xs) ∧ R (Itl K a) H1
def iTup (K : PySem.W.Frag) (tl : TE) : TI := fun σ H R => tl σ H fun x H1 => ∃ a, x = .ref a ∧ (∃ xs, SqT K H1 a xs) ∧ R (Itt K a) H1
theorem pi_list {l : Expr} {tl : TE} (hl : PE X l tl) : PI X tg l (iList X.K tl) := by
  intro pins s σ H R I h
  refine thn (hl pins s σ H _ I h) fun v s1 ⟨x, H1, I1, r1, q1⟩ => ?_
  obtain ⟨a, e, ⟨xs, hq⟩, q⟩ := q1
  subst e
  cases r1
  obtain ⟨its, rv, p, hz⟩ := I1.list hq
  refine wpAny_pyIter_list p.isList ?_
  refine ⟨s1.heap.objs.size, [s1.heap.objs.size], _, _, H1, rfl, I1.kept (t' := s1.toks) fun b o e => Heap.get?_push_of_some _ e, turn_list a _, ⟨_, Heap.get?_push_size _ rfl, rfl, rfl⟩, fun b hb => ?_, q⟩
  have e : b = s1.heap.objs.size := by simpa using hb
  subst e
  exact I1.fpOk (Nat.le_refl _) (I1.hok.fresh (Nat.le_refl _))
theorem pi_tup {l : Expr} {tl : TE} (hl : PE X l tl) : PI X tg l (iTup X.K tl) := by
  intro pins s σ H R I h
  refine thn (hl pins s σ H _ I h) fun v s1 ⟨x, H1, I1, r1, q1⟩ => ?_
  obtain ⟨a, e, ⟨xs, hq⟩, q⟩ := q1
  subst e
  cases r1
  obtain ⟨its, rv, p, hz⟩ := I1.tuple hq
  refine wpAny_pyIter_tuple (show s1.heap.IsTuple a its.toArray from p) ?_
  refine ⟨s1.heap.objs.size, [s1.heap.objs.size], _, _, H1, rfl, I1.kept (t' := s1.toks) fun b o e => Heap.get?_push_of_some _ e, turn_tuple a _, ⟨_, Heap.get?_push_size _ rfl, rfl, rfl⟩, fun b hb => ?_, q⟩
  have e : b = s1.heap.objs.size := by simpa using hb
  subst e
  exact I1.fpOk (Nat.le_refl _) (I1.hok.fresh (Nat.le_refl _))
/-- a range object just made, walked -/
theorem range_it {pins : List (Addr × Obj)} {σ : St} {H : Hp} {s : Shared} {R : It → Hp → Prop} {E : Value → Shared → Prop} {lo hi : Int} {t u v : Tok} {tk : Nat} (I : Inv X pins σ H s) (h1 : -(2 ^ 62) ≤ lo) (h2 : lo < 2 ^ 62) (h3 : -(2 ^ 62) ≤ hi) (h4 : hi < 2 ^ 62)
    (q : R (Itr lo (hi - lo).toNat) H) : wpAny (model X.prog X.w) X.A (pyIter (.ref s.heap.objs.size)) (PIE X pins σ tg R) E { s with heap := s.heap.push { cls := .type "range", data := .fields #[.int lo t, .int hi u, .int 1 v] }, toks := tk } := by
  refine wpAny_pyIter_range (IsRange.new ..) (small_one h1 h2 h3 h4) ?_
  have I1 : Inv X pins σ H { s with heap := s.heap.push { cls := .type "range", data := .fields #[.int lo t, .int hi u, .int 1 v] }, toks := tk } := I.kept fun b o e => Heap.get?_push_of_some _ e
  refine ⟨(s.heap.push { cls := .type "range", data := .fields #[.int lo t, .int hi u, .int 1 v] }).objs.size, [(s.heap.push { cls := .type "range", data := .fields #[.int lo t, .int hi u, .int 1 v] }).objs.size], _, _, H, rfl,
    I1.kept (t' := tk) fun b o e => Heap.get?_push_of_some _ e, turn_range _ lo (hi - lo).toNat, ?_, fun b hb => ?_, q⟩
  · have e1 : lo + ((0 : Nat) : Int) * 1 = lo := by simp
    have e2 : (((hi - lo).toNat : Nat) : Int) - ((0 : Nat) : Int) = Builtin.Range.rangeSize lo hi 1 := by rw [rangeSize_one]; split <;> omega
    show IsRangeIter _ _ (lo + ((0 : Nat) : Int) * 1) ((((hi - lo).toNat : Nat) : Int) - ((0 : Nat) : Int)) 1
    rw [e1, e2]
    exact Heap.get?_push_size _ rfl
  · have e : b = (s.heap.push { cls := .type "range", data := .fields #[.int lo t, .int hi u, .int 1 v] }).objs.size := by simpa using hb
    subst e
    exact I1.fpOk (Nat.le_refl _) (I1.hok.fresh (Nat.le_refl _))
def iRng1 (ta : TA) : TI := fun σ H R => ta σ H fun vs H1 => ∃ j : Int, vs = [.int j] ∧ -(2 ^ 62) ≤ j ∧ j < 2 ^ 62 ∧ R (Itr 0 j.toNat) H1
theorem pi_range1 {a : Expr} {ta : TA} {p pos : Pos} (hg : Gl X "range") (hm : X.mg "range" = none) (ha : PA X [a] ta) (hs : starEach [a] X.env = [(false, eval a X.env)] := by rfl) : PI X tg (.Call (.Name "range" p) [a] [] pos) (iRng1 ta) := by
  intro pins s σ H R I h
  refine Call_ (ld_blt I hg hm boot_range (PyProof.Rows.callWith_type1 (thn (ha pos pins s σ H _ I h) fun us s1 ⟨vs, H1, I1, r1, q1⟩ => ?_) hs rfl))
  obtain ⟨j, e, q1, q2, q⟩ := q1
  subst e
  cases r1 with
  | cons r rr =>
    cases rr
    obtain ⟨t, rfl⟩ := r
    exact call_range_1 (range_it I1 (by omega) (by omega) q1 q2 (by simpa using q))
/-- W: the invariant by the turn and a measure; N: what the body is to reach -/
def tFor (wi : TI) (g : TG) (tb : TS) : TS := fun D σ H => wi σ H fun J H1 => ∃ W : Nat → Nat → St → Hp → Prop, (∃ m, W 0 m σ H1) ∧ ∀ i m σ H, W i m σ H →
  (J.stop i H ∧ D.nx σ H) ∨ (J.go i H ∧ ∃ N : St → Hp → Prop, (∀ σ' H', N σ' H' → ∃ m', m' < m ∧ W (i + 1) m' σ' H') ∧ ∀ x H', J.yld i H x H' → g x σ H' fun σ2 H2 => tb { D with nx := N, ct := N, bk := D.nx } σ2 H2)
/-- the records at fp as they stand -/
def pinsAt (fp : List Addr) (h : Heap) : List (Addr × Obj) := fp.filterMap fun b => (h.get? b).map fun o => (b, o)
theorem mem_pinsAt {fp : List Addr} {h : Heap} {b : Addr} {o : Obj} (hb : b ∈ fp) (e : h.get? b = some o) : (b, o) ∈ pinsAt fp h := List.mem_filterMap.mpr ⟨b, hb, by rw [e]; rfl⟩
theorem of_pinsAt {fp : List Addr} {h : Heap} {p : Addr × Obj} (hp : p ∈ pinsAt fp h) : p.1 ∈ fp ∧ h.get? p.1 = some p.2 := by
  obtain ⟨b, hb, e⟩ := List.mem_filterMap.mp hp
  cases q : h.get? b with
  | none => rw [q] at e; cases e
  | some o =>
    rw [q] at e
    have e' : (b, o) = p := Option.some.inj e
    subst e'
    exact ⟨hb, q⟩
theorem Inv.pinned {pins : List (Addr × Obj)} {σ : St} {H : Hp} {s : Shared} {fp : List Addr} (I : Inv X pins σ H s) (hf : ∀ b ∈ fp, FpOk X pins H b) (ho : ∀ b ∈ fp, ∃ o, s.heap.get? b = some o ∧ ∀ v, o.data ≠ .cell v) : Inv X (pins ++ pinsAt fp s.heap) σ H s :=
  I.pins_of fun p hp => (List.mem_append.mp hp).elim (fun z => I.pin p (List.mem_append_right _ z)) fun z => by
    obtain ⟨hb, e⟩ := of_pinsAt z
    obtain ⟨f0, f1, f2, _⟩ := hf p.1 hb
    obtain ⟨o, e', d⟩ := ho p.1 hb
    rw [e] at e'; cases e'
    exact ⟨e, f0, f1, f2, d⟩
theorem Inv.unpinned {pins pl : List (Addr × Obj)} {σ : St} {H : Hp} {s : Shared} (I : Inv X (pins ++ pl) σ H s) : Inv X pins σ H s := I.pins_of fun p hp => I.pin p (List.mem_append_right _ (List.mem_append_left _ hp))
theorem ps_for {iter : Expr} {body : List Stmt} {wi : TI} {g : TG} {tb : TS} {pos : Pos} (hp : PassesOwn (model X.prog X.w) X.A X.env X.xe) (hc : X.calm = true) (hi : PI X tg iter wi) (hg : PG X tg g) (hb : PSs X body tb)
    (hs : ∀ x, foldedSetIterable iter X.env x = pure x := by intro _; rfl) : PS X (.For tg iter body [] pos) (tFor wi g tb) := by
  intro pins s σ H D I h
  refine wpAny_For (thn (hi pins s σ H _ I h) fun v s1 h1 => thn h1 fun itv s2 h2 => ?_) hs
  obtain ⟨it, fp, tn, J, H2, e, I2, T, st2, f2, W, ⟨m0, w0⟩, turn⟩ := h2
  subst e
  -- what stays true of the iterator's objects through the loop
  have stat : ∀ {H' : Hp}, (∀ b ∈ fp, H' b = none) → ∀ b ∈ fp, FpOk X pins H' b := fun hn b hb => ⟨hn b hb, (f2 b hb).2⟩
  refine codeAny_forLoop_any (fun n s' => ∃ i σ' H', Inv X pins σ' H' s' ∧ tn i s'.heap ∧ (∀ b ∈ fp, H' b = none) ∧ W i n σ' H') ?_ m0 ⟨0, σ, H2, I2, st2, fun b hb => (f2 b hb).1, w0⟩
  rintro n s3 ⟨i, σ3, H3, I3, st3, fr3, w3⟩
  rcases turn i n σ3 H3 w3 with ⟨stop, qn⟩ | ⟨go, N, hN, step⟩
  · refine wpAny_passesOwn hp (thn (T.done X rfl rfl rfl hc i pins s3 σ3 H3 X.xe I3 (stat fr3) st3 stop) fun r s4 ⟨hr, I4⟩ => ?_)
    subst hr
    exact wpAny_execs_nil ⟨σ3, H3, I4, qn⟩
  · refine wpAny_passesOwn hp (thn (T.item X rfl rfl rfl hc i pins s3 σ3 H3 X.xe I3 (stat fr3) st3 go) fun r s4 ⟨u, hr, h4⟩ => ?_)
    subst hr
    refine wpAny_passesOwn hp (thn h4 fun _ s5 ⟨x, H5, I5, r5, y5, st5, fr5⟩ => ?_)
    have I5' := I5.pinned (stat fr5) (T.obj _ _ st5)
    refine wpAny_passesOwn hp (thn (hg _ s5 σ3 H5 x u _ I5' r5 (step x H5 y5)) fun _ s6 ⟨σ6, H6, I6, q6⟩ => ?_)
    refine wpAny_passesOwn hp (thn (hb _ s6 σ6 H6 _ I6 q6) fun f s7 q7 => ?_)
    have again : ∀ {σ7 : St} {H7 : Hp}, Inv X (pins ++ pinsAt fp s5.heap) σ7 H7 s7 → N σ7 H7 → ∃ m, m < n ∧ ∃ i σ' H', Inv X pins σ' H' s7 ∧ tn i s7.heap ∧ (∀ b ∈ fp, H' b = none) ∧ W i m σ' H' := fun {σ7 H7} I7 n7 => by
      obtain ⟨m', hm, w7⟩ := hN σ7 H7 n7
      refine ⟨m', hm, i + 1, σ7, H7, I7.unpinned, T.keep _ _ _ st5 fun b hb o e => (I7.pin (b, o) (List.mem_append_right _ (List.mem_append_right _ (mem_pinsAt hb e)))).1, fun b hb => ?_, w7⟩
      obtain ⟨o, e, d⟩ := T.obj _ _ st5 b hb
      exact (I7.pin (b, o) (List.mem_append_right _ (List.mem_append_right _ (mem_pinsAt hb e)))).2.1
    cases f with
    | next => obtain ⟨σ7, H7, I7, n7⟩ := q7; exact again I7 n7
    | cont => obtain ⟨σ7, H7, I7, n7⟩ := q7; exact again I7 n7
    | brk => obtain ⟨σ7, H7, I7, q7⟩ := q7; exact ⟨σ7, H7, I7.unpinned, q7⟩
    | ret v => obtain ⟨x7, σ7, H7, I7, r7, q7⟩ := q7; exact ⟨x7, σ7, H7, I7.unpinned, r7, q7⟩
end
/-- over a list that the body leaves as it is -/
theorem for_list {K : PySem.W.Frag} {a : Addr} {xs : List V} {g : TG} {tb : TS} {D : Ends} {σ : St} {H : Hp} (Pv : Nat → St → Hp → Prop) (h0 : Pv 0 σ H) (hl : ∀ i σ H, i ≤ xs.length → Pv i σ H → SqL K H a xs)
    (hs : ∀ i x σ H, xs[i]? = some x → Pv i σ H → g x σ H fun σ2 H2 => tb { D with nx := Pv (i + 1), ct := Pv (i + 1), bk := D.nx } σ2 H2) (hd : ∀ σ H, Pv xs.length σ H → D.nx σ H) :
    ∃ W : Nat → Nat → St → Hp → Prop, (∃ m, W 0 m σ H) ∧ ∀ i m σ H, W i m σ H →
      ((Itl K a).stop i H ∧ D.nx σ H) ∨ ((Itl K a).go i H ∧ ∃ N : St → Hp → Prop, (∀ σ' H', N σ' H' → ∃ m', m' < m ∧ W (i + 1) m' σ' H') ∧ ∀ x H', (Itl K a).yld i H x H' → g x σ H' fun σ2 H2 => tb { D with nx := N, ct := N, bk := D.nx } σ2 H2) := by
  refine ⟨fun i m σ H => m = xs.length - i ∧ i ≤ xs.length ∧ Pv i σ H, ⟨xs.length, by simp, Nat.zero_le _, h0⟩, ?_⟩
  rintro i m σ H ⟨rfl, hi, p⟩
  have q := hl i σ H hi p
  by_cases hlt : i < xs.length
  · refine .inr ⟨⟨xs, xs[i], q, by simp [hlt]⟩, Pv (i + 1), fun σ' H' p' => ⟨xs.length - (i + 1), by omega, rfl, hlt, p'⟩, fun x H' y => ?_⟩
    obtain ⟨e, y⟩ := y
    subst e
    exact hs i x σ _ (y xs q) p
  · have e : i = xs.length := by omega
    subst e
    exact .inl ⟨⟨xs, q, Nat.le_refl _⟩, hd σ H p⟩
theorem for_tup {K : PySem.W.Frag} {a : Addr} {xs : List V} {g : TG} {tb : TS} {D : Ends} {σ : St} {H : Hp} (Pv : Nat → St → Hp → Prop) (h0 : Pv 0 σ H) (hl : ∀ i σ H, i ≤ xs.length → Pv i σ H → SqT K H a xs)
    (hs : ∀ i x σ H, xs[i]? = some x → Pv i σ H → g x σ H fun σ2 H2 => tb { D with nx := Pv (i + 1), ct := Pv (i + 1), bk := D.nx } σ2 H2) (hd : ∀ σ H, Pv xs.length σ H → D.nx σ H) :
    ∃ W : Nat → Nat → St → Hp → Prop, (∃ m, W 0 m σ H) ∧ ∀ i m σ H, W i m σ H →
      ((Itt K a).stop i H ∧ D.nx σ H) ∨ ((Itt K a).go i H ∧ ∃ N : St → Hp → Prop, (∀ σ' H', N σ' H' → ∃ m', m' < m ∧ W (i + 1) m' σ' H') ∧ ∀ x H', (Itt K a).yld i H x H' → g x σ H' fun σ2 H2 => tb { D with nx := N, ct := N, bk := D.nx } σ2 H2) := by
  refine ⟨fun i m σ H => m = xs.length - i ∧ i ≤ xs.length ∧ Pv i σ H, ⟨xs.length, by simp, Nat.zero_le _, h0⟩, ?_⟩
  rintro i m σ H ⟨rfl, hi, p⟩
  have q := hl i σ H hi p
  by_cases hlt : i < xs.length
  · refine .inr ⟨⟨xs, xs[i], q, by simp [hlt]⟩, Pv (i + 1), fun σ' H' p' => ⟨xs.length - (i + 1), by omega, rfl, hlt, p'⟩, fun x H' y => ?_⟩
    obtain ⟨e, y⟩ := y
    subst e
    exact hs i x σ _ (y xs q) p
  · have e : i = xs.length := by omega
    subst e
    exact .inl ⟨⟨xs, q, Nat.le_refl _⟩, hd σ H p⟩
theorem for_range {lo : Int} {n : Nat} {g : TG} {tb : TS} {D : Ends} {σ : St} {H : Hp} (Pv : Nat → St → Hp → Prop) (h0 : Pv 0 σ H)
    (hs : ∀ i σ H, i < n → Pv i σ H → g (.int (lo + i)) σ H fun σ2 H2 => tb { D with nx := Pv (i + 1), ct := Pv (i + 1), bk := D.nx } σ2 H2) (hd : ∀ σ H, Pv n σ H → D.nx σ H) :
    ∃ W : Nat → Nat → St → Hp → Prop, (∃ m, W 0 m σ H) ∧ ∀ i m σ H, W i m σ H →
      ((Itr lo n).stop i H ∧ D.nx σ H) ∨ ((Itr lo n).go i H ∧ ∃ N : St → Hp → Prop, (∀ σ' H', N σ' H' → ∃ m', m' < m ∧ W (i + 1) m' σ' H') ∧ ∀ x H', (Itr lo n).yld i H x H' → g x σ H' fun σ2 H2 => tb { D with nx := N, ct := N, bk := D.nx } σ2 H2) := by
  refine ⟨fun i m σ H => m = n - i ∧ i ≤ n ∧ Pv i σ H, ⟨n, by simp, Nat.zero_le _, h0⟩, ?_⟩
  rintro i m σ H ⟨rfl, hi, p⟩
  by_cases hlt : i < n
  · refine .inr ⟨hlt, Pv (i + 1), fun σ' H' p' => ⟨n - (i + 1), by omega, rfl, hlt, p'⟩, fun x H' y => ?_⟩
    obtain ⟨e, y⟩ := y
    subst e y
    exact hs i σ _ hlt p
  · have e : i = n := by omega
    subst e
    exact .inl ⟨Nat.le_refl _, hd σ H p⟩
end L2
namespace L2
open PySem PySem.Spec PyProof.Rows
abbrev R2 := V → V → Hp → VK → Prop
/-- a two-place operation on values: f is binaryOp op, inplaceOp op or compareOp op -/
def OpR (X : Cx) (f : Value → Value → Sem Value) (r : R2) : Prop :=
  ∀ (pins : List (Addr × Obj)) (s : Shared) (σ : St) (H : Hp) (x y : V) (v u : Value) (Q : VK), Inv X pins σ H s → RelV x v → RelV y u → r x y H Q →
    wpAny (model X.prog X.w) X.A (f v u) (EP X pins σ Q) X.xe s
/-- a one-place operation -/
def UnR (X : Cx) (f : Value → Sem Value) (r : V → Hp → VK → Prop) : Prop :=
  ∀ (pins : List (Addr × Obj)) (s : Shared) (σ : St) (H : Hp) (x : V) (v : Value) (Q : VK), Inv X pins σ H s → RelV x v → r x H Q →
    wpAny (model X.prog X.w) X.A (f v) (EP X pins σ Q) X.xe s
/-- a call of a value that is known (a builtin, a type) with values -/
def CallR (X : Cx) (f : Value) (r : List V → Hp → VK → Prop) : Prop :=
  ∀ (pins : List (Addr × Obj)) (s : Shared) (σ : St) (H : Hp) (xs : List V) (us : List Value) (Q : VK), Inv X pins σ H s → Vals xs us → r xs H Q →
    wpAny (model X.prog X.w) X.A (call f us) (EP X pins σ Q) X.xe s
def tOp (r : R2) (ta tb : TE) : TE := fun σ H Q => ta σ H fun x H1 => tb σ H1 fun y H2 => r x y H2 Q
def tUn (r : V → Hp → VK → Prop) (ta : TE) : TE := fun σ H Q => ta σ H fun x H1 => r x H1 Q
/-- ints in, under C, and a value out -/
def rI (C : Int → Int → Prop) (g : Int → Int → V) : R2 := fun x y H Q => ∃ i j, x = .int i ∧ y = .int j ∧ C i j ∧ Q (g i j) H
def rI0 (g : Int → Int → V) : R2 := fun x y H Q => ∃ i j, x = .int i ∧ y = .int j ∧ Q (g i j) H
def rU (g : Int → V) : V → Hp → VK → Prop := fun x H Q => ∃ i, x = .int i ∧ Q (g i) H
section
variable {X : Cx} {a b c : Expr} {ta tb tc : TE} {pos : Pos}
theorem binT (ha : PE X a ta) (hb : PE X b tb) {pins : List (Addr × Obj)} {s : Shared} {σ : St} {H : Hp} {R : V → V → Hp → Prop} (I : Inv X pins σ H s)
    (h : ta σ H fun x H1 => tb σ H1 fun y H2 => R x y H2) {Q : Value → Shared → Prop} {f : Value → Value → Sem Value}
    (hf : ∀ v u s2 x y H2, Inv X pins σ H2 s2 → RelV x v → RelV y u → R x y H2 → wpAny (model X.prog X.w) X.A (f v u) Q X.xe s2) :
    wpAny (model X.prog X.w) X.A (eval a X.env) (fun v s₁ => wpAny (model X.prog X.w) X.A (eval b X.env) (fun u s₂ => wpAny (model X.prog X.w) X.A (f v u) Q X.xe s₂) X.xe s₁) X.xe s := by
  refine thn (ha pins s σ H _ I h) fun v s1 ⟨x, H1, I1, r1, q1⟩ => ?_
  refine thn (hb pins s1 σ H1 _ I1 q1) fun u s2 ⟨y, H2, I2, r2, q2⟩ => ?_
  exact hf v u s2 x y H2 I2 r1 r2 q2
theorem pe_op {op : Operator} {r : R2} (ho : OpR X (binaryOp op) r) (ha : PE X a ta) (hb : PE X b tb) : PE X (.BinOp a op b pos) (tOp r ta tb) := by
  intro pins s σ H Q I h
  exact wpAny_BinOp (binT ha hb I h fun v u s2 x y H2 I2 rx ry q => ho pins s2 σ H2 x y v u Q I2 rx ry q)
theorem pe_un {op : UnaryOp} {r : V → Hp → VK → Prop} (ho : UnR X (unaryOp op) r) (ha : PE X a ta) : PE X (.UnaryOp op a pos) (tUn r ta) := by
  intro pins s σ H Q I h
  exact UnaryOp_ (thn (ha pins s σ H _ I h) fun v s1 ⟨x, H1, I1, r1, q1⟩ => ho pins s1 σ H1 x v Q I1 r1 q1)
theorem opI {f : Value → Value → Sem Value} {C : Int → Int → Prop} {g : Int → Int → Int}
    (rule : ∀ (i j : Int) (t u : Tok) (s : Shared) (Q : Value → Shared → Prop) (E : Value → Shared → Prop), C i j → Q (.int (g i j) s.toks) { s with toks := s.toks + 1 } → wpAny (model X.prog X.w) X.A (f (.int i t) (.int j u)) Q E s) :
    OpR X f (rI C fun i j => .int (g i j)) := by
  intro pins s σ H x y v u Q I rx ry h
  obtain ⟨i, j, rfl, rfl, hc, q⟩ := h
  obtain ⟨t, rfl⟩ := rx
  obtain ⟨t', rfl⟩ := ry
  exact rule i j t t' s _ _ hc ⟨.int (g i j), H, I.tok _, ⟨_, rfl⟩, q⟩
theorem opI0 {f : Value → Value → Sem Value} {g : Int → Int → Int}
    (rule : ∀ (i j : Int) (t u : Tok) (s : Shared) (Q : Value → Shared → Prop) (E : Value → Shared → Prop), Q (.int (g i j) s.toks) { s with toks := s.toks + 1 } → wpAny (model X.prog X.w) X.A (f (.int i t) (.int j u)) Q E s) :
    OpR X f (rI0 fun i j => .int (g i j)) := by
  intro pins s σ H x y v u Q I rx ry h
  obtain ⟨i, j, rfl, rfl, q⟩ := h
  obtain ⟨t, rfl⟩ := rx
  obtain ⟨t', rfl⟩ := ry
  exact rule i j t t' s _ _ ⟨.int (g i j), H, I.tok _, ⟨_, rfl⟩, q⟩
theorem opB0 {f : Value → Value → Sem Value} {g : Int → Int → Bool}
    (rule : ∀ (i j : Int) (t u : Tok) (s : Shared) (Q : Value → Shared → Prop) (E : Value → Shared → Prop), Q (.bool (g i j)) s → wpAny (model X.prog X.w) X.A (f (.int i t) (.int j u)) Q E s) :
    OpR X f (rI0 fun i j => .bl (g i j)) := by
  intro pins s σ H x y v u Q I rx ry h
  obtain ⟨i, j, rfl, rfl, q⟩ := h
  obtain ⟨t, rfl⟩ := rx
  obtain ⟨t', rfl⟩ := ry
  exact rule i j t t' s _ _ ⟨.bl (g i j), H, I, rfl, q⟩
def CDiv (i j : Int) : Prop := 0 < j ∧ j < 1073741824
def CPow (i j : Int) : Prop := 0 ≤ j ∧ j ≤ 1000000 ∧ i.natAbs < 2 ^ 64
def CMul (i j : Int) : Prop := (-(2 ^ 64) < i ∧ i < 2 ^ 64) ∨ (-(2 ^ 64) < j ∧ j < 2 ^ 64)
theorem CMul.ok {i j : Int} (h : CMul i j) : IntMulOk i j := by
  rcases h with ⟨h1, h2⟩ | ⟨h1, h2⟩
  · exact .of_left (intBits_le_64 h1 h2)
  · exact .of_right (intBits_le_64 h1 h2)
theorem op_add : OpR X (binaryOp .Add) (rI0 fun i j => .int (i + j)) := opI0 fun _ _ _ _ _ _ _ q => add_int q
theorem op_sub : OpR X (binaryOp .Sub) (rI0 fun i j => .int (i - j)) := opI0 fun _ _ _ _ _ _ _ q => sub_int q
theorem op_mul : OpR X (binaryOp .Mult) (rI CMul fun i j => .int (i * j)) := opI fun _ _ _ _ _ _ _ hc q => mul_int q hc.ok
/-- // by a positive divisor -/
theorem op_fdiv : OpR X (binaryOp .FloorDiv) (rI CDiv fun i j => .int (i / j)) := opI fun i j _ _ _ _ _ hc q => by
  have h1 : (0 : Int) < j := hc.1
  have h2 : j < 1073741824 := hc.2
  exact floordiv_int (by omega) (by rw [Int.fdiv_eq_ediv_of_nonneg i (by omega)]; exact q) (.inl (PyProof.noPylong_small (by omega)))
/-- % by a positive divisor of any size -/
theorem op_mod : OpR X (binaryOp .Mod) (rI (fun _ j => 0 < j) fun i j => .int (i % j)) := opI fun i j _ _ _ _ _ hc q => by
  have h1 : (0 : Int) < j := hc
  exact mod_int' (by omega) (by rw [Int.fmod_eq_emod_of_nonneg i (by omega)]; exact q)
theorem op_pow : OpR X (binaryOp .Pow) (rI CPow fun i j => .int (i ^ j.toNat)) := opI fun _ _ _ _ _ _ _ hc q => pow_int_small hc.1 hc.2.1 hc.2.2 q
theorem unI {f : Value → Sem Value} {g : Int → Int}
    (rule : ∀ (i : Int) (t : Tok) (s : Shared) (Q : Value → Shared → Prop) (E : Value → Shared → Prop), Q (.int (g i) s.toks) { s with toks := s.toks + 1 } → wpAny (model X.prog X.w) X.A (f (.int i t)) Q E s) :
    UnR X f (rU fun i => .int (g i)) := by
  intro pins s σ H x v Q I rx h
  obtain ⟨i, rfl, q⟩ := h
  obtain ⟨t, rfl⟩ := rx
  exact rule i t s _ _ ⟨.int (g i), H, I.tok _, ⟨_, rfl⟩, q⟩
theorem un_neg : UnR X (unaryOp .USub) (rU fun i => .int (-i)) := unI fun _ _ _ _ _ q => neg_int q
end
/-- the scalars that == tells apart as data does -/
def scal : V → V → Bool
  | .non, .non => true | .non, .int _ => true | .int _, .non => true | .non, .bl _ => true | .bl _, .non => true | .non, .str _ => true | .str _, .non => true
  | .int _, .int _ => true | .bl _, .bl _ => true | .str _, .str _ => true | .byt _, .byt _ => true
  | .int _, .str _ => true | .str _, .int _ => true | .bl _, .str _ => true | .str _, .bl _ => true
  | _, _ => false
def rEq : R2 := fun x y H Q => scal x y = true ∧ Q (.bl (decide (x = y))) H
def rNe : R2 := fun x y H Q => scal x y = true ∧ Q (.bl (!decide (x = y))) H
theorem dec_int {i j : Int} : decide (V.int i = V.int j) = (i == j) := by
  rw [Bool.eq_iff_iff]
  simp
theorem dec_bl {i j : Bool} : decide (V.bl i = V.bl j) = (i == j) := by
  rw [Bool.eq_iff_iff]
  simp
theorem dec_str {i j : Str} : decide (V.str i = V.str j) = (i == j) := by
  rw [Bool.eq_iff_iff]
  simp
theorem dec_byt {i j : Array UInt8} : decide (V.byt i = V.byt j) = (i.toList == j.toList) := by
  rw [Bool.eq_iff_iff]
  cases i
  cases j
  simp
section
variable {X : Cx} {a b c : Expr} {ta tb tc : TE} {pos : Pos}
theorem fin_bl {pins : List (Addr × Obj)} {σ : St} {H : Hp} {s : Shared} {Q : VK} {k k' : Bool} (I : Inv X pins σ H s) (q : Q (.bl k) H) (e : k = k') : EP X pins σ Q (.bool k') s := by
  subst e
  exact ⟨.bl k, H, I, rfl, q⟩
theorem op_eq : OpR X (compareOp .Eq) rEq := by
  intro pins s σ H x y v u Q I rx ry h
  obtain ⟨hs, q⟩ := h
  cases x with
  | non =>
    cases rx
    cases y with
    | non => cases ry; exact PySem.EqNone.eq_none_none (fin_bl I q (by simp))
    | bl j => cases ry; exact PySem.EqNone.eq_none_bool (fin_bl I q (by simp))
    | int j => obtain ⟨t', rfl⟩ := ry; exact PySem.EqNone.eq_none_int (fin_bl I q (by simp))
    | str j => obtain ⟨t', rfl⟩ := ry; exact PySem.EqNone.eq_none_str (fin_bl I q (by simp))
    | _ => exact absurd (show false = true from hs) Bool.false_ne_true
  | bl i =>
    cases rx
    cases y with
    | non => cases ry; exact PySem.EqNone.eq_bool_none (fin_bl I q (by simp))
    | bl j => cases ry; exact eq_bool (fin_bl I q dec_bl)
    | str j => obtain ⟨t', rfl⟩ := ry; exact PySem.EqMixed.eq_bool_str (fin_bl I q (by simp))
    | _ => exact absurd (show false = true from hs) Bool.false_ne_true
  | int i =>
    obtain ⟨t, rfl⟩ := rx
    cases y with
    | non => cases ry; exact PySem.EqNone.eq_int_none (fin_bl I q (by simp))
    | int j => obtain ⟨t', rfl⟩ := ry; exact eq_int (fin_bl I q dec_int)
    | str j => obtain ⟨t', rfl⟩ := ry; exact PySem.EqMixed.eq_int_str (fin_bl I q (by simp))
    | _ => exact absurd (show false = true from hs) Bool.false_ne_true
  | str i =>
    obtain ⟨t, rfl⟩ := rx
    cases y with
    | non => cases ry; exact PySem.EqNone.eq_str_none (fin_bl I q (by simp))
    | bl j => cases ry; exact PySem.EqMixed.eq_str_bool (fin_bl I q (by simp))
    | int j => obtain ⟨t', rfl⟩ := ry; exact PySem.EqMixed.eq_str_int (fin_bl I q (by simp))
    | str j => obtain ⟨t', rfl⟩ := ry; exact eq_str (fin_bl I q dec_str)
    | _ => exact absurd (show false = true from hs) Bool.false_ne_true
  | byt i =>
    obtain ⟨t, rfl⟩ := rx
    cases y with
    | byt j => obtain ⟨t', rfl⟩ := ry; exact PySem.W.eq_bytes (fin_bl I q dec_byt)
    | _ => exact absurd (show false = true from hs) Bool.false_ne_true
  | _ => cases y <;> exact absurd (show false = true from hs) Bool.false_ne_true
theorem op_ne : OpR X (compareOp .NotEq) rNe := by
  intro pins s σ H x y v u Q I rx ry h
  obtain ⟨hs, q⟩ := h
  cases x with
  | non =>
    cases rx
    cases y with
    | non => cases ry; exact PySem.EqNone.ne_none_none (fin_bl I q (by simp))
    | bl j => cases ry; exact PySem.EqNone.ne_none_bool (fin_bl I q (by simp))
    | int j => obtain ⟨t', rfl⟩ := ry; exact PySem.EqNone.ne_none_int (fin_bl I q (by simp))
    | str j => obtain ⟨t', rfl⟩ := ry; exact PySem.EqNone.ne_none_str (fin_bl I q (by simp))
    | _ => exact absurd (show false = true from hs) Bool.false_ne_true
  | bl i =>
    cases rx
    cases y with
    | non => cases ry; exact PySem.EqNone.ne_bool_none (fin_bl I q (by simp))
    | bl j => cases ry; exact ne_bool (fin_bl I q (congrArg not dec_bl))
    | str j => obtain ⟨t', rfl⟩ := ry; exact PySem.EqMixed.ne_bool_str (fin_bl I q (by simp))
    | _ => exact absurd (show false = true from hs) Bool.false_ne_true
  | int i =>
    obtain ⟨t, rfl⟩ := rx
    cases y with
    | non => cases ry; exact PySem.EqNone.ne_int_none (fin_bl I q (by simp))
    | int j => obtain ⟨t', rfl⟩ := ry; exact ne_int (fin_bl I q (congrArg not dec_int))
    | str j => obtain ⟨t', rfl⟩ := ry; exact PySem.EqMixed.ne_int_str (fin_bl I q (by simp))
    | _ => exact absurd (show false = true from hs) Bool.false_ne_true
  | str i =>
    obtain ⟨t, rfl⟩ := rx
    cases y with
    | non => cases ry; exact PySem.EqNone.ne_str_none (fin_bl I q (by simp))
    | bl j => cases ry; exact PySem.EqMixed.ne_str_bool (fin_bl I q (by simp))
    | int j => obtain ⟨t', rfl⟩ := ry; exact PySem.EqMixed.ne_str_int (fin_bl I q (by simp))
    | str j => obtain ⟨t', rfl⟩ := ry; exact ne_str (fin_bl I q (congrArg not dec_str))
    | _ => exact absurd (show false = true from hs) Bool.false_ne_true
  | byt i =>
    obtain ⟨t, rfl⟩ := rx
    cases y with
    | byt j => obtain ⟨t', rfl⟩ := ry; exact PySem.W.ne_bytes (fin_bl I q (congrArg not dec_byt))
    | _ => exact absurd (show false = true from hs) Bool.false_ne_true
  | _ => cases y <;> exact absurd (show false = true from hs) Bool.false_ne_true
theorem op_lt : OpR X (compareOp .Lt) (rI0 fun i j => .bl (decide (i < j))) := opB0 fun _ _ _ _ _ _ _ q => lt_int q
theorem op_gt : OpR X (compareOp .Gt) (rI0 fun i j => .bl (decide (j < i))) := opB0 fun _ _ _ _ _ _ _ q => gt_int q
theorem op_ge : OpR X (compareOp .GtE) (rI0 fun i j => .bl (decide (j ≤ i))) := opB0 fun _ _ _ _ _ _ _ q => ge_int q
/-- two rules for one operation: by cases -/
theorem OpR.or {f : Value → Value → Sem Value} {r r' : R2} (h : OpR X f r) (h' : OpR X f r') : OpR X f (fun x y H Q => r x y H Q ∨ r' x y H Q) := by
  intro pins s σ H x y v u Q I rx ry q
  rcases q with q | q
  · exact h pins s σ H x y v u Q I rx ry q
  · exact h' pins s σ H x y v u Q I rx ry q
theorem nomark (b : Expr) {op : CmpOp} (h : op ≠ .In := by decide) (h2 : op ≠ .NotIn := by decide) : behindInMarks op b = false := by
  have e1 : (op == CmpOp.In) = false := by cases op <;> first | rfl | exact absurd rfl h
  have e2 : (op == CmpOp.NotIn) = false := by cases op <;> first | rfl | exact absurd rfl h2
  cases b <;> simp [behindInMarks, e1, e2]
/-- a comparison as a value; hm: nomark b, or (for in, not in) by with_unfolding_all rfl -/
theorem pe_cmpR {op : CmpOp} {r : R2} (ho : OpR X (compareOp op) r) (ha : PE X a ta) (hb : PE X b tb) (hm : behindInMarks op b = false) : PE X (.Compare a [op] [b] pos) (tOp r ta tb) := by
  intro pins s σ H Q I h
  exact wpAny_Compare1 (binT ha hb I h fun v u s2 x y H2 I2 rx ry q => ho pins s2 σ H2 x y v u Q I2 rx ry q) hm
/-- a reading of a value as a test -/
def tTest (t : TE) : TT := fun σ H Q => t σ H fun x H' => ∃ k, x = .bl k ∧ Q k H'
theorem pt_cmpR {op : CmpOp} {r : R2} (ho : OpR X (compareOp op) r) (ha : PE X a ta) (hb : PE X b tb) (hm : behindInMarks op b = false) : PT X (.Compare a [op] [b] pos) (tTest (tOp r ta tb)) := by
  intro pins s σ H Q I h
  refine wpAny_isTrue_Compare1 (thn (ha pins s σ H _ I h) fun v s1 ⟨x, H1, I1, r1, q1⟩ => thn (hb pins s1 σ H1 _ I1 q1) fun u s2 ⟨y, H2, I2, r2, q2⟩ =>
    thn (ho pins s2 σ H2 x y v u _ I2 r1 r2 q2) fun c s3 ⟨z, H3, I3, r3, k, e, q3⟩ => ?_) hm
  subst e
  cases r3
  exact wpAny_truthy_bool ⟨H3, I3, q3⟩
theorem line63 : (sizeLine : Nat) < 2 ^ 63 := by rw [sizeLine_eq]; decide
theorem op_add_str : OpR X (binaryOp .Add) (fun x y H Q => ∃ i j, x = .str i ∧ y = .str j ∧ i.length + j.length ≤ sizeLine ∧ Q (.str (i ++ j)) H) := by
  intro pins s σ H x y v u Q I rx ry h
  obtain ⟨i, j, rfl, rfl, hz, q⟩ := h
  obtain ⟨t, rfl⟩ := rx
  obtain ⟨t', rfl⟩ := ry
  exact add_str (fun t' tk => ⟨.str (i ++ j), H, I.tok _, ⟨_, rfl⟩, q⟩) hz
theorem vals1 {x : V} {us : List Value} (r : Vals [x] us) : ∃ u, us = [u] ∧ RelV x u := by
  cases r with
  | cons r1 r2 => cases r2; exact ⟨_, rfl, r1⟩
theorem vals2 {x y : V} {us : List Value} (r : Vals [x, y] us) : ∃ u w', us = [u, w'] ∧ RelV x u ∧ RelV y w' := by
  cases r with
  | cons r1 r2 =>
    cases r2 with
    | cons r3 r4 => cases r4; exact ⟨_, _, rfl, r1, r3⟩
theorem call_abs : CallR X (.builtin "abs") (fun xs H Q => ∃ i, xs = [.int i] ∧ Q (.int (if i < 0 then -i else i)) H) := by
  intro pins s σ H xs us Q I r h
  obtain ⟨i, rfl, q⟩ := h
  obtain ⟨u, rfl, t, rfl⟩ := vals1 r
  exact call_abs_int fun u tk => ⟨.int (if i < 0 then -i else i), H, I.tok _, ⟨_, rfl⟩, q⟩
theorem call_max2 (hc : X.calm = true) : CallR X (.builtin "max") (fun xs H Q => ∃ i j, xs = [.int i, .int j] ∧ Q (.int (if j > i then j else i)) H) := by
  intro pins s σ H xs us Q I r h
  obtain ⟨i, j, rfl, q⟩ := h
  obtain ⟨u, w', rfl, ⟨t, rfl⟩, ⟨t', rfl⟩⟩ := vals2 r
  refine max_two_ints (I.ok.hd hc) fun h' tk k => ⟨_, H, I.kept k, ?_, q⟩
  by_cases hj : j > i
  · rw [if_pos hj, if_pos hj]; exact ⟨_, rfl⟩
  · rw [if_neg hj, if_neg hj]; exact ⟨_, rfl⟩
theorem call_min2 (hc : X.calm = true) : CallR X (.builtin "min") (fun xs H Q => ∃ i j, xs = [.int i, .int j] ∧ Q (.int (if j < i then j else i)) H) := by
  intro pins s σ H xs us Q I r h
  obtain ⟨i, j, rfl, q⟩ := h
  obtain ⟨u, w', rfl, ⟨t, rfl⟩, ⟨t', rfl⟩⟩ := vals2 r
  refine min_two_ints (I.ok.hd hc) fun h' tk k => ⟨_, H, I.kept k, ?_, q⟩
  by_cases hj : j < i
  · rw [if_pos hj, if_pos hj]; exact ⟨_, rfl⟩
  · rw [if_neg hj, if_neg hj]; exact ⟨_, rfl⟩
theorem call_int1 : CallR X (.type "int") (fun xs H Q => (∃ i, xs = [.int i] ∧ Q (.int i) H) ∨ ∃ k, xs = [.bl k] ∧ Q (.int (if k then 1 else 0)) H) := by
  intro pins s σ H xs us Q I r h
  rcases h with ⟨i, rfl, q⟩ | ⟨k, rfl, q⟩
  · obtain ⟨u, rfl, t, rfl⟩ := vals1 r
    exact call_int_int ⟨.int i, H, I, ⟨_, rfl⟩, q⟩
  · obtain ⟨u, rfl, r1⟩ := vals1 r
    cases r1
    exact call_int_bool ⟨.int (if k then 1 else 0), H, I.tok _, ⟨_, rfl⟩, q⟩
end
end L2
namespace L2
open PySem PySem.Spec PyProof.Rows
structure ObjM (h : Heap) (x dx C : Addr) (mA : Str → Option Value) : Prop where
  obj : h.get? x = some (PySem.W.instObj C dx)
  ns : h.Ns1 dx mA
  ne : dx ≠ x
theorem lookIn_ns {h : Heap} {dx : Addr} {mA : Str → Option Value} (n : h.Ns1 dx mA) : ∃ od, h.get? dx = some od ∧ ∀ name, PySem.W.lookIn name od = some (mA name) := by
  obtain ⟨o, es, ep, ho, hd, hk, _, hm⟩ := n
  refine ⟨o, ho, fun name => ?_⟩
  have e := hm name
  unfold nsFind findBy at e
  rw [← Array.find?_toList] at e
  unfold PySem.W.lookIn
  rw [hd]
  dsimp only
  split
  · rename_i y q
    rw [q] at e
    exact congrArg some e
  · rename_i q
    rw [q] at e
    have a : es.toList.any (·.refKey) = false := by
      rw [List.any_eq_false]
      intro y hy
      obtain ⟨z, t, hkey⟩ := hk y (Array.mem_toList_iff.mp hy)
      simp [DictEntry.refKey, hkey]
    have a' : ¬ es.toList.any (·.refKey) = true := by rw [a]; exact Bool.false_ne_true
    rw [if_neg a']
    exact congrArg some e
theorem ObjM.look {h : Heap} {x dx C : Addr} {mA : Str → Option Value} (I : ObjM h x dx C mA) : ∃ od, PySem.W.InstAt h x (PySem.W.instObj C dx) C (some od) ∧ ∀ name, PySem.W.lookIn name od = some (mA name) :=
  let ⟨od, ho, hl⟩ := lookIn_ns I.ns
  ⟨od, ⟨I.obj, rfl, rfl, ho⟩, hl⟩
section
variable {prog : Program} {w : World} {A : Around} {E : Value → Shared → Prop} {s : Shared} {K : PySem.W.Frag} {x dx C f : Addr} {mA : Str → Option Value} {name : Str} {v : Value}
theorem get_map {expr : Bool} {Q : Value → Shared → Prop} (X : K.In s.heap) (I : ObjM s.heap x dx C mA) (hg : PySem.W.plainGet K C name = true) (hh : PySem.W.hasDictIn K C = true)
    (ha : PySem.W.findIn K (.ref C) name = some none) (hv : mA name = some v) (hv' : PySem.W.handedIn v = true) (h : Q v { s with toks := s.toks + 1 }) :
    wpAny (model prog w) A (getAttr (.ref x) name expr) Q E s := by
  obtain ⟨od, J, hl⟩ := I.look
  exact PySem.W.get_value X J (PySem.W.plainGet_of hg).1 (PySem.W.findObj_own hh ha rfl (by rw [hl, hv])) hv' h
end
theorem RelO.some_of {v : V} {o : Option Value} (r : RelO (some v) o) : ∃ u, o = some u ∧ RelV v u := by
  cases o with
  | none => exact (show False from r).elim
  | some u => exact ⟨u, rfl, r⟩
section
variable {P : Program} {w : World} {H H' : Hp} {h h' : Heap} {a C dx : Addr} {fs fs' : List (Str × V)}
end
structure Cls (K : PySem.W.Frag) (C : Addr) : Prop where
  pg : PySem.W.plainGet K C Str.empty = true
  hd : PySem.W.hasDictIn K C = true
  po : PySem.W.plainOver K C = true
  sa : PySem.W.findIn K (.ref C) "__setattr__" = some (some (.builtin "object.__setattr__"))
theorem Cls.get {K : PySem.W.Frag} {C : Addr} (c : Cls K C) (f : Str) : PySem.W.plainGet K C f = true := c.pg
section
variable {X : Cx} {pins : List (Addr × Obj)} {σ : St} {H : Hp} {s : Shared} {a C dx : Addr} {fs : List (Str × V)} {f : Str} {v : V} {A : Around} {E : Value → Shared → Prop}
/-- a new instance, tracked, without attributes -/
theorem Inv.made (I : Inv X pins σ H s) : Inv X pins σ (upd (upd H s.heap.objs.size (.own (s.heap.objs.size + 1))) (s.heap.objs.size + 1) (.ins C s.heap.objs.size []))
    { s with heap := (s.heap.push PySem.W.emptyDict).push (PySem.W.instObj C s.heap.objs.size) } := by
  have e1 : (s.heap.push PySem.W.emptyDict).get? s.heap.objs.size = some PySem.W.emptyDict := Heap.get?_push_size s.heap rfl
  have e2 : ((s.heap.push PySem.W.emptyDict).push (PySem.W.instObj C s.heap.objs.size)).get? (s.heap.objs.size + 1) = some (PySem.W.instObj C s.heap.objs.size) := by
    have := Heap.get?_push_size (s.heap.push PySem.W.emptyDict) (o := PySem.W.instObj C s.heap.objs.size) rfl
    rwa [Heap.size_push] at this
  have e3 : (s.heap.push PySem.W.emptyDict).Ns s.heap.objs.size (fun _ => none) := ⟨PySem.W.emptyDict, #[], _, e1, rfl, (fun e he => absurd he (by simp)), fun _ => rfl⟩
  have I1 := I.laid (a := s.heap.objs.size) (o := .own (s.heap.objs.size + 1)) (h' := s.heap.push PySem.W.emptyDict) (t' := s.toks) (fun b u q => Heap.get?_push_of_some _ q) (Nat.le_refl _) ⟨_, e1⟩
  refine I1.laid (a := s.heap.objs.size + 1) (o := .ins C s.heap.objs.size []) (t' := s.toks) (fun b u q => Heap.get?_push_of_some _ q) (Nat.le_of_eq (Heap.size_push _ _)) ?_
  have ne : s.heap.objs.size ≠ s.heap.objs.size + 1 := Nat.ne_of_lt (Nat.lt_succ_self _)
  refine ⟨by rw [upd_ne ne, upd_same], Nat.zero_le _, ne, e2, fun _ => none, (Heap.Ns1.of_empty e3).at fun o q => Heap.get?_push_of_some _ q, fun _ => True.intro, fun y hy => absurd rfl hy⟩
end
section
variable {X : Cx} {o e value : Expr} {f : Str} {pos pos' tpos : Pos} {ta tv : TE}
end
section
variable {X : Cx} {pins : List (Addr × Obj)} {σ : St} {H : Hp} {s : Shared} {A : Around} {E : Value → Shared → Prop} {Q : Value → Shared → Prop} {c : Value} {b : Bool}
end
end L2
namespace L2
open PySem PySem.Spec PyProof.Rows
structure Room (k : Nat) (A : Around) : Prop where
  hd : A.handled = none
  dp : A.depth + 3 * k + 5 < recursionLimit
  un : A.units + 16 * k + 200 < cLine
  gd : A.guards = some []
theorem Room.mono {j k : Nat} {A : Around} (r : Room k A) (h : j ≤ k) : Room j A := ⟨r.hd, by have := r.dp; omega, by have := r.un; omega, r.gd⟩
theorem Room.deeper {k : Nat} {A : Around} (r : Room (k + 1) A) (env : Env) : Room k (A.deeper env) :=
  ⟨r.hd, by have := r.dp; show A.depth + 1 + 3 * k + 5 < _; omega, by have := r.un; show A.units + 3 + 16 * k + 200 < _; omega, r.gd⟩
theorem Room.in1 {k : Nat} {A : Around} (r : Room (k + 1) A) : Room k A.in1 :=
  ⟨r.hd, by have := r.dp; show A.depth + 3 * k + 5 < _; omega, by have := r.un; show A.units + 1 + 16 * k + 200 < _; omega, r.gd⟩
theorem Room.depth {k : Nat} {A : Around} (r : Room k A) : A.depth < recursionLimit := by have := r.dp; omega
theorem Room.units {k : Nat} {A : Around} (r : Room k A) : A.units + 64 < cLine := by have := r.un; omega
def tNil : TA := fun _ H Q => Q [] H
def tCons (ta : TE) (tr : TA) : TA := fun σ H Q => ta σ H fun x H1 => tr σ H1 fun xs H2 => Q (x :: xs) H2
section
variable {X : Cx} {e : Expr} {es : List Expr} {te : TE} {t : TA} {pos : Pos}
theorem pa_nil : PA X [] tNil := fun _ _ _ _ H Q I h => Calls.spliced_nil ⟨[], H, I, .nil, h⟩
theorem pa_cons (ha : PE X e te) (hr : PA X es t) (hs : starEach (e :: es) X.env = (false, eval e X.env) :: starEach es X.env := by rfl) : PA X (e :: es) (tCons te t) := by
  intro pos pins s σ H Q I h
  rw [hs]
  show wpAny _ _ (spliced ((false, eval e X.env) :: backTo pos (starEach es X.env))) _ _ s
  refine Calls.spliced_cons (thn (ha pins s σ H _ I h) fun u s1 ⟨x, H1, I1, r1, q1⟩ => ?_)
  exact thn (hr pos pins s1 σ H1 _ I1 q1) fun us s2 ⟨xs, H2, I2, r2, q2⟩ => ⟨x :: xs, H2, I2, .cons r1 r2, q2⟩
/-- a tuple, a list of written items -/
def tTup (t : TA) : TE := fun σ H Q => t σ H fun xs H1 => xs.length ≤ sizeLine ∧ ∀ p, H1 p = none → Q (.ref p) (upd H1 p (.tup xs))
def tLst (t : TA) : TE := fun σ H Q => t σ H fun xs H1 => xs.length ≤ sizeLine ∧ ∀ p, H1 p = none → Q (.ref p) (upd H1 p (.lst xs))
theorem pe_tup {x1} (h : PA X es t) : PE X (.Tuple es x1 pos) (tTup t) := by
  intro pins s σ H Q I hq
  refine wpAny_Tuple_spliced (thn (h pos pins s σ H _ I hq) fun us s1 ⟨xs, H1, I1, r, z, q⟩ => ⟨by rw [← r.length]; exact z, ?_⟩)
  have hf : H1 s1.heap.objs.size = none := I1.hok.fresh (Nat.le_refl _)
  refine ⟨.ref s1.heap.objs.size, upd H1 s1.heap.objs.size (.tup xs), I1.laid (t' := s1.toks) (fun b u e => Heap.get?_push_of_some _ e) (Nat.le_refl _) ?_, rfl, q _ hf⟩
  exact ⟨z, us, r, ⟨_, Heap.get?_push_size _ rfl, rfl, _, rfl⟩⟩
theorem pe_lst (h : PA X es t) : PE X (.List es pos) (tLst t) := by
  intro pins s σ H Q I hq
  refine wpAny_List_spliced (thn (h pos pins s σ H _ I hq) fun us s1 ⟨xs, H1, I1, r, z, q⟩ => ⟨by rw [← r.length]; exact z, ?_⟩)
  have hf : H1 s1.heap.objs.size = none := I1.hok.fresh (Nat.le_refl _)
  refine ⟨.ref s1.heap.objs.size, upd H1 s1.heap.objs.size (.lst xs), I1.laid (t' := s1.toks) (fun b u e => Heap.get?_push_of_some _ e) (Nat.le_refl _) ?_, rfl, q _ hf⟩
  exact ⟨z, us, 0, r, Heap.get?_push_size _ rfl⟩
end
/-- a def's promise: the bound arguments in the parameters' order, the heap, the wanted end, the wanted exception -/
abbrev Sp := List V → Hp → VK → XK → Prop
/-- how an exception lies behind a call (file 08 gives it): the callers' frames, abstract heap and state ahead of the call, the wish, the exception, the state -/
abbrev CXT := List Env → Hp → Shared → XK → Value → Shared → Prop
/-- the state at a call -/
structure Env0 (P : Program) (w : World) (K : PySem.W.Frag) (mg : Str → Option Value) (base : Heap) (A : Around) (outer : List Env) (s : Shared) (H : Hp) : Prop where
  frames : A.frames = some outer
  mod : Mod K mg base
  bs : ∀ b o, base.get? b = some o → s.heap.get? b = some o ∧ H b = none
  bsz : base.objs.size ≤ s.heap.objs.size
  funs : s.heap.FunFrames base outer
  frf : ∀ b ∈ frs outer, H b = none
  hok : HOk P w H s.heap
  bare : AllBare s.gens
/-- a call's end -/
def CE (outer : List Env) (P : Program) (w : World) (H : Hp) (s : Shared) (Q : VK) (u : Value) (s' : Shared) : Prop :=
  ∃ v H', s'.os = s.os ∧ AllBare s'.gens ∧ Un (frs outer) [] H H' s.heap s'.heap ∧ HOk P w H' s'.heap ∧ RelV v u ∧ Q v H'
def CR (CX : CXT) (outer : List Env) (P : Program) (w : World) (H : Hp) (s : Shared) (Q : VK) (E : XK) (r : Result) (s' : Shared) : Prop :=
  match r with
  | .ok (.ret u) => CE outer P w H s Q u s'
  | .ok _ => False
  | .error e => CX outer H s E e s'
structure FnOk (P : Program) (w : World) (K : PySem.W.Frag) (mg : Str → Option Value) (base : Heap) (CX : CXT) (k : Nat) (f : Addr) (fd : FuncData) (ps : List Str) (sp : Sp) : Prop where
  len : ∀ vs H Q E, sp vs H Q E → vs.length = ps.length
  run : ∀ (A : Around) (outer : List Env) (s : Shared) (H : Hp) (args : Args) (us : List Value) (vs : List V) (Q : VK) (E : XK), Room k A → Env0 P w K mg base A outer s H → BindsTo s fd args (ps.zip us) → Vals vs us → sp vs H Q E →
    codeAny (model P w) A (.call (.ref f) args) (CR CX outer P w H s Q E) s
theorem FnOk.mono {P : Program} {w : World} {K : PySem.W.Frag} {mg : Str → Option Value} {base : Heap} {CX : CXT} {j k : Nat} {f : Addr} {fd : FuncData} {ps : List Str} {sp : Sp} (F : FnOk P w K mg base CX j f fd ps sp) (h : j ≤ k) :
    FnOk P w K mg base CX k f fd ps sp := ⟨F.len, fun A outer s H args us vs Q E hr => F.run A outer s H args us vs Q E (hr.mono h)⟩
/-- a weaker promise -/
theorem FnOk.imp {P : Program} {w : World} {K : PySem.W.Frag} {mg : Str → Option Value} {base : Heap} {CX : CXT} {k : Nat} {f : Addr} {fd : FuncData} {ps : List Str} {sp sp' : Sp} (F : FnOk P w K mg base CX k f fd ps sp)
    (h : ∀ vs H Q E, sp' vs H Q E → sp vs H Q E) : FnOk P w K mg base CX k f fd ps sp' :=
  ⟨fun vs H Q E q => F.len vs H Q E (h _ _ _ _ q), fun A outer s H args us vs Q E hr he hb hv hs => F.run A outer s H args us vs Q E hr he hb hv (h _ _ _ _ hs)⟩
theorem Env0.in1 {P : Program} {w : World} {K : PySem.W.Frag} {mg : Str → Option Value} {base : Heap} {A : Around} {outer : List Env} {s : Shared} {H : Hp} (e : Env0 P w K mg base A outer s H) :
    Env0 P w K mg base A.in1 outer s H := ⟨e.frames, e.mod, e.bs, e.bsz, e.funs, e.frf, e.hok, e.bare⟩
section
variable {X : Cx} {pins : List (Addr × Obj)} {σ : St} {H : Hp} {s s' : Shared}
/-- from a body: what a callee wants -/
theorem Inv.env0 (I : Inv X pins σ H s) : Env0 X.prog X.w X.K X.mg X.base X.A X.stack s H :=
  ⟨I.ok.frames, I.ok.mod, I.bs, Nat.le_trans I.ok.bsz I.sz, I.stack, I.stkFree, I.hok, I.bare⟩
/-- behind a call -/
theorem Inv.after {Q : VK} {u : Value} (I : Inv X pins σ H s) (h : CE X.stack X.prog X.w H s Q u s') : EP X pins σ Q u s' := by
  obtain ⟨v, H', os, bare, un, hok, r, q⟩ := h
  obtain ⟨hh, g, d, t, os'⟩ := s'
  obtain rfl : os' = s.os := os
  exact ⟨v, H', I.call (h' := hh) (g' := g) (d' := d) (t' := t) (ch := []) un hok bare (fun b z => absurd z (by simp)), r, q⟩
end
/-- f(..): the written arguments, then the defaults dvs; E: what is wanted of an exception -/
def tCall (sp : Sp) (dvs : List V) (E : XK) (t : TA) : TE := fun σ H Q => t σ H fun vs H1 => sp (vs ++ dvs) H1 Q E
/-- how the parameters are bound: us the positional arguments, kw the keywords' values by name, ds the defaults that fill up -/
def Binds (K : PySem.W.Frag) (fd : FuncData) (ps : List Str) (ds : List Value) : Prop :=
  ∀ (s : Shared) (us : List Value), K.In s.heap → (us ++ ds).length = ps.length → BindsTo s fd ⟨us, []⟩ (ps.zip (us ++ ds))
/-- every parameter is given -/
theorem Binds.all {K : PySem.W.Frag} {fd : FuncData} {ps : List Str} (h : ∀ us : List Value, us.length = ps.length → bindArgs fd ⟨us, []⟩ = pure (ps.zip us)) : Binds K fd ps [] := fun s us _ hl => by
  rw [List.append_nil] at hl ⊢
  exact .of_eq (h us hl)
/-- an exception of a callee reaches what this body wants of exceptions -/
def Passes (CX : CXT) (X : Cx) (E : XK) : Prop := ∀ (pins : List (Addr × Obj)) (σ : St) (H : Hp) (s : Shared) (e : Value) (s' : Shared), Inv X pins σ H s → CX X.stack H s E e s' → X.xe e s'
section
variable {X : Cx} {CX : CXT} {k : Nat} {f C : Addr} {fd : FuncData} {ps : List Str} {sp : Sp} {dvs : List V} {ds : List Value} {E : XK} {x m : Str} {p pos apos : Pos} {e o : Expr} {es : List Expr} {ta : TE} {t : TA}
/-- the callee runs -/
theorem run_fn {pins : List (Addr × Obj)} {σ : St} {H : Hp} {s : Shared} {Q : VK} {us : List Value} {vs : List V} (F : FnOk X.prog X.w X.K X.mg X.base CX k f fd ps sp) (hr : Room k X.A) (hb : Binds X.K fd ps ds) (hd : Vals dvs ds) (hx : Passes CX X E)
    (I : Inv X pins σ H s) (r : Vals vs us) (h : sp (vs ++ dvs) H Q E) : wpAny (model X.prog X.w) X.A (call (.ref f) us) (EP X pins σ Q) X.xe s := by
  have r2 : Vals (vs ++ dvs) (us ++ ds) := r.append hd
  have hl : (us ++ ds).length = ps.length := by rw [← r2.length]; exact F.len _ _ _ _ h
  refine wpAny_call (codeAny_mono (F.run X.A X.stack s H ⟨us, []⟩ (us ++ ds) (vs ++ dvs) Q E hr I.env0 (hb s us I.kIn hl) r2 h) fun r s' hq => ?_)
  cases r with
  | error e => exact hx pins σ H s e s' I hq
  | ok fl =>
    cases fl with
    | ret u => exact I.after hq
    | next => exact False.elim hq
    | brk => exact False.elim hq
    | cont => exact False.elim hq
theorem pe_call (F : FnOk X.prog X.w X.K X.mg X.base CX k f fd ps sp) (hr : Room k X.A) (hg : Gl X x) (hm : X.mg x = some (.ref f)) (hk : PySem.W.keepIn X.K (.ref f) = true) (hb : Binds X.K fd ps ds) (hd : Vals dvs ds) (hx : Passes CX X E)
    (ha : PA X (e :: es) t) (hdb : (x == ("__debug__" : Str)) = false := by decide) (he : starEach (e :: es) X.env = (false, eval e X.env) :: starEach es X.env := by rfl) (hpl : (backTo pos (starEach es X.env)).any (·.1) = false := by rfl) :
    PE X (.Call (.Name x p) (e :: es) [] pos) (tCall sp dvs E t) := by
  intro pins s σ H Q I h
  refine wpAny_Call_Name_kw (ld_glob I hg hm ?_ hdb)
  refine PySem.W.callWith_K (h₀ := X.base) I.ok.mod.kin hk (thn (ha pos pins s σ H _ I h) fun us s1 ⟨vs, H1, I1, r, q⟩ => ⟨I1.kIn, ?_⟩) he hpl
  exact run_fn F hr hb hd hx I1 r q
end
/-- the values of the keywords, from the left -/
def PK (X : Cx) (kws : List Keyword) (t : TA) : Prop :=
  ∀ (pos : Pos) (pins : List (Addr × Obj)) (s : Shared) (σ : St) (H : Hp) (Q : List V → Hp → Prop), Inv X pins σ H s → t σ H Q → wpAny (model X.prog X.w) X.A (evalAll ((backToKw pos (keywordEach kws X.env)).map (·.2))) (AP X pins σ Q) X.xe s
section
variable {X : Cx} {CX : CXT} {k : Nat} {f C : Addr} {fd : FuncData} {ps ks : List Str} {sp : Sp} {E : XK} {x m : Str} {p pos apos kpos : Pos} {e o : Expr} {es : List Expr} {kws : List Keyword} {te ta : TE} {t tk : TA} {nm : Option Str}
theorem pk_nil : PK X [] tNil := fun _ _ _ _ H Q I h => wpAny_evalAll_nil ⟨[], H, I, .nil, h⟩
theorem pk_cons (ha : PE X e te) (hr : PK X kws t) : PK X (⟨nm, e, kpos⟩ :: kws) (tCons te t) := by
  intro pos pins s σ H Q I h
  show wpAny _ _ (evalAll ((do let v ← eval e X.env; standAt pos; pure v) :: (backToKw pos (keywordEach kws X.env)).map (·.2))) _ _ s
  refine wpAny_evalAll_cons (wpAny_bind (thn (ha pins s σ H _ I h) fun u s1 ⟨x, H1, I1, r1, q1⟩ => wpAny_bind (wpAny_standAt (wpAny_pure ?_))))
  exact thn (hr pos pins s1 σ H1 _ I1 q1) fun us s2 ⟨xs, H2, I2, r2, q2⟩ => ⟨x :: xs, H2, I2, .cons r1 r2, q2⟩
/-- how a call with keywords binds: g puts the positional values us and the keywords' values ws (names ks) in the parameters' order, defaults among them -/
structure KBinds (K : PySem.W.Frag) (fd : FuncData) (ps ks : List Str) (g : List Value → List Value → List Value) (gV : List V → List V → List V) : Prop where
  to : ∀ (s : Shared) (us ws : List Value), K.In s.heap → (g us ws).length = ps.length → BindsTo s fd ⟨us, ks.zip ws⟩ (ps.zip (g us ws))
  rel : ∀ {vs : List V} {us : List Value} {zs : List V} {ws : List Value}, Vals vs us → Vals zs ws → Vals (gV vs zs) (g us ws)
def tCallK (sp : Sp) (gV : List V → List V → List V) (E : XK) (t tk : TA) : TE := fun σ H Q => t σ H fun vs H1 => tk σ H1 fun zs H2 => sp (gV vs zs) H2 Q E
variable {g : List Value → List Value → List Value} {gV : List V → List V → List V}
theorem run_fnk {pins : List (Addr × Obj)} {σ : St} {H : Hp} {s : Shared} {Q : VK} {us ws : List Value} {vs zs : List V} (F : FnOk X.prog X.w X.K X.mg X.base CX k f fd ps sp) (hr : Room k X.A) (hb : KBinds X.K fd ps ks g gV) (hx : Passes CX X E)
    (I : Inv X pins σ H s) (r : Vals vs us) (rz : Vals zs ws) (h : sp (gV vs zs) H Q E) : wpAny (model X.prog X.w) X.A (call (.ref f) us (ks.zip ws)) (EP X pins σ Q) X.xe s := by
  have r2 := hb.rel r rz
  have hl : (g us ws).length = ps.length := by rw [← r2.length]; exact F.len _ _ _ _ h
  refine wpAny_call (codeAny_mono (F.run X.A X.stack s H ⟨us, ks.zip ws⟩ (g us ws) (gV vs zs) Q E hr I.env0 (hb.to s us ws I.kIn hl) r2 h) fun r s' hq => ?_)
  cases r with
  | error e => exact hx pins σ H s e s' I hq
  | ok fl =>
    cases fl with
    | ret u => exact I.after hq
    | next => exact False.elim hq
    | brk => exact False.elim hq
    | cont => exact False.elim hq
/-- f(e, .., k = v, ..) -/
theorem pe_callK (F : FnOk X.prog X.w X.K X.mg X.base CX k f fd ps sp) (hr : Room k X.A) (hg : Gl X x) (hm : X.mg x = some (.ref f)) (hk : PySem.W.keepIn X.K (.ref f) = true) (hb : KBinds X.K fd ps ks g gV) (hx : Passes CX X E)
    (ha : PA X (e :: es) t) (hkw : PK X kws tk) (hall : (backToKw pos (keywordEach kws X.env)).all (·.1.isSome) = true := by rfl) (hks : (backToKw pos (keywordEach kws X.env)).filterMap (·.1) = ks := by rfl)
    (hdb : (x == ("__debug__" : Str)) = false := by decide) (he : starEach (e :: es) X.env = (false, eval e X.env) :: starEach es X.env := by rfl)
    (hpl : ((backTo pos (starEach (e :: es) X.env)).any (·.1) || (backToKw pos (keywordEach kws X.env)).any (·.1.isNone)) = false := by rfl) :
    PE X (.Call (.Name x p) (e :: es) kws pos) (tCallK sp gV E t tk) := by
  intro pins s σ H Q I h
  refine wpAny_Call_Name_kw (ld_glob I hg hm ?_ hdb)
  refine PySem.W.callWith_KW (h₀ := X.base) I.ok.mod.kin hk hall (thn (ha pos pins s σ H _ I h) fun us s1 ⟨vs, H1, I1, r, q⟩ => ?_) hpl he
  refine thn (hkw pos pins s1 σ H1 _ I1 q) fun ws s2 ⟨zs, H2, I2, rz, q2⟩ => ⟨I2.kIn, ?_⟩
  rw [hks]
  exact run_fnk F hr hb hx I2 r rz q2
end
/-- names: the parameters first -/
structure FnScope (N P : List Str) (sc : Scope) : Prop where
  kind : sc.kind = .function
  co : sc.isCoroutine = false
  gen : sc.isGenerator = false
  nd : N.Nodup
  pre : N.take P.length = P
  par : ∀ x ∈ P, sc.names.lookup x = some .local ∨ sc.names.lookup x = some .cell
  nofree : ∀ y ∈ sc.names, y.2 ≠ .free
theorem bindL_out {kindOf : Str → Option NameKind} {x : Str} : ∀ {binds : List (Str × Value)} {m : Str → Option Value}, (∀ v, (x, v) ∉ binds) → bindL kindOf binds m x = m x
  | [], _, _ => rfl
  | (n, v) :: r, m, h => by
    unfold bindL
    rw [bindL_out fun w hw => h w (List.mem_cons_of_mem _ hw)]
    split
    · have : x ≠ n := by rintro rfl; exact h v List.mem_cons_self
      simp [this]
    · rfl
theorem bindC_out {kindOf : Str → Option NameKind} {x : Str} : ∀ {binds : List (Str × Value)} {m : Str → Option Value}, (∀ v, (x, v) ∉ binds) → bindC kindOf binds m x = m x
  | [], _, _ => rfl
  | (n, v) :: r, m, h => by
    unfold bindC
    rw [bindC_out fun w hw => h w (List.mem_cons_of_mem _ hw)]
    split
    · rfl
    · have : x ≠ n := by rintro rfl; exact h v List.mem_cons_self
      simp [this]
theorem bindL_get {kindOf : Str → Option NameKind} {x : Str} {v : Value} : ∀ {P : List Str} {vs : List Value} {i : Nat} {m : Str → Option Value}, P.Nodup → P[i]? = some x → vs[i]? = some v → kindOf x = some .local →
    bindL kindOf (P.zip vs) m x = some v
  | [], _, _, _, _, h, _, _ => by simp at h
  | _ :: _, [], _, _, _, _, h, _ => by simp at h
  | p :: P, w :: vs, 0, m, nd, h1, h2, hk => by
    simp at h1 h2; subst h1; subst h2
    show bindL kindOf ((p, w) :: P.zip vs) m p = _
    unfold bindL
    rw [bindL_out fun v hv => (List.nodup_cons.mp nd).1 (List.of_mem_zip hv).1, if_pos hk]
    simp
  | p :: P, w :: vs, i + 1, m, nd, h1, h2, hk => by
    show bindL kindOf ((p, w) :: P.zip vs) m x = _
    unfold bindL
    exact bindL_get (i := i) (List.nodup_cons.mp nd).2 (by simpa using h1) (by simpa using h2) hk
theorem bindC_get {kindOf : Str → Option NameKind} {x : Str} {v : Value} : ∀ {P : List Str} {vs : List Value} {i : Nat} {m : Str → Option Value}, P.Nodup → P[i]? = some x → vs[i]? = some v → kindOf x ≠ some .local →
    bindC kindOf (P.zip vs) m x = some v
  | [], _, _, _, _, h, _, _ => by simp at h
  | _ :: _, [], _, _, _, _, h, _ => by simp at h
  | p :: P, w :: vs, 0, m, nd, h1, h2, hk => by
    simp at h1 h2; subst h1; subst h2
    show bindC kindOf ((p, w) :: P.zip vs) m p = _
    unfold bindC
    rw [bindC_out fun v hv => (List.nodup_cons.mp nd).1 (List.of_mem_zip hv).1, if_neg hk]
    simp
  | p :: P, w :: vs, i + 1, m, nd, h1, h2, hk => by
    show bindC kindOf ((p, w) :: P.zip vs) m x = _
    unfold bindC
    exact bindC_get (i := i) (List.nodup_cons.mp nd).2 (by simpa using h1) (by simpa using h2) hk
/-- the names' values at the entry -/
def start (N : List Str) (vs : List V) : St := vs.map some ++ List.replicate (N.length - vs.length) none
/-- the context of a def's body, at its entry; an exception leaves the frame, then lies as CX says -/
def cxOf (CX : CXT) (P : Program) (w : World) (K : PySem.W.Frag) (mg : Str → Option Value) (base : Heap) (N : List Str) (qual : Str) (scope : Scope) (f : Addr) (cd : Value) (A : Around) (outer : List Env) (s : Shared) (H : Hp) (E : XK) : Cx where
  prog := P
  w := w
  K := K
  mg := mg
  base := base
  A := A.deeper (envOfC qual scope s.heap.objs.size f cd)
  N := N
  s_0 := s
  H_0 := H
  env := envOfC qual scope s.heap.objs.size f cd
  outer := outer
  stack := envOfC qual scope s.heap.objs.size f cd :: outer
  ex := []
  calm := true
  fn := fun _ => true
  pn := []
  xe := fun e s' => wpAny (model P w) (A.deeper (envOfC qual scope s.heap.objs.size f cd)) (leaving (envOfC qual scope s.heap.objs.size f cd) e) (fun _ s'' => CX outer H s E e s'') (fun e' s'' => CX outer H s E e' s'') s'
theorem cell_has {sc : Scope} {n : Nat} {x : Str} (h : sc.names.lookup x = some .cell) : ∃ c, (cellsFrom n sc.names []).lookup x = some c := by
  have q := PySem.W.cellsFrom_some sc.names n [] (.inl h)
  exact Option.isSome_iff_exists.mp q
theorem inv_start {CX : CXT} {P : Program} {w : World} {K : PySem.W.Frag} {mg : Str → Option Value} {base : Heap} {N ps : List Str} {qual : Str} {scope : Scope} {f : Addr} {cd : Value} {A : Around} {outer : List Env} {s s1 : Shared} {H : Hp} {E : XK} {us : List Value} {vs : List V}
    (S : FnScope N ps scope) (hd : A.handled = none) (e0 : Env0 P w K mg base A outer s H) (hl : vs.length = ps.length) (r : Vals vs us)
    (x : InCallC s s.heap.objs.size (bindL (envOfC qual scope s.heap.objs.size f cd).kindOf (ps.zip us) fun _ => none) (cellsFrom (s.heap.objs.size + 1) scope.names []) (bindC (envOfC qual scope s.heap.objs.size f cd).kindOf (ps.zip us) fun _ => none) s1) :
    Inv (cxOf CX P w K mg base N qual scope f cd A outer s H E) [] (start N vs) H s1 := by
  have hpl : ps.length ≤ N.length := by have := congrArg List.length S.pre; rw [List.length_take] at this; omega
  obtain ⟨h1, tk, rfl, hk⟩ := x.done
  have noA : ∀ b : Addr, b ∉ (cxOf CX P w K mg base N qual scope f cd A outer s H E).ex := fun b z => absurd (show b ∈ ([] : List Addr) from z) (by simp)
  refine ⟨⟨e0.mod, S.kind, rfl, rfl, Nat.le_refl _, fun y z c h1 h2 => ?_, fun y hy => ?_, fun y c _ h => ?_, fun _ => hd, Around.frames_deeper e0.frames, .inr ⟨rfl, rfl⟩, fun b z => absurd z (noA b), e0.bs, e0.bsz, fun b _ _ => noA b, fun b z => absurd z (noA b), e0.funs, e0.frf⟩,
    rfl, e0.bare, Un.kept hk, ⟨_, x.toInCall.ns, fun i y v h1 h2 h3 => ?_⟩, fun y c h => ⟨_, x.cell y c h⟩, e0.hok.fresh (Nat.le_refl _), fun y c h => ?_, fun p hp => absurd (show p ∈ ([] : List (Addr × Obj)) from hp) (by simp), e0.hok.kept hk, ?_⟩
  · exact name_of_addr x.apart (PySem.mem_of_lookup h1) (PySem.mem_of_lookup h2)
  · have hy : scope.names.lookup y = some .cell ∨ scope.names.lookup y = some .free := hy
    rcases hy with hy | hy
    · exact cell_has hy
    · exact absurd rfl (S.nofree _ (PySem.mem_of_lookup hy))
  · exact Nat.le_of_lt (x.above y c (PySem.mem_of_lookup h))
  · have hi : i < vs.length := by
      unfold start at h2
      by_cases hi : i < vs.length
      · exact hi
      · rw [List.getElem?_append_right (by simpa using hi)] at h2
        rw [List.getElem?_replicate] at h2
        split at h2 <;> cases h2
    have ha : vs[i]? = some v := by
      unfold start at h2
      rw [List.getElem?_append_left (by simpa using hi), List.getElem?_map] at h2
      cases e : vs[i]? with
      | none => rw [e] at h2; cases h2
      | some a => rw [e] at h2; cases h2; rfl
    obtain ⟨u, hu, rv⟩ := r.get ha
    have hp : ps[i]? = some y := by
      rw [← S.pre, List.getElem?_take_of_lt (by omega)]; exact h1
    have ndP : ps.Nodup := by rw [← S.pre]; exact S.nd.sublist (List.take_sublist _ _)
    refine ⟨u, rv, ?_⟩
    rcases S.par y (List.mem_of_getElem? hp) with k | k
    · exact .inl ⟨k, bindL_get ndP hp hu k⟩
    · obtain ⟨c, e⟩ := cell_has (n := s.heap.objs.size + 1) k
      refine .inr ⟨.inl k, c, e, ?_⟩
      have q := x.cell y c e
      rw [bindC_get ndP hp hu (by show scope.names.lookup y ≠ _; rw [k]; decide)] at q
      exact q
  · exact e0.hok.fresh (Nat.le_of_lt (x.above y c (PySem.mem_of_lookup h)))
  · unfold start
    show _ = N.length
    rw [List.length_append, List.length_map, List.length_replicate]
    omega
/-- THE RULE: a def (or a method) of the text, by its body. The body's reading t is chosen for each entry; it is run at the parameters' values -/
theorem fn_of {CX : CXT} {P : Program} {w : World} {K : PySem.W.Frag} {mg : Str → Option Value} {base : Heap} {k : Nat} {f : Addr} {name qual : Str} {params : Arguments} {body : List Stmt} {scope : Scope} {dV kV doc pm cdv ct oc : Value} {an od : Option Addr}
    {osl : Array (Option Value)} {N ps : List Str} {sp : Sp} (lk : K.lookup f = some ⟨oc, od, .func (PySem.W.fnOf name qual params body scope dV kV doc pm an cdv ct), osl⟩) (hcd : PySem.W.codeIn K cdv qual = true) (S : FnScope N ps scope)
    (len : ∀ vs H Q E, sp vs H Q E → vs.length = ps.length)
    (hbody : ∀ (A : Around) (outer : List Env) (s : Shared) (H : Hp) (vs : List V) (Q : VK) (E : XK), Room k (A.deeper (envOfC qual scope s.heap.objs.size f cdv)) → sp vs H Q E →
      ∃ t, PSs (cxOf CX P w K mg base N qual scope f cdv A outer s H E) body t ∧ t { nx := fun _ H' => Q .non H', rt := Q } (start N vs) H) :
    FnOk P w K mg base CX (k + 1) f (PySem.W.fnOf name qual params body scope dV kV doc pm an cdv ct) ps sp := by
  refine ⟨len, fun A outer s H args us vs Q E hr e0 hb r hsp => ?_⟩
  have hl := len _ _ _ _ hsp
  have KX : K.In s.heap := e0.mod.kin.keeps fun b o e => (e0.bs b o e).1
  have lim : s.heap.NoLimit := e0.mod.nolimit.keeps fun b o e => (e0.bs b o e).1
  have hkind : ∀ y ∈ ps.zip us, scope.names.lookup y.1 = some .local ∨ (scope.names.lookup y.1 = some .cell ∧ ((cellsFrom (s.heap.objs.size + 1) scope.names []).lookup y.1).isSome = true) := fun ⟨n, v⟩ hy => by
    rcases S.par n (List.of_mem_zip hy).1 with q | q
    · exact .inl q
    · exact .inr ⟨q, PySem.W.cellsFrom_some _ _ _ (.inl q)⟩
  refine codeAny_call_function hr.depth (KX _ _ lk) rfl S.co S.gen rfl (PySem.W.codeRec_of KX hcd) (hb _ _ _ _ ?_)
  refine wpAny_newFunctionEnv_cells S.kind hkind fun env he s1 x => ?_
  subst he
  refine ⟨lim.keeps x.toInCall.keep, codeAny_func ?_⟩
  obtain ⟨t, ht, hq⟩ := hbody A outer s H vs Q E (hr.deeper _) hsp
  have I : Inv (cxOf CX P w K mg base N qual scope f cdv A outer s H E) [] (start N vs) H s1 := inv_start S hr.hd e0 hl r x
  refine wpAny_mono (ht [] s1 (start N vs) H _ I hq) (fun fl s' hs => ?_) fun e s' hs => hs
  have fin : ∀ {σ' : St} {H' : Hp} {v : V} {u : Value}, Inv (cxOf CX P w K mg base N qual scope f cdv A outer s H E) [] σ' H' s' → RelV v u → Q v H' → CE outer P w H s Q u s' :=
    fun {σ' H' v u} J rv q => ⟨v, H', J.os, J.bare, J.base, J.hok, rv, q⟩
  cases fl with
  | ret u =>
    obtain ⟨v, σ', H', J, rv, q⟩ := hs
    exact fin J rv q
  | next =>
    obtain ⟨σ', H', J, q⟩ := hs
    exact fin (v := V.non) (u := Value.none) J rfl q
  | brk =>
    obtain ⟨_, _, _, q⟩ := hs
    exact False.elim q
  | cont =>
    obtain ⟨_, _, _, q⟩ := hs
    exact False.elim q
end L2
namespace L2
open PySem PySem.Spec PyProof.Rows
section
variable {X : Cx} {x : Str} {p pos : Pos} {e : Expr} {es : List Expr} {t : TA} {id T : String} {r : List V → Hp → VK → Prop}
def tCB (r : List V → Hp → VK → Prop) (t : TA) : TE := fun σ H Q => t σ H fun vs H1 => r vs H1 Q
/-- f(e, ..), f a built-in function -/
theorem pe_callB (hc : CallR X (.builtin id) r) (hg : Gl X x) (hm : X.mg x = none) (hv : bootBuiltins x = some (.builtin id)) (ha : PA X (e :: es) t) (hn : x ≠ "__name__" := by decide) (hdb : (x == ("__debug__" : Str)) = false := by decide)
    (he : starEach (e :: es) X.env = (false, eval e X.env) :: starEach es X.env := by rfl) (hpl : (backTo pos (starEach es X.env)).any (·.1) = false := by rfl) : PE X (.Call (.Name x p) (e :: es) [] pos) (tCB r t) := by
  intro pins s σ H Q I h
  refine wpAny_Call_Name_kw (ld_blt I hg hm hv ?_ hn hdb)
  exact PyProof.Rows.callWith_builtin1 (thn (ha pos pins s σ H _ I h) fun us s1 ⟨vs, H1, I1, r1, q1⟩ => hc pins s1 σ H1 vs us Q I1 r1 q1) he hpl
/-- T(e, ..), T a built-in type -/
theorem pe_callTy (hc : CallR X (.type T) r) (hg : Gl X x) (hm : X.mg x = none) (hv : bootBuiltins x = some (.type T)) (ha : PA X (e :: es) t) (hn : x ≠ "__name__" := by decide) (hdb : (x == ("__debug__" : Str)) = false := by decide)
    (he : starEach (e :: es) X.env = (false, eval e X.env) :: starEach es X.env := by rfl) (hpl : (backTo pos (starEach es X.env)).any (·.1) = false := by rfl) : PE X (.Call (.Name x p) (e :: es) [] pos) (tCB r t) := by
  intro pins s σ H Q I h
  refine wpAny_Call_Name_kw (ld_blt I hg hm hv ?_ hn hdb)
  exact PyProof.Rows.callWith_type1 (thn (ha pos pins s σ H _ I h) fun us s1 ⟨vs, H1, I1, r1, q1⟩ => hc pins s1 σ H1 vs us Q I1 r1 q1) he hpl
end
end L2
namespace HT
open PySem PyProof.Rows
/-- t < u of tuples of ints -/
def lexLt : List Int → List Int → Bool
  | [], [] => false
  | [], _ :: _ => true
  | _ :: _, [] => false
  | x :: xs, y :: ys => if x = y then lexLt xs ys else decide (x < y)
theorem lexLt_cons (x y : Int) (xs ys : List Int) : lexLt (x :: xs) (y :: ys) = if x = y then lexLt xs ys else decide (x < y) := rfl
section
open PySem.SeqAt
open PySem.AutoSeq1 (wpAny_loadPart')
open PySem.MeetsSeq PySem.MeetsSeq2 PySem.MeetsSeq3
end
section
variable {prog : Program} {w : World} {A : Around} {E : Value → Shared → Prop} {s : Shared}
/-- t + u, t not empty -/
theorem cat_tup {t b : Addr} {vs ws : List Value} {Q : Value → Shared → Prop} (ht : IsTup s.heap t vs.toArray) (hb : IsTup s.heap b ws.toArray) (hv : vs ≠ [])
    (h1 : ws = [] → Q (.ref t) s) (h2 : ws ≠ [] → Q (.ref s.heap.objs.size) { s with heap := s.heap.push { cls := .type "tuple", data := .seq (vs ++ ws).toArray } })
    (hsz : vs.length + ws.length ≤ sizeLine) : wpAny (model prog w) A (binaryOp .Add (.ref t) (.ref b)) Q E s := by
  obtain ⟨⟨cls, dd, data, sl⟩, ho, hc, n, hd⟩ := id ht
  obtain ⟨⟨cls2, dd2, data2, sl2⟩, ho2, hc2, n2, hd2⟩ := id hb
  simp only at hc hd hc2 hd2
  subst hc hd hc2 hd2
  have e : vs.toArray ++ ws.toArray = (vs ++ ws).toArray := by simp
  by_cases hw : ws = []
  · exact concat_meets ⟨_, ho, rfl⟩ ⟨_, ho2, rfl⟩ noFill_tuple_add seq_tuple_add PySem.F.slot_tuple_add PySem.F.entry_tuple_add (PySem.F.args_tuple_add_2 _ _)
      (tuple_addW1 t b vs.toArray ws.toArray n n2 dd dd2 sl sl2 (by simpa using hv) (by simp [hw])) ⟨ho, ho2, h1 hw⟩
  · refine concat_meets ⟨_, ho, rfl⟩ ⟨_, ho2, rfl⟩ noFill_tuple_add seq_tuple_add PySem.F.slot_tuple_add PySem.F.entry_tuple_add (PySem.F.args_tuple_add_2 _ _)
      (tuple_addW2 t b vs.toArray ws.toArray n n2 dd dd2 sl sl2 (by simpa using hv) (by simpa using hw) (by rw [List.size_toArray, List.size_toArray]; exact hsz)) ⟨ho, ho2, ?_⟩
    rw [e]
    exact h2 hw
/-- a slice's bound as a place among n (d where it is left out) -/
def sIx (n d : Nat) : Option Int → Nat
  | none => d
  | some v => if v < 0 then (v + (n : Int)).toNat else min v.toNat n
theorem sIx_le (n d : Nat) (hd : d ≤ n) (o : Option Int) : sIx n d o ≤ n := by
  cases o with
  | none => exact hd
  | some v =>
    show (if v < 0 then (v + (n : Int)).toNat else min v.toNat n) ≤ n
    by_cases hv : v < 0
    · rw [if_pos hv]; omega
    · rw [if_neg hv]; exact Nat.min_le_right _ _
theorem clip_eq (v : Int) (n d : Nat) : (if v < 0 then max (v + (n : Int)) 0 else min v (n : Int)) = ((sIx n d (some v) : Nat) : Int) := by
  show (if v < 0 then max (v + (n : Int)) 0 else min v (n : Int)) = (((if v < 0 then (v + (n : Int)).toNat else min v.toNat n) : Nat) : Int)
  by_cases hv : v < 0
  · simp only [if_pos hv]; omega
  · simp only [if_neg hv]; omega
theorem adjust_gen (lo hi : Option Int) (n : Nat) : Builtin.Slice.sliceAdjust lo hi 1 (n : Int) = (((sIx n 0 lo : Nat) : Int), ((sIx n n hi : Nat) : Int)) := by
  have h1 : ¬ ((1 : Int) < 0) := by omega
  unfold Builtin.Slice.sliceAdjust
  simp only [h1, if_false]
  refine Prod.ext ?_ ?_
  · cases lo with
    | none => rfl
    | some v => exact clip_eq v n 0
  · cases hi with
    | none => rfl
    | some v => exact clip_eq v n n
theorem places_gen (i j : Nat) : Builtin.Slice.slicePlaces (i : Int) (j : Int) 1 = j - i := by
  unfold Builtin.Slice.slicePlaces
  have h1 : (1 : Int) > 0 := by omega
  simp only [h1, if_true, Int.ediv_one]
  split <;> omega
theorem slicePart_ {v : Value} {o : Option Int} {Q : Option Int → Shared → Prop} (p : IsPart v o) (h : Q o s) : wpAny (model prog w) A (Builtin.Slice.slicePartIndex v) Q E s := by
  cases p with
  | none => exact slicePart_none h
  | int i t => exact slicePart_int h
theorem sliceApplied_gen {sl : Addr} {vl vu : Value} {lo hi : Option Int} {n : Nat} {Q : Int × Int × Nat → Shared → Prop} (hs : s.heap.IsSliceOf sl vl vu .none) (pl : IsPart vl lo) (pu : IsPart vu hi)
    (h : Q (((sIx n 0 lo : Nat) : Int), 1, sIx n n hi - sIx n 0 lo) s) : wpAny (model prog w) A (Builtin.Slice.sliceApplied (.ref sl) (pure (n : Int))) Q E s := by
  obtain ⟨os, hos, hcs, hds⟩ := id hs
  unfold Builtin.Slice.sliceApplied Builtin.Slice.sliceFields
  refine wpAny_bind (wpAny_bind (wpAny_field hos hds (x := vl) rfl (wpAny_bind (wpAny_field hos hds (x := vu) rfl (wpAny_bind (wpAny_field hos hds (x := .none) rfl (wpAny_pure ?_)))))))
  refine wpAny_bind (slicePart_none ?_)
  show wpAny _ _ (if ((1 : Int) == 0) = true then _ else _) _ _ s
  rw [if_neg (by decide)]
  refine wpAny_bind (slicePart_ pl (wpAny_bind (slicePart_ pu (wpAny_bind (wpAny_pure ?_)))))
  show wpAny _ _ (match Builtin.Slice.sliceAdjust lo hi 1 (n : Int) with | (lo, hi) => pure (lo, (1 : Int), Builtin.Slice.slicePlaces lo hi 1)) _ _ s
  rw [adjust_gen lo hi n]
  show wpAny _ _ (pure (((sIx n 0 lo : Nat) : Int), (1 : Int), Builtin.Slice.slicePlaces ((sIx n 0 lo : Nat) : Int) ((sIx n n hi : Nat) : Int) 1)) _ _ s
  rw [places_gen]
  exact wpAny_pure h
theorem pick_gen (xs : Array Value) (i k : Nat) : ((List.range k).filterMap fun (m : Nat) => xs[((i : Int) + (m : Int) * 1).toNat]?).toArray = ((xs.toList.drop i).take k).toArray := by
  have e : (fun (m : Nat) => xs[((i : Int) + (m : Int) * 1).toNat]?) = fun m => xs[i + m]? := by
    funext m
    have : ((i : Int) + (m : Int) * 1).toNat = i + m := by omega
    rw [this]
  rw [e]
  have := pick_run xs i k
  rw [List.filterMap_map] at this
  have e2 : ((fun x => xs[x]?) ∘ fun x => i + x) = fun m => xs[i + m]? := rfl
  rw [e2] at this
  rw [this]
theorem getItem_tuple_cut {t sl : Addr} {items : Array Value} {vl vu : Value} {lo hi : Option Int} {Q : Value → Shared → Prop} (ht : IsTup s.heap t items) (hs : s.heap.IsSliceOf sl vl vu .none) (pl : IsPart vl lo) (pu : IsPart vu hi)
    (hw : ¬ (sIx items.size 0 lo = 0 ∧ sIx items.size items.size hi = items.size))
    (h : Q (.ref s.heap.objs.size) { s with heap := s.heap.push { cls := .type "tuple", data := .seq ((items.toList.drop (sIx items.size 0 lo)).take (sIx items.size items.size hi - sIx items.size 0 lo)).toArray } })
    (hsz : items.size ≤ sizeLine) : wpAny (model prog w) A (getItem (.ref t) (.ref sl)) Q E s := by
  have htake : sizeOk (.seq ((items.toList.drop (sIx items.size 0 lo)).take (sIx items.size items.size hi - sIx items.size 0 lo)).toArray) := by
    show ((items.toList.drop (sIx items.size 0 lo)).take (sIx items.size items.size hi - sIx items.size 0 lo)).toArray.size ≤ sizeLine
    rw [List.size_toArray, List.length_take, List.length_drop, Array.length_toList]
    omega
  have hj : sIx items.size items.size hi ≤ items.size := sIx_le _ _ (Nat.le_refl _) hi
  obtain ⟨os, hos, hcs, hds⟩ := id hs
  have hTs : s.TypeIs (.ref sl) "slice" := ⟨os, hos, hcs⟩
  unfold getItem
  try with_reducible refine wpAny_holding ?_
  first | refine wpAny_bind (wpAny_pure ?_) | skip
  refine wpAny_bind (wpAny_sequenceKey ht.typeIs (by decide) ?_)
  refine wpAny_bind (wpAny_callSpecial?_slot (name := Str.ofString "__getitem__") ht.typeIs PyProof.Rows.slot_tuple_getitem
    (wpAny_call_entry PyProof.Rows.slot_tuple_getitem ht.typeIs entry_tuple_getitem ?_ (args_tuple_getitem _ _)))
  show wpAny _ _ (Builtin.Tuple.tupleItemsOf (.ref t) >>= _) _ _ s
  refine wpAny_bind (tupleItemsOf_ ht ?_)
  refine wpAny_bind (wpAny_typeOf hTs ?_)
  rw [if_pos (by decide)]
  refine wpAny_bind (sliceApplied_gen hs pl pu ?_)
  have hno : ¬ ((((sIx items.size 0 lo : Nat) : Int) == 0 && (1 : Int) == 1 && (sIx items.size items.size hi - sIx items.size 0 lo) == items.size) = true) := by
    intro q
    rw [Bool.and_eq_true, Bool.and_eq_true] at q
    have q1 : ((sIx items.size 0 lo : Nat) : Int) = 0 := eq_of_beq q.1.1
    have q2 : sIx items.size items.size hi - sIx items.size 0 lo = items.size := eq_of_beq q.2
    exact hw ⟨by omega, by omega⟩
  show wpAny _ _ (if (((sIx items.size 0 lo : Nat) : Int) == 0 && (1 : Int) == 1 && (sIx items.size items.size hi - sIx items.size 0 lo) == items.size) = true then _ else _) _ _ s
  rw [if_neg hno, pick_gen]
  first
    | exact wpAny_bind (m := Builtin.Tuple.tupleExact _) (wpAny_newObj_type (wpAny_pure ⟨_, rfl, wpAny_pure h⟩) htake)
    | exact wpAny_bind (m := Builtin.Tuple.tupleExact _) (wpAny_newObj_type (wpAny_bind (wpAny_pure (wpAny_pure ⟨_, rfl, wpAny_pure h⟩))) htake)
    | exact wpAny_bind (wpAny_bind (m := Builtin.Tuple.tupleExact _) (wpAny_newObj_type (wpAny_pure (wpAny_pure ⟨_, rfl, wpAny_pure h⟩)) htake))
    | exact wpAny_bind (wpAny_bind (m := Builtin.Tuple.tupleExact _) (wpAny_newObj_type (wpAny_pure ⟨_, rfl, wpAny_pure h⟩) htake))
end
end HT
namespace L2
open PySem PySem.Spec PyProof.Rows
abbrev TO := St → Hp → (Option Int → Hp → Prop) → Prop
/-- a slice's part (left out, or an int) -/
def PO (X : Cx) (e : Option Expr) (t : TO) : Prop :=
  ∀ (pins : List (Addr × Obj)) (s : Shared) (σ : St) (H : Hp) (Q : Option Int → Hp → Prop), Inv X pins σ H s → t σ H Q →
    wpAny (model X.prog X.w) X.A (evalPart e X.env) (fun u s' => ∃ o H', Inv X pins σ H' s' ∧ IsPart u o ∧ Q o H') X.xe s
def tNoPart : TO := fun _ H Q => Q none H
def tPart (t : TE) : TO := fun σ H Q => t σ H fun x H1 => ∃ i, x = .int i ∧ Q (some i) H1
section
variable {X : Cx} {e : Expr} {te : TE} {lo hi : Option Expr} {tl th : TO} {pos p2 : Pos}
theorem po_none : PO X none tNoPart := by
  intro pins s σ H Q I h
  rw [evalPart_none]
  exact wpAny_pure ⟨none, H, I, .none, h⟩
theorem po_some (h : PE X e te) : PO X (some e) (tPart te) := by
  intro pins s σ H Q I hw
  rw [evalPart_some]
  refine thn (h pins s σ H _ I hw) fun u s1 ⟨x, H1, I1, r1, q1⟩ => ?_
  obtain ⟨i, rfl, q⟩ := q1
  obtain ⟨t, rfl⟩ := r1
  exact ⟨some i, H1, I1, .int i t, q⟩
/-- what a slice of a value is, by values: the slice object stands at sl -/
def SlR (X : Cx) (r : V → Option Int → Option Int → Hp → VK → Prop) : Prop :=
  ∀ (pins : List (Addr × Obj)) (s : Shared) (σ : St) (H : Hp) (x : V) (v vl vu : Value) (lo hi : Option Int) (sl : Addr) (Q : VK), Inv X pins σ H s → RelV x v → s.heap.IsSliceOf sl vl vu .none → IsPart vl lo → IsPart vu hi → r x lo hi H Q →
    ∃ T id, typeLookup (.type T) "__getitem__" = pure (some (.builtin id)) ∧ s.TypeIs v T ∧ wpAny (model X.prog X.w) X.A (getItem v (.ref sl)) (EP X pins σ Q) X.xe s
theorem SlR.or {r r' : V → Option Int → Option Int → Hp → VK → Prop} (h : SlR X r) (h' : SlR X r') : SlR X (fun x lo hi H Q => r x lo hi H Q ∨ r' x lo hi H Q) := by
  intro pins s σ H x v vl vu lo hi sl Q I rx hs pl pu q
  rcases q with q | q
  · exact h pins s σ H x v vl vu lo hi sl Q I rx hs pl pu q
  · exact h' pins s σ H x v vl vu lo hi sl Q I rx hs pl pu q
def tSl (r : V → Option Int → Option Int → Hp → VK → Prop) (te : TE) (tl th : TO) : TE := fun σ H Q => te σ H fun x H1 => tl σ H1 fun l H2 => th σ H2 fun u H3 => r x l u H3 Q
/-- a[lo:hi], any a -/
theorem pe_slice {r : V → Option Int → Option Int → Hp → VK → Prop} (hr : SlR X r) (he : PE X e te) (hl : PO X lo tl) (hu : PO X hi th) : PE X (.Subscript e (.Slice lo hi none p2) pos) (tSl r te tl th) := by
  intro pins s σ H Q I h
  refine Subscript_ (thn (he pins s σ H _ I h) fun v s1 ⟨x, H1, I1, r1, q1⟩ => ?_)
  refine wpAny_Slice (thn (hl pins s1 σ H1 _ I1 q1) fun vl s2 ⟨l, H2, I2, pl, q2⟩ => thn (hu pins s2 σ H2 _ I2 q2) fun vu s3 ⟨u, H3, I3, pu, q3⟩ => ?_)
  rw [evalPart_none]
  refine wpAny_pure ?_
  have I4 : Inv X pins σ H3 { s3 with heap := s3.heap.push { cls := .type "slice", data := .fields #[vl, vu, .none] } } := I3.kept (t' := s3.toks) fun b ob q => Heap.get?_push_of_some _ q
  obtain ⟨T, id, hT, ht, hg⟩ := hr pins { s3 with heap := s3.heap.push { cls := .type "slice", data := .fields #[vl, vu, .none] } } σ H3 x v vl vu l u s3.heap.objs.size Q I4 r1 (Heap.IsSliceOf.new ..) pl pu q3
  show wpAny (model X.prog X.w) X.A (subscriptTail e (.Slice lo hi none p2) v (.ref s3.heap.objs.size)) (EP X pins σ Q) X.xe { s3 with heap := s3.heap.push { cls := .type "slice", data := .fields #[vl, vu, .none] } }
  exact tail_any (ops := [.ref s3.heap.objs.size, v]) ht hT hg (by with_unfolding_all rfl)
/-- the items of xs[lo:hi] -/
def cutV (xs : List V) (lo hi : Option Int) : List V := (xs.drop (HT.sIx xs.length 0 lo)).take (HT.sIx xs.length xs.length hi - HT.sIx xs.length 0 lo)
theorem cutV_length (xs : List V) (lo hi : Option Int) : (cutV xs lo hi).length ≤ xs.length := by
  unfold cutV
  rw [List.length_take, List.length_drop]
  omega
/-- t[lo:hi], not the whole of it (the whole would be t itself) -/
def rSlT (K : PySem.W.Frag) : V → Option Int → Option Int → Hp → VK → Prop := fun x lo hi H Q => ∃ a xs, x = .ref a ∧ SqT K H a xs ∧
  ¬ (HT.sIx xs.length 0 lo = 0 ∧ HT.sIx xs.length xs.length hi = xs.length) ∧ ∀ p, H p = none → Q (.ref p) (upd H p (.tup (cutV xs lo hi)))
theorem sl_tup : SlR X (rSlT X.K) := by
  intro pins s σ H x v vl vu lo hi sl Q I rx hs pl pu h
  obtain ⟨a, xs, rfl, hx, hw, q⟩ := h
  cases rx
  obtain ⟨its, r, ht, hz⟩ := I.tuple hx
  have hlen : its.toArray.size = xs.length := by rw [List.size_toArray]; exact r.length.symm
  refine ⟨"tuple", _, PyProof.Rows.slot_tuple_getitem.lookup, ht.typeIs, ?_⟩
  refine HT.getItem_tuple_cut ht hs pl pu (by rw [hlen]; exact hw) ?_ (by rw [hlen]; exact hz)
  rw [hlen]
  refine ⟨.ref s.heap.objs.size, _, I.laid (t' := s.toks) (o := .tup (cutV xs lo hi)) (fun b ob q => Heap.get?_push_of_some _ q) (Nat.le_refl _) ?_, rfl, q _ (I.hok.fresh (Nat.le_refl _))⟩
  exact ⟨Nat.le_trans (cutV_length xs lo hi) hz, _, (r.drop (HT.sIx xs.length 0 lo)).take (HT.sIx xs.length xs.length hi - HT.sIx xs.length 0 lo), IsTup.new _ _⟩
/-- t + u, t not empty: u empty gives t itself -/
def rCatT (K : PySem.W.Frag) : R2 := fun x y H Q => ∃ a b xs ys, x = .ref a ∧ y = .ref b ∧ SqT K H a xs ∧ SqT K H b ys ∧ xs ≠ [] ∧ xs.length + ys.length ≤ sizeLine ∧
  (ys = [] → Q (.ref a) H) ∧ (ys ≠ [] → ∀ p, H p = none → Q (.ref p) (upd H p (.tup (xs ++ ys))))
theorem Vals.nil_iff {xs : List V} {us : List Value} (r : Vals xs us) : us = [] ↔ xs = [] := by
  cases r with
  | nil => simp
  | cons _ _ => simp
theorem op_catT : OpR X (binaryOp .Add) (rCatT X.K) := by
  intro pins s σ H x y v u Q I rx ry h
  obtain ⟨a, b, xs, ys, rfl, rfl, ha, hb, hx, hz, q1, q2⟩ := h
  cases rx
  cases ry
  obtain ⟨its, r1, p1, _⟩ := I.tuple ha
  obtain ⟨its2, r2, p2, _⟩ := I.tuple hb
  refine HT.cat_tup p1 p2 (fun z => hx (r1.nil_iff.mp z)) (fun z => ⟨.ref a, H, I, rfl, q1 (r2.nil_iff.mp z)⟩) (fun z => ?_) (by rw [← r1.length, ← r2.length]; exact hz)
  refine ⟨.ref s.heap.objs.size, _, I.laid (t' := s.toks) (o := .tup (xs ++ ys)) (fun b ob q => Heap.get?_push_of_some _ q) (Nat.le_refl _) ?_, rfl, q2 (fun w => z (r2.nil_iff.mpr w)) _ (I.hok.fresh (Nat.le_refl _))⟩
  exact ⟨by rw [List.length_append]; exact hz, _, r1.append r2, IsTup.new _ _⟩
end
end L2
namespace L2
open PySem PySem.Spec PyProof.Rows
/-- the place that an index of any sign means -/
def ixN (n : Nat) (i : Int) : Option Nat := if 0 ≤ i then (if i < n then some i.toNat else none) else if -(n : Int) ≤ i then some (i + n).toNat else none
def atI {α : Type} (xs : List α) (i : Int) : Option α := (ixN xs.length i).bind fun j => xs[j]?
theorem ixN_seq {n : Nat} {i : Int} {j : Nat} (h : ixN n i = some j) : seqIndex? i n = some j ∧ j < n ∧ -(n : Int) ≤ i ∧ i < n := by
  unfold ixN at h
  by_cases h0 : 0 ≤ i
  · rw [if_pos h0] at h
    by_cases h1 : i < n
    · rw [if_pos h1] at h
      have e : i.toNat = j := Option.some.inj h
      exact ⟨by rw [seqIndex_of h0 h1, e], by omega, by omega, h1⟩
    · rw [if_neg h1] at h; cases h
  · rw [if_neg h0] at h
    by_cases h1 : -(n : Int) ≤ i
    · rw [if_pos h1] at h
      have e : (i + n).toNat = j := Option.some.inj h
      exact ⟨by rw [seqIndex_neg (by omega) h1, e], by omega, h1, by omega⟩
    · rw [if_neg h1] at h; cases h
theorem atI_get {α : Type} {xs : List α} {i : Int} {v : α} (h : atI xs i = some v) : ∃ j, seqIndex? i xs.length = some j ∧ xs[j]? = some v ∧ j < xs.length ∧ -(xs.length : Int) ≤ i ∧ i < xs.length := by
  unfold atI at h
  cases e : ixN xs.length i with
  | none => rw [e] at h; cases h
  | some j =>
    rw [e] at h
    obtain ⟨h1, h2, h3, h4⟩ := ixN_seq e
    exact ⟨j, h1, h, h2, h3, h4⟩
theorem atI_nat {α : Type} {xs : List α} {j : Nat} {v : α} (h : xs[j]? = some v) : atI xs (j : Int) = some v := by
  have hj : j < xs.length := (List.getElem?_eq_some_iff.mp h).1
  have e : ixN xs.length (j : Int) = some j := by
    unfold ixN
    rw [if_pos (by omega), if_pos (by omega)]; simp
  unfold atI; rw [e]; exact h
/-- what stands as an index of a plain subscript -/
def PlainIx (b : Expr) : Prop := ∀ o i, subscripted b false o i = operate [o, i] (getItem o i)
/-- a subscript by values -/
def IxR (X : Cx) (r : R2) : Prop :=
  ∀ (value slice : Expr) (pins : List (Addr × Obj)) (s : Shared) (σ : St) (H : Hp) (x y : V) (v u : Value) (Q : VK), Inv X pins σ H s → RelV x v → RelV y u → r x y H Q →
    subscripted slice false v u = operate [v, u] (getItem v u) → wpAny (model X.prog X.w) X.A (subscriptTail value slice v u) (EP X pins σ Q) X.xe s
/-- a call of a builtin's method by values: the receiver, the arguments -/
def MtR (X : Cx) (id : String) (r : V → List V → Hp → VK → Prop) : Prop :=
  ∀ (pins : List (Addr × Obj)) (s : Shared) (σ : St) (H : Hp) (x : V) (xs : List V) (v : Value) (us : List Value) (Q : VK), Inv X pins σ H s → RelV x v → Vals xs us → r x xs H Q →
    wpAny (model X.prog X.w) X.A (call (.builtin id) (v :: us)) (EP X pins σ Q) X.xe s
section
variable {X : Cx} {a b : Expr} {ta tb : TE} {pos : Pos}
theorem IxR.or {r r' : R2} (h : IxR X r) (h' : IxR X r') : IxR X (fun x y H Q => r x y H Q ∨ r' x y H Q) := by
  intro value slice pins s σ H x y v u Q I rx ry q hs
  rcases q with q | q
  · exact h value slice pins s σ H x y v u Q I rx ry q hs
  · exact h' value slice pins s σ H x y v u Q I rx ry q hs
theorem MtR.or {id : String} {r r' : V → List V → Hp → VK → Prop} (h : MtR X id r) (h' : MtR X id r') : MtR X id (fun x xs H Q => r x xs H Q ∨ r' x xs H Q) := by
  intro pins s σ H x xs v us Q I rx rs q
  rcases q with q | q
  · exact h pins s σ H x xs v us Q I rx rs q
  · exact h' pins s σ H x xs v us Q I rx rs q
/-- a[b] -/
theorem pe_ix {r : R2} (hr : IxR X r) (ha : PE X a ta) (hb : PE X b tb) (hs : PlainIx b) : PE X (.Subscript a b pos) (tOp r ta tb) := by
  intro pins s σ H Q I h
  exact Subscript_ (binT ha hb I h fun v u s2 x y H2 I2 rx ry q => hr a b pins s2 σ H2 x y v u Q I2 rx ry q (hs _ _))
def rIxL (K : PySem.W.Frag) : R2 := fun x y H Q => ∃ p xs i v, x = .ref p ∧ y = .int i ∧ SqL K H p xs ∧ atI xs i = some v ∧ Q v H
def rIxT (K : PySem.W.Frag) : R2 := fun x y H Q => ∃ p xs i v, x = .ref p ∧ y = .int i ∧ SqT K H p xs ∧ atI xs i = some v ∧ Q v H
def rIxS : R2 := fun x y H Q => ∃ z i c, x = .str z ∧ y = .int i ∧ z.length ≤ sizeLine ∧ atI z.cps.toList i = some c ∧ Q (.str ⟨#[c]⟩) H
theorem ix_list : IxR X (rIxL X.K) := by
  intro value slice pins s σ H x y v u Q I rx ry h hs
  obtain ⟨p, xs, i, z, rfl, rfl, hq, he, q⟩ := h
  cases rx
  obtain ⟨t, rfl⟩ := ry
  obtain ⟨its, r, pl, hz⟩ := I.list hq
  obtain ⟨j, h1, h2, h3, h4, h5⟩ := atI_get he
  obtain ⟨w, ew, rw'⟩ := r.get h2
  have hl := r.length
  have hn := line63
  have fin : EP X pins σ Q w s := ⟨z, H, I, rw', q⟩
  by_cases h0 : 0 ≤ i
  · have hj : i.toNat = j := by
      rw [seqIndex_of h0 h5] at h1
      exact Option.some.inj h1
    exact item_listR pl.isList h0 (by omega) (by rw [hj]; simpa using ew) fin hs
  · have hj : (i + (its.toArray.size : Int)).toNat = j := by
      rw [seqIndex_neg (by omega) h4] at h1
      rw [List.size_toArray, ← hl]
      exact Option.some.inj h1
    exact subscriptTail_builtinR (x := w) pl.isList.typeIs slot_list_getitem.lookup
      (wpAny_getItem_list_neg (Q := fun r s' => r = w ∧ EP X pins σ Q r s') pl.isList (by omega) (by rw [List.size_toArray] <;> omega) (by omega) (by rw [hj]; simpa using ew) ⟨rfl, fin⟩) hs
theorem ix_tup : IxR X (rIxT X.K) := by
  intro value slice pins s σ H x y v u Q I rx ry h hs
  obtain ⟨p, xs, i, z, rfl, rfl, hq, he, q⟩ := h
  cases rx
  obtain ⟨t, rfl⟩ := ry
  obtain ⟨its, r, pl, hz⟩ := I.tuple hq
  obtain ⟨j, h1, h2, h3, h4, h5⟩ := atI_get he
  obtain ⟨w, ew, rw'⟩ := r.get h2
  have hl := r.length
  have hn := line63
  have fin : EP X pins σ Q w s := ⟨z, H, I, rw', q⟩
  exact subscriptTail_builtinR (x := w) pl.typeIs slot_tuple_getitem.lookup
    (getItem_tuple (j := j) (Q := fun r s' => r = w ∧ EP X pins σ Q r s') pl (by omega) (by omega) (by rw [List.size_toArray, ← hl]; exact h1) (by simpa using ew) ⟨rfl, fin⟩) hs
theorem ix_str : IxR X rIxS := by
  intro value slice pins s σ H x y v u Q I rx ry h hs
  obtain ⟨z, i, c, rfl, rfl, hz, he, q⟩ := h
  obtain ⟨t, rfl⟩ := rx
  obtain ⟨t', rfl⟩ := ry
  obtain ⟨j, h1, h2, h3, h4, h5⟩ := atI_get he
  have hl : z.cps.toList.length = z.length := by simp [Str.length]
  rw [hl] at h1 h4 h5
  have hn := line63
  exact tail_any (typeIs_str s z t) slot_str_getitem.lookup (getItem_str (c := c) (by
    have e1 : decide (i < -(2 ^ 63 : Int)) = false := decide_eq_false (by omega)
    have e2 : decide (i ≥ 2 ^ 63) = false := decide_eq_false (by omega)
    rw [e1, e2, Bool.or_false]) (by rw [h1]; simpa using h2) ⟨.str ⟨#[c]⟩, H, I.tok _, ⟨_, rfl⟩, q⟩) hs
theorem Inv.lst {pins : List (Addr × Obj)} {σ : St} {H : Hp} {s : Shared} {p : Addr} {xs : List V} (I : Inv X pins σ H s) (h : H p = some (.lst xs)) :
    ∃ (its : List Value) (n : Nat), Vals xs its ∧ s.heap.get? p = some { cls := .type "list", data := .seq its.toArray n } ∧ xs.length ≤ sizeLine := by
  obtain ⟨z, its, n, r, e⟩ := I.hok p _ h
  exact ⟨its, n, r, e, z⟩
theorem slice_bounds (lo hi : Option Int) (n : Nat) : (sliceBounds lo hi none n).1 = ((HT.sIx n 0 lo : Nat) : Int) ∧ (sliceBounds lo hi none n).2.1 = ((HT.sIx n n hi : Nat) : Int) ∧ (sliceBounds lo hi none n).2.2 = 1 := by
  refine ⟨?_, ?_, rfl⟩
  · cases lo with
    | none => simp [sliceBounds, HT.sIx]
    | some i =>
      simp only [sliceBounds, HT.sIx, Option.getD_none, show (1 : Int) > 0 by decide, if_true]
      by_cases h : i < 0
      · simp only [h, if_true] <;> omega
      · simp only [h, if_false] <;> omega
  · cases hi with
    | none => simp [sliceBounds, HT.sIx]
    | some i =>
      simp only [sliceBounds, HT.sIx, Option.getD_none, show (1 : Int) > 0 by decide, if_true]
      by_cases h : i < 0
      · simp only [h, if_true] <;> omega
      · simp only [h, if_false] <;> omega
theorem slicePick_cut (its : List Value) (lo hi : Option Int) : slicePick its.toArray lo hi none = ((its.drop (HT.sIx its.length 0 lo)).take (HT.sIx its.length its.length hi - HT.sIx its.length 0 lo)).toArray := by
  obtain ⟨h1, h2, h3⟩ := slice_bounds lo hi its.toArray.size
  unfold slicePick
  rw [h1, h2, h3]
  simp only [sliceRange_one, pick_run, List.size_toArray] <;> rfl
/-- xs[lo:hi] of a list: a new list -/
def rSlL (K : PySem.W.Frag) : V → Option Int → Option Int → Hp → VK → Prop := fun x lo hi H Q => ∃ a xs, x = .ref a ∧ SqL K H a xs ∧ ∀ p, H p = none → Q (.ref p) (upd H p (.lst (cutV xs lo hi)))
theorem sl_list : SlR X (rSlL X.K) := by
  intro pins s σ H x v vl vu lo hi sl Q I rx hs pl pu h
  obtain ⟨a, xs, rfl, hx, q⟩ := h
  cases rx
  obtain ⟨its, r, ht, hz⟩ := I.list hx
  have hlen := r.length
  refine ⟨"list", _, slot_list_getitem.lookup, ht.isList.typeIs, ?_⟩
  refine wpAny_getItem_list_slice ht.isList hs pl pu .none (by simp) ?_ (by rw [List.size_toArray] <;> omega)
  rw [slicePick_cut, ← hlen]
  refine ⟨.ref s.heap.objs.size, _, I.laid (t' := s.toks) (o := .lst (cutV xs lo hi)) (fun b ob q => Heap.get?_push_of_some _ q) (Nat.le_refl _) ?_, rfl, q _ (I.hok.fresh (Nat.le_refl _))⟩
  exact ⟨Nat.le_trans (cutV_length xs lo hi) hz, _, 0, (r.drop (HT.sIx xs.length 0 lo)).take (HT.sIx xs.length xs.length hi - HT.sIx xs.length 0 lo), Heap.get?_push_size _ rfl⟩
theorem call_len_seq : CallR X (.builtin "len") (fun xs H Q => ∃ p ys, xs = [.ref p] ∧ (SqL X.K H p ys ∨ SqT X.K H p ys) ∧ Q (.int ys.length) H) := by
  intro pins s σ H xs us Q I r h
  obtain ⟨p, ys, rfl, hq, q⟩ := h
  obtain ⟨u, rfl, rx⟩ := vals1 r
  cases rx
  have hn := line63
  rcases hq with hq | hq
  · obtain ⟨its, r', pl, hz⟩ := I.list hq
    have hlen := r'.length
    exact Calls.call_len_list pl.isList (by simp only [List.size_toArray] <;> omega) ⟨.int ys.length, H, I.tok _, ⟨s.toks + 1, by rw [List.size_toArray, hlen]⟩, q⟩
  · obtain ⟨its, r', pl, hz⟩ := I.tuple hq
    have hlen := r'.length
    exact len_tuple pl (by simp only [List.size_toArray] <;> omega) ⟨.int ys.length, H, I.tok _, ⟨s.toks + 1, by rw [List.size_toArray, hlen]⟩, q⟩
theorem call_len_str : CallR X (.builtin "len") (fun xs H Q => ∃ z, xs = [.str z] ∧ z.length ≤ sizeLine ∧ Q (.int z.length) H) := by
  intro pins s σ H xs us Q I r h
  obtain ⟨z, rfl, hz, q⟩ := h
  obtain ⟨u, rfl, t, rfl⟩ := vals1 r
  have hn := line63
  exact len_str (by omega) ⟨.int z.length, H, I.tok _, ⟨_, rfl⟩, q⟩
theorem CallR.or {f : Value} {r r' : List V → Hp → VK → Prop} (h : CallR X f r) (h' : CallR X f r') : CallR X f (fun xs H Q => r xs H Q ∨ r' xs H Q) := by
  intro pins s σ H xs us Q I rs q
  rcases q with q | q
  · exact h pins s σ H xs us Q I rs q
  · exact h' pins s σ H xs us Q I rs q
theorem call_tuple_of : CallR X (.type "tuple") (fun xs H Q => ∃ p ys, xs = [.ref p] ∧ ((SqL X.K H p ys ∧ ∀ l, H l = none → Q (.ref l) (upd H l (.tup ys))) ∨ (SqT X.K H p ys ∧ Q (.ref p) H))) := by
  intro pins s σ H xs us Q I r h
  obtain ⟨p, ys, rfl, h⟩ := h
  obtain ⟨u, rfl, rx⟩ := vals1 r
  cases rx
  rcases h with ⟨hq, q⟩ | ⟨hq, q⟩
  · obtain ⟨its, r', pl, hz⟩ := I.list hq
    have hlen := r'.length
    refine call_tuple_list pl.isList (fun h' kp => ?_) (by simp only [List.size_toArray] <;> omega)
    have I1 : Inv X pins σ H { s with heap := h' } := I.kept (t' := s.toks) kp
    have I2 : Inv X pins σ (upd H h'.objs.size (.tup ys)) { s with heap := h'.push { cls := .type "tuple", data := .seq its.toArray } } :=
      I1.laid (t' := s.toks) (fun b o e => Heap.get?_push_of_some _ e) (Nat.le_refl _) (show ObjOk X.prog X.w _ _ _ (.tup ys) from ⟨hz, its, r', IsTup.new _ _⟩)
    exact ⟨.ref h'.objs.size, _, I2, rfl, q _ (I1.hok.fresh (Nat.le_refl _))⟩
  · obtain ⟨its, r', pl, hz⟩ := I.tuple hq
    exact call_tuple_same pl ⟨.ref p, H, I, rfl, q⟩
/-- the value is of that builtin type -/
def tyV (K : PySem.W.Frag) (T : String) (x : V) (H : Hp) : Prop := match x with
  | .str _ => T = "str"
  | .int _ => T = "int"
  | .ref p => (T = "list" ∧ ∃ xs, SqL K H p xs) ∨ (T = "tuple" ∧ ∃ o, K.lookup p = some o ∧ o.cls = .type "tuple" ∧ o.dict = none) ∨
      (T = "dict" ∧ ((∃ kvs, H p = some (.dK kvs)) ∨ ∃ kvs, H p = some (.dT kvs))) ∨ (T = "set" ∧ ∃ S n, H p = some (.set S n))
  | _ => False
theorem tyV_is {pins : List (Addr × Obj)} {σ : St} {H : Hp} {s : Shared} {T : String} {x : V} {v : Value} (I : Inv X pins σ H s) (r : RelV x v) (ty : tyV X.K T x H) :
    s.TypeIs v T ∧ ∀ a, v = .ref a → ∃ ob, s.heap.get? a = some ob ∧ ob.dict = none := by
  cases x with
  | str z =>
    obtain ⟨t, rfl⟩ := r
    cases (show T = "str" from ty)
    exact ⟨typeIs_str s z t, fun _ e => nomatch e⟩
  | int i =>
    obtain ⟨t, rfl⟩ := r
    cases (show T = "int" from ty)
    exact ⟨typeIs_int s i t, fun _ e => nomatch e⟩
  | ref p =>
    cases r
    rcases ty with ⟨rfl, xs, hq⟩ | ⟨rfl, o, hk, hc, hd⟩ | ⟨rfl, hk⟩ | ⟨rfl, S, n, hk⟩
    · obtain ⟨its, _, pl, _⟩ := I.list hq
      refine ⟨pl.isList.typeIs, fun a e => ?_⟩
      cases e
      obtain ⟨o, n, e, c, hd, _⟩ := pl
      exact ⟨o, e, hd⟩
    · refine ⟨⟨o, I.kIn p o hk, hc⟩, fun a e => ?_⟩
      cases e
      exact ⟨o, I.kIn _ o hk, hd⟩
    · have z : ∃ o, s.heap.get? p = some o ∧ o.ExactDict := by
        rcases hk with ⟨kvs, hk⟩ | ⟨kvs, hk⟩
        · obtain ⟨_, _, _, _, o, _, _, e, ex, _⟩ := I.hok p _ hk
          exact ⟨o, e, ex⟩
        · obtain ⟨_, _, _, _, o, _, _, e, ex, _⟩ := I.hok p _ hk
          exact ⟨o, e, ex⟩
      obtain ⟨o, e, ex⟩ := z
      refine ⟨⟨o, e, ex.1⟩, fun a e2 => ?_⟩
      cases e2
      exact ⟨o, e, ex.2.1⟩
    · obtain ⟨o, _, _, _, e, ex, _⟩ := I.hok p _ hk
      refine ⟨⟨o, e, ex.1⟩, fun a e2 => ?_⟩
      cases e2
      exact ⟨o, e, ex.2.1⟩
  | _ => exact False.elim ty
def tBM0 (K : PySem.W.Frag) (T : String) (r : V → List V → Hp → VK → Prop) (to : TE) : TE := fun σ H Q => to σ H fun x H1 => tyV K T x H1 ∧ r x [] H1 Q
def tBM (K : PySem.W.Frag) (T : String) (r : V → List V → Hp → VK → Prop) (to : TE) (t : TA) : TE := fun σ H Q => to σ H fun x H1 => tyV K T x H1 ∧ t σ H1 fun xs H2 => r x xs H2 Q
variable {o e : Expr} {es : List Expr} {to : TE} {t : TA} {name : Str} {apos cpos : Pos} {T id : String} {r : V → List V → Hp → VK → Prop}
theorem pe_bm0 (pa : PlainAttrs T) (slot : Slot T name id) (hty : typeOf (.builtin id) = pure (.type "method_descriptor")) (hm : MtR X id r) (ho : PE X o to)
    (hbase : attributeBase o name X.env (eval o X.env) = eval o X.env := by rfl) (hline : (apos.endLine == cpos.line) = true := by rfl) : PE X (.Call (.Attribute o name apos) [] [] cpos) (tBM0 X.K T r to) := by
  intro pins s σ H Q I h
  refine wpAny_Call_method0_late hbase hline (thn (ho pins s σ H _ I h) fun v s1 ⟨x, H1, I1, r1, ty, q1⟩ => ?_)
  obtain ⟨h1, h2⟩ := tyV_is I1 r1 ty
  exact ⟨T, id, pa, slot, hty, h1, h2, Calls.callWith_builtin rfl (PySem.evalArgs_none (hm pins s1 σ H1 x [] v [] Q I1 r1 .nil q1))⟩
theorem pe_bm (pa : PlainAttrs T) (slot : Slot T name id) (hty : typeOf (.builtin id) = pure (.type "method_descriptor")) (hm : MtR X id r) (ho : PE X o to) (ha : PA X (e :: es) t)
    (hbase : attributeBase o name X.env (eval o X.env) = eval o X.env := by rfl)
    (hfew : ((backTo cpos (starEach (e :: es) X.env)).all (fun x => !x.1) && (backToKw cpos (keywordEach [] X.env)).all (fun x => x.1.isSome)
      && decide ((e :: es).length + ([] : List Keyword).length + (if ([] : List Keyword).isEmpty then 0 else 1) < 30)) = true := by rfl)
    (hline : (apos.endLine == cpos.line) = true := by rfl) (hs : starEach (e :: es) X.env = (false, eval e X.env) :: starEach es X.env := by rfl) (hplain : (backTo cpos (starEach es X.env)).any (·.1) = false := by rfl) :
    PE X (.Call (.Attribute o name apos) (e :: es) [] cpos) (tBM X.K T r to t) := by
  intro pins s σ H Q I h
  refine wpAny_Call_method_late hbase hfew hline rfl (thn (ho pins s σ H _ I h) fun v s1 ⟨x, H1, I1, r1, ty, q1⟩ => ?_)
  obtain ⟨h1, h2⟩ := tyV_is I1 r1 ty
  refine ⟨T, id, pa, slot, hty, h1, h2, ?_⟩
  have hA := ha cpos pins s1 σ H1 _ I1 q1
  rw [hs] at hA ⊢
  refine Calls.callWith_builtin (by show (false || (backTo cpos (starEach es X.env)).any (·.1)) = false; rw [hplain] <;> rfl) (Calls.evalArgs_plain ?_)
  exact thn hA fun us s2 ⟨vs, H2, I2, r2, q2⟩ => hm pins s2 σ H2 x vs v us Q I2 r1 r2 q2
end
end L2
namespace L2
open PySem PySem.Spec PyProof.Rows
def MtM (X : Cx) (id : String) (r : V → List V → Hp → VK → Prop) : Prop :=
  ∀ (pins : List (Addr × Obj)) (s : Shared) (σ : St) (H : Hp) (x : V) (xs : List V) (v : Value) (us : List Value) (Q : VK), Inv X pins σ H s → RelV x v → Vals xs us → r x xs H Q →
    wpAny (model X.prog X.w) X.A (call (.builtin id) (v :: us)) (EP X pins σ Q) X.xe s
theorem Vals.one : ∀ {x : V} {us : List Value}, Vals [x] us → ∃ u, us = [u] ∧ RelV x u
  | _, _, .cons r .nil => ⟨_, rfl, r⟩
theorem Vals.two : ∀ {x y : V} {us : List Value}, Vals [x, y] us → ∃ u v, us = [u, v] ∧ RelV x u ∧ RelV y v
  | _, _, _, .cons r (.cons q .nil) => ⟨_, _, rfl, r, q⟩
theorem Vals.zero : ∀ {us : List Value}, Vals [] us → us = []
  | _, .nil => rfl
theorem Vals.dropLast {xs : List V} {us : List Value} (h : Vals xs us) : Vals xs.dropLast us.dropLast := by
  induction h with
  | nil => exact .nil
  | cons r t ih =>
    cases t with
    | nil => exact .nil
    | cons q t' => exact .cons r ih
theorem Vals.eraseIdx : ∀ {xs : List V} {us : List Value} (i : Nat), Vals xs us → Vals (xs.eraseIdx i) (us.eraseIdx i)
  | _, _, _, .nil => .nil
  | _, _, 0, .cons _ t => t
  | _, _, i + 1, .cons r t => .cons r (Vals.eraseIdx i t)
theorem Vals.reverse {xs : List V} {us : List Value} (h : Vals xs us) : Vals xs.reverse us.reverse := by
  induction h with
  | nil => exact .nil
  | cons r t ih => rw [List.reverse_cons, List.reverse_cons]; exact Vals.append ih (.cons r .nil)
theorem Vals.rep {xs : List V} {us : List Value} (h : Vals xs us) : ∀ k : Nat, Vals (List.replicate k xs).flatten (List.replicate k us).flatten
  | 0 => .nil
  | k + 1 => by
    rw [List.replicate_succ, List.replicate_succ, List.flatten_cons, List.flatten_cons]
    exact Vals.append h (Vals.rep h k)
theorem erase_last {α : Type} (l : List α) : l.eraseIdx (l.length - 1) = l.dropLast := by
  induction l with
  | nil => rfl
  | cons a r ih =>
    cases r with
    | nil => rfl
    | cons b r =>
      have e : (a :: b :: r).length - 1 = ((b :: r).length - 1) + 1 := by
        have h1 : (a :: b :: r).length = r.length + 2 := rfl
        have h2 : (b :: r).length = r.length + 1 := rfl
        omega
      rw [e, List.eraseIdx_cons_succ, ih]
      all_goals rfl
section
variable {X : Cx} {pins : List (Addr × Obj)} {σ : St} {H : Hp} {s : Shared} {l b : Addr} {xs ys zs : List V}
theorem Inv.lset {its its' : List Value} {n : Nat} {f : Array Value → Array Value} {t' : Nat} (I : Inv X pins σ H s) (hH : H l = some (.lst xs))
    (e : s.heap.get? l = some { cls := .type "list", data := .seq its.toArray n }) (hf : f its.toArray = its'.toArray) (hv : Vals ys its') (hz : ys.length ≤ sizeLine) :
    Inv X pins σ (upd H l (.lst ys)) { s with heap := s.heap.update l (Obj.mapSeq f), toks := t' } := by
  have q := PySem.IsL.update e f
  rw [hf] at q
  refine I.write (x := l) (e := l) (by rw [hH]; exact trivial) (.inl rfl) (fun b' u hb hu => (Heap.get?_update_other s.heap (Obj.mapSeq f) (Ne.symm hb)).trans hu) ⟨_, q⟩ ?_
  exact ⟨hz, its', _, hv, q⟩
theorem Inv.lnew {its : List Value} {t' : Nat} (I : Inv X pins σ H s) (hv : Vals ys its) (hz : ys.length ≤ sizeLine) :
    Inv X pins σ (upd H s.heap.objs.size (.lst ys)) { s with heap := s.heap.push { cls := .type "list", data := .seq its.toArray }, toks := t' } :=
  I.laid (fun _ _ q => Heap.get?_push_of_some _ q) (Nat.le_refl _) ⟨hz, its, 0, hv, Heap.get?_push_size _ rfl⟩
theorem Inv.fresh (I : Inv X pins σ H s) : H s.heap.objs.size = none := I.hok.fresh (Nat.le_refl _)
theorem Inv.lstM (I : Inv X pins σ H s) (hH : H l = some (.lst xs)) : xs.length ≤ sizeLine ∧ ∃ (its : List Value) (n : Nat), Vals xs its ∧ xs.length = its.length ∧ s.heap.get? l = some { cls := .type "list", data := .seq its.toArray n } := by
  obtain ⟨z, its, n, r, e⟩ := I.hok l _ hH
  exact ⟨z, its, n, r, r.length, e⟩
theorem notLongL {n : Nat} (h : n ≤ sizeLine) : Builtin.List.listTooLong n = false := by
  unfold Builtin.List.listTooLong
  exact decide_eq_false (by omega)
end
section
variable {X : Cx}
def rAppend : V → List V → Hp → VK → Prop := fun x vs H Q => ∃ l xs y, x = .ref l ∧ vs = [y] ∧ H l = some (.lst xs) ∧ xs.length < sizeLine ∧ Q .non (upd H l (.lst (xs ++ [y])))
theorem mt_append : MtM X "list.append" rAppend := by
  intro pins s σ H x vs v us Q I rx rv h
  obtain ⟨l, xs, y, rfl, rfl, hH, hz, q⟩ := h
  cases rx
  obtain ⟨u, rfl, ru⟩ := rv.one
  obtain ⟨z, its, n, r, hl, e⟩ := I.lstM hH
  refine call_meets F.slot_list_append ⟨_, e, rfl⟩ F.entry_list_append (F.args_list_append_2 _ _) (PySem.list_append l its.toArray n u (by rw [List.size_toArray]; omega)) ⟨e, ?_⟩
  refine ⟨.non, _, I.lset (its' := its ++ [u]) hH e (by simp) (r.append (.cons ru .nil)) ?_, rfl, q⟩
  rw [List.length_append, List.length_singleton]
  omega
def rExtend : V → List V → Hp → VK → Prop := fun x vs H Q => ∃ l b xs zs, x = .ref l ∧ vs = [.ref b] ∧ H l = some (.lst xs) ∧ H b = some (.lst zs) ∧ xs.length + zs.length ≤ sizeLine ∧ Q .non (upd H l (.lst (xs ++ zs)))
theorem mt_extend : MtM X "list.extend" rExtend := by
  intro pins s σ H x vs v us Q I rx rv h
  obtain ⟨l, b, xs, zs, rfl, rfl, hH, hB, hz, q⟩ := h
  cases rx
  obtain ⟨u, rfl, ru⟩ := rv.one
  cases ru
  obtain ⟨z, its, n, r, hl, e⟩ := I.lstM hH
  obtain ⟨z2, its2, n2, r2, hl2, e2⟩ := I.lstM hB
  have hsz : its.toArray.size + its2.toArray.size ≤ sizeLine := by rw [List.size_toArray, List.size_toArray]; omega
  have hlong : ¬ (!its.toArray.isEmpty && Builtin.List.listTooLong (its.toArray.size + its2.toArray.size)) = true := by
    rw [notLongL hsz, Bool.and_false]
    exact Bool.false_ne_true
  refine call_meets F.slot_list_extend ⟨_, e, rfl⟩ F.entry_list_extend (F.args_list_extend_2 _ _)
    (AutoSeq1.list_extend_list_list_0 l its.toArray n b its2.toArray n2 hlong (by rw [List.size_toArray]; omega) (by omega)) ⟨e, e2, ?_⟩
  refine ⟨.non, _, I.lset (its' := its ++ its2) hH e (by simp) (r.append r2) ?_, rfl, q⟩
  rw [List.length_append]
  omega
def rPop : V → List V → Hp → VK → Prop := fun x vs H Q => ∃ l xs y, x = .ref l ∧ vs = [] ∧ H l = some (.lst xs) ∧ xs[xs.length - 1]? = some y ∧ Q y (upd H l (.lst xs.dropLast))
theorem mt_pop : MtM X "list.pop" rPop := by
  intro pins s σ H x vs v us Q I rx rv h
  obtain ⟨l, xs, y, rfl, rfl, hH, hy, q⟩ := h
  cases rx
  have hus := rv.zero
  subst hus
  obtain ⟨z, its, n, r, hl, e⟩ := I.lstM hH
  obtain ⟨u, hu, ru⟩ := r.get hy
  have hy' : its.toArray[its.toArray.size - 1]? = some u := by
    show its.toArray[its.length - 1]? = some u
    rw [← Array.getElem?_toList, ← hl]
    exact hu
  refine call_meets F.slot_list_pop ⟨_, e, rfl⟩ F.entry_list_pop (F.args_list_pop_1 _) (MeetsSeq.list_pop_last l its.toArray n u hy' (by rw [List.size_toArray]; omega)) ⟨e, ?_⟩
  refine ⟨y, _, I.lset (its' := its.dropLast) hH e ?_ r.dropLast ?_, ru, q⟩
  · show its.toArray.eraseIdxIfInBounds (its.toArray.size - 1) = its.dropLast.toArray
    rw [List.size_toArray, List.eraseIdxIfInBounds_toArray, erase_last]
  · rw [List.length_dropLast]
    omega
def rCat : R2 := fun x y H Q => ∃ l b xs zs, x = .ref l ∧ y = .ref b ∧ H l = some (.lst xs) ∧ H b = some (.lst zs) ∧ xs.length + zs.length ≤ sizeLine ∧ ∀ p, H p = none → Q (.ref p) (upd H p (.lst (xs ++ zs)))
theorem op_cat : OpR X (binaryOp .Add) rCat := by
  intro pins s σ H x y v u Q I rx ry h
  obtain ⟨l, b, xs, zs, rfl, rfl, hH, hB, hz, q⟩ := h
  cases rx
  cases ry
  obtain ⟨z, its, n, r, hl, e⟩ := I.lstM hH
  obtain ⟨z2, its2, n2, r2, hl2, e2⟩ := I.lstM hB
  refine PySem.P.add_list e e2 ?_ (by rw [List.size_toArray, List.size_toArray]; omega)
  have ea : its.toArray ++ its2.toArray = (its ++ its2).toArray := by simp
  rw [ea]
  exact ⟨.ref _, _, I.lnew (t' := s.toks) (r.append r2) (by rw [List.length_append]; omega), rfl, q _ I.fresh⟩
end
section
variable {prog : Program} {w : World} {A : Around} {E : Value → Shared → Prop} {s : Shared}
theorem splice_eq (its its2 : List Value) (a c : Nat) : its.toArray.extract 0 a ++ its2.toArray ++ its.toArray.extract c its.toArray.size = (its.take a ++ its2 ++ its.drop c).toArray := by
  apply Array.toList_inj.mp
  first
    | (simp
       exact List.take_of_length_le (by simp))
    | simp [List.take_of_length_le]
    | simp
end
section
variable {X : Cx}
end
end L2
namespace L2
open PySem PySem.Spec PyProof.Rows
theorem Vals.ints : ∀ {ns : List Int} {us : List Value}, Vals (ns.map V.int) us → IntsAre us ns
  | [], us, h => by
    rw [List.map_nil] at h
    cases h
    exact IntsAre.nil
  | n :: ns, us, h => by
    rw [List.map_cons] at h
    cases h with
    | cons r t =>
      obtain ⟨k, rfl⟩ := r
      exact IntsAre.cons n k (Vals.ints t)
theorem Vals.strs : ∀ {xs : List Str} {us : List Value}, Vals (xs.map V.str) us → StrsAre us xs
  | [], us, h => by
    rw [List.map_nil] at h
    cases h
    exact StrsAre.nil
  | x :: xs, us, h => by
    rw [List.map_cons] at h
    cases h with
    | cons r t =>
      obtain ⟨k, rfl⟩ := r
      exact StrsAre.cons x k (Vals.strs t)
theorem Vals.bls : ∀ {bs : List Bool} {us : List Value}, Vals (bs.map V.bl) us → us = bs.map Value.bool
  | [], us, h => by
    rw [List.map_nil] at h
    cases h
    rfl
  | b :: bs, us, h => by
    rw [List.map_cons] at h
    cases h with
    | cons r t =>
      cases r
      rw [Vals.bls t, List.map_cons]
theorem Vals.ref1 {a : Addr} {us : List Value} (r : Vals [V.ref a] us) : us = [Value.ref a] := by
  cases r with
  | cons r t =>
    cases t
    cases r
    rfl
section
variable {prog : Program} {w : World} {A : Around} {E : Value → Shared → Prop} {s : Shared} {l : Addr} {its : List Value} {ns : List Int} {Q : Value → Shared → Prop}
theorem sum_raw (hh : A.handled = none) (hl : s.heap.IsList l its.toArray) (hi : IntsAre its ns)
    (h : ∀ h' tk t', (∀ b o, s.heap.get? b = some o → h'.get? b = some o) → Q (.int ns.sum t') { s with heap := h', toks := tk }) : wpAny (model prog w) A (call (.builtin "sum") [.ref l]) Q E s := by
  obtain ⟨xs, e⟩ := hi.allInts.items
  have hn : numsOf (intItems xs).toList = ns := by rw [← e]; exact hi.numsOf
  rw [nums_intItems] at hn
  rw [e] at hl
  refine PySem.sum_intListG hh hl fun h' tk t' hk => ?_
  have := h h' tk t' hk
  rw [preSum_eq, List.take_of_length_le (by simp), hn]; exact this
end
section
variable {X : Cx}
/-- sum(xs) of a list of ints -/
def rSum (K : PySem.W.Frag) : List V → Hp → VK → Prop := fun vs H Q => ∃ (a : Addr) (ns : List Int), vs = [V.ref a] ∧ SqL K H a (ns.map V.int) ∧ Q (.int ns.sum) H
theorem cr_sum (hc : X.calm = true) : CallR X (.builtin "sum") (rSum X.K) := by
  intro pins s σ H vs us Q I r h
  obtain ⟨a, ns, rfl, hs, q⟩ := h
  obtain ⟨its, rv, hl, _⟩ := I.list hs
  rw [Vals.ref1 r]
  exact sum_raw (I.ok.hd hc) hl.isList rv.ints fun h' tk t' hk => ⟨.int _, H, I.kept hk, ⟨_, rfl⟩, q⟩
end
section
variable {X : Cx}
end
section
variable {X : Cx}
end
theorem iter_any {prog : Program} {w : World} {A : Around} {E : Value → Shared → Prop} {s : Shared} {l : Addr} {items : Array Value} {Q : Value → Shared → Prop} (hl : s.heap.IsList l items)
    (h : ∀ s₂ : Shared, s₂ = { s with heap := s.heap.push { cls := .type "list_iterator", data := .fields #[.ref l, .int 0 0] } } →
      (s₂.heap.IsListIter s.heap.objs.size l 0 ∧ s₂.heap.IsList l items) → l ≠ s.heap.objs.size → Q (.ref s.heap.objs.size) s₂) : wpAny (model prog w) A (pyIter (.ref l)) Q E s := by
  have hlt : l < s.heap.objs.size := by obtain ⟨_, e, _⟩ := hl; exact Heap.lt_size e
  exact wpAny_pyIter_list hl (h _ rfl ⟨⟨_, Heap.get?_push_size _ rfl, rfl, rfl⟩, hl.push _⟩ (Nat.ne_of_lt hlt))
theorem truth_bools {prog : Program} {w : World} {A : Around} {bs : List Bool} {its : List Value} (e : its = bs.map Value.bool) :
    TruthOf prog w A (fun i v => its.toArray[i]? = some v) (fun i => bs.getD i false) := fun i v s Q E hv hq => by
  have hv' : its[i]? = some v := by simpa using hv
  rw [e, List.getElem?_map] at hv'
  obtain ⟨b, hb, rfl⟩ := Option.map_eq_some_iff.mp hv'
  have hg : bs.getD i false = b := by rw [List.getD_eq_getElem?_getD, hb] <;> rfl
  have hq' : Q (bs.getD i false) s := hq
  rw [hg] at hq'
  exact wpAny_truthy_bool hq'
theorem all_range : ∀ bs : List Bool, (List.range bs.length).all (fun i => bs.getD i false) = bs.all id
  | [] => rfl
  | b :: bs => by
    rw [List.length_cons, List.range_succ_eq_map, List.all_cons, List.all_map, List.all_cons, ← all_range bs]
    all_goals rfl
section
variable {X : Cx}
def rAll (K : PySem.W.Frag) : List V → Hp → VK → Prop := fun vs H Q => ∃ (a : Addr) (bs : List Bool), vs = [V.ref a] ∧ SqL K H a (bs.map V.bl) ∧ Q (.bl (bs.all id)) H
theorem cr_all (hc : X.calm = true) : CallR X (.builtin "all") (rAll X.K) := by
  intro pins s σ H vs us Q I r h
  obtain ⟨a, bs, rfl, hs, q⟩ := h
  obtain ⟨its, rv, hl, _⟩ := I.list hs
  rw [Vals.ref1 r]
  have hb := rv.bls
  refine call_all_walk (iter_any hl.isList fun s₂ e2 st hne => ?_)
  subst e2
  refine ⟨_, _, _, _, _, _, _, rfl, Walks.list (A := X.A.in1) (I.ok.hd hc) _ a hne its.toArray, st, truth_bools hb, fun h' tk hk => ?_⟩
  refine ⟨.bl _, H, I.kept fun b o eo => hk b o (fun hmem => ?_) (Heap.get?_push_of_some _ eo), ?_, q⟩
  · rcases List.mem_cons.mp hmem with e1 | hmem
    · exact absurd (e1 ▸ Heap.lt_size eo) (Nat.lt_irrefl _)
    · cases hmem
  · show Value.bool _ = Value.bool _
    rw [← all_range, hb, List.size_toArray, List.length_map]
end
mutual
inductive Dp (K : PySem.W.Frag) (H : Hp) : V → PyData → Prop
  | non : Dp K H .non .none
  | bl (b : Bool) : Dp K H (.bl b) (.bool b)
  | int (i : Int) : Dp K H (.int i) (.int i)
  | str (x : Str) : Dp K H (.str x) (.str x)
  | lst {a : Addr} {xs : List V} {ds : List PyData} : SqL K H a xs → DpAll K H xs ds → Dp K H (.ref a) (.list ds)
  | tup {a : Addr} {xs : List V} {ds : List PyData} : SqT K H a xs → DpAll K H xs ds → Dp K H (.ref a) (.tuple ds)
inductive DpAll (K : PySem.W.Frag) (H : Hp) : List V → List PyData → Prop
  | nil : DpAll K H [] []
  | cons {v : V} {vs : List V} {d : PyData} {ds : List PyData} : Dp K H v d → DpAll K H vs ds → DpAll K H (v :: vs) (d :: ds)
end
section
variable {X : Cx} {pins : List (Addr × Obj)} {σ : St} {H : Hp} {s : Shared}
mutual
theorem Dp.reads (I : Inv X pins σ H s) : ∀ (d : PyData) (v : V) (u : Value), Dp X.K H v d → RelV v u → ∃ as, Reads s.heap u d as
  | .none, _, _, h, r => by
    cases h
    cases r
    exact ⟨_, Reads.none⟩
  | .bool b, _, _, h, r => by
    cases h
    cases r
    exact ⟨_, Reads.bool b⟩
  | .int i, _, _, h, r => by
    cases h
    obtain ⟨t, rfl⟩ := r
    exact ⟨_, Reads.int i t⟩
  | .str x, _, _, h, r => by
    cases h
    obtain ⟨t, rfl⟩ := r
    exact ⟨_, Reads.str x t⟩
  | .list ds, _, _, h, r => by
    cases h with
    | lst hs ha =>
      cases r
      obtain ⟨its, rv, ⟨o, n, ho, hc, _, hd⟩, _⟩ := I.list hs
      obtain ⟨as, hr⟩ := Dp.readsAll I ds _ its ha rv
      exact ⟨_, Reads.list ho hc hd hr⟩
  | .tuple ds, _, _, h, r => by
    cases h with
    | tup hs ha =>
      cases r
      obtain ⟨its, rv, ⟨o, ho, hc, n, hd⟩, _⟩ := I.tuple hs
      obtain ⟨as, hr⟩ := Dp.readsAll I ds _ its ha rv
      exact ⟨_, Reads.tuple ho hc hd hr⟩
  | .dict _, _, _, h, _ => by cases h
theorem Dp.readsAll (I : Inv X pins σ H s) : ∀ (ds : List PyData) (vs : List V) (us : List Value), DpAll X.K H vs ds → Vals vs us → ∃ as, ReadsAll s.heap us ds as
  | [], _, _, h, r => by
    cases h
    cases r
    exact ⟨_, ReadsAll.nil⟩
  | d :: ds, _, _, h, r => by
    cases h with
    | cons h1 h2 =>
      cases r with
      | cons r1 r2 =>
        obtain ⟨as, q1⟩ := Dp.reads I d _ _ h1 r1
        obtain ⟨bs, q2⟩ := Dp.readsAll I ds _ _ h2 r2
        exact ⟨_, ReadsAll.cons q1 q2⟩
end
end
section
variable {X : Cx}
end
end L2
namespace L2
open PySem PySem.Spec PyProof.Rows
abbrev CellAt (h : Heap) (c : Addr) (v : Option Value) : Prop := h.IsCell c v
def relS (scope sc : Scope) : Scope :=
  { scope with names := scope.names.map fun (n, k) => if (k == .free && sc.kind == .function && sc.names.lookup n == some .cell) then (n, .cell) else (n, k) }
def cloFrom (cells : List (Str × Addr)) : List (Str × NameKind) → List (Str × Addr) → List (Str × Addr)
  | [], acc => acc
  | (n, k) :: r, acc => if k == .free then cloFrom cells r ((n, (cells.lookup n).getD 0) :: acc) else cloFrom cells r acc
theorem closure_loop (env : Env) (f : Str × NameKind → List (Str × Addr) → Sem (ForInStep (List (Str × Addr))))
    (hf : ∀ n k c, f (n, k) c = if k == .free then (do let a ← cellOf env n; pure (.yield ((n, a) :: c))) else pure (.yield c)) :
    ∀ (names : List (Str × NameKind)) (acc : List (Str × Addr)), (∀ y ∈ names, y.2 = .free → ∃ c, env.cells.lookup y.1 = some c) → forIn names acc f = pure (cloFrom env.cells names acc)
  | [], acc, _ => by rw [List.forIn_nil]; rfl
  | (n, k) :: r, acc, h => by
    rw [List.forIn_cons, hf]
    have ih := fun acc => closure_loop env f hf r acc fun y hy => h y (List.mem_cons_of_mem _ hy)
    unfold cloFrom
    by_cases hk : (k == NameKind.free) = true
    · rw [if_pos hk, if_pos hk]
      obtain ⟨c, hc⟩ := h (n, k) List.mem_cons_self (by simpa using hk)
      have e : cellOf env n = pure c := by unfold cellOf; rw [hc]
      rw [e]
      have e2 : (env.cells.lookup n).getD 0 = c := by rw [hc]; rfl
      rw [e2]
      exact ih _
    · rw [if_neg hk, if_neg hk]
      exact ih _
theorem closure_ok {scope : Scope} {env : Env} (h : ∀ y ∈ scope.names, y.2 = .free → ∃ c, env.cells.lookup y.1 = some c) : closureFor scope env = pure (cloFrom env.cells scope.names []) := by
  simp only [closureFor]
  rw [closure_loop env _ (fun n k c => rfl) scope.names [] h]
  rfl
theorem mem_lookup {α : Type} : ∀ {l : List (Str × α)} {n : Str} {c : α}, (n, c) ∈ l → ∃ c', l.lookup n = some c'
  | (k, v) :: r, n, c, h => by
    rw [List.lookup_cons]
    cases hb : n == k with
    | true => exact ⟨_, rfl⟩
    | false =>
      rcases List.mem_cons.mp h with e | h
      · cases e; simp at hb
      · exact mem_lookup h
theorem cloFrom_mem {cells : List (Str × Addr)} : ∀ {names : List (Str × NameKind)} {acc : List (Str × Addr)} {n : Str} {c : Addr}, (n, c) ∈ cloFrom cells names acc → (n, c) ∈ acc ∨ ((n, .free) ∈ names ∧ c = (cells.lookup n).getD 0)
  | [], _, _, _, h => .inl h
  | (m, k) :: r, acc, n, c, h => by
    unfold cloFrom at h
    split at h
    · rename_i hk
      have hk : k = .free := by simpa using hk
      rcases cloFrom_mem h with h | ⟨h1, h2⟩
      · rcases List.mem_cons.mp h with e | h
        · cases e; exact .inr ⟨hk ▸ List.mem_cons_self, rfl⟩
        · exact .inl h
      · exact .inr ⟨List.mem_cons_of_mem _ h1, h2⟩
    · rcases cloFrom_mem h with h | ⟨h1, h2⟩
      · exact .inl h
      · exact .inr ⟨List.mem_cons_of_mem _ h1, h2⟩
theorem cloFrom_acc {cells : List (Str × Addr)} : ∀ {names : List (Str × NameKind)} {acc : List (Str × Addr)} {p : Str × Addr}, p ∈ acc → p ∈ cloFrom cells names acc
  | [], _, _, h => h
  | (m, k) :: r, acc, p, h => by
    unfold cloFrom
    split
    · exact cloFrom_acc (List.mem_cons_of_mem _ h)
    · exact cloFrom_acc h
theorem cloFrom_has {cells : List (Str × Addr)} : ∀ {names : List (Str × NameKind)} {acc : List (Str × Addr)} {n : Str}, (n, .free) ∈ names → (n, (cells.lookup n).getD 0) ∈ cloFrom cells names acc
  | (m, k) :: r, acc, n, h => by
    unfold cloFrom
    rcases List.mem_cons.mp h with e | h
    · cases e
      exact cloFrom_acc List.mem_cons_self
    · split
      · exact cloFrom_has h
      · exact cloFrom_has h
theorem cells_mem : ∀ {names : List (Str × NameKind)} {h : Heap} {acc : List (Str × Addr)} {x : Str} {c : Addr}, (x, c) ∈ cellsFrom h.objs.size names acc →
    (x, c) ∈ acc ∨ ((x, .cell) ∈ names ∧ h.objs.size ≤ c ∧ CellAt (pushCells h names) c none)
  | [], _, _, _, _, h => .inl h
  | (n, k) :: r, h, acc, x, c, hm => by
    unfold cellsFrom at hm
    unfold pushCells
    split at hm
    · rename_i hk
      rw [if_pos hk]
      have hk : k = .cell := by simpa using hk
      rw [← Heap.size_push h { cls := .type "cell", data := .cell none }] at hm
      rcases cells_mem hm with hm | ⟨h1, h2, h3⟩
      · rcases List.mem_cons.mp hm with e | hm
        · cases e
          exact .inr ⟨hk ▸ List.mem_cons_self, Nat.le_refl _, _, pushCells_keeps r _ _ _ (Heap.get?_push_size _ rfl), rfl⟩
        · exact .inl hm
      · rw [Heap.size_push] at h2
        exact .inr ⟨List.mem_cons_of_mem _ h1, Nat.le_of_succ_le h2, h3⟩
    · rename_i hk
      rw [if_neg hk]
      rcases cells_mem hm with hm | ⟨h1, h2, h3⟩
      · exact .inl hm
      · exact .inr ⟨List.mem_cons_of_mem _ h1, h2, h3⟩
theorem cells_acc : ∀ {names : List (Str × NameKind)} {n : Nat} {acc : List (Str × Addr)} {p : Str × Addr}, p ∈ acc → p ∈ cellsFrom n names acc
  | [], _, _, _, h => h
  | (m, k) :: r, n, acc, p, h => by
    unfold cellsFrom
    split
    · exact cells_acc (List.mem_cons_of_mem _ h)
    · exact cells_acc h
theorem cells_has : ∀ {names : List (Str × NameKind)} {n : Nat} {acc : List (Str × Addr)} {x : Str}, (x, .cell) ∈ names → ∃ c, (x, c) ∈ cellsFrom n names acc
  | (m, k) :: r, n, acc, x, h => by
    unfold cellsFrom
    rcases List.mem_cons.mp h with e | h
    · cases e
      exact ⟨n, cells_acc List.mem_cons_self⟩
    · split
      · exact cells_has h
      · exact cells_has h
theorem cells_inj : ∀ {names : List (Str × NameKind)} {h : Heap} {acc : List (Str × Addr)} {x y : Str} {c : Addr}, (∀ p ∈ acc, p.2 < h.objs.size) → (∀ x y c, (x, c) ∈ acc → (y, c) ∈ acc → x = y) →
    (x, c) ∈ cellsFrom h.objs.size names acc → (y, c) ∈ cellsFrom h.objs.size names acc → x = y
  | [], _, _, _, _, _, _, hi, h1, h2 => hi _ _ _ h1 h2
  | (n, k) :: r, h, acc, x, y, c, hl, hi, h1, h2 => by
    unfold cellsFrom at h1 h2
    split at h1
    · rename_i hk
      rw [if_pos hk] at h2
      rw [← Heap.size_push h { cls := .type "cell", data := .cell none }] at h1 h2
      refine cells_inj (h := h.push _) (fun p hp => ?_) (fun x y c a b => ?_) h1 h2
      · rw [Heap.size_push]
        rcases List.mem_cons.mp hp with rfl | hp
        · exact Nat.lt_succ_self _
        · exact Nat.lt_succ_of_lt (hl p hp)
      · rcases List.mem_cons.mp a with e | a <;> rcases List.mem_cons.mp b with e' | b
        · cases e; cases e'; rfl
        · cases e; exact absurd (hl _ b) (Nat.lt_irrefl _)
        · cases e'; exact absurd (hl _ a) (Nat.lt_irrefl _)
        · exact hi _ _ _ a b
    · rename_i hk
      rw [if_neg hk] at h2
      exact cells_inj hl hi h1 h2
theorem newEnv_comp {M : Model} {A : Around} {E : Value → Shared → Prop} {s : Shared} {scope : Scope} {globals : Addr} {closure : List (Str × Addr)} {qual : Str} {func : Option Addr} {code : Value} {around : Env} {builtins : Addr} {Q : Env → Shared → Prop}
    (h : Q (newEnv scope s.heap.objs.size globals (cellsFrom (s.heap.objs.size + 1) scope.names closure) qual func code (some around) builtins)
      { s with heap := pushCells (s.heap.push { cls := .type "dict", data := .dict #[] }) scope.names }) :
    wpAny M A (newFunctionEnv scope globals closure [] qual func code (some around) builtins) Q E s := by
  simp only [newFunctionEnv, Option.isSome_some, if_true]
  refine wpAny_bind (wpAny_alloc ?_)
  refine wpAny_bind (wpAny_layCells _ (fun n k c => rfl) scope.names closure _ _ ?_)
  rw [show ({ s with heap := s.heap.push { cls := .type "dict", data := .dict #[] } } : Shared).heap.objs.size = s.heap.objs.size + 1 from Heap.size_push ..]
  rw [List.forIn_nil]
  exact wpAny_bind (wpAny_pure (wpAny_pure h))
/-- every name of the written scope, in the scope that runs -/
theorem lookup_relS {sc : Scope} : ∀ {names : List (Str × NameKind)} {x : Str} {k : NameKind},
    (names.map fun (n, k) => if (k == NameKind.free && sc.kind == .function && sc.names.lookup n == some .cell) then (n, NameKind.cell) else (n, k)).lookup x = some k →
    ∃ k', names.lookup x = some k' ∧ (k = k' ∨ (k' = .free ∧ k = .cell))
  | [], _, _, h => by simp at h
  | (n, k₀) :: r, x, k, h => by
    have ih := @lookup_relS sc r x k
    have h' : List.lookup x ((if (k₀ == NameKind.free && sc.kind == .function && sc.names.lookup n == some .cell) = true then (n, NameKind.cell) else (n, k₀)) :: (r.map _)) = some k := h
    cases hx : x == n with
    | true =>
      simp only [List.lookup_cons, hx]
      by_cases hc : (k₀ == NameKind.free && sc.kind == .function && sc.names.lookup n == some .cell) = true
      · rw [if_pos hc] at h'
        simp only [List.lookup_cons, hx] at h'
        cases h'
        simp only [Bool.and_eq_true, beq_iff_eq] at hc
        exact ⟨k₀, rfl, .inr ⟨hc.1.1, rfl⟩⟩
      · rw [if_neg hc] at h'
        simp only [List.lookup_cons, hx] at h'
        cases h'
        exact ⟨_, rfl, .inl rfl⟩
    | false =>
      simp only [List.lookup_cons, hx]
      by_cases hc : (k₀ == NameKind.free && sc.kind == .function && sc.names.lookup n == some .cell) = true
      · rw [if_pos hc] at h'
        simp only [List.lookup_cons, hx] at h'
        exact ih h'
      · rw [if_neg hc] at h'
        simp only [List.lookup_cons, hx] at h'
        exact ih h'
/-- the names of a comprehension's block: its own (with their places in N), or captured -/
structure BlkOk (N : List Str) (sc scope : Scope) (own : List (Str × Nat)) : Prop where
  kind : scope.kind = .function
  uniq : ∀ y ∈ scope.names, scope.names.lookup y.1 = some y.2
  ix : ∀ p ∈ own, N[p.2]? = some p.1
  free : ∀ y ∈ scope.names, y.2 = .free → sc.names.lookup y.1 = some .cell ∨ sc.names.lookup y.1 = some .free
  own : ∀ y ∈ scope.names, y.2 = .local ∨ y.2 = .cell → y.1 ∈ own.map (·.1) ∨ y.1 ∉ N
/-- the slots of the block's own names forgotten -/
def wipe (σ : St) : List Nat → St
  | [] => σ
  | v :: vs => (wipe σ vs).set v none
theorem wipe_length (σ : St) : ∀ vs : List Nat, (wipe σ vs).length = σ.length
  | [] => rfl
  | v :: vs => by unfold wipe; rw [List.length_set, wipe_length σ vs]
theorem wipe_some {σ : St} {i : Nat} {x : V} : ∀ {vs : List Nat}, (wipe σ vs)[i]? = some (some x) → σ[i]? = some (some x) ∧ i ∉ vs
  | [], h => ⟨h, by simp⟩
  | v :: vs, h => by
    unfold wipe at h
    by_cases hi : v = i
    · subst hi
      by_cases hv : v < (wipe σ vs).length
      · rw [List.getElem?_set_self hv] at h; cases h
      · rw [List.getElem?_eq_none (by simpa using hv)] at h; cases h
    · rw [List.getElem?_set_ne hi] at h
      obtain ⟨h1, h2⟩ := wipe_some h
      exact ⟨h1, by simp only [List.mem_cons, not_or]; exact ⟨fun e => hi e.symm, h2⟩⟩
/-- the context of a block that starts at s, its iterator's objects at fp -/
abbrev Cx.blk (X : Cx) (s : Shared) (H : Hp) (scope : Scope) (cenv : Env) (fp : List Addr) : Cx := { X with s_0 := s, H_0 := H, env := cenv, outer := X.stack, ex := fp, fn := fun x => scope.names.lookup x == some .cell, pn := [], xe := fun _ _ => False }
section
variable {X : Cx} {pins : List (Addr × Obj)} {σ : St} {H : Hp} {s : Shared}
theorem block_start {scope : Scope} {own : List (Str × Nat)} {fp : List Addr} (I : Inv X pins σ H s) (ok : BlkOk X.N X.env.scope scope own) (hN : X.N.Nodup) (hfp : ∀ b ∈ fp, FpOk X pins H b ∧ b < s.heap.objs.size) :
    Inv (X.blk s H scope (compEnvC scope (cellsFrom (s.heap.objs.size + 1) scope.names (cloFrom X.env.cells scope.names [])) s.heap.objs.size X.env) fp) [] (wipe σ (own.map (·.2))) H { s with heap := pushCells (s.heap.push { cls := .type "dict", data := .dict #[] }) scope.names } := by
  have hfree : ∀ y ∈ scope.names, y.2 = .free → ∃ c, X.env.cells.lookup y.1 = some c := fun y hy e => by
    rcases ok.free y hy e with k | k
    · exact I.ok.has _ (.inl k)
    · exact I.ok.has _ (.inr k)
  generalize hcenv : compEnvC scope (cellsFrom (s.heap.objs.size + 1) scope.names (cloFrom X.env.cells scope.names [])) s.heap.objs.size X.env = cenv
  have kp : ∀ b o, s.heap.get? b = some o → (pushCells (s.heap.push { cls := .type "dict", data := .dict #[] }) scope.names).get? b = some o := fun b o e => pushCells_keeps _ _ _ _ (Heap.get?_push_of_some _ e)
  have hL : cenv.locals = s.heap.objs.size := by rw [← hcenv]; rfl
  have hcl : cenv.cells = cellsFrom (s.heap.objs.size + 1) scope.names (cloFrom X.env.cells scope.names []) := by rw [← hcenv]; rfl
  have hsc : cenv.scope = relS scope X.env.scope := by rw [← hcenv]; rfl
  rw [← Heap.size_push s.heap { cls := .type "dict", data := .dict #[] }] at hcl
  have cm : ∀ {y c}, (y, c) ∈ cloFrom X.env.cells scope.names [] → X.env.cells.lookup y = some c ∧ c < s.heap.objs.size := fun {y c} hm => by
    rcases cloFrom_mem hm with hm | ⟨h1, rfl⟩
    · cases hm
    · obtain ⟨c, hc⟩ := hfree _ h1 rfl
      rw [hc]
      obtain ⟨w, z⟩ := I.cell _ _ hc
      exact ⟨rfl, z.lt⟩
  have mem : ∀ {y c}, cenv.cells.lookup y = some c → (X.env.cells.lookup y = some c ∧ c < s.heap.objs.size) ∨ (s.heap.objs.size + 1 ≤ c ∧ CellAt (pushCells (s.heap.push { cls := .type "dict", data := .dict #[] }) scope.names) c none) := fun {y c} e => by
    rw [hcl] at e
    rcases cells_mem (PySem.mem_of_lookup e) with hm | ⟨_, h2, h3⟩
    · exact .inl (cm hm)
    · rw [Heap.size_push] at h2; exact .inr ⟨h2, h3⟩
  have look : ∀ {y}, scope.names.lookup y = some .free → ∃ c, cenv.cells.lookup y = some c ∧ X.env.cells.lookup y = some c := fun {y} hl => by
    have hy : (y, NameKind.free) ∈ scope.names := PySem.mem_of_lookup hl
    obtain ⟨c', e'⟩ := mem_lookup (cells_acc (names := scope.names) (n := (s.heap.push { cls := .type "dict", data := .dict #[] }).objs.size) (cloFrom_has (cells := X.env.cells) (acc := []) hy))
    rw [← hcl] at e'
    refine ⟨c', e', ?_⟩
    rw [hcl] at e'
    rcases cells_mem (PySem.mem_of_lookup e') with hm | ⟨h1, _, _⟩
    · exact (cm hm).1
    · have := ok.uniq _ h1
      rw [hl] at this; cases this
  have okB : (X.blk s H scope cenv fp).Ok := by
    refine ⟨I.ok.mod, by show cenv.scope.kind = _; rw [hsc]; exact ok.kind, by show cenv.globals = _; rw [← hcenv]; exact I.ok.glob, by show cenv.builtins = _; rw [← hcenv]; exact I.ok.blt, by show s.heap.objs.size ≤ cenv.locals; rw [hL]; exact Nat.le_refl _,
      fun y z c e1 e2 => ?_, fun y hy => ?_, fun y c z e => ?_, I.ok.hd, I.ok.frames, .inl rfl, fun b hb => ⟨?_, fun y c e z => ?_⟩, I.bs, Nat.le_trans I.ok.bsz I.sz, fun b o e hb => ?_, fun b hb z => ?_, I.stack, I.stkFree⟩
    · have e1 : cenv.cells.lookup y = some c := e1
      have e2 : cenv.cells.lookup z = some c := e2
      rw [hcl] at e1 e2
      refine cells_inj (fun p hp => ?_) (fun y z c a b => I.ok.inj y z c (cm a).1 (cm b).1) (PySem.mem_of_lookup e1) (PySem.mem_of_lookup e2)
      rw [Heap.size_push]
      exact Nat.lt_succ_of_lt (cm (y := p.1) (c := p.2) hp).2
    · show ∃ c, cenv.cells.lookup y = some c
      have key : ∀ k, cenv.kindOf y = some k → (k = .cell ∨ k = .free) → ∃ c, cenv.cells.lookup y = some c := fun k hk hk' => by
        unfold Env.kindOf at hk
        rw [hsc] at hk
        obtain ⟨k', e, r⟩ := lookup_relS hk
        have : k' = .cell ∨ k' = .free := by
          rcases r with rfl | ⟨rfl, _⟩
          · exact hk'
          · exact .inr rfl
        rcases this with rfl | rfl
        · obtain ⟨c, hm⟩ := cells_has (n := (s.heap.push { cls := .type "dict", data := .dict #[] }).objs.size) (acc := cloFrom X.env.cells scope.names []) (PySem.mem_of_lookup e)
          obtain ⟨c', e'⟩ := mem_lookup hm
          exact ⟨c', by rw [hcl]; exact e'⟩
        · obtain ⟨c, h1, _⟩ := look e
          exact ⟨c, h1⟩
      rcases hy with hy | hy
      · exact key _ hy (.inl rfl)
      · exact key _ hy (.inr rfl)
    · have z : (scope.names.lookup y == some NameKind.cell) = true := z
      have z : scope.names.lookup y = some .cell := by simpa using z
      have e : cenv.cells.lookup y = some c := e
      rw [hcl] at e
      rcases cells_mem (PySem.mem_of_lookup e) with hm | ⟨_, h2, _⟩
      · rcases cloFrom_mem hm with hm | ⟨h1, _⟩
        · cases hm
        · have q := ok.uniq _ h1
          rw [z] at q; cases q
      · rw [Heap.size_push] at h2
        exact Nat.le_of_succ_le h2
    · show b ≠ cenv.locals
      rw [hL]; exact Nat.ne_of_lt (hfp b hb).2
    · have e : cenv.cells.lookup y = some c := e
      rcases mem e with ⟨h1, _⟩ | ⟨h1, _⟩
      · exact (hfp b hb).1.2.2.2.2.1 y c h1 z
      · have h2 : s.heap.objs.size + 1 ≤ b := by rw [← z]; exact h1
        exact absurd (Nat.lt_of_lt_of_le (hfp b hb).2 (Nat.le_of_succ_le h2)) (Nat.lt_irrefl _)
    · rcases (hfp b hb).1.2.2.2.1 with z | z
      · exact I.ok.noex b o e z
      · exact absurd (Nat.lt_of_lt_of_le (Heap.lt_size e) (Nat.le_trans I.ok.bsz z)) (Nat.lt_irrefl _)
    · rcases List.mem_cons.mp (I.stkSub b z) with z | z
      · exact (hfp b hb).1.2.1 z
      · exact (hfp b hb).1.2.2.1 z
  refine ⟨okB, rfl, I.bare, Un.kept kp, ⟨fun _ => none, ?_, fun i y av e1 e2 e3 => ?_⟩, fun y c e => ?_, ?_, fun y c e => ?_, fun p hp => ?_, I.hok.kept kp, by rw [wipe_length]; exact I.len⟩
  · show Heap.Ns _ cenv.locals _
    rw [hL]
    exact Heap.Ns.keeps (Heap.Ns.new ..) fun b o e => pushCells_keeps _ _ _ _ e
  · obtain ⟨e2, hne⟩ := wipe_some e2
    have hfr : scope.names.lookup y = some .free ∧ (cenv.kindOf y = some .cell ∨ cenv.kindOf y = some .free) := by
      have key : ∀ k, cenv.scope.names.lookup y = some k → k = .local ∨ k = .cell ∨ k = .free → scope.names.lookup y = some .free ∧ (cenv.kindOf y = some .cell ∨ cenv.kindOf y = some .free) := fun k hk hk' => by
        have hk0 := hk
        rw [hsc] at hk
        obtain ⟨k', e, r⟩ := lookup_relS hk
        have no : ¬ (k' = .local ∨ k' = .cell) := fun hh => by
          rcases ok.own _ (PySem.mem_of_lookup e) hh with e' | e'
          · obtain ⟨p, hp, hpy⟩ := List.mem_map.mp e'
            have e3 := ok.ix p hp
            have : p.1 = y := hpy
            rw [this] at e3
            exact hne (List.mem_map.mpr ⟨p, hp, nodup_ix hN e3 e1⟩)
          · exact e' (List.mem_of_getElem? e1)
        rcases r with rfl | ⟨rfl, rfl⟩
        · rcases hk' with rfl | rfl | rfl
          · exact absurd (.inl rfl) no
          · exact absurd (.inr rfl) no
          · exact ⟨e, .inr hk0⟩
        · exact ⟨e, .inl hk0⟩
      have e3 : Vis cenv.scope y := e3
      rcases e3 with e3 | e3 | e3
      · exact key _ e3 (.inl rfl)
      · exact key _ e3 (.inr (.inl rfl))
      · exact key _ e3 (.inr (.inr rfl))
    obtain ⟨m, hn, hl⟩ := I.loc
    have hvis : Vis X.env.scope y := (ok.free _ (PySem.mem_of_lookup hfr.1) rfl).elim (fun k => .inr (.inl k)) (fun k => .inr (.inr k))
    obtain ⟨w, r, q⟩ := hl i y av e1 e2 hvis
    refine ⟨w, r, .inr ⟨hfr.2, ?_⟩⟩
    obtain ⟨c, h1, h2⟩ := look hfr.1
    rcases q with ⟨k, _⟩ | ⟨_, c', e', z⟩
    · have k : X.env.scope.names.lookup y = some .local := k
      rcases ok.free _ (PySem.mem_of_lookup hfr.1) rfl with k' | k' <;> rw [show X.env.scope.names.lookup y = _ from k'] at k <;> cases k
    · rw [h2] at e'; cases e'
      exact ⟨c, h1, z.keeps kp⟩
  · have e : cenv.cells.lookup y = some c := e
    rcases mem e with ⟨h1, _⟩ | ⟨_, z⟩
    · obtain ⟨w, z⟩ := I.cell y c h1
      exact ⟨w, z.keeps kp⟩
    · exact ⟨_, z⟩
  · show H cenv.locals = none
    rw [hL]; exact I.hok.fresh (Nat.le_refl _)
  · have e : cenv.cells.lookup y = some c := e
    rcases mem e with ⟨h1, _⟩ | ⟨h1, _⟩
    · exact I.freeC y c h1
    · exact I.hok.fresh (Nat.le_of_succ_le h1)
  · exact absurd (show p ∈ ([] : List (Addr × Obj)) ++ [] from hp) (by simp)
/-- an item appended to a tracked list -/
theorem app_ok {E : Value → Shared → Prop} {D : Addr} {xs : List V} {y : V} {v : Value} {Q : Value → Shared → Prop} (I : Inv X pins σ H s) (hD : H D = some (.lst xs)) (hz : xs.length < sizeLine) (r : RelV y v)
    (h : ∀ s', Inv X pins σ (upd H D (.lst (xs ++ [y]))) s' → Q .none s') : wpAny (model X.prog X.w) X.A (call (.builtin "list.append") [.ref D, v]) Q E s := by
  obtain ⟨hz', its, n, ri, e⟩ := I.hok D _ hD
  have hl := ri.length
  refine append_at (hsz := by rw [List.size_toArray]; omega) e fun h' sb ho' => ?_
  refine h { s with heap := h' } (I.write (t' := s.toks) (by rw [hD]; trivial) (.inl rfl) (fun b u hb q => (sb.2 b hb).trans q) ⟨_, ho'⟩ ⟨by rw [List.length_append]; exact hz, its ++ [v], n + 1, ri.append (.cons r .nil), ?_⟩)
  rw [ho']
  simp
/-- a clause's tests -/
def PTs (X : Cx) (ifs : List Expr) (t : TT) : Prop :=
  ∀ (pins : List (Addr × Obj)) (s : Shared) (σ : St) (H : Hp) (Q : Bool → Hp → Prop), Inv X pins σ H s → t σ H Q →
    wpAny (model X.prog X.w) X.A (forIn ifs true fun c r => if r = true then do let ok ← isTrue c X.env (eval c X.env); pure (ForInStep.yield ok) else pure (ForInStep.yield r)) (TP X pins σ Q) X.xe s
def tYes : TT := fun _ H Q => Q true H
theorem pts_nil : PTs X [] tYes := fun _ _ _ H _ I h => wpAny_tests_nil ⟨H, I, h⟩
theorem pts_one {c : Expr} {t : TT} (h : PT X c t) : PTs X [c] t := fun pins s σ H Q I hw => wpAny_tests_one (h pins s σ H Q I hw)
end
theorem thnF {α : Type} {t : Sem α} {Q Q' : α → Shared → Prop} {M : Model} {A : Around} {E : Value → Shared → Prop} {s : Shared} (h : wpAny M A t Q (fun _ _ => False) s) (hQ : ∀ a s, Q a s → Q' a s) : wpAny M A t Q' E s := wpAny_mono h hQ fun _ _ z => False.elim z
/-- the loop of a list comprehension's block, the target of any form (codeAny_compLoop_tests asks a target that no tuple goes to; statement and proof follow it, PyProof/CompMap.lean:41-61, with the step letOwnedTupleGo kept) -/
theorem compLoop_any {prog : Program} {w : World} {A : Around} {R : Result → Shared → Prop} {s : Shared} {elt target iter : Expr} {ifs : List Expr} {scope : Scope} {pos : Pos} {it acc : Value} {env : Env} (I : Nat → Shared → Prop)
    (turn : ∀ n s, I n s → wpAny (model prog w) A (pyNext it) (fun r s₁ => match r with
      | none => R (.ok .next) s₁
      | some v => wpAny (model prog w) A (letOwnedTupleGo target it v) (fun _ s₁' => wpAny (model prog w) A (assign target env v) (fun _ s₂ =>
          wpAny (model prog w) A (forIn ifs true fun c r => if r = true then do let ok ← isTrue c env (eval c env); pure (ForInStep.yield ok) else pure (ForInStep.yield r)) (fun ok s₃ =>
            if ok = true then wpAny (model prog w) A (eval elt env) (fun x s₄ =>
              wpAny (model prog w) A (call (.builtin "list.append") [acc, x]) (fun _ s₅ => ∃ m, m < n ∧ I m s₅) (notedBy (model prog w) A env fun e s' => R (.error e) s') s₄) (notedBy (model prog w) A env fun e s' => R (.error e) s') s₃
            else ∃ m, m < n ∧ I m s₃) (notedBy (model prog w) A env fun e s' => R (.error e) s') s₂) (notedBy (model prog w) A env fun e s' => R (.error e) s') s₁') (notedBy (model prog w) A env fun e s' => R (.error e) s') s₁) (notedBy (model prog w) A env fun e s' => R (.error e) s') s)
    (n : Nat) (h : I n s) :
    codeAny (model prog w) A (.compLoop (.ListComp elt [⟨target, iter, ifs, 0⟩] scope pos) 0 it acc env) R s := by
  refine codeAny_loop rfl I (fun n s hI => ?_) n h
  show wpAny _ A ((compTurn (.ListComp elt [⟨target, iter, ifs, 0⟩] scope pos) 0 it acc env).onRaise (fun x => do noteFrame x env; theTreesLotGoes x)) _ _ s
  refine wpAny_noted ?_
  rw [compTurn_list]
  refine wpAny_bind (wpAny_standAt (wpAny_bind (wpAny_mono (turn n s hI) (fun r s₁ h₁ => ?_) fun _ _ h' => h')))
  cases r with
  | none => exact wpAny_pure h₁
  | some v =>
    refine wpAny_bind (wpAny_mono h₁ (fun _ s₁' h₁' => ?_) fun _ _ h' => h')
    refine wpAny_bind (wpAny_mono h₁' (fun _ s₂ h₂ => wpAny_bind (wpAny_mono h₂ (fun ok s₃ h₃ => ?_) fun _ _ h' => h')) fun _ _ h' => h')
    cases ok with
    | false => exact wpAny_pure ⟨rfl, h₃⟩
    | true =>
      exact wpAny_bind (wpAny_bind (wpAny_mono h₃ (fun x s₄ h₄ => wpAny_bind (wpAny_mono h₄ (fun _ s₅ h₅ => wpAny_pure (wpAny_pure ⟨rfl, h₅⟩)) fun _ _ h' => h')) fun _ _ h' => h'))
section
variable {X : Cx}
/-- [elt for target in iter if ..]: D the new list; W by the turn and a measure, Nx what a turn is to reach -/
def tLc (wi : TI) (g : TG) (tt : TT) (te : TE) (vs : List Nat) : TE := fun σ H Q => wi σ H fun J H1 => ∀ D, H1 D = none → ∃ W : Nat → Nat → Hp → Prop, (∃ m, W 0 m (upd H1 D (.lst []))) ∧ ∀ i m H, W i m H →
  (J.stop i H ∧ Q (.ref D) H) ∨ (J.go i H ∧ ∃ Nx : Hp → Prop, (∀ H', Nx H' → ∃ m', m' < m ∧ W (i + 1) m' H') ∧ ∀ x H', J.yld i H x H' → g x (wipe σ vs) H' fun σ2 H2 => wipe σ2 vs = wipe σ vs ∧ tt σ2 H2 fun b H3 =>
    if b = true then te σ2 H3 fun y H4 => ∃ acc, H4 D = some (.lst acc) ∧ acc.length < sizeLine ∧ Nx (upd H4 D (.lst (acc ++ [y]))) else Nx H3)
theorem lc_core {pins : List (Addr × Obj)} {s : Shared} {σ : St} {H : Hp} {Q : VK} {elt tg iter : Expr} {ifs : List Expr} {scope : Scope} {own : List (Str × Nat)} {pos pos' : Pos} {wi : TI} {g : TG} {tt : TT} {te : TE} {use : Option (Value → Sem Unit)} {Qf : Value → Shared → Prop}
    (hc : X.calm = true) (hN : X.N.Nodup) (I : Inv X pins σ H s) (hi : PI X tg iter wi) (ok : BlkOk X.N X.env.scope scope own)
    (hg : ∀ (s : Shared) (H : Hp) (C : Addr) (cl : List (Str × Addr)) (fp : List Addr), PG (X.blk s H scope (compEnvC scope cl C X.env) fp) tg g) (ht : ∀ (s : Shared) (H : Hp) (C : Addr) (cl : List (Str × Addr)) (fp : List Addr), PTs (X.blk s H scope (compEnvC scope cl C X.env) fp) ifs tt)
    (he : ∀ (s : Shared) (H : Hp) (C : Addr) (cl : List (Str × Addr)) (fp : List Addr), PE (X.blk s H scope (compEnvC scope cl C X.env) fp) elt te) (hs : ∀ x, foldedSetIterable iter X.env x = pure x)
    (h : tLc wi g tt te (own.map (·.2)) σ H Q)
    (hRR : ∀ D C s' m H', Inv X pins σ H' s' → Q (.ref D) H' → s'.heap.Ns C m → FpOk X pins H' C → compPost (model X.prog X.w) X.A X.xe use Qf (.ref D) C (.ok .next) s') :
    wpAny (model X.prog X.w) X.A (comprehension (.ListComp elt [⟨tg, iter, ifs, 0⟩] scope pos) scope X.env pos' (newList []) false (eval iter X.env) use) Qf X.xe s := by
  have hfree : ∀ y ∈ scope.names, y.2 = .free → ∃ c, X.env.cells.lookup y.1 = some c := fun y hy e => by
    rcases ok.free y hy e with k | k
    · exact I.ok.has _ (.inl k)
    · exact I.ok.has _ (.inr k)
  refine wpAny_comprehension_free (use := use) rfl hs (closure_ok hfree) ok.kind (fun y hy e => by rw [ok.uniq y hy, e])
    (thn (hi pins s σ H _ I h) fun xv s1 hx => thn hx fun itv s2 h2 => ?_)
  obtain ⟨it, fp, tn, J, H2, e, I2, T, st2, f2, q⟩ := h2
  subst e
  refine wpAny_newObj_type (newEnv_comp ?_) (by show 0 ≤ sizeLine; decide)
  generalize hD : s2.heap.objs.size = D
  have hDn : H2 D = none := I2.hok.fresh (Nat.le_of_eq hD)
  obtain ⟨W, ⟨m0, w0⟩, turn⟩ := q D hDn
  -- the new list
  generalize hs3 : ({ s2 with heap := s2.heap.push { cls := .type "list", data := .seq ([] : List Value).toArray } } : Shared) = s3
  have I3 : Inv X pins σ (upd H2 D (.lst [])) s3 := by
    rw [← hs3]
    refine I2.laid (t' := s2.toks) (fun b o e => Heap.get?_push_of_some _ e) (Nat.le_of_eq hD) ⟨Nat.zero_le _, [], 0, .nil, ?_⟩
    rw [← hD]
    exact Heap.get?_push_size _ rfl
  have h3 : s3.heap = s2.heap.push { cls := .type "list", data := .seq ([] : List Value).toArray } := by rw [← hs3]
  have sz : ∀ b ∈ fp, b < s2.heap.objs.size := fun b hb => by
    obtain ⟨o, e, _⟩ := T.obj _ _ st2 b hb
    exact Heap.lt_size e
  have f3 : ∀ b ∈ fp, FpOk X pins (upd H2 D (.lst [])) b ∧ b < s3.heap.objs.size := fun b hb => by
    have hlt := sz b hb
    refine ⟨⟨?_, (f2 b hb).2⟩, by rw [h3, Heap.size_push]; exact Nat.lt_succ_of_lt hlt⟩
    rw [upd_ne (by rw [← hD]; exact Nat.ne_of_lt hlt)]
    exact (f2 b hb).1
  have st3 : tn 0 s3.heap := T.keep _ _ _ st2 fun b _ o e => by rw [h3]; exact Heap.get?_push_of_some _ e
  have I4 := block_start I3 ok hN f3
  have pg := hg s3 (upd H2 D (.lst [])) s3.heap.objs.size (cellsFrom (s3.heap.objs.size + 1) scope.names (cloFrom X.env.cells scope.names [])) fp
  have pt := ht s3 (upd H2 D (.lst [])) s3.heap.objs.size (cellsFrom (s3.heap.objs.size + 1) scope.names (cloFrom X.env.cells scope.names [])) fp
  have pe := he s3 (upd H2 D (.lst [])) s3.heap.objs.size (cellsFrom (s3.heap.objs.size + 1) scope.names (cloFrom X.env.cells scope.names [])) fp
  show codeAny _ _ (.compStart (.ListComp elt [⟨tg, iter, ifs, 0⟩] scope pos) 0 (.ref it) (.ref D) (compEnvC scope (cellsFrom (s3.heap.objs.size + 1) scope.names (cloFrom X.env.cells scope.names [])) s3.heap.objs.size X.env)) (compPost (model X.prog X.w) X.A X.xe use Qf (.ref D) s3.heap.objs.size) { s3 with heap := pushCells (s3.heap.push { cls := .type "dict", data := .dict #[] }) scope.names }
  have nfp : ∀ b ∈ fp, (upd H2 D (.lst [])) b = none := fun b hb => (f3 b hb).1.1
  generalize hce : compEnvC scope (cellsFrom (s3.heap.objs.size + 1) scope.names (cloFrom X.env.cells scope.names [])) s3.heap.objs.size X.env = ce at I4 pg pt pe ⊢
  have cL : ce.locals = s3.heap.objs.size := by subst hce; rfl
  generalize hH3 : upd H2 D (.lst []) = H3 at I3 I4 pg pt pe w0 nfp f3
  generalize hs4 : ({ s3 with heap := pushCells (s3.heap.push { cls := .type "dict", data := .dict #[] }) scope.names } : Shared) = s4 at I4 ⊢
  have st4 : tn 0 s4.heap := T.keep _ _ _ st3 fun b _ o e => by rw [← hs4]; exact pushCells_keeps _ _ _ _ (Heap.get?_push_of_some _ e)
  have stat : ∀ {σ' : St} {H' : Hp} {s' : Shared}, Inv (X.blk s3 H3 scope ce fp) [] σ' H' s' → (∀ b ∈ fp, H' b = none) → ∀ b ∈ fp, FpOk (X.blk s3 H3 scope ce fp) [] H' b := fun {σ' H' s'} I' hn b hb =>
    ⟨hn b hb, (I'.ok.exf b hb).1, I'.ok.exfs b hb, .inl hb, fun x c e => (I'.ok.exf b hb).2 x c e, fun p hp => absurd (show p ∈ ([] : List (Addr × Obj)) ++ [] from hp) (by simp)⟩
  have loop : codeAny (model X.prog X.w) X.A (.compLoop (.ListComp elt [⟨tg, iter, ifs, 0⟩] scope pos) 0 (.ref it) (.ref D) ce) (compPost (model X.prog X.w) X.A X.xe use Qf (.ref D) s3.heap.objs.size) s4 := by
    refine compLoop_any (fun n s' => ∃ i H', Inv (X.blk s3 H3 scope ce fp) [] (wipe σ (own.map (·.2))) H' s' ∧ tn i s'.heap ∧ (∀ b ∈ fp, H' b = none) ∧ W i n H') ?_ m0 ⟨0, H3, I4, st4, nfp, w0⟩
    rintro n s5 ⟨i, H5, I5, st5, n5, w5⟩
    rcases turn i n H5 w5 with ⟨stop, qq⟩ | ⟨go, Nx, hNx, step⟩
    · have td := T.done (X.blk s3 H3 scope ce fp) rfl rfl rfl hc i [] s5 _ H5 (fun _ _ => False) I5 (stat I5 n5) st5 stop
      refine thnF td fun r s6 ⟨hr, I6⟩ => ?_
      subst hr
      -- back in the def's context
      have I7 : Inv X pins σ H5 s6 := I3.call' (ch := fp) I6.os I6.base I6.hok I6.bare fun b hb => ⟨(f3 b hb).1.2.2.2.1, (f3 b hb).1.2.1, (f3 b hb).1.2.2.2.2.1, (f3 b hb).1.2.2.2.2.2⟩
      have nC : H5 s3.heap.objs.size = none := by
        have z : H5 ce.locals = none := I6.free
        rw [cL] at z
        exact z
      obtain ⟨m, hn, _⟩ := I6.loc
      have hn : s6.heap.Ns ce.locals m := hn
      rw [cL] at hn
      exact hRR D s3.heap.objs.size s6 m H5 I7 qq hn (I3.fpOk (Nat.le_refl _) nC)
    · have ti := T.item (X.blk s3 H3 scope ce fp) rfl rfl rfl hc i [] s5 _ H5 (fun _ _ => False) I5 (stat I5 n5) st5 go
      refine thnF ti fun r s6 ⟨u, hr, h6⟩ => ?_
      subst hr
      refine thnF h6 fun _ s7 ⟨x, H7, I7, r7, y7, st7, n7⟩ => ?_
      have I7' := I7.pinned (stat I7 n7) (T.obj _ _ st7)
      refine thnF (pg _ s7 _ H7 x u _ I7' r7 (step x H7 y7)) fun _ s8 ⟨σ8, H8, I8, hw8, q8⟩ => ?_
      refine thnF (pt _ s8 σ8 H8 _ I8 q8) fun b s9 ⟨H9, I9, q9⟩ => ?_
      -- the turn's end
      have fin : ∀ {s' : Shared} {H' : Hp}, Inv (X.blk s3 H3 scope ce fp) ([] ++ pinsAt fp s7.heap) σ8 H' s' → Nx H' → ∃ m, m < n ∧ ∃ i H', Inv (X.blk s3 H3 scope ce fp) [] (wipe σ (own.map (·.2))) H' s' ∧ tn i s'.heap ∧ (∀ b ∈ fp, H' b = none) ∧ W i m H' := fun {s' H'} I' nx => by
        obtain ⟨m', hm, w'⟩ := hNx H' nx
        have pin' : ∀ b ∈ fp, ∀ o, s7.heap.get? b = some o → s'.heap.get? b = some o ∧ H' b = none := fun b hb o e =>
          let z := I'.pin (b, o) (List.mem_append_right _ (List.mem_append_right _ (mem_pinsAt hb e)))
          ⟨z.1, z.2.1⟩
        have hl : (wipe σ (own.map (·.2))).length = σ8.length := by rw [← hw8, wipe_length]
        refine ⟨m', hm, i + 1, H', (I'.unpinned (pins := [])).weak hl (fun j v e => ?_), T.keep _ _ _ st7 fun b hb o e => (pin' b hb o e).1, fun b hb => ?_, w'⟩
        · rw [← hw8] at e
          exact (wipe_some e).1
        · obtain ⟨o, e, _⟩ := T.obj _ _ st7 b hb
          exact (pin' b hb o e).2
      cases b with
      | false =>
        simp only [Bool.false_eq_true, if_false] at q9 ⊢
        exact fin I9 q9
      | true =>
        simp only [if_true] at q9 ⊢
        refine thnF (pe _ s9 σ8 H9 _ I9 q9) fun z s10 ⟨yv, H10, I10, r10, acc, hD10, hz10, nx⟩ => ?_
        exact app_ok (X := X.blk s3 H3 scope ce fp) I10 hD10 hz10 r10 fun s11 I11 => fin I11 nx
  exact codeAny_compStart_list loop (T.self X.A 0 _ _ _ st4 loop)
/-- as a value -/
theorem pe_lc {elt tg iter : Expr} {ifs : List Expr} {scope : Scope} {own : List (Str × Nat)} {pos : Pos} {wi : TI} {g : TG} {tt : TT} {te : TE} (hc : X.calm = true) (hN : X.N.Nodup) (hi : PI X tg iter wi) (ok : BlkOk X.N X.env.scope scope own)
    (hg : ∀ (s : Shared) (H : Hp) (C : Addr) (cl : List (Str × Addr)) (fp : List Addr), PG (X.blk s H scope (compEnvC scope cl C X.env) fp) tg g) (ht : ∀ (s : Shared) (H : Hp) (C : Addr) (cl : List (Str × Addr)) (fp : List Addr), PTs (X.blk s H scope (compEnvC scope cl C X.env) fp) ifs tt)
    (he : ∀ (s : Shared) (H : Hp) (C : Addr) (cl : List (Str × Addr)) (fp : List Addr), PE (X.blk s H scope (compEnvC scope cl C X.env) fp) elt te) (hs : ∀ x, foldedSetIterable iter X.env x = pure x := by intro _; rfl) :
    PE X (.ListComp elt [⟨tg, iter, ifs, 0⟩] scope pos) (tLc wi g tt te (own.map (·.2))) := by
  intro pins s σ H Q I h
  rw [eval_ListComp]
  refine lc_core hc hN I hi ok hg ht he hs h fun D C s' m H' I' q hn f => ⟨m, hn, fun h'' sb => ?_⟩
  obtain ⟨f0, f1, f2, f3, f4, f5⟩ := f
  exact ⟨.ref D, H', I'.turned (t' := s'.toks) (fun b o hb e => (sb.2 b hb).trans e) f0 f1 f3 f4 f5, rfl, q⟩
/-- name = [..] on one line, the name a local -/
theorem ps_setLc {i : Nat} {y : Str} {py : Pos} {elt tg iter : Expr} {ifs : List Expr} {scope : Scope} {own : List (Str × Nat)} {pos spos : Pos} {wi : TI} {g : TG} {tt : TT} {te : TE} (hc : X.calm = true) (hN : X.N.Nodup) (hy : X.N[i]? = some y) (hyl : X.env.scope.names.lookup y = some .local)
    (hsw : swapsWith (.ListComp elt [⟨tg, iter, ifs, 0⟩] scope pos) (some (.Name y py)) spos.line X.env = pure true) (hi : PI X tg iter wi) (ok : BlkOk X.N X.env.scope scope own)
    (hg : ∀ (s : Shared) (H : Hp) (C : Addr) (cl : List (Str × Addr)) (fp : List Addr), PG (X.blk s H scope (compEnvC scope cl C X.env) fp) tg g) (ht : ∀ (s : Shared) (H : Hp) (C : Addr) (cl : List (Str × Addr)) (fp : List Addr), PTs (X.blk s H scope (compEnvC scope cl C X.env) fp) ifs tt)
    (he : ∀ (s : Shared) (H : Hp) (C : Addr) (cl : List (Str × Addr)) (fp : List Addr), PE (X.blk s H scope (compEnvC scope cl C X.env) fp) elt te) (hs : ∀ x, foldedSetIterable iter X.env x = pure x := by intro _; rfl) :
    PS X (.Assign [.Name y py] (.ListComp elt [⟨tg, iter, ifs, 0⟩] scope pos) spos) (tAsg (tLc wi g tt te (own.map (·.2))) (gName i)) := by
  intro pins s σ H D I h
  rw [exec_Assign_Name_used _ _ _ _ hsw]
  refine wpAny_bind (wpAny_standAt (wpAny_bind ?_))
  show wpAny _ X.A (do let _ ← comprehension (.ListComp elt [⟨tg, iter, ifs, 0⟩] scope pos) scope X.env (firstIterPos [⟨tg, iter, ifs, 0⟩] pos) (newList []) false (eval iter X.env) (some (assign (.Name y py) X.env))) _ _ s
  have h : tLc wi g tt te (own.map (·.2)) σ H (fun x H1 => gName i x σ H1 D.nx) := h
  refine wpAny_bind (thn (lc_core (Qf := fun _ s' => SP X pins D .next s') hc hN I hi ok hg ht he hs h fun L C s' m H' I' q hn f => ?_) fun _ s' hq => wpAny_pure (wpAny_pure hq))
  show wpAny _ _ (assign (.Name y py) X.env (.ref L)) _ _ _
  refine wpAny_assign_Name (store_ok2 (v := V.ref L) I' hN hy (.inl hyl) rfl (fun s2 I2 ⟨a, sb, ha⟩ => ?_) (.inr hyl))
  obtain ⟨f0, f1, f2, f3, f4, f5⟩ := f
  have haC : C ≠ a := by
    rcases ha with z | z
    · rw [z]; exact f1
    · exact fun e => f4 y a z e.symm
  refine ⟨m, hn.sameBut sb haC, fun h3 sb3 => ?_⟩
  exact ⟨_, H', I2.turned (t' := s2.toks) (fun b o hb e => (sb3.2 b hb).trans e) f0 f1 f3 f4 f5, q⟩
theorem sw_true {elt : Expr} {gs : List Comprehension} {scope : Scope} {pos py : Pos} {y : Str} {l : Nat} {env : Env} (hk : env.scope.kind = .function) (hy : env.scope.names.lookup y = some .local) (hl : (py.line == pos.line) = true)
    (ha : (scope.names.any fun (n, k) => n == y && (k == .local || k == .cell)) = false) : swapsWith (.ListComp elt gs scope pos) (some (.Name y py)) l env = pure true := by
  have ky : env.kindOf y = some .local := hy
  have hb : env.blockKind = .function := by unfold Env.blockKind; rw [hk]; rfl
  unfold swapsWith
  simp only [hb, ky, ha, Expr.pos, hl]
  rfl
end
/-- over a range: Pv by the turn and the heap (the new list at D within) -/
theorem lc_range {lo : Int} {n : Nat} {g : TG} {tt : TT} {te : TE} {vs : List Nat} {σ : St} {H1 : Hp} {D : Addr} {Qd : Hp → Prop} (Pv : Nat → Hp → Prop) (h0 : Pv 0 (upd H1 D (.lst [])))
    (hs : ∀ i H, i < n → Pv i H → g (.int (lo + i)) (wipe σ vs) H fun σ2 H2 => wipe σ2 vs = wipe σ vs ∧ tt σ2 H2 fun b H3 =>
      if b = true then te σ2 H3 fun y H4 => ∃ acc, H4 D = some (.lst acc) ∧ acc.length < sizeLine ∧ Pv (i + 1) (upd H4 D (.lst (acc ++ [y]))) else Pv (i + 1) H3) (hd : ∀ H, Pv n H → Qd H) :
    ∃ W : Nat → Nat → Hp → Prop, (∃ m, W 0 m (upd H1 D (.lst []))) ∧ ∀ i m H, W i m H →
      ((Itr lo n).stop i H ∧ Qd H) ∨ ((Itr lo n).go i H ∧ ∃ Nx : Hp → Prop, (∀ H', Nx H' → ∃ m', m' < m ∧ W (i + 1) m' H') ∧ ∀ x H', (Itr lo n).yld i H x H' → g x (wipe σ vs) H' fun σ2 H2 => wipe σ2 vs = wipe σ vs ∧ tt σ2 H2 fun b H3 =>
        if b = true then te σ2 H3 fun y H4 => ∃ acc, H4 D = some (.lst acc) ∧ acc.length < sizeLine ∧ Nx (upd H4 D (.lst (acc ++ [y]))) else Nx H3) := by
  refine ⟨fun i m H => m = n - i ∧ i ≤ n ∧ Pv i H, ⟨n, by simp, Nat.zero_le _, h0⟩, ?_⟩
  rintro i m H ⟨rfl, hi, p⟩
  by_cases hlt : i < n
  · refine .inr ⟨hlt, Pv (i + 1), fun H' p' => ⟨n - (i + 1), by omega, rfl, hlt, p'⟩, fun x H' y => ?_⟩
    obtain ⟨e, y⟩ := y
    subst e y
    exact hs i _ hlt p
  · have e : i = n := by omega
    subst e
    exact .inl ⟨Nat.le_refl _, hd H p⟩
/-- over a list that the block leaves as it is -/
theorem lc_list {K : PySem.W.Frag} {a : Addr} {xs : List V} {g : TG} {tt : TT} {te : TE} {vs : List Nat} {σ : St} {H1 : Hp} {D : Addr} {Qd : Hp → Prop} (Pv : Nat → Hp → Prop) (h0 : Pv 0 (upd H1 D (.lst []))) (hl : ∀ i H, i ≤ xs.length → Pv i H → SqL K H a xs)
    (hs : ∀ i x H, xs[i]? = some x → Pv i H → g x (wipe σ vs) H fun σ2 H2 => wipe σ2 vs = wipe σ vs ∧ tt σ2 H2 fun b H3 =>
      if b = true then te σ2 H3 fun y H4 => ∃ acc, H4 D = some (.lst acc) ∧ acc.length < sizeLine ∧ Pv (i + 1) (upd H4 D (.lst (acc ++ [y]))) else Pv (i + 1) H3) (hd : ∀ H, Pv xs.length H → Qd H) :
    ∃ W : Nat → Nat → Hp → Prop, (∃ m, W 0 m (upd H1 D (.lst []))) ∧ ∀ i m H, W i m H →
      ((Itl K a).stop i H ∧ Qd H) ∨ ((Itl K a).go i H ∧ ∃ Nx : Hp → Prop, (∀ H', Nx H' → ∃ m', m' < m ∧ W (i + 1) m' H') ∧ ∀ x H', (Itl K a).yld i H x H' → g x (wipe σ vs) H' fun σ2 H2 => wipe σ2 vs = wipe σ vs ∧ tt σ2 H2 fun b H3 =>
        if b = true then te σ2 H3 fun y H4 => ∃ acc, H4 D = some (.lst acc) ∧ acc.length < sizeLine ∧ Nx (upd H4 D (.lst (acc ++ [y]))) else Nx H3) := by
  refine ⟨fun i m H => m = xs.length - i ∧ i ≤ xs.length ∧ Pv i H, ⟨xs.length, by simp, Nat.zero_le _, h0⟩, ?_⟩
  rintro i m H ⟨rfl, hi, p⟩
  have q := hl i H hi p
  by_cases hlt : i < xs.length
  · refine .inr ⟨⟨xs, xs[i], q, by simp [hlt]⟩, Pv (i + 1), fun H' p' => ⟨xs.length - (i + 1), by omega, rfl, hlt, p'⟩, fun x H' y => ?_⟩
    obtain ⟨e, y⟩ := y
    subst e
    exact hs i x _ (y xs q) p
  · have e : i = xs.length := by omega
    subst e
    exact .inl ⟨⟨xs, q, Nat.le_refl _⟩, hd H p⟩
/-- over a tuple -/
theorem lc_tup {K : PySem.W.Frag} {a : Addr} {xs : List V} {g : TG} {tt : TT} {te : TE} {vs : List Nat} {σ : St} {H1 : Hp} {D : Addr} {Qd : Hp → Prop} (Pv : Nat → Hp → Prop) (h0 : Pv 0 (upd H1 D (.lst []))) (hl : ∀ i H, i ≤ xs.length → Pv i H → SqT K H a xs)
    (hs : ∀ i x H, xs[i]? = some x → Pv i H → g x (wipe σ vs) H fun σ2 H2 => wipe σ2 vs = wipe σ vs ∧ tt σ2 H2 fun b H3 =>
      if b = true then te σ2 H3 fun y H4 => ∃ acc, H4 D = some (.lst acc) ∧ acc.length < sizeLine ∧ Pv (i + 1) (upd H4 D (.lst (acc ++ [y]))) else Pv (i + 1) H3) (hd : ∀ H, Pv xs.length H → Qd H) :
    ∃ W : Nat → Nat → Hp → Prop, (∃ m, W 0 m (upd H1 D (.lst []))) ∧ ∀ i m H, W i m H →
      ((Itt K a).stop i H ∧ Qd H) ∨ ((Itt K a).go i H ∧ ∃ Nx : Hp → Prop, (∀ H', Nx H' → ∃ m', m' < m ∧ W (i + 1) m' H') ∧ ∀ x H', (Itt K a).yld i H x H' → g x (wipe σ vs) H' fun σ2 H2 => wipe σ2 vs = wipe σ vs ∧ tt σ2 H2 fun b H3 =>
        if b = true then te σ2 H3 fun y H4 => ∃ acc, H4 D = some (.lst acc) ∧ acc.length < sizeLine ∧ Nx (upd H4 D (.lst (acc ++ [y]))) else Nx H3) := by
  refine ⟨fun i m H => m = xs.length - i ∧ i ≤ xs.length ∧ Pv i H, ⟨xs.length, by simp, Nat.zero_le _, h0⟩, ?_⟩
  rintro i m H ⟨rfl, hi, p⟩
  have q := hl i H hi p
  by_cases hlt : i < xs.length
  · refine .inr ⟨⟨xs, xs[i], q, by simp [hlt]⟩, Pv (i + 1), fun H' p' => ⟨xs.length - (i + 1), by omega, rfl, hlt, p'⟩, fun x H' y => ?_⟩
    obtain ⟨e, y⟩ := y
    subst e
    exact hs i x _ (y xs q) p
  · have e : i = xs.length := by omega
    subst e
    exact .inl ⟨⟨xs, q, Nat.le_refl _⟩, hd H p⟩
def blkC (N : List Str) (sc scope : Scope) (own : List (Str × Nat)) : Bool :=
  (match scope.kind with | .function => true | _ => false) && (scope.names.all fun y => decide (scope.names.lookup y.1 = some y.2)) && (own.all fun p => decide (N[p.2]? = some p.1)) &&
    (scope.names.all fun y => match y.2 with
      | .free => (match sc.names.lookup y.1 with | some .cell => true | some .free => true | _ => false)
      | .local => decide (y.1 ∈ own.map (·.1)) || decide (y.1 ∉ N)
      | .cell => decide (y.1 ∈ own.map (·.1)) || decide (y.1 ∉ N)
      | _ => true)
theorem blkOk_by {N : List Str} {sc scope : Scope} {own : List (Str × Nat)} (h : blkC N sc scope own = true) : BlkOk N sc scope own := by
  unfold blkC at h
  simp only [Bool.and_eq_true, List.all_eq_true, decide_eq_true_eq] at h
  obtain ⟨⟨⟨h1, h2⟩, h3⟩, h4⟩ := h
  refine ⟨?_, h2, h3, fun y hy e => ?_, fun y hy e => ?_⟩
  · split at h1
    · assumption
    · cases h1
  · have q := h4 y hy
    simp only [e] at q
    split at q <;> first | exact .inl (by assumption) | exact .inr (by assumption) | cases q
  · have q := h4 y hy
    rcases e with e | e <;> (simp only [e, Bool.or_eq_true, decide_eq_true_eq] at q; exact q)
end L2
namespace L2
open PySem PySem.Spec PyProof.Rows
theorem compTurn2_out (elt t0 i0 t1 i1 : Expr) (ifs0 ifs1 : List Expr) (scope : Scope) (pos : Pos) (it acc : Value) (env : Env) :
    compTurn (.ListComp elt [⟨t0, i0, ifs0, 0⟩, ⟨t1, i1, ifs1, 0⟩] scope pos) 0 it acc env = (do
      standAt i0.pos
      match ← pyNext it with
      | none => pure (.done .next)
      | some v =>
        letOwnedTupleGo t0 it v
        assign t0 env v
        let mut ok := true
        for c in ifs0 do
          if ok then ok ← isTrue c env (eval c env)
        if ok then
          let x ← eval i1 env
          standAt i1.pos
          let x ← foldedSetIterable i1 env x
          let _ ← runOwn (.compStart (.ListComp elt [⟨t0, i0, ifs0, 0⟩, ⟨t1, i1, ifs1, 0⟩] scope pos) 1 (← holding [x] (pyIter x)) acc env) env
        again (.compLoop (.ListComp elt [⟨t0, i0, ifs0, 0⟩, ⟨t1, i1, ifs1, 0⟩] scope pos) 0 it acc env)) := by rfl
theorem compTurn2_in (elt t0 i0 t1 i1 : Expr) (ifs0 ifs1 : List Expr) (scope : Scope) (pos : Pos) (it acc : Value) (env : Env) :
    compTurn (.ListComp elt [⟨t0, i0, ifs0, 0⟩, ⟨t1, i1, ifs1, 0⟩] scope pos) 1 it acc env = (do
      standAt i1.pos
      match ← pyNext it with
      | none => pure (.done .next)
      | some v =>
        letOwnedTupleGo t1 it v
        assign t1 env v
        let mut ok := true
        for c in ifs1 do
          if ok then ok ← isTrue c env (eval c env)
        if ok then
          (do let _ ← call (.builtin "list.append") [acc, ← eval elt env])
        again (.compLoop (.ListComp elt [⟨t0, i0, ifs0, 0⟩, ⟨t1, i1, ifs1, 0⟩] scope pos) 1 it acc env)) := by rfl
section
variable {prog : Program} {w : World} {A : Around} {R : Result → Shared → Prop} {s : Shared} {elt t0 i0 t1 i1 : Expr} {ifs0 ifs1 : List Expr} {scope : Scope} {pos : Pos} {it acc : Value} {env : Env}
/-- the loop of the first clause -/
theorem compLoop2_out (hs : ∀ x, foldedSetIterable i1 env x = pure x) (I : Nat → Shared → Prop)
    (turn : ∀ n s, I n s → wpAny (model prog w) A (pyNext it) (fun r s₁ => match r with
      | none => R (.ok .next) s₁
      | some v => wpAny (model prog w) A (letOwnedTupleGo t0 it v) (fun _ s₁' => wpAny (model prog w) A (assign t0 env v) (fun _ s₂ =>
          wpAny (model prog w) A (forIn ifs0 true fun c r => if r = true then do let ok ← isTrue c env (eval c env); pure (ForInStep.yield ok) else pure (ForInStep.yield r)) (fun ok s₃ =>
            if ok = true then wpAny (model prog w) A (eval i1 env) (fun x s₄ => wpAny (model prog w) A (pyIter x) (fun it1 s₅ =>
              codeAny (model prog w) A (.compStart (.ListComp elt [⟨t0, i0, ifs0, 0⟩, ⟨t1, i1, ifs1, 0⟩] scope pos) 1 it1 acc env) (fun r s' => match r with
                | .ok _ => ∃ m, m < n ∧ I m s'
                | .error _ => False) s₅) (notedBy (model prog w) A env fun e s' => R (.error e) s') s₄) (notedBy (model prog w) A env fun e s' => R (.error e) s') s₃
            else ∃ m, m < n ∧ I m s₃) (notedBy (model prog w) A env fun e s' => R (.error e) s') s₂) (notedBy (model prog w) A env fun e s' => R (.error e) s') s₁') (notedBy (model prog w) A env fun e s' => R (.error e) s') s₁) (notedBy (model prog w) A env fun e s' => R (.error e) s') s)
    (n : Nat) (h : I n s) :
    codeAny (model prog w) A (.compLoop (.ListComp elt [⟨t0, i0, ifs0, 0⟩, ⟨t1, i1, ifs1, 0⟩] scope pos) 0 it acc env) R s := by
  refine codeAny_loop rfl I (fun n s hI => ?_) n h
  show wpAny _ A ((compTurn (.ListComp elt [⟨t0, i0, ifs0, 0⟩, ⟨t1, i1, ifs1, 0⟩] scope pos) 0 it acc env).onRaise (fun x => do noteFrame x env; theTreesLotGoes x)) _ _ s
  refine wpAny_noted ?_
  rw [compTurn2_out]
  refine wpAny_bind (wpAny_standAt (wpAny_bind (wpAny_mono (turn n s hI) (fun r s₁ h₁ => ?_) fun _ _ h' => h')))
  cases r with
  | none => exact wpAny_pure h₁
  | some v =>
    refine wpAny_bind (wpAny_mono h₁ (fun _ s₁' h₁' => ?_) fun _ _ h' => h')
    refine wpAny_bind (wpAny_mono h₁' (fun _ s₂ h₂ => wpAny_bind (wpAny_mono h₂ (fun ok s₃ h₃ => ?_) fun _ _ h' => h')) fun _ _ h' => h')
    cases ok with
    | false => exact wpAny_pure ⟨rfl, h₃⟩
    | true =>
      refine wpAny_bind (wpAny_mono h₃ (fun x s₄ h₄ => ?_) fun _ _ h' => h')
      refine wpAny_bind (wpAny_standAt (wpAny_bind (wpAny_of_eq (hs x) (wpAny_bind (wpAny_holding (wpAny_mono h₄ (fun it1 s₅ h₅ => ?_) fun _ _ h' => h'))))))
      refine wpAny_bind (wpAny_runOwn ?_)
      rw [Around.mark_none]
      refine codeAny_mono h₅ fun r s' hr => ?_
      cases r with
      | ok f =>
        first
          | exact wpAny_pure ⟨rfl, hr⟩
          | exact wpAny_bind (wpAny_pure (wpAny_pure ⟨rfl, hr⟩))
      | error e => exact hr.elim
/-- the loop of the second -/
theorem compLoop2_in (I : Nat → Shared → Prop)
    (turn : ∀ n s, I n s → wpAny (model prog w) A (pyNext it) (fun r s₁ => match r with
      | none => R (.ok .next) s₁
      | some v => wpAny (model prog w) A (letOwnedTupleGo t1 it v) (fun _ s₁' => wpAny (model prog w) A (assign t1 env v) (fun _ s₂ =>
          wpAny (model prog w) A (forIn ifs1 true fun c r => if r = true then do let ok ← isTrue c env (eval c env); pure (ForInStep.yield ok) else pure (ForInStep.yield r)) (fun ok s₃ =>
            if ok = true then wpAny (model prog w) A (eval elt env) (fun x s₄ =>
              wpAny (model prog w) A (call (.builtin "list.append") [acc, x]) (fun _ s₅ => ∃ m, m < n ∧ I m s₅) (notedBy (model prog w) A env fun e s' => R (.error e) s') s₄) (notedBy (model prog w) A env fun e s' => R (.error e) s') s₃
            else ∃ m, m < n ∧ I m s₃) (notedBy (model prog w) A env fun e s' => R (.error e) s') s₂) (notedBy (model prog w) A env fun e s' => R (.error e) s') s₁') (notedBy (model prog w) A env fun e s' => R (.error e) s') s₁) (notedBy (model prog w) A env fun e s' => R (.error e) s') s)
    (n : Nat) (h : I n s) :
    codeAny (model prog w) A (.compLoop (.ListComp elt [⟨t0, i0, ifs0, 0⟩, ⟨t1, i1, ifs1, 0⟩] scope pos) 1 it acc env) R s := by
  refine codeAny_loop rfl I (fun n s hI => ?_) n h
  show wpAny _ A ((compTurn (.ListComp elt [⟨t0, i0, ifs0, 0⟩, ⟨t1, i1, ifs1, 0⟩] scope pos) 1 it acc env).onRaise (fun x => do noteFrame x env; theTreesLotGoes x)) _ _ s
  refine wpAny_noted ?_
  rw [compTurn2_in]
  refine wpAny_bind (wpAny_standAt (wpAny_bind (wpAny_mono (turn n s hI) (fun r s₁ h₁ => ?_) fun _ _ h' => h')))
  cases r with
  | none => exact wpAny_pure h₁
  | some v =>
    refine wpAny_bind (wpAny_mono h₁ (fun _ s₁' h₁' => ?_) fun _ _ h' => h')
    refine wpAny_bind (wpAny_mono h₁' (fun _ s₂ h₂ => wpAny_bind (wpAny_mono h₂ (fun ok s₃ h₃ => ?_) fun _ _ h' => h')) fun _ _ h' => h')
    cases ok with
    | false => exact wpAny_pure ⟨rfl, h₃⟩
    | true =>
      exact wpAny_bind (wpAny_bind (wpAny_mono h₃ (fun x s₄ h₄ => wpAny_bind (wpAny_mono h₄ (fun _ s₅ h₅ => wpAny_pure (wpAny_pure ⟨rfl, h₅⟩)) fun _ _ h' => h')) fun _ _ h' => h'))
/-- the second clause's start -/
theorem compStart1_ok (h0 : codeAny (model prog w) A (.compLoop (.ListComp elt [⟨t0, i0, ifs0, 0⟩, ⟨t1, i1, ifs1, 0⟩] scope pos) 1 it acc env) R s)
    (h : wpAny (model prog w) A (pyIter it) (fun it' s' => codeAny (model prog w) A (.compLoop (.ListComp elt [⟨t0, i0, ifs0, 0⟩, ⟨t1, i1, ifs1, 0⟩] scope pos) 1 it' acc env) R s')
      (notedBy (model prog w) A env fun x s' => R (.error x) s') s) :
    codeAny (model prog w) A (.compStart (.ListComp elt [⟨t0, i0, ifs0, 0⟩, ⟨t1, i1, ifs1, 0⟩] scope pos) 1 it acc env) R s := by
  refine codeAny_of_tree ?_
  show wpAny _ _ ((compStart (.ListComp elt [⟨t0, i0, ifs0, 0⟩, ⟨t1, i1, ifs1, 0⟩] scope pos) 1 it acc env).onRaise (fun x => do noteFrame x env; standAt theWindowsPlace)) _ _ s
  refine wpAny_notedAt ?_
  unfold compStart
  show wpAny _ _ (ask >>= _) _ _ s
  refine wpAny_bind (wpAny_askSetting (wpAny_ite ?_))
  split
  · first
      | exact wpAny_bind (wpAny_pure (wpAny_pure (And.intro rfl h0)))
      | exact wpAny_pure (And.intro rfl h0)
  · first
      | exact wpAny_bind (wpAny_rule (wpAny_bind (wpAny_standAt (wpAny_bind (wpAny_mono h (fun it' s' h' => wpAny_pure (And.intro rfl h')) fun _ _ x => x)))))
      | (refine wpAny_bind (wpAny_rule ?_); show wpAny _ _ (standAt i1.pos >>= _) _ _ s; exact wpAny_bind (wpAny_standAt (wpAny_bind (wpAny_mono h (fun it' s' h' => wpAny_pure (And.intro rfl h')) fun _ _ x => x))))
end
theorem wipe_out {σ : St} {i : Nat} : ∀ {vs : List Nat}, i ∉ vs → (wipe σ vs)[i]? = σ[i]?
  | [], _ => rfl
  | v :: vs, h => by
    have h1 : v ≠ i := fun e => h (by rw [e]; exact List.mem_cons_self)
    have h2 : i ∉ vs := fun m => h (List.mem_cons_of_mem _ m)
    unfold wipe
    rw [List.getElem?_set_ne h1]
    exact wipe_out h2
section
variable {X : Cx}
/-- [elt for tg in iter if .. for tg1 in iter1 if ..]: behind the first clause's store and tests the second source's own loop, from which Nx is reached. vs: the block's names; vs1: those of the second target -/
def tLc2 (wi : TI) (g : TG) (tt : TT) (wi1 : TI) (g1 : TG) (tt1 : TT) (te : TE) (vs vs1 : List Nat) : TE := fun σ H Q => wi σ H fun J H1 => ∀ D, H1 D = none → ∃ W : Nat → Nat → Hp → Prop, (∃ m, W 0 m (upd H1 D (.lst []))) ∧ ∀ i m H, W i m H →
  (J.stop i H ∧ Q (.ref D) H) ∨ (J.go i H ∧ ∃ Nx : Hp → Prop, (∀ H', Nx H' → ∃ m', m' < m ∧ W (i + 1) m' H') ∧ ∀ x H', J.yld i H x H' → g x (wipe σ vs) H' fun σ2 H2 => wipe σ2 vs = wipe σ vs ∧ tt σ2 H2 fun b H3 =>
    if b = true then wi1 σ2 H3 fun J1 H4 => ∃ W1 : Nat → Nat → Hp → Prop, (∃ m, W1 0 m H4) ∧ ∀ j k H, W1 j k H →
      (J1.stop j H ∧ Nx H) ∨ (J1.go j H ∧ ∃ Nx1 : Hp → Prop, (∀ H', Nx1 H' → ∃ k', k' < k ∧ W1 (j + 1) k' H') ∧ ∀ x H', J1.yld j H x H' → g1 x (wipe σ2 vs1) H' fun σ3 H5 => wipe σ3 vs1 = wipe σ2 vs1 ∧ tt1 σ3 H5 fun b H6 =>
        if b = true then te σ3 H6 fun y H7 => ∃ acc, H7 D = some (.lst acc) ∧ acc.length < sizeLine ∧ Nx1 (upd H7 D (.lst (acc ++ [y]))) else Nx1 H6)
    else Nx H3)
theorem lc2_core {pins : List (Addr × Obj)} {s : Shared} {σ : St} {H : Hp} {Q : VK} {elt tg iter tg1 iter1 : Expr} {ifs ifs1 : List Expr} {scope : Scope} {own : List (Str × Nat)} {vs1 : List Nat} {pos pos' : Pos} {wi wi1 : TI} {g g1 : TG} {tt tt1 : TT} {te : TE} {use : Option (Value → Sem Unit)} {Qf : Value → Shared → Prop}
    (hc : X.calm = true) (hN : X.N.Nodup) (I : Inv X pins σ H s) (hi : PI X tg iter wi) (ok : BlkOk X.N X.env.scope scope own) (hv : ∀ i ∈ vs1, i ∈ own.map (·.2))
    (hg : ∀ (s : Shared) (H : Hp) (C : Addr) (cl : List (Str × Addr)) (fp : List Addr), PG (X.blk s H scope (compEnvC scope cl C X.env) fp) tg g) (ht : ∀ (s : Shared) (H : Hp) (C : Addr) (cl : List (Str × Addr)) (fp : List Addr), PTs (X.blk s H scope (compEnvC scope cl C X.env) fp) ifs tt)
    (he : ∀ (s : Shared) (H : Hp) (C : Addr) (cl : List (Str × Addr)) (fp : List Addr), PE (X.blk s H scope (compEnvC scope cl C X.env) fp) elt te) (hs : ∀ x, foldedSetIterable iter X.env x = pure x)
    (hi1 : ∀ (s : Shared) (H : Hp) (C : Addr) (cl : List (Str × Addr)) (fp : List Addr), PI (X.blk s H scope (compEnvC scope cl C X.env) fp) tg1 iter1 wi1)
    (hg1 : ∀ (s : Shared) (H : Hp) (C : Addr) (cl : List (Str × Addr)) (fp : List Addr), PG (X.blk s H scope (compEnvC scope cl C X.env) fp) tg1 g1)
    (ht1 : ∀ (s : Shared) (H : Hp) (C : Addr) (cl : List (Str × Addr)) (fp : List Addr), PTs (X.blk s H scope (compEnvC scope cl C X.env) fp) ifs1 tt1)
    (hs1 : ∀ env x, foldedSetIterable iter1 env x = pure x)
    (h : tLc2 wi g tt wi1 g1 tt1 te (own.map (·.2)) vs1 σ H Q)
    (hRR : ∀ D C s' m H', Inv X pins σ H' s' → Q (.ref D) H' → s'.heap.Ns C m → FpOk X pins H' C → compPost (model X.prog X.w) X.A X.xe use Qf (.ref D) C (.ok .next) s') :
    wpAny (model X.prog X.w) X.A (comprehension (.ListComp elt [⟨tg, iter, ifs, 0⟩, ⟨tg1, iter1, ifs1, 0⟩] scope pos) scope X.env pos' (newList []) false (eval iter X.env) use) Qf X.xe s := by
  have hfree : ∀ y ∈ scope.names, y.2 = .free → ∃ c, X.env.cells.lookup y.1 = some c := fun y hy e => by
    rcases ok.free y hy e with k | k
    · exact I.ok.has _ (.inl k)
    · exact I.ok.has _ (.inr k)
  refine wpAny_comprehension_free (use := use) rfl hs (closure_ok hfree) ok.kind (fun y hy e => by rw [ok.uniq y hy, e])
    (thn (hi pins s σ H _ I h) fun xv s1 hx => thn hx fun itv s2 h2 => ?_)
  obtain ⟨it, fp, tn, J, H2, e, I2, T, st2, f2, q⟩ := h2
  subst e
  refine wpAny_newObj_type (newEnv_comp ?_) (by show 0 ≤ sizeLine; decide)
  generalize hD : s2.heap.objs.size = D
  have hDn : H2 D = none := I2.hok.fresh (Nat.le_of_eq hD)
  obtain ⟨W, ⟨m0, w0⟩, turn⟩ := q D hDn
  -- the new list
  generalize hs3 : ({ s2 with heap := s2.heap.push { cls := .type "list", data := .seq ([] : List Value).toArray } } : Shared) = s3
  have I3 : Inv X pins σ (upd H2 D (.lst [])) s3 := by
    rw [← hs3]
    refine I2.laid (t' := s2.toks) (fun b o e => Heap.get?_push_of_some _ e) (Nat.le_of_eq hD) ⟨Nat.zero_le _, [], 0, .nil, ?_⟩
    rw [← hD]
    exact Heap.get?_push_size _ rfl
  have h3 : s3.heap = s2.heap.push { cls := .type "list", data := .seq ([] : List Value).toArray } := by rw [← hs3]
  have sz : ∀ b ∈ fp, b < s2.heap.objs.size := fun b hb => by
    obtain ⟨o, e, _⟩ := T.obj _ _ st2 b hb
    exact Heap.lt_size e
  have f3 : ∀ b ∈ fp, FpOk X pins (upd H2 D (.lst [])) b ∧ b < s3.heap.objs.size := fun b hb => by
    have hlt := sz b hb
    refine ⟨⟨?_, (f2 b hb).2⟩, by rw [h3, Heap.size_push]; exact Nat.lt_succ_of_lt hlt⟩
    rw [upd_ne (by rw [← hD]; exact Nat.ne_of_lt hlt)]
    exact (f2 b hb).1
  have st3 : tn 0 s3.heap := T.keep _ _ _ st2 fun b _ o e => by rw [h3]; exact Heap.get?_push_of_some _ e
  have I4 := block_start I3 ok hN f3
  have pg := hg s3 (upd H2 D (.lst [])) s3.heap.objs.size (cellsFrom (s3.heap.objs.size + 1) scope.names (cloFrom X.env.cells scope.names [])) fp
  have pt := ht s3 (upd H2 D (.lst [])) s3.heap.objs.size (cellsFrom (s3.heap.objs.size + 1) scope.names (cloFrom X.env.cells scope.names [])) fp
  have pe := he s3 (upd H2 D (.lst [])) s3.heap.objs.size (cellsFrom (s3.heap.objs.size + 1) scope.names (cloFrom X.env.cells scope.names [])) fp
  have pi1 := hi1 s3 (upd H2 D (.lst [])) s3.heap.objs.size (cellsFrom (s3.heap.objs.size + 1) scope.names (cloFrom X.env.cells scope.names [])) fp
  have pg1 := hg1 s3 (upd H2 D (.lst [])) s3.heap.objs.size (cellsFrom (s3.heap.objs.size + 1) scope.names (cloFrom X.env.cells scope.names [])) fp
  have pt1 := ht1 s3 (upd H2 D (.lst [])) s3.heap.objs.size (cellsFrom (s3.heap.objs.size + 1) scope.names (cloFrom X.env.cells scope.names [])) fp
  show codeAny _ _ (.compStart (.ListComp elt [⟨tg, iter, ifs, 0⟩, ⟨tg1, iter1, ifs1, 0⟩] scope pos) 0 (.ref it) (.ref D) (compEnvC scope (cellsFrom (s3.heap.objs.size + 1) scope.names (cloFrom X.env.cells scope.names [])) s3.heap.objs.size X.env)) (compPost (model X.prog X.w) X.A X.xe use Qf (.ref D) s3.heap.objs.size) { s3 with heap := pushCells (s3.heap.push { cls := .type "dict", data := .dict #[] }) scope.names }
  have nfp : ∀ b ∈ fp, (upd H2 D (.lst [])) b = none := fun b hb => (f3 b hb).1.1
  generalize hce : compEnvC scope (cellsFrom (s3.heap.objs.size + 1) scope.names (cloFrom X.env.cells scope.names [])) s3.heap.objs.size X.env = ce at I4 pg pt pe pi1 pg1 pt1 ⊢
  have cL : ce.locals = s3.heap.objs.size := by subst hce; rfl
  generalize hH3 : upd H2 D (.lst []) = H3 at I3 I4 pg pt pe pi1 pg1 pt1 w0 nfp f3
  generalize hs4 : ({ s3 with heap := pushCells (s3.heap.push { cls := .type "dict", data := .dict #[] }) scope.names } : Shared) = s4 at I4 ⊢
  have st4 : tn 0 s4.heap := T.keep _ _ _ st3 fun b _ o e => by rw [← hs4]; exact pushCells_keeps _ _ _ _ (Heap.get?_push_of_some _ e)
  have stat : ∀ {σ' : St} {H' : Hp} {s' : Shared}, Inv (X.blk s3 H3 scope ce fp) [] σ' H' s' → (∀ b ∈ fp, H' b = none) → ∀ b ∈ fp, FpOk (X.blk s3 H3 scope ce fp) [] H' b := fun {σ' H' s'} I' hn b hb =>
    ⟨hn b hb, (I'.ok.exf b hb).1, I'.ok.exfs b hb, .inl hb, fun x c e => (I'.ok.exf b hb).2 x c e, fun p hp => absurd (show p ∈ ([] : List (Addr × Obj)) ++ [] from hp) (by simp)⟩
  have loop : codeAny (model X.prog X.w) X.A (.compLoop (.ListComp elt [⟨tg, iter, ifs, 0⟩, ⟨tg1, iter1, ifs1, 0⟩] scope pos) 0 (.ref it) (.ref D) ce) (compPost (model X.prog X.w) X.A X.xe use Qf (.ref D) s3.heap.objs.size) s4 := by
    refine compLoop2_out (hs1 ce) (fun n s' => ∃ i H', Inv (X.blk s3 H3 scope ce fp) [] (wipe σ (own.map (·.2))) H' s' ∧ tn i s'.heap ∧ (∀ b ∈ fp, H' b = none) ∧ W i n H') ?_ m0 ⟨0, H3, I4, st4, nfp, w0⟩
    rintro n s5 ⟨i, H5, I5, st5, n5, w5⟩
    rcases turn i n H5 w5 with ⟨stop, qq⟩ | ⟨go, Nx, hNx, step⟩
    · have td := T.done (X.blk s3 H3 scope ce fp) rfl rfl rfl hc i [] s5 _ H5 (fun _ _ => False) I5 (stat I5 n5) st5 stop
      refine thnF td fun r s6 ⟨hr, I6⟩ => ?_
      subst hr
      -- back in the def's context
      have I7 : Inv X pins σ H5 s6 := I3.call' (ch := fp) I6.os I6.base I6.hok I6.bare fun b hb => ⟨(f3 b hb).1.2.2.2.1, (f3 b hb).1.2.1, (f3 b hb).1.2.2.2.2.1, (f3 b hb).1.2.2.2.2.2⟩
      have nC : H5 s3.heap.objs.size = none := by
        have z : H5 ce.locals = none := I6.free
        rw [cL] at z
        exact z
      obtain ⟨m, hn, _⟩ := I6.loc
      have hn : s6.heap.Ns ce.locals m := hn
      rw [cL] at hn
      exact hRR D s3.heap.objs.size s6 m H5 I7 qq hn (I3.fpOk (Nat.le_refl _) nC)
    · have ti := T.item (X.blk s3 H3 scope ce fp) rfl rfl rfl hc i [] s5 _ H5 (fun _ _ => False) I5 (stat I5 n5) st5 go
      refine thnF ti fun r s6 ⟨u, hr, h6⟩ => ?_
      subst hr
      refine thnF h6 fun _ s7 ⟨x, H7, I7, r7, y7, st7, n7⟩ => ?_
      have I7' := I7.pinned (stat I7 n7) (T.obj _ _ st7)
      refine thnF (pg _ s7 _ H7 x u _ I7' r7 (step x H7 y7)) fun _ s8 ⟨σ8, H8, I8, hw8, q8⟩ => ?_
      refine thnF (pt _ s8 σ8 H8 _ I8 q8) fun b s9 ⟨H9, I9, q9⟩ => ?_
      -- the turn's end, from any slots that know what the block knew at its start
      have fin : ∀ {σ9 : St} {s' : Shared} {H' : Hp}, Inv (X.blk s3 H3 scope ce fp) ([] ++ pinsAt fp s7.heap) σ9 H' s' → (wipe σ (own.map (·.2))).length = σ9.length → (∀ (j : Nat) v, (wipe σ (own.map (·.2)))[j]? = some (some v) → σ9[j]? = some (some v)) → Nx H' →
          ∃ m, m < n ∧ ∃ i H', Inv (X.blk s3 H3 scope ce fp) [] (wipe σ (own.map (·.2))) H' s' ∧ tn i s'.heap ∧ (∀ b ∈ fp, H' b = none) ∧ W i m H' := fun {σ9 s' H'} I' hl hk nx => by
        obtain ⟨m', hm, w'⟩ := hNx H' nx
        have pin' : ∀ b ∈ fp, ∀ o, s7.heap.get? b = some o → s'.heap.get? b = some o ∧ H' b = none := fun b hb o e =>
          let z := I'.pin (b, o) (List.mem_append_right _ (List.mem_append_right _ (mem_pinsAt hb e)))
          ⟨z.1, z.2.1⟩
        refine ⟨m', hm, i + 1, H', (I'.unpinned (pins := [])).weak hl hk, T.keep _ _ _ st7 fun b hb o e => (pin' b hb o e).1, fun b hb => ?_, w'⟩
        obtain ⟨o, e, _⟩ := T.obj _ _ st7 b hb
        exact (pin' b hb o e).2
      have hl8 : (wipe σ (own.map (·.2))).length = σ8.length := by rw [← hw8, wipe_length]
      have hk8 : ∀ (j : Nat) v, (wipe σ (own.map (·.2)))[j]? = some (some v) → σ8[j]? = some (some v) := fun j v e => by
        rw [← hw8] at e
        exact (wipe_some e).1
      have hk9 : ∀ (j : Nat) v, (wipe σ (own.map (·.2)))[j]? = some (some v) → (wipe σ8 vs1)[j]? = some (some v) := fun j v e => by
        rw [← hw8] at e
        obtain ⟨e1, e2⟩ := wipe_some e
        rw [wipe_out fun z => e2 (hv j z)]
        exact e1
      cases b with
      | false =>
        simp only [Bool.false_eq_true, if_false] at q9 ⊢
        exact fin I9 hl8 hk8 q9
      | true =>
        simp only [if_true] at q9 ⊢
        refine thnF (pi1 _ s9 σ8 H9 _ I9 q9) fun xv s10 hx => thnF hx fun itv s11 h11 => ?_
        obtain ⟨it1, fp1, tn1, J1, H11, e1, I11, T1, st11, f11, W1, ⟨m1, w1⟩, turn1⟩ := h11
        subst e1
        -- the inner loop
        have stat1 : ∀ {H' : Hp}, (∀ b ∈ fp1, H' b = none) → ∀ b ∈ fp1, FpOk (X.blk s3 H3 scope ce fp) ([] ++ pinsAt fp s7.heap) H' b := fun hn b hb => ⟨hn b hb, (f11 b hb).2⟩
        have loop1 : codeAny (model X.prog X.w) X.A (.compLoop (.ListComp elt [⟨tg, iter, ifs, 0⟩, ⟨tg1, iter1, ifs1, 0⟩] scope pos) 1 (.ref it1) (.ref D) ce)
            (fun r s' => match r with
              | .ok _ => ∃ m, m < n ∧ ∃ i H', Inv (X.blk s3 H3 scope ce fp) [] (wipe σ (own.map (·.2))) H' s' ∧ tn i s'.heap ∧ (∀ b ∈ fp, H' b = none) ∧ W i m H'
              | .error _ => False) s11 := by
          refine compLoop2_in (fun k s' => ∃ j H', Inv (X.blk s3 H3 scope ce fp) ([] ++ pinsAt fp s7.heap) (wipe σ8 vs1) H' s' ∧ tn1 j s'.heap ∧ (∀ b ∈ fp1, H' b = none) ∧ W1 j k H') ?_ m1 ⟨0, H11, I11.weak (wipe_length _ _) (fun j v e => (wipe_some e).1), st11, fun b hb => (f11 b hb).1, w1⟩
          rintro k s12 ⟨j, H12, I12, st12, n12, w12⟩
          rcases turn1 j k H12 w12 with ⟨stop1, nx1⟩ | ⟨go1, Nx1, hNx1, step1⟩
          · refine thnF (T1.done (X.blk s3 H3 scope ce fp) rfl rfl rfl hc j _ s12 (wipe σ8 vs1) H12 (fun _ _ => False) I12 (stat1 n12) st12 stop1) fun r s13 ⟨hr, I13⟩ => ?_
            subst hr
            exact fin I13 (hl8.trans (wipe_length σ8 vs1).symm) hk9 nx1
          · refine thnF (T1.item (X.blk s3 H3 scope ce fp) rfl rfl rfl hc j _ s12 (wipe σ8 vs1) H12 (fun _ _ => False) I12 (stat1 n12) st12 go1) fun r s13 ⟨u1, hr, h13⟩ => ?_
            subst hr
            refine thnF h13 fun _ s14 ⟨x1, H14, I14, r14, y14, st14, n14⟩ => ?_
            have I14' := I14.pinned (stat1 n14) (T1.obj _ _ st14)
            refine thnF (pg1 _ s14 (wipe σ8 vs1) H14 x1 u1 _ I14' r14 (step1 x1 H14 y14)) fun _ s15 ⟨σ15, H15, I15, hw15, q15⟩ => ?_
            refine thnF (pt1 _ s15 σ15 H15 _ I15 q15) fun b1 s16 ⟨H16, I16, q16⟩ => ?_
            have fin1 : ∀ {s' : Shared} {H' : Hp}, Inv (X.blk s3 H3 scope ce fp) (([] ++ pinsAt fp s7.heap) ++ pinsAt fp1 s14.heap) σ15 H' s' → Nx1 H' → ∃ m, m < k ∧ ∃ j H', Inv (X.blk s3 H3 scope ce fp) ([] ++ pinsAt fp s7.heap) (wipe σ8 vs1) H' s' ∧ tn1 j s'.heap ∧ (∀ b ∈ fp1, H' b = none) ∧ W1 j m H' := fun {s' H'} I' nx => by
              obtain ⟨m', hm, w'⟩ := hNx1 H' nx
              have pin' : ∀ b ∈ fp1, ∀ o, s14.heap.get? b = some o → s'.heap.get? b = some o ∧ H' b = none := fun b hb o e =>
                let z := I'.pin (b, o) (List.mem_append_right _ (List.mem_append_right _ (mem_pinsAt hb e)))
                ⟨z.1, z.2.1⟩
              refine ⟨m', hm, j + 1, H', I'.unpinned.weak (by rw [← hw15, wipe_length]) (fun j v e => by rw [← hw15] at e; exact (wipe_some e).1), T1.keep _ _ _ st14 fun b hb o e => (pin' b hb o e).1, fun b hb => ?_, w'⟩
              obtain ⟨o, e, _⟩ := T1.obj _ _ st14 b hb
              exact (pin' b hb o e).2
            cases b1 with
            | false =>
              simp only [Bool.false_eq_true, if_false] at q16 ⊢
              exact fin1 I16 q16
            | true =>
              simp only [if_true] at q16 ⊢
              refine thnF (pe _ s16 σ15 H16 _ I16 q16) fun z s17 ⟨yv, H17, I17, r17, acc, hD17, hz17, nx⟩ => ?_
              exact app_ok (X := X.blk s3 H3 scope ce fp) I17 hD17 hz17 r17 fun s18 I18 => fin1 I18 nx
        exact compStart1_ok loop1 (T1.self X.A 0 _ _ _ st11 loop1)
  exact codeAny_compStart_list loop (T.self X.A 0 _ _ _ st4 loop)
theorem ps_setLc2 {i : Nat} {y : Str} {py : Pos} {elt tg iter tg1 iter1 : Expr} {ifs ifs1 : List Expr} {scope : Scope} {own : List (Str × Nat)} {vs1 : List Nat} {pos spos : Pos} {wi wi1 : TI} {g g1 : TG} {tt tt1 : TT} {te : TE} (hc : X.calm = true) (hN : X.N.Nodup) (hy : X.N[i]? = some y) (hyl : X.env.scope.names.lookup y = some .local)
    (hsw : swapsWith (.ListComp elt [⟨tg, iter, ifs, 0⟩, ⟨tg1, iter1, ifs1, 0⟩] scope pos) (some (.Name y py)) spos.line X.env = pure true) (hi : PI X tg iter wi) (ok : BlkOk X.N X.env.scope scope own) (hv : ∀ i ∈ vs1, i ∈ own.map (·.2))
    (hg : ∀ (s : Shared) (H : Hp) (C : Addr) (cl : List (Str × Addr)) (fp : List Addr), PG (X.blk s H scope (compEnvC scope cl C X.env) fp) tg g) (ht : ∀ (s : Shared) (H : Hp) (C : Addr) (cl : List (Str × Addr)) (fp : List Addr), PTs (X.blk s H scope (compEnvC scope cl C X.env) fp) ifs tt)
    (hi1 : ∀ (s : Shared) (H : Hp) (C : Addr) (cl : List (Str × Addr)) (fp : List Addr), PI (X.blk s H scope (compEnvC scope cl C X.env) fp) tg1 iter1 wi1)
    (hg1 : ∀ (s : Shared) (H : Hp) (C : Addr) (cl : List (Str × Addr)) (fp : List Addr), PG (X.blk s H scope (compEnvC scope cl C X.env) fp) tg1 g1) (ht1 : ∀ (s : Shared) (H : Hp) (C : Addr) (cl : List (Str × Addr)) (fp : List Addr), PTs (X.blk s H scope (compEnvC scope cl C X.env) fp) ifs1 tt1)
    (he : ∀ (s : Shared) (H : Hp) (C : Addr) (cl : List (Str × Addr)) (fp : List Addr), PE (X.blk s H scope (compEnvC scope cl C X.env) fp) elt te) (hs : ∀ x, foldedSetIterable iter X.env x = pure x := by intro _; rfl) (hs1 : ∀ env x, foldedSetIterable iter1 env x = pure x := by intro _ _; rfl) :
    PS X (.Assign [.Name y py] (.ListComp elt [⟨tg, iter, ifs, 0⟩, ⟨tg1, iter1, ifs1, 0⟩] scope pos) spos) (tAsg (tLc2 wi g tt wi1 g1 tt1 te (own.map (·.2)) vs1) (gName i)) := by
  intro pins s σ H D I h
  rw [exec_Assign_Name_used _ _ _ _ hsw]
  refine wpAny_bind (wpAny_standAt (wpAny_bind ?_))
  show wpAny _ X.A (do let _ ← comprehension (.ListComp elt [⟨tg, iter, ifs, 0⟩, ⟨tg1, iter1, ifs1, 0⟩] scope pos) scope X.env (firstIterPos [⟨tg, iter, ifs, 0⟩, ⟨tg1, iter1, ifs1, 0⟩] pos) (newList []) false (eval iter X.env) (some (assign (.Name y py) X.env))) _ _ s
  have h : tLc2 wi g tt wi1 g1 tt1 te (own.map (·.2)) vs1 σ H (fun x H1 => gName i x σ H1 D.nx) := h
  refine wpAny_bind (thn (lc2_core (Qf := fun _ s' => SP X pins D .next s') hc hN I hi ok hv hg ht he hs hi1 hg1 ht1 hs1 h fun L C s' m H' I' q hn f => ?_) fun _ s' hq => wpAny_pure (wpAny_pure hq))
  show wpAny _ _ (assign (.Name y py) X.env (.ref L)) _ _ _
  refine wpAny_assign_Name (store_ok2 (v := V.ref L) I' hN hy (.inl hyl) rfl (fun s2 I2 ⟨a, sb, ha⟩ => ?_) (.inr hyl))
  obtain ⟨f0, f1, f2, f3, f4, f5⟩ := f
  have haC : C ≠ a := by
    rcases ha with z | z
    · rw [z]; exact f1
    · exact fun e => f4 y a z e.symm
  refine ⟨m, hn.sameBut sb haC, fun h3 sb3 => ?_⟩
  exact ⟨_, H', I2.turned (t' := s2.toks) (fun b o hb e => (sb3.2 b hb).trans e) f0 f1 f3 f4 f5, q⟩
end
end L2
namespace L2
open PySem PySem.Spec PyProof.Rows
section
variable {κ : Type} [DecidableEq κ]
def valV (kvs : List (κ × V)) (k : κ) : Option V := (kvs.find? fun kv => decide (kv.1 = k)).map (·.2)
/-- in its place, or at the end -/
def putK (kvs : List (κ × V)) (k : κ) (v : V) : List (κ × V) :=
  if (kvs.any fun kv => decide (kv.1 = k)) = true then kvs.map (fun kv => if kv.1 = k then (kv.1, v) else kv) else kvs ++ [(k, v)]
def dropK (kvs : List (κ × V)) (k : κ) : List (κ × V) := kvs.filter fun kv => decide (kv.1 ≠ k)
theorem valV_pos {p : κ × V} {r : List (κ × V)} {k : κ} (e : p.1 = k) : valV (p :: r) k = some p.2 := by simp [valV, List.find?_cons, e]
theorem valV_neg {p : κ × V} {r : List (κ × V)} {k : κ} (e : ¬ p.1 = k) : valV (p :: r) k = valV r k := by simp [valV, List.find?_cons, e]
theorem valV_any (k : κ) : ∀ kvs : List (κ × V), (kvs.any fun kv => decide (kv.1 = k)) = (valV kvs k).isSome
  | [] => rfl
  | p :: r => by
    rw [List.any_cons]
    by_cases e : p.1 = k
    · simp only [valV_pos e, decide_eq_true e, Bool.true_or, Option.isSome_some]
    · rw [valV_neg e, decide_eq_false e, Bool.false_or]; exact valV_any k r
theorem valV_map (k j : κ) (y : V) : ∀ kvs : List (κ × V), valV (kvs.map fun kv => if kv.1 = k then (kv.1, y) else kv) j = (valV kvs j).map fun x => if j = k then y else x
  | [] => rfl
  | p :: r => by
    have ih := valV_map k j y r
    rw [List.map_cons]
    by_cases h : p.1 = k
    · rw [if_pos h]
      by_cases e : p.1 = j
      · rw [valV_pos (p := (p.1, y)) e, valV_pos e, Option.map_some, if_pos (e.symm.trans h)]
      · rw [valV_neg (p := (p.1, y)) e, valV_neg e, ih]
    · rw [if_neg h]
      by_cases e : p.1 = j
      · rw [valV_pos (p := p) e, valV_pos e, Option.map_some, if_neg (fun z => h (e.trans z))]
      · rw [valV_neg (p := p) e, valV_neg e, ih]
theorem valV_snoc (k j : κ) (y : V) : ∀ kvs : List (κ × V), valV kvs k = none → valV (kvs ++ [(k, y)]) j = if j = k then some y else valV kvs j
  | [], _ => by
    by_cases e : k = j
    · rw [if_pos e.symm]; exact valV_pos (p := (k, y)) e
    · rw [if_neg (fun z => e z.symm)]; exact valV_neg (p := (k, y)) e
  | p :: r, hn => by
    rw [List.cons_append]
    have hk : ¬ p.1 = k := fun z => by rw [valV_pos z] at hn; cases hn
    rw [valV_neg hk] at hn
    have ih := valV_snoc k j y r hn
    by_cases e : p.1 = j
    · rw [valV_pos e, valV_pos e, if_neg (fun z => hk (e.trans z))]
    · rw [valV_neg e, valV_neg e, ih]
theorem valV_put (kvs : List (κ × V)) (k j : κ) (y : V) : valV (putK kvs k y) j = if j = k then some y else valV kvs j := by
  unfold putK
  by_cases a : (kvs.any fun kv => decide (kv.1 = k)) = true
  · rw [if_pos a, valV_map]
    rw [valV_any] at a
    by_cases e : j = k
    · obtain ⟨x, hx⟩ := Option.isSome_iff_exists.mp a
      rw [if_pos e, e, hx, Option.map_some, if_pos rfl]
    · rw [if_neg e]
      cases valV kvs j with
      | none => rfl
      | some x => rw [Option.map_some, if_neg e]
  · rw [if_neg a]
    refine valV_snoc k j y kvs ?_
    rw [valV_any] at a
    cases q : valV kvs k with
    | none => rfl
    | some x => rw [q] at a; exact (a rfl).elim
theorem length_putK (kvs : List (κ × V)) (k : κ) (v : V) : (putK kvs k v).length ≤ kvs.length + 1 := by
  unfold putK
  split
  · rw [List.length_map]; omega
  · rw [List.length_append, List.length_cons, List.length_nil]; omega
theorem RelO.isSome_eq {o : Option V} {u : Option Value} (r : RelO o u) : o.isSome = u.isSome := by
  cases o with
  | none => cases u with
    | none => rfl
    | some _ => exact (show False from r).elim
  | some _ => cases u with
    | none => exact (show False from r).elim
    | some _ => rfl
theorem RelO.getD {o : Option V} {u : Option Value} {d : V} {d' : Value} (r : RelO o u) (rd : RelV d d') : RelV (o.getD d) (u.getD d') := by
  cases o with
  | none => cases u with
    | none => exact rd
    | some _ => exact (show False from r).elim
  | some _ => cases u with
    | none => exact (show False from r).elim
    | some _ => exact r
/-- raw tables of the same keys -/
theorem KV.val {kvs : List (κ × V)} {vs : List (κ × Value)} (r : KV kvs vs) (k : κ) : RelO (valV kvs k) (valueAt vs k) := by
  unfold KV at r
  induction r with
  | nil => exact True.intro
  | @cons p q ps qs h t ih =>
    obtain ⟨h1, h2⟩ := h
    by_cases e : p.1 = k
    · have e' : q.1 = k := h1.symm.trans e
      have b : valueAt (q :: qs) k = some q.2 := by simp [valueAt, List.find?_cons, e']
      rw [valV_pos e, b]; exact h2
    · have e' : ¬ q.1 = k := fun z => e (h1.trans z)
      have b : valueAt (q :: qs) k = valueAt qs k := by simp [valueAt, List.find?_cons, e']
      rw [valV_neg e, b]; exact ih
theorem KV.any {kvs : List (κ × V)} {vs : List (κ × Value)} (r : KV kvs vs) (k : κ) : (kvs.any fun kv => decide (kv.1 = k)) = vs.any fun kv => decide (kv.1 = k) := by
  unfold KV at r
  induction r with
  | nil => rfl
  | cons h t ih => rw [List.any_cons, List.any_cons, ih, h.1]
theorem KV.repl {kvs : List (κ × V)} {vs : List (κ × Value)} (r : KV kvs vs) (k : κ) {y : V} {u : Value} (ry : RelV y u) :
    KV (kvs.map fun kv => if kv.1 = k then (kv.1, y) else kv) (vs.map fun kv => if kv.1 = k then (kv.1, u) else kv) := by
  unfold KV at r ⊢
  induction r with
  | nil => exact .nil
  | @cons p q ps qs h t ih =>
    rw [List.map_cons, List.map_cons]
    refine .cons ?_ ih
    obtain ⟨h1, h2⟩ := h
    by_cases e : p.1 = k
    · rw [if_pos e, if_pos (h1.symm.trans e)]; exact ⟨h1, ry⟩
    · rw [if_neg e, if_neg (fun z => e (h1.trans z))]; exact ⟨h1, h2⟩
theorem KV.put {kvs : List (κ × V)} {vs : List (κ × Value)} (r : KV kvs vs) (k : κ) {y : V} {u : Value} (ry : RelV y u) : KV (putK kvs k y) (stored vs k u) := by
  unfold putK stored
  rw [r.any k]
  by_cases e : (vs.any fun kv => decide (kv.1 = k)) = true
  · rw [if_pos e, if_pos e]; exact r.repl k ry
  · rw [if_neg e, if_neg e]; exact Paired.snoc r ⟨rfl, ry⟩
theorem KV.drop {kvs : List (κ × V)} {vs : List (κ × Value)} (r : KV kvs vs) (k : κ) : KV (dropK kvs k) (without vs k) := by
  unfold KV at r ⊢
  unfold dropK without
  induction r with
  | nil => exact .nil
  | @cons p q ps qs h t ih =>
    obtain ⟨h1, h2⟩ := h
    rw [List.filter_cons, List.filter_cons]
    by_cases e : p.1 = k
    · have a : ¬ decide (p.1 ≠ k) = true := by simp [e]
      have b : ¬ decide (q.1 ≠ k) = true := by simp [h1.symm.trans e]
      rw [if_neg a, if_neg b]; exact ih
    · have e' : ¬ q.1 = k := fun z => e (h1.trans z)
      have a : decide (p.1 ≠ k) = true := by simp [e]
      have b : decide (q.1 ≠ k) = true := by simp [e']
      rw [if_pos a, if_pos b]; exact .cons ⟨h1, h2⟩ ih
theorem KV.keys {kvs : List (κ × V)} {vs : List (κ × Value)} (r : KV kvs vs) : kvs.map (·.1) = vs.map (·.1) := by
  unfold KV at r
  induction r with
  | nil => rfl
  | cons h t ih => rw [List.map_cons, List.map_cons, ih, h.1]
theorem KV.length {kvs : List (κ × V)} {vs : List (κ × Value)} (r : KV kvs vs) : kvs.length = vs.length := Paired.length r
end
theorem kV_is {P : Program} {w : World} {k : Key} {u : Value} (r : RelV (kV k) u) : (mixKind P w).is k u = true := by
  cases k with
  | inl i => obtain ⟨t, e⟩ := (show ∃ t, u = Value.int i t from r); subst e; exact mixKind_int P w i t
  | inr x => obtain ⟨t, e⟩ := (show ∃ t, u = Value.str x t from r); subst e; exact mixKind_str P w x t
theorem items_are {P : Program} {w : World} : ∀ {ks : List Key} {us : List Value}, Vals (ks.map kV) us → ItemsAre (mixKind P w) ks us
  | [], _, r => by rw [List.map_nil] at r; cases r; exact .nil
  | k :: ks, _, r => by
    rw [List.map_cons] at r
    cases r with
    | cons h t => exact .cons (kV_is h) (items_are t)
/-- raw entries of a dict with tuple keys -/
abbrev KT (H : Hp) : List (List Key × V) → List (List Key × Addr × Value) → Prop := Paired fun p q => p.1 = q.1 ∧ H q.2.1 = some (.tup (p.1.map kV)) ∧ RelV p.2 q.2.2
theorem KT.val {H : Hp} {kvs : List (List Key × V)} {xs : List (List Key × Addr × Value)} (r : KT H kvs xs) (k : List Key) : RelO (valV kvs k) ((atKey xs k).map (·.2)) := by
  induction r with
  | nil => exact True.intro
  | @cons p q ps qs h t ih =>
    obtain ⟨h1, _, h2⟩ := h
    by_cases e : p.1 = k
    · have e' : q.1 = k := h1.symm.trans e
      have b : atKey (q :: qs) k = some q.2 := by simp [atKey, List.find?_cons, e']
      rw [valV_pos e, b]; exact h2
    · have e' : ¬ q.1 = k := fun z => e (h1.trans z)
      have b : atKey (q :: qs) k = atKey qs k := by simp [atKey, List.find?_cons, e']
      rw [valV_neg e, b]; exact ih
theorem KT.repl {H : Hp} {kvs : List (List Key × V)} {xs : List (List Key × Addr × Value)} (r : KT H kvs xs) (k : List Key) {y : V} {u : Value} (ry : RelV y u) :
    KT H (kvs.map fun kv => if kv.1 = k then (kv.1, y) else kv) (xs.map (putAt k u)) := by
  induction r with
  | nil => exact .nil
  | @cons p q ps qs h t ih =>
    rw [List.map_cons, List.map_cons]
    refine .cons ?_ ih
    obtain ⟨h1, h2, h3⟩ := h
    unfold putAt
    by_cases e : p.1 = k
    · rw [if_pos e, if_pos (h1.symm.trans e)]; exact ⟨h1, h2, ry⟩
    · rw [if_neg e, if_neg (fun z => e (h1.trans z))]; exact ⟨h1, h2, h3⟩
theorem KT.put {H : Hp} {kvs : List (List Key × V)} {xs : List (List Key × Addr × Value)} (r : KT H kvs xs) (k : List Key) {b : Addr} {y : V} {u : Value} (hb : H b = some (.tup (k.map kV))) (ry : RelV y u) :
    KT H (putK kvs k y) (storedH xs k b u) := by
  have e : (kvs.any fun kv => decide (kv.1 = k)) = (atKey xs k).isSome := by
    rw [valV_any, (r.val k).isSome_eq, Option.isSome_map]
  unfold putK storedH
  rw [e]
  by_cases q : (atKey xs k).isSome = true
  · rw [if_pos q, if_pos q]; exact r.repl k ry
  · rw [if_neg q, if_neg q]; exact Paired.snoc r ⟨rfl, hb, ry⟩
theorem KT.keeps {H H' : Hp} {kvs : List (List Key × V)} {xs : List (List Key × Addr × Value)} (r : KT H kvs xs) (ht : ∀ b ys, H b = some (.tup ys) → H' b = some (.tup ys)) : KT H' kvs xs :=
  Paired.mapP r fun _ _ z => ⟨z.1, ht _ _ z.2.1, z.2.2⟩
section
variable {P : Program} {w : World} {H : Hp} {h : Heap} {a : Addr}
theorem rd_of {u : HO} (ok : HOk P w H h) (e : Rd H a u) : ObjOk P w H h a u := e.ok ok
theorem dk_rd {kvs : List (Key × V)} (ok : HOk P w H h) (e : Rd H a (.dK kvs)) : kvs.length ≤ sizeLine ∧ (a == sysModules) = false ∧ ∃ vs, KV kvs vs ∧ h.DictOf (mixKind P w) a vs :=
  show ObjOk P w H h a (.dK kvs) from rd_of ok e
theorem dk_of {kvs : List (Key × V)} (ok : HOk P w H h) (e : H a = some (.dK kvs)) : kvs.length ≤ sizeLine ∧ (a == sysModules) = false ∧ ∃ vs, KV kvs vs ∧ h.DictOf (mixKind P w) a vs := dk_rd ok (.inl e)
/-- a tracked tuple of ints and texts is a key -/
theorem key_of {ks : List Key} (ok : HOk P w H h) (e : H a = some (.tup (ks.map kV))) : (tupleKind (mixKind P w)).is h ks a := by
  obtain ⟨_, its, r, o, h1, h2, n, h3⟩ := (show ObjOk P w H h a (.tup (ks.map kV)) from ok a _ e)
  exact ⟨o, its.toArray, n, h1, h2, h3, by simpa using items_are r⟩
theorem dt_rd {kvs : List (List Key × V)} (ok : HOk P w H h) (e : Rd H a (.dT kvs)) : kvs.length ≤ sizeLine ∧ (a == sysModules) = false ∧
    ∃ xs, KT H kvs xs ∧ h.DictOfH (tupleKind (mixKind P w)) a xs := by
  obtain ⟨z, y, xs, r, o, es, ep, h1, h2, h3, h4, h5⟩ := (show ObjOk P w H h a (.dT kvs) from rd_of ok e)
  refine ⟨z, y, xs, r, o, es, ep, h1, h2, h3, h4, fun x hx => ?_, h5⟩
  have all : ∀ {l : List (List Key × V)} {m : List (List Key × Addr × Value)}, KT H l m → ∀ x ∈ m, (tupleKind (mixKind P w)).is h x.1 x.2.1 := by
    intro l m q
    induction q with
    | nil => intro x hx; exact nomatch hx
    | @cons p q ps qs hq t ih =>
      intro x hx
      rcases List.mem_cons.mp hx with e | hx
      · subst e
        exact key_of ok (by rw [← hq.1]; exact hq.2.1)
      · exact ih x hx
  exact all r x hx
theorem dt_of {kvs : List (List Key × V)} (ok : HOk P w H h) (e : H a = some (.dT kvs)) : kvs.length ≤ sizeLine ∧ (a == sysModules) = false ∧
    ∃ xs, KT H kvs xs ∧ h.DictOfH (tupleKind (mixKind P w)) a xs := dt_rd ok (.inl e)
end
/-- what the dict at a holds at the key y -/
def DGet (H : Hp) (a : Addr) (y : V) (r : Option V) : Prop :=
  (∃ kvs k, Rd H a (.dK kvs) ∧ y = kV k ∧ r = valV kvs k) ∨ ∃ kvs k b, Rd H a (.dT kvs) ∧ y = .ref b ∧ H b = some (.tup (k.map kV)) ∧ r = valV kvs k
/-- the heap behind a[y] = v -/
def DPut (H : Hp) (a : Addr) (y v : V) (H' : Hp) : Prop :=
  (∃ kvs k, H a = some (.dK kvs) ∧ y = kV k ∧ kvs.length < sizeLine ∧ H' = upd H a (.dK (putK kvs k v))) ∨
  ∃ kvs k b, H a = some (.dT kvs) ∧ y = .ref b ∧ H b = some (.tup (k.map kV)) ∧ kvs.length < sizeLine ∧ H' = upd H a (.dT (putK kvs k v))
theorem DGet.k {H : Hp} {a : Addr} {kvs : List (Key × V)} {k : Key} (e : H a = some (.dK kvs)) : DGet H a (kV k) (valV kvs k) := .inl ⟨kvs, k, .inl e, rfl, rfl⟩
theorem DGet.t {H : Hp} {a b : Addr} {kvs : List (List Key × V)} {k : List Key} (e : H a = some (.dT kvs)) (eb : H b = some (.tup (k.map kV))) : DGet H a (.ref b) (valV kvs k) := .inr ⟨kvs, k, b, .inl e, rfl, eb, rfl⟩
theorem DPut.k {H : Hp} {a : Addr} {kvs : List (Key × V)} {k : Key} {v : V} (e : H a = some (.dK kvs)) (hl : kvs.length < sizeLine) : DPut H a (kV k) v (upd H a (.dK (putK kvs k v))) := .inl ⟨kvs, k, e, rfl, hl, rfl⟩
theorem DPut.t {H : Hp} {a b : Addr} {kvs : List (List Key × V)} {k : List Key} {v : V} (e : H a = some (.dT kvs)) (eb : H b = some (.tup (k.map kV))) (hl : kvs.length < sizeLine) :
    DPut H a (.ref b) v (upd H a (.dT (putK kvs k v))) := .inr ⟨kvs, k, b, e, rfl, eb, hl, rfl⟩
section
variable {X : Cx} {pins : List (Addr × Obj)} {σ : St} {H : Hp} {s : Shared} {a : Addr} {y v : V} {u r : Value} {o : Option V} {A : Around} {E : Value → Shared → Prop}
theorem Inv.big (I : Inv X pins σ H s) : sysModules < s.heap.objs.size := by
  have h : mainGlobals < s.heap.objs.size := (I.mod.glob.keeps I.bk).lt
  exact Nat.lt_trans (by decide) h
/-- d[y], there -/
theorem d_getItem {Q : Value → Shared → Prop} (hu : A.units + 1 < cLine) (I : Inv X pins σ H s) (g : DGet H a y (some v)) (ry : RelV y u) (h : ∀ w' s', Inv X pins σ H s' → RelV v w' → Q w' s') :
    wpAny (model X.prog X.w) A (getItem (.ref a) u) Q E s := by
  rcases g with ⟨kvs, k, e, ey, l⟩ | ⟨kvs, k, b, e, ey, eb, l⟩
  · subst ey
    obtain ⟨z, hd, vs, rel, dd⟩ := dk_rd I.hok e
    obtain ⟨w', hw, rw'⟩ := RelO.some_of (v := v) (o := valueAt vs k) (by rw [l]; exact rel.val k)
    exact wpAny_getItem_of (kV_is ry) dd.mapOf hw (h w' _ (I.tok _) rw')
  · subst ey
    cases (show u = Value.ref b from ry)
    obtain ⟨z, hd, xs, rel, dd⟩ := dt_rd I.hok e
    obtain ⟨w', hw, rw'⟩ := RelO.some_of (v := v) (o := (atKey xs k).map (·.2)) (by rw [l]; exact rel.val k)
    obtain ⟨p, hp, hp2⟩ := Option.map_eq_some_iff.mp hw
    refine wpAny_getItem_heap (tupleKind_room_in1 hu) (key_of I.hok eb) dd hp ?_
    rw [hp2]
    exact h w' _ (I.tok _) rw'
/-- y in d -/
theorem d_in {Q : Value → Shared → Prop} (hu : A.units + 1 < cLine) (I : Inv X pins σ H s) (g : DGet H a y o) (ry : RelV y u) (h : ∀ s', Inv X pins σ H s' → Q (.bool o.isSome) s') :
    wpAny (model X.prog X.w) A (compareOp .In u (.ref a)) Q E s := by
  rcases g with ⟨kvs, k, e, ey, l⟩ | ⟨kvs, k, b, e, ey, eb, l⟩
  · subst ey
    obtain ⟨z, hd, vs, rel, dd⟩ := dk_rd I.hok e
    refine wpAny_in_of (kV_is ry) hd dd.mapOf ?_
    rw [← (rel.val k).isSome_eq, ← l]
    exact h _ (I.tok _)
  · subst ey
    cases (show u = Value.ref b from ry)
    obtain ⟨z, hd, xs, rel, dd⟩ := dt_rd I.hok e
    refine wpAny_in_heap (tupleKind_room_in1 hu) (key_of I.hok eb) hd dd ?_
    have q := (rel.val k).isSome_eq
    rw [Option.isSome_map] at q
    rw [← q, ← l]
    exact h _ (I.tok _)
/-- a dict's object is replaced -/
theorem d_write {h' : Heap} {t' : Nat} {ob : HO} (I : Inv X pins σ H s) (mu : Mut (H a)) (hs : Heap.SameBut a s.heap h') (he : ∃ q, h'.get? a = some q) (new : ObjOk X.prog X.w (upd H a ob) h' a ob) :
    Inv X pins σ (upd H a ob) { s with heap := h', toks := t' } :=
  I.write (x := a) (e := a) mu (.inl rfl) (fun b q hb z => (hs.2 b hb).trans z) he new
theorem dk_new {P : Program} {w : World} {H' : Hp} {h' : Heap} {kvs : List (Key × V)} {vs : List (Key × Value)} (z : kvs.length ≤ sizeLine) (hd : (a == sysModules) = false) (rel : KV kvs vs) (dd : h'.DictOf (mixKind P w) a vs) :
    ObjOk P w H' h' a (.dK kvs) := ⟨z, hd, vs, rel, dd⟩
/-- d[y] = v -/
theorem d_setItem {H' : Hp} {Q : Unit → Shared → Prop} (hu : A.units + 1 < cLine) (I : Inv X pins σ H s) (g : DPut H a y v H') (ry : RelV y u) (rv : RelV v r) (h : ∀ s', Inv X pins σ H' s' → Q () s') :
    wpAny (model X.prog X.w) A (setItem (.ref a) u r) Q E s := by
  rcases g with ⟨kvs, k, e, ey, l, eH⟩ | ⟨kvs, k, b, e, ey, eb, l, eH⟩
  · subst ey eH
    obtain ⟨z, hd, vs, rel, dd⟩ := dk_of I.hok e
    have hz : vs.length ≤ sizeLine := by rw [← rel.length]; exact z
    have hl : (putK kvs k v).length ≤ sizeLine := by have := length_putK kvs k v; omega
    refine wpAny_setItem_pairs (hsz := hz) (kV_is ry) dd fun h' dd' hs => h _ ?_
    have he : ∃ q, h'.get? a = some q := let ⟨q, _, _, hq, _⟩ := dd'; ⟨q, hq⟩
    exact d_write I (by rw [e]; exact True.intro) hs he (dk_new hl hd (rel.put k rv) dd')
  · subst ey eH
    cases (show u = Value.ref b from ry)
    obtain ⟨z, hd, xs, rel, dd⟩ := dt_of I.hok e
    have hz : xs.length ≤ sizeLine := by rw [← Paired.length rel]; exact z
    have hl : (putK kvs k v).length ≤ sizeLine := by have := length_putK kvs k v; omega
    refine wpAny_setItem_heap (hsz := hz) (tupleKind_room_in1 hu) (key_of I.hok eb) dd fun h' dd' hs => h _ ?_
    obtain ⟨q, es, ep, hq, h2, h3, h4, _, h5⟩ := dd'
    refine d_write I (by rw [e]; exact True.intro) hs ⟨q, hq⟩ ⟨hl, hd, _, (rel.put k eb rv).keeps fun c ys ec => ?_, q, es, ep, hq, h2, h3, h4, h5⟩
    rw [upd_ne (ne_of ec e (fun z => nomatch z))]
    exact ec
end
section
variable {X : Cx} {pins : List (Addr × Obj)} {σ : St} {H : Hp} {s : Shared} {a : Addr} {kvs : List (Key × V)} {k : Key} {u : Value} {A : Around} {E : Value → Shared → Prop}
end
/-- the element of a subscription, not a slice -/
def NoSl (i : Expr) : Prop := ∀ ov iv, subscripted i false ov iv = operate [ov, iv] (getItem ov iv)
theorem subD_of {prog : Program} {w : World} {A : Around} {E : Value → Shared → Prop} {s : Shared} {env : Env} {value slice : Expr} {pos : Pos} {T id : String} {Q : Value → Shared → Prop}
    (hl : typeLookup (.type T) "__getitem__" = pure (some (.builtin id))) (hs : NoSl slice)
    (h : wpAny (model prog w) A (eval value env) (fun o s₁ => wpAny (model prog w) A (eval slice env) (fun i s₂ => s₂.TypeIs o T ∧ wpAny (model prog w) A (getItem o i) Q E s₂) E s₁) E s) :
    wpAny (model prog w) A (eval (.Subscript value slice pos) env) Q E s := by
  refine Subscript_ (wpAny_mono h (fun o s₁ h₁ => wpAny_mono h₁ (fun i s₂ h₂ => ?_) fun _ _ x => x) fun _ _ x => x)
  obtain ⟨hT, h₂⟩ := h₂
  unfold subscriptTail
  refine wpAny_bind ?_
  rw [getitemInPython_of_ne hT.not_modules]
  refine wpAny_bind (wpAny_specialOf hT hl ?_)
  have fin : wpAny (model prog w) A (subscripted slice false o i) (fun r s₃ => wpAny (model prog w) A (letTemporaryGo value o r >>= fun _ => pure r) Q E s₃) E s₂ := by
    rw [hs o i]
    exact wpAny_operating (wpAny_mono h₂ (fun r s₃ h₃ => wpAny_bind (wpAny_letTemporaryGo (wpAny_pure h₃))) fun _ _ x => x)
  first
    | exact wpAny_pure (wpAny_bind fin)
    | exact wpAny_bind (wpAny_pure (wpAny_bind fin))
    | exact wpAny_bind fin
theorem dict_typeIs {X : Cx} {pins : List (Addr × Obj)} {σ : St} {H : Hp} {s : Shared} {a : Addr} {y : V} {o : Option V} (I : Inv X pins σ H s) (g : DGet H a y o) : s.TypeIs (.ref a) "dict" := by
  rcases g with ⟨kvs, k, e, _, _⟩ | ⟨kvs, k, b, e, _, _, _⟩
  · obtain ⟨_, _, vs, _, dd⟩ := dk_rd I.hok e
    exact dd.typeIs
  · obtain ⟨_, _, xs, _, dd⟩ := dt_rd I.hok e
    exact dd.typeIs
/-- d[y] -/
def tDGet (td ty : TE) : TE := fun σ H Q => td σ H fun x H1 => ty σ H1 fun y H2 => ∃ a v, x = .ref a ∧ DGet H2 a y (some v) ∧ Q v H2
/-- y in d, y not in d -/
def tDIn (ty td : TE) : TE := fun σ H Q => ty σ H fun y H1 => td σ H1 fun x H2 => ∃ a o, x = .ref a ∧ DGet H2 a y o ∧ Q (.bl o.isSome) H2
/-- d[y] = v -/
def sDPut (td ty tv : TE) : TS := fun D σ H => tv σ H fun v H1 => td σ H1 fun x H2 => ty σ H2 fun y H3 => ∃ a H4, x = .ref a ∧ DPut H3 a y v H4 ∧ D.nx σ H4
section
variable {X : Cx} {o i e value : Expr} {pos pos' tpos : Pos} {td ty tv : TE}
theorem pe_dget (hu : X.A.units + 1 < cLine) (ho : PE X o td) (hi : PE X i ty) (hs : NoSl i) : PE X (.Subscript o i pos) (tDGet td ty) := by
  intro pins s σ H Q I h
  refine subD_of PySem.F.slot_dict_getitem.lookup hs (thn (ho pins s σ H _ I h) fun u s1 ⟨x, H1, I1, rx, q1⟩ => thn (hi pins s1 σ H1 _ I1 q1) fun iv s2 ⟨y, H2, I2, ry, a, v, ex, g, q2⟩ => ?_)
  subst ex
  obtain rfl : u = Value.ref a := rx
  exact ⟨dict_typeIs I2 g, d_getItem hu I2 g ry fun w' s3 I3 rw' => ⟨v, H2, I3, rw', q2⟩⟩
theorem pc_din (hu : X.A.units + 1 < cLine) (hi : PE X i ty) (ho : PE X o td) : PC X .In i o (tDIn ty td) := by
  intro pins s σ H Q I h
  refine thn (hi pins s σ H _ I h) fun iv s1 ⟨y, H1, I1, ry, q1⟩ => thn (ho pins s1 σ H1 _ I1 q1) fun u s2 ⟨x, H2, I2, rx, a, ov, ex, g, q2⟩ => ?_
  subst ex
  obtain rfl : u = Value.ref a := rx
  exact d_in hu I2 g ry fun s3 I3 => ⟨.bl ov.isSome, H2, I3, rfl, q2⟩
theorem ps_dput (hu : X.A.units + 1 < cLine) (ho : PE X o td) (hi : PE X i ty) (hv : PE X value tv) (hs : swapsWith value (some (.Subscript o i pos')) pos.line X.env = pure false) :
    PS X (.Assign [.Subscript o i pos'] value pos) (sDPut td ty tv) := by
  intro pins s σ H D I h
  refine wpAny_Assign_Subscript (thn (hv pins s σ H _ I h) fun r s1 ⟨v, H1, I1, rv, q1⟩ => thn (ho pins s1 σ H1 _ I1 q1) fun u s2 ⟨x, H2, I2, rx, q2⟩ => thn (hi pins s2 σ H2 _ I2 q2) fun iv s3 ⟨y, H3, I3, ry, a, H4, ex, g, q3⟩ => ?_) hs
  subst ex
  obtain rfl : u = Value.ref a := rx
  exact d_setItem hu I3 g ry rv fun s4 I4 => ⟨σ, H4, I4, q3⟩
end
theorem dk_empty {P : Program} {w : World} {H : Hp} (h : Heap) (hb : sysModules < h.objs.size) : ObjOk P w H (h.push { cls := .type "dict", data := .dict #[] }) h.objs.size (.dK []) :=
  ⟨Nat.zero_le _, beq_eq_false_iff_ne.mpr (Ne.symm (Nat.ne_of_lt hb)), [], .nil, Heap.DictOf.new h⟩
theorem dt_empty {P : Program} {w : World} {H : Hp} (h : Heap) (hb : sysModules < h.objs.size) : ObjOk P w H (h.push { cls := .type "dict", data := .dict #[] }) h.objs.size (.dT []) :=
  ⟨Nat.zero_le _, beq_eq_false_iff_ne.mpr (Ne.symm (Nat.ne_of_lt hb)), [], .nil, _, #[], 0, Heap.get?_push_size _ rfl, ⟨rfl, rfl, rfl⟩, rfl, rfl, List.nodup_nil⟩
def tDNewT : TE := fun _ H Q => ∀ p, H p = none → Q (.ref p) (upd H p (.dT []))
section
variable {X : Cx} {pos : Pos}
theorem pe_dnewT : PE X (.Dict [] [] pos) tDNewT := fun pins s σ H Q I h =>
  wpAny_Dict_empty ⟨.ref s.heap.objs.size, _, I.laid (a := s.heap.objs.size) (o := .dT []) (t' := s.toks) (fun _ _ q => Heap.get?_push_of_some _ q) (Nat.le_refl _) (dt_empty s.heap I.big), rfl, h _ (I.hok.fresh (Nat.le_refl _))⟩
end
/-- the pairs of a display, from the left -/
def tPairs : List (TE × TE) → St → Hp → (List (V × V) → Hp → Prop) → Prop
  | [], _, H, Q => Q [] H
  | (tk, tv) :: r, σ, H, Q => tk σ H fun x H1 => tv σ H1 fun y H2 => tPairs r σ H2 fun ps H3 => Q ((x, y) :: ps) H3
abbrev VV : List (V × V) → List (Value × Value) → Prop := Paired fun p q => RelV p.1 q.1 ∧ RelV p.2 q.2
def PPs (X : Cx) (pos : Pos) (keys : List (Option Expr)) (values : List Expr) (trs : List (TE × TE)) : Prop :=
  ∀ (pins : List (Addr × Obj)) (s : Shared) (σ : St) (H : Hp) (Q : List (V × V) → Hp → Prop), Inv X pins σ H s → tPairs trs σ H Q →
    wpAny (model X.prog X.w) X.A (evalPairs (pairTrees keys values X.env pos)) (fun vs s' => ∃ ps H', Inv X pins σ H' s' ∧ VV ps vs ∧ Q ps H') X.xe s
theorem pps_nil {X : Cx} {pos : Pos} : PPs X pos [] [] [] := fun pins s σ H Q I h => pairTrees_nil_walk ⟨[], H, I, .nil, h⟩
theorem pps_cons {X : Cx} {pos : Pos} {k v : Expr} {ks : List (Option Expr)} {vs : List Expr} {tk tv : TE} {trs : List (TE × TE)} (hk : PE X k tk) (hv : PE X v tv) (hr : PPs X pos ks vs trs) :
    PPs X pos (some k :: ks) (v :: vs) ((tk, tv) :: trs) := fun pins s σ H Q I h =>
  pairTrees_cons_walk (thn (hk pins s σ H _ I h) fun u s1 ⟨x, H1, I1, rx, q1⟩ => thn (hv pins s1 σ H1 _ I1 q1) fun w2 s2 ⟨y, H2, I2, ry, q2⟩ =>
    thn (hr pins s2 σ H2 _ I2 q2) fun ws s3 ⟨ps, H3, I3, rel, q3⟩ => ⟨(x, y) :: ps, H3, I3, .cons ⟨rx, ry⟩ rel, q3⟩)
def mergeK (kvs more : List (Key × V)) : List (Key × V) := more.foldl (fun acc kv => putK acc kv.1 kv.2) kvs
theorem KV.merge : ∀ {more : List (Key × V)} {rs : List (Key × Value)} {kvs : List (Key × V)} {vs : List (Key × Value)}, KV more rs → KV kvs vs → KV (mergeK kvs more) (merged vs rs) := by
  intro more rs kvs vs r
  unfold KV at r
  induction r generalizing kvs vs with
  | nil => intro q; exact q
  | @cons p q ps qs h t ih =>
    intro r0
    have e : KV (putK kvs p.1 p.2) (stored vs q.1 q.2) := by
      have := r0.put p.1 h.2
      rw [← h.1]; exact this
    exact ih e
theorem length_mergeK : ∀ (more kvs : List (Key × V)), (mergeK kvs more).length ≤ kvs.length + more.length
  | [], kvs => by show kvs.length ≤ kvs.length + 0; omega
  | p :: r, kvs => by
    have h1 := length_mergeK r (putK kvs p.1 p.2)
    have h2 := length_putK kvs p.1 p.2
    show (mergeK (putK kvs p.1 p.2) r).length ≤ _
    rw [List.length_cons]; omega
theorem carries_of {P : Program} {w : World} : ∀ {kvs : List (Key × V)} {ws : List (Value × Value)}, VV (kvs.map fun kv => (kV kv.1, kv.2)) ws → ∃ rs, Carries (mixKind P w) ws rs ∧ KV kvs rs
  | [], _, r => by rw [List.map_nil] at r; cases r; exact ⟨[], True.intro, .nil⟩
  | p :: kvs, _, r => by
    rw [List.map_cons] at r
    cases r with
    | @cons a b as bs h t =>
      obtain ⟨rs, c, q⟩ := carries_of (P := P) (w := w) t
      obtain ⟨b1, b2⟩ := b
      exact ⟨(p.1, b2) :: rs, ⟨kV_is h.1, rfl, c⟩, .cons ⟨rfl, h.2⟩ q⟩
/-- {k: v, ..} with keys ints and texts; the new dict stands empty while the pairs are made -/
def tDisp (trs : List (TE × TE)) : TE := fun σ H Q => ∀ p, H p = none → tPairs trs σ (upd H p (.dK [])) fun ps H2 => H2 p = some (.dK []) ∧ ∃ kvs : List (Key × V), ps = kvs.map (fun kv => (kV kv.1, kv.2)) ∧ kvs.length ≤ 15 ∧ Q (.ref p) (upd H2 p (.dK (mergeK [] kvs)))
theorem pe_disp {X : Cx} {pos : Pos} {keys : List (Option Expr)} {values : List Expr} {trs : List (TE × TE)} (h : PPs X pos keys values trs) (hall : keys.all (·.isSome) = true) (hl : keys.length = values.length) (h0 : keys ≠ [])
    (h15 : keys.length ≤ 15) : PE X (.Dict keys values pos) (tDisp trs) := by
  intro pins s σ H Q I q
  have hn := I.hok.fresh (Nat.le_refl s.heap.objs.size)
  have I1 := I.laid (a := s.heap.objs.size) (o := .dK []) (h' := s.heap.push { cls := .type "dict", data := .dict #[] }) (t' := s.toks) (fun _ _ q => Heap.get?_push_of_some _ q) (Nat.le_refl _) (dk_empty s.heap I.big)
  refine wpAny_Dict_walk (knd := mixKind X.prog X.w) hall hl h0 h15 (thn (h pins _ σ _ _ I1 (q _ hn)) fun ws s2 ⟨ps, H2, I2, rel, e, kvs, ep, lk, q2⟩ => ?_)
  subst ep
  obtain ⟨rs, c, rk⟩ := carries_of (P := X.prog) (w := X.w) rel
  obtain ⟨z, hd, vs0, r0, dd⟩ := dk_of I2.hok e
  cases r0
  refine ⟨rs, c, dd, fun h' dd' hs => ⟨.ref s.heap.objs.size, _, ?_, rfl, q2⟩⟩
  have hz : (mergeK [] kvs).length ≤ sizeLine := by
    have h1 := length_mergeK kvs []
    rw [List.length_nil] at h1
    rw [sizeLine_eq]; omega
  have he : ∃ q, h'.get? s.heap.objs.size = some q := let ⟨q, _, _, hq, _⟩ := dd'; ⟨q, hq⟩
  exact d_write I2 (by rw [e]; exact True.intro) hs he (dk_new hz hd (rk.merge .nil) dd')
structure M2 (X : Cx) (o : Expr) (m : Str) (apos : Pos) (e f : Expr) (cpos : Pos) : Prop where
  base : attributeBase o m X.env (eval o X.env) = eval o X.env
  few : ((backTo cpos (starEach [e, f] X.env)).all (fun x => !x.1) && (backToKw cpos (keywordEach [] X.env)).all (fun x => x.1.isSome)
    && decide (([e, f] : List Expr).length + ([] : List Keyword).length + (if ([] : List Keyword).isEmpty then 0 else 1) < 30)) = true
  line : (apos.endLine == cpos.line) = true
  trees : backTo cpos (starEach [e, f] X.env) = [(false, eval e X.env), (false, eval f X.env)]
/-- a is a dict, whatever its keys -/
def IsD (H : Hp) (a : Addr) : Prop := (∃ kvs, Rd H a (.dK kvs)) ∨ ∃ kvs, Rd H a (.dT kvs)
theorem isD_at {X : Cx} {pins : List (Addr × Obj)} {σ : St} {H : Hp} {s : Shared} {a : Addr} (I : Inv X pins σ H s) (d : IsD H a) :
    s.TypeIs (.ref a) "dict" ∧ (∀ b, Value.ref a = .ref b → ∃ ob, s.heap.get? b = some ob ∧ ob.dict = none) ∧ (a == sysModules) = false := by
  rcases d with ⟨kvs, e⟩ | ⟨kvs, e⟩
  · obtain ⟨_, hd, vs, _, dd⟩ := dk_rd I.hok e
    refine ⟨dd.typeIs, fun b q => ?_, hd⟩
    cases q
    obtain ⟨ob, _, _, h1, h2, _⟩ := dd
    exact ⟨ob, h1, h2.2.1⟩
  · obtain ⟨_, hd, xs, _, dd⟩ := dt_rd I.hok e
    refine ⟨dd.typeIs, fun b q => ?_, hd⟩
    cases q
    obtain ⟨ob, _, _, h1, h2, _⟩ := dd
    exact ⟨ob, h1, h2.2.1⟩
section
variable {X : Cx} {pins : List (Addr × Obj)} {σ : St} {H : Hp} {s : Shared} {a : Addr} {y d : V} {u r : Value} {o : Option V} {A : Around} {E : Value → Shared → Prop}
/-- d.get(y, x) -/
theorem d_get2 {Q : Value → Shared → Prop} (hu : A.units + 1 < cLine) (I : Inv X pins σ H s) (g : DGet H a y o) (ry : RelV y u) (rd : RelV d r) (h : ∀ w' s', Inv X pins σ H s' → RelV (o.getD d) w' → Q w' s') :
    wpAny (model X.prog X.w) A (call (.builtin "dict.get") [.ref a, u, r]) Q E s := by
  rcases g with ⟨kvs, k, e, ey, l⟩ | ⟨kvs, k, b, e, ey, eb, l⟩
  · subst ey
    obtain ⟨z, hd, vs, rel, dd⟩ := dk_rd I.hok e
    refine call_meetsIn PySem.F.slot_dict_get dd.typeIs PySem.F.entry_dict_get (PySem.F.args_dict_get_3 _ _ _) (meets_dict_get_default (mixKind X.prog X.w) a (kV_is ry) hd r) ⟨_, dd.mapOf, h _ _ (I.tok _) ?_⟩
    rw [l]
    exact (rel.val k).getD rd
  · subst ey
    cases (show u = Value.ref b from ry)
    obtain ⟨z, hd, xs, rel, dd⟩ := dt_rd I.hok e
    refine call_meetsIn PySem.F.slot_dict_get dd.typeIs PySem.F.entry_dict_get (PySem.F.args_dict_get_3 _ _ _) (meetsH_dict_get_default (tupleKind (mixKind X.prog X.w)) a b hd r) ⟨tupleKind_room_in1 hu, k, xs, key_of I.hok eb, dd, h _ _ (I.tok _) ?_⟩
    rw [l]
    exact (rel.val k).getD rd
end
def tDGet2 (td ty tx : TE) : TE := fun σ H Q => td σ H fun x H1 => ∃ a, x = .ref a ∧ IsD H1 a ∧ ty σ H1 fun y H2 => tx σ H2 fun z H3 => ∃ o, DGet H3 a y o ∧ Q (o.getD z) H3
section
variable {X : Cx} {o e f : Expr} {apos cpos : Pos} {td ty tx : TE}
theorem pe_dget2 (hu : X.A.units + 1 < cLine) (ho : PE X o td) (he : PE X e ty) (hf : PE X f tx) (m : M2 X o "get" apos e f cpos) : PE X (.Call (.Attribute o "get" apos) [e, f] [] cpos) (tDGet2 td ty tx) := by
  intro pins s σ H Q I h
  refine wpAny_Call_method m.base m.few m.line PySem.F.plainAttrs_dict PySem.F.slot_dict_get PySem.F.type_dict_get (thn (ho pins s σ H _ I h) fun u s1 ⟨x, H1, I1, rx, a, ex, d, q1⟩ => ?_)
  subst ex
  obtain rfl : u = Value.ref a := rx
  obtain ⟨t1, t2, _⟩ := isD_at I1 d
  refine ⟨t1, t2, ?_⟩
  rw [m.trees]
  refine Calls.callWith_builtin rfl (Calls.evalArgs_plain (Calls.spliced_cons (thn (he pins s1 σ H1 _ I1 q1) fun iv s2 ⟨y, H2, I2, ry, q2⟩ =>
    Calls.spliced_cons (thn (hf pins s2 σ H2 _ I2 q2) fun fv s3 ⟨z, H3, I3, rz, ov, g, q3⟩ => Calls.spliced_nil ?_))))
  exact d_get2 hu I3 g ry rz fun w' s4 I4 rw' => ⟨_, H3, I4, rw', q3⟩
end
section
variable {X : Cx} {pins : List (Addr × Obj)} {σ : St} {H : Hp} {s : Shared} {a : Addr} {kvs : List (Key × V)} {A : Around} {E : Value → Shared → Prop}
end
section
variable {X : Cx} {pins : List (Addr × Obj)} {σ : St} {H : Hp} {s : Shared} {a : Addr} {y : V} {u : Value} {A : Around} {E : Value → Shared → Prop}
end
end L2
namespace L2
open PySem PySem.Spec PyProof.Rows
theorem list_keys_none : typeLookup (.type "list") "keys" = pure none := am_miss_of_fast (by first | decide +kernel | rfl)
theorem ud_entry : entryFor table "dict.update.loop" = some Builtin.«dict.update.loop» := entryFor_of_tree (by kernel_rfl)
theorem ud_plain : plainId "dict.update.loop" = true := by decide +kernel
section
variable {prog : Program} {w : World} {A : Around} {E : Value → Shared → Prop}
/-- a list has no attribute 'keys': an AttributeError is made, and forgotten -/
theorem miss_list {s : Shared} {a : Addr} {o : Obj} {xs : Array Value} {k : Nat} {Q : Option Value → Shared → Prop} (hx : s.heap.get? a = some o) (hc : o.cls = .type "list") (hdat : o.data = .seq xs k) (hd : o.dict = none) (hA : A.handled = none)
    (h : ∀ h' tk, (∀ b ob, s.heap.get? b = some ob → h'.get? b = some ob) → Q none { s with heap := h', toks := tk }) : wpAny (model prog w) A (getAttr? (.ref a) "keys") Q E s := by
  obtain ⟨c, dct, dat, sl⟩ := o
  simp only at hc hdat hd
  subst hc hdat hd
  obtain ⟨hp, g, d, tk, os⟩ := s
  have hT : ∀ tk', (⟨hp, g, d, tk', os⟩ : Shared).TypeIs (.ref a) "list" := fun _ => ⟨_, hx, rfl⟩
  have hmiss := list_keys_none
  have hname : (["__module__", "__name__", "__qualname__", "__doc__", "__annotations__"] : List Str).contains "keys" = false := by decide +kernel
  have hsz : ("keys" : Str).length + 100 ≤ sizeLine := by first | size_fits | decide +kernel
  have f1 := sub_AttributeError
  have f3 := PySem.F.slot_list_getattribute.lookup
  have f4 := PySem.F.slot_list_getattribute.bind (.ref a)
  have f5 := am_list_getattr_none
  unfold getAttr? getAttrBy? getAttrBy
  repeat (any_goals (first | assumption | exact hT _ | ((with_reducible show wpAny _ _ (call (Value.builtin "list.__getattribute__") _ _) _ _ _); refine call_meets PySem.F.slot_list_getattribute (hT _) am_entry_list_getattribute (PySem.F.args_list_getattribute_2 _ _) (meets_getattribute_miss_list a xs k sl "keys" _ hmiss hname hsz) ⟨hx, hA, fun h' tk' e hx' => ?_⟩) | wp_step))
  obtain ⟨t', u', he⟩ := hx'.there
  show wpAny _ _ (getattributeRaised _ _ _ _ _ _ _) _ _ _
  unfold getattributeRaised
  repeat (any_goals (first | assumption | wp_step))
  all_goals first | exact h _ _ hx'.keeps | (dsimp only; repeat (any_goals (first | assumption | exact h _ _ hx'.keeps | wp_step)))
/-- the walk over the pairs -/
theorem upd_loop {R : Result → Shared → Prop} {S I l : Addr} {items : Array Value} {res : Value} (hh : A.handled = none) (hlI : l ≠ I) (hSI : S ≠ I) (hSl : S ≠ l) :
    ∀ (rest : List (Key × Value)) (i : Nat) (acc : List (Key × Value)) (ix : Int) (t : Tok) (s : Shared), items.size = i + rest.length → acc.length + rest.length ≤ sizeLine →
      (∀ (j : Nat) (q : Key × Value), rest[j]? = some q → ∃ (b : Addr) (u : Value), items[i + j]? = some (.ref b) ∧ b ≠ S ∧ b ≠ I ∧ IsTup s.heap b #[u, q.2] ∧ keyIs q.1 u = true) →
      s.heap.IsListIter I l i → s.heap.IsList l items → s.heap.DictOf (mixKind prog w) S acc →
      (∀ h' tk, h'.DictOf (mixKind prog w) S (merged acc rest) → (∀ b o, b ≠ S → b ≠ I → s.heap.get? b = some o → h'.get? b = some o) → R (.ok (.ret res)) { s with heap := h', toks := tk }) →
      codeAny (model prog w) A (.builtin "dict.update.loop" ⟨[.ref S, .ref I, .int ix t, res], []⟩) R s
  | [], i, acc, ix, t, s, hsz, hln, ht, hit, hl, hm, hR => by
    refine codeAny_builtin ud_entry ?_
    rw [Around.under_plainId ud_plain _]
    show wpAny _ A.in1 (pyNext (.ref I) >>= _) _ _ s
    refine wpAny_bind (wpAny_pyNext_list_end (A := A.in1) hh hit hl (by first | exact Array.getElem?_eq_none (Nat.le_of_eq hsz) | (simp at hsz; simp; omega)) fun h' he => ?_)
    show wpAny _ A.in1 (Builtin.Dict.addKeywords S [] >>= _) _ _ _
    refine wpAny_bind (wpAny_pure (wpAny_pure ?_))
    exact hR h' s.toks (hm.extBut he hSI) fun b o _ hb e => he b o hb e
  | q :: rest, i, acc, ix, t, s, hsz, hln, ht, hit, hl, hm, hR => by
    obtain ⟨b, u, hb, hbS, hbI, htup, hk⟩ := ht 0 q rfl
    rw [List.length_cons] at hsz hln
    refine codeAny_builtin ud_entry ?_
    rw [Around.under_plainId ud_plain _]
    show wpAny _ A.in1 (pyNext (.ref I) >>= _) _ _ s
    refine wpAny_bind (wpAny_pyNext_list_item (x := .ref b) hit hl (by simpa using hb) fun h1 hit1 hs1 => ?_)
    have ht1 : IsTup h1 b #[u, q.2] := htup.extBut hs1.extBut hbI
    have hl1 : h1.IsList l items := hl.extBut hs1.extBut hlI
    have hm1 : h1.DictOf (mixKind prog w) S acc := hm.extBut hs1.extBut hSI
    obtain ⟨o, ho, hc, n, hd⟩ := id ht1
    show wpAny _ A.in1 (holding [Value.ref b] _ >>= _) _ _ _
    refine wpAny_bind (wpAny_holding ?_)
    refine wpAny_bind (wpAny_tryCatch ?_)
    unfold Builtin.Dict.pairItems
    refine wpAny_bind (wpAny_typeOf (T := "tuple") ⟨o, ho, hc⟩ ?_)
    rw [if_pos (by first | decide | rfl | simp)]
    refine wpAny_bind (wpAny_seqItems ho hd (wpAny_pure ?_))
    show wpAny _ A.in1 (holding [u, q.2] (dictSet S u q.2)) _ _ _
    refine wpAny_holding (wpAny_dictSet_pairs (knd := mixKind prog w) (k := q.1) hk hm1 (fun h2 hm2 hs2 => ?_) (by omega))
    refine wpAny_pure ⟨plainId_quiet ud_plain _, upd_loop (items := items) hh hlI hSI hSl rest (i + 1) (stored acc q.1 q.2) (ix + 1) 0 _ (show items.size = i + 1 + rest.length by omega) ?_ (fun j q' e => ?_) ?_ ?_ hm2 fun h' tk hd' k => ?_⟩
    · have z := stored_length_le acc q.1 q.2
      omega
    · obtain ⟨b', u', hb', hbS', hbI', htup', hk'⟩ := ht (j + 1) q' (by simpa using e)
      refine ⟨b', u', ?_, hbS', hbI', (htup'.extBut hs1.extBut hbI').extBut hs2.extBut hbS', hk'⟩
      rw [show i + 1 + j = i + (j + 1) by omega]
      exact hb'
    · exact hit1.at fun o' e => hs2.extBut I o' (Ne.symm hSI) e
    · exact hl1.extBut hs2.extBut (Ne.symm hSl)
    · exact hR h' tk hd' fun c oc h3 h4 e => k c oc h3 h4 (hs2.extBut c oc h3 (hs1.extBut c oc h4 e))
/-- dict(l) of a list of pairs -/
theorem call_dict_pairs {s : Shared} {l : Addr} {ol : Obj} {items : Array Value} {n : Nat} {prs : List (Key × Value)} {Q : Value → Shared → Prop} (hh : A.handled = none) (hl : s.heap.get? l = some ol) (hc : ol.cls = .type "list") (hd : ol.dict = none)
    (hdat : ol.data = .seq items n) (hsz : items.size = prs.length) (hln : prs.length ≤ sizeLine)
    (ht : ∀ (j : Nat) (q : Key × Value), prs[j]? = some q → ∃ (b : Addr) (u : Value), items[j]? = some (.ref b) ∧ IsTup s.heap b #[u, q.2] ∧ keyIs q.1 u = true)
    (h : ∀ h' tk, h'.DictOf (mixKind prog w) s.heap.objs.size (merged [] prs) → (∀ b o, s.heap.get? b = some o → h'.get? b = some o) → Q (.ref s.heap.objs.size) { s with heap := h', toks := tk }) :
    wpAny (model prog w) A (call (.type "dict") [.ref l]) Q E s := by
  refine callType_codes (Q₁ := fun obj s₁ => obj = .ref s.heap.objs.size ∧ s₁ = { s with heap := s.heap.push { cls := .type "dict", data := .dict #[] } }) PySem.F.kt_called_dict (PySem.F.kt_typeCall_dict_1 _) PySem.F.entry_dict_init (kt_code_dict_new _ ⟨rfl, rfl⟩) ?_
  rintro obj s₁ ⟨rfl, rfl⟩
  have hnew : (s.heap.push { cls := .type "dict", data := .dict #[] }).DictOf (mixKind prog w) s.heap.objs.size [] := Heap.DictOf.new s.heap
  have k0 : ∀ b o, s.heap.get? b = some o → (s.heap.push { cls := .type "dict", data := .dict #[] }).get? b = some o := fun b o e => Heap.get?_push_of_some _ e
  refine ⟨hnew.typeIs, PySem.F.args_dict_init_2 _ _, ?_⟩
  unfold Builtin.«dict.__init__»
  refine wpAny_bind ?_
  unfold Builtin.Dict.selfAndRest
  refine wpAny_bind (wpAny_notOrdered_dict hnew.typeIs ?_)
  show wpAny _ _ (pure (s.heap.objs.size, [Value.ref l])) _ _ _
  refine wpAny_pure ?_
  show wpAny _ _ (Builtin.Dict.updateFrom "dict.__init__" s.heap.objs.size (.ref l) [] .none) _ _ _
  unfold Builtin.Dict.updateFrom
  refine wpAny_bind (wpAny_typeOf (T := "list") ⟨ol, k0 _ _ hl, hc⟩ ?_)
  rw [if_pos (by first | decide | rfl | simp)]
  refine wpAny_bind (miss_list (k0 _ _ hl) hc hdat hd hh fun h1 tk1 hk1 => ?_)
  rw [if_pos (show (none : Option Value).isNone = true from rfl)]
  refine wpAny_bind (wpAny_rule ?_)
  have hl1 : h1.IsList l items := ⟨ol, hk1 _ _ (k0 _ _ hl), hc, n, hdat⟩
  have hS1 : s.heap.objs.size < h1.objs.size := by
    have e : (s.heap.push { cls := .type "dict", data := .dict #[] }).get? s.heap.objs.size = some { cls := .type "dict", data := .dict #[] } := Heap.get?_push_size _ rfl
    exact Heap.lt_size (hk1 _ _ e)
  refine wpAny_bind (wpAny_pyIter_list hl1 ?_)
  have k2 : ∀ b o, h1.get? b = some o → (h1.push { cls := .type "list_iterator", data := .fields #[.ref l, .int 0 0] }).get? b = some o := fun b o e => Heap.get?_push_of_some _ e
  have hlt : l < s.heap.objs.size := Heap.lt_size hl
  have key := upd_loop (prog := prog) (w := w) (A := A.in1) (R := wants (fun r s₂ => r = .none ∧ Q (.ref s.heap.objs.size) s₂) E) (S := s.heap.objs.size) (I := h1.objs.size) (l := l) (items := items) (res := Value.none) hh
    (Nat.ne_of_lt (Nat.lt_trans hlt hS1)) (Nat.ne_of_lt hS1) (Nat.ne_of_gt hlt) prs 0 [] 0 0
    { s with heap := h1.push { cls := .type "list_iterator", data := .fields #[.ref l, .int 0 0] }, toks := tk1 } (by rw [hsz, Nat.zero_add]) (by rw [List.length_nil, Nat.zero_add]; exact hln)
    (fun j q e => by
      obtain ⟨b, u, e1, e2, e3⟩ := ht j q e
      have hb : b < s.heap.objs.size := e2.lt
      exact ⟨b, u, by rw [Nat.zero_add]; exact e1, Nat.ne_of_lt hb, Nat.ne_of_lt (Nat.lt_trans hb hS1), e2.keeps fun c o z => k2 _ _ (hk1 _ _ (k0 _ _ z)), e3⟩)
    ⟨_, Heap.get?_push_size _ rfl, rfl, rfl⟩ (hl1.at fun o e => k2 _ _ e) ((hnew.at fun o e => hk1 _ _ e).at fun o e => k2 _ _ e)
    (fun h' tk hd' k => ⟨rfl, h h' tk hd' fun b o e => k b o (Nat.ne_of_lt (Heap.lt_size e)) (Nat.ne_of_lt (Nat.lt_trans (Heap.lt_size e) hS1)) (k2 _ _ (hk1 _ _ (k0 _ _ e)))⟩)
  first
    | exact wpAny_pure ⟨plainId_quiet ud_plain _, key⟩
    | exact wpAny_bind (wpAny_pure (wpAny_pure ⟨plainId_quiet ud_plain _, key⟩))
end
section
variable {X : Cx}
theorem pairs_of {pins : List (Addr × Obj)} {σ : St} {H : Hp} {s : Shared} (I : Inv X pins σ H s) : ∀ {ps : List Addr} {kvs : List (Key × V)}, Paired (fun p kv => SqT X.K H p [kV kv.1, kv.2]) ps kvs →
    ∃ prs : List (Key × Value), KV kvs prs ∧ prs.length = ps.length ∧ ∀ (j : Nat) (q : Key × Value), prs[j]? = some q → ∃ (b : Addr) (u : Value), ps[j]? = some b ∧ IsTup s.heap b #[u, q.2] ∧ keyIs q.1 u = true
  | _, _, .nil => ⟨[], .nil, rfl, fun j q e => by simp at e⟩
  | _, _, .cons (a := p) (b := kv) h t => by
    obtain ⟨prs, r, hl, hp⟩ := pairs_of I t
    obtain ⟨its, rv, ht, _⟩ := I.tuple h
    obtain ⟨u, y, ei, ru, ry⟩ := vals2 rv
    subst ei
    refine ⟨(kv.1, y) :: prs, .cons ⟨rfl, ry⟩ r, by rw [List.length_cons, List.length_cons, hl], fun j q e => ?_⟩
    cases j with
    | zero =>
      have e' : (kv.1, y) = q := Option.some.inj e
      subst e'
      exact ⟨p, u, rfl, ht, kV_is (P := X.prog) (w := X.w) ru⟩
    | succ j =>
      obtain ⟨b, u', e1, e2, e3⟩ := hp j q (by simpa using e)
      exact ⟨b, u', by simpa using e1, e2, e3⟩
theorem refs_at : ∀ {ps : List Addr} {us : List Value}, Vals (ps.map V.ref) us → us = ps.map Value.ref
  | [], us, r => by
    rw [List.map_nil] at r
    cases r
    rfl
  | p :: ps, us, r => by
    rw [List.map_cons] at r
    cases r with
    | cons h t =>
      cases h
      rw [List.map_cons, ← refs_at t]
/-- dict(xs) of a list of pairs (key, value): later pairs win, the place is the first one's -/
theorem call_dictP (hcalm : X.calm = true) : CallR X (.type "dict") (fun xs H Q => ∃ (a : Addr) (ps : List Addr) (kvs : List (Key × V)), xs = [.ref a] ∧ SqL X.K H a (ps.map V.ref) ∧ Paired (fun p kv => SqT X.K H p [kV kv.1, kv.2]) ps kvs ∧
    ∀ p, H p = none → Q (.ref p) (upd H p (.dK (mergeK [] kvs)))) := by
  intro pins s σ H xs us Q I r q
  obtain ⟨a, ps, kvs, ex, hq, hp, q⟩ := q
  subst ex
  obtain ⟨u, eu, rx⟩ := vals1 r
  subst eu
  cases rx
  obtain ⟨its, rv, pl, hz⟩ := I.list hq
  have ei := refs_at rv
  subst ei
  rw [List.length_map] at hz
  obtain ⟨prs, rel, hl, hpr⟩ := pairs_of I hp
  obtain ⟨o, n, ho, hc, hd, hdat⟩ := pl
  refine call_dict_pairs (prs := prs) (I.ok.hd hcalm) ho hc hd hdat (by simp [hl]) (by rw [hl]; exact hz) (fun j q' e => ?_) fun h' tk hd' k => ?_
  · obtain ⟨b, u, e1, e2, e3⟩ := hpr j q' e
    exact ⟨b, u, by simp [e1], e2, e3⟩
  · have hm : (s.heap.objs.size == sysModules) = false := beq_eq_false_iff_ne.mpr (Nat.ne_of_gt I.big)
    have hlen : (mergeK [] kvs).length ≤ sizeLine := by
      refine Nat.le_trans (length_mergeK kvs []) ?_
      rw [List.length_nil, Nat.zero_add, rel.length, hl]
      exact hz
    exact ⟨.ref s.heap.objs.size, upd H s.heap.objs.size (.dK (mergeK [] kvs)), I.laid (t' := tk) k (Nat.le_refl _) (show ObjOk X.prog X.w _ _ _ (.dK (mergeK [] kvs)) from ⟨hlen, hm, merged [] prs, KV.merge rel .nil, hd'⟩), rfl, q _ (I.hok.fresh (Nat.le_refl _))⟩
end
end L2
namespace L2
open PySem PySem.Spec PyProof.Rows
theorem boot_reversed5 : bootBuiltins "reversed" = some (.type "reversed") := by decide +kernel
section
variable {X : Cx} {pins : List (Addr × Obj)} {σ : St} {H : Hp} {s : Shared} {h' : Heap}
/-- several records of ours have turned -/
theorem Inv.turnedL {t' : Nat} {ch : List Addr} (I : Inv X pins σ H s) (k : ∀ b o, b ∉ ch → s.heap.get? b = some o → h'.get? b = some o) (hf : ∀ b ∈ ch, FpOk X pins H b) : Inv X pins σ H { s with heap := h', toks := t' } := by
  have nit : ∀ b u, H b = some u → b ∉ ch := fun b u e z => by
    have q := (hf b z).1
    rw [q] at e; cases e
  refine I.step (g' := s.gens) (d' := s.drawn) (ch := ch) (fun b hb => ⟨(hf b hb).2.2.2.1, (hf b hb).2.1, (hf b hb).2.2.2.2.1, (hf b hb).2.2.2.2.2⟩) (fun b o _ _ hc e _ => k b o hc e) (fun b o _ _ hc e _ => ⟨o.slots, k b o hc e⟩)
    (fun _ _ _ _ n => n) (fun b o hc e => ⟨o, k b o hc e⟩) (fun _ _ e => e) (fun _ _ _ e => e) (fun b ps e => ⟨#[], by rw [e]; simp⟩) (fun m hm => ?_) (fun b u e => ?_) I.bare
  · obtain ⟨o, es, ep, ho, r⟩ := hm
    exact ⟨o, es, ep, k _ o (fun z => (hf _ z).2.1 rfl) ho, r⟩
  · refine (I.hok b u e).stay (fun c v hc q => k c v ?_ q) (fun _ q => q) fun _ _ q => q
    rcases hc with z | z
    · rw [z]; exact nit b u e
    · exact nit c _ z
/-- .. and one new object is laid -/
theorem Inv.turnedNew {t' : Nat} {ch : List Addr} {T : Addr} {ob : HO} (I : Inv X pins σ H s) (k : ∀ b o, b ∉ ch → s.heap.get? b = some o → h'.get? b = some o) (hf : ∀ b ∈ ch, FpOk X pins H b) (hT : s.heap.objs.size ≤ T)
    (new : ObjOk X.prog X.w (upd H T ob) h' T ob) : Inv X pins σ (upd H T ob) { s with heap := h', toks := t' } := by
  have hn : H T = none := I.hok.fresh hT
  have nit : ∀ b u, H b = some u → b ∉ ch := fun b u e z => by
    have q := (hf b z).1
    rw [q] at e; cases e
  refine I.step (g' := s.gens) (d' := s.drawn) (ch := ch) (fun b hb => ⟨(hf b hb).2.2.2.1, (hf b hb).2.1, (hf b hb).2.2.2.2.1, (hf b hb).2.2.2.2.2⟩) (fun b o _ _ hc e _ => k b o hc e) (fun b o _ _ hc e _ => ⟨o.slots, k b o hc e⟩)
    (fun b o _ e n => ?_) (fun b o hc e => ⟨o, k b o hc e⟩) (fun b xs e => ?_) (fun b o u e => ?_) (fun b ps e => ⟨#[], ?_⟩) (fun m hm => ?_) (fun b u e => ?_) I.bare
  · rw [upd_ne (Nat.ne_of_lt (Nat.lt_of_lt_of_le (Heap.lt_size e) hT))]; exact n
  · rw [upd_ne (ne_of_none e hn)]; exact e
  · rw [upd_ne (ne_of_none e hn)]; exact e
  · rw [upd_ne (ne_of_none e hn), e]; simp
  · obtain ⟨o, es, ep, ho, r⟩ := hm
    exact ⟨o, es, ep, k _ o (fun z => (hf _ z).2.1 rfl) ho, r⟩
  · by_cases hb : b = T
    · subst hb
      rw [upd_same] at e
      cases e
      exact new
    · rw [upd_ne hb] at e
      refine (I.hok b u e).stay (fun c v hc q => k c v ?_ q) (fun c q => by rw [upd_ne (ne_of_none q hn)]; exact q) fun c xs q => by rw [upd_ne (ne_of_none q hn)]; exact q
      rcases hc with z | z
      · rw [z]; exact nit b u e
      · exact nit c _ z
end
section
variable {X : Cx}
end
section
variable {X : Cx} {tg : Expr}
end
section
variable {X : Cx} {tg : Expr}
end
section
variable {prog : Program} {w : World} {A : Around} {E : Value → Shared → Prop} {s : Shared}
theorem iter_keys {d : Addr} {o : Obj} {es : Array DictEntry} {ep : Nat} {Q : Value → Shared → Prop} (hd : (d == sysModules) = false) (ho : s.heap.get? d = some o) (hc : o.ExactDict) (hdat : o.data = .dict es ep)
    (hQ : Q (.ref s.heap.objs.size) { s with heap := s.heap.push { cls := .type "dict_keyiterator", data := .fields #[.ref d, .int 0 0, .int es.size 0, .int ep 0] } }) :
    wpAny (model prog w) A (pyIter (.ref d)) Q E s := by
  have hT : s.TypeIs (.ref d) "dict" := ⟨o, ho, hc.1⟩
  refine wpAny_pyIter_slot hT F.slot_dict_iter (wpAny_call_entry F.slot_dict_iter hT F.entry_dict_iter ?_ (F.args_dict_iter_1 _))
  unfold Builtin.«dict.__iter__»
  refine wpAny_bind ?_
  unfold Builtin.Dict.dictSlotNone
  refine wpAny_bind (wpAny_notOrdered_dict hT ?_)
  show wpAny _ _ (pure (Value.ref d)) _ _ s
  refine wpAny_pure ?_
  show wpAny _ _ (Builtin.Dict.showsAll d >>= _) _ _ s
  unfold Builtin.Dict.showsAll
  rw [if_neg (by rw [hd]; exact Bool.false_ne_true)]
  refine wpAny_bind (wpAny_pure ?_)
  refine wpAny_bind (wpAny_dictEntries ho hdat ?_)
  refine wpAny_bind (wpAny_dictEpoch ho hdat ?_)
  refine wpAny_bind (wpAny_newObj_type (wpAny_pure ⟨_, rfl, "dict_keyiterator", _, ⟨_, Heap.get?_push_size _ rfl, rfl⟩, F.slot_dict_keyiterator_next.lookup, ?_⟩))
  simpa [rawInt] using hQ
theorem next_key_item {it d : Addr} {i n ep : Nat} {od : Obj} {es : Array DictEntry} {en : DictEntry} {Q : Option Value → Shared → Prop} (hit : s.heap.IsKeyIter it d i n ep) (hod : s.heap.get? d = some od) (hdd : od.data = .dict es ep)
    (hsz : es.size = n) (hx : es[i]? = some en) (hQ : ∀ h', h'.IsKeyIter it d (i + 1) n ep → Heap.SameBut it s.heap h' → Q (some en.key) { s with heap := h' }) : wpAny (model prog w) A (pyNext (.ref it)) Q E s := by
  obtain ⟨o, ho, hc, hd⟩ := id hit
  unfold pyNext
  refine wpAny_bind (wpAny_attempt (wpAny_callSpecial?_slot (name := Str.ofString "__next__") hit.typeIs F.slot_dict_keyiterator_next
    (wpAny_call_entry F.slot_dict_keyiterator_next hit.typeIs F.entry_dict_keyiterator_next ?_ (F.args_dict_keyiterator_next_1 _))))
  refine wpAny_bind (wpAny_pure ?_)
  refine wpAny_bind ?_
  refine wpAny_bind ?_
  first | refine wpAny_bind (wpAny_typeNameOfWhole_keyiter hit.typeIs (wpAny_pure ?_)) | refine wpAny_bind (wpAny_typeNameOf_keyiter hit.typeIs (wpAny_pure ?_))
  refine wpAny_bind (wpAny_fieldsOf ho hd ?_)
  have hown : Builtin.Dict_items.ownsTuple "dict_keyiterator" = false := by decide
  simp only [hown, Bool.false_eq_true, if_false]
  show wpAny _ _ (if (Value.ref d == Value.none) = true then _ else _) _ _ s
  rw [if_neg (show ¬ ((Value.ref d == Value.none) = true) from Bool.false_ne_true)]
  refine wpAny_bind (wpAny_pure ?_)
  refine wpAny_bind (wpAny_dictEntries hod hdd ?_)
  rw [if_neg (by rw [hsz]; simp)]
  refine wpAny_bind (wpAny_pure ?_)
  refine wpAny_bind (wpAny_dictEpoch hod hdd ?_)
  rw [if_neg (by simp)]
  refine wpAny_pure ?_
  obtain ⟨hlt', hen⟩ := Array.getElem?_eq_some_iff.mp hx
  simp only [show ¬ ((i : Int) < 0) from by omega, if_false, Int.toNat_natCast, Array.getElem?_eq_getElem hlt']
  refine wpAny_bind ?_
  first | refine wpAny_bind (wpAny_typeNameOfWhole_keyiter hit.typeIs (wpAny_pure ?_)) | refine wpAny_bind (wpAny_typeNameOf_keyiter hit.typeIs (wpAny_pure ?_))
  refine wpAny_bind (wpAny_isOneOf_keyiter hit.typeIs ?_)
  show wpAny _ _ (setField (.ref it) 1 (rawInt ((i : Int) + 1)) >>= _) _ _ s
  refine wpAny_bind (wpAny_setField ho hd (by simp) ?_)
  have hit' : (s.heap.update it (Obj.mapFields (·.setIfInBounds 1 (rawInt ((i : Int) + 1))))).IsKeyIter it d (i + 1) n ep :=
    ⟨_, Heap.get?_update_self _ ho (Obj.isFreed_of_fields (Obj.data_mapFields hd _)), (Obj.cls_mapFields ..).trans hc, by rw [Obj.data_mapFields hd]; simp [rawInt]⟩
  refine wpAny_bind (wpAny_holding ?_)
  refine wpAny_bind (wpAny_isOneOf_keyiter (s := { s with heap := s.heap.update it (Obj.mapFields (·.setIfInBounds 1 (rawInt ((i : Int) + 1)))) }) hit'.typeIs ?_)
  show wpAny _ _ (pure es[i].key) _ _ _
  rw [hen]
  exact wpAny_pure (wpAny_pure ⟨_, rfl, wpAny_pure (hQ _ hit' (Heap.SameBut.update ..))⟩)
theorem next_key_end {it d : Addr} {i n ep : Nat} {od : Obj} {es : Array DictEntry} {Q : Option Value → Shared → Prop} (hh : A.handled = none) (hit : s.heap.IsKeyIter it d i n ep) (hod : s.heap.get? d = some od) (hdd : od.data = .dict es ep)
    (hsz : es.size = n) (hge : n ≤ i) (hQ : ∀ h', Heap.ExtBut it s.heap h' → Q none { s with heap := h' }) : wpAny (model prog w) A (pyNext (.ref it)) Q E s := by
  obtain ⟨o, ho, hc, hd⟩ := id hit
  unfold pyNext
  refine wpAny_bind (wpAny_attempt (wpAny_callSpecial?_slot (name := Str.ofString "__next__") hit.typeIs F.slot_dict_keyiterator_next
    (wpAny_call_entry F.slot_dict_keyiterator_next hit.typeIs F.entry_dict_keyiterator_next ?_ (F.args_dict_keyiterator_next_1 _))))
  refine wpAny_bind (wpAny_pure ?_)
  refine wpAny_bind ?_
  refine wpAny_bind ?_
  first | refine wpAny_bind (wpAny_typeNameOfWhole_keyiter hit.typeIs (wpAny_pure ?_)) | refine wpAny_bind (wpAny_typeNameOf_keyiter hit.typeIs (wpAny_pure ?_))
  refine wpAny_bind (wpAny_fieldsOf ho hd ?_)
  have hown : Builtin.Dict_items.ownsTuple "dict_keyiterator" = false := by decide
  simp only [hown, Bool.false_eq_true, if_false]
  show wpAny _ _ (if (Value.ref d == Value.none) = true then _ else _) _ _ s
  rw [if_neg (show ¬ ((Value.ref d == Value.none) = true) from Bool.false_ne_true)]
  refine wpAny_bind (wpAny_pure ?_)
  refine wpAny_bind (wpAny_dictEntries hod hdd ?_)
  rw [if_neg (by rw [hsz]; simp)]
  refine wpAny_bind (wpAny_pure ?_)
  refine wpAny_bind (wpAny_dictEpoch hod hdd ?_)
  rw [if_neg (by simp)]
  refine wpAny_pure ?_
  have hge' : es.size ≤ i := by rw [hsz]; exact hge
  simp only [show ¬ ((i : Int) < 0) from by omega, if_false, Int.toNat_natCast, Array.getElem?_eq_none hge']
  refine wpAny_bind ?_
  first | refine wpAny_bind (wpAny_typeNameOfWhole_keyiter hit.typeIs (wpAny_pure ?_)) | refine wpAny_bind (wpAny_typeNameOf_keyiter hit.typeIs (wpAny_pure ?_))
  show wpAny _ _ (setField (.ref it) 0 .none >>= _) _ _ s
  refine wpAny_bind (wpAny_setField ho hd (by simp) ?_)
  show wpAny _ _ (newExc (.type "StopIteration") [] >>= _) _ _ _
  refine wpAny_bind ?_
  simp only [newExc, newTuple]
  refine wpAny_bind (wpAny_newObj_type ?_ (by size_fits))
  refine wpAny_bind (m := firstArgMember _ _) (wpAny_of_eq (a := Value.none) (by first | rfl | (simp only [firstArgMember]; rfl)) ?_)
  refine wpAny_newObj_type ?_ (by size_fits)
  simp only [raiseNew]
  refine wpAny_bind (wpAny_handled ?_)
  rw [show A.in1.handled = none from hh]
  refine wpAny_bind (wpAny_pure (wpAny_throw ?_))
  refine wpAny_bind (wpAny_isInstance (T := "StopIteration") (b := true) ⟨_, Heap.get?_push_size _ rfl, rfl⟩ isSubtype_stop ?_)
  exact wpAny_pure (hQ _ (((Heap.SameBut.update ..).extBut.push _).push _))
end
theorem paired_get {α β : Type} {G : α → β → Prop} {l₁ : List α} {l₂ : List β} (h : Paired G l₁ l₂) : ∀ {i : Nat} {a : α}, l₁[i]? = some a → ∃ b, l₂[i]? = some b ∧ G a b := by
  induction h with
  | nil => intro i a e; simp at e
  | @cons a b l₁ l₂ r t ih =>
    intro i a' e
    cases i with
    | zero =>
      simp only [List.getElem?_cons_zero, Option.some.injEq] at e
      subst e
      exact ⟨b, rfl, r⟩
    | succ j =>
      simp only [List.getElem?_cons_succ] at e ⊢
      exact ih e
section
variable {X : Cx} {pins : List (Addr × Obj)} {σ : St} {H : Hp} {s : Shared} {d : Addr} {o : Obj}
end
section
variable {P : Program} {w : World} {K : PySem.W.Frag} {tg : Expr} {d : Addr} {o : Obj} {es : Array DictEntry} {ep : Nat}
end
section
variable {X : Cx} {tg e : Expr} {td : TE} {apos cpos : Pos}
end
theorem boot_zip5 : bootBuiltins "zip" = some (.type "zip") := by decide +kernel
end L2
section 
namespace Bits
open PySem PyProof.Rows
end Bits
end 
section 
namespace TL
open PySem PySem.Builtin PySem.Builtin.Str PySem.StrLaws
abbrev tl (x : Str) : List Nat := x.cps.toList
/-- S stands at the head of l -/
def pre (S l : List Nat) : Bool := l.take S.length == S
/-- what stands before the first S, and behind it -/
def par (S : List Nat) : List Nat → List Nat → Option (List Nat × List Nat)
  | _, [] => none
  | acc, c :: r => if pre S (c :: r) = true then some (acc, (c :: r).drop S.length) else par S (acc ++ [c]) r
theorem join_eq (y : Str) (parts : List Str) : Txt.join y parts = Str.join y parts := glued_eq_join y parts
end TL
end 
namespace L2
open PySem PySem.Spec PyProof.Rows
/-- a list of texts, of numbered texts -/
theorem vals_strs : ∀ l : List (Str × Tok), Vals ((l.map (·.1)).map V.str) (strValues l)
  | [] => .nil
  | p :: r => .cons ⟨p.2, rfl⟩ (vals_strs r)
theorem strs_of_vals : ∀ {ys : List Str} {us : List Value}, Vals (ys.map V.str) us → StrsAre us ys
  | [], _, .nil => .nil
  | y :: ys, _, .cons r t => by
    obtain ⟨k, rfl⟩ := r
    exact .cons y k (strs_of_vals t)
/-- a new list of texts, tracked -/
def rNewStrs (ys : List Str) : Hp → VK → Prop := fun H Q => ∀ p, H p = none → Q (.ref p) (upd H p (.lst (ys.map V.str)))
section
variable {X : Cx} {pins : List (Addr × Obj)} {σ : St} {H : Hp} {s : Shared} {Q : VK}
theorem laid_strs {l : List (Str × Tok)} {ys : List Str} {k : Nat} (I : Inv X pins σ H s) (e : l.map (·.1) = ys) (hz : ys.length ≤ sizeLine) (h : rNewStrs ys H Q) :
    EP X pins σ Q (.ref s.heap.objs.size) { s with toks := k, heap := s.heap.push { cls := .type "list", data := .seq (strValues l).toArray } } := by
  have hp := I.hok.fresh (Nat.le_refl _)
  refine ⟨.ref s.heap.objs.size, upd H s.heap.objs.size (.lst (ys.map V.str)), I.laid (fun b u q => Heap.get?_push_of_some _ q) (Nat.le_refl _) ⟨by rw [List.length_map]; exact hz, strValues l, _, ?_, Heap.get?_push_size _ rfl⟩, rfl, h _ hp⟩
  rw [← e]
  exact vals_strs l
end
section
variable {X : Cx}
/-- x.split(sep) -/
theorem mt_split : MtR X "str.split" (fun x xs H Q => ∃ a b, x = .str a ∧ xs = [.str b] ∧ (b.length == 0) = false ∧ a.length + 2 ≤ sizeLine ∧ rNewStrs (Txt.split a b) H Q) := by
  intro pins s σ H x xs v us Q I rx rs h
  obtain ⟨a, b, rfl, rfl, hb, hz, h⟩ := h
  obtain ⟨t, rfl⟩ := rx
  cases rs with
  | cons r1 rs =>
    cases rs
    obtain ⟨u, rfl⟩ := r1
    have hl : (Txt.split a b).length ≤ sizeLine := Nat.le_trans (PyProof.Rows.split_le a b) hz
    have hn : (Builtin.Str.partsBetween a (Builtin.Str.occurrences a b 0 a.length (a.length + 1)) b.length).length ≤ sizeLine := by
      have e1 := StrLaws.occ_length_le a b 0 a.length (a.length + 1)
      rw [length_partsBetween]; omega
    cases h1 : (decide (a.length < b.length) || decide (Builtin.Str.strKind a < Builtin.Str.strKind b))
    · cases hf : (Builtin.Str.occurrences a b 0 a.length (a.length + 1)).isEmpty
      · refine call_meets F.slot_str_split (typeIs_str _ _ _) F.entry_str_split (F.args_str_split_2 _ _) (meets_str_split_sep a b t u h1 hb hf (by omega) hn) ?_
        show EP X pins σ Q (.ref s.heap.objs.size) { s with toks := _, heap := s.heap.push { cls := .type "list", data := .seq (strsFrom s.toks (Builtin.Str.partsBetween a (Builtin.Str.occurrences a b 0 a.length (a.length + 1)) b.length)).toArray } }
        rw [strsFrom_eq]
        exact laid_strs (ys := Txt.split a b) I ((numbered_texts _ _).trans ((if_neg (ne_true_of_eq_false h1)).trans (if_neg (ne_true_of_eq_false hf))).symm) hl h
      · refine call_meets F.slot_str_split (typeIs_str _ _ _) F.entry_str_split (F.args_str_split_2 _ _) (meets_str_split_not_found a b t u h1 hb hf) ?_
        exact laid_strs (l := [(a, t)]) (ys := Txt.split a b) (k := s.toks) I ((if_neg (ne_true_of_eq_false h1)).trans (if_pos hf)).symm hl h
    · refine call_meets F.slot_str_split (typeIs_str _ _ _) F.entry_str_split (F.args_str_split_2 _ _) (meets_str_split_cannot_occur a b t u h1) ?_
      exact laid_strs (l := [(a, t)]) (ys := Txt.split a b) (k := s.toks) I (if_pos h1).symm hl h
/-- sep.join(a list | a tuple of texts) -/
theorem mt_join : MtR X "str.join" (fun x xs H Q => ∃ a p, ∃ ys : List Str, x = .str a ∧ xs = [.ref p] ∧ (SqL X.K H p (ys.map V.str) ∨ SqT X.K H p (ys.map V.str)) ∧
    (ys.map (·.length)).sum + ys.length * a.length ≤ 16777216 ∧ Q (.str (Txt.join a ys)) H) := by
  intro pins s σ H x xs v us Q I rx rs h
  obtain ⟨a, p, ys, rfl, rfl, hp, hz, h⟩ := h
  obtain ⟨t, rfl⟩ := rx
  cases rs with
  | cons r1 rs =>
    cases rs
    cases r1
    rcases hp with hp | hp
    · obtain ⟨its, r, ⟨o, n, ho, hc, _, hd⟩, _⟩ := I.list hp
      exact PyProof.Rows.join_list (items := its.toArray) ⟨o, ho, hc, n, hd⟩ (by rw [List.toList_toArray]; exact strs_of_vals r) hz fun t' k => ⟨.str _, H, I.tok k, ⟨t', rfl⟩, h⟩
    · obtain ⟨its, r, ht, _⟩ := I.tuple hp
      exact PyProof.Rows.join_tuple (items := its.toArray) ht (by rw [List.toList_toArray]; exact strs_of_vals r) hz fun t' k => ⟨.str _, H, I.tok k, ⟨t', rfl⟩, h⟩
theorem mt1 {id : String} {g : Str → Str → V} (rule : ∀ (a b : Str) (t u : Tok) (s : Shared) (Q : Value → Shared → Prop), (∀ (v : Value) (k : Nat), RelV (g a b) v → Q v { s with toks := k }) →
    wpAny (model X.prog X.w) X.A (call (.builtin id) [.str a t, .str b u]) Q X.xe s) : MtR X id (fun x xs H Q => ∃ a b, x = .str a ∧ xs = [.str b] ∧ Q (g a b) H) := by
  intro pins s σ H x xs v us Q I rx rs h
  obtain ⟨a, b, rfl, rfl, h⟩ := h
  obtain ⟨t, rfl⟩ := rx
  cases rs with
  | cons r1 rs =>
    cases rs
    obtain ⟨u, rfl⟩ := r1
    exact rule a b t u s _ fun v k r => ⟨g a b, H, I.tok k, r, h⟩
theorem mt_find : MtR X "str.find" (fun x xs H Q => ∃ a b, x = .str a ∧ xs = [.str b] ∧ Q (.int (Txt.find a b)) H) :=
  mt1 (g := fun a b => .int (Txt.find a b)) fun _ _ _ _ s _ h => PySem.SC.find (h _ (s.toks + 1) ⟨_, rfl⟩)
end
section
variable {X : Cx} {o e : Expr} {to te : TE}
def tM1 (r : V → List V → Hp → VK → Prop) (to te : TE) : TE := fun σ H Q => to σ H fun x H1 => (∃ a, x = .str a) ∧ te σ H1 fun y H2 => r x [y] H2 Q
theorem pe_m1 {id : String} {name : Str} {apos pos : Pos} {r : V → List V → Hp → VK → Prop} (slot : Slot "str" name id) (ty : typeOf (.builtin id) = pure (.type "method_descriptor")) (rule : MtR X id r) (ho : PE X o to) (he : PE X e te)
    (hs : starEach [e] X.env = [(false, eval e X.env)] := by rfl) (hbase : attributeBase o name X.env (eval o X.env) = eval o X.env := by rfl) (hline : (apos.endLine == pos.line) = true := by rfl) :
    PE X (.Call (.Attribute o name apos) [e] [] pos) (tM1 r to te) := by
  intro pins s σ H Q I h
  refine PySem.Call_method1 hbase hs hline (thn (ho pins s σ H _ I h) fun v s1 ⟨x, H1, I1, r1, q1⟩ => ?_)
  obtain ⟨⟨a, rfl⟩, q1⟩ := q1
  obtain ⟨t, rfl⟩ := _root_.id r1
  refine ⟨"str", _, F.plainAttrs_str, slot, ty, typeIs_str _ _ _, (fun _ e => nomatch e), Calls.callWith_builtin rfl (Calls.evalArgs_plain (Calls.spliced_cons ?_))⟩
  exact thn (he pins s1 σ H1 _ I1 q1) fun u s2 ⟨y, H2, I2, r2, q2⟩ => Calls.spliced_nil (rule pins s2 σ H2 _ [y] _ [u] Q I2 r1 (.cons r2 .nil) q2)
theorem pe_split {apos pos : Pos} (ho : PE X o to) (he : PE X e te) (hs : starEach [e] X.env = [(false, eval e X.env)] := by rfl) (hbase : attributeBase o "split" X.env (eval o X.env) = eval o X.env := by rfl) (hline : (apos.endLine == pos.line) = true := by rfl) :
    PE X (.Call (.Attribute o "split" apos) [e] [] pos) (tM1 (fun x xs H Q => ∃ a b, x = .str a ∧ xs = [.str b] ∧ (b.length == 0) = false ∧ a.length + 2 ≤ sizeLine ∧ rNewStrs (Txt.split a b) H Q) to te) :=
  pe_m1 F.slot_str_split F.type_str_split mt_split ho he hs hbase hline
theorem pe_join {apos pos : Pos} (ho : PE X o to) (he : PE X e te) (hs : starEach [e] X.env = [(false, eval e X.env)] := by rfl) (hbase : attributeBase o "join" X.env (eval o X.env) = eval o X.env := by rfl) (hline : (apos.endLine == pos.line) = true := by rfl) :
    PE X (.Call (.Attribute o "join" apos) [e] [] pos) (tM1 (fun x xs H Q => ∃ a p, ∃ ys : List Str, x = .str a ∧ xs = [.ref p] ∧ (SqL X.K H p (ys.map V.str) ∨ SqT X.K H p (ys.map V.str)) ∧
      (ys.map (·.length)).sum + ys.length * a.length ≤ 16777216 ∧ Q (.str (Txt.join a ys)) H) to te) :=
  pe_m1 F.slot_str_join F.type_str_join mt_join ho he hs hbase hline
end
end L2
namespace L2
open PySem PySem.Spec PyProof.Rows
section
variable {X : Cx}
end
theorem IsPart.raw {v : Value} {o : Option Int} (p : IsPart v o) : ∃ l : Option (Int × Tok), v = partValue l ∧ l.map (·.1) = o := by
  cases p with
  | none => exact ⟨none, rfl, rfl⟩
  | int i t => exact ⟨some (i, t), rfl, rfl⟩
/-- a part, clipped, as the text's slice reckons it -/
def clipS (n d : Nat) : Option Int → Int
  | none => (d : Int)
  | some i => max 0 (min (if i < 0 then i + (n : Int) else i) (n : Int))
theorem clipS_eq (n d : Nat) (o : Option Int) : clipS n d o = ((HT.sIx n d o : Nat) : Int) := by
  cases o with
  | none => rfl
  | some v =>
    show max (0 : Int) (min (if v < 0 then v + (n : Int) else v) (n : Int)) = (((if v < 0 then (v + (n : Int)).toNat else min v.toNat n) : Nat) : Int)
    by_cases hv : v < 0
    · simp only [if_pos hv]
      omega
    · simp only [if_neg hv]
      omega
theorem sidx_clip (a b : Option Int) (n : Nat) : Builtin.Str.strSliceIndices a b 1 n = sliceRange (clipS n 0 a) (clipS n n b) 1 := by
  have h1 : ((1 : Int) > 0) = True := by simp
  cases a <;> cases b <;> first
    | rfl
    | (simp only [Builtin.Str.strSliceIndices, clipS, h1, if_true]; rfl)
    | simp [Builtin.Str.strSliceIndices, clipS]
theorem sidx (a b : Option Int) (n : Nat) : Builtin.Str.strSliceIndices a b 1 n = (List.range (HT.sIx n n b - HT.sIx n 0 a)).map (fun k => HT.sIx n 0 a + k) := by
  rw [sidx_clip, clipS_eq, clipS_eq]
  generalize HT.sIx n 0 a = p
  generalize HT.sIx n n b = q
  simp only [sliceRange, show ((1 : Int) > 0) = True from by simp, if_true]
  by_cases hlt : (p : Int) < q
  · have e3 : (((q : Int) - p + 1 - 1) / 1).toNat = q - p := by first | omega | (simp; done) | (simp; omega)
    simp only [hlt, if_true, e3]
    refine List.map_congr_left fun k _ => ?_
    omega
  · have : q - p = 0 := by omega
    simp [hlt, this]
/-- z[lo:hi] -/
def cutS (z : Str) (lo hi : Option Int) : Str :=
  ⟨((z.cps.toList.drop (HT.sIx z.length 0 lo)).take (HT.sIx z.length z.length hi - HT.sIx z.length 0 lo)).toArray⟩
theorem sliceText_cut (z : Str) (lo hi : Option Int) : PySem.StrLaws.sliceText z lo hi = cutS z lo hi := by
  have h1 : HT.sIx z.length 0 lo ≤ z.length := HT.sIx_le _ _ (Nat.zero_le _) _
  have h2 : HT.sIx z.length z.length hi ≤ z.length := HT.sIx_le _ _ (Nat.le_refl _) _
  have hp : HT.sIx z.length 0 lo ≤ max (HT.sIx z.length 0 lo) (HT.sIx z.length z.length hi) := Nat.le_max_left _ _
  have hq : max (HT.sIx z.length 0 lo) (HT.sIx z.length z.length hi) ≤ z.length := Nat.max_le.mpr ⟨h1, h2⟩
  have hd : max (HT.sIx z.length 0 lo) (HT.sIx z.length z.length hi) - HT.sIx z.length 0 lo = HT.sIx z.length z.length hi - HT.sIx z.length 0 lo := by omega
  have e : Builtin.Str.strSliceIndices lo hi 1 z.length =
      Builtin.Str.strSliceIndices (some ((HT.sIx z.length 0 lo : Nat) : Int)) (some ((max (HT.sIx z.length 0 lo) (HT.sIx z.length z.length hi) : Nat) : Int)) 1 z.length := by
    rw [PySem.StrLaws.strSliceIndices_plain hp hq, hd, sidx]
  have e2 : PySem.StrLaws.sliceText z lo hi =
      PySem.StrLaws.sliceText z (some ((HT.sIx z.length 0 lo : Nat) : Int)) (some ((max (HT.sIx z.length 0 lo) (HT.sIx z.length z.length hi) : Nat) : Int)) := by
    unfold PySem.StrLaws.sliceText
    rw [e]
  rw [e2, PySem.StrLaws.sliceText_nat z hp hq, hd]
  rfl
theorem cutS_length (z : Str) (lo hi : Option Int) : (cutS z lo hi).length ≤ z.length := by
  show (((z.cps.toList.drop (HT.sIx z.length 0 lo)).take (HT.sIx z.length z.length hi - HT.sIx z.length 0 lo)).toArray).size ≤ z.cps.size
  rw [List.size_toArray, List.length_take, List.length_drop, Array.length_toList]
  omega
def rSlS : V → Option Int → Option Int → Hp → VK → Prop := fun x lo hi H Q => ∃ z, x = .str z ∧ z.length ≤ sizeLine ∧ Q (.str (cutS z lo hi)) H
theorem sl_str {X : Cx} : SlR X rSlS := by
  intro pins s σ H x v vl vu lo hi sl Q I rx hs pl pu h
  obtain ⟨z, rfl, hz, q⟩ := h
  obtain ⟨t, rfl⟩ := rx
  obtain ⟨os, hos, hcs, hds⟩ := hs
  obtain ⟨l, rfl, rfl⟩ := IsPart.raw pl
  obtain ⟨u, rfl, rfl⟩ := IsPart.raw pu
  refine ⟨"str", _, F.slot_str_getitem.lookup, typeIs_str _ _ _, ?_⟩
  refine wpAny_getItem_str_slice (l := l) (u := u) (st := none) ⟨os, hos, hcs, hds⟩ rfl ?_
  have hl : (PySem.StrLaws.sliceText z (l.map (·.1)) (u.map (·.1))).length ≤ sizeLine := by
    rw [sliceText_cut]
    exact Nat.le_trans (cutS_length z _ _) hz
  rw [← sliceText_cut] at q
  unfold PySem.StrLaws.sliceText at q hl
  show Made.post (if ((1 : Int) == 1 && (Builtin.Str.strSliceIndices (l.map (·.1)) (u.map (·.1)) 1 z.length).length == z.length) = true then Made.val (.str z t)
    else Made.str ⟨((Builtin.Str.strSliceIndices (l.map (·.1)) (u.map (·.1)) 1 z.length).filterMap (z.cps[·]?)).toArray⟩) (EP X pins σ Q) s
  by_cases c : ((1 : Int) == 1 && (Builtin.Str.strSliceIndices (l.map (·.1)) (u.map (·.1)) 1 z.length).length == z.length) = true
  · rw [if_pos c] at q ⊢
    exact ⟨.str z, H, I, ⟨t, rfl⟩, q⟩
  · rw [if_neg c] at q hl ⊢
    exact ⟨hl, .str _, H, I.tok _, ⟨_, rfl⟩, q⟩
end L2
namespace Att
open PySem PySem.W PySem.Calls PyProof.Rows
theorem ints_of_wellAll {P : Params} {h : Heap} : ∀ (ns : List Int) (vs : List Value), WellAll P h vs (ns.map WData.int) → IntsAre vs ns := by
  intro ns
  induction ns with
  | nil =>
    intro vs w
    rw [List.map_nil] at w
    cases w
    exact .nil
  | cons n ns ih =>
    intro vs w
    rw [List.map_cons] at w
    cases w with
    | cons a b =>
      cases a
      exact .cons _ _ (ih _ b)
theorem script_of {l : OpenLaw} {n : Nat} (hn : l.most = some n) {P : Params} {h : Heap} {args : List WData} {vals : List Value}
    (hpre : l.row.toRowW.claim.pre args = true) (hwl : WellAll P h vals args) :
    ∃ a vs ns, vals = [Value.ref a] ∧ args = [WData.list (ns.map WData.int)] ∧ h.get? a = some { cls := .type "list", data := .seq vs.toArray } ∧ IntsAre vs ns ∧ ns.length ≤ n := by
  have hsh : WShape.hasAll [] args [.list .int] = true := (pre_splitW hpre).1
  have hc : l.pre.holds [] { args := args } = true := (pre_splitW hpre).2
  obtain ⟨d, r, rfl, h1, h2⟩ := hasAllW_cons hsh
  obtain rfl := hasAllW_nil h2
  obtain ⟨xs, rfl, h3⟩ := hasW_list h1
  obtain ⟨ns, rfl⟩ := items_int h3
  have hlen : ns.length ≤ n := by
    unfold OpenLaw.pre at hc
    have h4 : (WTm.not (.lt (.lit (.int (n : Int))) (.len (.arg 0)))).holds [] { args := [.list (ns.map .int)] } = true := by
      have h4 := (holds_andW hc).1
      rw [hn] at h4
      exact h4
    have h5 := condW_of h4 (w_not (w_lt w_lit (w_len_list (w_arg rfl))))
    rw [List.length_map] at h5
    refine Nat.le_of_not_lt fun q => ?_
    have q' : (n : Int) < ((ns.length : Nat) : Int) := by omega
    first
      | (rw [decide_eq_true q'] at h5; exact absurd h5 (by decide))
      | (simp at h5; omega)
  cases hwl with
  | cons w1 w2 =>
    cases w2
    cases w1 with
    | list ho hall => exact ⟨_, _, ns, rfl, rfl, ho, ints_of_wellAll ns _ hall, hlen⟩
theorem post_true (l : OpenLaw) (args : List WData) : l.row.toRowW.claim.post args (.bool true) args = true :=
  postW_of (r := l.row.toRowW) (X := (true == true))
    (show WShape.has [] (.bool true) .bool = true by first | rfl | decide | simp [WShape.has, WShape.arms, WShape.armsAll])
    (show (WTm.eq .res (.lit (.bool true))).value [] { args := args, res := some (.bool true), after := args } = some (.bool (true == true)) from w_eq_bool (w_res rfl) w_lit) rfl
/-- the same from a codeAny of the CALL (for a layer whose function contracts speak of calls) -/
theorem attach_call {l : OpenLaw} {n : Nat} {q : Program} {loose : List Str} {XP : (Str → Option Value) → Heap → Prop} {YP : World → Heap → Prop} {d : DefRec}
    (hn : l.most = some n) (hdf : d.params.defaults = [])
    (call : ∀ (w : World) (s₀ s₁ : Shared) (mg mb : Str → Option Value) (fa : Addr) (o : Obj) (pm cd doc : Value) (a : Addr) (vs : List Value) (ns : List Int),
      Ground q loose [] XP w s₀ mg mb s₁.heap → YP w s₁.heap →
      s₁.heap.get? fa = some o → o.data = .func (docDef d.name d.params d.body d.scope pm cd doc) → s₁.heap.CodeRec cd d.name → mg d.name = some (.ref fa) →
      s₁.heap.get? a = some { cls := .type "list", data := .seq vs.toArray } → IntsAre vs ns → ns.length ≤ n → s₁.gens = #[] →
      codeAny (model l.prog w) callerA (.call (.ref fa) ⟨[.ref a], []⟩) (fun r s' => r = .ok (.ret (.bool true)) ∧ OldK s₁.heap s'.heap ∧ s'.os = s₁.os ∧ AllBare s'.gens) s₁) :
    WalkO q loose XP YP l.row.toRowW d [] (fun f vs => PySem.call f vs) := by
  intro w s₀ s₁ mg mb G Y fa o pm cd doc dV kV ho hd hcd hD hmg hg args vals as hpre hlay hrd hwl hlo
  obtain rfl : dV = .none := Dflts.none hD hdf
  obtain rfl : kV = .none := Dflts.noKw hD
  obtain ⟨a, vs, ns, rfl, rfl, hobj, hints, hlen⟩ := script_of hn hpre hwl
  refine enter_call (codeAny_mono (call w s₀ s₁ mg mb fa o pm cd doc a vs ns G Y ho (fd_plain hd) hcd hmg hobj hints hlen hg) fun r s' hq => ?_)
  obtain ⟨rfl, h2, h3, h4⟩ := hq
  exact ⟨.inl ⟨.bool true, .bool true, [], rfl, fun _ => rfl, .bool true, post_true l _, fun _ => ⟨List.Pairwise.nil, fun _ hm => (nomatch hm)⟩⟩, h2, h3, h4⟩
section
variable {prog : Program} {w : World} {A : Around} {E : Value → Shared → Prop} {s : Shared} {K : Frag}
end
end Att
namespace L2
open PySem PySem.Spec PyProof.Rows
theorem vals_ints : ∀ {vs : List Value} {ns : List Int}, IntsAre vs ns → Vals (ns.map V.int) vs
  | _, _, .nil => .nil
  | _, _, .cons n t h => .cons ⟨t, rfl⟩ (vals_ints h)
/-- nothing is tracked but the script, known to the object (or it is an object of the module) -/
def Only (H : Hp) : Prop := ∀ b, H b = none ∨ ∃ o xs, H b = some (.frz o (.lst xs))
/-- THE HEAD: the law's promise, at the heap behind the top. F, the promise of the law's def, may use that base is part of the heap (so K.In base, base.Ns mainGlobals mg stand in Mod) -/
theorem law_call {P : Program} {w : World} {K : PySem.W.Frag} {mg mb : Str → Option Value} {CX : CXT} {k : Nat} {fa a : Addr} {fd : FuncData} {x : Str} {sp : Sp} {s₁ : Shared} {vs : List Value} {ns : List Int}
    (KX : K.In s₁.heap) (hns : s₁.heap.Ns mainGlobals mg) (hb : s₁.heap.Ns builtinsNs mb) (hbb : ∀ x : Str, x ≠ "__name__" → mb x = bootBuiltins x) (hlim : s₁.heap.NoLimit) (hdig : s₁.heap.NoDigits) (hsee : s₁.heap.NoSeer) (hg : s₁.gens = #[])
    (ha : s₁.heap.get? a = some { cls := .type "list", data := .seq vs.toArray }) (hi : IntsAre vs ns) (hl : ns.length ≤ sizeLine) (hr : Room k callerA)
    (F : ∀ base : Heap, K.In base → base.Ns mainGlobals mg → FnOk P w K mg base CX k fa fd [x] sp) (hbind : ∀ (s : Shared) (u : Value), BindsTo s fd ⟨[u], []⟩ [(x, u)])
    (hsp : ∀ H : Hp, Only H → SqL K H a (ns.map V.int) → sp [.ref a] H (fun v _ => v = .bl true) fun _ _ _ => False)
    (hCX : ∀ H e s', CX [] H s₁ (fun _ _ _ => False) e s' → False) :
    codeAny (model P w) callerA (.call (.ref fa) ⟨[.ref a], []⟩) (fun r s' => r = .ok (.ret (.bool true)) ∧ OldK s₁.heap s'.heap ∧ s'.os = s₁.os ∧ AllBare s'.gens) s₁ := by
  have rv := vals_ints hi
  have lenV := hi.length
  -- from an abstract heap in which nothing but the script may be tracked
  have core : ∀ H : Hp, Only H → SqL K H a (ns.map V.int) → HOk P w H s₁.heap → (∀ b, H b ≠ none → b = a) → (H a ≠ none → K.lookup a = none) →
      codeAny (model P w) callerA (.call (.ref fa) ⟨[.ref a], []⟩) (fun r s' => r = .ok (.ret (.bool true)) ∧ OldK s₁.heap s'.heap ∧ s'.os = s₁.os ∧ AllBare s'.gens) s₁ := by
    intro H hO hS hok hA hK
    have base_of : ∀ {b : Addr} {o : Obj}, s₁.heap.get? b = some o → H b = none → (hidT s₁.heap H).get? b = some o := fun e n => hidT_get e n
    have noA : ∀ {b : Addr} {o : Obj} {es : Array DictEntry} {ep : Nat}, s₁.heap.get? b = some o → o.data = .dict es ep → H b = none := fun {b o es ep} e d => by
      cases q : H b with
      | none => rfl
      | some u =>
        have e' : b = a := hA b (by rw [q]; simp)
        subst e'
        rw [ha] at e; cases e
        have d' : Data.seq vs.toArray _ = Data.dict es ep := d
        cases d'
    have nsK : ∀ {b : Addr} {m : Str → Option Value}, s₁.heap.Ns b m → (hidT s₁.heap H).Ns b m := fun {b m} ⟨o, es, ep, e, d, r⟩ => ⟨o, es, ep, base_of e (noA e d), d, r⟩
    have hKb : K.In (hidT s₁.heap H) := fun b o e => base_of (KX b o e) (by
      cases q : H b with
      | none => rfl
      | some u =>
        have e' : b = a := hA b (by rw [q]; simp)
        subst e'
        rw [hK (by rw [q]; simp)] at e; cases e)
    have hM : Mod K mg (hidT s₁.heap H) := ⟨hKb, nsK hns, ⟨mb, nsK hb, hbb⟩, let ⟨mc, h1, h2⟩ := hlim; ⟨mc, nsK h1, h2⟩, let ⟨mc, h1, h2⟩ := hdig; ⟨mc, nsK h1, h2⟩, ⟨let ⟨mc, h1, h2⟩ := hsee.statics; ⟨mc, nsK h1, h2⟩, let ⟨mc, h1, h2⟩ := hsee.mods; ⟨mc, nsK h1, h2⟩, let ⟨mc, h1, h2⟩ := hsee.imp; ⟨mc, nsK h1, h2⟩, let ⟨mg', bm, ob, h1, h2, h3, h4, h5⟩ := hsee.main; ⟨mg', bm, ob, nsK h1, h2, base_of h3 (by
      cases q : H bm with
      | none => rfl
      | some u =>
        have e' : bm = a := hA bm (by rw [q]; simp)
        subst e'
        rw [ha] at h3; cases h3
        exact absurd (Value.type.inj h4) (by decide)), h4, h5⟩⟩⟩
    have e0 : Env0 P w K mg (hidT s₁.heap H) callerA [] s₁ H := ⟨rfl, hM, fun b o e => of_hidT e, Nat.le_of_eq (hidT_size _ _), trivial, fun b hb => absurd (show b ∈ ([] : List Addr) from hb) (by simp), hok, .of_eq hg⟩
    refine codeAny_mono ((F _ hKb (nsK hns)).run callerA [] s₁ H ⟨[.ref a], []⟩ [.ref a] [.ref a] _ _ hr e0 (hbind s₁ (.ref a)) (.cons rfl .nil) (hsp H hO hS)) fun r s' h => ?_
    cases r with
    | error e => exact (hCX H e s' h).elim
    | ok fl =>
      cases fl with
      | next => exact False.elim h
      | brk => exact False.elim h
      | cont => exact False.elim h
      | ret u =>
        obtain ⟨v, H', os, bare, un, hok', r', q⟩ := h
        have q' : v = .bl true := q
        subst q'
        obtain rfl : u = Value.bool true := r'
        refine ⟨rfl, OldK.of_keep fun b o e => ?_, os, bare⟩
        cases q : H b with
        | none => exact un.keep b o e q (by intro z; exact absurd (show b ∈ ([] : List Addr) from z) (by simp)) (by simp)
        | some u =>
          rcases hO b with z | ⟨ob, xs, z⟩
          · rw [q] at z; cases z
          · have z2 := un.frzs b ob _ z
            obtain ⟨e1, _⟩ := hok b _ z
            obtain ⟨e2, _⟩ := hok' b _ z2
            rw [e] at e1; cases e1
            exact e2
  cases hk : K.lookup a with
  | some o =>
    -- the script is one of the module's own objects
    have e := KX a o hk
    rw [ha] at e
    cases e
    refine core (fun _ => none) (fun _ => .inl rfl) (.inr ⟨_, vs.toArray, _, hk, rfl, rfl, rfl, by rw [List.size_toArray, lenV]; exact hl, by simpa using rv⟩) (fun b u z => by have z' : (none : Option HO) = some u := z; cases z') (fun b z => absurd rfl z) fun z => absurd rfl z
  | none =>
    refine core (fun b => if b = a then some (.frz { cls := .type "list", data := .seq vs.toArray } (.lst (ns.map V.int))) else none) (fun b => ?_) (.inl (.inr ⟨{ cls := .type "list", data := .seq vs.toArray }, if_pos rfl⟩)) (fun b u z => ?_) (fun b z => ?_) fun _ => hk
    · by_cases hb : b = a
      · exact .inr ⟨_, _, if_pos hb⟩
      · exact .inl (if_neg hb)
    · by_cases hb : b = a
      · have z' := (if_pos hb).symm.trans z
        cases z'
        subst hb
        exact ⟨ha, by rw [List.length_map]; exact hl, vs, _, rv, ha⟩
      · have z' := (if_neg hb).symm.trans z
        cases z'
    · by_cases hb : b = a
      · exact hb
      · exact absurd (if_neg hb) z
end L2
namespace L2
open PySem PySem.Spec PyProof.Rows
/-- the goal that k_head leaves (case hc), from the law's promise. F gives the function object fd (K's own) once, then the promise over every base -/
theorem walk_of {l : PySem.W.OpenLaw} {n k : Nat} {q : Program} {loose : List Str} {XP : (Str → Option Value) → Heap → Prop} {YP : World → Heap → Prop} {d : DefRec} {K : Params → PySem.W.Frag} {CX : World → CXT} {sp : World → Sp} {x : Str}
    (hn : l.most = some n) (hn2 : n ≤ sizeLine) (hdf : d.params.defaults = []) (hI : importsNone q = true) (hr : Room k callerA)
    (hY : ∀ (w : World) (h : Heap), YP w h → (K w.params).In h)
    (F : ∀ (w : World) (mg : Str → Option Value) (fa : Addr) (h : Heap), (K w.params).In h → h.Ns mainGlobals mg → mg d.name = some (.ref fa) →
      ∃ fd : FuncData, (∀ (s : Shared) (u : Value), BindsTo s fd ⟨[u], []⟩ [(x, u)]) ∧
        ∀ base : Heap, (K w.params).In base → base.Ns mainGlobals mg → FnOk l.prog w (K w.params) mg base (CX w) k fa fd [x] (sp w))
    (hsp : ∀ (w : World) (H : Hp) (a : Addr) (ns : List Int), ns.length ≤ n → Only H → SqL (K w.params) H a (ns.map V.int) → sp w [.ref a] H (fun v _ => v = .bl true) fun _ _ _ => False)
    (hCX : ∀ (w : World) (H : Hp) (s : Shared) (e : Value) (s' : Shared), CX w [] H s (fun _ _ _ => False) e s' → False) :
    PySem.W.WalkO q loose XP YP l.row.toRowW d [] (fun f vs => PySem.call f vs) := by
  refine Att.attach_call hn hdf fun w s₀ s₁ mg mb fa o pm cd doc a vs ns G Y ho hd hcd hmg hobj hints hlen hg => ?_
  have KX := hY w _ Y
  obtain ⟨fd, hb, hF⟩ := F w mg fa _ KX G.T.g hmg
  exact law_call KX G.T.g G.T.b G.T.builtins G.T.nolimit G.T.nodigits (G.T.seer hI) hg hobj hints (Nat.le_trans hlen hn2) hr hF hb (fun H hO hS => hsp w H a ns hlen hO hS) fun H e s' => hCX w H s₁ e s'
end L2
namespace L2
open PySem PySem.Spec PyProof.Rows
def defArgs (s : Stmt) : Arguments := match s with
  | .FunctionDef _ a _ _ _ _ _ _ _ _ => a
  | _ => { posonlyargs := [], args := [], vararg := none, kwonlyargs := [], kw_defaults := [], kwarg := none, defaults := [] }
def defBody (s : Stmt) : List Stmt := match s with
  | .FunctionDef _ _ b _ _ _ _ _ _ _ => b
  | _ => []
def defScope (s : Stmt) : Scope := match s with
  | .FunctionDef _ _ _ _ _ _ sc _ _ _ => sc
  | _ => { kind := .function, names := [], isGenerator := false, isCoroutine := false }
abbrev CX0 : CXT := fun _ _ _ _ _ _ => False
abbrev E0 : XK := fun _ _ _ => False
theorem pass0 {X : Cx} : Passes CX0 X E0 := fun _ _ _ _ _ _ _ h => h.elim
structure Fun (K : PySem.W.Frag) (x qual : Str) (st : Stmt) (f : Addr) (fd : FuncData) : Prop where
  ex : ∃ (oc : Value) (od : Option Addr) (kV doc pm : Value) (an : Option Addr) (cdv ct : Value) (osl : Array (Option Value)),
    fd = PySem.W.fnOf x qual (defArgs st) (defBody st) (defScope st) .none kV doc pm an cdv ct ∧ K.lookup f = some ⟨oc, od, .func fd, osl⟩ ∧ PySem.W.codeIn K cdv qual = true
  kp : PySem.W.keepIn K (.ref f) = true
section
variable {P : Program} {w : World} {K : PySem.W.Frag} {mg : Str → Option Value} {base : Heap}
/-- THE RULE for a def: its body as a term of rules, and the reading of that term -/
theorem Fun.ok {x qual : Str} {st : Stmt} {f : Addr} {fd : FuncData} {N ps : List Str} {k : Nat} {sp : Sp} (F : Fun K x qual st f fd) (S : FnScope N ps (defScope st)) (len : ∀ vs H Q E, sp vs H Q E → vs.length = ps.length)
    (hbody : ∀ (cdv : Value) (A : Around) (outer : List Env) (s : Shared) (H : Hp) (vs : List V) (Q : VK) (E : XK), Room k (A.deeper (envOfC qual (defScope st) s.heap.objs.size f cdv)) → sp vs H Q E →
      ∃ t, PSs (cxOf CX0 P w K mg base N qual (defScope st) f cdv A outer s H E).nox (defBody st) t ∧ t { nx := fun _ H' => Q .non H', rt := Q } (start N vs) H) : FnOk P w K mg base CX0 (k + 1) f fd ps sp := by
  obtain ⟨oc, od, kV, doc, pm, an, cdv, ct, osl, rfl, lk, hcd⟩ := F.ex
  refine fn_of lk hcd S len fun A outer s H vs Q E hr hsp => ?_
  obtain ⟨t, h, q⟩ := hbody cdv A outer s H vs Q E hr hsp
  exact ⟨t, h.nox, q⟩
/-- how its arguments bind (no defaults): h is «fun _ _ _ _ _ _ us hl => match us, hl with | [_, _], _ => rfl», one _ a parameter -/
theorem Fun.binds {x qual : Str} {st : Stmt} {f : Addr} {fd : FuncData} {ps : List Str} (F : Fun K x qual st f fd)
    (h : ∀ (kV doc pm : Value) (an : Option Addr) (cdv ct : Value) (us : List Value), us.length = ps.length → bindArgs (PySem.W.fnOf x qual (defArgs st) (defBody st) (defScope st) .none kV doc pm an cdv ct) ⟨us, []⟩ = pure (ps.zip us)) : Binds K fd ps [] := by
  obtain ⟨oc, od, kV, doc, pm, an, cdv, ct, osl, rfl, lk, hcd⟩ := F.ex
  exact .all (h kV doc pm an cdv ct)
theorem fun_mk {x qual : Str} {st : Stmt} {f : Addr} {oc : Value} {od an : Option Addr} {osl : Array (Option Value)} {kV doc pm cdv ct : Value} (l : K.lookup f = some ⟨oc, od, .func (PySem.W.fnOf x qual (defArgs st) (defBody st) (defScope st) .none kV doc pm an cdv ct), osl⟩)
    (c : PySem.W.codeIn K cdv qual = true) (k : PySem.W.keepIn K (.ref f) = true) : Fun K x qual st f (PySem.W.fnOf x qual (defArgs st) (defBody st) (defScope st) .none kV doc pm an cdv ct) := ⟨⟨oc, od, kV, doc, pm, an, cdv, ct, osl, rfl, l, c⟩, k⟩
end
theorem hu_of {A : Around} {k : Nat} (hr : Room k A) : A.units + 1 < cLine := Nat.lt_of_le_of_lt (Nat.add_le_add_left (by decide : 1 ≤ 64) _) hr.units
section
variable {X : Cx}
theorem pv (i : Nat) {x : Str} {pos : Pos} (hN : X.N[i]? = some x := by rfl) (hv : Vis X.env.scope x := by first | exact Or.inl rfl | exact Or.inr (Or.inl rfl) | exact Or.inr (Or.inr rfl)) (hd : (x == ("__debug__" : Str)) = false := by decide)
    (hcd : (x == ("__classdict__" : Str)) = false := by decide) : PE X (.Name x pos) (tVar i) := pe_var hN hv hd hcd
end
theorem iteF {A B : Prop} (h : B) : if false = true then A else B := by
  rw [if_neg Bool.false_ne_true]
  exact h
theorem iteT {A B : Prop} (h : A) : if true = true then A else B := by
  rw [if_pos rfl]
  exact h
theorem ite2 {c A B : Prop} [Decidable c] (h1 : c → A) (h2 : ¬ c → B) : if c then A else B := by
  by_cases h : c
  · rw [if_pos h]
    exact h1 h
  · rw [if_neg h]
    exact h2 h
/-- all that was tracked is as it was -/
def Same (H H' : Hp) : Prop := ∀ b o, H b = some o → H' b = some o
theorem Same.refl (H : Hp) : Same H H := fun _ _ h => h
theorem Same.trans {H H1 H2 : Hp} (a : Same H H1) (b : Same H1 H2) : Same H H2 := fun c o h => b c o (a c o h)
theorem Same.free {H H' : Hp} (e : Same H H') {l : Addr} (h : H' l = Option.none) : H l = Option.none := by
  cases q : H l with
  | none => rfl
  | some o =>
    rw [e l o q] at h
    cases h
theorem Same.seq {K : PySem.W.Frag} {H H' : Hp} {a : Addr} {xs : List V} (e : Same H H') (h : SqL K H a xs) : SqL K H' a xs := by
  rcases h with (h | ⟨o, h⟩) | h
  · exact .inl (.inl (e _ _ h))
  · exact .inl (.inr ⟨o, e _ _ h⟩)
  · exact .inr h
section
variable {κ : Type} [DecidableEq κ]
end
/-- a new instance and its __init__ leave all that was tracked as it was -/
theorem Same.made {H H1 : Hp} {x dx C : Addr} (nx : H x = Option.none) (nd : H dx = Option.none) (k : ∀ b o, (upd (upd H dx (.own x)) x (.ins C dx [])) b = some o → b ≠ x → H1 b = some o) : Same H H1 := fun b o e =>
  k b o (by rw [upd_ne (ne_of_none e nx), upd_ne (ne_of_none e nd)]; exact e) (ne_of_none e nx)
end L2
set_option Elab.async false
set_option maxRecDepth 100000
namespace PySem
open Sem (wp)
namespace F
theorem lri_no_len : typeLookup (.type "list_reverseiterator") "__len__" = pure none := by rw [typeLookup_type, builtinLookup_eq_fast]; kernel_rfl
theorem slot_lri_hint : Slot "list_reverseiterator" "__length_hint__" "list_reverseiterator.__length_hint__" :=
  .of (owner := "list_reverseiterator") (n := "__length_hint__") (by rw [typeLookup_type, builtinLookup_eq_fast]; kernel_rfl) (by decide +kernel) (by decide +kernel) (by decide +kernel)
    (by first | exact .inl (by decide +kernel) | exact .inr (by decide +kernel)) (by rw [isSubtype_type]; kernel_rfl)
end F
section
variable {prog : Program} {w : World} {A : Around} {E : Value → Shared → Prop} {s : Shared}
theorem wpAny_hint_rev {r l : Addr} {i : Int} {Q : Bool → Shared → Prop} (hr : s.heap.IsRevIter r l i)
    (h : Q false s) : wpAny (model prog w) A (Builtin.List.listLengthHint (.ref r)) Q E s := by
  unfold Builtin.List.listLengthHint
  refine wpAny_bind (wpAny_specialOf hr.typeIs F.lri_no_len ?_)
  show wpAny _ A (specialOf (Value.ref r) (Str.ofString "__length_hint__") >>= _) _ _ _
  refine wpAny_bind (wpAny_specialOf hr.typeIs F.slot_lri_hint.lookup ?_)
  generalize hid : ("list_reverseiterator.__length_hint__" : String) = id0
  wp_delta
  rw [show splitId id0 = some ("list_reverseiterator", "__length_hint__") from by subst hid; decide +kernel]
  subst hid
  refine wpAny_bind (wpAny_isInstance (T := "list_reverseiterator") (b := true) hr.typeIs (by rw [isSubtype_type]; kernel_rfl) ?_)
  refine wpAny_ite_split (fun hab => absurd hab (by decide)) (fun _ => ?_)
  refine wpAny_ite_split (fun _ => ?_) (fun hab => absurd (by decide +kernel) hab)
  refine wpAny_ite_split (fun hab => absurd hab (by decide +kernel)) (fun _ => ?_)
  exact wpAny_pure h
end
end PySem
namespace PySem
section
variable {prog : Program} {w : World} {A : Around} {E : Value → Shared → Prop} {s : Shared}
theorem wpAny_extend_rev {R : Result → Shared → Prop} {r l : Addr} {items : Array Value} (hh : A.handled = none) (hr : s.heap.IsRevIter r l ((items.size : Int) - 1)) (hl : s.heap.IsList l items) (hne : l ≠ r)
    (hlen : items.size ≤ sizeLine) (S : Addr) (hSl : S ≠ l) (res : Value) (c₀ : Nat) (hS : s.heap.get? S = some { cls := .type "list", data := .seq #[] c₀ })
    (hR : ∀ h' tk acc' c', (∀ b o, b ≠ S → b ≠ r → s.heap.get? b = some o → h'.get? b = some o) → h'.get? S = some { cls := .type "list", dict := none, data := .seq acc' c', slots := #[] } →
      ItemsOf (fun i v => items[items.size - 1 - i]? = some v) acc' items.size → R (.ok (.ret res)) { s with heap := h', toks := tk }) :
    wpAny (model prog w) A.in1 (Builtin.List.listExtendWith (.ref S) (.ref r) res)
      (fun fin s' => match fin with | .done f => R (.ok f) s' | .again c' => c'.quiet = true ∧ codeAny (model prog w) A c' R s') (fun e s' => R (.error e) s') s := by
  have hSr : S ≠ r := fun e => by
    obtain ⟨o, ho, hc, _⟩ := hr
    rw [← e, hS] at ho
    cases ho
    exact absurd (show Value.type "list" = Value.type "list_reverseiterator" from hc) (by decide)
  have hSf : S ∉ [r, l] := fun hm => by
    rcases List.mem_cons.mp hm with z | z
    · exact hSr z
    · exact hSl (List.mem_singleton.mp z)
  have W := (Walks.listRev (prog := prog) (w := w) (A := A.in1) hh r l hne items).toS
  unfold Builtin.List.listExtendWith
  refine wpAny_bind (wpAny_typeOf (T := "list_reverseiterator") hr.typeIs ?_)
  have h1 : Builtin.List.listSameRef (.ref S) (.ref r) = false := by simp [Builtin.List.listSameRef, hSr]
  have h2 : (Value.type "list_reverseiterator" == Value.type "list") = false := by decide
  have h3 : (Value.type "list_reverseiterator" == Value.type "tuple") = false := by decide
  simp only [h1, h2, h3, Bool.or_false, Bool.false_eq_true, if_false]
  refine wpAny_bind (wpAny_pyIter_revIter hr ?_)
  refine wpAny_bind (wpAny_holding (wpAny_hint_rev hr ?_))
  refine wpAny_ite_split (fun hab => absurd hab (by decide +kernel)) (fun _ => ?_)
  have hr0 : s.heap.IsRevIter r l ((items.size : Int) - 1 - ((0 : Nat) : Int)) := by simpa using hr
  refine wpAny_pure ⟨plainId_quiet F.plain_extend_loop _, codeAny_extend_loopS W hlen S hSf res items.size 0 _ #[] c₀ rfl (Nat.zero_le _) ⟨Nat.zero_le _, hr0, hl⟩ hS (ItemsOf.nil _) fun s' acc' c' hm hS' hacc => ?_⟩
  rw [Moved.eq_with hm]
  refine hR s'.heap s'.toks acc' c' (fun b o hb hb2 e => hm.heap b o (fun hmem => ?_) e) hS' hacc
  rcases List.mem_cons.mp hmem with e' | hmem
  · exact hb e'
  · exact hb2 (List.mem_singleton.mp hmem)
theorem wpAny_list_init_rev {R : Result → Shared → Prop} {r l : Addr} {items : Array Value} (hh : A.handled = none) (hr : s.heap.IsRevIter r l ((items.size : Int) - 1)) (hl : s.heap.IsList l items) (hne : l ≠ r)
    (hlen : items.size ≤ sizeLine) (S : Addr) (hSl : S ≠ l) (hSr : S ≠ r) (hS : s.heap.get? S = some { cls := .type "list", data := .seq #[] })
    (hR : ∀ h' tk acc' c', (∀ b o, b ≠ S → b ≠ r → s.heap.get? b = some o → h'.get? b = some o) → h'.get? S = some { cls := .type "list", dict := none, data := .seq acc' c', slots := #[] } →
      ItemsOf (fun i v => items[items.size - 1 - i]? = some v) acc' items.size → R (.ok (.ret .none)) { s with heap := h', toks := tk }) :
    wpAny (model prog w) A.in1 (Builtin.«list.__init__» ⟨[.ref S, .ref r], []⟩)
      (fun fin s' => match fin with | .done f => R (.ok f) s' | .again c' => c'.quiet = true ∧ codeAny (model prog w) A c' R s') (fun e s' => R (.error e) s') s := by
  show wpAny _ _ (do let old ← Builtin.List.listItems (.ref S); Builtin.List.listUpdate (.ref S) (fun _ => #[]); letGo old.toList.reverse; Builtin.List.listExtendWith (.ref S) (.ref r) .none) _ _ s
  refine wpAny_bind ?_
  unfold Builtin.List.listItems
  refine wpAny_bind (wpAny_seqItems hS rfl (wpAny_pure ?_))
  show wpAny _ _ (updateSeq S (fun _ => #[]) >>= fun _ => letGo (#[] : Array Value).toList.reverse >>= fun _ => Builtin.List.listExtendWith (.ref S) (.ref r) .none) _ _ s
  refine wpAny_bind (wpAny_updateSeq hS rfl ?_)
  have hS₂ := Heap.get?_update_self (Obj.mapSeq (fun _ => (#[] : Array Value))) hS rfl
  have oth : ∀ b o, b ≠ S → s.heap.get? b = some o → (s.heap.update S (Obj.mapSeq (fun _ => (#[] : Array Value)))).get? b = some o :=
    fun b o hb e => (Heap.get?_update_other _ _ (Ne.symm hb)).trans e
  refine wpAny_bind (wpAny_letGo ?_)
  refine wpAny_extend_rev hh (hr.at fun o e => oth r o (Ne.symm hSr) e) (hl.at fun o e => oth l o (Ne.symm hSl) e) hne hlen S hSl .none _ hS₂ fun h' tk acc' c' hk hS' hacc => ?_
  exact hR h' tk acc' c' (fun b o hb hb2 e => hk b o hb hb2 (oth b o hb e)) hS' hacc
theorem call_list_rev {Q : Value → Shared → Prop} {r l : Addr} {items : Array Value} (hh : A.handled = none) (hr : s.heap.IsRevIter r l ((items.size : Int) - 1)) (hl : s.heap.IsList l items) (hne : l ≠ r)
    (hlen : items.size ≤ sizeLine)
    (hQ : ∀ h' tk acc' c', (∀ b o, b ≠ r → s.heap.get? b = some o → h'.get? b = some o) →
      h'.get? s.heap.objs.size = some { cls := .type "list", dict := none, data := .seq acc' c', slots := #[] } → ItemsOf (fun i v => items[items.size - 1 - i]? = some v) acc' items.size → Q (.ref s.heap.objs.size) { s with heap := h', toks := tk }) :
    wpAny (model prog w) A (call (.type "list") [.ref r]) Q E s := by
  refine callType_codes (Q₁ := fun obj s₁ => obj = .ref s.heap.objs.size ∧ s₁ = { s with heap := s.heap.push { cls := .type "list", data := .seq #[] } }) F.called_list (F.typeCall_list_1 _) F.entry_list_init
    (code_list_new _ ⟨rfl, rfl⟩) fun obj s₁ h₁ => ?_
  obtain ⟨rfl, rfl⟩ := h₁
  have hS : (s.heap.push { cls := .type "list", data := .seq #[] }).get? s.heap.objs.size = some { cls := .type "list", data := .seq #[] } := Heap.get?_push_size _ rfl
  obtain ⟨o1, e1, _⟩ := id hr
  obtain ⟨o2, e2, _⟩ := id hl
  refine ⟨⟨_, hS, rfl⟩, F.args_list_init_2 _ _, wpAny_list_init_rev (A := A.in1) hh (hr.at fun o e => Heap.get?_push_of_some _ e) (hl.at fun o e => Heap.get?_push_of_some _ e) hne hlen _ (Nat.ne_of_gt (Heap.lt_size e2)) (Nat.ne_of_gt (Heap.lt_size e1)) hS fun h' tk acc' c' hk hS' hacc => ?_⟩
  exact ⟨rfl, hQ h' tk acc' c' (fun b o hb e => hk b o (Nat.ne_of_lt (Heap.lt_size e)) hb (Heap.get?_push_of_some _ e)) hS' hacc⟩
end
end PySem
namespace L2
open PySem PySem.Spec PyProof.Rows
def tLR (K : PySem.W.Frag) (ta : TA) : TE := fun σ H Q => ta σ H fun vs H1 => ∃ (a : Addr) (xs : List V), vs = [.ref a] ∧ SqL K H1 a xs ∧ ∀ l, H1 l = none → Q (.ref l) (upd H1 l (.lst xs.reverse))
theorem vals_rev {xs : List V} {its : List Value} {acc : Array Value} (r : Vals xs its) (h : ItemsOf (fun i v => its.toArray[its.toArray.size - 1 - i]? = some v) acc its.toArray.size) : Vals xs.reverse acc.toList := by
  have e : acc.toList = its.reverse := by
    obtain ⟨h1, h2⟩ := h
    apply List.ext_getElem?
    intro i
    by_cases hi : i < acc.size
    · have q := h2 i acc[i] (by simp [hi])
      rw [List.getElem?_reverse (by simp at h1; omega)]
      simp at q h1 ⊢
      rw [q]
      simp [hi]
    · rw [List.getElem?_eq_none (by simp; omega), List.getElem?_eq_none (by simp at h1 ⊢; omega)]
  rw [e]
  clear h e
  have key : ∀ {xs : List V} {its : List Value} {ys : List V} {us : List Value}, Vals xs its → Vals ys us → Vals (xs.reverse ++ ys) (its.reverse ++ us) := by
    intro xs its ys us r
    induction r generalizing ys us with
    | nil => intro q; exact q
    | cons p _ ih =>
      intro q
      simp only [List.reverse_cons, List.append_assoc, List.singleton_append]
      exact ih (.cons p q)
  have := key r (.nil)
  simpa using this
section
variable {X : Cx}
theorem pe_listrev {e : Expr} {ta : TA} {p p2 pos pos2 : Pos} (hc : X.calm = true) (hg : Gl X "list") (hm : X.mg "list" = none) (hg2 : Gl X "reversed") (hm2 : X.mg "reversed" = none) (ha : PA X [e] ta)
    (hs : starEach [e] X.env = [(false, eval e X.env)] := by rfl) :
    PE X (.Call (.Name "list" p) [.Call (.Name "reversed" p2) [e] [] pos2] [] pos) (tLR X.K ta) := by
  intro pins s σ H Q I h
  refine wpAny_Call_Name_kw (ld_blt I hg hm (show bootBuiltins "list" = some (.type "list") by decide +kernel) ?_)
  refine PyProof.Rows.callWith_type1 ?_ rfl rfl
  refine Calls.spliced_cons ?_
  refine Call_ (ld_blt I hg2 hm2 boot_reversed5 (PyProof.Rows.callWith_type1 (thn (ha pos2 pins s σ H _ I h) fun us s1 ⟨vs, H1, I1, r1, q1⟩ => ?_) hs rfl))
  obtain ⟨a, xs, e, hq, q⟩ := q1
  subst e
  cases r1 with
  | cons r rr =>
    cases rr
    cases r
    obtain ⟨its, rv, p', hz⟩ := I1.list hq
    have hl := rv.length
    refine call_reversed_list p'.isList (Calls.spliced_nil ?_)
    obtain ⟨o, ho, _⟩ := p'.isList
    refine call_list_rev (items := its.toArray) (l := a) (r := s1.heap.objs.size) (I.ok.hd hc) ⟨_, Heap.get?_push_size _ rfl, rfl, rfl⟩ (p'.isList.at fun o e => Heap.get?_push_of_some _ e) (Nat.ne_of_lt (Heap.lt_size ho)) (by simp only [List.size_toArray]; omega) fun h' tk acc' c' hk hS hacc => ?_
    have hsz : s1.heap.objs.size ≤ (s1.heap.push (revObj a ((its.toArray.size : Int) - 1))).objs.size := by simp [Heap.size_push]
    refine ⟨V.ref (s1.heap.push (revObj a ((its.toArray.size : Int) - 1))).objs.size, _, I1.laid (t' := tk) (a := (s1.heap.push (revObj a ((its.toArray.size : Int) - 1))).objs.size) (o := .lst xs.reverse) (fun b u e => hk b u (Nat.ne_of_lt (Heap.lt_size e)) (Heap.get?_push_of_some _ e)) hsz ⟨by simpa using hz, acc'.toList, c', vals_rev rv hacc, by simpa using hS⟩, rfl, q _ (I1.hok.fresh hsz)⟩
end
end L2
set_option Elab.async false
set_option maxRecDepth 100000
namespace L2
open PySem PySem.Spec PyProof.Rows
section
variable {X : Cx} {P : Program} {w : World} {K : PySem.W.Frag} {mg : Str → Option Value} {base : Heap}
/-- a def of the module that keeps its promise, and is called by its name -/
structure FnIn (P : Program) (w : World) (K : PySem.W.Frag) (mg : Str → Option Value) (base : Heap) (k : Nat) (x : Str) (ps : List Str) (sp : Sp) : Prop where
  ex : ∃ f fd, FnOk P w K mg base CX0 k f fd ps sp ∧ mg x = some (.ref f) ∧ PySem.W.keepIn K (.ref f) = true ∧ Binds K fd ps []
theorem FnIn.mono {j k : Nat} {x : Str} {ps : List Str} {sp : Sp} (F : FnIn P w K mg base j x ps sp) (h : j ≤ k) : FnIn P w K mg base k x ps sp :=
  let ⟨f, fd, a, b, c, d⟩ := F.ex; ⟨f, fd, a.mono h, b, c, d⟩
theorem FnIn.imp {k : Nat} {x : Str} {ps : List Str} {sp sp' : Sp} (F : FnIn P w K mg base k x ps sp) (h : ∀ vs H Q E, sp' vs H Q E → sp vs H Q E) : FnIn P w K mg base k x ps sp' :=
  let ⟨f, fd, a, b, c, d⟩ := F.ex; ⟨f, fd, a.imp h, b, c, d⟩
theorem pe_fn {x : Str} {ps : List Str} {sp : Sp} {j k : Nat} {e : Expr} {es : List Expr} {t : TA} {p pos : Pos} (F : FnIn X.prog X.w X.K X.mg X.base j x ps sp) (hr : Room k X.A) (hg : Gl X x) (ha : PA X (e :: es) t) (hjk : j ≤ k := by first | decide | omega)
    (hdb : (x == ("__debug__" : Str)) = false := by decide) (he : starEach (e :: es) X.env = (false, eval e X.env) :: starEach es X.env := by rfl) (hpl : (backTo pos (starEach es X.env)).any (·.1) = false := by rfl) :
    PE X (.Call (.Name x p) (e :: es) [] pos) (tCall sp [] E0 t) := by
  obtain ⟨f, fd, a, b, c, d⟩ := F.ex
  exact pe_call (a.mono hjk) hr hg b c d .nil pass0 ha hdb he hpl
theorem pe_gint {x : Str} {n : Int} {pos : Pos} (hg : Gl X x) (h : ∃ t, X.mg x = some (.int n t)) (hd : (x == ("__debug__" : Str)) = false := by decide) : PE X (.Name x pos) (tC (.int n)) := by
  obtain ⟨t, e⟩ := h
  exact pe_glob hg e ⟨t, rfl⟩ hd
theorem pe_gref {x : Str} {a : Addr} {pos : Pos} (hg : Gl X x) (h : X.mg x = some (.ref a)) (hd : (x == ("__debug__" : Str)) = false := by decide) : PE X (.Name x pos) (tC (.ref a)) := pe_glob hg h rfl hd
def repS (x : Str) (n : Int) : Str := if n < 1 then Str.empty else if (n == 1 || x.length == 0) = true then x else ⟨(List.replicate n.toNat x.cps).foldl (· ++ ·) #[]⟩
theorem fold_app (l : List (Array Nat)) : ∀ a : Array Nat, (l.foldl (· ++ ·) a).toList = a.toList ++ (l.map Array.toList).flatten := by
  induction l with
  | nil => intro a; simp
  | cons x r ih => intro a; rw [List.foldl_cons, ih]; simp
theorem repS_toList (z : Str) (n : Int) : (repS z n).cps.toList = (List.replicate n.toNat z.cps.toList).flatten := by
  unfold repS
  by_cases hn : n < 1
  · rw [if_pos hn, show n.toNat = 0 by omega]; rfl
  · rw [if_neg hn]
    by_cases h : (n == 1 || z.length == 0) = true
    · rw [if_pos h]
      simp only [Bool.or_eq_true, beq_iff_eq] at h
      rcases h with h | h
      · subst h; simp
      · have e : z.cps.toList = [] := by
          have : z.cps.size = 0 := h
          simpa using this
        rw [e]; simp
    · rw [if_neg h, fold_app]; simp
theorem repS_len {z : Str} {n : Int} : (repS z n).length = z.length * n.toNat := by
  show (repS z n).cps.size = z.cps.size * n.toNat
  rw [← Array.length_toList, repS_toList, List.length_flatten]
  simp [Nat.mul_comm]
theorem op_mul_str : OpR X (binaryOp .Mult) (fun x y H Q => ∃ z n, x = .str z ∧ y = .int n ∧ -(2 ^ 63) ≤ n ∧ n < 2 ^ 63 ∧ z.length * n.toNat ≤ sizeLine ∧ z.length ≤ sizeLine ∧ Q (.str (repS z n)) H) := by
  intro pins s σ H x y v u Q I rx ry h
  obtain ⟨z, n, rfl, rfl, h0, h1, h2, h3, q⟩ := h
  obtain ⟨t, rfl⟩ := rx
  obtain ⟨t', rfl⟩ := ry
  have hz : sizeLine = 16777216 := sizeLine_eq
  refine PySem.P.mul_str (by rw [decide_eq_false (by omega), decide_eq_false (by omega)]; rfl) (fun hn _ => ?_) (fun hn _ => ?_) ?_
  · intro hgt
    have h4 : (2 ^ 63 - 1 : Int) / n < z.length := hgt
    have h5 : (2 ^ 63 - 1 : Int) < z.length * n := (Int.ediv_lt_iff_lt_mul (by omega)).mp h4
    have h6 : (z.length : Int) * n = ((z.length * n.toNat : Nat) : Int) := by
      rw [Int.natCast_mul, Int.toNat_of_nonneg (by omega)]
    omega
  · simp [PySem.Builtin.Str.tooLong]; omega
  · unfold repS at q
    by_cases hn : n < 1
    · rw [if_pos hn] at q ⊢
      exact ⟨by decide, ⟨.str Str.empty, H, I.tok _, ⟨_, rfl⟩, q⟩⟩
    · rw [if_neg hn] at q ⊢
      by_cases h7 : (n == 1 || z.length == 0) = true
      · rw [if_pos h7] at q ⊢
        exact ⟨.str z, H, I, ⟨_, rfl⟩, q⟩
      · rw [if_neg h7] at q ⊢
        refine ⟨?_, ⟨.str _, H, I.tok _, ⟨_, rfl⟩, q⟩⟩
        have e := repS_len (z := z) (n := n)
        unfold repS at e
        rw [if_neg hn, if_neg h7] at e
        rw [e]
        omega
end
end L2
set_option Elab.async false
set_option maxRecDepth 100000
set_option linter.all false
namespace HT
open PySem PyProof.Rows
section
variable {prog : Program} {w : World} {A : Around} {E : Value → Shared → Prop} {s : Shared}
end
end HT
namespace L2
open PySem PySem.Spec PyProof.Rows
section
variable {X : Cx}
theorem ix_tupK {K : PySem.W.Frag} (h : X.K = K) : IxR X (rIxT K) := by subst h; exact ix_tup
/-- repr of data -/
theorem call_repr_data (hg : X.A.guards = some []) (hu : X.A.units + 64 < cLine) : CallR X (.builtin "repr") (fun xs H Q => ∃ p d, xs = [.ref p] ∧ Dp X.K H (.ref p) d ∧ d.showable = true ∧ d.depth ≤ 60 ∧ d.hasDict = false ∧ d.shown.length ≤ sizeLine ∧ Q (.str d.shown) H) := by
  intro pins s σ H xs us Q I r h
  obtain ⟨p, d, rfl, hd, hs, hdp, hn, hz, q⟩ := h
  obtain ⟨u, rfl, rx⟩ := vals1 r
  obtain ⟨as, rd⟩ := Dp.reads I d (.ref p) u hd rx
  cases rx
  exact PySem.repr_of_reads' (hsz := hz) rd hs (PyData.noDict_hsm hn) hg (by omega) (fun _ _ e => e) fun h' u tk hk => ⟨.str d.shown, H, I.kept hk, ⟨u, rfl⟩, q⟩
end
end L2
set_option Elab.async false
set_option maxRecDepth 100000
set_option linter.all false
namespace L2
open PySem PySem.Spec PyProof.Rows
section
variable {X : Cx} {o : Expr} {to : TE} {lo hi : Option Expr} {tl th : TO} {pos p2 : Pos}
end
end L2
namespace L2
open PySem PySem.Spec PyProof.Rows
section
variable {X : Cx} {tg l : Expr} {tl : TE} {K : PySem.W.Frag}
theorem pi_tupK (hK : X.K = K) (hl : PE X l tl) : PI X tg l (iTup K tl) := by subst hK; exact pi_tup hl
theorem pi_listK (hK : X.K = K) (hl : PE X l tl) : PI X tg l (iList K tl) := by subst hK; exact pi_list hl
end
end L2
set_option Elab.async false
set_option maxRecDepth 100000
set_option linter.all false
namespace L2
open PySem PySem.Spec PyProof.Rows
section
variable {X : Cx}
end
end L2
namespace L2
open PySem PySem.Spec PyProof.Rows
section
variable {X : Cx}
end
end L2
namespace HT
open PySem PyProof.Rows
section
variable {prog : Program} {w : World} {A : Around} {E : Value → Shared → Prop} {s : Shared}
end
end HT
namespace L2
open PySem PySem.Spec PyProof.Rows
section
variable {X : Cx} {K : PySem.W.Frag}
end
end L2
set_option Elab.async false
set_option maxRecDepth 100000
set_option linter.all false
namespace PySem
open Sem (wp)
open Builtin
open PyProof.Rows
end PySem
namespace L2
open PySem PySem.Spec PyProof.Rows
section
variable {X : Cx} {K : PySem.W.Frag}
end
end L2
namespace L2
open PySem PySem.Spec PyProof.Rows
section
variable {X : Cx} {K : PySem.W.Frag}
end
end L2
set_option Elab.async false
set_option maxRecDepth 100000
set_option linter.all false
namespace PySem
open Sem (wp)
open PyProof.Rows
section
variable {prog : Program} {w : World} {A : Around} {E : Value → Shared → Prop} {s : Shared}
theorem extBut_list {h h' : Heap} {it l : Addr} {items : Array Value} (e : Heap.ExtBut it h h') (hl : h.IsList l items) (hne : l ≠ it) : h'.IsList l items := hl.at fun o q => e l o hne q
theorem draw_list {it t : Addr} {items : Array Value} (hne : t ≠ it) : ∀ (n i : Nat) (s : Shared) (Q : List Value → Shared → Prop), s.heap.IsListIter it t i → s.heap.IsList t items → i + n ≤ items.size →
    (∀ h', h'.IsListIter it t (i + n) → Heap.SameBut it s.heap h' → Q ((items.toList.drop i).take n) { s with heap := h' }) → wpAny (model prog w) A (draw (.ref it) n) Q E s
  | 0, i, s, Q, hit, _, _, hQ => by
    show wpAny _ _ (pure []) Q E s
    exact wpAny_pure (by simpa using hQ s.heap hit (Heap.SameBut.refl ..))
  | n + 1, i, s, Q, hit, ht, hle, hQ => by
    have hlt : i < items.size := by omega
    show wpAny _ _ (pyNext (.ref it) >>= _) Q E s
    refine wpAny_bind (wpAny_pyNext_list_item hit ht (x := items[i]) (by simp [hlt]) fun h1 hit1 hs1 => ?_)
    refine wpAny_bind (wpAny_holding (draw_list hne n (i + 1) _ _ hit1 (extBut_list hs1.extBut ht hne) (by omega) fun h2 hit2 hs2 => wpAny_pure ?_))
    have hd : items.toList.drop i = items[i] :: items.toList.drop (i + 1) := by simp [List.drop_eq_getElem_cons, hlt]
    have := hQ h2 (by rw [show i + (n + 1) = i + 1 + n by omega]; exact hit2) (hs1.trans hs2)
    rw [hd, List.take_succ_cons] at this
    exact this
theorem unpackItems_list {t : Addr} {items : Array Value} {Q : List Value → Shared → Prop} (hh : A.handled = none) (ht : s.heap.IsList t items)
    (hQ : ∀ h', Heap.ExtBut s.heap.objs.size s.heap h' → Q items.toList { s with heap := h' }) : wpAny (model prog w) A (unpackItems (.ref t) items.size none) Q E s := by
  have hlt : t ≠ s.heap.objs.size := by obtain ⟨o, ho, _⟩ := ht; exact Nat.ne_of_lt (Heap.lt_size ho)
  have ht0 : ∀ o : Obj, (s.heap.push o).IsList t items := fun o => ht.at fun u e => Heap.get?_push_of_some _ e
  unfold unpackItems
  refine wpAny_bind ?_
  · unfold notIterableAtAll
    refine wpAny_bind (wpAny_specialOf ht.typeIs slot_list_iter.lookup ?_)
    refine wpAny_pure ?_
    simp only [Bool.false_eq_true, if_false]
    refine wpAny_bind (wpAny_holding (wpAny_pyIter_list ht ?_))
    refine wpAny_bind (wpAny_holding (draw_list hlt items.size 0 _ _ ⟨_, Heap.get?_push_size _ rfl, rfl, rfl⟩ (ht0 _) (by omega) fun h1 hit1 hs1 => ?_))
    have hall : List.take items.size (List.drop 0 items.toList) = items.toList := by
      rw [List.drop_zero]; exact List.take_of_length_le (by simp)
    rw [hall]
    rw [if_neg (by simp)]
    have ht1 : h1.IsList t items := extBut_list hs1.extBut (ht0 _) hlt
    refine wpAny_bind (wpAny_holding (wpAny_pyNext_list_end hh hit1 ht1 (by simp) fun h2 he2 => ?_))
    simp only [Option.isSome_none, Bool.false_eq_true, if_false]
    refine wpAny_pure (hQ h2 fun b o hb e => he2 b o hb (hs1.extBut b o hb (Heap.get?_push_of_some _ e)))
theorem assign_Tuple_list {env : Env} {elts : List Expr} {x1} {pos : Pos} {t : Addr} {items : Array Value} {Q : Unit → Shared → Prop} (hh : A.handled = none) (ht : s.heap.IsList t items)
    (hn : (assignEach elts env).length = items.size) (hstar : (assignEach elts env).findIdx? (·.1) = none)
    (h : ∀ h', Heap.ExtBut s.heap.objs.size s.heap h' → wpAny (model prog w) A (assignInOrder ((assignEach elts env).map (·.2)) items.toList) Q E { s with heap := h' }) :
    wpAny (model prog w) A (assign (.Tuple elts x1 pos) env (.ref t)) Q E s := by
  rw [assign_Tuple]
  refine wpAny_bind (wpAny_standAt ?_)
  unfold unpack
  rw [hn, hstar]
  exact wpAny_bind (wpAny_holding (unpackItems_list hh ht h))
end
end PySem
namespace L2
open PySem PySem.Spec PyProof.Rows
section
variable {X : Cx} {K : PySem.W.Frag} {pos : Pos}
/-- a, b = xs, xs a list -/
def gTupL (K : PySem.W.Frag) (n : Nat) (t : TGs) : TG := fun v σ H Q => ∃ a xs, v = .ref a ∧ SqL K H a xs ∧ xs.length = n ∧ t xs σ H Q
theorem pg_tupL {es : List Expr} {k : Nat} {t : TGs} {n : Nat} (hc : X.calm = true) (h : PGs X es t)
    (hn : (assignEach es X.env).length = n := by rfl) (hst : (assignEach es X.env).findIdx? (·.1) = none := by rfl) : PG X (.Tuple es k pos) (gTupL X.K n t) := by
  intro pins s σ H v u Q I r hw
  obtain ⟨a, xs, e1, hq, hl, hw⟩ := hw
  subst e1
  cases r
  obtain ⟨its, rv, ht, hz⟩ := I.list hq
  refine assign_Tuple_list (I.ok.hd hc) ht.isList (by simp [hn, ← hl, rv.length]) hst fun h' hx => ?_
  have I1 : Inv X pins σ H { s with heap := h' } := I.kept (t' := s.toks) fun b o e => hx b o (Nat.ne_of_lt (Heap.lt_size e)) e
  exact h pins _ σ H xs _ Q I1 (by simpa using rv) hw
def kD : Key → PyData
  | .inl i => .int i
  | .inr x => .str x
mutual
inductive Dq (K : PySem.W.Frag) (H : Hp) : V → PyData → Prop
  | non : Dq K H .non .none
  | bl (b : Bool) : Dq K H (.bl b) (.bool b)
  | int (i : Int) : Dq K H (.int i) (.int i)
  | str (x : Str) : Dq K H (.str x) (.str x)
  | lst {a : Addr} {xs : List V} {ds : List PyData} : a ≠ sysModules → SqL K H a xs → DqAll K H xs ds → Dq K H (.ref a) (.list ds)
  | tup {a : Addr} {xs : List V} {ds : List PyData} : SqT K H a xs → DqAll K H xs ds → Dq K H (.ref a) (.tuple ds)
  | dict {a : Addr} {kvs : List (Key × V)} {ds : List (PyData × PyData)} : H a = some (.dK kvs) → DqAll K H (kvs.map (·.2)) (ds.map (·.2)) → ds.map (·.1) = kvs.map (fun kv => kD kv.1) → Dq K H (.ref a) (.dict ds)
inductive DqAll (K : PySem.W.Frag) (H : Hp) : List V → List PyData → Prop
  | nil : DqAll K H [] []
  | cons {v : V} {vs : List V} {d : PyData} {ds : List PyData} : Dq K H v d → DqAll K H vs ds → DqAll K H (v :: vs) (d :: ds)
end
theorem pairs_keys {P : Program} {w : World} {h : Heap} : ∀ {es : List DictEntry} {vs : List (Key × Value)}, Pairs (mixKind P w) es vs → ReadsAll h (es.map (·.key)) (vs.map fun q => kD q.1) []
  | _, _, .nil => .nil
  | _, _, .cons (e := e) (kv := kv) h1 h2 r => by
    have q := pairs_keys (h := h) r
    rcases keyIs_shape h1 with ⟨i, t, e1, e2⟩ | ⟨x, t, e1, e2⟩
    · simp only [List.map_cons, e1, e2, kD]
      exact ReadsAll.cons (as := []) (Reads.int i t) q
    · simp only [List.map_cons, e1, e2, kD]
      exact ReadsAll.cons (as := []) (Reads.str x t) q
theorem pairs_vals {P : Program} {w : World} : ∀ {es : List DictEntry} {vs : List (Key × Value)}, Pairs (mixKind P w) es vs → es.map (·.val) = vs.map (·.2)
  | _, _, .nil => rfl
  | _, _, .cons h1 h2 r => by simp [h2, pairs_vals r]
theorem kv_keys : ∀ {kvs : List (Key × V)} {vs : List (Key × Value)}, KV kvs vs → kvs.map (fun q => kD q.1) = vs.map (fun q => kD q.1)
  | _, _, .nil => rfl
  | _, _, .cons h1 r => by simp [h1.1, kv_keys r]
theorem kv_vals : ∀ {kvs : List (Key × V)} {vs : List (Key × Value)}, KV kvs vs → Vals (kvs.map (·.2)) (vs.map (·.2))
  | _, _, .nil => .nil
  | _, _, .cons h1 r => .cons h1.2 (kv_vals r)
section
variable {pins : List (Addr × Obj)} {σ : St} {H : Hp} {s : Shared}
mutual
theorem Dq.reads (I : Inv X pins σ H s) : ∀ (d : PyData) (v : V) (u : Value), Dq X.K H v d → RelV v u → ∃ as, Reads s.heap u d as ∧ sysModules ∉ as
  | .none, _, _, h, r => by
    cases h
    cases r
    exact ⟨_, Reads.none, by simp⟩
  | .bool b, _, _, h, r => by
    cases h
    cases r
    exact ⟨_, Reads.bool b, by simp⟩
  | .int i, _, _, h, r => by
    cases h
    obtain ⟨t, rfl⟩ := r
    exact ⟨_, Reads.int i t, by simp⟩
  | .str x, _, _, h, r => by
    cases h
    obtain ⟨t, rfl⟩ := r
    exact ⟨_, Reads.str x t, by simp⟩
  | .list ds, _, _, h, r => by
    cases h with
    | lst hn hs ha =>
      cases r
      obtain ⟨its, rv, ⟨o, n, ho, hc, _, hd⟩, _⟩ := I.list hs
      obtain ⟨as, hr, hm⟩ := Dq.readsAll I ds _ its ha rv
      exact ⟨_, Reads.list ho hc hd hr, fun q => by
        rcases List.mem_cons.mp q with q | q
        · exact hn q.symm
        · exact hm q⟩
  | .tuple ds, _, _, h, r => by
    cases h with
    | tup hs ha =>
      cases r
      obtain ⟨its, rv, ⟨o, ho, hc, n, hd⟩, _⟩ := I.tuple hs
      obtain ⟨as, hr, hm⟩ := Dq.readsAll I ds _ its ha rv
      exact ⟨_, Reads.tuple ho hc hd hr, hm⟩
  | .dict ds, _, _, h, r => by
    cases h with
    | dict hs ha hk =>
      cases r
      obtain ⟨_, hd, vs, rel, o, es, ep, ho, hc, hdat, _, hp, _⟩ := dk_of I.hok hs
      obtain ⟨as, hr, hm⟩ := Dq.readsSnd I ds _ _ ha (kv_vals rel)
      have q1 := pairs_keys (h := s.heap) hp
      rw [← kv_keys rel, ← hk] at q1
      refine ⟨_, Reads.dict ho hc.1 hdat q1 (by rw [pairs_vals hp]; exact hr), fun q => ?_⟩
      rcases List.mem_append.mp q with q | q
      · rcases List.mem_cons.mp q with q | q
        · exact absurd q.symm (fun e => by rw [e] at hd; simp at hd)
        · cases q
      · exact hm q
theorem Dq.readsAll (I : Inv X pins σ H s) : ∀ (ds : List PyData) (vs : List V) (us : List Value), DqAll X.K H vs ds → Vals vs us → ∃ as, ReadsAll s.heap us ds as ∧ sysModules ∉ as
  | [], _, _, h, r => by
    cases h
    cases r
    exact ⟨_, ReadsAll.nil, by simp⟩
  | d :: ds, _, _, h, r => by
    cases h with
    | cons h1 h2 =>
      cases r with
      | cons r1 r2 =>
        obtain ⟨as, q1, m1⟩ := Dq.reads I d _ _ h1 r1
        obtain ⟨bs, q2, m2⟩ := Dq.readsAll I ds _ _ h2 r2
        exact ⟨_, ReadsAll.cons q1 q2, fun q => (List.mem_append.mp q).elim m1 m2⟩
theorem Dq.readsSnd (I : Inv X pins σ H s) : ∀ (ds : List (PyData × PyData)) (vs : List V) (us : List Value), DqAll X.K H vs (ds.map (·.2)) → Vals vs us → ∃ as, ReadsAll s.heap us (ds.map (·.2)) as ∧ sysModules ∉ as
  | [], _, _, h, r => by
    cases h
    cases r
    exact ⟨_, ReadsAll.nil, by simp⟩
  | (k, d) :: ds, _, _, h, r => by
    cases h with
    | cons h1 h2 =>
      cases r with
      | cons r1 r2 =>
        obtain ⟨as, q1, m1⟩ := Dq.reads I d _ _ h1 r1
        obtain ⟨bs, q2, m2⟩ := Dq.readsSnd I ds _ _ h2 r2
        exact ⟨_, ReadsAll.cons q1 q2, fun q => (List.mem_append.mp q).elim m1 m2⟩
end
end
end
end L2
set_option Elab.async false
set_option maxRecDepth 100000
set_option linter.all false
namespace PySem.W
open PySem PySem.Calls PySem.NumText PyProof.Rows
namespace KIN
end KIN
end PySem.W
set_option Elab.async false
set_option maxRecDepth 100000
set_option linter.all false
namespace PySem.W
open PySem PySem.Calls PySem.NumText PyProof.Rows
namespace KIN
end KIN
end PySem.W
set_option Elab.async false
set_option maxRecDepth 100000
set_option linter.all false
namespace L2
open PySem PySem.Spec PyProof.Rows PySem.NumText
/-- 2 to the 13500 -/
def BIG : Nat := 2 ^ 13500
theorem big_log {i : Int} (h : i.natAbs < BIG) : i.natAbs.log2 < 13500 := by
  by_cases e : i.natAbs = 0
  · rw [e]; decide
  · exact (Nat.log2_lt e).mpr h
theorem big_bits {i : Int} (h : i.natAbs < BIG) : Builtin.Int.intBits i ≤ 13500 := by
  unfold Builtin.Int.intBits
  have := big_log h
  split <;> omega
section
variable {X : Cx} {K : PySem.W.Frag}
def CMulB (i j : Int) : Prop := i.natAbs < BIG ∧ j.natAbs < BIG
theorem CMulB.ok {i j : Int} (h : CMulB i j) : IntMulOk i j := by
  have h1 := big_bits h.1
  have h2 := big_bits h.2
  unfold IntMulOk
  intro z
  rw [Bool.and_eq_true] at z
  have z2 := of_decide_eq_true z.2
  have e : (bitsLine : Int) = 134217728 := by decide
  omega
end
section
variable {X : Cx} {P : Program} {w : World} {K : PySem.W.Frag} {mg : Str → Option Value} {base : Heap}
/-- a def of the module that is called with keywords -/
structure FnK (P : Program) (w : World) (K : PySem.W.Frag) (mg : Str → Option Value) (base : Heap) (k : Nat) (x : Str) (ps : List Str) (sp : Sp) (ks : List Str) (gV : List V → List V → List V) : Prop where
  ex : ∃ f fd g, FnOk P w K mg base CX0 k f fd ps sp ∧ mg x = some (.ref f) ∧ PySem.W.keepIn K (.ref f) = true ∧ KBinds K fd ps ks g gV
theorem pe_kfn {x : Str} {ps ks : List Str} {sp : Sp} {gV : List V → List V → List V} {j k : Nat} {e : Expr} {es : List Expr} {kws : List Keyword} {t tk : TA} {p pos : Pos} (F : FnK X.prog X.w X.K X.mg X.base j x ps sp ks gV) (hr : Room k X.A) (hg : Gl X x) (ha : PA X (e :: es) t) (hkw : PK X kws tk)
    (hall : (backToKw pos (keywordEach kws X.env)).all (·.1.isSome) = true := by rfl) (hks : (backToKw pos (keywordEach kws X.env)).filterMap (·.1) = ks := by rfl) (hjk : j ≤ k := by first | decide | omega)
    (hdb : (x == ("__debug__" : Str)) = false := by decide) (he : starEach (e :: es) X.env = (false, eval e X.env) :: starEach es X.env := by rfl)
    (hpl : ((backTo pos (starEach (e :: es) X.env)).any (·.1) || (backToKw pos (keywordEach kws X.env)).any (·.1.isNone)) = false := by rfl) :
    PE X (.Call (.Name x p) (e :: es) kws pos) (tCallK sp gV E0 t tk) := by
  obtain ⟨f, fd, g, a, b, c, d⟩ := F.ex
  exact pe_callK (a.mono hjk) hr hg b c d pass0 ha hkw hall hks hdb he hpl
theorem Fun.kbinds {x qual : Str} {st : Stmt} {f : Addr} {fd : FuncData} {ps ks : List Str} {g : List Value → List Value → List Value} {gV : List V → List V → List V} (F : Fun K x qual st f fd)
    (h : ∀ (kV doc pm : Value) (an : Option Addr) (cdv ct : Value) (us ws : List Value), (g us ws).length = ps.length → bindArgs (PySem.W.fnOf x qual (defArgs st) (defBody st) (defScope st) .none kV doc pm an cdv ct) ⟨us, ks.zip ws⟩ = pure (ps.zip (g us ws)))
    (hrel : ∀ {vs : List V} {us : List Value} {zs : List V} {ws : List Value}, Vals vs us → Vals zs ws → Vals (gV vs zs) (g us ws)) : KBinds K fd ps ks g gV := by
  obtain ⟨oc, od, kV, doc, pm, an, cdv, ct, osl, rfl, lk, hcd⟩ := F.ex
  exact ⟨fun s us ws _ hl => .of_eq (h kV doc pm an cdv ct us ws hl), hrel⟩
/-- one by place, one by name -/
def g11 {α : Type} : List α → List α → List α
  | [a], [b] => [a, b]
  | _, _ => []
theorem g11_rel : ∀ {vs : List V} {us : List Value} {zs : List V} {ws : List Value}, Vals vs us → Vals zs ws → Vals (g11 vs zs) (g11 us ws)
  | _, _, _, _, .nil, .nil => .nil
  | _, _, _, _, .nil, .cons _ .nil => .nil
  | _, _, _, _, .nil, .cons _ (.cons _ _) => .nil
  | _, _, _, _, .cons _ .nil, .nil => .nil
  | _, _, _, _, .cons a .nil, .cons b .nil => .cons a (.cons b .nil)
  | _, _, _, _, .cons _ .nil, .cons _ (.cons _ _) => .nil
  | _, _, _, _, .cons _ (.cons _ _), .nil => .nil
  | _, _, _, _, .cons _ (.cons _ _), .cons _ .nil => .nil
  | _, _, _, _, .cons _ (.cons _ _), .cons _ (.cons _ _) => .nil
end
end L2
set_option Elab.async false
set_option maxRecDepth 100000
set_option linter.all false
namespace PySem
open Sem (wp)
open PyProof.Rows
abbrev IsZipH (h : Heap) (z TI TO T : Addr) (b : Bool) : Prop :=
  h.get? z = some { cls := .type "zip", dict := none, data := .fields #[rawInt T, .bool b, .bool false, .ref TI, .ref TO], slots := #[] }
section
variable {prog : Program} {w : World} {A : Around} {E : Value → Shared → Prop} {s : Shared}
theorem wpAny_loadIfAlive {M : Model} {a : Addr} {Q : Option Obj → Shared → Prop} (h : Q (s.heap.get? a) s) : wpAny M A (loadIfAlive a) Q E s := fun Γ p hΓ => by
  unfold loadIfAlive
  rw [Sem.wp_loadIfAlive]
  exact wpAny_pure h Γ p hΓ
theorem owned_held {z TI TO T : Addr} {b : Bool} {oT : Obj} {Q : Bool → Shared → Prop} (hz : IsZipH s.heap z TI TO T b) (hT : s.heap.get? T = some oT)
    (hQ : ∀ h', IsZipH h' z TI TO T true → Heap.SameBut z s.heap h' → Q false { s with heap := h' }) : wpAny (model prog w) A (Builtin.SmallTypes.ownedTupleIsFree (.ref z)) Q E s := by
  unfold Builtin.SmallTypes.ownedTupleIsFree
  refine wpAny_bind (wpAny_field hz rfl (x := rawInt T) rfl ?_)
  show wpAny _ _ (loadIfAlive ((T : Int).toNat) >>= _) _ _ _
  rw [Int.toNat_natCast]
  refine wpAny_bind (wpAny_loadIfAlive ?_)
  rw [hT]
  show wpAny _ _ (field (.ref z) 1 >>= _) _ _ _
  refine wpAny_bind (wpAny_field hz rfl (x := .bool b) rfl ?_)
  cases b with
  | true =>
    rw [if_neg (by decide)]
    exact wpAny_pure (hQ s.heap hz (Heap.SameBut.refl ..))
  | false =>
    rw [if_pos (by decide)]
    refine wpAny_bind (wpAny_setField_rec hz (by simp) fun h1 hz1 hs1 => ?_)
    exact wpAny_pure (hQ h1 hz1 hs1)
/-- the zip as it stands ahead of turn i: first free, then with a tuple handed out -/
def ZipSt (h : Heap) (z TI TO i1 i2 : Addr) : Prop := (IsZip h z TI TO .none ∧ ∃ a b, IsPair h TO a b) ∨ ∃ T b oT, IsZipH h z TI TO T b ∧ h.get? T = some oT ∧ T ≠ z ∧ T ≠ i1 ∧ T ≠ i2
theorem ng {a b c : Addr} (h : a < b) (h' : b ≤ c) : c ≠ a := Nat.ne_of_gt (Nat.lt_of_lt_of_le h h')
/-- the items so far: new pairs -/
structure PairsAt (h : Heap) (acc : Array Value) (n0 i : Nat) (xs ys : Array Value) : Prop where
  ex : ∃ Ts : List Addr, acc = (Ts.map Value.ref).toArray ∧ Ts.length = i ∧ Ts.Nodup ∧ ∀ (j : Nat) (T : Addr), Ts[j]? = some T → n0 ≤ T ∧ ∃ x y, xs[j]? = some x ∧ ys[j]? = some y ∧ IsPair h T x y
theorem PairsAt.sz {h : Heap} {acc : Array Value} {n0 i : Nat} {xs ys : Array Value} (p : PairsAt h acc n0 i xs ys) : acc.size = i := by
  obtain ⟨Ts, rfl, hl, _⟩ := p
  simp [hl]
end
end PySem
set_option Elab.async false
set_option maxRecDepth 100000
set_option linter.all false
namespace PySem
open Sem (wp)
open PyProof.Rows
namespace F
theorem zip_no_len : typeLookup (.type "zip") "__len__" = pure none := by rw [typeLookup_type, builtinLookup_eq_fast]; kernel_rfl
theorem zip_no_hint : typeLookup (.type "zip") "__length_hint__" = pure none := by rw [typeLookup_type, builtinLookup_eq_fast]; kernel_rfl
end F
section
variable {prog : Program} {w : World} {A : Around} {E : Value → Shared → Prop} {s : Shared}
theorem wpAny_hint_zip {z TI TO : Addr} {Q : Bool → Shared → Prop} (hz : IsZip s.heap z TI TO .none)
    (h : Q true s) : wpAny (model prog w) A (Builtin.List.listLengthHint (.ref z)) Q E s := by
  have hT : s.TypeIs (.ref z) "zip" := ⟨_, hz, rfl⟩
  unfold Builtin.List.listLengthHint
  refine wpAny_bind (wpAny_specialOf hT F.zip_no_len ?_)
  show wpAny _ A (specialOf (Value.ref z) (Str.ofString "__length_hint__") >>= _) _ _ _
  refine wpAny_bind (wpAny_specialOf hT F.zip_no_hint ?_)
  exact wpAny_pure h
end
end PySem
namespace L2
open PySem PySem.Spec PyProof.Rows
/-- below the old size nothing is otherwise; above it what stands there is told -/
theorem Inv.laidAll {X : Cx} {pins : List (Addr × Obj)} {σ : St} {H H' : Hp} {s : Shared} {h' : Heap} {t' : Nat} (I : Inv X pins σ H s) (k : ∀ b u, s.heap.get? b = some u → h'.get? b = some u) (lo : ∀ b, b < s.heap.objs.size → H' b = H b)
    (hi : ∀ b o, s.heap.objs.size ≤ b → H' b = some o → ObjOk X.prog X.w H' h' b o) : Inv X pins σ H' { s with heap := h', toks := t' } := by
  have up : ∀ b o, H b = some o → H' b = some o := fun b o e => by rw [lo b (I.hok.lt e)]; exact e
  refine I.un (h' := h') (t' := t') ⟨fun b o q _ _ _ => k b o q, fun b o q _ _ _ => ⟨o.slots, k b o q⟩, fun b o q n _ => by rw [lo b (Heap.lt_size q)]; exact n, fun b o q _ => ⟨o, k b o q⟩, fun b xs q => up b _ q, fun b o u q => up b _ q, fun b ps q => ⟨#[], by rw [up b _ q]; simp⟩⟩ fun b o e => ?_
  by_cases hb : b < s.heap.objs.size
  · rw [lo b hb] at e
    exact (I.hok b o e).stay (fun c u _ q => k c u q) (fun c q => up c _ q) fun c xs q => up c _ q
  · exact hi b o (Nat.le_of_not_lt hb) e
end L2
set_option Elab.async false
set_option maxRecDepth 100000
set_option linter.all false
namespace L2
open PySem PySem.Spec PyProof.Rows
section
variable {X : Cx}
theorem nodup_ixA {Ts : List Addr} (nd : Ts.Nodup) {i j : Nat} {x : Addr} (a : Ts[i]? = some x) (b : Ts[j]? = some x) : i = j := by
  obtain ⟨h1, e1⟩ := List.getElem?_eq_some_iff.mp a
  obtain ⟨h2, e2⟩ := List.getElem?_eq_some_iff.mp b
  exact (List.getElem_inj nd).mp (e1.trans e2.symm)
theorem vals_refs : ∀ Ts : List Addr, Vals (Ts.map V.ref) (Ts.map Value.ref)
  | [] => .nil
  | _ :: r => .cons rfl (vals_refs r)
def zH (H1 : Hp) (l : Addr) (Ts : List Addr) (xs ys : List V) : Hp := fun b => if b = l then some (.lst (Ts.map V.ref)) else match (List.range Ts.length).find? (fun j => decide (Ts[j]? = some b)) with
  | some j => (match xs[j]?, ys[j]? with | some x, some y => some (.tup [x, y]) | _, _ => none)
  | none => H1 b
/-- *e in a display or a call: e a list or a tuple -/
def tStar (K : PySem.W.Frag) (te : TE) (t : TA) : TA := fun σ H Q => te σ H fun x H1 => ∃ a xs, x = .ref a ∧ (SqL K H1 a xs ∨ SqT K H1 a xs) ∧ t σ H1 fun ys H2 => Q (xs ++ ys) H2
theorem pa_star {e : Expr} {te : TE} {es : List Expr} {t : TA} {sp : Pos} (ha : PE X e te) (hr : PA X es t) : PA X (.Starred e sp :: es) (tStar X.K te t) := by
  intro pos pins s σ H Q I h
  show wpAny _ _ (spliced ((true, do let v ← eval e X.env; standAt pos; pure v) :: backTo pos (starEach es X.env))) _ _ s
  show wpAny _ _ ((do let v ← eval e X.env; standAt pos; pure v) >>= _) _ _ s
  refine wpAny_bind (wpAny_bind (thn (ha pins s σ H _ I h) fun u s1 ⟨x, H1, I1, r1, a, xs, ex, hx, q1⟩ => ?_))
  subst ex
  cases r1
  refine wpAny_bind (wpAny_standAt (wpAny_pure ?_))
  have fin : ∀ (its : List Value) (h' : Heap), Vals xs its → Inv X pins σ H1 { s1 with heap := h' } → wpAny (model X.prog X.w) X.A (holding its (spliced (backTo pos (starEach es X.env))) >>= fun r => pure (its ++ r)) (AP X pins σ Q) X.xe { s1 with heap := h' } := fun its h' rv I2 => by
    refine wpAny_bind (wpAny_holding (thn (hr pos pins _ σ H1 _ I2 q1) fun us s2 ⟨ys, H2, I3, r2, q2⟩ => wpAny_pure ?_))
    exact ⟨xs ++ ys, H2, I3, rv.append r2, q2⟩
  rcases hx with hx | hx
  · obtain ⟨its, rv, p, hz⟩ := I1.list hx
    obtain ⟨o, n, ho, hc, _, hd⟩ := p
    simp only [if_true]
    refine wpAny_bind (wpAny_bind (wpAny_specialOf ⟨o, ho, hc⟩ slot_list_iter.lookup ?_))
    refine wpAny_pure ?_
    simp only [Bool.false_eq_true, if_false]
    refine wpAny_bind (wpAny_collect_seq a (.inl rfl) ho hc hd (fun h' hk => ?_) (by rw [List.size_toArray, ← rv.length]; exact hz))
    exact fin its h' rv (I1.kept (t' := s1.toks) hk)
  · obtain ⟨its, rv, ⟨o, ho, hc, n, hd⟩, hz⟩ := I1.tuple hx
    simp only [if_true]
    refine wpAny_bind (wpAny_bind (wpAny_specialOf ⟨o, ho, hc⟩ PyProof.Rows.slot_tuple_iter.lookup ?_))
    refine wpAny_pure ?_
    simp only [Bool.false_eq_true, if_false]
    refine wpAny_bind (wpAny_collect_seq a (.inr rfl) ho hc hd (fun h' hk => ?_) (by rw [List.size_toArray, ← rv.length]; exact hz))
    exact fin its h' rv (I1.kept (t' := s1.toks) hk)
end
end L2
set_option Elab.async false
set_option maxRecDepth 100000
namespace PySem
namespace XC
/-- what a note of a frame leaves: all else stands; of the frames the slots; the exception's own record and the entry -/
structure Noted (h h' : Heap) (fs : List Addr) (e : Addr) (oe : Obj) (old : Option Addr) (T : Addr) (fl : Value) : Prop where
  keep : ∀ b o, h.get? b = some o → b ∉ fs → b ≠ e → old ≠ some b → h'.get? b = some o
  slot : ∀ b o, h.get? b = some o → b ∈ fs → ∃ sl, h'.get? b = some { o with slots := sl }
  exc : ∃ vs, h'.get? e = some { oe with data := .fields vs } ∧ vs.size = 6 ∧ vs[1]? = some (.ref T)
  tb : ∃ o ts, h'.get? T = some o ∧ o.data = .fields ts ∧ ts[3]? = some fl
  new : h.objs.size ≤ T
  lives : ∀ b, old = some b → ∃ o, h'.get? b = some o
/-- a record of six fields with, or without, an entry that stands in no frame -/
def Loose (h : Heap) (e : Addr) (oe : Obj) (old : Option Addr) : Prop :=
  ∃ vs, h.get? e = some oe ∧ oe.data = .fields vs ∧ vs.size = 6 ∧ ((old = none ∧ vs[1]? = some .none) ∨ ∃ T oT ts, old = some T ∧ vs[1]? = some (.ref T) ∧ T ≠ e ∧ h.get? T = some oT ∧ oT.data = .fields ts ∧ ts[3]? = some .none)
theorem mapF_eq {o : Obj} {vs : Array Value} (hd : o.data = .fields vs) (f : Array Value → Array Value) : o.mapFields f = { o with data := .fields (f vs) } := by
  obtain ⟨c, d, dt, sl⟩ := o
  subst hd
  rfl
theorem mapF_get {h : Heap} {a : Addr} {o : Obj} {vs : Array Value} (ho : h.get? a = some o) (hd : o.data = .fields vs) (f : Array Value → Array Value) : (h.update a (Obj.mapFields f)).get? a = some { o with data := .fields (f vs) } := by
  rw [Heap.get?_update_self _ ho (Obj.isFreed_of_fields (Obj.data_mapFields hd _)), mapF_eq hd]
section
variable {M : Model} {A : Around} {E : Value → Shared → Prop} {s : Shared} {base : Heap} {env : Env} {outer : List Env} {L e : Addr} {oe : Obj} {Q : Unit → Shared → Prop}
/-- noted, then in no frame -/
theorem Noted.loose {h h' : Heap} {fs : List Addr} {old : Option Addr} {T : Addr} {fl : Value} (n : Noted h h' fs e oe old T fl) (he : ∃ o, h.get? e = some o) :
    Loose (h'.update T (Obj.mapFields (·.setIfInBounds 3 Value.none))) e { oe with data := (((h'.get? e).map (·.data)).getD oe.data) } (some T) ∧ Noted h (h'.update T (Obj.mapFields (·.setIfInBounds 3 Value.none))) fs e oe old T .none := by
  obtain ⟨vs, x1, x2, x3⟩ := n.exc
  obtain ⟨oT, ts, t1, t2, t3⟩ := n.tb
  have nTe : T ≠ e := by
    obtain ⟨o, q⟩ := he
    exact Nat.ne_of_gt (Nat.lt_of_lt_of_le (Heap.lt_size q) n.new)
  have other : ∀ b, b ≠ T → (h'.update T (Obj.mapFields (·.setIfInBounds 3 Value.none))).get? b = h'.get? b := fun b q => Heap.get?_update_other _ _ (Ne.symm q)
  have lt : ∀ b o, h.get? b = some o → b ≠ T := fun b o q => Nat.ne_of_lt (Nat.lt_of_lt_of_le (Heap.lt_size q) n.new)
  have hz : 3 < ts.size := (Array.getElem?_eq_some_iff.mp t3).1
  have hT' := mapF_get t1 t2 (·.setIfInBounds 3 Value.none)
  have x1' : (h'.update T (Obj.mapFields (·.setIfInBounds 3 Value.none))).get? e = some { oe with data := .fields vs } := (other e (Ne.symm nTe)).trans x1
  refine ⟨⟨vs, ?_, ?_, x2, .inr ⟨T, _, _, rfl, x3, nTe, hT', rfl, by simp [hz]⟩⟩, ⟨fun b o q a b' c => (other b (lt b o q)).trans (n.keep b o q a b' c), fun b o q hb => ?_, ⟨vs, x1', x2, x3⟩, ⟨_, _, hT', rfl, by simp [hz]⟩, n.new, fun b hb => ?_⟩⟩
  · rw [x1']
    simp [x1]
  · simp [x1]
  · obtain ⟨sl, z⟩ := n.slot b o q hb
    exact ⟨sl, (other b (lt b o q)).trans z⟩
  · by_cases z : b = T
    · subst z
      exact ⟨_, hT'⟩
    · obtain ⟨o, q⟩ := n.lives b hb
      exact ⟨o, (other b z).trans q⟩
end
end XC
end PySem
set_option Elab.async false
set_option maxRecDepth 100000
namespace L2
open PySem PySem.Spec PyProof.Rows
def XO (e C : Addr) (dxo : Option Addr) : HO := .ext fun h => ∃ o vs, h.get? e = some o ∧ o.cls = .ref C ∧ o.dict = dxo ∧ o.data = .fields vs ∧ vs.size = 6
theorem XO.ok {P : Program} {w : World} {H : Hp} {h : Heap} {e C : Addr} {dxo : Option Addr} {o : Obj} {vs : Array Value} (ho : h.get? e = some o) (hc : o.cls = .ref C) (hd : o.dict = dxo) (hv : o.data = .fields vs) (h6 : vs.size = 6) : ObjOk P w H h e (XO e C dxo) :=
  ⟨⟨o, vs, ho, hc, hd, hv, h6⟩, ⟨o, ho⟩, fun _ _ ⟨o, vs, a, r⟩ k => ⟨o, vs, k o a, r⟩⟩
theorem XO.of {P : Program} {w : World} {H : Hp} {h : Heap} {e C : Addr} {dxo : Option Addr} (x : ObjOk P w H h e (XO e C dxo)) : ∃ o vs, h.get? e = some o ∧ o.cls = .ref C ∧ o.dict = dxo ∧ o.data = .fields vs ∧ vs.size = 6 := x.1
/-- an exception on its way: e and its entry are younger than s -/
structure Flies (P : Program) (w : World) (outer : List Env) (H : Hp) (s : Shared) (e : Addr) (H' : Hp) (s' : Shared) : Prop where
  os : s'.os = s.os
  bare : AllBare s'.gens
  un : Un (frs outer) [] H H' s.heap s'.heap
  hok : HOk P w H' s'.heap
  at_ : ∃ C dxo, H' e = some (XO e C dxo)
  new : s.heap.get? e = none
  loose : ∃ oe old, XC.Loose s'.heap e oe old ∧ ∀ T, old = some T → H' T = none ∧ s.heap.get? T = none
def CXX (P : Program) (w : World) : CXT := fun outer H s E ev s' => ∃ e H', ev = .ref e ∧ Flies P w outer H s e H' s' ∧ ∃ C dxo, H' e = some (XO e C dxo) ∧ E (.ref C) (some e) H'
theorem un_noted {fs frames : List Addr} {H H' : Hp} {h h1 h2 : Heap} {e : Addr} {oe : Obj} {old : Option Addr} {T : Addr} {fl : Value} (u : Un fs [] H H' h h1) (n : XC.Noted h1 h2 frames e oe old T fl) (hf : ∀ b ∈ frames, b ∈ fs ∨ h.objs.size ≤ b)
    (he : h.get? e = none) (ho : ∀ b, old = some b → h.get? b = none) : Un fs [] H H' h h2 where
  keep := fun b o q z nf nx => n.keep b o (u.keep b o q z nf nx) (fun m => (hf b m).elim nf fun l => absurd (Heap.lt_size q) (Nat.not_lt.mpr l)) (fun c => by rw [c, he] at q; cases q) (fun c => by rw [ho b c] at q; cases q)
  slot := fun b o q z m nx => by
    obtain ⟨sl, q1⟩ := u.slot b o q z m nx
    by_cases hb : b ∈ frames
    · obtain ⟨sl2, q2⟩ := n.slot b _ q1 hb
      exact ⟨sl2, q2⟩
    · exact ⟨sl, n.keep b _ q1 hb (fun c => by rw [c, he] at q; cases q) (fun c => by rw [ho b c] at q; cases q)⟩
  free := u.free
  there := fun b o q nx => by
    obtain ⟨o1, q1⟩ := u.there b o q nx
    by_cases hb : b ∈ frames
    · obtain ⟨sl2, q2⟩ := n.slot b _ q1 hb
      exact ⟨_, q2⟩
    · exact ⟨_, n.keep b _ q1 hb (fun c => by rw [c, he] at q; cases q) (fun c => by rw [ho b c] at q; cases q)⟩
  tups := u.tups
  frzs := u.frzs
  tbls := u.tbls
theorem hok_noted {P : Program} {w : World} {frames : List Addr} {H : Hp} {h1 h2 : Heap} {e C : Addr} {dxo : Option Addr} {oe : Obj} {old : Option Addr} {T : Addr} {fl : Value} (k : HOk P w H h1) (n : XC.Noted h1 h2 frames e oe old T fl) (hf : ∀ b ∈ frames, H b = none)
    (ho : ∀ b, old = some b → H b = none) (hx : H e = some (XO e C dxo)) (hoe : h1.get? e = some oe) : HOk P w H h2 := fun a o q => by
  have kp : ∀ b u, b ≠ e → H b ≠ none → h1.get? b = some u → h2.get? b = some u := fun b u ne nn g => n.keep b u g (fun m => nn (hf b m)) ne fun c => nn (ho b c)
  by_cases ha : a = e
  · subst ha
    rw [hx] at q
    cases q
    obtain ⟨o1, vs, g1, g2, g3, g4, g5⟩ := XO.of (k a _ hx)
    obtain ⟨vs', x1, x2, _⟩ := n.exc
    cases hoe.symm.trans g1
    exact XO.ok x1 g2 g3 rfl x2
  · refine (k a o q).stay (fun b u hb g => kp b u ?_ ?_ g) (fun _ z => z) fun _ _ z => z
    · rcases hb with rfl | hb
      · exact ha
      · rintro rfl
        rw [hx] at hb
        cases hb
    · rcases hb with rfl | hb
      · rw [q]; simp
      · rw [hb]; simp
section
variable {X : Cx} {pins : List (Addr × Obj)} {σ : St} {H H' : Hp} {s s' : Shared} {e : Addr}
theorem Flies.inv (F : Flies X.prog X.w X.stack H s e H' s') (I : Inv X pins σ H s) : Inv X pins σ H' s' := I.call' F.os F.un F.hok F.bare fun b z => absurd z (by simp)
/-- noted in the frame on top: it flies on -/
theorem Flies.noted {h2 : Heap} {oe oe2 : Obj} {old : Option Addr} {T : Addr} (F : Flies X.prog X.w X.stack H s e H' s') (I : Inv X pins σ H s) (lo : XC.Loose s'.heap e oe old) (ho : ∀ T, old = some T → H' T = none ∧ s.heap.get? T = none)
    (n : XC.Noted s'.heap h2 (frs X.stack) e oe old T .none) (l : XC.Loose h2 e oe2 (some T)) : Flies X.prog X.w X.stack H s e H' { s' with heap := h2 } := by
  have I2 := F.inv I
  obtain ⟨C, dxo, hx⟩ := F.at_
  have hoe : s'.heap.get? e = some oe := let ⟨_, q, _⟩ := lo; q
  refine ⟨F.os, F.bare, un_noted F.un n (fun b m => .inl m) F.new fun b z => (ho b z).2, hok_noted F.hok n I2.stkFree (fun b z => (ho b z).1) hx hoe, F.at_, F.new, oe2, some T, l, fun T' z => ?_⟩
  cases z
  refine ⟨F.hok.fresh n.new, ?_⟩
  cases q : s.heap.get? T with
  | none => rfl
  | some o =>
    obtain ⟨o', q'⟩ := F.un.there T o q (by simp)
    exact absurd (Heap.lt_size q') (Nat.not_lt.mpr n.new)
end
section
variable {P : Program} {w : World} {K : PySem.W.Frag} {mg : Str → Option Value} {base : Heap}
/-- a def that may raise, called by its name -/
structure FnX (P : Program) (w : World) (K : PySem.W.Frag) (mg : Str → Option Value) (base : Heap) (k : Nat) (x : Str) (ps : List Str) (sp : Sp) : Prop where
  ex : ∃ f fd, FnOk P w K mg base (CXX P w) k f fd ps sp ∧ mg x = some (.ref f) ∧ PySem.W.keepIn K (.ref f) = true ∧ Binds K fd ps []
theorem FnX.mono {j k : Nat} {x : Str} {ps : List Str} {sp : Sp} (F : FnX P w K mg base j x ps sp) (h : j ≤ k) : FnX P w K mg base k x ps sp :=
  let ⟨f, fd, a, b, c, d⟩ := F.ex; ⟨f, fd, a.mono h, b, c, d⟩
end
section
variable {X : Cx} {k : Nat} {f : Addr} {fd : FuncData} {ps : List Str} {sp : Sp} {E : St → XK} {x : Str} {p pos : Pos} {e : Expr} {es : List Expr} {t : TA}
end
end L2
set_option Elab.async false
set_option maxRecDepth 100000
namespace PySem
namespace XC
/-- what the names of its bases must be -/
structure Bases (B : String) (bm : List Value) : Prop where
  b : bm.contains (.type B) = true
  e : bm.contains (.type "BaseException") = true
  a : bm.contains (.type "AttributeError") = false
  n : bm.contains (.type "NameError") = false
section
variable {prog : Program} {w : World} {A : Around} {E : Value → Shared → Prop} {h : Heap} {g : Array GenState} {d : Drawn} {t : Nat} {os : OsState}
variable {nm q : Str} {C N : Addr} {bs bm bmB : List Value} {hdct : Bool} {sn : List Str} {sub : List Value} {ab : Bool} {col : Option Bool} {dd : Option Addr} {k0 k1 k2 k3 k5 : Option Value} {B newId initId : String}
end
end XC
end PySem
set_option Elab.async false
set_option maxRecDepth 100000
namespace PySem
namespace XC
open Builtin Builtin.ObjectAttr
section
variable {prog : Program} {w : World} {A : Around} {E : Value → Shared → Prop} {K : PySem.W.Frag} {h : Heap} {g : Array GenState} {d : Drawn} {t : Nat} {os : OsState} {x C dx : Addr} {ox : Obj} {od : Option Obj} {name : Str} {v : Value}
end
end XC
end PySem
set_option Elab.async false
set_option maxRecDepth 100000
namespace L2
open PySem PySem.Spec PyProof.Rows
def XN (e C : Addr) (dxo : Option Addr) : HO := .ext fun h => ∃ o vs, h.get? e = some o ∧ o.cls = .ref C ∧ o.dict = dxo ∧ o.data = .fields vs ∧ vs.size = 6 ∧ vs[1]? = some .none
theorem XN.ok {P : Program} {w : World} {H : Hp} {h : Heap} {e C : Addr} {dxo : Option Addr} {o : Obj} {vs : Array Value} (ho : h.get? e = some o) (hc : o.cls = .ref C) (hd : o.dict = dxo) (hv : o.data = .fields vs) (h6 : vs.size = 6) (h1 : vs[1]? = some .none) : ObjOk P w H h e (XN e C dxo) :=
  ⟨⟨o, vs, ho, hc, hd, hv, h6, h1⟩, ⟨o, ho⟩, fun _ _ ⟨o, vs, a, r⟩ k => ⟨o, vs, k o a, r⟩⟩
theorem XN.of {P : Program} {w : World} {H : Hp} {h : Heap} {e C : Addr} {dxo : Option Addr} (x : ObjOk P w H h e (XN e C dxo)) : ∃ o vs, h.get? e = some o ∧ o.cls = .ref C ∧ o.dict = dxo ∧ o.data = .fields vs ∧ vs.size = 6 ∧ vs[1]? = some .none := x.1
/-- raised or not -/
def IsX (H : Hp) (e C : Addr) (dxo : Option Addr) : Prop := H e = some (XO e C dxo) ∨ H e = some (XN e C dxo)
theorem IsX.obj {P : Program} {w : World} {H : Hp} {h : Heap} {e C : Addr} {dxo : Option Addr} (x : IsX H e C dxo) (k : HOk P w H h) : ∃ o vs, h.get? e = some o ∧ o.cls = .ref C ∧ o.dict = dxo ∧ o.data = .fields vs ∧ vs.size = 6 := by
  rcases x with x | x
  · exact XO.of (k _ _ x)
  · obtain ⟨o, vs, a, b, c, d, e, _⟩ := XN.of (k _ _ x)
    exact ⟨o, vs, a, b, c, d, e⟩
structure XCl (K : PySem.W.Frag) (C : Addr) (B newId initId : String) (bmB : List Value) : Prop where
  base : ExcBaseFacts B newId initId bmB
  ex : ∃ (nm q : Str) (N : Addr) (bs bm : List Value) (sn : List Str) (sub : List Value) (ab : Bool) (col : Option Bool) (dd : Option Addr) (k0 k1 k2 k3 k5 : Option Value), K.lookup C = some (excClassObj nm q C N bs bm true sn sub ab col dd k0 k1 k2 k3 k5 newId) ∧ XC.Bases B bm ∧ bm.contains (.type "object") = true ∧ ∀ self, refuseLoop self "__setattr__" bm = pure ()
  kp : PySem.W.keepIn K (.ref C) = true
  sa : PySem.W.findIn K (.ref C) "__setattr__" = some (some (.builtin "object.__setattr__"))
  ga : PySem.W.findIn K (.ref C) "__getattribute__" = some (some (.builtin "BaseException.__getattribute__"))
  gh : PySem.W.findIn K (.ref C) "__getattr__" = some none
theorem XCl.cd {K : PySem.W.Frag} {C : Addr} {B newId initId : String} {bmB : List Value} (x : XCl K C B newId initId bmB) : ∃ cd : ClassData, PySem.W.clsIn K C = some cd ∧ cd.mro.isEmpty = false ∧ cd.mro.contains (.type "object") = true ∧ cd.mro.contains (.type "BaseException") = true ∧ (∀ self, refuseLoop self "__setattr__" cd.mro = pure ()) ∧ cd.hasDict = true := by
  obtain ⟨nm, q, N, bs, bm, sn, sub, ab, col, dd, k0, k1, k2, k3, k5, l, b, ob, rf⟩ := x.ex
  refine ⟨_, by unfold PySem.W.clsIn; rw [l], rfl, ?_, ?_, fun self => ?_, rfl⟩
  · show (Value.ref C :: bm).contains _ = true
    rw [List.contains_cons, ob]; simp
  · show (Value.ref C :: bm).contains _ = true
    rw [List.contains_cons, b.e]; simp
  · show refuseLoop self "__setattr__" (Value.ref C :: bm) = pure ()
    rw [refuseLoop_ref]; exact rf self
section
variable {X : Cx} {pins : List (Addr × Obj)} {σ : St} {H : Hp} {s : Shared} {C : Addr} {B newId initId : String} {bmB : List Value}
/-- what C(..) leaves: younger than s, never raised -/
structure Made (X : Cx) (H : Hp) (s : Shared) (e C : Addr) (dxo : Option Addr) (H' : Hp) (s' : Shared) : Prop where
  os : s'.os = s.os
  bare : AllBare s'.gens
  un : Un (frs X.stack) [] H H' s.heap s'.heap
  hok : HOk X.prog X.w H' s'.heap
  at_ : H' e = some (XN e C dxo)
  new : s.heap.get? e = none
theorem Made.inv {e : Addr} {dxo : Option Addr} {H' : Hp} {s' : Shared} (m : Made X H s e C dxo H' s') (I : Inv X pins σ H s) : Inv X pins σ H' s' := I.call' m.os m.un m.hok m.bare fun b z => absurd z (by simp)
theorem xn_xo {P : Program} {w : World} {H : Hp} {h : Heap} {e : Addr} {dxo : Option Addr} (k : HOk P w H h) (x : H e = some (XN e C dxo)) : HOk P w (upd H e (XO e C dxo)) h := fun a o q => by
  have st : ∀ b u, b ≠ e → H b = some u → upd H e (XO e C dxo) b = some u := fun b u n z => by rw [upd_ne n]; exact z
  by_cases ha : a = e
  · subst ha
    rw [upd_same] at q
    cases q
    obtain ⟨o, vs, a1, a2, a3, a4, a5, _⟩ := XN.of (k _ _ x)
    exact XO.ok a1 a2 a3 a4 a5
  · rw [upd_ne ha] at q
    refine (k a o q).stay (fun _ _ _ z => z) (fun b z => st b _ ?_ z) fun b xs z => st b _ ?_ z
    · rintro rfl; rw [x] at z; cases z
    · rintro rfl; rw [x] at z; cases z
/-- raised, it flies -/
theorem Made.flies {e : Addr} {dxo : Option Addr} {H' : Hp} {s' : Shared} (m : Made X H s e C dxo H' s') : Flies X.prog X.w X.stack H s e (upd H' e (XO e C dxo)) s' := by
  obtain ⟨o, vs, a1, a2, a3, a4, a5, a6⟩ := XN.of (m.hok _ _ m.at_)
  have st : ∀ b u, H' b = some u → u ≠ XN e C dxo → upd H' e (XO e C dxo) b = some u := fun b u z n => by
    rw [upd_ne (fun q => n (by rw [q, m.at_] at z; exact (Option.some.inj z).symm))]
    exact z
  refine ⟨m.os, m.bare, ⟨m.un.keep, m.un.slot, fun b ob q z nx => ?_, m.un.there, fun b xs z => st b _ (m.un.tups b xs z) (by intro q; cases q), fun b ob u z => st b _ (m.un.frzs b ob u z) (by intro q; cases q), fun b ps z => ?_⟩, xn_xo m.hok m.at_, ⟨C, dxo, upd_same⟩, m.new, o, none, ⟨vs, a1, a4, a5, .inl ⟨rfl, a6⟩⟩, fun T z => by cases z⟩
  · rw [upd_ne (fun c => by rw [c, m.new] at q; cases q)]
    exact m.un.free b ob q z nx
  · obtain ⟨more, z'⟩ := m.un.tbls b ps z
    exact ⟨more, st b _ z' (by intro q; cases q)⟩
end
end L2
set_option Elab.async false
set_option maxRecDepth 100000
namespace PySem
namespace XC
section
variable {M : Model} {A : Around} {E : Value → Shared → Prop} {env : Env}
variable {nm q : Str} {C N : Addr} {bs bm : List Value} {hdct : Bool} {sn : List Str} {sub : List Value} {ab : Bool} {col : Option Bool} {dd : Option Addr} {k0 k1 k2 k3 k5 : Option Value} {newId : String}
end
end XC
end PySem
set_option Elab.async false
set_option maxRecDepth 100000
namespace PySem
namespace XC
open Builtin Builtin.ObjectAttr
section
variable {prog : Program} {w : World} {A : Around} {E : Value → Shared → Prop} {K : PySem.W.Frag} {h : Heap} {g : Array GenState} {d : Drawn} {t : Nat} {os : OsState} {x C : Addr} {ox : Obj} {od : Option Obj}
end
end XC
end PySem
set_option Elab.async false
set_option maxRecDepth 100000
namespace L2
open PySem PySem.Spec PyProof.Rows
section
variable {K : PySem.W.Frag} {C e : Addr} {B newId initId : String} {bmB : List Value}
end
/-- a class as a value -/
def ClsV : V → Value → Prop
  | .ty T, u => u = .type T
  | .ref C, u => u = .ref C
  | _, _ => False
theorem ClsV.rel {v : V} {u u' : Value} (h : ClsV v u) (r : RelV v u') : u' = u := by
  cases v with
  | ty T => exact r.trans h.symm
  | ref C => exact r.trans h.symm
  | _ => exact h.elim
section
variable {X : Cx}
end
end L2
set_option Elab.async false
set_option maxRecDepth 100000
namespace L2
open PySem PySem.Spec PyProof.Rows
section
variable {X : Cx} {C : Addr} {B newId initId : String} {bmB : List Value} {E : St → XK} {n : Str} {np cpos pos : Pos}
variable {k j : Nat} {ps : List Str} {sp : Sp} {e : Expr} {es : List Expr} {t : TA}
end
end L2
set_option Elab.async false
set_option maxRecDepth 100000
namespace L2
open PySem PySem.Spec PyProof.Rows
section
variable {X : Cx} {pins : List (Addr × Obj)} {σ : St} {H : Hp} {s : Shared}
end
end L2
set_option Elab.async false
set_option maxRecDepth 100000
set_option linter.all false
namespace PySem
open Sem (wp)
open PyProof.Rows
section
variable {prog : Program} {w : World} {A : Around} {E : Value → Shared → Prop} {s : Shared}
theorem wpAny_nextOf_tuple_item {it l : Addr} {i : Nat} {items} {x : Value} {Q : Value → Shared → Prop} (hit : s.heap.IsTupleIter it l i)
    (hl : s.heap.IsTuple l items) (hx : items[i]? = some x)
    (hQ : ∀ h', h'.IsTupleIter it l (i + 1) → Heap.SameBut it s.heap h' → Q x { s with heap := h' }) :
    wpAny (model prog w) A (Builtin.SmallTypes.nextOf (.ref it)) Q E s := by
  obtain ⟨o, ho, hc, hd⟩ := id hit
  obtain ⟨ol, hol, _, nl, hdl⟩ := hl
  unfold Builtin.SmallTypes.nextOf
  refine wpAny_bind (wpAny_callSpecial?_slot (name := Str.ofString "__next__") hit.typeIs F.slot_tuple_iterator_next
    (wpAny_call_entry F.slot_tuple_iterator_next hit.typeIs F.entry_tuple_iterator_next ?_ (F.args_tuple_iterator_next_1 _)))
  show wpAny _ _ (field (.ref it) 0 >>= _) _ _ s
  refine wpAny_bind (wpAny_field ho hd (x := .ref l) rfl ?_)
  show wpAny _ _ (if (Value.ref l == Value.none) = true then _ else _) _ _ s
  rw [if_neg (show ¬ ((Value.ref l == Value.none) = true) from Bool.false_ne_true)]
  show wpAny _ _ (field (.ref it) 1 >>= _) _ _ s
  refine wpAny_bind (wpAny_field ho hd (x := .int i 0) rfl ?_)
  show wpAny _ _ (seqItems? (.ref l) >>= _) _ _ s
  refine wpAny_bind (wpAny_seqItems hol hdl ?_)
  simp only [Int.toNat_natCast, hx]
  refine wpAny_bind (wpAny_setField ho hd (by simp) (wpAny_pure ⟨x, rfl, wpAny_pure (hQ _ ?_ (Heap.SameBut.update ..))⟩))
  exact ⟨_, Heap.get?_update_self _ ho (Obj.isFreed_of_fields (Obj.data_mapFields hd _)), (Obj.cls_mapFields ..).trans hc, by
    rw [Obj.data_mapFields hd]; simp [rawInt]⟩
theorem wpAny_nextOf_tuple_end {it l : Addr} {i : Nat} {items} {Q : Value → Shared → Prop} (hh : A.handled = none)
    (hit : s.heap.IsTupleIter it l i) (hl : s.heap.IsTuple l items) (hx : items[i]? = none)
    (hE : ∀ h' e, Heap.ExtBut it s.heap h' → (∃ o, h'.get? e = some o ∧ o.cls = .type "StopIteration") → E (.ref e) { s with heap := h' }) :
    wpAny (model prog w) A (Builtin.SmallTypes.nextOf (.ref it)) Q E s := by
  obtain ⟨o, ho, hc, hd⟩ := id hit
  obtain ⟨ol, hol, _, nl, hdl⟩ := hl
  unfold Builtin.SmallTypes.nextOf
  refine wpAny_bind (wpAny_callSpecial?_slot (name := Str.ofString "__next__") hit.typeIs F.slot_tuple_iterator_next
    (wpAny_call_entry F.slot_tuple_iterator_next hit.typeIs F.entry_tuple_iterator_next ?_ (F.args_tuple_iterator_next_1 _)))
  show wpAny _ _ (field (.ref it) 0 >>= _) _ _ s
  refine wpAny_bind (wpAny_field ho hd (x := .ref l) rfl ?_)
  show wpAny _ _ (if (Value.ref l == Value.none) = true then _ else _) _ _ s
  rw [if_neg (show ¬ ((Value.ref l == Value.none) = true) from Bool.false_ne_true)]
  show wpAny _ _ (field (.ref it) 1 >>= _) _ _ s
  refine wpAny_bind (wpAny_field ho hd (x := .int i 0) rfl ?_)
  show wpAny _ _ (seqItems? (.ref l) >>= _) _ _ s
  refine wpAny_bind (wpAny_seqItems hol hdl ?_)
  simp only [Int.toNat_natCast, hx]
  refine wpAny_bind (wpAny_rule (wpAny_bind (wpAny_setField ho hd (by simp) ?_)))
  show wpAny _ _ (newExc (.type "StopIteration") [] >>= _) _ _ _
  refine wpAny_bind ?_
  simp only [newExc, newTuple]
  refine wpAny_bind (wpAny_newObj_type ?_ (by size_fits))
  refine wpAny_bind (m := firstArgMember _ _) (wpAny_of_eq (a := Value.none) (by first | rfl | (simp only [firstArgMember]; rfl)) ?_)
  refine wpAny_newObj_type ?_ (by size_fits)
  simp only [raiseNew]
  refine wpAny_bind (wpAny_handled ?_)
  first | rw [show A.in1.handled = none from hh] | rw [hh]
  refine wpAny_bind (wpAny_pure (wpAny_throw ?_))
  exact hE _ _ (((Heap.SameBut.update ..).extBut.push _).push _) ⟨_, Heap.get?_push_size _ rfl, rfl⟩
end
section
variable {prog : Program} {w : World} {A : Around} {E : Value → Shared → Prop} {s : Shared}
end
end PySem
namespace L2
open PySem PySem.Spec PyProof.Rows
end L2
set_option Elab.async false
set_option maxRecDepth 100000
set_option linter.all false
namespace L2
open PySem PySem.Spec PyProof.Rows
section
variable {X : Cx} {k j : Nat} {f : Addr} {fd : FuncData} {ps ks : List Str} {sp : Sp} {E : St → XK} {x : Str} {p pos : Pos} {e : Expr} {es : List Expr} {kws : List Keyword} {t tk : TA} {g : List Value → List Value → List Value} {gV : List V → List V → List V}
end
section
variable {K : PySem.W.Frag}
end
section
variable {X : Cx} {k : Nat}
theorem op_fdivP (hr : Room k X.A) (hP : X.prog.given.tree = none) (hst : X.stack = X.env :: X.outer) (hgen : X.env.scope.isGenerator = false) (hco : X.env.scope.isCoroutine = false) (hk : 32 ≤ k) : OpR X (binaryOp .FloorDiv) (rI (fun _ j => 0 < j) fun i j => .int (i / j)) := by
  intro pins s σ H x y u v Q I rx ry h
  obtain ⟨i, j, rfl, rfl, hc, q⟩ := h
  obtain ⟨t, rfl⟩ := (show ∃ t, u = Value.int i t from rx)
  obtain ⟨t', rfl⟩ := (show ∃ t', v = Value.int j t' from ry)
  have hc' : (0 : Int) < j := hc
  refine floordiv_int (by omega) ⟨.int (i / j), H, I.tok _, ⟨_, by rw [Int.fdiv_eq_ediv_of_nonneg i (by omega)]⟩, q⟩ (.inr (PySem.PylongRoom.of I.nolimit ?_ (PySem.SeerAt.of I.seer hP (by rw [← hst]; exact I.ok.frames) hgen hco I.ok.blt I.ok.glob)))
  have := hr.dp
  show X.A.depth + 100 < recursionLimit
  omega
end
end L2
set_option Elab.async false
set_option maxRecDepth 100000
set_option linter.all false
namespace L2
open PySem PySem.Spec PyProof.Rows
section
variable {X : Cx}
end
/-- a def that may raise, where it does not -/
theorem FnOk.plain {P : Program} {w : World} {K : PySem.W.Frag} {mg : Str → Option Value} {base : Heap} {k : Nat} {f : Addr} {fd : FuncData} {ps : List Str} {sp sp' : Sp} (F : FnOk P w K mg base (CXX P w) k f fd ps sp)
    (h : ∀ vs H Q E, sp' vs H Q E → sp vs H Q fun _ _ _ => False) : FnOk P w K mg base CX0 k f fd ps sp' := by
  refine ⟨fun vs H Q E q => F.len _ _ _ _ (h vs H Q E q), fun A outer s H args us vs Q E hr e0 hb r q => ?_⟩
  refine codeAny_mono (F.run A outer s H args us vs Q _ hr e0 hb r (h vs H Q E q)) fun r s' z => ?_
  cases r with
  | error e =>
    obtain ⟨_, _, _, _, _, _, _, z⟩ := z
    exact z.elim
  | ok fl => cases fl <;> exact z
end L2
set_option Elab.async false
set_option maxRecDepth 100000
set_option linter.all false
namespace PySem
namespace XC
section
variable {prog : Program} {w : World} {A : Around} {E : Value → Shared → Prop} {h : Heap} {g : Array GenState} {d : Drawn} {t : Nat} {os : OsState}
variable {nm q : Str} {C N : Addr} {bs bm bmB : List Value} {hdct : Bool} {sn : List Str} {sub : List Value} {ab : Bool} {col : Option Bool} {dd : Option Addr} {k0 k1 k2 k3 k5 : Option Value} {B newId initId : String} {kw : List (Str × Value)}
end
end XC
end PySem
namespace L2
open PySem PySem.Spec PyProof.Rows
section
variable {X : Cx} {pins : List (Addr × Obj)} {σ : St} {H : Hp} {s : Shared} {C : Addr} {B newId initId : String} {bmB : List Value}
variable {n : Str} {np cpos : Pos} {k j : Nat} {ps ks : List Str} {sp : Sp} {kws : List Keyword} {tk : TA} {gV : List V → List V → List V}
end
section
variable {X : Cx} {pins : List (Addr × Obj)} {σ : St} {H : Hp} {s : Shared}
end
section
variable {K : PySem.W.Frag} {C D : Addr} {nm nm' q q' : Str} {N N' : Addr} {bs bs' bm bm' : List Value} {hd hd' : Bool} {sn sn' : List Str} {sub sub' : List Value} {ab ab' : Bool} {col col' : Option Bool} {dd dd' : Option Addr} {k0 k1 k2 k3 k5 j0 j1 j2 j3 j5 : Option Value} {ni ni' : String}
end
section
variable {X : Cx} {T name : Str}
end
end L2
set_option Elab.async false
set_option maxRecDepth 100000
set_option linter.all false
namespace L2
open PySem PySem.Spec PyProof.Rows
section
variable {P : Program} {w : World} {K : PySem.W.Frag} {mg : Str → Option Value} {base : Heap}
end
section
variable {X : Cx}
end
section
variable {X : Cx}
open Classical in
open Classical in
end
end L2
set_option Elab.async false
set_option maxRecDepth 100000
set_option linter.all false
namespace L2
open PySem PySem.Spec PyProof.Rows
section
variable {M : Model} {A : Around} {E : Value → Shared → Prop} {s : Shared}
end
def keyS : Value → Str
  | .str x _ => x
  | _ => ""
/-- a set of just these texts -/
def SetAt (w : World) (h : Heap) (a : Addr) (led : Bool) (ks : List Str) : Prop :=
  ∃ (es : Array (Int × Value)) (ep : Nat) (t : SetTable), h.get? a = some { cls := .type "set", dict := none, data := .set es ep t, slots := #[] } ∧ (∀ e ∈ es.toList, ∃ u, e.2 = .str (keyS e.2) u ∧ e.1 = hashStr w (keyS e.2)) ∧
    (es.toList.map fun e => keyS e.2).Nodup ∧ (∀ z, z ∈ (es.toList.map fun e => keyS e.2) ↔ z ∈ ks) ∧ es.size ≤ ks.length ∧ es.size < scanBound ∧ t.fits es.size = true ∧ t.led = led ∧ (es.size ≠ 0 → t.plain = false)
section
variable {prog : Program} {w : World} {A : Around} {E : Value → Shared → Prop} {s : Shared}
end
end L2
set_option Elab.async false
set_option maxRecDepth 100000
set_option linter.all false
namespace L2
open PySem PySem.Spec PyProof.Rows
section
variable {prog : Program} {w : World} {A : Around} {R : Result → Shared → Prop} {I : Addr} {fp wr : List Addr} {G : Array GenState → Array GenState → Prop} {n : Nat} {P : Nat → Value → Prop} {St : Nat → Shared → Prop}
theorem SetAt.at {h h' : Heap} {a : Addr} {led : Bool} {ks : List Str} (x : SetAt w h a led ks) (k : ∀ o, h.get? a = some o → h'.get? a = some o) : SetAt w h' a led ks := by
  obtain ⟨es, ep, t, g, r⟩ := x
  exact ⟨es, ep, t, k _ g, r⟩
end
section
variable {prog : Program} {w : World} {A : Around} {E : Value → Shared → Prop} {s : Shared}
end
end L2
set_option Elab.async false
set_option maxRecDepth 100000
set_option linter.all false
namespace L2
open PySem PySem.Spec PyProof.Rows
namespace SF
end SF
section
variable {prog : Program} {w : World} {A : Around} {E : Value → Shared → Prop} {s : Shared}
end
end L2
set_option Elab.async false
set_option maxRecDepth 100000
set_option linter.all false
namespace L2
open PySem PySem.Spec PyProof.Rows
section
variable {prog : Program} {w : World} {A : Around} {E : Value → Shared → Prop} {s : Shared}
end
end L2
set_option Elab.async false
set_option maxRecDepth 100000
set_option linter.all false
namespace L2
open PySem PySem.Spec PyProof.Rows
section
variable {prog : Program} {w : World} {A : Around} {E : Value → Shared → Prop} {s : Shared}
end
end L2
set_option Elab.async false
set_option maxRecDepth 100000
set_option linter.all false
namespace L2
open PySem PySem.Spec PyProof.Rows
section
variable {X : Cx} {pins : List (Addr × Obj)} {σ : St} {H : Hp} {s : Shared}
theorem Inv.dr (I : Inv X pins σ H s) (d : Drawn) : Inv X pins σ H { s with drawn := d } := ⟨I.ok, I.os, I.bare, I.base, I.loc, I.cell, I.free, I.freeC, I.pin, I.hok, I.len⟩
end
end L2
set_option Elab.async false
set_option maxRecDepth 100000
set_option linter.all false
namespace HT
open PySem PyProof.Rows
section
variable {prog : Program} {w : World} {A : Around} {E : Value → Shared → Prop} {s : Shared}
end
end HT
namespace L2
open PySem PySem.Spec PyProof.Rows
section
variable {X : Cx}
end
end L2
set_option Elab.async false
set_option maxRecDepth 100000
set_option linter.all false
namespace PySem
open Sem (wp)
open AutoSeq1 (wpAny_loadPart')
open PyProof.Rows
theorem meets_enumerate_newLT (l : Addr) (items : Array Value) (n : Nat) (dct : Option Addr) (sl : Array (Option Value)) :
    Meets (Builtin.«enumerate.__new__» ⟨[.type "enumerate", .ref l], []⟩) (fun _ R s => s.heap.get? l = some { cls := .type "tuple", dict := dct, data := .seq items n, slots := sl } ∧
      R (.ok (.ret (.ref (s.heap.push { cls := .type "tuple_iterator", data := .fields #[.ref l, .int 0 0] }).objs.size)))
        { s with heap := (s.heap.push { cls := .type "tuple_iterator", data := .fields #[.ref l, .int 0 0] }).push { cls := .type "enumerate", data := .fields #[.none, .bool false, .ref s.heap.objs.size, rawInt 0, .none, .none] } }) :=
  .of_wp fun prog w A R s h => by
    obtain ⟨hp, g, d, tk, os⟩ := s; obtain ⟨hl, h⟩ := h
    have hsub := sub_enumerate
    have hL : Heap.IsTuple (Shared.heap ⟨hp, g, d, tk, os⟩) l items := ⟨_, hl, rfl, n, rfl⟩
    wp_walk using wpAny_loadPart' hl
    refine wpAny_stack_any fun st => wpAny_pure ?_
    split
    · rename_i c _ _ _ _ _
      cases (c == Value.type "enumerate")
      · wp_walk using wpAny_loadPart' hl, wpAny_pyIter_tuple hL
        exact ⟨_, rfl, h⟩
      · wp_walk using wpAny_loadPart' hl, wpAny_pyIter_tuple hL
        exact ⟨_, rfl, h⟩
    · wp_walk using wpAny_loadPart' hl, wpAny_pyIter_tuple hL
      exact ⟨_, rfl, h⟩
section
variable {prog : Program} {w : World} {A : Around} {E : Value → Shared → Prop} {s : Shared}
theorem enumerate_next_itemT {e it l : Addr} {i : Nat} {items : Array Value} {x old : Value} {Q : Value → Shared → Prop}
    (he : IsEnum s.heap e it i old) (hit : s.heap.IsTupleIter it l i) (hl : s.heap.IsTuple l items) (hx : items[i]? = some x) (hne : e ≠ it)
    (hQ : ∀ h', IsEnumOut h' e it ((i : Int) + 1) x s.heap.objs.size → h'.IsTupleIter it l (i + 1) →
      h'.get? s.heap.objs.size = some { cls := .type "tuple", data := .seq #[.int i s.toks, x] } → h'.objs.size = s.heap.objs.size + 1 →
      (∀ b o, b ≠ e → b ≠ it → s.heap.get? b = some o → h'.get? b = some o) → Q (.ref s.heap.objs.size) { s with heap := h', toks := s.toks + 1 }) :
    wpAny (model prog w) A (Builtin.«enumerate.__next__» ⟨[.ref e], []⟩) (fun fin s' => ∃ v, fin = .done (.ret v) ∧ Q v s') E s := by
  obtain ⟨hp, g, d, tk, os⟩ := s
  show wpAny _ _ (field (.ref e) 2 >>= _) _ _ _
  refine wpAny_bind (wpAny_field he rfl (x := .ref it) rfl ?_)
  refine wpAny_bind (wpAny_nextOf_tuple_item hit hl hx fun h₁ hit₁ hs₁ => ?_)
  replace hs₁ : Heap.SameBut it hp h₁ := hs₁
  have he₁ : IsEnum h₁ e it i old := (hs₁.2 e hne).trans he
  show wpAny _ _ (field (.ref e) 3 >>= _) _ _ ⟨h₁, g, d, tk, os⟩
  refine wpAny_bind (wpAny_field he₁ rfl (x := rawInt i) rfl ?_)
  show wpAny _ _ (field (.ref e) 4 >>= _) _ _ ⟨h₁, g, d, tk, os⟩
  refine wpAny_bind (wpAny_field he₁ rfl (x := .none) rfl ?_)
  show wpAny _ _ (mkInt i >>= _) _ _ ⟨h₁, g, d, tk, os⟩
  refine wpAny_bind (wpAny_mkInt ?_)
  show wpAny _ _ (setField (.ref e) 3 (rawInt ((i : Int) + 1)) >>= _) _ _ ⟨h₁, g, d, tk + 1, os⟩
  refine wpAny_bind (wpAny_setField_rec he₁ (by simp) fun h₂ he₂ hs₂ => ?_)
  replace hs₂ : Heap.SameBut e h₁ h₂ := hs₂
  replace he₂ : IsEnum h₂ e it ((i : Int) + 1) old := he₂
  show wpAny _ _ (setField (.ref e) 4 .none >>= _) _ _ ⟨h₂, g, d, tk + 1, os⟩
  refine wpAny_bind (wpAny_setField_rec he₂ (by simp) fun h₃ he₃ hs₃ => ?_)
  replace hs₃ : Heap.SameBut e h₂ h₃ := hs₃
  replace he₃ : IsEnum h₃ e it ((i : Int) + 1) old := he₃
  show wpAny _ _ (newTuple [.int i tk, x] >>= _) _ _ ⟨h₃, g, d, tk + 1, os⟩
  refine wpAny_bind (wpAny_newTuple ?_)
  have he₄ : IsEnum (h₃.push { cls := .type "tuple", data := .seq #[.int i tk, x] }) e it ((i : Int) + 1) old := Heap.get?_push_of_some _ he₃
  generalize hh₄ : h₃.push { cls := .type "tuple", data := .seq #[.int i tk, x] } = h₄ at he₄
  have hsz : h₃.objs.size = hp.objs.size := by rw [hs₃.1, hs₂.1, hs₁.1]
  have hel : e < hp.objs.size := Heap.lt_size he
  have ht₄ : h₄.get? hp.objs.size = some { cls := .type "tuple", data := .seq #[.int i tk, x] } := by rw [← hh₄, ← hsz]; exact Heap.get?_push_size _ rfl
  have hz₄ : h₄.objs.size = hp.objs.size + 1 := by rw [← hh₄, Heap.size_push, hsz]
  have hk₄ : ∀ b o, b ≠ e → b ≠ it → hp.get? b = some o → h₄.get? b = some o := fun b o hbe hbi hb => by
    rw [← hh₄]; exact Heap.get?_push_of_some _ (hs₃.extBut b o hbe (hs₂.extBut b o hbe (hs₁.extBut b o hbi hb)))
  have hit₄ : h₄.IsTupleIter it l (i + 1) := by
    rw [← hh₄]; obtain ⟨o, ho, r⟩ := (hit₁.extBut hs₂.extBut (Ne.symm hne)).extBut hs₃.extBut (Ne.symm hne); exact ⟨o, Heap.get?_push_of_some _ ho, r⟩
  show wpAny _ _ (Builtin.SmallTypes.ownedTupleIsFree (.ref e) >>= _) _ _ ⟨h₄, g, d, tk + 1, os⟩
  rw [hsz]
  clear hh₄ he₃ hs₃ he₂ hs₂ he₁ hs₁ hit₁ hsz h₃ h₂ h₁
  refine wpAny_bind ?_
  · unfold Builtin.SmallTypes.ownedTupleIsFree
    refine wpAny_bind (wpAny_field he₄ rfl (x := .none) rfl (wpAny_pure ?_))
    simp only [if_true]
    refine wpAny_bind (wpAny_rule ?_)
    refine wpAny_bind (wpAny_field he₄ rfl (x := old) rfl ?_)
    refine wpAny_bind (wpAny_setField_rec he₄ (by simp) fun h₅ he₅ hs₅ => ?_)
    replace hs₅ : Heap.SameBut e h₄ h₅ := hs₅
    replace he₅ : IsEnum h₅ e it ((i : Int) + 1) x := he₅
    show wpAny _ _ (Builtin.SmallTypes.ownedTupleHandOut (.ref e) (.ref hp.objs.size) >>= _) _ _ ⟨h₅, g, d, tk + 1, os⟩
    refine wpAny_bind ?_
    · unfold Builtin.SmallTypes.ownedTupleHandOut
      refine wpAny_bind (wpAny_setField_rec he₅ (by simp) fun h₆ he₆ hs₆ => ?_)
      replace hs₆ : Heap.SameBut e h₅ h₆ := hs₆
      replace he₆ : IsEnumOut h₆ e it ((i : Int) + 1) x hp.objs.size := he₆
      refine wpAny_setField_rec he₆ (by simp) fun h₇ he₇ hs₇ => ?_
      replace hs₇ : Heap.SameBut e h₆ h₇ := hs₇
      replace he₇ : IsEnumOut h₇ e it ((i : Int) + 1) x hp.objs.size := he₇
      refine wpAny_bind (wpAny_letGo (wpAny_pure ⟨_, rfl, hQ h₇ he₇ ?_ ?_ ?_ ?_⟩))
      · exact ((hit₄.extBut hs₅.extBut (Ne.symm hne)).extBut hs₆.extBut (Ne.symm hne)).extBut hs₇.extBut (Ne.symm hne)
      · exact hs₇.extBut _ _ (Nat.ne_of_gt hel) (hs₆.extBut _ _ (Nat.ne_of_gt hel) (hs₅.extBut _ _ (Nat.ne_of_gt hel) ht₄))
      · rw [hs₇.1, hs₆.1, hs₅.1, hz₄]
      · exact fun b o hbe hbi hb => hs₇.extBut b o hbe (hs₆.extBut b o hbe (hs₅.extBut b o hbe (hk₄ b o hbe hbi hb)))
theorem wpAny_pyNext_enum_itemT {e it l : Addr} {i : Nat} {items : Array Value} {x old : Value} {Q : Option Value → Shared → Prop}
    (he : IsEnum s.heap e it i old) (hit : s.heap.IsTupleIter it l i) (hl : s.heap.IsTuple l items) (hx : items[i]? = some x) (hne : e ≠ it)
    (hQ : ∀ h', IsEnumOut h' e it ((i : Int) + 1) x s.heap.objs.size → h'.IsTupleIter it l (i + 1) →
      h'.get? s.heap.objs.size = some { cls := .type "tuple", data := .seq #[.int i s.toks, x] } → h'.objs.size = s.heap.objs.size + 1 →
      (∀ b o, b ≠ e → b ≠ it → s.heap.get? b = some o → h'.get? b = some o) → Q (some (.ref s.heap.objs.size)) { s with heap := h', toks := s.toks + 1 }) :
    wpAny (model prog w) A (pyNext (.ref e)) Q E s := by
  have hT : s.TypeIs (.ref e) "enumerate" := ⟨_, he, rfl⟩
  unfold pyNext
  exact wpAny_bind (wpAny_attempt (wpAny_callSpecial?_slot (name := Str.ofString "__next__") hT F.slot_enumerate_next
    (wpAny_call_entry F.slot_enumerate_next hT F.entry_enumerate_next
      (enumerate_next_itemT he hit hl hx hne fun h' a b c d k => wpAny_pure (hQ h' a b c d k)) (F.args_enumerate_next_1 _))))
theorem wpAny_pyNext_enum_endT {e it l : Addr} {i : Nat} {items : Array Value} {old : Value} {Q : Option Value → Shared → Prop} (hh : A.handled = none)
    (he : IsEnum s.heap e it i old) (hit : s.heap.IsTupleIter it l i) (hl : s.heap.IsTuple l items) (hx : items[i]? = none)
    (hQ : ∀ h', Heap.ExtBut it s.heap h' → Q none { s with heap := h' }) : wpAny (model prog w) A (pyNext (.ref e)) Q E s := by
  have hT : s.TypeIs (.ref e) "enumerate" := ⟨_, he, rfl⟩
  unfold pyNext
  refine wpAny_bind (wpAny_attempt (wpAny_callSpecial?_slot (name := Str.ofString "__next__") hT F.slot_enumerate_next
    (wpAny_call_entry F.slot_enumerate_next hT F.entry_enumerate_next ?_ (F.args_enumerate_next_1 _))))
  show wpAny _ _ (field (.ref e) 2 >>= _) _ _ _
  refine wpAny_bind (wpAny_field he rfl (x := .ref it) rfl ?_)
  refine wpAny_bind (wpAny_nextOf_tuple_end hh hit hl hx fun h' x he' hx' => ?_)
  obtain ⟨o, ho, hc⟩ := hx'
  refine wpAny_bind (wpAny_isInstance (T := "StopIteration") (b := true) ⟨o, ho, hc⟩ isSubtype_stop ?_)
  exact wpAny_pure (hQ _ he')
end
section
variable {prog : Program} {w : World} {A : Around} {E : Value → Shared → Prop} {s : Shared}
theorem call_enumerate_listT {l : Addr} {items : Array Value} {Q : Value → Shared → Prop} (hL : s.heap.IsTuple l items)
    (h : ∀ h', IsEnum h' (s.heap.objs.size + 1) s.heap.objs.size 0 .none → h'.IsTupleIter s.heap.objs.size l 0 → h'.objs.size = s.heap.objs.size + 2 →
      (∀ b o, s.heap.get? b = some o → h'.get? b = some o) → Q (.ref (s.heap.objs.size + 1)) { s with heap := h' }) :
    wpAny (model prog w) A (call (.type "enumerate") [.ref l]) Q E s := by
  obtain ⟨⟨c, dct, dt, sl⟩, hl, hc, n, hd⟩ := hL
  replace hc : c = .type "tuple" := hc
  replace hd : dt = .seq items n := hd
  subst hc hd
  refine callType_new F.called_enumerate (by decide) (F.typeCall_enumerate_1 _) (F.newCall_enumerate_1 _) (fun obj => F.args_object_init_2 obj _) F.entry_enumerate_new
    (meets_enumerate_newLT l items n dct sl) ⟨hl, ?_⟩
  have hz : (s.heap.push { cls := .type "tuple_iterator", data := .fields #[.ref l, .int 0 0] }).objs.size = s.heap.objs.size + 1 := Heap.size_push ..
  show _ ∧ _
  rw [hz]
  have he : IsEnum ((s.heap.push { cls := .type "tuple_iterator", data := .fields #[.ref l, .int 0 0] }).push
      { cls := .type "enumerate", data := .fields #[.none, .bool false, .ref s.heap.objs.size, rawInt 0, .none, .none] }) (s.heap.objs.size + 1) s.heap.objs.size 0 .none := by
    have := Heap.get?_push_size (s.heap.push { cls := .type "tuple_iterator", data := .fields #[.ref l, .int 0 0] })
      (o := { cls := .type "enumerate", data := .fields #[.none, .bool false, .ref s.heap.objs.size, rawInt 0, .none, .none] }) rfl
    rw [hz] at this; exact this
  refine ⟨⟨_, he, rfl⟩, h _ he ⟨_, Heap.get?_push_of_some _ (Heap.get?_push_size _ rfl), rfl, rfl⟩ (by rw [Heap.size_push, hz]) fun b o x => Heap.get?_push_of_some _ (Heap.get?_push_of_some _ x)⟩
end
end PySem
namespace L2
open PySem PySem.Spec PyProof.Rows
/-- the tuple at a as it stands at each turn, each item in a new pair -/
def IteT (K : PySem.W.Frag) (a : Addr) : It :=
  ⟨fun i H => ∃ (xs : List V) (x : V), SqT K H a xs ∧ xs[i]? = some x, fun i H v H' => ∃ T x, v = .ref T ∧ H T = none ∧ H' = upd H T (.tup [.int (i : Nat), x]) ∧ ∀ xs, SqT K H a xs → xs[i]? = some x, fun i H => ∃ xs : List V, SqT K H a xs ∧ xs.length ≤ i⟩
theorem turn_enumT {P : Program} {w : World} {K : PySem.W.Frag} {elts : List Expr} {kk : Nat} {tpos : Pos} (a e it : Addr) :
    Turn P w K (.Tuple elts kk tpos) (IteT K a) [e, it] e (fun i h => (∃ old, IsEnum h e it ((i : Nat) : Int) old) ∧ h.IsTupleIter it a i ∧ e ≠ it) where
  mem := by simp
  obj := fun i h st b hb => by
    obtain ⟨⟨old, he⟩, ⟨o, ho, hc, hd⟩, _⟩ := st
    have e' : b = e ∨ b = it := by simpa using hb
    rcases e' with z | z
    · rw [z]; exact ⟨_, he, fun v q => nomatch q⟩
    · rw [z]; exact ⟨o, ho, fun v q => by rw [hd] at q; cases q⟩
  keep := fun i h h' st k => let ⟨⟨old, he⟩, hi, hne⟩ := st; ⟨⟨old, k e (by simp) _ he⟩, hi.at fun o q => k it (by simp) o q, hne⟩
  item := by
    intro X hP hw hK hc i pins s σ H E I hf st hg
    subst hP hw hK
    obtain ⟨⟨old, he⟩, hit, hne⟩ := st
    obtain ⟨xs, x, hq, hx⟩ := hg
    obtain ⟨its, rv, p, hz⟩ := I.tuple hq
    obtain ⟨u, hu, ru⟩ := rv.get hx
    have hel : e < s.heap.objs.size := Heap.lt_size he
    have hil : it < s.heap.objs.size := by obtain ⟨_, q, _⟩ := hit; exact Heap.lt_size q
    refine wpAny_pyNext_enum_itemT he hit p (x := u) (by simpa using hu) hne fun h' ho hit' hT hsz hk => ?_
    refine ⟨_, rfl, wpAny_letOwnedTupleGo_enum (s := { s with heap := h', toks := s.toks + 1 }) ho fun h'' he' sb => ?_⟩
    have hT2 : h''.get? s.heap.objs.size = some { cls := .type "tuple", data := .seq #[.int i s.toks, u] } := (sb.2 _ (Nat.ne_of_gt hel)).trans hT
    have new : ObjOk X.prog X.w (upd H s.heap.objs.size (.tup [.int (i : Nat), x])) h'' s.heap.objs.size (.tup [.int (i : Nat), x]) :=
      ⟨by show 2 ≤ sizeLine; decide, [.int i s.toks, u], .cons ⟨_, rfl⟩ (.cons ru .nil), ⟨_, hT2, rfl, _, rfl⟩⟩
    have I1 : Inv X pins σ (upd H s.heap.objs.size (.tup [.int (i : Nat), x])) { s with heap := h'', toks := s.toks + 1 } :=
      I.turnedNew (ch := [e, it]) (fun b ob hb q => (sb.2 b (fun z => hb (by simp [z]))).trans (hk b ob (fun z => hb (by simp [z])) (fun z => hb (by simp [z])) q)) hf (Nat.le_refl _) new
    refine ⟨.ref s.heap.objs.size, _, I1, rfl, ⟨_, x, rfl, I.hok.fresh (Nat.le_refl _), rfl, fun ys hy => by rw [I.tuple_inj hy hq]; exact hx⟩, ⟨⟨u, ?_⟩, hit'.at fun o q => (sb.2 it (Ne.symm hne)).trans q, hne⟩, fun b hb => ?_⟩
    · have e1 : ((i + 1 : Nat) : Int) = (i : Int) + 1 := by omega
      rw [e1]; exact he'
    · have hb' : b < s.heap.objs.size := by
        have e' : b = e ∨ b = it := by simpa using hb
        rcases e' with z | z
        · rw [z]; exact hel
        · rw [z]; exact hil
      rw [upd_ne (Nat.ne_of_lt hb')]
      exact (hf b hb).1
  done := by
    intro X hP hw hK hc i pins s σ H E I hf st hg
    subst hP hw hK
    obtain ⟨⟨old, he⟩, hit, hne⟩ := st
    obtain ⟨xs, hq, hx⟩ := hg
    obtain ⟨its, rv, p, hz⟩ := I.tuple hq
    obtain ⟨f0, f1, f2, f3, f4, f5⟩ := hf it (by simp)
    have hl := rv.length
    exact wpAny_pyNext_enum_endT (I.ok.hd hc) he hit p (by simp; omega) fun h' eb => ⟨rfl, I.turned (t' := s.toks) (fun b o hb q => eb b o hb q) f0 f1 f3 f4 f5⟩
  self := fun A i s Q E st h => let ⟨⟨_, he⟩, _⟩ := st; wpAny_pyIter_enum he h
def iEnumT (K : PySem.W.Frag) (ta : TA) : TI := fun σ H R => ta σ H fun vs H1 => ∃ a xs, vs = [.ref a] ∧ SqT K H1 a xs ∧ R (IteT K a) H1
theorem pi_enumT {X : Cx} {e : Expr} {ta : TA} {p pos tpos : Pos} {elts : List Expr} {kk : Nat} (hg : Gl X "enumerate") (hm : X.mg "enumerate" = none) (ha : PA X [e] ta) (hs : starEach [e] X.env = [(false, eval e X.env)] := by rfl) :
    PI X (.Tuple elts kk tpos) (.Call (.Name "enumerate" p) [e] [] pos) (iEnumT X.K ta) := by
  intro pins s σ H R I h
  refine Call_ (ld_blt I hg hm boot_enumerate (PyProof.Rows.callWith_type1 (thn (ha pos pins s σ H _ I h) fun us s1 ⟨vs, H1, I1, r1, q1⟩ => ?_) hs rfl))
  obtain ⟨a, xs, ex, hq, q⟩ := q1
  subst ex
  cases r1 with
  | cons r rr =>
    cases rr
    cases r
    obtain ⟨its, rv, p', hz⟩ := I1.tuple hq
    refine call_enumerate_listT p' fun h' he hit hsz hk => wpAny_pyIter_enum he ?_
    have I2 : Inv X pins σ H1 { s1 with heap := h' } := I1.kept (t' := s1.toks) hk
    refine ⟨s1.heap.objs.size + 1, [s1.heap.objs.size + 1, s1.heap.objs.size], _, _, H1, rfl, I2, turn_enumT a (s1.heap.objs.size + 1) s1.heap.objs.size, ⟨⟨.none, he⟩, hit, Nat.succ_ne_self _⟩, fun b hb => ?_, q⟩
    have e' : b = s1.heap.objs.size + 1 ∨ b = s1.heap.objs.size := by simpa using hb
    have hle : s1.heap.objs.size ≤ b := by
      rcases e' with z | z
      · rw [z]; exact Nat.le_add_right _ _
      · rw [z]; exact Nat.le_refl _
    exact I1.fpOk hle (I1.hok.fresh hle)
/-- for i, x in enumerate(tuple) -/
theorem for_enumT {K : PySem.W.Frag} {a : Addr} {xs : List V} {g : TG} {tb : TS} {D : Ends} {σ : St} {H : Hp} (Pv : Nat → St → Hp → Prop) (h0 : Pv 0 σ H) (hl : ∀ i σ H, i ≤ xs.length → Pv i σ H → SqT K H a xs)
    (hs : ∀ i x T σ H, xs[i]? = some x → Pv i σ H → H T = none → g (.ref T) σ (upd H T (.tup [.int (i : Nat), x])) fun σ2 H2 => tb { D with nx := Pv (i + 1), ct := Pv (i + 1), bk := D.nx } σ2 H2) (hd : ∀ σ H, Pv xs.length σ H → D.nx σ H) :
    ∃ W : Nat → Nat → St → Hp → Prop, (∃ m, W 0 m σ H) ∧ ∀ i m σ H, W i m σ H →
      ((IteT K a).stop i H ∧ D.nx σ H) ∨ ((IteT K a).go i H ∧ ∃ N : St → Hp → Prop, (∀ σ' H', N σ' H' → ∃ m', m' < m ∧ W (i + 1) m' σ' H') ∧ ∀ x H', (IteT K a).yld i H x H' → g x σ H' fun σ2 H2 => tb { D with nx := N, ct := N, bk := D.nx } σ2 H2) := by
  refine ⟨fun i m σ H => m = xs.length - i ∧ i ≤ xs.length ∧ Pv i σ H, ⟨xs.length, by simp, Nat.zero_le _, h0⟩, ?_⟩
  rintro i m σ H ⟨rfl, hi, p⟩
  have q := hl i σ H hi p
  by_cases hlt : i < xs.length
  · refine .inr ⟨⟨xs, xs[i], q, by simp [hlt]⟩, Pv (i + 1), fun σ' H' p' => ⟨xs.length - (i + 1), by omega, rfl, hlt, p'⟩, fun x H' y => ?_⟩
    obtain ⟨T, x, rfl, hT, rfl, y⟩ := y
    exact hs i x T σ H (y xs q) p hT
  · have e : i = xs.length := by omega
    subst e
    exact .inl ⟨⟨xs, q, Nat.le_refl _⟩, hd σ H p⟩
end L2
set_option Elab.async false
set_option maxRecDepth 100000
set_option linter.all false
namespace L2
open PySem PySem.Spec PyProof.Rows
section
variable {X : Cx} {a b c d : Expr} {ta tb tc td : TE} {pos : Pos}
end
end L2
set_option Elab.async false
set_option maxRecDepth 100000
set_option linter.all false
namespace L2
open PySem PySem.Spec PyProof.Rows
end L2
set_option Elab.async false
set_option maxRecDepth 100000
set_option linter.all false
namespace L2
open PySem PySem.Spec PyProof.Rows
section
variable {X : Cx}
end
end L2
set_option Elab.async false
set_option maxRecDepth 100000
set_option linter.all false
namespace L2
open PySem PySem.Spec PyProof.Rows
section
variable {X : Cx}
end
end L2
set_option Elab.async false
set_option maxRecDepth 100000
set_option linter.all false
namespace L2
open PySem PySem.Spec PyProof.Rows
section
variable {X : Cx}
end
end L2
set_option Elab.async false
set_option maxRecDepth 100000
set_option linter.all false
namespace L2
open PySem PySem.Spec PyProof.Rows
def keyI : Value → Int
  | .int x _ => x
  | _ => 0
/-- the places rise, no dummies -/
def Rising (t : SetTable) : Prop := t.dummies = #[] ∧ t.place.toList.Pairwise (· < ·)
/-- a set of just these whole numbers -/
def SetIt (h : Heap) (a : Addr) (led : Bool) (ks : List Int) : Prop :=
  ∃ (es : Array (Int × Value)) (ep : Nat) (t : SetTable), h.get? a = some { cls := .type "set", dict := none, data := .set es ep t, slots := #[] } ∧ (∀ e ∈ es.toList, ∃ u, e.2 = .int (keyI e.2) u ∧ e.1 = hashInt (keyI e.2)) ∧
    (es.toList.map fun e => keyI e.2).Nodup ∧ (∀ z, z ∈ (es.toList.map fun e => keyI e.2) ↔ z ∈ ks) ∧ es.size ≤ ks.length ∧ es.size < scanBound ∧ t.fits es.size = true ∧ t.led = led ∧ Rising t
section
variable {prog : Program} {w : World} {A : Around} {E : Value → Shared → Prop} {s : Shared}
end
section
variable {prog : Program} {w : World} {A : Around} {R : Result → Shared → Prop} {I : Addr} {fp wr : List Addr} {G : Array GenState → Array GenState → Prop} {n : Nat} {P : Nat → Value → Prop} {St : Nat → Shared → Prop}
theorem SetIt.at {h h' : Heap} {a : Addr} {led : Bool} {ks : List Int} (x : SetIt h a led ks) (k : ∀ o, h.get? a = some o → h'.get? a = some o) : SetIt h' a led ks := by
  obtain ⟨es, ep, t, g, r⟩ := x
  exact ⟨es, ep, t, k _ g, r⟩
end
section
variable {prog : Program} {w : World} {A : Around} {E : Value → Shared → Prop} {s : Shared}
end
section
variable {prog : Program} {w : World} {A : Around} {E : Value → Shared → Prop} {s : Shared}
end
section
variable {prog : Program} {w : World} {A : Around} {E : Value → Shared → Prop} {s : Shared}
end
section
variable {X : Cx} {pins : List (Addr × Obj)} {σ : St} {H : Hp} {s : Shared}
end
end L2
set_option Elab.async false
set_option maxRecDepth 100000
set_option linter.all false
namespace L2
open PySem PySem.Spec PyProof.Rows
section
variable {X : Cx}
def tDc (wi : TI) (g : TG) (tt : TT) (tk tv : TE) (vs : List Nat) : TE := fun σ H Q => wi σ H fun J H1 => ∀ D, H1 D = none → ∃ W : Nat → Nat → Hp → Prop, (∃ m, W 0 m (upd H1 D (.dT []))) ∧ ∀ i m H, W i m H →
  (J.stop i H ∧ Q (.ref D) H) ∨ (J.go i H ∧ ∃ Nx : Hp → Prop, (∀ H', Nx H' → ∃ m', m' < m ∧ W (i + 1) m' H') ∧ ∀ x H', J.yld i H x H' → g x (wipe σ vs) H' fun σ2 H2 => wipe σ2 vs = wipe σ vs ∧ tt σ2 H2 fun b H3 =>
    if b = true then tk σ2 H3 fun y H4 => tv σ2 H4 fun z H5 => ∃ kvs k q, H5 D = some (.dT kvs) ∧ y = .ref q ∧ H5 q = some (.tup (k.map kV)) ∧ kvs.length < sizeLine ∧ Nx (upd H5 D (.dT (putK kvs k z))) else Nx H3)
theorem dput_ok {X : Cx} {pins : List (Addr × Obj)} {σ : St} {H : Hp} {s : Shared} {D q : Addr} {kvs : List (List Key × V)} {k : List Key} {y z : V} {u v : Value} {Q : Unit → Shared → Prop} {A : Around} {E : Value → Shared → Prop} (hu : A.units < cLine) (I : Inv X pins σ H s)
    (e : H D = some (.dT kvs)) (ey : y = .ref q) (eb : H q = some (.tup (k.map kV))) (l : kvs.length < sizeLine) (ry : RelV y u) (rv : RelV z v) (h : ∀ s', Inv X pins σ (upd H D (.dT (putK kvs k z))) s' → Q () s') :
    wpAny (model X.prog X.w) A (dictSet D u v) Q E s := by
  subst ey
  obtain rfl : u = Value.ref q := ry
  obtain ⟨zz, hd, xs, rel, dd⟩ := dt_of I.hok e
  have hz : xs.length ≤ sizeLine := by rw [← Paired.length rel]; exact zz
  have hl : (putK kvs k z).length ≤ sizeLine := by have := length_putK kvs k z; omega
  refine wpAny_dictSet_heap (hsz := hz) (show A.units < cLine from hu) (key_of I.hok eb) dd fun h' dd' hs => h _ ?_
  obtain ⟨ob, es, ep, hq, h2, h3, h4, _, h5⟩ := dd'
  refine d_write I (by rw [e]; exact True.intro) hs ⟨ob, hq⟩ ⟨hl, hd, _, (rel.put k eb rv).keeps fun c ys ec => ?_, ob, es, ep, hq, h2, h3, h4, h5⟩
  rw [upd_ne (ne_of ec e (fun w => nomatch w))]
  exact ec
theorem dcLoop_any {prog : Program} {w : World} {A : Around} {R : Result → Shared → Prop} {s : Shared} {kx vx target iter : Expr} {ifs : List Expr} {scope : Scope} {pos : Pos} {it : Value} {D : Addr} {env : Env} (I : Nat → Shared → Prop)
    (turn : ∀ n s, I n s → wpAny (model prog w) A (pyNext it) (fun r s₁ => match r with
      | none => R (.ok .next) s₁
      | some v => wpAny (model prog w) A (letOwnedTupleGo target it v) (fun _ s₁' => wpAny (model prog w) A (assign target env v) (fun _ s₂ =>
          wpAny (model prog w) A (forIn ifs true fun c r => if r = true then do let ok ← isTrue c env (eval c env); pure (ForInStep.yield ok) else pure (ForInStep.yield r)) (fun ok s₃ =>
            if ok = true then wpAny (model prog w) A (eval kx env) (fun kv s₄ => wpAny (model prog w) A (eval vx env) (fun vv s₅ =>
              wpAny (model prog w) A (dictSet D kv vv) (fun _ s₆ => ∃ m, m < n ∧ I m s₆) (notedBy (model prog w) A env fun e s' => R (.error e) s') s₅) (notedBy (model prog w) A env fun e s' => R (.error e) s') s₄) (notedBy (model prog w) A env fun e s' => R (.error e) s') s₃
            else ∃ m, m < n ∧ I m s₃) (notedBy (model prog w) A env fun e s' => R (.error e) s') s₂) (notedBy (model prog w) A env fun e s' => R (.error e) s') s₁') (notedBy (model prog w) A env fun e s' => R (.error e) s') s₁) (notedBy (model prog w) A env fun e s' => R (.error e) s') s)
    (n : Nat) (h : I n s) :
    codeAny (model prog w) A (.compLoop (.DictComp kx vx [⟨target, iter, ifs, 0⟩] scope pos) 0 it (.ref D) env) R s := by
  refine codeAny_loop rfl I (fun n s hI => ?_) n h
  show wpAny _ A ((compTurn (.DictComp kx vx [⟨target, iter, ifs, 0⟩] scope pos) 0 it (.ref D) env).onRaise (fun x => do noteFrame x env; theTreesLotGoes x)) _ _ s
  refine wpAny_noted ?_
  rw [compTurn_dict]
  refine wpAny_bind (wpAny_standAt (wpAny_bind (wpAny_mono (turn n s hI) (fun r s₁ h₁ => ?_) fun _ _ h' => h')))
  cases r with
  | none => exact wpAny_pure h₁
  | some v =>
    refine wpAny_bind (wpAny_mono h₁ (fun _ s₀ h₀ => ?_) fun _ _ h' => h')
    refine wpAny_bind (wpAny_mono h₀ (fun _ s₂ h₂ => wpAny_bind (wpAny_mono h₂ (fun ok s₃ h₃ => ?_) fun _ _ h' => h')) fun _ _ h' => h')
    cases ok with
    | false => exact wpAny_pure ⟨rfl, h₃⟩
    | true =>
      exact wpAny_bind (wpAny_bind (wpAny_mono h₃ (fun kv s₄ h₄ => wpAny_bind (wpAny_holding (wpAny_mono h₄ (fun vv s₅ h₅ => wpAny_bind (wpAny_standAt (wpAny_holding (wpAny_mono h₅ (fun _ s₆ h₆ => wpAny_pure ⟨rfl, h₆⟩) fun _ _ h' => h')))) fun _ _ h' => h'))) fun _ _ h' => h'))
theorem dc_core {pins : List (Addr × Obj)} {s : Shared} {σ : St} {H : Hp} {Q : VK} {kx vx tg iter : Expr} {ifs : List Expr} {scope : Scope} {own : List (Str × Nat)} {pos pos' : Pos} {wi : TI} {g : TG} {tt : TT} {tk tv : TE} {use : Option (Value → Sem Unit)} {Qf : Value → Shared → Prop}
    (hc : X.calm = true) (hN : X.N.Nodup) (I : Inv X pins σ H s) (hi : PI X tg iter wi) (ok : BlkOk X.N X.env.scope scope own)
    (hg : ∀ (s : Shared) (H : Hp) (C : Addr) (cl : List (Str × Addr)) (fp : List Addr), PG (X.blk s H scope (compEnvC scope cl C X.env) fp) tg g) (ht : ∀ (s : Shared) (H : Hp) (C : Addr) (cl : List (Str × Addr)) (fp : List Addr), PTs (X.blk s H scope (compEnvC scope cl C X.env) fp) ifs tt)
    (hk : ∀ (s : Shared) (H : Hp) (C : Addr) (cl : List (Str × Addr)) (fp : List Addr), PE (X.blk s H scope (compEnvC scope cl C X.env) fp) kx tk) (he : ∀ (s : Shared) (H : Hp) (C : Addr) (cl : List (Str × Addr)) (fp : List Addr), PE (X.blk s H scope (compEnvC scope cl C X.env) fp) vx tv) (hu : ∀ (s : Shared) (H : Hp) (C : Addr) (cl : List (Str × Addr)) (fp : List Addr), (X.blk s H scope (compEnvC scope cl C X.env) fp).A.units + 1 < cLine) (hs : ∀ x, foldedSetIterable iter X.env x = pure x)
    (h : tDc wi g tt tk tv (own.map (·.2)) σ H Q)
    (hRR : ∀ D C s' m H', Inv X pins σ H' s' → Q (.ref D) H' → s'.heap.Ns C m → FpOk X pins H' C → compPost (model X.prog X.w) X.A X.xe use Qf (.ref D) C (.ok .next) s') :
    wpAny (model X.prog X.w) X.A (comprehension (.DictComp kx vx [⟨tg, iter, ifs, 0⟩] scope pos) scope X.env pos' newDict false (eval iter X.env) use) Qf X.xe s := by
  have hfree : ∀ y ∈ scope.names, y.2 = .free → ∃ c, X.env.cells.lookup y.1 = some c := fun y hy e => by
    rcases ok.free y hy e with k | k
    · exact I.ok.has _ (.inl k)
    · exact I.ok.has _ (.inr k)
  refine wpAny_comprehension_free (use := use) rfl hs (closure_ok hfree) ok.kind (fun y hy e => by rw [ok.uniq y hy, e])
    (thn (hi pins s σ H _ I h) fun xv s1 hx => thn hx fun itv s2 h2 => ?_)
  obtain ⟨it, fp, tn, J, H2, e, I2, T, st2, f2, q⟩ := h2
  subst e
  refine wpAny_newObj_type (newEnv_comp ?_)
  generalize hD : s2.heap.objs.size = D
  have hDn : H2 D = none := I2.hok.fresh (Nat.le_of_eq hD)
  obtain ⟨W, ⟨m0, w0⟩, turn⟩ := q D hDn
  -- the new list
  generalize hs3 : ({ s2 with heap := s2.heap.push { cls := .type "dict", dict := none, data := .dict #[] } } : Shared) = s3
  have I3 : Inv X pins σ (upd H2 D (.dT [])) s3 := by
    rw [← hs3]
    refine I2.laid (t' := s2.toks) (fun b o e => Heap.get?_push_of_some _ e) (Nat.le_of_eq hD) ?_
    rw [← hD]
    exact dt_empty s2.heap I2.big
  have h3 : s3.heap = s2.heap.push { cls := .type "dict", dict := none, data := .dict #[] } := by rw [← hs3]
  have sz : ∀ b ∈ fp, b < s2.heap.objs.size := fun b hb => by
    obtain ⟨o, e, _⟩ := T.obj _ _ st2 b hb
    exact Heap.lt_size e
  have f3 : ∀ b ∈ fp, FpOk X pins (upd H2 D (.dT [])) b ∧ b < s3.heap.objs.size := fun b hb => by
    have hlt := sz b hb
    refine ⟨⟨?_, (f2 b hb).2⟩, by rw [h3, Heap.size_push]; exact Nat.lt_succ_of_lt hlt⟩
    rw [upd_ne (by rw [← hD]; exact Nat.ne_of_lt hlt)]
    exact (f2 b hb).1
  have st3 : tn 0 s3.heap := T.keep _ _ _ st2 fun b _ o e => by rw [h3]; exact Heap.get?_push_of_some _ e
  have I4 := block_start I3 ok hN f3
  have pg := hg s3 (upd H2 D (.dT [])) s3.heap.objs.size (cellsFrom (s3.heap.objs.size + 1) scope.names (cloFrom X.env.cells scope.names [])) fp
  have pt := ht s3 (upd H2 D (.dT [])) s3.heap.objs.size (cellsFrom (s3.heap.objs.size + 1) scope.names (cloFrom X.env.cells scope.names [])) fp
  have pk := hk s3 (upd H2 D (.dT [])) s3.heap.objs.size (cellsFrom (s3.heap.objs.size + 1) scope.names (cloFrom X.env.cells scope.names [])) fp
  have hu' := hu s3 (upd H2 D (.dT [])) s3.heap.objs.size (cellsFrom (s3.heap.objs.size + 1) scope.names (cloFrom X.env.cells scope.names [])) fp
  have pe := he s3 (upd H2 D (.dT [])) s3.heap.objs.size (cellsFrom (s3.heap.objs.size + 1) scope.names (cloFrom X.env.cells scope.names [])) fp
  show codeAny _ _ (.compStart (.DictComp kx vx [⟨tg, iter, ifs, 0⟩] scope pos) 0 (.ref it) (.ref D) (compEnvC scope (cellsFrom (s3.heap.objs.size + 1) scope.names (cloFrom X.env.cells scope.names [])) s3.heap.objs.size X.env)) (compPost (model X.prog X.w) X.A X.xe use Qf (.ref D) s3.heap.objs.size) { s3 with heap := pushCells (s3.heap.push { cls := .type "dict", data := .dict #[] }) scope.names }
  have nfp : ∀ b ∈ fp, (upd H2 D (.dT [])) b = none := fun b hb => (f3 b hb).1.1
  generalize hce : compEnvC scope (cellsFrom (s3.heap.objs.size + 1) scope.names (cloFrom X.env.cells scope.names [])) s3.heap.objs.size X.env = ce at I4 pg pt pk hu' pe ⊢
  have cL : ce.locals = s3.heap.objs.size := by subst hce; rfl
  generalize hH3 : upd H2 D (.dT []) = H3 at I3 I4 pg pt pk hu' pe w0 nfp f3
  generalize hs4 : ({ s3 with heap := pushCells (s3.heap.push { cls := .type "dict", data := .dict #[] }) scope.names } : Shared) = s4 at I4 ⊢
  have st4 : tn 0 s4.heap := T.keep _ _ _ st3 fun b _ o e => by rw [← hs4]; exact pushCells_keeps _ _ _ _ (Heap.get?_push_of_some _ e)
  have stat : ∀ {σ' : St} {H' : Hp} {s' : Shared}, Inv (X.blk s3 H3 scope ce fp) [] σ' H' s' → (∀ b ∈ fp, H' b = none) → ∀ b ∈ fp, FpOk (X.blk s3 H3 scope ce fp) [] H' b := fun {σ' H' s'} I' hn b hb =>
    ⟨hn b hb, (I'.ok.exf b hb).1, I'.ok.exfs b hb, .inl hb, fun x c e => (I'.ok.exf b hb).2 x c e, fun p hp => absurd (show p ∈ ([] : List (Addr × Obj)) ++ [] from hp) (by simp)⟩
  have loop : codeAny (model X.prog X.w) X.A (.compLoop (.DictComp kx vx [⟨tg, iter, ifs, 0⟩] scope pos) 0 (.ref it) (.ref D) ce) (compPost (model X.prog X.w) X.A X.xe use Qf (.ref D) s3.heap.objs.size) s4 := by
    refine dcLoop_any (fun n s' => ∃ i H', Inv (X.blk s3 H3 scope ce fp) [] (wipe σ (own.map (·.2))) H' s' ∧ tn i s'.heap ∧ (∀ b ∈ fp, H' b = none) ∧ W i n H') ?_ m0 ⟨0, H3, I4, st4, nfp, w0⟩
    rintro n s5 ⟨i, H5, I5, st5, n5, w5⟩
    rcases turn i n H5 w5 with ⟨stop, qq⟩ | ⟨go, Nx, hNx, step⟩
    · have td := T.done (X.blk s3 H3 scope ce fp) rfl rfl rfl hc i [] s5 _ H5 (fun _ _ => False) I5 (stat I5 n5) st5 stop
      refine thnF td fun r s6 ⟨hr, I6⟩ => ?_
      subst hr
      -- back in the def's context
      have I7 : Inv X pins σ H5 s6 := I3.call' (ch := fp) I6.os I6.base I6.hok I6.bare fun b hb => ⟨(f3 b hb).1.2.2.2.1, (f3 b hb).1.2.1, (f3 b hb).1.2.2.2.2.1, (f3 b hb).1.2.2.2.2.2⟩
      have nC : H5 s3.heap.objs.size = none := by
        have z : H5 ce.locals = none := I6.free
        rw [cL] at z
        exact z
      obtain ⟨m, hn, _⟩ := I6.loc
      have hn : s6.heap.Ns ce.locals m := hn
      rw [cL] at hn
      exact hRR D s3.heap.objs.size s6 m H5 I7 qq hn (I3.fpOk (Nat.le_refl _) nC)
    · have ti := T.item (X.blk s3 H3 scope ce fp) rfl rfl rfl hc i [] s5 _ H5 (fun _ _ => False) I5 (stat I5 n5) st5 go
      refine thnF ti fun r s6 ⟨u, hr, h6⟩ => ?_
      subst hr
      refine thnF h6 fun _ s7 ⟨x, H7, I7, r7, y7, st7, n7⟩ => ?_
      have I7' := I7.pinned (stat I7 n7) (T.obj _ _ st7)
      refine thnF (pg _ s7 _ H7 x u _ I7' r7 (step x H7 y7)) fun _ s8 ⟨σ8, H8, I8, hw8, q8⟩ => ?_
      refine thnF (pt _ s8 σ8 H8 _ I8 q8) fun b s9 ⟨H9, I9, q9⟩ => ?_
      -- the turn's end
      have fin : ∀ {s' : Shared} {H' : Hp}, Inv (X.blk s3 H3 scope ce fp) ([] ++ pinsAt fp s7.heap) σ8 H' s' → Nx H' → ∃ m, m < n ∧ ∃ i H', Inv (X.blk s3 H3 scope ce fp) [] (wipe σ (own.map (·.2))) H' s' ∧ tn i s'.heap ∧ (∀ b ∈ fp, H' b = none) ∧ W i m H' := fun {s' H'} I' nx => by
        obtain ⟨m', hm, w'⟩ := hNx H' nx
        have pin' : ∀ b ∈ fp, ∀ o, s7.heap.get? b = some o → s'.heap.get? b = some o ∧ H' b = none := fun b hb o e =>
          let z := I'.pin (b, o) (List.mem_append_right _ (List.mem_append_right _ (mem_pinsAt hb e)))
          ⟨z.1, z.2.1⟩
        have hl : (wipe σ (own.map (·.2))).length = σ8.length := by rw [← hw8, wipe_length]
        refine ⟨m', hm, i + 1, H', (I'.unpinned (pins := [])).weak hl (fun j v e => ?_), T.keep _ _ _ st7 fun b hb o e => (pin' b hb o e).1, fun b hb => ?_, w'⟩
        · rw [← hw8] at e
          exact (wipe_some e).1
        · obtain ⟨o, e, _⟩ := T.obj _ _ st7 b hb
          exact (pin' b hb o e).2
      cases b with
      | false =>
        simp only [Bool.false_eq_true, if_false] at q9 ⊢
        exact fin I9 q9
      | true =>
        simp only [if_true] at q9 ⊢
        refine thnF (pk _ s9 σ8 H9 _ I9 q9) fun z s10 ⟨yv, H10, I10, r10, q10⟩ => ?_
        refine thnF (pe _ s10 σ8 H10 _ I10 q10) fun z2 s11 ⟨zv, H11, I11, r11, kvs, k, q, hD11, ey, eq, hz11, nx⟩ => ?_
        exact dput_ok (X := X.blk s3 H3 scope ce fp) (A := (X.blk s3 H3 scope ce fp).A) (Nat.lt_of_succ_lt hu') I11 hD11 ey eq hz11 r10 r11 fun s12 I12 => fin I12 nx
  exact codeAny_compStart_dict loop (T.self X.A 0 _ _ _ st4 loop)
theorem pe_dc {kx vx tg iter : Expr} {ifs : List Expr} {scope : Scope} {own : List (Str × Nat)} {pos : Pos} {wi : TI} {g : TG} {tt : TT} {tk tv : TE} (hc : X.calm = true) (hN : X.N.Nodup) (hi : PI X tg iter wi) (ok : BlkOk X.N X.env.scope scope own)
    (hg : ∀ (s : Shared) (H : Hp) (C : Addr) (cl : List (Str × Addr)) (fp : List Addr), PG (X.blk s H scope (compEnvC scope cl C X.env) fp) tg g) (ht : ∀ (s : Shared) (H : Hp) (C : Addr) (cl : List (Str × Addr)) (fp : List Addr), PTs (X.blk s H scope (compEnvC scope cl C X.env) fp) ifs tt)
    (hk : ∀ (s : Shared) (H : Hp) (C : Addr) (cl : List (Str × Addr)) (fp : List Addr), PE (X.blk s H scope (compEnvC scope cl C X.env) fp) kx tk) (he : ∀ (s : Shared) (H : Hp) (C : Addr) (cl : List (Str × Addr)) (fp : List Addr), PE (X.blk s H scope (compEnvC scope cl C X.env) fp) vx tv) (hu : ∀ (s : Shared) (H : Hp) (C : Addr) (cl : List (Str × Addr)) (fp : List Addr), (X.blk s H scope (compEnvC scope cl C X.env) fp).A.units + 1 < cLine) (hs : ∀ x, foldedSetIterable iter X.env x = pure x := by intro _; rfl) :
    PE X (.DictComp kx vx [⟨tg, iter, ifs, 0⟩] scope pos) (tDc wi g tt tk tv (own.map (·.2))) := by
  intro pins s σ H Q I h
  rw [arm_eval_DictComp]
  refine dc_core hc hN I hi ok hg ht hk he hu hs h fun D C s' m H' I' q hn f => ⟨m, hn, fun h'' sb => ?_⟩
  obtain ⟨f0, f1, f2, f3, f4, f5⟩ := f
  exact ⟨.ref D, H', I'.turned (t' := s'.toks) (fun b o hb e => (sb.2 b hb).trans e) f0 f1 f3 f4 f5, rfl, q⟩
end
section
variable {X : Cx}
end
section
variable {prog : Program} {w : World} {A : Around} {R : Result → Shared → Prop} {I : Addr} {fp wr : List Addr} {n : Nat} {P : Nat → Value → Prop} {St : Nat → Heap → Prop}
end
section
variable {prog : Program} {w : World} {A : Around} {E : Value → Shared → Prop} {s : Shared}
end
section
variable {X : Cx}
end
section
variable {X : Cx}
end
end L2
set_option Elab.async false
set_option maxRecDepth 100000
set_option linter.all false
namespace L2
open PySem PySem.Spec PyProof.Rows
section
variable {X : Cx} {o e f : Expr} {apos cpos : Pos} {td ty tx : TE}
end
end L2
set_option Elab.async false
set_option maxRecDepth 100000
set_option linter.all false
namespace L2
open PySem PySem.Spec PyProof.Rows
section
variable {X : Cx}
end
end L2
set_option Elab.async false
set_option maxRecDepth 100000
set_option linter.all false
namespace HT
open PySem PyProof.Rows
section
variable {prog : Program} {w : World} {A : Around} {E : Value → Shared → Prop} {s : Shared}
end
end HT
namespace L2
open PySem PySem.Spec PyProof.Rows
section
variable {X : Cx}
end
end L2
set_option Elab.async false
set_option maxRecDepth 100000
set_option linter.all false
namespace PySem
open Sem (wp)
open Builtin
open PyProof.Rows
end PySem
namespace L2
open PySem PySem.Spec PyProof.Rows
section
variable {X : Cx}
end
end L2
set_option Elab.async false
set_option maxRecDepth 100000
set_option linter.all false
namespace PySem
open Sem (wp)
open PyProof.Rows
/-- a list (no) or a tuple (yes) stands at l -/
def Heap.IsSq (h : Heap) (b : Bool) (l : Addr) (xs : Array Value) : Prop := match b with | true => h.IsTuple l xs | false => h.IsList l xs
def Heap.IsSqIter (h : Heap) (b : Bool) (i l : Addr) (k : Nat) : Prop := match b with | true => h.IsTupleIter i l k | false => h.IsListIter i l k
def sqItO (b : Bool) (l : Addr) : Obj := match b with | true => { cls := .type "tuple_iterator", data := .fields #[.ref l, .int 0 0] } | false => { cls := .type "list_iterator", data := .fields #[.ref l, .int 0 0] }
theorem Heap.IsSq.extBut {h h' : Heap} {b : Bool} {a c items} (x : Heap.IsSq h b a items) (hs : Heap.ExtBut c h h') (hab : a ≠ c) : Heap.IsSq h' b a items := match b, x with | true, x => Heap.IsTuple.extBut x hs hab | false, x => Heap.IsList.extBut x hs hab
theorem Heap.IsSq.push {h : Heap} {b : Bool} {a items} (x : Heap.IsSq h b a items) (o : Obj) : Heap.IsSq (h.push o) b a items := match b, x with | true, x => Heap.IsTuple.push x o | false, x => Heap.IsList.push x o
theorem Heap.IsSq.at {h h' : Heap} {b : Bool} {a items} (x : Heap.IsSq h b a items) (e : ∀ o, h.get? a = some o → h'.get? a = some o) : Heap.IsSq h' b a items := match b, x with | true, x => Heap.IsTuple.at x e | false, x => Heap.IsList.at x e
theorem Heap.IsSq.lt {h : Heap} {b : Bool} {a items} (x : Heap.IsSq h b a items) : a < h.objs.size := match b, x with | true, ⟨_, e, _⟩ => Heap.lt_size e | false, ⟨_, e, _⟩ => Heap.lt_size e
theorem Heap.IsSqIter.extBut {h h' : Heap} {b : Bool} {a c l i} (x : Heap.IsSqIter h b a l i) (hs : Heap.ExtBut c h h') (hab : a ≠ c) : Heap.IsSqIter h' b a l i := match b, x with | true, x => Heap.IsTupleIter.extBut x hs hab | false, x => Heap.IsListIter.extBut x hs hab
theorem Heap.IsSqIter.at {h h' : Heap} {b : Bool} {a l i} (x : Heap.IsSqIter h b a l i) (e : ∀ o, h.get? a = some o → h'.get? a = some o) : Heap.IsSqIter h' b a l i := match b, x with | true, x => Heap.IsTupleIter.at x e | false, x => Heap.IsListIter.at x e
theorem Heap.IsSqIter.lt {h : Heap} {b : Bool} {a l i} (x : Heap.IsSqIter h b a l i) : a < h.objs.size := match b, x with | true, ⟨_, e, _⟩ => Heap.lt_size e | false, ⟨_, e, _⟩ => Heap.lt_size e
theorem Heap.IsSqIter.new {h : Heap} (b : Bool) (l : Addr) : Heap.IsSqIter (h.push (sqItO b l)) b h.objs.size l 0 := match b with | true => ⟨_, Heap.get?_push_size _ rfl, rfl, rfl⟩ | false => ⟨_, Heap.get?_push_size _ rfl, rfl, rfl⟩
theorem sqItO_nf {b : Bool} {l : Addr} : (sqItO b l).isFreed = false := by cases b <;> rfl
theorem sqIt_of {h : Heap} {b : Bool} {i l : Addr} (g : h.get? i = some (sqItO b l)) : Heap.IsSqIter h b i l 0 := match b, g with | true, g => ⟨_, g, rfl, rfl⟩ | false, g => ⟨_, g, rfl, rfl⟩
section
variable {prog : Program} {w : World} {A : Around} {E : Value → Shared → Prop} {s : Shared}
theorem wpAny_pyIter_sq {b : Bool} {l : Addr} {items} {Q : Value → Shared → Prop} (hl : Heap.IsSq s.heap b l items) (hQ : Q (.ref s.heap.objs.size) { s with heap := s.heap.push (sqItO b l) }) : wpAny (model prog w) A (pyIter (.ref l)) Q E s := by
  cases b with
  | true => exact wpAny_pyIter_tuple hl hQ
  | false => exact wpAny_pyIter_list hl hQ
theorem wpAny_nextOf_sq_item {b : Bool} {it l : Addr} {i : Nat} {items} {x : Value} {Q : Value → Shared → Prop} (hit : Heap.IsSqIter s.heap b it l i) (hl : Heap.IsSq s.heap b l items) (hx : items[i]? = some x)
    (hQ : ∀ h', Heap.IsSqIter h' b it l (i + 1) → Heap.SameBut it s.heap h' → Q x { s with heap := h' }) : wpAny (model prog w) A (Builtin.SmallTypes.nextOf (.ref it)) Q E s := by
  cases b with
  | true => exact wpAny_nextOf_tuple_item hit hl hx hQ
  | false => exact wpAny_nextOf_list_item hit hl hx hQ
theorem wpAny_nextOf_sq_end {b : Bool} {it l : Addr} {i : Nat} {items} {Q : Value → Shared → Prop} (hh : A.handled = none) (hit : Heap.IsSqIter s.heap b it l i) (hl : Heap.IsSq s.heap b l items) (hx : items[i]? = none)
    (hE : ∀ h' e, Heap.ExtBut it s.heap h' → (∃ o, h'.get? e = some o ∧ o.cls = .type "StopIteration") → E (.ref e) { s with heap := h' }) : wpAny (model prog w) A (Builtin.SmallTypes.nextOf (.ref it)) Q E s := by
  cases b with
  | true => exact wpAny_nextOf_tuple_end hh hit hl hx hE
  | false => exact wpAny_nextOf_list_end hh hit hl hx hE
end
section
variable {prog : Program} {w : World} {A : Around} {E : Value → Shared → Prop} {s : Shared}
theorem zip_next_itemG {b1 b2 : Bool} {z TI TO i1 i2 l1 l2 : Addr} {k1 k2 : Nat} {xs ys : Array Value} {x y a b : Value} {Q : Value → Shared → Prop} (D : ZipApart z TI TO i1 i2 l1 l2)
    (hz : IsZip s.heap z TI TO .none) (hTI : IsPair s.heap TI (.ref i1) (.ref i2)) (hTO : IsPair s.heap TO a b)
    (h1 : Heap.IsSqIter s.heap b1 i1 l1 k1) (h2 : Heap.IsSqIter s.heap b2 i2 l2 k2) (hl1 : Heap.IsSq s.heap b1 l1 xs) (hl2 : Heap.IsSq s.heap b2 l2 ys) (hx : xs[k1]? = some x) (hy : ys[k2]? = some y)
    (hQ : ∀ h', IsZip h' z TI TO (rawInt s.heap.objs.size) → IsPair h' TO x y → Heap.IsSqIter h' b1 i1 l1 (k1 + 1) → Heap.IsSqIter h' b2 i2 l2 (k2 + 1) → IsPair h' s.heap.objs.size x y → h'.objs.size = s.heap.objs.size + 1 →
      (∀ c o, c ≠ z → c ≠ TO → c ≠ i1 → c ≠ i2 → s.heap.get? c = some o → h'.get? c = some o) → Q (.ref s.heap.objs.size) { s with heap := h' }) :
    wpAny (model prog w) A (Builtin.«zip.__next__» ⟨[.ref z], []⟩) (fun fin s' => ∃ v, fin = .done (.ret v) ∧ Q v s') E s := by
  show wpAny _ _ (field (.ref z) 2 >>= _) _ _ _
  refine wpAny_bind (wpAny_field hz rfl (x := .bool false) rfl ?_)
  show wpAny _ _ (field (.ref z) 3 >>= _) _ _ _
  refine wpAny_bind (wpAny_field hz rfl (x := .ref TI) rfl ?_)
  refine wpAny_bind (wpAny_seqItems hTI rfl ?_)
  show wpAny _ _ (Builtin.SmallTypes.ownedTupleIsFree (.ref z) >>= _) _ _ _
  refine wpAny_bind ?_
  unfold Builtin.SmallTypes.ownedTupleIsFree
  refine wpAny_bind (wpAny_field hz rfl (x := .none) rfl (wpAny_pure ?_))
  simp only [if_true]
  refine wpAny_bind (wpAny_rule ?_)
  refine wpAny_bind (wpAny_field hz rfl (x := .ref TO) rfl ?_)
  refine wpAny_bind (wpAny_setField_rec hz (by simp) fun h₁ hz₁ hs₁ => ?_)
  replace hz₁ : IsZip h₁ z TI TO .ellipsis := hz₁
  refine wpAny_bind ?_
  simp only [List.zipIdx_cons, List.zipIdx_nil, List.forIn_cons, List.forIn_nil]
  refine wpAny_bind (wpAny_bind (wpAny_onRaise ?_))
  show wpAny _ _ (Builtin.SmallTypes.nextOf (.ref i1) >>= _) _ _ _
  refine wpAny_bind (wpAny_nextOf_sq_item (h1.extBut hs₁.extBut D.i1z) (hl1.extBut hs₁.extBut D.l1z) hx fun h₂ h1₂ hs₂ => wpAny_pure ?_)
  have hTO₂ : IsPair h₂ TO a b := hs₂.extBut _ _ D.TOi1 (hs₁.extBut _ _ D.TOz hTO)
  refine wpAny_bind (wpAny_seqItems hTO₂ rfl ?_)
  refine wpAny_bind (wpAny_updateSeq_pair hTO₂ fun h₃ hTO₃ hs₃ => ?_)
  replace hTO₃ : IsPair h₃ TO x b := hTO₃
  refine wpAny_bind (wpAny_letGo (wpAny_pure ?_))
  refine wpAny_bind (wpAny_bind (wpAny_onRaise ?_))
  show wpAny _ _ (Builtin.SmallTypes.nextOf (.ref i2) >>= _) _ _ _
  refine wpAny_bind (wpAny_nextOf_sq_item (((h2.extBut hs₁.extBut D.i2z).extBut hs₂.extBut D.i12.symm).extBut hs₃.extBut D.TOi2.symm)
    (((hl2.extBut hs₁.extBut D.l2z).extBut hs₂.extBut D.l2i1).extBut hs₃.extBut D.l2TO) hy fun h₄ h2₄ hs₄ => wpAny_pure ?_)
  have hTO₄ : IsPair h₄ TO x b := hs₄.extBut _ _ D.TOi2 hTO₃
  refine wpAny_bind (wpAny_seqItems hTO₄ rfl ?_)
  refine wpAny_bind (wpAny_updateSeq_pair hTO₄ fun h₅ hTO₅ hs₅ => ?_)
  replace hTO₅ : IsPair h₅ TO x y := hTO₅
  refine wpAny_bind (wpAny_letGo (wpAny_pure (wpAny_pure ?_)))
  refine wpAny_bind (wpAny_seqItems hTO₅ rfl ?_)
  refine wpAny_bind (wpAny_newTuple ?_)
  have hsz : h₅.objs.size = s.heap.objs.size := by rw [hs₅.1, hs₄.1, hs₃.1, hs₂.1, hs₁.1]
  have hz₅ : IsZip h₅ z TI TO .ellipsis := hs₅.extBut _ _ D.TOz.symm (hs₄.extBut _ _ D.i2z.symm (hs₃.extBut _ _ D.TOz.symm (hs₂.extBut _ _ D.i1z.symm hz₁)))
  have hk₅ : ∀ c o, c ≠ z → c ≠ TO → c ≠ i1 → c ≠ i2 → s.heap.get? c = some o → h₅.get? c = some o := fun c o c1 c2 c3 c4 e =>
    hs₅.extBut _ _ c2 (hs₄.extBut _ _ c4 (hs₃.extBut _ _ c2 (hs₂.extBut _ _ c3 (hs₁.extBut _ _ c1 e))))
  have h1₅ : Heap.IsSqIter h₅ b1 i1 l1 (k1 + 1) := ((h1₂.extBut hs₃.extBut D.TOi1.symm).extBut hs₄.extBut D.i12).extBut hs₅.extBut D.TOi1.symm
  have h2₅ : Heap.IsSqIter h₅ b2 i2 l2 (k2 + 1) := h2₄.extBut hs₅.extBut D.TOi2.symm
  have hzlt : z < h₅.objs.size := Heap.lt_size hz₅
  have hTOlt : TO < h₅.objs.size := Heap.lt_size hTO₅
  have hi1lt : i1 < h₅.objs.size := h1₅.lt
  have hi2lt : i2 < h₅.objs.size := h2₅.lt
  show wpAny _ _ (Builtin.SmallTypes.ownedTupleHandOut (.ref z) (.ref h₅.objs.size) >>= _) _ _ _
  refine wpAny_bind ?_
  unfold Builtin.SmallTypes.ownedTupleHandOut
  have hz₆ : IsZip (h₅.push { cls := .type "tuple", data := .seq #[x, y] }) z TI TO .ellipsis := Heap.get?_push_of_some _ hz₅
  refine wpAny_bind (wpAny_setField_rec hz₆ (by simp) fun h₇ hz₇ hs₇ => ?_)
  replace hz₇ : IsZip h₇ z TI TO (rawInt h₅.objs.size) := hz₇
  refine wpAny_setField_rec hz₇ (by simp) fun h₈ hz₈ hs₈ => ?_
  replace hz₈ : IsZip h₈ z TI TO (rawInt h₅.objs.size) := hz₈
  have up : ∀ c o, c ≠ z → h₅.get? c = some o → h₈.get? c = some o := fun c o c1 e => hs₈.extBut _ _ c1 (hs₇.extBut _ _ c1 (Heap.get?_push_of_some _ e))
  have hT₈ : IsPair h₈ h₅.objs.size x y := hs₈.extBut _ _ (Nat.ne_of_gt hzlt) (hs₇.extBut _ _ (Nat.ne_of_gt hzlt) (Heap.get?_push_size _ rfl))
  have hz8 : h₈.objs.size = h₅.objs.size + 1 := by rw [hs₈.1, hs₇.1, Heap.size_push]
  rw [hsz] at hz₈ hT₈ hz8
  refine wpAny_pure ⟨_, rfl, ?_⟩
  show Q (.ref h₅.objs.size) _
  rw [hsz]
  exact hQ h₈ hz₈ (up _ _ D.TOz hTO₅) (h1₅.at fun o e => up _ o D.i1z e) (h2₅.at fun o e => up _ o D.i2z e) hT₈ hz8 fun c o c1 c2 c3 c4 e => up c o c1 (hk₅ c o c1 c2 c3 c4 e)
theorem zip_next_endG {b1 b2 : Bool} {z TI TO i1 i2 l1 l2 : Addr} {k1 k2 : Nat} {xs ys : Array Value} {a b : Value} {Q : Fin → Shared → Prop} (hh : A.handled = none) (D : ZipApart z TI TO i1 i2 l1 l2)
    (hz : IsZip s.heap z TI TO .none) (hTI : IsPair s.heap TI (.ref i1) (.ref i2)) (hTO : IsPair s.heap TO a b)
    (h1 : Heap.IsSqIter s.heap b1 i1 l1 k1) (h2 : Heap.IsSqIter s.heap b2 i2 l2 k2) (hl1 : Heap.IsSq s.heap b1 l1 xs) (hl2 : Heap.IsSq s.heap b2 l2 ys) (hend : xs[k1]? = none ∨ ys[k2]? = none)
    (hE : ∀ h' e, (∀ c o, c ≠ z → c ≠ TO → c ≠ i1 → c ≠ i2 → s.heap.get? c = some o → h'.get? c = some o) → (∃ o, h'.get? e = some o ∧ o.cls = .type "StopIteration") → E (.ref e) { s with heap := h' }) :
    wpAny (model prog w) A (Builtin.«zip.__next__» ⟨[.ref z], []⟩) Q E s := by
  show wpAny _ _ (field (.ref z) 2 >>= _) _ _ _
  refine wpAny_bind (wpAny_field hz rfl (x := .bool false) rfl ?_)
  show wpAny _ _ (field (.ref z) 3 >>= _) _ _ _
  refine wpAny_bind (wpAny_field hz rfl (x := .ref TI) rfl ?_)
  refine wpAny_bind (wpAny_seqItems hTI rfl ?_)
  show wpAny _ _ (Builtin.SmallTypes.ownedTupleIsFree (.ref z) >>= _) _ _ _
  refine wpAny_bind ?_
  unfold Builtin.SmallTypes.ownedTupleIsFree
  refine wpAny_bind (wpAny_field hz rfl (x := .none) rfl (wpAny_pure ?_))
  simp only [if_true]
  refine wpAny_bind (wpAny_rule ?_)
  refine wpAny_bind (wpAny_field hz rfl (x := .ref TO) rfl ?_)
  refine wpAny_bind (wpAny_setField_rec hz (by simp) fun h₁ hz₁ hs₁ => ?_)
  replace hz₁ : IsZip h₁ z TI TO .ellipsis := hz₁
  refine wpAny_bind ?_
  simp only [List.zipIdx_cons, List.zipIdx_nil, List.forIn_cons, List.forIn_nil]
  refine wpAny_bind (wpAny_bind (wpAny_onRaise ?_))
  show wpAny _ _ (Builtin.SmallTypes.nextOf (.ref i1) >>= _) _ _ _
  cases hx : xs[k1]? with
  | none =>
    refine wpAny_bind (wpAny_nextOf_sq_end hh (h1.extBut hs₁.extBut D.i1z) (hl1.extBut hs₁.extBut D.l1z) hx fun h₂ e hs₂ he => ?_)
    obtain ⟨oe, hoe, hce⟩ := he
    have hz₂ : IsZip h₂ z TI TO .ellipsis := hs₂ _ _ D.i1z.symm hz₁
    have hez : e ≠ z := fun x => by subst x; rw [hz₂] at hoe; cases hoe; simp at hce
    refine wpAny_setField_rec hz₂ (by simp) fun h₃ _ hs₃ => hE h₃ e (fun c o c1 _ c3 _ x => hs₃.extBut _ _ c1 (hs₂ _ _ c3 (hs₁.extBut _ _ c1 x))) ⟨oe, hs₃.extBut _ _ hez hoe, hce⟩
  | some x =>
    have hy : ys[k2]? = none := by rcases hend with h | h; rw [hx] at h; cases h; exact h
    refine wpAny_bind (wpAny_nextOf_sq_item (h1.extBut hs₁.extBut D.i1z) (hl1.extBut hs₁.extBut D.l1z) hx fun h₂ h1₂ hs₂ => wpAny_pure ?_)
    have hTO₂ : IsPair h₂ TO a b := hs₂.extBut _ _ D.TOi1 (hs₁.extBut _ _ D.TOz hTO)
    refine wpAny_bind (wpAny_seqItems hTO₂ rfl ?_)
    refine wpAny_bind (wpAny_updateSeq_pair hTO₂ fun h₃ hTO₃ hs₃ => ?_)
    refine wpAny_bind (wpAny_letGo (wpAny_pure ?_))
    refine wpAny_bind (wpAny_bind (wpAny_onRaise ?_))
    show wpAny _ _ (Builtin.SmallTypes.nextOf (.ref i2) >>= _) _ _ _
    refine wpAny_bind (wpAny_nextOf_sq_end hh (((h2.extBut hs₁.extBut D.i2z).extBut hs₂.extBut D.i12.symm).extBut hs₃.extBut D.TOi2.symm)
      (((hl2.extBut hs₁.extBut D.l2z).extBut hs₂.extBut D.l2i1).extBut hs₃.extBut D.l2TO) hy fun h₄ e hs₄ he => ?_)
    obtain ⟨oe, hoe, hce⟩ := he
    have hz₄ : IsZip h₄ z TI TO .ellipsis := hs₄ _ _ D.i2z.symm (hs₃.extBut _ _ D.TOz.symm (hs₂.extBut _ _ D.i1z.symm hz₁))
    have hez : e ≠ z := fun x => by subst x; rw [hz₄] at hoe; cases hoe; simp at hce
    refine wpAny_setField_rec hz₄ (by simp) fun h₅ _ hs₅ => hE h₅ e (fun c o c1 c2 c3 c4 x => hs₅.extBut _ _ c1 (hs₄ _ _ c4 (hs₃.extBut _ _ c2 (hs₂.extBut _ _ c3 (hs₁.extBut _ _ c1 x))))) ⟨oe, hs₅.extBut _ _ hez hoe, hce⟩
theorem wpAny_pyNext_zip_itemG {b1 b2 : Bool} {z TI TO i1 i2 l1 l2 : Addr} {k1 k2 : Nat} {xs ys : Array Value} {x y a b : Value} {Q : Option Value → Shared → Prop} (D : ZipApart z TI TO i1 i2 l1 l2)
    (hz : IsZip s.heap z TI TO .none) (hTI : IsPair s.heap TI (.ref i1) (.ref i2)) (hTO : IsPair s.heap TO a b)
    (h1 : Heap.IsSqIter s.heap b1 i1 l1 k1) (h2 : Heap.IsSqIter s.heap b2 i2 l2 k2) (hl1 : Heap.IsSq s.heap b1 l1 xs) (hl2 : Heap.IsSq s.heap b2 l2 ys) (hx : xs[k1]? = some x) (hy : ys[k2]? = some y)
    (hQ : ∀ h', IsZip h' z TI TO (rawInt s.heap.objs.size) → IsPair h' TO x y → Heap.IsSqIter h' b1 i1 l1 (k1 + 1) → Heap.IsSqIter h' b2 i2 l2 (k2 + 1) → IsPair h' s.heap.objs.size x y → h'.objs.size = s.heap.objs.size + 1 →
      (∀ c o, c ≠ z → c ≠ TO → c ≠ i1 → c ≠ i2 → s.heap.get? c = some o → h'.get? c = some o) → Q (some (.ref s.heap.objs.size)) { s with heap := h' }) :
    wpAny (model prog w) A (pyNext (.ref z)) Q E s := by
  have hT : s.TypeIs (.ref z) "zip" := ⟨_, hz, rfl⟩
  unfold pyNext
  exact wpAny_bind (wpAny_attempt (wpAny_callSpecial?_slot (name := Str.ofString "__next__") hT F.slot_zip_next
    (wpAny_call_entry F.slot_zip_next hT F.entry_zip_next
      (zip_next_itemG D hz hTI hTO h1 h2 hl1 hl2 hx hy fun h' a1 a2 a3 a4 a5 a6 a7 => wpAny_pure (hQ h' a1 a2 a3 a4 a5 a6 a7)) (F.args_zip_next_1 _))))
theorem wpAny_pyNext_zip_endG {b1 b2 : Bool} {z TI TO i1 i2 l1 l2 : Addr} {k1 k2 : Nat} {xs ys : Array Value} {a b : Value} {Q : Option Value → Shared → Prop} (hh : A.handled = none) (D : ZipApart z TI TO i1 i2 l1 l2)
    (hz : IsZip s.heap z TI TO .none) (hTI : IsPair s.heap TI (.ref i1) (.ref i2)) (hTO : IsPair s.heap TO a b)
    (h1 : Heap.IsSqIter s.heap b1 i1 l1 k1) (h2 : Heap.IsSqIter s.heap b2 i2 l2 k2) (hl1 : Heap.IsSq s.heap b1 l1 xs) (hl2 : Heap.IsSq s.heap b2 l2 ys) (hend : xs[k1]? = none ∨ ys[k2]? = none)
    (hQ : ∀ h', (∀ c o, c ≠ z → c ≠ TO → c ≠ i1 → c ≠ i2 → s.heap.get? c = some o → h'.get? c = some o) → Q none { s with heap := h' }) : wpAny (model prog w) A (pyNext (.ref z)) Q E s := by
  have hT : s.TypeIs (.ref z) "zip" := ⟨_, hz, rfl⟩
  unfold pyNext
  refine wpAny_bind (wpAny_attempt (wpAny_callSpecial?_slot (name := Str.ofString "__next__") hT F.slot_zip_next
    (wpAny_call_entry F.slot_zip_next hT F.entry_zip_next (zip_next_endG hh D hz hTI hTO h1 h2 hl1 hl2 hend fun h' e hk he => ?_) (F.args_zip_next_1 _))))
  obtain ⟨o, ho, hc⟩ := he
  refine wpAny_bind (wpAny_isInstance (T := "StopIteration") (b := true) ⟨o, ho, hc⟩ isSubtype_stop ?_)
  exact wpAny_pure (hQ _ hk)
end
abbrev zipH1G (b1 : Bool) (h : Heap) (l1 : Addr) : Heap := h.push (sqItO b1 l1)
abbrev zipH2G (b1 b2 : Bool) (h : Heap) (l1 l2 : Addr) : Heap := (zipH1G b1 h l1).push (sqItO b2 l2)
abbrev zipH3G (b1 b2 : Bool) (h : Heap) (l1 l2 : Addr) : Heap := (zipH2G b1 b2 h l1 l2).push { cls := .type "tuple", data := .seq #[.ref h.objs.size, .ref (zipH1G b1 h l1).objs.size] }
abbrev zipH4G (b1 b2 : Bool) (h : Heap) (l1 l2 : Addr) : Heap := (zipH3G b1 b2 h l1 l2).push { cls := .type "tuple", data := .seq #[.none, .none] }
abbrev zipH5G (b1 b2 : Bool) (h : Heap) (l1 l2 : Addr) : Heap := (zipH4G b1 b2 h l1 l2).push { cls := .type "zip", data := .fields #[.none, .bool false, .bool false, .ref (zipH2G b1 b2 h l1 l2).objs.size, .ref (zipH3G b1 b2 h l1 l2).objs.size] }
theorem meets_zip_newG {b1 b2 : Bool} (l1 l2 : Addr) (xs ys : Array Value) :
    Meets (Builtin.«zip.__new__» ⟨[.type "zip", .ref l1, .ref l2], []⟩) (fun _ R s => Heap.IsSq s.heap b1 l1 xs ∧ Heap.IsSq s.heap b2 l2 ys ∧
      R (.ok (.ret (.ref (zipH4G b1 b2 s.heap l1 l2).objs.size))) { s with heap := zipH5G b1 b2 s.heap l1 l2 }) :=
  .of_wp fun prog w A R s h => by
    obtain ⟨hp, g, d, tk, os⟩ := s; obtain ⟨hl1, hl2, h⟩ := h
    have hsub := sub_zip
    have hL1 : Heap.IsSq (Shared.heap ⟨hp, g, d, tk, os⟩) b1 l1 xs := hl1
    have hL2 : Heap.IsSq (Shared.heap ⟨hp.push (sqItO b1 l1), g, d, tk, os⟩) b2 l2 ys := Heap.IsSq.push hl2 _
    wp_walk using wpAny_pyIter_sq hL1, wpAny_pyIter_sq hL2
    exact ⟨_, rfl, h⟩
section
variable {prog : Program} {w : World} {A : Around} {E : Value → Shared → Prop} {s : Shared}
theorem call_zip_2G {b1 b2 : Bool} {l1 l2 : Addr} {xs ys : Array Value} {Q : Value → Shared → Prop} (hl1 : Heap.IsSq s.heap b1 l1 xs) (hl2 : Heap.IsSq s.heap b2 l2 ys)
    (h : ∀ h', IsZip h' (s.heap.objs.size + 4) (s.heap.objs.size + 2) (s.heap.objs.size + 3) .none → IsPair h' (s.heap.objs.size + 2) (.ref s.heap.objs.size) (.ref (s.heap.objs.size + 1)) →
      IsPair h' (s.heap.objs.size + 3) .none .none → Heap.IsSqIter h' b1 s.heap.objs.size l1 0 → Heap.IsSqIter h' b2 (s.heap.objs.size + 1) l2 0 → h'.objs.size = s.heap.objs.size + 5 →
      (∀ c o, s.heap.get? c = some o → h'.get? c = some o) → Q (.ref (s.heap.objs.size + 4)) { s with heap := h' }) :
    wpAny (model prog w) A (call (.type "zip") [.ref l1, .ref l2]) Q E s := by
  refine callType_new F.called_zip (by decide) (F.typeCall_zip_2 _ _) (F.newCall_zip_2 _ _) (fun obj => F.args_object_init_3 obj _ _) F.entry_zip_new
    (meets_zip_newG l1 l2 xs ys) ⟨hl1, hl2, ?_⟩
  have z1 : (zipH1G b1 s.heap l1).objs.size = s.heap.objs.size + 1 := Heap.size_push ..
  have z2 : (zipH2G b1 b2 s.heap l1 l2).objs.size = s.heap.objs.size + 2 := by rw [Heap.size_push, z1]
  have z3 : (zipH3G b1 b2 s.heap l1 l2).objs.size = s.heap.objs.size + 3 := by rw [Heap.size_push, z2]
  have z4 : (zipH4G b1 b2 s.heap l1 l2).objs.size = s.heap.objs.size + 4 := by rw [Heap.size_push, z3]
  have z5 : (zipH5G b1 b2 s.heap l1 l2).objs.size = s.heap.objs.size + 5 := by rw [Heap.size_push, z4]
  have g5 : (zipH5G b1 b2 s.heap l1 l2).get? (zipH4G b1 b2 s.heap l1 l2).objs.size = some _ := Heap.get?_push_size _ rfl
  have g4 : (zipH5G b1 b2 s.heap l1 l2).get? (zipH3G b1 b2 s.heap l1 l2).objs.size = some _ := Heap.get?_push_of_some _ (Heap.get?_push_size _ rfl)
  have g3 : (zipH5G b1 b2 s.heap l1 l2).get? (zipH2G b1 b2 s.heap l1 l2).objs.size = some _ := Heap.get?_push_of_some _ (Heap.get?_push_of_some _ (Heap.get?_push_size _ rfl))
  have g2 : (zipH5G b1 b2 s.heap l1 l2).get? (zipH1G b1 s.heap l1).objs.size = some _ := Heap.get?_push_of_some _ (Heap.get?_push_of_some _ (Heap.get?_push_of_some _ (Heap.get?_push_size _ sqItO_nf)))
  have g1 : (zipH5G b1 b2 s.heap l1 l2).get? s.heap.objs.size = some _ := Heap.get?_push_of_some _ (Heap.get?_push_of_some _ (Heap.get?_push_of_some _ (Heap.get?_push_of_some _ (Heap.get?_push_size _ sqItO_nf))))
  show _ ∧ _
  rw [z2, z3, z4] at g5
  rw [z1, z2] at g3
  rw [z3] at g4
  rw [z1] at g2
  rw [z4]
  exact ⟨⟨_, g5, rfl⟩, h _ g5 g3 g4 (sqIt_of g1) (sqIt_of g2) z5 fun c o x =>
    Heap.get?_push_of_some _ (Heap.get?_push_of_some _ (Heap.get?_push_of_some _ (Heap.get?_push_of_some _ (Heap.get?_push_of_some _ x))))⟩
theorem zip_held_itemG {b1 b2 : Bool} {z TI TO i1 i2 l1 l2 T : Addr} {k1 k2 : Nat} {xs ys : Array Value} {x y : Value} {b : Bool} {oT : Obj} {Q : Value → Shared → Prop} (D : ZipApart z TI TO i1 i2 l1 l2)
    (hz : IsZipH s.heap z TI TO T b) (hT : s.heap.get? T = some oT) (hTI : IsPair s.heap TI (.ref i1) (.ref i2))
    (h1 : Heap.IsSqIter s.heap b1 i1 l1 k1) (h2 : Heap.IsSqIter s.heap b2 i2 l2 k2) (hl1 : Heap.IsSq s.heap b1 l1 xs) (hl2 : Heap.IsSq s.heap b2 l2 ys) (hx : xs[k1]? = some x) (hy : ys[k2]? = some y)
    (hQ : ∀ h', IsZipH h' z TI TO T true → Heap.IsSqIter h' b1 i1 l1 (k1 + 1) → Heap.IsSqIter h' b2 i2 l2 (k2 + 1) → IsPair h' s.heap.objs.size x y → h'.objs.size = s.heap.objs.size + 1 →
      (∀ c o, c ≠ z → c ≠ i1 → c ≠ i2 → s.heap.get? c = some o → h'.get? c = some o) → Q (.ref s.heap.objs.size) { s with heap := h' }) :
    wpAny (model prog w) A (Builtin.«zip.__next__» ⟨[.ref z], []⟩) (fun fin s' => ∃ v, fin = .done (.ret v) ∧ Q v s') E s := by
  show wpAny _ _ (field (.ref z) 2 >>= _) _ _ _
  refine wpAny_bind (wpAny_field hz rfl (x := .bool false) rfl ?_)
  show wpAny _ _ (field (.ref z) 3 >>= _) _ _ _
  refine wpAny_bind (wpAny_field hz rfl (x := .ref TI) rfl ?_)
  refine wpAny_bind (wpAny_seqItems hTI rfl ?_)
  show wpAny _ _ (Builtin.SmallTypes.ownedTupleIsFree (.ref z) >>= _) _ _ _
  refine wpAny_bind (owned_held hz hT fun h' hz' hs' => ?_)
  simp only [Bool.false_eq_true, if_false]
  refine wpAny_bind ?_
  rw [← Array.forIn_toList]
  simp only [List.forIn_cons, List.forIn_nil]
  refine wpAny_bind (wpAny_bind (wpAny_holding ?_))
  show wpAny _ _ (Builtin.SmallTypes.nextOf (.ref i1) >>= _) _ _ _
  refine wpAny_bind (wpAny_nextOf_sq_item (h1.extBut hs'.extBut D.i1z) (hl1.extBut hs'.extBut D.l1z) hx fun h2' h12 hs2 => wpAny_pure ?_)
  refine wpAny_pure ?_
  refine wpAny_bind (wpAny_bind (wpAny_holding ?_))
  show wpAny _ _ (Builtin.SmallTypes.nextOf (.ref i2) >>= _) _ _ _
  refine wpAny_bind (wpAny_nextOf_sq_item ((h2.extBut hs'.extBut D.i2z).extBut hs2.extBut D.i12.symm) ((hl2.extBut hs'.extBut D.l2z).extBut hs2.extBut D.l2i1) hy fun h3 h23 hs3 => wpAny_pure ?_)
  refine wpAny_pure (wpAny_pure ?_)
  refine wpAny_bind (wpAny_newTuple ?_ (hsz := (by show 2 ≤ sizeLine; decide)))
  have hsz : h3.objs.size = s.heap.objs.size := by rw [hs3.1, hs2.1, hs'.1]
  have hzl : z < h3.objs.size := by rw [hsz]; exact Heap.lt_size hz
  have hz3 : IsZipH h3 z TI TO T true := hs3.extBut _ _ D.i2z.symm (hs2.extBut _ _ D.i1z.symm hz')
  refine wpAny_pure ⟨_, rfl, ?_⟩
  show Q (.ref h3.objs.size) _
  have h13 : Heap.IsSqIter h3 b1 i1 l1 (k1 + 1) := h12.extBut hs3.extBut D.i12
  have q := hQ (h3.push { cls := .type "tuple", data := .seq #[x, y] }) (Heap.get?_push_of_some _ hz3) (h13.at fun o e => Heap.get?_push_of_some _ e) (h23.at fun o e => Heap.get?_push_of_some _ e)
    (by rw [← hsz]; exact Heap.get?_push_size _ rfl) (by rw [Heap.size_push, hsz]) fun c o c1 c3 c4 e => Heap.get?_push_of_some _ (hs3.extBut _ _ c4 (hs2.extBut _ _ c3 (hs'.extBut _ _ c1 e)))
  rw [← hsz] at q
  exact q
theorem zip_held_endG {b1 b2 : Bool} {z TI TO i1 i2 l1 l2 T : Addr} {k1 k2 : Nat} {xs ys : Array Value} {b : Bool} {oT : Obj} {Q : Fin → Shared → Prop} (hh : A.handled = none) (D : ZipApart z TI TO i1 i2 l1 l2)
    (hz : IsZipH s.heap z TI TO T b) (hT : s.heap.get? T = some oT) (hTI : IsPair s.heap TI (.ref i1) (.ref i2))
    (h1 : Heap.IsSqIter s.heap b1 i1 l1 k1) (h2 : Heap.IsSqIter s.heap b2 i2 l2 k2) (hl1 : Heap.IsSq s.heap b1 l1 xs) (hl2 : Heap.IsSq s.heap b2 l2 ys) (hend : xs[k1]? = none ∨ ys[k2]? = none)
    (hE : ∀ h' e, (∀ c o, c ≠ z → c ≠ i1 → c ≠ i2 → s.heap.get? c = some o → h'.get? c = some o) → (∃ o, h'.get? e = some o ∧ o.cls = .type "StopIteration") → E (.ref e) { s with heap := h' }) :
    wpAny (model prog w) A (Builtin.«zip.__next__» ⟨[.ref z], []⟩) Q E s := by
  show wpAny _ _ (field (.ref z) 2 >>= _) _ _ _
  refine wpAny_bind (wpAny_field hz rfl (x := .bool false) rfl ?_)
  show wpAny _ _ (field (.ref z) 3 >>= _) _ _ _
  refine wpAny_bind (wpAny_field hz rfl (x := .ref TI) rfl ?_)
  refine wpAny_bind (wpAny_seqItems hTI rfl ?_)
  show wpAny _ _ (Builtin.SmallTypes.ownedTupleIsFree (.ref z) >>= _) _ _ _
  refine wpAny_bind (owned_held hz hT fun h' hz' hs' => ?_)
  simp only [Bool.false_eq_true, if_false]
  refine wpAny_bind ?_
  rw [← Array.forIn_toList]
  simp only [List.forIn_cons, List.forIn_nil]
  refine wpAny_bind (wpAny_bind (wpAny_holding ?_))
  show wpAny _ _ (Builtin.SmallTypes.nextOf (.ref i1) >>= _) _ _ _
  cases hx : xs[k1]? with
  | none =>
    refine wpAny_bind (wpAny_nextOf_sq_end hh (h1.extBut hs'.extBut D.i1z) (hl1.extBut hs'.extBut D.l1z) hx fun h2' e hs2 he => ?_)
    exact hE h2' e (fun c o c1 c3 _ x => hs2 _ _ c3 (hs'.extBut _ _ c1 x)) he
  | some x =>
    have hy : ys[k2]? = none := by rcases hend with h | h; rw [hx] at h; cases h; exact h
    refine wpAny_bind (wpAny_nextOf_sq_item (h1.extBut hs'.extBut D.i1z) (hl1.extBut hs'.extBut D.l1z) hx fun h2' h12 hs2 => wpAny_pure ?_)
    refine wpAny_pure ?_
    refine wpAny_bind (wpAny_bind (wpAny_holding ?_))
    show wpAny _ _ (Builtin.SmallTypes.nextOf (.ref i2) >>= _) _ _ _
    refine wpAny_bind (wpAny_nextOf_sq_end hh ((h2.extBut hs'.extBut D.i2z).extBut hs2.extBut D.i12.symm) ((hl2.extBut hs'.extBut D.l2z).extBut hs2.extBut D.l2i1) hy fun h3 e hs3 he => ?_)
    exact hE h3 e (fun c o c1 c3 c4 x => hs3 _ _ c4 (hs2.extBut _ _ c3 (hs'.extBut _ _ c1 x))) he
theorem next_zipst_itemG {b1 b2 : Bool} {z TI TO i1 i2 l1 l2 : Addr} {k : Nat} {xs ys : Array Value} {x y : Value} {Q : Option Value → Shared → Prop} (D : ZipApart z TI TO i1 i2 l1 l2)
    (hz : ZipSt s.heap z TI TO i1 i2) (hTI : IsPair s.heap TI (.ref i1) (.ref i2))
    (h1 : Heap.IsSqIter s.heap b1 i1 l1 k) (h2 : Heap.IsSqIter s.heap b2 i2 l2 k) (hl1 : Heap.IsSq s.heap b1 l1 xs) (hl2 : Heap.IsSq s.heap b2 l2 ys) (hx : xs[k]? = some x) (hy : ys[k]? = some y)
    (hQ : ∀ h', ZipSt h' z TI TO i1 i2 → Heap.IsSqIter h' b1 i1 l1 (k + 1) → Heap.IsSqIter h' b2 i2 l2 (k + 1) → IsPair h' s.heap.objs.size x y → h'.objs.size = s.heap.objs.size + 1 →
      (∀ c o, c ≠ z → c ≠ TO → c ≠ i1 → c ≠ i2 → s.heap.get? c = some o → h'.get? c = some o) → Q (some (.ref s.heap.objs.size)) { s with heap := h' }) :
    wpAny (model prog w) A (pyNext (.ref z)) Q E s := by
  rcases hz with ⟨hz, a, b, hTO⟩ | ⟨T, b, oT, hz, hT, hTz, hT1, hT2⟩
  · refine wpAny_pyNext_zip_itemG D hz hTI hTO h1 h2 hl1 hl2 hx hy fun h' z' TO' a3 a4 a5 a6 a7 => ?_
    have li1 : i1 < s.heap.objs.size := h1.lt
    have li2 : i2 < s.heap.objs.size := h2.lt
    exact hQ h' (.inr ⟨s.heap.objs.size, false, _, z', a5, Nat.ne_of_gt (Heap.lt_size hz), Nat.ne_of_gt li1, Nat.ne_of_gt li2⟩) a3 a4 a5 a6 a7
  · have hTy : s.TypeIs (.ref z) "zip" := ⟨_, hz, rfl⟩
    unfold pyNext
    refine wpAny_bind (wpAny_attempt (wpAny_callSpecial?_slot (name := Str.ofString "__next__") hTy F.slot_zip_next
      (wpAny_call_entry F.slot_zip_next hTy F.entry_zip_next
        (zip_held_itemG D hz hT hTI h1 h2 hl1 hl2 hx hy fun h' a1 a3 a4 a5 a6 a7 => wpAny_pure ?_) (F.args_zip_next_1 _))))
    exact hQ h' (.inr ⟨T, true, oT, a1, a7 T oT hTz hT1 hT2 hT, hTz, hT1, hT2⟩) a3 a4 a5 a6 fun c o c1 _ c3 c4 e => a7 c o c1 c3 c4 e
theorem next_zipst_endG {b1 b2 : Bool} {z TI TO i1 i2 l1 l2 : Addr} {k : Nat} {xs ys : Array Value} {Q : Option Value → Shared → Prop} (hh : A.handled = none) (D : ZipApart z TI TO i1 i2 l1 l2)
    (hz : ZipSt s.heap z TI TO i1 i2) (hTI : IsPair s.heap TI (.ref i1) (.ref i2))
    (h1 : Heap.IsSqIter s.heap b1 i1 l1 k) (h2 : Heap.IsSqIter s.heap b2 i2 l2 k) (hl1 : Heap.IsSq s.heap b1 l1 xs) (hl2 : Heap.IsSq s.heap b2 l2 ys) (hend : xs[k]? = none ∨ ys[k]? = none)
    (hQ : ∀ h', (∀ c o, c ≠ z → c ≠ TO → c ≠ i1 → c ≠ i2 → s.heap.get? c = some o → h'.get? c = some o) → Q none { s with heap := h' }) : wpAny (model prog w) A (pyNext (.ref z)) Q E s := by
  rcases hz with ⟨hz, a, b, hTO⟩ | ⟨T, b, oT, hz, hT, hTz, hT1, hT2⟩
  · exact wpAny_pyNext_zip_endG hh D hz hTI hTO h1 h2 hl1 hl2 hend hQ
  · have hTy : s.TypeIs (.ref z) "zip" := ⟨_, hz, rfl⟩
    unfold pyNext
    refine wpAny_bind (wpAny_attempt (wpAny_callSpecial?_slot (name := Str.ofString "__next__") hTy F.slot_zip_next
      (wpAny_call_entry F.slot_zip_next hTy F.entry_zip_next (zip_held_endG hh D hz hT hTI h1 h2 hl1 hl2 hend fun h' e hk he => ?_) (F.args_zip_next_1 _))))
    obtain ⟨o, ho, hc⟩ := he
    refine wpAny_bind (wpAny_isInstance (T := "StopIteration") (b := true) ⟨o, ho, hc⟩ isSubtype_stop ?_)
    exact wpAny_pure (hQ _ fun c o c1 _ c3 c4 e => hk c o c1 c3 c4 e)
theorem extend_zip_loopG {b1 b2 : Bool} {R : Result → Shared → Prop} {z TI TO i1 i2 l1 l2 : Addr} {xs ys : Array Value} (hh : A.handled = none) (D : ZipApart z TI TO i1 i2 l1 l2) (n : Nat) (hn : n ≤ sizeLine) (hnx : n ≤ xs.size) (hny : n ≤ ys.size) (hend : xs[n]? = none ∨ ys[n]? = none)
    (S n0 : Addr) (hS0 : S < n0) (hz0 : z < n0) (hTO0 : TO < n0) (h10 : i1 < n0) (h20 : i2 < n0) (hSf : S ≠ z ∧ S ≠ TI ∧ S ≠ TO ∧ S ≠ i1 ∧ S ≠ i2 ∧ S ≠ l1 ∧ S ≠ l2) (res : Value) :
    ∀ (k i : Nat) (s : Shared) (acc : Array Value) (c : Nat), n - i = k → i ≤ n → n0 ≤ s.heap.objs.size → ZipSt s.heap z TI TO i1 i2 → IsPair s.heap TI (.ref i1) (.ref i2) → Heap.IsSqIter s.heap b1 i1 l1 i → Heap.IsSqIter s.heap b2 i2 l2 i → Heap.IsSq s.heap b1 l1 xs → Heap.IsSq s.heap b2 l2 ys →
      s.heap.get? S = some { cls := .type "list", dict := none, data := .seq acc c, slots := #[] } → PairsAt s.heap acc n0 i xs ys →
    (∀ h' acc' c', (∀ b o, b ≠ S → b ≠ z → b ≠ TO → b ≠ i1 → b ≠ i2 → s.heap.get? b = some o → h'.get? b = some o) → h'.get? S = some { cls := .type "list", dict := none, data := .seq acc' c', slots := #[] } → PairsAt h' acc' n0 n xs ys → R (.ok (.ret res)) { s with heap := h' }) →
    codeAny (model prog w) A (.builtin "list.extend.loop" ⟨[.ref S, .ref z, res], []⟩) R s := by
  obtain ⟨Sz, STI, STO, S1, S2, Sl1, Sl2⟩ := hSf
  intro k
  induction k with
  | zero =>
    intro i s acc c hk hi hsz hz hTI h1 h2 hl1 hl2 hS hacc hR
    have hin : i = n := by omega
    subst hin
    refine codeAny_builtin F.entry_extend_loop ?_
    rw [Around.under_plainId F.plain_extend_loop _]
    show wpAny _ A.in1 (pyNext (.ref z) >>= _) _ _ s
    refine wpAny_bind (next_zipst_endG hh D hz hTI h1 h2 hl1 hl2 hend fun h' hk => ?_)
    obtain ⟨Ts, ea, hlen, nd, hat⟩ := hacc
    refine wpAny_pure (hR h' acc c (fun b o _ c1 c2 c3 c4 e => hk b o c1 c2 c3 c4 e) (hk S _ Sz STO S1 S2 hS) ⟨Ts, ea, hlen, nd, fun j T hj => ?_⟩)
    obtain ⟨a0, x, y, a2, a3, a4⟩ := hat j T hj
    exact ⟨a0, x, y, a2, a3, hk T _ (ng hz0 a0) (ng hTO0 a0) (ng h10 a0) (ng h20 a0) a4⟩
  | succ k ih =>
    intro i s acc c hk hi hsz hz hTI h1 h2 hl1 hl2 hS hacc hR
    have hlt : i < n := by omega
    refine codeAny_builtin F.entry_extend_loop ?_
    rw [Around.under_plainId F.plain_extend_loop _]
    show wpAny _ A.in1 (pyNext (.ref z) >>= _) _ _ s
    have hx : xs[i]? = some xs[i] := by simp [show i < xs.size by omega]
    have hy : ys[i]? = some ys[i] := by simp [show i < ys.size by omega]
    refine wpAny_bind (next_zipst_itemG D hz hTI h1 h2 hl1 hl2 hx hy fun h' z' h1' h2' hT hs' hk' => ?_)
    have hS' := hk' S _ Sz STO S1 S2 hS
    have other : ∀ b o, b ≠ S → h'.get? b = some o → (h'.update S (Obj.mapSeq fun a => a.push (.ref s.heap.objs.size))).get? b = some o := fun b o hb e => (Heap.get?_update_other _ _ (Ne.symm hb)).trans e
    have hSlt : S < s.heap.objs.size := Nat.lt_of_lt_of_le hS0 hsz
    show wpAny _ A.in1 (updateSeq S (fun a => a.push (.ref s.heap.objs.size)) >>= _) _ _ _
    refine wpAny_bind ?_
    refine wpAny_updateSeq hS' rfl (wpAny_pure ⟨plainId_quiet F.plain_extend_loop _, ih (i + 1) _ (acc.push (.ref s.heap.objs.size)) _ (by omega) hlt ?_ ?_ (other _ _ (Ne.symm STI) (hk' _ _ D.TIz D.TITO D.TIi1 D.TIi2 hTI)) (h1'.at fun o e => other _ o (Ne.symm S1) e) (h2'.at fun o e => other _ o (Ne.symm S2) e)
      ((hl1.at fun o e => hk' _ o D.l1z D.l1TO D.l1i1 D.l1i2 e).at fun o e => other _ o (Ne.symm Sl1) e) ((hl2.at fun o e => hk' _ o D.l2z D.l2TO D.l2i1 D.l2i2 e).at fun o e => other _ o (Ne.symm Sl2) e) (Heap.get?_update_self _ hS' rfl) ?_ fun h'' acc' c' hm hS'' hacc' => ?_⟩)
      (by rw [hacc.sz]; omega) (by show (acc.push _).size ≤ sizeLine + 1; rw [Array.size_push, hacc.sz]; omega)
    · show n0 ≤ (h'.update S _).objs.size
      rw [Heap.size_update, hs']
      exact Nat.le_succ_of_le hsz
    · rcases z' with ⟨a, x0, y0, b0⟩ | ⟨T, b, oT, a1, a2, a3, a4, a5⟩
      · exact .inl ⟨other _ _ (Ne.symm Sz) a, x0, y0, other _ _ (Ne.symm STO) b0⟩
      · by_cases hTS : T = S
        · subst hTS
          exact .inr ⟨T, b, _, other _ _ (Ne.symm Sz) a1, Heap.get?_update_self _ hS' rfl, a3, a4, a5⟩
        · exact .inr ⟨T, b, oT, other _ _ (Ne.symm Sz) a1, other _ _ hTS a2, a3, a4, a5⟩
    · obtain ⟨Ts, ea, hlen, nd, hat⟩ := hacc
      have hmem : s.heap.objs.size ∉ Ts := fun hm => by
        obtain ⟨j, hj⟩ := List.mem_iff_getElem?.mp hm
        obtain ⟨_, x, y, _, _, a4⟩ := hat j _ hj
        exact Nat.lt_irrefl _ (Heap.lt_size a4)
      refine ⟨Ts ++ [s.heap.objs.size], by rw [ea]; simp, by simp [hlen], List.nodup_append.mpr ⟨nd, by simp, fun a ha b hb => ?_⟩, fun j T hj => ?_⟩
      · rw [List.mem_singleton.mp hb]
        exact fun e => hmem (e ▸ ha)
      · by_cases hji : j < Ts.length
        · rw [List.getElem?_append_left hji] at hj
          obtain ⟨a0, x, y, a2, a3, a4⟩ := hat j T hj
          exact ⟨a0, x, y, a2, a3, other _ _ (ng hS0 a0) (hk' T _ (ng hz0 a0) (ng hTO0 a0) (ng h10 a0) (ng h20 a0) a4)⟩
        · rw [List.getElem?_append_right (by omega)] at hj
          have hje : j = i := by
            have := (List.getElem?_eq_some_iff.mp hj).1
            simp at this
            omega
          subst hje
          rw [hlen, Nat.sub_self] at hj
          cases hj
          exact ⟨hsz, _, _, hx, hy, other _ _ (Nat.ne_of_gt hSlt) hT⟩
    · refine hR h'' acc' c' (fun b o b1 b2 b3 b4 b5 e => hm b o b1 b2 b3 b4 b5 ?_) hS'' hacc'
      exact other _ _ b1 (hk' b o b2 b3 b4 b5 e)
theorem wpAny_extend_zipG {b1 b2 : Bool} {R : Result → Shared → Prop} {z TI TO i1 i2 l1 l2 : Addr} {xs ys : Array Value} (hh : A.handled = none) (D : ZipApart z TI TO i1 i2 l1 l2) (n : Nat) (hn : n ≤ sizeLine) (hnx : n ≤ xs.size) (hny : n ≤ ys.size) (hend : xs[n]? = none ∨ ys[n]? = none)
    (hz : IsZip s.heap z TI TO .none) (hTI : IsPair s.heap TI (.ref i1) (.ref i2)) {a b : Value} (hTO : IsPair s.heap TO a b) (h1 : Heap.IsSqIter s.heap b1 i1 l1 0) (h2 : Heap.IsSqIter s.heap b2 i2 l2 0) (hl1 : Heap.IsSq s.heap b1 l1 xs) (hl2 : Heap.IsSq s.heap b2 l2 ys)
    (S : Addr) (hSf : S ≠ z ∧ S ≠ TI ∧ S ≠ TO ∧ S ≠ i1 ∧ S ≠ i2 ∧ S ≠ l1 ∧ S ≠ l2) (res : Value) (c0 : Nat) (hS : s.heap.get? S = some { cls := .type "list", data := .seq #[] c0 })
    (hR : ∀ h' acc' c', (∀ b o, b ≠ S → b ≠ z → b ≠ TO → b ≠ i1 → b ≠ i2 → s.heap.get? b = some o → h'.get? b = some o) → h'.get? S = some { cls := .type "list", dict := none, data := .seq acc' c', slots := #[] } → PairsAt h' acc' s.heap.objs.size n xs ys → R (.ok (.ret res)) { s with heap := h' }) :
    wpAny (model prog w) A.in1 (Builtin.List.listExtendWith (.ref S) (.ref z) res)
      (fun fin s' => match fin with | .done f => R (.ok f) s' | .again c' => c'.quiet = true ∧ codeAny (model prog w) A c' R s') (fun e s' => R (.error e) s') s := by
  have hT : s.TypeIs (.ref z) "zip" := ⟨_, hz, rfl⟩
  unfold Builtin.List.listExtendWith
  refine wpAny_bind (wpAny_typeOf (T := "zip") hT ?_)
  have e1 : Builtin.List.listSameRef (.ref S) (.ref z) = false := by simp [Builtin.List.listSameRef, hSf.1]
  have e2 : (Value.type "zip" == Value.type "list") = false := by decide
  have e3 : (Value.type "zip" == Value.type "tuple") = false := by decide
  simp only [e1, e2, e3, Bool.or_false, Bool.false_eq_true, if_false]
  refine wpAny_bind (wpAny_pyIter_zip hz ?_)
  refine wpAny_bind (wpAny_holding (wpAny_hint_zip hz ?_))
  simp only [Bool.true_or, if_true]
  refine wpAny_bind (wpAny_rule ?_)
  unfold Builtin.List.listTouch Builtin.List.listUpdate
  refine wpAny_bind (wpAny_bind ?_)
  show wpAny _ _ (updateSeq S (fun x => x.push Value.none)) _ _ _
  refine wpAny_updateSeq hS rfl ?_
  have hS1 := Heap.get?_update_self (Obj.mapSeq (fun x : Array Value => x.push Value.none)) hS rfl
  show wpAny _ _ (updateSeq S (fun x => x.pop)) _ _ _
  refine wpAny_updateSeq hS1 rfl ?_
  have hS2 := Heap.get?_update_self (Obj.mapSeq (fun x : Array Value => x.pop)) hS1 rfl
  have oth : ∀ b o, b ≠ S → s.heap.get? b = some o → ((s.heap.update S (Obj.mapSeq (fun x : Array Value => x.push Value.none))).update S (Obj.mapSeq (fun x : Array Value => x.pop))).get? b = some o :=
    fun b o hb e => (Heap.get?_update_other _ _ (Ne.symm hb)).trans ((Heap.get?_update_other _ _ (Ne.symm hb)).trans e)
  have hsz : ((s.heap.update S (Obj.mapSeq (fun x : Array Value => x.push Value.none))).update S (Obj.mapSeq (fun x : Array Value => x.pop))).objs.size = s.heap.objs.size := by rw [Heap.size_update, Heap.size_update]
  obtain ⟨Sz, STI, STO, S1, S2, Sl1, Sl2⟩ := id hSf
  have li1 : i1 < s.heap.objs.size := h1.lt
  have li2 : i2 < s.heap.objs.size := h2.lt
  refine wpAny_pure ⟨plainId_quiet F.plain_extend_loop _, extend_zip_loopG hh D n hn hnx hny hend S s.heap.objs.size (Heap.lt_size hS) (Heap.lt_size hz) (Heap.lt_size hTO) li1 li2 hSf res n 0 _ #[] _ (Nat.sub_zero _) (Nat.zero_le _) (Nat.le_of_eq hsz.symm) (.inl ⟨oth _ _ (Ne.symm Sz) hz, a, b, oth _ _ (Ne.symm STO) hTO⟩) (oth _ _ (Ne.symm STI) hTI)
    (h1.at fun o e => oth _ o (Ne.symm S1) e) (h2.at fun o e => oth _ o (Ne.symm S2) e) (hl1.at fun o e => oth _ o (Ne.symm Sl1) e) (hl2.at fun o e => oth _ o (Ne.symm Sl2) e) hS2 ⟨[], rfl, rfl, List.nodup_nil, fun j T hj => by simp at hj⟩ fun h' acc' c' hk hS' hp => ?_⟩
  exact hR h' acc' c' (fun b o b1 b2 b3 b4 b5 e => hk b o b1 b2 b3 b4 b5 (oth b o b1 e)) hS' hp
theorem call_list_zipG {b1 b2 : Bool} {Q : Value → Shared → Prop} {z TI TO i1 i2 l1 l2 : Addr} {xs ys : Array Value} (hh : A.handled = none) (D : ZipApart z TI TO i1 i2 l1 l2) (n : Nat) (hn : n ≤ sizeLine) (hnx : n ≤ xs.size) (hny : n ≤ ys.size) (hend : xs[n]? = none ∨ ys[n]? = none)
    (hz : IsZip s.heap z TI TO .none) (hTI : IsPair s.heap TI (.ref i1) (.ref i2)) {a b : Value} (hTO : IsPair s.heap TO a b) (h1 : Heap.IsSqIter s.heap b1 i1 l1 0) (h2 : Heap.IsSqIter s.heap b2 i2 l2 0) (hl1 : Heap.IsSq s.heap b1 l1 xs) (hl2 : Heap.IsSq s.heap b2 l2 ys)
    (hQ : ∀ h' acc' c', (∀ b o, b ≠ z → b ≠ TO → b ≠ i1 → b ≠ i2 → s.heap.get? b = some o → h'.get? b = some o) →
      h'.get? s.heap.objs.size = some { cls := .type "list", dict := none, data := .seq acc' c', slots := #[] } → PairsAt h' acc' (s.heap.objs.size + 1) n xs ys → Q (.ref s.heap.objs.size) { s with heap := h' }) :
    wpAny (model prog w) A (call (.type "list") [.ref z]) Q E s := by
  refine callType_codes (Q₁ := fun obj s₁ => obj = .ref s.heap.objs.size ∧ s₁ = { s with heap := s.heap.push { cls := .type "list", data := .seq #[] } }) F.called_list (F.typeCall_list_1 _) F.entry_list_init
    (code_list_new _ ⟨rfl, rfl⟩) fun obj s₁ h₁ => ?_
  obtain ⟨rfl, rfl⟩ := h₁
  have hS : (s.heap.push { cls := .type "list", data := .seq #[] }).get? s.heap.objs.size = some { cls := .type "list", data := .seq #[] } := Heap.get?_push_size _ rfl
  have up : ∀ b o, s.heap.get? b = some o → (s.heap.push { cls := .type "list", data := .seq #[] }).get? b = some o := fun b o e => Heap.get?_push_of_some _ e
  have li1 : i1 < s.heap.objs.size := h1.lt
  have li2 : i2 < s.heap.objs.size := h2.lt
  have ll1 : l1 < s.heap.objs.size := hl1.lt
  have ll2 : l2 < s.heap.objs.size := hl2.lt
  have apart : s.heap.objs.size ≠ z ∧ s.heap.objs.size ≠ TI ∧ s.heap.objs.size ≠ TO ∧ s.heap.objs.size ≠ i1 ∧ s.heap.objs.size ≠ i2 ∧ s.heap.objs.size ≠ l1 ∧ s.heap.objs.size ≠ l2 :=
    ⟨Nat.ne_of_gt (Heap.lt_size hz), Nat.ne_of_gt (Heap.lt_size hTI), Nat.ne_of_gt (Heap.lt_size hTO), Nat.ne_of_gt li1, Nat.ne_of_gt li2, Nat.ne_of_gt ll1, Nat.ne_of_gt ll2⟩
  refine ⟨⟨_, hS, rfl⟩, F.args_list_init_2 _ _, ?_⟩
  show wpAny _ _ (do let old ← Builtin.List.listItems (.ref s.heap.objs.size); Builtin.List.listUpdate (.ref s.heap.objs.size) (fun _ => #[]); letGo old.toList.reverse; Builtin.List.listExtendWith (.ref s.heap.objs.size) (.ref z) .none) _ _ _
  refine wpAny_bind ?_
  unfold Builtin.List.listItems
  refine wpAny_bind (wpAny_seqItems hS rfl (wpAny_pure ?_))
  show wpAny _ _ (updateSeq s.heap.objs.size (fun _ => #[]) >>= fun _ => letGo (#[] : Array Value).toList.reverse >>= fun _ => Builtin.List.listExtendWith (.ref s.heap.objs.size) (.ref z) .none) _ _ _
  refine wpAny_bind (wpAny_updateSeq hS rfl ?_)
  have hS2 := Heap.get?_update_self (Obj.mapSeq (fun _ => (#[] : Array Value))) hS rfl
  have oth : ∀ b o, b ≠ s.heap.objs.size → s.heap.get? b = some o → ((s.heap.push { cls := .type "list", data := .seq #[] }).update s.heap.objs.size (Obj.mapSeq (fun _ => (#[] : Array Value)))).get? b = some o :=
    fun b o hb e => (Heap.get?_update_other _ _ (Ne.symm hb)).trans (up b o e)
  have hsz : ((s.heap.push { cls := .type "list", data := .seq #[] }).update s.heap.objs.size (Obj.mapSeq (fun _ => (#[] : Array Value)))).objs.size = s.heap.objs.size + 1 := by rw [Heap.size_update, Heap.size_push]
  refine wpAny_bind (wpAny_letGo ?_)
  refine wpAny_extend_zipG (A := A.in1) hh D n hn hnx hny hend (oth _ _ apart.1.symm hz) (oth _ _ apart.2.1.symm hTI) (oth _ _ apart.2.2.1.symm hTO) (h1.at fun o e => oth _ o apart.2.2.2.1.symm e) (h2.at fun o e => oth _ o apart.2.2.2.2.1.symm e) (hl1.at fun o e => oth _ o apart.2.2.2.2.2.1.symm e) (hl2.at fun o e => oth _ o apart.2.2.2.2.2.2.symm e) s.heap.objs.size apart .none _ hS2 fun h' acc' c' hk hS' hp => ?_
  rw [hsz] at hp
  exact ⟨rfl, hQ h' acc' c' (fun b o b2 b3 b4 b5 e => hk b o (Nat.ne_of_lt (Heap.lt_size e)) b2 b3 b4 b5 (oth b o (Nat.ne_of_lt (Heap.lt_size e)) e)) hS' hp⟩
end
end PySem
namespace L2
open PySem PySem.Spec PyProof.Rows
/-- a list (no) or a tuple (yes) at a -/
def SqX (K : PySem.W.Frag) (b : Bool) (H : Hp) (a : Addr) (xs : List V) : Prop := match b with | true => SqT K H a xs | false => SqL K H a xs
theorem Inv.sqx {X : Cx} {pins : List (Addr × Obj)} {σ : List (Option V)} {H : Hp} {s : Shared} {b : Bool} {a : Addr} {xs : List V} (I : Inv X pins σ H s) (h : SqX X.K b H a xs) : ∃ its : List Value, Vals xs its ∧ Heap.IsSq s.heap b a its.toArray ∧ xs.length ≤ sizeLine := by
  cases b with
  | true => exact I.tuple h
  | false =>
    obtain ⟨its, r, p, z⟩ := I.list h
    exact ⟨its, r, p.isList, z⟩
theorem Inv.sqx_inj {X : Cx} {pins : List (Addr × Obj)} {σ : List (Option V)} {H : Hp} {s : Shared} {b : Bool} {a : Addr} {xs ys : List V} (I : Inv X pins σ H s) (h : SqX X.K b H a xs) (h' : SqX X.K b H a ys) : xs = ys := by
  cases b with
  | true => exact I.tuple_inj h h'
  | false => exact I.list_inj h h'
theorem _root_.PySem.Heap.IsSqIter.obj {h : Heap} {b : Bool} {i l : Addr} {k : Nat} (x : Heap.IsSqIter h b i l k) : ∃ o, h.get? i = some o ∧ ∀ v, o.data ≠ .cell v := by
  cases b with
  | true =>
    obtain ⟨o, e, _, d⟩ := x
    exact ⟨o, e, fun v q => by rw [d] at q; cases q⟩
  | false =>
    obtain ⟨o, e, _, d⟩ := x
    exact ⟨o, e, fun v q => by rw [d] at q; cases q⟩
/-- the sequences at a and b as they stand at each turn, the items in new pairs -/
def ItzG (K : PySem.W.Frag) (b1 b2 : Bool) (a b : Addr) : It :=
  ⟨fun i H => ∃ (xs ys : List V) (x y : V), SqX K b1 H a xs ∧ SqX K b2 H b ys ∧ xs[i]? = some x ∧ ys[i]? = some y,
    fun i H v H' => ∃ T x y, v = .ref T ∧ H T = none ∧ H' = upd H T (.tup [x, y]) ∧ (∀ xs, SqX K b1 H a xs → xs[i]? = some x) ∧ ∀ ys, SqX K b2 H b ys → ys[i]? = some y,
    fun i H => ∃ xs ys : List V, SqX K b1 H a xs ∧ SqX K b2 H b ys ∧ (xs.length ≤ i ∨ ys.length ≤ i)⟩
theorem turn_zipG {b1 b2 : Bool} {P : Program} {w : World} {K : PySem.W.Frag} {elts : List Expr} {kk : Nat} {tpos : Pos} {a b z TI TO i1 i2 : Addr} (D : ZipApart z TI TO i1 i2 a b) :
    Turn P w K (.Tuple elts kk tpos) (ItzG K b1 b2 a b) [z, TI, TO, i1, i2] z (fun i h => IsZip h z TI TO .none ∧ IsPair h TI (.ref i1) (.ref i2) ∧ (∃ x y, IsPair h TO x y) ∧ Heap.IsSqIter h b1 i1 a i ∧ Heap.IsSqIter h b2 i2 b i) where
  mem := by simp
  obj := fun i h st c hc => by
    obtain ⟨hz, hTI, ⟨x, y, hTO⟩, h1, h2⟩ := st
    obtain ⟨o1, e1, d1⟩ := h1.obj
    obtain ⟨o2, e2, d2⟩ := h2.obj
    have e' : c = z ∨ c = TI ∨ c = TO ∨ c = i1 ∨ c = i2 := by simpa using hc
    rcases e' with q | q | q | q | q
    · rw [q]; exact ⟨_, hz, fun v q => nomatch q⟩
    · rw [q]; exact ⟨_, hTI, fun v q => nomatch q⟩
    · rw [q]; exact ⟨_, hTO, fun v q => nomatch q⟩
    · rw [q]; exact ⟨o1, e1, d1⟩
    · rw [q]; exact ⟨o2, e2, d2⟩
  keep := fun i h h' st k => by
    obtain ⟨hz, hTI, ⟨x, y, hTO⟩, h1, h2⟩ := st
    exact ⟨k z (by simp) _ hz, k TI (by simp) _ hTI, ⟨x, y, k TO (by simp) _ hTO⟩, h1.at fun o q => k i1 (by simp) o q, h2.at fun o q => k i2 (by simp) o q⟩
  item := by
    intro X hP hw hK hc i pins s σ H E I hf st hg
    subst hP hw hK
    obtain ⟨hz, hTI, ⟨x0, y0, hTO⟩, h1, h2⟩ := st
    obtain ⟨xs, ys, x, y, hqx, hqy, hx, hy⟩ := hg
    obtain ⟨its, rv, p, _⟩ := I.sqx hqx
    obtain ⟨its2, rv2, p2, _⟩ := I.sqx hqy
    obtain ⟨u, hu, ru⟩ := rv.get hx
    obtain ⟨u2, hu2, ru2⟩ := rv2.get hy
    have hzl : z < s.heap.objs.size := Heap.lt_size hz
    refine wpAny_pyNext_zip_itemG D hz hTI hTO h1 h2 p p2 (x := u) (y := u2) (by simpa using hu) (by simpa using hu2) fun h' z' TO' h1' h2' hT hsz hk => ?_
    refine ⟨_, rfl, wpAny_letOwnedTupleGo_zip (s := { s with heap := h' }) z' fun h'' z'' sb => ?_⟩
    have hT2 : h''.get? s.heap.objs.size = some { cls := .type "tuple", data := .seq #[u, u2] } := (sb.2 _ (Nat.ne_of_gt hzl)).trans hT
    have new : ObjOk X.prog X.w (upd H s.heap.objs.size (.tup [x, y])) h'' s.heap.objs.size (.tup [x, y]) :=
      ⟨by show 2 ≤ sizeLine; decide, [u, u2], .cons ru (.cons ru2 .nil), ⟨_, hT2, rfl, _, rfl⟩⟩
    have I1 : Inv X pins σ (upd H s.heap.objs.size (.tup [x, y])) { s with heap := h'' } :=
      I.turnedNew (t' := s.toks) (ch := [z, TI, TO, i1, i2]) (fun c o hb q => (sb.2 c (fun q' => hb (by simp [q']))).trans (hk c o (fun q' => hb (by simp [q'])) (fun q' => hb (by simp [q'])) (fun q' => hb (by simp [q'])) (fun q' => hb (by simp [q'])) q)) hf (Nat.le_refl _) new
    refine ⟨.ref s.heap.objs.size, _, I1, rfl, ⟨_, x, y, rfl, I.hok.fresh (Nat.le_refl _), rfl, fun l hl => by rw [I.sqx_inj hl hqx]; exact hx, fun l hl => by rw [I.sqx_inj hl hqy]; exact hy⟩, ⟨z'', ?_, ⟨u, u2, ?_⟩, ?_, ?_⟩, fun c hcm => ?_⟩
    · exact (sb.2 _ D.TIz).trans (hk _ _ D.TIz D.TITO D.TIi1 D.TIi2 hTI)
    · exact (sb.2 _ D.TOz).trans TO'
    · exact h1'.at fun o q => (sb.2 _ D.i1z).trans q
    · exact h2'.at fun o q => (sb.2 _ D.i2z).trans q
    · have hlt : c < s.heap.objs.size := by
        have e' : c = z ∨ c = TI ∨ c = TO ∨ c = i1 ∨ c = i2 := by simpa using hcm
        rcases e' with q | q | q | q | q
        · rw [q]; exact hzl
        · rw [q]; exact Heap.lt_size hTI
        · rw [q]; exact Heap.lt_size hTO
        · rw [q]; exact h1.lt
        · rw [q]; exact h2.lt
      rw [upd_ne (Nat.ne_of_lt hlt)]
      exact (hf c hcm).1
  done := by
    intro X hP hw hK hc i pins s σ H E I hf st hg
    subst hP hw hK
    obtain ⟨hz, hTI, ⟨x0, y0, hTO⟩, h1, h2⟩ := st
    obtain ⟨xs, ys, hqx, hqy, hend⟩ := hg
    obtain ⟨its, rv, p, _⟩ := I.sqx hqx
    obtain ⟨its2, rv2, p2, _⟩ := I.sqx hqy
    have l1 := rv.length
    have l2 := rv2.length
    have he : its.toArray[i]? = none ∨ its2.toArray[i]? = none := by
      rcases hend with q | q
      · exact .inl (by simp; omega)
      · exact .inr (by simp; omega)
    exact wpAny_pyNext_zip_endG (I.ok.hd hc) D hz hTI hTO h1 h2 p p2 he fun h' hk => ⟨rfl, I.turnedL (t' := s.toks) (ch := [z, TI, TO, i1, i2]) (fun c o hb q =>
      hk c o (fun q' => hb (by simp [q'])) (fun q' => hb (by simp [q'])) (fun q' => hb (by simp [q'])) (fun q' => hb (by simp [q'])) q) hf⟩
  self := fun A i s Q E st h => wpAny_pyIter_zip st.1 h
def iZipG (K : PySem.W.Frag) (ta : TA) : TI := fun σ H R => ta σ H fun vs H1 => ∃ b1 b2 a b xs ys, vs = [.ref a, .ref b] ∧ SqX K b1 H1 a xs ∧ SqX K b2 H1 b ys ∧ R (ItzG K b1 b2 a b) H1
theorem pi_zipG {X : Cx} {e e2 : Expr} {ta : TA} {p pos tpos : Pos} {elts : List Expr} {kk : Nat} (hg : Gl X "zip") (hm : X.mg "zip" = none) (ha : PA X [e, e2] ta)
    (hs : starEach [e, e2] X.env = (false, eval e X.env) :: starEach [e2] X.env := by rfl) (hpl : (backTo pos (starEach [e2] X.env)).any (·.1) = false := by rfl) :
    PI X (.Tuple elts kk tpos) (.Call (.Name "zip" p) [e, e2] [] pos) (iZipG X.K ta) := by
  intro pins s σ H R I h
  refine Call_ (ld_blt I hg hm boot_zip5 (PyProof.Rows.callWith_type1 (thn (ha pos pins s σ H _ I h) fun us s1 ⟨vs, H1, I1, r1, q1⟩ => ?_) hs hpl))
  obtain ⟨b1, b2, a, b, xs, ys, ex, hqx, hqy, q⟩ := q1
  subst ex
  cases r1 with
  | cons r rr =>
    cases rr with
    | cons r' rr =>
      cases rr
      cases r
      cases r'
      obtain ⟨its, rv, p1, _⟩ := I1.sqx hqx
      obtain ⟨its2, rv2, p2, _⟩ := I1.sqx hqy
      have la : a < s1.heap.objs.size := p1.lt
      have lb : b < s1.heap.objs.size := p2.lt
      refine call_zip_2G p1 p2 fun h' hz hTI hTO h1 h2 hsz hk => wpAny_pyIter_zip hz ?_
      have I2 : Inv X pins σ H1 { s1 with heap := h' } := I1.kept (t' := s1.toks) hk
      refine ⟨s1.heap.objs.size + 4, [s1.heap.objs.size + 4, s1.heap.objs.size + 2, s1.heap.objs.size + 3, s1.heap.objs.size, s1.heap.objs.size + 1], _, _, H1, rfl, I2, turn_zipG (PySem.W.ktu_apart s1.heap.objs.size a b la lb), ⟨hz, hTI, ⟨_, _, hTO⟩, h1, h2⟩, fun c hcm => ?_, q⟩
      have e' : c = s1.heap.objs.size + 4 ∨ c = s1.heap.objs.size + 2 ∨ c = s1.heap.objs.size + 3 ∨ c = s1.heap.objs.size ∨ c = s1.heap.objs.size + 1 := by simpa using hcm
      have hle : s1.heap.objs.size ≤ c := by
        rcases e' with z | z | z | z | z
        · rw [z]; exact Nat.le_add_right _ _
        · rw [z]; exact Nat.le_add_right _ _
        · rw [z]; exact Nat.le_add_right _ _
        · rw [z]; exact Nat.le_refl _
        · rw [z]; exact Nat.le_add_right _ _
      exact I1.fpOk hle (I1.hok.fresh hle)
end L2
set_option Elab.async false
set_option maxRecDepth 100000
set_option linter.all false
namespace PySem
open Sem (wp)
theorem am_zip_getattr_none : typeLookup (.type "zip") "__getattr__" = pure none := by rw [typeLookup_type, builtinLookup_eq_fast]; kernel_rfl
theorem am_entry_zip_getattribute : entryFor table "zip.__getattribute__" = some Builtin.«object.__getattribute__» :=
  entryFor_alias (id' := "object.__getattribute__") (by kernel_rfl) (by decide +kernel) (by decide +kernel) (by kernel_rfl)
theorem meets_getattribute_miss_zip (a : Addr) (xs : Array Value) (sl : Array (Option Value)) (name : Str) (u : Tok) (hmiss : typeLookup (.type "zip") name = pure none) (hname : (["__module__", "__name__", "__qualname__", "__doc__", "__annotations__"] : List Str).contains name = false) (hsz : name.length + 100 ≤ sizeLine := by size_fits) :
    Meets (Builtin.«object.__getattribute__» ⟨[.ref a, .str name u], []⟩) (fun A R s => s.heap.get? a = some { cls := .type "zip", dict := none, data := .fields xs, slots := sl } ∧ raisesAttr (.ref a) name A R s) :=
  Meets.of_wp fun prog w A R s hs => by
    obtain ⟨hp, g, d, tk, os⟩ := s
    obtain ⟨hx, hs⟩ := hs
    have hT : (⟨hp, g, d, tk, os⟩ : Shared).TypeIs (.ref a) "zip" := ⟨_, hx, rfl⟩
    unfold Builtin.«object.__getattribute__»
    repeat (any_goals (first | assumption | wp_step))
    simp only [hname, Bool.false_eq_true, if_false]
    repeat (any_goals (first | assumption | wp_step))
    exact wpAny_raiseAttrError hs.1 hs.2 (attrMsg_fits (by decide +kernel) hsz)
theorem keys_zip_none : typeLookup (.type "zip") "keys" = pure none := by rw [typeLookup_type, builtinLookup_eq_fast]; kernel_rfl
theorem keys_miss_zip {prog : Program} {w : World} {A : Around} {E : Value → Shared → Prop} {s : Shared} {a : Addr} {o : Obj} {xs : Array Value} {Q : Option Value → Shared → Prop}
    (hx : s.heap.get? a = some o) (hc : o.cls = .type "zip") (hdat : o.data = .fields xs) (hd : o.dict = none) (hA : A.handled = none)
    (h : ∀ h' tk, (∀ b ob, s.heap.get? b = some ob → h'.get? b = some ob) → Q none { s with heap := h', toks := tk }) :
    wpAny (model prog w) A (getAttr? (.ref a) "keys") Q E s := by
  obtain ⟨c, dct, dat, sl⟩ := o
  simp only at hc hdat hd
  subst hc hdat hd
  obtain ⟨hp, g, d, tk, os⟩ := s
  have hT : ∀ tk', (⟨hp, g, d, tk', os⟩ : Shared).TypeIs (.ref a) "zip" := fun _ => ⟨_, hx, rfl⟩
  have f1 := sub_AttributeError
  have f3 := F.slot_zip_getattribute.lookup
  have f4 := F.slot_zip_getattribute.bind (.ref a)
  have f5 := am_zip_getattr_none
  unfold getAttr? getAttrBy? getAttrBy
  repeat (any_goals (first | assumption | exact hT _ | ((with_reducible show wpAny _ _ (call (Value.builtin "zip.__getattribute__") _ _) _ _ _); refine call_meets F.slot_zip_getattribute (hT _) am_entry_zip_getattribute (F.args_zip_getattribute_2 _ _) (meets_getattribute_miss_zip a xs sl "keys" _ keys_zip_none (by decide +kernel)) ⟨hx, hA, fun h' tk' e hx' => ?_⟩) | wp_step))
  obtain ⟨t', u', he⟩ := hx'.there
  show wpAny _ _ (getattributeRaised _ _ _ _ _ _ _) _ _ _
  unfold getattributeRaised
  repeat (any_goals (first | assumption | wp_step))
  exact h _ _ hx'.keeps
end PySem
set_option Elab.async false
set_option maxRecDepth 100000
set_option linter.all false
namespace PySem
open Sem (wp)
open PyProof.Rows
namespace F
theorem plain_update_loop : plainId "dict.update.loop" = true := by decide +kernel
theorem entry_update_loop : entryFor table "dict.update.loop" = some Builtin.«dict.update.loop» := entryFor_of_tree (by kernel_rfl)
end F
/-- pairs are drawn from it, the n of kv; fp: what is otherwise then -/
structure DrawsPairs (prog : Program) (w : World) (fp : List Addr) (d it : Addr) (n : Nat) (kv : Nat → Value × Value) (St : Nat → Heap → Prop) : Prop where
  apart : d ∉ fp
  item : ∀ (A : Around) (i : Nat) (s : Shared) (E : Value → Shared → Prop) (Q : Option Value → Shared → Prop), A.handled = none → i < n → St i s.heap →
    (∀ h' T o k, St (i + 1) h' → h'.get? T = some o → o.cls = .type "tuple" → o.data = .seq #[(kv i).1, (kv i).2] k → (∀ c ob, c ∉ fp → s.heap.get? c = some ob → h'.get? c = some ob) → Q (some (.ref T)) { s with heap := h' }) →
    wpAny (model prog w) A (pyNext (.ref it)) Q E s
  done : ∀ (A : Around) (s : Shared) (E : Value → Shared → Prop) (Q : Option Value → Shared → Prop), A.handled = none → St n s.heap →
    (∀ h', (∀ c ob, c ∉ fp → s.heap.get? c = some ob → h'.get? c = some ob) → Q none { s with heap := h' }) → wpAny (model prog w) A (pyNext (.ref it)) Q E s
  keep : ∀ i h h', St i h → Heap.SameBut d h h' → (∃ o, h'.get? d = some o) → St i h'
section
variable {prog : Program} {w : World} {K : Type} [DecidableEq K] {knd : KeyKind prog w K} {A : Around} {E : Value → Shared → Prop}
theorem stored_len (kvs : List (K × Value)) (k : K) (v : Value) : (stored kvs k v).length ≤ kvs.length + 1 := by
  unfold stored
  split <;> simp
theorem update_loop {fp : List Addr} {d it : Addr} {n : Nat} {kv : Nat → Value × Value} {St : Nat → Heap → Prop} (D : DrawsPairs prog w fp d it n kv St) (key : Nat → K) (hk : ∀ j, j < n → knd.is (key j) (kv j).1 = true) (hh : A.handled = none) (res : Value) {R : Result → Shared → Prop} :
    ∀ (k i : Nat) (s : Shared) (kvs : List (K × Value)), n - i = k → i ≤ n → St i s.heap → s.heap.DictOf knd d kvs → kvs.length + (n - i) ≤ sizeLine →
    (∀ h' tk, h'.DictOf knd d ((List.range' i (n - i)).foldl (fun acc j => stored acc (key j) (kv j).2) kvs) → (∀ c o, c ≠ d → c ∉ fp → s.heap.get? c = some o → h'.get? c = some o) → R (.ok (.ret res)) { s with heap := h', toks := tk }) →
    codeAny (model prog w) A (.builtin "dict.update.loop" ⟨[.ref d, .ref it, rawInt i, res], []⟩) R s := by
  intro k
  induction k with
  | zero =>
    intro i s kvs hki hi hst hd hz hR
    have hin : i = n := by omega
    subst hin
    refine codeAny_builtin F.entry_update_loop ?_
    rw [Around.under_plainId F.plain_update_loop _]
    show wpAny _ A.in1 (pyNext (.ref it) >>= _) _ _ s
    refine wpAny_bind (D.done _ s _ _ hh hst fun h' hk' => ?_)
    rw [Nat.sub_self] at hR
    refine wpAny_pure (hR h' s.toks (hd.at fun o e => hk' _ o D.apart e) fun c o _ h2 e => hk' c o h2 e)
  | succ k ih =>
    intro i s kvs hki hi hst hd hz hR
    have hlt : i < n := by omega
    refine codeAny_builtin F.entry_update_loop ?_
    rw [Around.under_plainId F.plain_update_loop _]
    show wpAny _ A.in1 (pyNext (.ref it) >>= _) _ _ s
    refine wpAny_bind (D.item _ i s _ _ hh hlt hst fun h' T o kk hst' hT hc hdat hk' => ?_)
    have hd' : h'.DictOf knd d kvs := hd.at fun o e => hk' _ o D.apart e
    have hTT : ({ s with heap := h' } : Shared).TypeIs (.ref T) "tuple" := ⟨o, hT, hc⟩
    refine wpAny_bind (wpAny_holding (wpAny_bind (wpAny_tryCatch ?_)))
    unfold Builtin.Dict.pairItems
    refine wpAny_bind (wpAny_typeOf hTT ?_)
    rw [if_pos (by decide)]
    refine wpAny_bind (wpAny_seqItems hT hdat (wpAny_pure ?_))
    show wpAny _ _ (holding [(kv i).1, (kv i).2] (dictSet d (kv i).1 (kv i).2)) _ _ _
    refine wpAny_holding (wpAny_dictSet_pairs (knd := knd) (k := key i) (hk i hlt) hd' (fun h'' hd'' sb => ?_) (by omega))
    refine wpAny_pure ⟨plainId_quiet F.plain_update_loop _, ?_⟩
    have e1 : (rawInt i : Value) = .int (i : Int) 0 := rfl
    have e2 : ((i : Int) + 1) = ((i + 1 : Nat) : Int) := by omega
    show codeAny _ A (.builtin "dict.update.loop" ⟨[.ref d, .ref it, rawInt ((i : Int) + 1), res], []⟩) R _
    rw [e2]
    refine ih (i + 1) { s with heap := h'', toks := s.toks + 1 } (stored kvs (key i) (kv i).2) (by omega) hlt (D.keep _ _ _ hst' sb (let ⟨o, _, _, e, _⟩ := hd''; ⟨o, e⟩)) hd'' (by have := stored_len kvs (key i) (kv i).2; omega) fun h3 tk3 hd3 hk3 => ?_
    have er : List.range' i (n - i) = i :: List.range' (i + 1) (n - (i + 1)) := by
      rw [show n - i = (n - (i + 1)) + 1 by omega, List.range'_succ]
    rw [er, List.foldl_cons] at hR
    exact hR h3 tk3 hd3 fun c ob h1 h2 e => hk3 c ob h1 h2 ((sb.2 c h1).trans (hk' c ob h2 e))
end
end PySem
set_option Elab.async false
set_option maxRecDepth 100000
set_option linter.all false
namespace PySem
open Sem (wp)
open PyProof.Rows
section
variable {prog : Program} {w : World} {K : Type} [DecidableEq K] {knd : KeyKind prog w K} {A : Around} {E : Value → Shared → Prop} {s : Shared}
theorem call_dict_pairs {a : Addr} {T : String} {n : Nat} {kv : Nat → Value × Value} {Q : Value → Shared → Prop} (FP : List Addr) (key : Nat → K) (hk : ∀ j, j < n → knd.is (key j) (kv j).1 = true) (hn : n ≤ sizeLine) (hh : A.handled = none)
    (hT : s.TypeIs (.ref a) T) (hne : (Value.type T != .type "dict") = true)
    (hmiss : ∀ (A : Around) (E : Value → Shared → Prop) (s1 : Shared) (Q : Option Value → Shared → Prop), A.handled = none → (∀ b o, s.heap.get? b = some o → s1.heap.get? b = some o) →
      (∀ h' tk, (∀ b ob, s1.heap.get? b = some ob → h'.get? b = some ob) → Q none { s1 with heap := h', toks := tk }) → wpAny (model prog w) A (getAttr? (.ref a) "keys") Q E s1)
    (hiter : ∀ (A : Around) (E : Value → Shared → Prop) (s1 : Shared) (Q : Value → Shared → Prop), (∀ b o, s.heap.get? b = some o → s1.heap.get? b = some o) → s.heap.objs.size < s1.heap.objs.size →
      (∀ h' it fp St, DrawsPairs prog w fp s.heap.objs.size it n kv St → St 0 h' → (∀ b ob, s1.heap.get? b = some ob → h'.get? b = some ob) → (∀ c ∈ fp, c ∈ FP ∨ s.heap.get? c = none) → Q (.ref it) { s1 with heap := h' }) → wpAny (model prog w) A (pyIter (.ref a)) Q E s1)
    (h : ∀ h' tk, h'.DictOf knd s.heap.objs.size ((List.range' 0 n).foldl (fun acc j => stored acc (key j) (kv j).2) []) → (∀ c o, c ∉ FP → s.heap.get? c = some o → h'.get? c = some o) → Q (.ref s.heap.objs.size) { s with heap := h', toks := tk }) :
    wpAny (model prog w) A (call (.type "dict") [.ref a]) Q E s := by
  refine callType_codes (Q₁ := fun obj s₁ => obj = .ref s.heap.objs.size ∧ s₁ = { s with heap := s.heap.push { cls := .type "dict", data := .dict #[] } }) F.kt_called_dict (F.kt_typeCall_dict_1 _) F.entry_dict_init (kt_code_dict_new _ ⟨rfl, rfl⟩) ?_
  rintro obj s₁ ⟨rfl, rfl⟩
  have hnew : (s.heap.push { cls := .type "dict", data := .dict #[] }).DictOf knd s.heap.objs.size [] := Heap.DictOf.new s.heap
  have up : ∀ b o, s.heap.get? b = some o → (s.heap.push { cls := .type "dict", data := .dict #[] }).get? b = some o := fun b o e => Heap.get?_push_of_some _ e
  have hT1 : ({ s with heap := s.heap.push { cls := .type "dict", data := .dict #[] } } : Shared).TypeIs (.ref a) T := by
    obtain ⟨o, ho, hc⟩ := hT
    exact ⟨o, up _ _ ho, hc⟩
  refine ⟨hnew.typeIs, F.args_dict_init_2 _ _, ?_⟩
  unfold Builtin.«dict.__init__»
  refine wpAny_bind ?_
  unfold Builtin.Dict.selfAndRest
  refine wpAny_bind (wpAny_notOrdered_dict hnew.typeIs ?_)
  show wpAny _ _ (pure (s.heap.objs.size, [Value.ref a])) _ _ _
  refine wpAny_pure ?_
  show wpAny _ _ (Builtin.Dict.updateFrom "dict.__init__" s.heap.objs.size (.ref a) [] .none) _ _ _
  unfold Builtin.Dict.updateFrom
  refine wpAny_bind (wpAny_typeOf hT1 ?_)
  rw [if_pos hne]
  refine wpAny_bind (hmiss _ _ _ _ hh up fun h1 tk1 k1 => ?_)
  simp only [Option.isNone_none, if_true]
  refine wpAny_bind (wpAny_rule ?_)
  refine wpAny_bind (hiter _ _ _ _ (fun b o e => k1 _ _ (up b o e)) ?_ fun h2 it fp St D st k2 hfp => ?_)
  · obtain ⟨o, _, _, e, _⟩ := hnew
    exact Heap.lt_size (k1 _ _ e)
  refine wpAny_pure ⟨plainId_quiet F.plain_update_loop _, ?_⟩
  show codeAny _ _ (.builtin "dict.update.loop" ⟨[.ref s.heap.objs.size, .ref it, rawInt ((0 : Nat) : Int), .none], []⟩) _ _
  refine update_loop (A := A.in1) (knd := knd) (s := { s with heap := h2, toks := tk1 }) D key hk hh .none n 0 [] (Nat.sub_zero _) (Nat.zero_le _) st ((hnew.at fun o e => k1 _ _ e).at fun o e => k2 _ _ e) (by simpa using hn) fun h3 tk3 hd3 k3 => ?_
  rw [Nat.sub_zero] at hd3
  refine ⟨rfl, h h3 tk3 hd3 fun c o hc e => ?_⟩
  refine k3 c o (fun q => ?_) (fun q => ?_) (k2 _ _ (k1 _ _ (up _ _ e)))
  · rw [q] at e
    exact absurd (Heap.lt_size e) (Nat.lt_irrefl _)
  · rcases hfp c q with q | q
    · exact hc q
    · rw [q] at e; cases e
end
end PySem
set_option Elab.async false
set_option maxRecDepth 100000
set_option linter.all false
namespace PySem
open Sem (wp)
open PyProof.Rows
section
variable {prog : Program} {w : World}
/-- an object stands and is no other than what is remade -/
theorem SameBut_at {d b : Addr} {h h' : Heap} (s : Heap.SameBut d h h') (hb : b ≠ d) {o : Obj} (e : h.get? b = some o) : h'.get? b = some o := (s.2 b hb).trans e
theorem draws_zip {b1 b2 : Bool} {d z TI TO i1 i2 l1 l2 : Addr} {xs ys : Array Value} {kv : Nat → Value × Value} (D : ZipApart z TI TO i1 i2 l1 l2) (hkv : ∀ j, j < min xs.size ys.size → xs[j]? = some (kv j).1 ∧ ys[j]? = some (kv j).2) (hd : d ≠ z ∧ d ≠ TI ∧ d ≠ TO ∧ d ≠ i1 ∧ d ≠ i2 ∧ d ≠ l1 ∧ d ≠ l2) :
    DrawsPairs prog w [z, TO, i1, i2] d z (min xs.size ys.size) kv (fun i h => ZipSt h z TI TO i1 i2 ∧ IsPair h TI (.ref i1) (.ref i2) ∧ Heap.IsSqIter h b1 i1 l1 i ∧ Heap.IsSqIter h b2 i2 l2 i ∧ Heap.IsSq h b1 l1 xs ∧ Heap.IsSq h b2 l2 ys) where
  apart := by
    obtain ⟨h1, h2, h3, h4, h5, h6, h7⟩ := hd
    simp [h1, h3, h4, h5]
  item := fun A i s E Q _ hi ⟨hz, hTI, h1, h2, hl1, hl2⟩ hQ => by
    obtain ⟨hx, hy⟩ := hkv i hi
    refine next_zipst_itemG D hz hTI h1 h2 hl1 hl2 hx hy fun h' z' h1' h2' hT hs' hk' => ?_
    refine hQ h' _ _ 0 ⟨z', hk' _ _ D.TIz D.TITO D.TIi1 D.TIi2 hTI, h1', h2', hl1.at fun o e => hk' _ o D.l1z D.l1TO D.l1i1 D.l1i2 e, hl2.at fun o e => hk' _ o D.l2z D.l2TO D.l2i1 D.l2i2 e⟩ hT rfl rfl fun c ob hc e => ?_
    have hc' : c ≠ z ∧ c ≠ TO ∧ c ≠ i1 ∧ c ≠ i2 := by simpa using hc
    exact hk' c ob hc'.1 hc'.2.1 hc'.2.2.1 hc'.2.2.2 e
  done := fun A s E Q hh ⟨hz, hTI, h1, h2, hl1, hl2⟩ hQ => by
    refine next_zipst_endG hh D hz hTI h1 h2 hl1 hl2 ?_ fun h' hk => hQ h' fun c ob hc e => ?_
    · rcases Nat.le_total xs.size ys.size with h | h
      · exact .inl (by rw [Nat.min_eq_left h]; simp)
      · exact .inr (by rw [Nat.min_eq_right h]; simp)
    · have hc' : c ≠ z ∧ c ≠ TO ∧ c ≠ i1 ∧ c ≠ i2 := by simpa using hc
      exact hk c ob hc'.1 hc'.2.1 hc'.2.2.1 hc'.2.2.2 e
  keep := fun i h h' ⟨hz, hTI, h1, h2, hl1, hl2⟩ sb ⟨od, hod⟩ => by
    obtain ⟨d1, d2, d3, d4, d5, d6, d7⟩ := hd
    refine ⟨?_, SameBut_at sb (Ne.symm d2) hTI, h1.extBut sb.extBut (Ne.symm d4), h2.extBut sb.extBut (Ne.symm d5), hl1.extBut sb.extBut (Ne.symm d6), hl2.extBut sb.extBut (Ne.symm d7)⟩
    rcases hz with ⟨a, x, y, e⟩ | ⟨T, b, oT, a1, a2, a3, a4, a5⟩
    · exact .inl ⟨SameBut_at sb (Ne.symm d1) a, x, y, SameBut_at sb (Ne.symm d3) e⟩
    · by_cases hT : T = d
      · subst hT
        exact .inr ⟨T, b, od, SameBut_at sb (Ne.symm d1) a1, hod, a3, a4, a5⟩
      · exact .inr ⟨T, b, oT, SameBut_at sb (Ne.symm d1) a1, SameBut_at sb hT a2, a3, a4, a5⟩
end
end PySem
set_option Elab.async false
set_option maxRecDepth 100000
set_option linter.all false
namespace L2
open PySem PySem.Spec PyProof.Rows
theorem keyIs_kV {k : Key} {u : Value} (r : RelV (kV k) u) : keyIs k u = true := by
  cases k with
  | inl i => obtain ⟨t, rfl⟩ := r; simp [keyIs, Value.isInt]
  | inr x => obtain ⟨t, rfl⟩ := r; simp [keyIs, Value.isStrOf]
theorem mergeK_rel {key : Nat → Key} {kv : Nat → Value × Value} : ∀ (ps acc : List (Key × V)) (vs : List (Key × Value)) (i : Nat), (∀ j p, ps[j]? = some p → key (i + j) = p.1 ∧ RelV p.2 (kv (i + j)).2) → KV acc vs →
    KV (mergeK acc ps) ((List.range' i ps.length).foldl (fun a j => stored a (key j) (kv j).2) vs)
  | [], acc, vs, i, _, r => by simpa [mergeK] using r
  | p :: ps, acc, vs, i, h, r => by
    obtain ⟨h1, h2⟩ := h 0 p rfl
    rw [Nat.add_zero] at h1 h2
    rw [List.length_cons, List.range'_succ, List.foldl_cons]
    show KV (mergeK (putK acc p.1 p.2) ps) _
    refine mergeK_rel ps _ _ (i + 1) (fun j q hq => ?_) (by rw [h1]; exact r.put p.1 h2)
    have := h (j + 1) q (by simpa using hq)
    rw [show i + 1 + j = i + (j + 1) by omega]
    exact this
theorem putK_len (kvs : List (Key × V)) (k : Key) (v : V) : (putK kvs k v).length ≤ kvs.length + 1 := by
  unfold putK
  split <;> simp
theorem mergeK_len : ∀ (ps acc : List (Key × V)), (mergeK acc ps).length ≤ acc.length + ps.length
  | [], acc => by simp [mergeK]
  | p :: ps, acc => by
    have h := mergeK_len ps (putK acc p.1 p.2)
    have := putK_len acc p.1 p.2
    show (mergeK (putK acc p.1 p.2) ps).length ≤ _
    simp only [List.length_cons]
    omega
section
variable {X : Cx} {pins : List (Addr × Obj)} {σ : List (Option V)} {H : Hp} {s : Shared}
/-- dict(zip(a, b)) -/
def tDZ (K : PySem.W.Frag) (ta : TA) : TE := fun σ H Q => ta σ H fun vs H1 => ∃ (b1 b2 : Bool) (a b : Addr) (ks : List Key) (ys : List V), vs = [.ref a, .ref b] ∧ SqX K b1 H1 a (ks.map kV) ∧ SqX K b2 H1 b ys ∧
  ∀ d, H1 d = none → Q (.ref d) (upd H1 d (.dK (mergeK [] (ks.zip ys))))
theorem pe_dictzip {e e2 : Expr} {ta : TA} {p p2 pos pos2 : Pos} (hc : X.calm = true) (hg : Gl X "dict") (hm : X.mg "dict" = none) (hg2 : Gl X "zip") (hm2 : X.mg "zip" = none) (ha : PA X [e, e2] ta)
    (hs : starEach [e, e2] X.env = (false, eval e X.env) :: starEach [e2] X.env := by rfl) (hpl : (backTo pos2 (starEach [e2] X.env)).any (·.1) = false := by rfl) :
    PE X (.Call (.Name "dict" p) [.Call (.Name "zip" p2) [e, e2] [] pos2] [] pos) (tDZ X.K ta) := by
  intro pins s σ H Q I h
  refine wpAny_Call_Name_kw (ld_blt I hg hm (show bootBuiltins "dict" = some (.type "dict") by decide +kernel) ?_)
  refine PyProof.Rows.callWith_type1 ?_ rfl rfl
  refine Calls.spliced_cons ?_
  refine Call_ (ld_blt I hg2 hm2 boot_zip5 (PyProof.Rows.callWith_type1 (thn (ha pos2 pins s σ H _ I h) fun us s1 ⟨vs, H1, I1, r1, q1⟩ => ?_) hs hpl))
  obtain ⟨b1, b2, a, b, ks, ys, ex, hqx, hqy, q⟩ := q1
  subst ex
  cases r1 with
  | cons r rr =>
    cases rr with
    | cons r' rr =>
      cases rr
      cases r
      cases r'
      obtain ⟨its, rv, p1, hzx⟩ := I1.sqx hqx
      obtain ⟨its2, rv2, p2', hzy⟩ := I1.sqx hqy
      have la : a < s1.heap.objs.size := p1.lt
      have lb : b < s1.heap.objs.size := p2'.lt
      have l1 := rv.length
      have l2 := rv2.length
      rw [List.length_map] at l1 hzx
      refine call_zip_2G p1 p2' fun h' hz hTI hTO h1 h2 hsz hk => Calls.spliced_nil ?_
      have D := PySem.W.ktu_apart s1.heap.objs.size a b la lb
      have up : ∀ b o, s1.heap.get? b = some o → h'.get? b = some o := hk
      let kv : Nat → Value × Value := fun j => ((its[j]?).getD .none, (its2[j]?).getD .none)
      let kk : Nat → Key := fun j => (ks[j]?).getD (.inl 0)
      have hn : min its.toArray.size its2.toArray.size = (ks.zip ys).length := by simp only [List.size_toArray, List.length_zip]; omega
      have hkv : ∀ j, j < min its.toArray.size its2.toArray.size → its.toArray[j]? = some (kv j).1 ∧ its2.toArray[j]? = some (kv j).2 := fun j hj => by
        simp only [List.size_toArray] at hj
        refine ⟨?_, ?_⟩
        · rw [List.getElem?_toArray]
          show its[j]? = some ((its[j]?).getD .none)
          rw [List.getElem?_eq_getElem (show j < its.length by omega)]; rfl
        · rw [List.getElem?_toArray]
          show its2[j]? = some ((its2[j]?).getD .none)
          rw [List.getElem?_eq_getElem (show j < its2.length by omega)]; rfl
      have rel : ∀ (j : Nat) (pr : Key × V), (ks.zip ys)[j]? = some pr → kk j = pr.1 ∧ RelV (kV pr.1) (kv j).1 ∧ RelV pr.2 (kv j).2 := fun j pr hj => by
        have hjl := (List.getElem?_eq_some_iff.mp hj).1
        rw [List.length_zip] at hjl
        have e1 := List.getElem?_eq_getElem (show j < ks.length by omega)
        have e2 := List.getElem?_eq_getElem (show j < ys.length by omega)
        have ep : pr = (ks[j], ys[j]) := by
          have := List.getElem?_eq_getElem (show j < (ks.zip ys).length by rw [List.length_zip]; omega)
          rw [this] at hj
          rw [← Option.some.inj hj, List.getElem_zip]
        subst ep
        obtain ⟨u, g1, g2⟩ := rv.get (i := j) (by rw [List.getElem?_map, e1]; rfl)
        obtain ⟨u2, g3, g4⟩ := rv2.get e2
        refine ⟨?_, ?_, ?_⟩
        · show (ks[j]?).getD (.inl 0) = ks[j]
          rw [e1]; rfl
        · show RelV _ ((its[j]?).getD .none)
          rw [g1]; exact g2
        · show RelV _ ((its2[j]?).getD .none)
          rw [g3]; exact g4
      have hTz : ({ s1 with heap := h' } : Shared).TypeIs (.ref (s1.heap.objs.size + 4)) "zip" := ⟨_, hz, rfl⟩
      have hdl : h'.objs.size = s1.heap.objs.size + 5 := hsz
      refine PySem.call_dict_pairs (s := { s1 with heap := h' }) (knd := mixKind X.prog X.w) (T := "zip") (n := min its.toArray.size its2.toArray.size) (kv := kv) [s1.heap.objs.size + 4, s1.heap.objs.size + 3, s1.heap.objs.size, s1.heap.objs.size + 1] kk (fun j hj => ?_) (by simp only [List.size_toArray]; omega) (I.ok.hd hc) hTz (by decide) (fun A E s2 Q hA k hQ => ?_) (fun A E s2 Q k hlt hQ => ?_) fun h3 tk hd k => ?_
      · rw [hn] at hj
        obtain ⟨q1, q2, _⟩ := rel j _ (List.getElem?_eq_getElem hj)
        show keyIs (kk j) (kv j).1 = true
        rw [q1]
        exact keyIs_kV q2
      · exact keys_miss_zip (k _ _ hz) rfl rfl rfl hA hQ
      · refine wpAny_pyIter_zip (k _ _ hz) (hQ s2.heap _ _ _ (draws_zip (b1 := b1) (b2 := b2) (xs := its.toArray) (ys := its2.toArray) D hkv ?_) ⟨.inl ⟨k _ _ hz, _, _, k _ _ hTO⟩, k _ _ hTI, h1.at fun o e => k _ o e, h2.at fun o e => k _ o e, (p1.at fun o e => hk _ o e).at fun o e => k _ o e, (p2'.at fun o e => hk _ o e).at fun o e => k _ o e⟩ (fun b ob e => e) fun c hcm => .inl hcm)
        have ne : ∀ x, x < s1.heap.objs.size + 5 → h'.objs.size ≠ x := fun x hx => by rw [hdl]; omega
        exact ⟨ne _ (by omega), ne _ (by omega), ne _ (by omega), ne _ (by omega), ne _ (by omega), ne _ (Nat.lt_add_right 5 la), ne _ (Nat.lt_add_right 5 lb)⟩
      · rw [hn] at hd
        have rl := mergeK_rel (key := kk) (kv := kv) (ks.zip ys) [] [] 0 (fun j pr hj => by
          obtain ⟨q1, q2, q3⟩ := rel j pr hj
          rw [Nat.zero_add]
          exact ⟨q1, q3⟩) .nil
        have hle : s1.heap.objs.size ≤ h'.objs.size := by rw [hdl]; exact Nat.le_add_right _ _
        refine ⟨.ref h'.objs.size, _, I1.laid (h' := h3) (t' := tk) (a := h'.objs.size) (o := .dK (mergeK [] (ks.zip ys))) (fun b u hb => k b u (fun hm => ?_) (hk b u hb)) hle (dk_new ?_ ?_ rl hd), rfl, q _ (I1.hok.fresh hle)⟩
        · have hlt := Heap.lt_size hb
          simp only [List.mem_cons, List.not_mem_nil, or_false] at hm
          rcases hm with e | e | e | e <;> rw [e] at hlt
          · exact absurd hlt (Nat.not_lt.mpr (Nat.le_add_right _ _))
          · exact absurd hlt (Nat.not_lt.mpr (Nat.le_add_right _ _))
          · exact absurd hlt (Nat.lt_irrefl _)
          · exact absurd hlt (Nat.not_lt.mpr (Nat.le_add_right _ _))
        · have := mergeK_len (ks.zip ys) []
          simp only [List.length_nil, List.length_zip] at this
          omega
        · exact beq_eq_false_iff_ne.mpr (Nat.ne_of_gt (Nat.lt_of_lt_of_le I1.big hle))
end
end L2
set_option Elab.async false
set_option maxRecDepth 100000
set_option linter.all false
namespace L2
open PySem PySem.Spec PyProof.Rows
section
variable {X : Cx}
def tLZG (K : PySem.W.Frag) (ta : TA) : TE := fun σ H Q => ta σ H fun vs H1 => ∃ (b1 b2 : Bool) (a b : Addr) (xs ys : List V), vs = [.ref a, .ref b] ∧ SqX K b1 H1 a xs ∧ SqX K b2 H1 b ys ∧
  ∀ (l : Addr) (Ts : List Addr) (H' : Hp), H1 l = none → Ts.length = min xs.length ys.length → Same H1 H' → H' l = some (.lst (Ts.map V.ref)) → (∀ (j : Nat) T x y, Ts[j]? = some T → xs[j]? = some x → ys[j]? = some y → H' T = some (.tup [x, y])) → Q (.ref l) H'
theorem pe_listzipG {e e2 : Expr} {ta : TA} {p p2 pos pos2 : Pos} (hc : X.calm = true) (hg : Gl X "list") (hm : X.mg "list" = none) (hg2 : Gl X "zip") (hm2 : X.mg "zip" = none) (ha : PA X [e, e2] ta)
    (hs : starEach [e, e2] X.env = (false, eval e X.env) :: starEach [e2] X.env := by rfl) (hpl : (backTo pos2 (starEach [e2] X.env)).any (·.1) = false := by rfl) :
    PE X (.Call (.Name "list" p) [.Call (.Name "zip" p2) [e, e2] [] pos2] [] pos) (tLZG X.K ta) := by
  intro pins s σ H Q I h
  refine wpAny_Call_Name_kw (ld_blt I hg hm (show bootBuiltins "list" = some (.type "list") by decide +kernel) ?_)
  refine PyProof.Rows.callWith_type1 ?_ rfl rfl
  refine Calls.spliced_cons ?_
  refine Call_ (ld_blt I hg2 hm2 boot_zip5 (PyProof.Rows.callWith_type1 (thn (ha pos2 pins s σ H _ I h) fun us s1 ⟨vs, H1, I1, r1, q1⟩ => ?_) hs hpl))
  obtain ⟨b1, b2, a, b, xs, ys, ex, hqx, hqy, q⟩ := q1
  subst ex
  cases r1 with
  | cons r rr =>
    cases rr with
    | cons r' rr =>
      cases rr
      cases r
      cases r'
      obtain ⟨its, rv, p1, hzx⟩ := I1.sqx hqx
      obtain ⟨its2, rv2, p2', hzy⟩ := I1.sqx hqy
      have la : a < s1.heap.objs.size := p1.lt
      have lb : b < s1.heap.objs.size := p2'.lt
      have l1 := rv.length
      have l2 := rv2.length
      refine call_zip_2G p1 p2' fun h' hz hTI hTO h1 h2 hsz hk => Calls.spliced_nil ?_
      have D := PySem.W.ktu_apart s1.heap.objs.size a b la lb
      refine call_list_zipG (I.ok.hd hc) D (min xs.length ys.length) (by omega) (by rw [List.size_toArray]; omega) (by rw [List.size_toArray]; omega) (by rcases Nat.le_total xs.length ys.length with z | z; exact .inl (by rw [Nat.min_eq_left z]; simp [← l1]); exact .inr (by rw [Nat.min_eq_right z]; simp [← l2])) hz hTI hTO h1 h2 (p1.at fun o e => hk _ o e) (p2'.at fun o e => hk _ o e) fun h'' acc' c' hk' hS hp => ?_
      obtain ⟨Ts, rfl, hTl, nd, hat⟩ := hp
      have hle : s1.heap.objs.size ≤ h'.objs.size := by rw [hsz]; exact Nat.le_add_right _ _
      have klt : ∀ b o, s1.heap.get? b = some o → h''.get? b = some o := fun b o e => by
        have hb := Heap.lt_size e
        exact hk' b o (Nat.ne_of_lt (Nat.lt_add_right 4 hb)) (Nat.ne_of_lt (Nat.lt_add_right 3 hb)) (Nat.ne_of_lt hb) (Nat.ne_of_lt (Nat.lt_add_right 1 hb)) (hk b o e)
      have hTge : ∀ (j : Nat) T, Ts[j]? = some T → h'.objs.size + 1 ≤ T := fun j T e => (hat j T e).1
      have e1 : zH H1 h'.objs.size Ts xs ys h'.objs.size = some (.lst (Ts.map V.ref)) := if_pos rfl
      have e2 : ∀ (j : Nat) T x y, Ts[j]? = some T → xs[j]? = some x → ys[j]? = some y → zH H1 h'.objs.size Ts xs ys T = some (.tup [x, y]) := fun j T x y hT hx hy => by
        have hne : T ≠ h'.objs.size := Nat.ne_of_gt (hTge j T hT)
        have hjl : j < Ts.length := (List.getElem?_eq_some_iff.mp hT).1
        have hf : (List.range Ts.length).find? (fun j => decide (Ts[j]? = some T)) = some j := by
          cases hq : (List.range Ts.length).find? (fun j => decide (Ts[j]? = some T)) with
          | none => exact absurd (decide_eq_true hT) (by simpa using List.find?_eq_none.mp hq j (List.mem_range.mpr hjl))
          | some j' =>
            have h1 : Ts[j']? = some T := by simpa using List.find?_some hq
            exact congrArg some (nodup_ixA nd h1 hT)
        show (if T = h'.objs.size then _ else _) = _
        rw [if_neg hne, hf]
        simp only [hx, hy]
      have lo : ∀ b, b < s1.heap.objs.size → zH H1 h'.objs.size Ts xs ys b = H1 b := fun b hb => by
        have hne : b ≠ h'.objs.size := Nat.ne_of_lt (Nat.lt_of_lt_of_le hb hle)
        have hf : (List.range Ts.length).find? (fun j => decide (Ts[j]? = some b)) = none := by
          rw [List.find?_eq_none]
          intro j _ hj
          have hj' := of_decide_eq_true hj
          exact absurd (Nat.lt_of_lt_of_le hb (Nat.le_trans hle (Nat.le_of_succ_le (hTge j b hj')))) (Nat.lt_irrefl _)
        show (if b = h'.objs.size then _ else _) = _
        rw [if_neg hne, hf]
      refine ⟨V.ref h'.objs.size, zH H1 h'.objs.size Ts xs ys, I1.laidAll (t' := s1.toks) klt lo fun b o hb ho => ?_, rfl, q _ Ts _ (I1.hok.fresh hle) (by rw [hTl]) (fun b o e => by rw [lo b (I1.hok.lt e)]; exact e) e1 e2⟩
      by_cases hbs : b = h'.objs.size
      · subst hbs
        rw [e1] at ho
        cases ho
        exact ⟨by rw [List.length_map, hTl]; omega, _, c', vals_refs Ts, by simpa using hS⟩
      · have ho' : (match (List.range Ts.length).find? (fun j => decide (Ts[j]? = some b)) with
          | some j => (match xs[j]?, ys[j]? with | some x, some y => some (HO.tup [x, y]) | _, _ => none)
          | none => H1 b) = some o := by
          unfold zH at ho
          rwa [if_neg hbs] at ho
        cases hq : (List.range Ts.length).find? (fun j => decide (Ts[j]? = some b)) with
        | none =>
          rw [hq] at ho'
          rw [I1.hok.fresh hb] at ho'
          cases ho'
        | some j =>
          rw [hq] at ho'
          have hT : Ts[j]? = some b := by simpa using List.find?_some hq
          obtain ⟨_, u, u', hu, hu', hp⟩ := hat j b hT
          have hjm : j < min xs.length ys.length := by rw [← hTl]; exact (List.getElem?_eq_some_iff.mp hT).1
          have hjx : j < xs.length := by omega
          obtain ⟨u1, g1, g2⟩ := rv.get (i := j) (List.getElem?_eq_getElem hjx)
          obtain ⟨u2, g3, g4⟩ := rv2.get (i := j) (List.getElem?_eq_getElem (show j < ys.length by omega))
          simp only [List.getElem?_eq_getElem hjx, List.getElem?_eq_getElem (show j < ys.length by omega)] at ho'
          cases ho'
          rw [List.getElem?_toArray, g1] at hu
          rw [List.getElem?_toArray, g3] at hu'
          cases hu
          cases hu'
          exact ⟨by show 2 ≤ sizeLine; decide, _, .cons g2 (.cons g4 .nil), ⟨_, hp, rfl, _, rfl⟩⟩
end
end L2
set_option Elab.async false
set_option maxRecDepth 100000
set_option linter.all false
namespace L2
open PySem PySem.Spec PyProof.Rows PySem.W
section
variable {prog : Program} {w : World} {A : Around} {E : Value → Shared → Prop} {s : Shared}
/-- a dict by its entries alone -/
def RawD (h : Heap) (d : Addr) (es : Array DictEntry) (ep : Nat) : Prop := ∃ o, h.get? d = some o ∧ o.ExactDict ∧ o.data = .dict es ep
theorem RawD.at {h h' : Heap} {d : Addr} {es : Array DictEntry} {ep : Nat} (x : RawD h d es ep) (k : ∀ o, h.get? d = some o → h'.get? d = some o) : RawD h' d es ep := let ⟨o, e, r⟩ := x; ⟨o, k o e, r⟩
theorem walks_raw (hh : A.handled = none) (I d : Addr) (hne : d ≠ I) (es : Array DictEntry) (ep : Nat) :
    Walks prog w A I [I, d] [I] es.size (fun i v => ∃ e, es[i]? = some e ∧ v = e.key) (fun i h => h.IsKeyIter I d i es.size ep ∧ RawD h d es ep) where
  sub := fun b hb => by simp at hb; simp [hb]
  frame := fun _ _ _ st hk => ⟨st.1.at fun o e => hk I (by simp) o e, st.2.at fun o e => hk d (by simp) o e⟩
  item := fun i s Q E hi st hQ => by
    obtain ⟨hit, o, ho, hc, hd⟩ := st
    refine next_key_item hit ho hd rfl (en := es[i]) (by simp [hi]) fun h' hit' sb => ?_
    exact hQ _ h' s.toks ⟨_, by simp [hi], rfl⟩ ⟨hit', o, (sb.2 d hne).trans ho, hc, hd⟩ fun b ob hb e => sb.extBut b ob (fun h => hb (by simp [h])) e
  done := fun s Q E st hQ => by
    obtain ⟨hit, o, ho, hc, hd⟩ := st
    exact next_key_end hh hit ho hd rfl (Nat.le_refl _) fun h' he' => hQ h' s.toks fun b ob hb e => he' b ob (fun h => hb (by simp [h])) e
  self := fun _ _ _ _ st hQ => wpAny_pyIter_keyiter st.1 hQ
theorem src_raw {d : Addr} {es : Array DictEntry} {ep : Nat} (lo : (d == sysModules) = false) : KdlSrc prog w "dict" d d es.size (fun i v => ∃ e, es[i]? = some e ∧ v = e.key) (fun h => RawD h d es ep) where
  type := fun _ ⟨o, e, hx, _⟩ => ⟨o, e, hx.1⟩
  there := fun _ ⟨o, e, _⟩ => ⟨Heap.lt_size e, Heap.lt_size e⟩
  keep := fun _ _ hm hk => hm.at fun o e => hk d (.inl rfl) o e
  notList := by decide
  notTuple := by decide
  hint := fun _ _ _ _ ⟨o, e, hx, _⟩ hq => kdl_hint_dict ⟨o, e, hx.1⟩ hq
  iter := fun _ s hh ⟨o, e, hx, hd⟩ => ⟨_, _, (fun _ _ hq => iter_keys lo e hx hd hq), walks_raw hh _ d (Nat.ne_of_lt (Heap.lt_size e)) es ep, ⟨⟨_, Heap.get?_push_size _ rfl, rfl, rfl⟩, o, Heap.get?_push_of_some _ e, hx, hd⟩⟩
theorem collect_src {T : String} {r d : Addr} {n : Nat} {P : Nat → Value → Prop} {OK : Heap → Prop} {Q : List Value → Shared → Prop} (K : KdlSrc prog w T r d n P OK) (hh : A.handled = none) (hok : OK s.heap) (hn : n ≤ sizeLine)
    (h : ∀ vs h' tk, vs.length = n → (∀ j v, vs[j]? = some v → P j v) → (∀ b o, s.heap.get? b = some o → h'.get? b = some o) → s.heap.objs.size ≤ h'.objs.size → Q vs { s with heap := h', toks := tk }) :
    wpAny (model prog w) A (collect (.ref r)) Q E s := by
  unfold collect
  refine wpAny_bind (wpAny_runValue (codeAny_builtin entry_proto_collect' ?_))
  show wpAny _ _ (do again (.builtin "list.__iadd__" ⟨[← newList [], .ref r], []⟩)) _ _ s
  refine wpAny_bind (wpAny_newList (wpAny_pure ⟨Code.quiet_builtin _ (by decide +kernel), codeAny_builtin entry_list_iadd' ?_⟩))
  rw [Around.under_plainId PySem.F.plain_list_iadd _]
  show wpAny _ _ (Builtin.List.listExtendWith (.ref s.heap.objs.size) (.ref r) (.ref s.heap.objs.size)) _ _ { s with heap := s.heap.push (seqObj "list" #[] 0) }
  have up : ∀ b o, s.heap.get? b = some o → (s.heap.push (seqObj "list" #[] 0)).get? b = some o := fun b o e => Heap.get?_push_of_some _ e
  have hlt := K.there _ hok
  refine kdl_extend (R := fun r s' => match r with
      | .ok (.ret v) => wpAny (model prog w) A (match v with
          | .ref a => do
            let o ← load a
            match o.data with
            | .seq xs _ => pure xs.toList
            | _ => unsupported "internal:collect"
          | _ => unsupported "internal:collect") Q E s'
      | .ok _ => False
      | .error e => E e s') (s := { s with heap := s.heap.push (seqObj "list" #[] 0) }) K hh (K.keep _ _ hok fun b _ o e => up b o e) s.heap.objs.size (Nat.ne_of_gt hlt.1) (Nat.ne_of_gt hlt.2) _ 0 (Heap.get?_push_size _ rfl) (fun h' tk acc' c' hk hS hI => ?_) hn
  show wpAny (model prog w) A (do
      let o ← load s.heap.objs.size
      match o.data with
      | .seq xs _ => pure xs.toList
      | _ => unsupported "internal:collect") Q E _
  refine wpAny_bind (wpAny_load hS ?_)
  refine wpAny_pure (h acc'.toList h' tk (by rw [Array.length_toList]; exact hI.1) (fun j v e => hI.2 j v (by rw [← Array.getElem?_toList]; exact e)) (fun b o e => hk b o (Nat.ne_of_lt (Heap.lt_size e)) (up b o e)) ?_)
  exact Nat.le_of_lt (Heap.lt_size hS)
/-- sorted(r), what r gives being tuples by shape -/
theorem sorted_tupsC {shape : Nat → Bool} {r : Addr} {G : List Value → Heap → Prop} {Q : Value → Shared → Prop} (hh : A.handled = none)
    (hcol : ∀ (A : Around) (E : Value → Shared → Prop) (Q : List Value → Shared → Prop), A.handled = none → (∀ vs h' tk, G vs h' → (2 ≤ vs.length → ∃ fs, PyProof.Rows.TupsOf h' shape vs fs) → (∀ v ∈ vs, ∃ l, PyProof.Rows.G.tupKeyC h' shape v = some l) → vs.length ≤ sizeLine → (∀ b o, s.heap.get? b = some o → h'.get? b = some o) → s.heap.objs.size ≤ h'.objs.size → Q vs { s with heap := h', toks := tk }) → wpAny (model prog w) A (collect (.ref r)) Q E s)
    (h : ∀ (vs : List Value) (h1 h' : Heap) (tk : Nat) (st' : SortSt) (a : Addr) (ep : Nat), G vs h1 → (∀ v ∈ vs, ∃ l, PyProof.Rows.G.tupKeyC h1 shape v = some l) → vs.length ≤ sizeLine → (arrOf st').Perm (pairsOf vs) → SortedToK (PyProof.Rows.G.tupKindC h1 shape) (arrOf st') (pairsOf vs).size → s.heap.objs.size ≤ a → h'.get? a = some (seqObj "list" ((arrOf st').map (·.2)) ep) → (∀ b o, s.heap.get? b = some o → h'.get? b = some o) → Q (.ref a) { s with heap := h', toks := tk }) :
    wpAny (model prog w) A (call (.builtin "sorted") [.ref r]) Q E s := by
  refine Calls.call_function_entry kind_sorted plain_sorted entry_sorted (args_sorted1 _) ?_
  unfold Builtin.«sorted»
  refine wpAny_bind (m := checkCount "sorted" 1 1 _) (wpAny_pure ?_)
  refine wpAny_bind (hcol _ _ _ (by simpa using hh) fun vs h1 tk g ht hk hL keep hsz => ?_)
  refine wpAny_bind (wpAny_newList ?_ hL)
  have hoL : (h1.push (seqObj "list" vs.toArray 0)).get? h1.objs.size = some (seqObj "list" vs.toArray 0) := Heap.get?_push_size _ rfl
  have k0 : PyProof.Rows.G.KeepsTups h1 (h1.push (seqObj "list" vs.toArray 0)) := PyProof.Rows.G.KeepsTups.push _ _
  have k6 := k0.trans (PyProof.Rows.G.keeps_sort6 (vs := vs) hoL)
  refine wpAny_bind (wpAny_holding (wpAny_call_entry slot_list_sort ⟨_, hoL, rfl⟩ entry_list_sort (PyProof.Rows.G.list_sort_treeG (κ := PyProof.Rows.G.tupKindC h1 shape) (kd := tuples' true) hoL (PyProof.Rows.G.tupKeys hk) (PyProof.Rows.G.tupC_ltAt true k6) (fun h2 _ hq => ?_) hL fun st' a1 a2 _ => ⟨_, rfl, ?_⟩) (args_list_sort _)))
  · obtain ⟨fs, hf⟩ := ht h2
    exact PyProof.Rows.tup_kind (by rw [PyProof.Rows.G.TupsOf.length hf]; omega) (PyProof.Rows.G.TupsOf.keep k6 hf) hq
  · obtain ⟨ep, he⟩ := sortedHeap_at (vs := vs) (out := (arrOf st').map (·.2)) hoL
    refine wpAny_pure ⟨_, rfl, h vs h1 _ tk st' _ ep g hk hL a1 a2 hsz he fun b o e => ?_⟩
    have hb1 : b < h1.objs.size := Heap.lt_size (keep b o e)
    rw [sortedHeap_old (Nat.ne_of_lt hb1) (by rw [Heap.size_push]; exact Nat.lt_succ_of_lt hb1)]
    exact Heap.get?_push_of_some _ (keep b o e)
end
end L2
set_option Elab.async false
set_option maxRecDepth 100000
set_option linter.all false
namespace L2
open PySem PySem.Spec PyProof.Rows PySem.W
/-- tuples of whole numbers, the less or alike -/
def lexLe (a b : List Int) : Prop := HT.lexLt b a = false
abbrev noS : Nat → Bool := fun _ => false
theorem lex_ints : ∀ a b : List Int, PyProof.Rows.lexLt itemOrd (a.map Sum.inl) (b.map Sum.inl) = HT.lexLt a b
  | [], [] => rfl
  | [], _ :: _ => rfl
  | _ :: _, [] => rfl
  | x :: r, y :: t => by
    rw [List.map_cons, List.map_cons]
    refine (PyProof.Rows.lex_cons (O := itemOrd) (Sum.inl x) (Sum.inl y) _ _).trans ?_
    rw [lex_ints r t]
    show (decide (x < y) || (!decide (y < x) && HT.lexLt r t)) = if x = y then HT.lexLt r t else decide (x < y)
    by_cases h : x = y
    · subst h
      simp
    · rw [if_neg h]
      by_cases h2 : x < y
      · simp [h2]
      · have : y < x := by omega
        simp [h2, this]
theorem items_ints {its : List Value} {ks : List Int} : ∀ {i : Nat}, Vals (ks.map V.int) its → PyProof.Rows.tupItems noS i its = some (ks.map Sum.inl) := by
  intro i r
  induction ks generalizing its i with
  | nil => cases r; rfl
  | cons k r' ih =>
    cases r with
    | cons h t =>
      obtain ⟨tk, rfl⟩ := h
      show (if noS i = true then none else (PyProof.Rows.tupItems noS (i + 1) _).map (Sum.inl k :: ·)) = _
      rw [if_neg (show ¬ noS i = true from Bool.false_ne_true), ih t]
      rfl
/-- the key of a tuple in the heap -/
def keyAt (h : Heap) (v : Value) : List Int := ((PyProof.Rows.G.tupKeyC h noS v).getD []).map fun z => match z with | .inl i => i | .inr _ => 0
theorem key_tup {h : Heap} {q : Addr} {o : Obj} {its : Array Value} {n : Nat} {ks : List Int} (ho : h.get? q = some o) (hc : o.cls = .type "tuple") (hd : o.data = .seq its n) (r : Vals (ks.map V.int) its.toList) :
    PyProof.Rows.G.tupKeyC h noS (.ref q) = some (ks.map Sum.inl) ∧ keyAt h (.ref q) = ks := by
  have e : PyProof.Rows.G.tupKeyC h noS (.ref q) = some (ks.map Sum.inl) := by
    unfold PyProof.Rows.G.tupKeyC
    have h1 : PyProof.Rows.G.isTupObj h (.ref q) = true := by simp [PyProof.Rows.G.isTupObj, ho, hc]
    rw [if_pos h1]
    show (match h.get? q with | some o => (match o.data with | .seq xs _ => PyProof.Rows.tupItems noS 0 xs.toList | _ => none) | none => none) = _
    rw [ho]
    simp only [hd]
    exact items_ints r
  refine ⟨e, ?_⟩
  unfold keyAt
  rw [e, Option.getD_some, List.map_map]
  exact (List.map_congr_left fun _ _ => rfl).trans (List.map_id _)
theorem tups_of {h : Heap} : ∀ {vs : List Value} {kss : List (List Int)}, Paired (fun v ks => ∃ q o its n, v = Value.ref q ∧ h.get? q = some o ∧ o.cls = .type "tuple" ∧ o.data = .seq its n ∧ Vals (ks.map V.int) its.toList) vs kss → (∀ ks ∈ kss, ks ≠ []) → ∃ fs, PyProof.Rows.TupsOf h noS vs fs
  | _, _, .nil, _ => ⟨[], .nil⟩
  | _, ks :: _, .cons ⟨q, o, its, n, e, ho, hc, hd, r⟩ t, hne => by
    obtain ⟨fs, hf⟩ := tups_of t fun k hk => hne k (by simp [hk])
    cases ks with
    | nil => exact absurd rfl (hne [] (by simp))
    | cons k r' =>
      obtain ⟨l⟩ := its
      cases r with
      | cons h1 _ =>
        obtain ⟨tk, rfl⟩ := h1
        exact ⟨_, .cons ⟨q, o, _, n, e, ho, hc, hd, rfl, fun _ => ⟨k, tk, rfl⟩, fun z => absurd z (by decide)⟩ hf⟩
theorem zip_snd {α : Type} : ∀ vs : List α, (vs.zip vs).map (·.2) = vs
  | [] => rfl
  | v :: r => by simp only [List.zip_cons_cons, List.map_cons, zip_snd r]
/-- what comes out of the sort: the same things, their keys rising -/
theorem sort_out {h : Heap} {vs : List Value} {st' : SortSt} (hk : ∀ v ∈ vs, PyProof.Rows.G.tupKeyC h noS v = some ((keyAt h v).map Sum.inl)) (hp : (arrOf st').Perm (pairsOf vs)) (hs : SortedToK (PyProof.Rows.G.tupKindC h noS) (arrOf st') (pairsOf vs).size) :
    (((arrOf st').map (·.2)).toList).Perm vs ∧ ((((arrOf st').map (·.2)).toList).map (keyAt h)).Pairwise lexLe := by
  have hp' : (arrOf st').toList.Perm (vs.zip vs) := by rw [← pairsOf_toList]; exact Array.perm_iff_toList_perm.mp hp
  have mem : ∀ p ∈ (arrOf st').toList, p.1 = p.2 ∧ p.1 ∈ vs := fun p hpm => mem_zip_self (hp'.mem_iff.mp hpm)
  refine ⟨?_, ?_⟩
  · rw [Array.toList_map]
    have := hp'.map (·.2)
    rwa [zip_snd] at this
  · rw [Array.toList_map, List.map_map, List.pairwise_iff_getElem]
    intro i j hi hj hij
    rw [List.length_map] at hi hj
    rw [List.getElem_map, List.getElem_map]
    have hz : (arrOf st').size = (pairsOf vs).size := hp.size_eq
    have kk : ∀ k (hk' : k < (arrOf st').toList.length), KK (PyProof.Rows.G.tupKindC h noS) (arrOf st') k = (keyAt h (arrOf st').toList[k].2).map Sum.inl := fun k hk' => by
      obtain ⟨e, hm⟩ := mem _ (List.getElem_mem hk')
      unfold KK
      have g : (arrOf st')[k]? = some (arrOf st').toList[k] := by rw [← Array.getElem?_toList]; exact List.getElem?_eq_getElem hk'
      rw [g]
      show (PyProof.Rows.G.tupKeyC h noS (arrOf st').toList[k].1).getD [] = _
      rw [hk _ hm, ← e]
      rfl
    have q := hs i j (Nat.le_of_lt hij) (by rw [← hz, ← Array.length_toList]; exact hj)
    rw [kk i hi, kk j hj] at q
    have q' : PyProof.Rows.lexLt itemOrd ((keyAt h (arrOf st').toList[j].2).map Sum.inl) ((keyAt h (arrOf st').toList[i].2).map Sum.inl) = false := q
    rw [lex_ints] at q'
    exact q'
/-- tuples of whole numbers stand at qs -/
abbrev AreI (K : PySem.W.Frag) (H : Hp) (qs : List Addr) (kss : List (List Int)) : Prop := Paired (fun q ks => SqT K H q (ks.map V.int)) qs kss
section
variable {X : Cx}
theorem areI_vals {pins : List (Addr × Obj)} {σ : St} {H : Hp} {s : Shared} (I : Inv X pins σ H s) : ∀ {qs : List Addr} {kss : List (List Int)}, AreI X.K H qs kss →
    Paired (fun v ks => ∃ q o its n, v = Value.ref q ∧ s.heap.get? q = some o ∧ o.cls = .type "tuple" ∧ o.data = .seq its n ∧ Vals (ks.map V.int) its.toList) (qs.map Value.ref) kss
  | _, _, .nil => .nil
  | _, _, .cons h t => by
    obtain ⟨its, r, ⟨o, ho, hc, n, hd⟩, _⟩ := I.tuple h
    exact .cons ⟨_, o, its.toArray, n, rfl, ho, hc, hd, by simpa using r⟩ (areI_vals I t)
/-- sorted of tuples of whole numbers; R: how the places stand -/
def rSortedR (R : Addr → List Int → Prop) (H : Hp) (kss : List (List Int)) (Q : VK) : Prop :=
  ∀ (p : Addr) (qs' : List Addr) (kss' : List (List Int)), kss'.Perm kss → kss'.Pairwise lexLe → Paired R qs' kss' → H p = none → Q (.ref p) (upd H p (.lst (qs'.map V.ref)))
theorem paired_imp {α β : Type} {R S : α → β → Prop} (h : ∀ a b, R a b → S a b) : ∀ {xs : List α} {ys : List β}, Paired R xs ys → Paired S xs ys
  | _, _, .nil => .nil
  | _, _, .cons a t => .cons (h _ _ a) (paired_imp h t)
theorem paired_len {α β : Type} {R : α → β → Prop} : ∀ {xs : List α} {ys : List β}, Paired R xs ys → xs.length = ys.length
  | _, _, .nil => rfl
  | _, _, .cons _ t => by simp [paired_len t]
theorem sorted_core {pins : List (Addr × Obj)} {σ : St} {H : Hp} {s : Shared} {Q : VK} {r : Addr} {qs : List Addr} {kss : List (List Int)} {R : Addr → List Int → Prop} (hR : ∀ q ks, R q ks → SqT X.K H q (ks.map V.int)) (hc : X.calm = true) (I : Inv X pins σ H s) (ha : Paired R qs kss) (hne : kss.length ≤ 1 ∨ ∀ ks ∈ kss, ks ≠ []) (hz : kss.length ≤ sizeLine) (q : rSortedR R H kss Q)
    (hcol : ∀ (A : Around) (E : Value → Shared → Prop) (Q : List Value → Shared → Prop), A.handled = none → (∀ h' tk, (∀ b o, s.heap.get? b = some o → h'.get? b = some o) → s.heap.objs.size ≤ h'.objs.size → Q (qs.map Value.ref) { s with heap := h', toks := tk }) → wpAny (model X.prog X.w) A (collect (.ref r)) Q E s) :
    wpAny (model X.prog X.w) X.A (call (.builtin "sorted") [.ref r]) (EP X pins σ Q) X.xe s := by
  have av := areI_vals I (paired_imp hR ha)
  have lq : qs.length = kss.length := paired_len ha
  have stay : ∀ {h' : Heap}, (∀ b o, s.heap.get? b = some o → h'.get? b = some o) → ∀ {vs : List Value} {kss : List (List Int)}, Paired (fun v ks => ∃ q o its n, v = Value.ref q ∧ s.heap.get? q = some o ∧ o.cls = .type "tuple" ∧ o.data = .seq its n ∧ Vals (ks.map V.int) its.toList) vs kss → Paired (fun v ks => ∃ q o its n, v = Value.ref q ∧ h'.get? q = some o ∧ o.cls = .type "tuple" ∧ o.data = .seq its n ∧ Vals (ks.map V.int) its.toList) vs kss := by
    intro h' k vs kss p
    induction p with
    | nil => exact .nil
    | cons h _ ih =>
      obtain ⟨q, o, its, n, e, ho, r⟩ := h
      exact .cons ⟨q, o, its, n, e, k _ _ ho, r⟩ ih
  have keyed : ∀ {h' : Heap} {vs : List Value} {kss : List (List Int)}, Paired (fun v ks => ∃ q o its n, v = Value.ref q ∧ h'.get? q = some o ∧ o.cls = .type "tuple" ∧ o.data = .seq its n ∧ Vals (ks.map V.int) its.toList) vs kss → (∀ v ∈ vs, PyProof.Rows.G.tupKeyC h' noS v = some ((keyAt h' v).map Sum.inl)) ∧ vs.map (keyAt h') = kss := by
    intro h' vs kss p
    induction p with
    | nil => exact ⟨by simp, rfl⟩
    | cons h _ ih =>
      obtain ⟨q, o, its, n, e, ho, hcl, hd, r⟩ := h
      subst e
      obtain ⟨k1, k2⟩ := key_tup ho hcl hd r
      refine ⟨fun v hv => ?_, by rw [List.map_cons, k2, ih.2]⟩
      rcases List.mem_cons.mp hv with rfl | hv
      · rw [k1, k2]
      · exact ih.1 v hv
  refine sorted_tupsC (shape := noS) (G := fun vs h' => vs = qs.map Value.ref ∧ (∀ b o, s.heap.get? b = some o → h'.get? b = some o)) (I.ok.hd hc) (fun A E Q' hA hQ => hcol A E Q' hA fun h' tk k hsz => ?_) fun vs h1 h' tk st' a ep g hk hL hp hs hsz he k => ?_
  · refine hQ _ h' tk ⟨rfl, k⟩ (fun h2 => ?_) (fun v hv => ⟨_, (keyed (stay k av)).1 v hv⟩) (by rw [List.length_map]; omega) k hsz
    rw [List.length_map] at h2
    exact tups_of (stay k av) (hne.resolve_left (by omega))
  · obtain ⟨rfl, k1⟩ := g
    obtain ⟨key1, key2⟩ := keyed (stay k1 av)
    obtain ⟨s1, s2⟩ := sort_out key1 hp hs
    -- the places that come out
    have places : ∀ {out : List Value}, (∀ v ∈ out, v ∈ qs.map Value.ref) → ∃ qs' : List Addr, out = qs'.map Value.ref ∧ Paired R qs' (out.map (keyAt h1)) := by
      intro out hm
      induction out with
      | nil => exact ⟨[], rfl, .nil⟩
      | cons v r ih =>
        obtain ⟨qs', e, ar⟩ := ih fun w hw => hm w (by simp [hw])
        obtain ⟨q0, hq0, rfl⟩ := List.mem_map.mp (hm v (by simp))
        refine ⟨q0 :: qs', by rw [e]; rfl, ?_⟩
        obtain ⟨j, hj⟩ := List.getElem?_of_mem hq0
        obtain ⟨ks, hks, hsq⟩ := paired_get ha hj
        have : keyAt h1 (.ref q0) = ks := by
          have e2 : ((qs.map Value.ref).map (keyAt h1))[j]? = some (keyAt h1 (.ref q0)) := by simp [List.getElem?_map, hj]
          rw [key2, hks] at e2
          exact (Option.some.inj e2).symm
        rw [List.map_cons, this]
        exact .cons hsq ar
    obtain ⟨qs', eo, ar⟩ := places (out := ((arrOf st').map (·.2)).toList) fun v hv => s1.mem_iff.mp hv
    have pk : ((((arrOf st').map (·.2)).toList).map (keyAt h1)).Perm kss := by
      have := s1.map (keyAt h1)
      rwa [key2] at this
    have lo : qs'.length = kss.length := by
      have := s1.length_eq
      rw [eo, List.length_map, List.length_map] at this
      omega
    refine ⟨.ref a, upd H a (.lst (qs'.map V.ref)), I.laid (t' := tk) k hsz ⟨by rw [List.length_map]; omega, qs'.map Value.ref, ep, vals_refs qs', ?_⟩, rfl, q a qs' _ pk s2 ar (I.hok.fresh hsz)⟩
    rw [he]
    have e3 : (arrOf st').map (·.2) = (qs'.map Value.ref).toArray := by rw [← eo]
    rw [e3]
/-- sorted of a dict whose keys are tuples of whole numbers -/
theorem cr_sortedTD (hc : X.calm = true) : CallR X (.builtin "sorted") (fun vs H Q => ∃ (d : Addr) (kvs : List (List Key × V)) (kss : List (List Int)), vs = [.ref d] ∧ Rd H d (.dT kvs) ∧ kvs.map (·.1) = kss.map (·.map Sum.inl) ∧ (kss.length ≤ 1 ∨ ∀ ks ∈ kss, ks ≠ []) ∧ rSortedR (fun q ks => H q = some (.tup (ks.map V.int))) H kss Q) := by
  intro pins s σ H vs us Q I r h
  obtain ⟨d, kvs, kss, rfl, hd, hk, hne, q⟩ := h
  rw [Vals.ref1 r]
  obtain ⟨hz, hs, xs, rel, o, es, ep, ho, hx, hdt, hes, hkk, hnd⟩ := dt_rd I.hok hd
  have lk : kvs.length = kss.length := by
    have := congrArg List.length hk
    simpa using this
  have lx : kvs.length = xs.length := Paired.length rel
  have le : es.size = xs.length := by
    have := congrArg List.length hes
    simpa using this
  have ar : Paired (fun q ks => H q = some (.tup (ks.map V.int))) (xs.map (·.2.1)) kss := by
    clear hne q hz hes le lk lx hd hkk hnd
    induction rel generalizing kss with
    | nil =>
      cases kss with
      | nil => exact .nil
      | cons _ _ => simp at hk
    | @cons p x ps xs' hpx _ ih =>
      cases kss with
      | nil => simp at hk
      | cons ks r' =>
        rw [List.map_cons, List.map_cons, List.cons.injEq] at hk
        refine .cons ?_ (ih r' hk.2)
        have := hpx.2.1
        rw [hk.1, List.map_map] at this
        exact this
  refine sorted_core (R := fun q ks => H q = some (.tup (ks.map V.int))) (fun _ _ h => SqT.of h) hc I ar hne (by omega) q fun A E Q' hA hQ => collect_src (src_raw (es := es) (ep := ep) hs) hA ⟨o, ho, hx, hdt⟩ (by omega) fun vs h' tk hl hP k hsz => ?_
  have ev : vs = (xs.map (·.2.1)).map Value.ref := by
    refine List.ext_getElem? fun j => ?_
    by_cases hj : j < vs.length
    · obtain ⟨e, he, hv⟩ := hP j _ (List.getElem?_eq_getElem hj)
      have h1 : es.toList[j]? = some e := by rw [Array.getElem?_toList]; exact he
      rw [hes, List.getElem?_map] at h1
      obtain ⟨x, hxj, rfl⟩ := Option.map_eq_some_iff.mp h1
      rw [List.getElem?_eq_getElem hj, hv, List.getElem?_map, List.getElem?_map, hxj]
      rfl
    · rw [List.getElem?_eq_none (by omega), List.getElem?_eq_none (by simp only [List.length_map]; omega)]
  rw [ev]
  exact hQ h' tk k hsz
end
end L2
set_option Elab.async false
set_option maxRecDepth 100000
set_option linter.all false
namespace PySem
open Sem (wp)
open PyProof.Rows
/-- a dict by its entries -/
def RawKV (h : Heap) (d : Addr) (kvs : List (Value × Value)) (ep : Nat) : Prop := ∃ o es, h.get? d = some o ∧ o.ExactDict ∧ o.data = .dict es ep ∧ es.toList.map (fun e => (e.key, e.val)) = kvs
theorem RawKV.at' {h h' : Heap} {d : Addr} {kvs : List (Value × Value)} {ep : Nat} (x : RawKV h d kvs ep) (k : ∀ o, h.get? d = some o → h'.get? d = some o) : RawKV h' d kvs ep := let ⟨o, es, e, r⟩ := x; ⟨o, es, k o e, r⟩
theorem RawKV.push {h : Heap} {d : Addr} {kvs : List (Value × Value)} {ep : Nat} (x : RawKV h d kvs ep) (ob : Obj) : RawKV (h.push ob) d kvs ep := x.at' fun o e => Heap.get?_push_of_some _ e
theorem RawKV.lt_size {h : Heap} {d : Addr} {kvs : List (Value × Value)} {ep : Nat} (x : RawKV h d kvs ep) : d < h.objs.size := let ⟨_, _, e, _⟩ := x; Heap.lt_size e
theorem RawKV.typeIs {s : Shared} {d : Addr} {kvs : List (Value × Value)} {ep : Nat} (x : RawKV s.heap d kvs ep) : s.TypeIs (.ref d) "dict" := let ⟨o, _, e, hx, _⟩ := x; ⟨o, e, hx.1⟩
theorem raw_get {es : Array DictEntry} {kvs : List (Value × Value)} {i : Nat} {k v : Value} (h : es.toList.map (fun e => (e.key, e.val)) = kvs) (hi : i < es.size) (hx : kvs[i]? = some (k, v)) : k = es[i].key ∧ es[i].val = v := by
  rw [← h, List.getElem?_map, Array.getElem?_toList, Array.getElem?_eq_getElem hi] at hx
  have := Option.some.inj hx
  exact ⟨(congrArg Prod.fst this).symm, congrArg Prod.snd this⟩
end PySem
namespace PySem.W
open PySem PySem.Calls PyProof.Rows PyProof.V PySem.Spec
section
variable {prog : Program} {w : World} {A : Around} {E : Value → Shared → Prop} {s : Shared}
theorem meets_dict_itemsR (d : Addr) (hd : (d == sysModules) = false) :
    MeetsIn prog w (Builtin.«dict.items» ⟨[.ref d], []⟩) (fun _ R s => (∃ kvs ep, RawKV s.heap d kvs ep) ∧
      R (.ok (.ret (.ref s.heap.objs.size))) { s with heap := s.heap.push { cls := .type "dict_items", data := .fields #[.ref d] } }) :=
  .of_wp fun A R s ⟨⟨kvs, ep, hm⟩, h⟩ => by
    unfold Builtin.«dict.items»
    refine wpAny_bind ?_
    unfold Builtin.Dict.noArgs
    refine wpAny_bind (wpAny_notOrdered_dict hm.typeIs ?_)
    show wpAny _ _ (pure d) _ _ s
    refine wpAny_pure ?_
    show wpAny _ _ (Builtin.Dict.showsAll d >>= _) _ _ s
    unfold Builtin.Dict.showsAll
    rw [if_neg (by rw [hd]; exact Bool.false_ne_true)]
    refine wpAny_bind (wpAny_pure ?_)
    exact wpAny_bind (wpAny_newObj_type (wpAny_pure ⟨_, rfl, h⟩))
theorem wpAny_pyIter_itemsR {v d : Addr} {kvs : List (Value × Value)} {ep : Nat} {Q : Value → Shared → Prop} (hv : s.heap.IsItemsView v d) (hm : RawKV s.heap d kvs ep)
    (hQ : Q (.ref s.heap.objs.size) { s with heap := s.heap.push { cls := .type "dict_itemiterator", data := .fields #[.none, .bool false, .ref d, .int 0 0, .int kvs.length 0, .int ep 0, .none, .none] } }) :
    wpAny (model prog w) A (pyIter (.ref v)) Q E s := by
  obtain ⟨ov, hov, hcv, hdv⟩ := id hv
  obtain ⟨o, es, ho, hc, hdat, hp⟩ := id hm
  refine wpAny_pyIter_slot hv.typeIs PySem.F.slot_dict_items_iter (wpAny_call_entry PySem.F.slot_dict_items_iter hv.typeIs PySem.F.entry_dict_items_iter ?_ (PySem.F.args_dict_items_iter_1 _))
  unfold Builtin.«dict_items.__iter__»
  refine wpAny_bind (wpAny_pure ?_)
  refine wpAny_bind ?_
  unfold Builtin.Dict_items.dictOf
  refine wpAny_bind (wpAny_field hov hdv (x := .ref d) rfl (wpAny_pure ?_))
  refine wpAny_bind ?_
  unfold Builtin.Dict_items.newIterator
  refine wpAny_bind (wpAny_dictEntries ho hdat ?_)
  refine wpAny_bind (wpAny_dictEpoch ho hdat ?_)
  have hsz : es.size = kvs.length := by rw [← hp]; simp
  have hown : Builtin.Dict_items.ownsTuple "dict_itemiterator" = true := by decide
  simp only [hown, if_true]
  refine wpAny_newObj_type (wpAny_pure ⟨_, rfl, "dict_itemiterator", _, ⟨_, Heap.get?_push_size _ rfl, rfl⟩, PySem.F.slot_dict_itemiterator_next.lookup, ?_⟩)
    (by simp only [sizeOk, Builtin.Dict_items.ownedTupleFields, List.size_toArray, List.length_append, List.length_cons, List.length_nil, sizeLine_eq]; omega)
  simpa [rawInt, hsz, Builtin.Dict_items.ownedTupleFields] using hQ
theorem wpAny_pyNext_items_itemR {it d : Addr} {i ep : Nat} {kvs : List (Value × Value)} {k : Value} {v ok ov : Value} {Q : Option Value → Shared → Prop} (hit : IsItemIter s.heap it d i kvs.length ep ok ov)
    (hm : RawKV s.heap d kvs ep) (hx : kvs[i]? = some (k, v))
    (hQ : ∀ key h', k = key → IsItemIterOut h' it d (i + 1) kvs.length ep key v s.heap.objs.size →
      h'.get? s.heap.objs.size = some { cls := .type "tuple", data := .seq #[key, v] } → h'.objs.size = s.heap.objs.size + 1 →
      (∀ b o, b ≠ it → s.heap.get? b = some o → h'.get? b = some o) → Q (some (.ref s.heap.objs.size)) { s with heap := h' }) :
    wpAny (model prog w) A (pyNext (.ref it)) Q E s := by
  obtain ⟨hp, g, dr, tk, os⟩ := s
  obtain ⟨od, es, hod, hcd, hdd, hpr⟩ := id hm
  have hT : Shared.TypeIs ⟨hp, g, dr, tk, os⟩ (.ref it) "dict_itemiterator" := ⟨_, hit, rfl⟩
  unfold pyNext
  refine wpAny_bind (wpAny_attempt (wpAny_callSpecial?_slot (name := Str.ofString "__next__") hT PySem.F.slot_dict_itemiterator_next
    (wpAny_call_entry PySem.F.slot_dict_itemiterator_next hT PySem.F.entry_dict_itemiterator_next ?_ (PySem.F.args_dict_itemiterator_next_1 _))))
  refine wpAny_bind (wpAny_pure ?_)
  refine wpAny_bind ?_
  refine wpAny_bind ?_
  first | refine wpAny_bind (wpAny_typeNameOfWhole_itemiter hT (wpAny_pure ?_)) | refine wpAny_bind (wpAny_typeNameOf_itemiter hT (wpAny_pure ?_))
  refine wpAny_bind (wpAny_fieldsOf hit rfl ?_)
  have hown : Builtin.Dict_items.ownsTuple "dict_itemiterator" = true := by decide
  simp only [hown, if_true]
  show wpAny _ _ (if (Value.ref d == Value.none) = true then _ else _) _ _ _
  rw [if_neg (show ¬ ((Value.ref d == Value.none) = true) from Bool.false_ne_true)]
  refine wpAny_bind (wpAny_pure ?_)
  refine wpAny_bind (wpAny_dictEntries hod hdd ?_)
  have hsz : es.size = kvs.length := by rw [← hpr]; simp
  rw [if_neg (by rw [hsz]; simp)]
  refine wpAny_bind (wpAny_pure ?_)
  refine wpAny_bind (wpAny_dictEpoch hod hdd ?_)
  rw [if_neg (by simp)]
  refine wpAny_pure ?_
  have hlt : i < kvs.length := by
    rcases Nat.lt_or_ge i kvs.length with h | h
    · exact h
    · simp [List.getElem?_eq_none h] at hx
  have hlt' : i < es.size := by rw [hsz]; exact hlt
  obtain ⟨hkey, hval⟩ := raw_get hpr hlt' hx
  simp only [show ¬ ((i : Int) < 0) from by omega, if_false, Int.toNat_natCast, Array.getElem?_eq_getElem hlt']
  refine wpAny_bind ?_
  first | refine wpAny_bind (wpAny_typeNameOfWhole_itemiter hT (wpAny_pure ?_)) | refine wpAny_bind (wpAny_typeNameOf_itemiter hT (wpAny_pure ?_))
  refine wpAny_bind (wpAny_isOneOf_itemiter hT ?_)
  show wpAny _ _ (setField (.ref it) 3 (rawInt ((i : Int) + 1)) >>= _) _ _ ⟨hp, g, dr, tk, os⟩
  refine wpAny_bind (wpAny_setField_rec hit (by simp) fun h₁ he₁ hs₁ => ?_)
  replace hs₁ : Heap.SameBut it hp h₁ := hs₁
  replace he₁ : IsItemIter h₁ it d (i + 1) kvs.length ep ok ov := by
    have e : ((i + 1 : Nat) : Int) = (i : Int) + 1 := by omega
    unfold IsItemIter; rw [e]; simpa [rawInt] using he₁
  have hT₁ : Shared.TypeIs ⟨h₁, g, dr, tk, os⟩ (.ref it) "dict_itemiterator" := ⟨_, he₁, rfl⟩
  refine wpAny_bind (wpAny_holding ?_)
  refine wpAny_bind (wpAny_isOneOf_itemiter hT₁ ?_)
  refine wpAny_bind (wpAny_isOneOf_itemiter hT₁ ?_)
  show wpAny _ _ (Builtin.Dict_items.pairFromOwner (.ref it) 6 es[i].key es[i].val) _ _ ⟨h₁, g, dr, tk, os⟩
  unfold Builtin.Dict_items.pairFromOwner
  refine wpAny_bind (wpAny_newTuple ?_)
  have he₂ : IsItemIter (h₁.push { cls := .type "tuple", data := .seq #[es[i].key, es[i].val] }) it d (i + 1) kvs.length ep ok ov := Heap.get?_push_of_some _ he₁
  generalize hh₂ : h₁.push { cls := .type "tuple", data := .seq #[es[i].key, es[i].val] } = h₂ at he₂
  have hz₁ : h₁.objs.size = hp.objs.size := hs₁.1
  have hil : it < hp.objs.size := Heap.lt_size hit
  have ht₂ : h₂.get? hp.objs.size = some { cls := .type "tuple", data := .seq #[es[i].key, es[i].val] } := by rw [← hh₂, ← hz₁]; exact Heap.get?_push_size _ rfl
  have hz₂ : h₂.objs.size = hp.objs.size + 1 := by rw [← hh₂, Heap.size_push, hz₁]
  have hk₂ : ∀ b o, b ≠ it → hp.get? b = some o → h₂.get? b = some o := fun b o hb e => by rw [← hh₂]; exact Heap.get?_push_of_some _ (hs₁.extBut b o hb e)
  show wpAny _ _ (Builtin.Dict_items.ownedTupleIsFree (.ref it) >>= _) _ _ ⟨h₂, g, dr, tk, os⟩
  rw [hz₁]
  clear hh₂ he₁ hs₁ hT₁ hz₁ h₁
  refine wpAny_bind ?_
  unfold Builtin.Dict_items.ownedTupleIsFree
  refine wpAny_bind (wpAny_field he₂ rfl (x := .none) rfl (wpAny_pure ?_))
  simp only [if_true]
  refine wpAny_bind (wpAny_field he₂ rfl (x := ok) rfl ?_)
  refine wpAny_bind (wpAny_field he₂ rfl (x := ov) rfl ?_)
  refine wpAny_bind (wpAny_setField_rec he₂ (by simp) fun h₃ he₃ hs₃ => ?_)
  replace hs₃ : Heap.SameBut it h₂ h₃ := hs₃
  replace he₃ : IsItemIter h₃ it d (i + 1) kvs.length ep es[i].key ov := he₃
  refine wpAny_bind (wpAny_setField_rec he₃ (by simp) fun h₄ he₄ hs₄ => ?_)
  replace hs₄ : Heap.SameBut it h₃ h₄ := hs₄
  replace he₄ : IsItemIter h₄ it d (i + 1) kvs.length ep es[i].key es[i].val := he₄
  refine wpAny_bind (wpAny_setField_rec he₄ (by simp) fun h₅ he₅ hs₅ => ?_)
  replace hs₅ : Heap.SameBut it h₄ h₅ := hs₅
  replace he₅ : IsItemIterOut h₅ it d (i + 1) kvs.length ep es[i].key es[i].val hp.objs.size := he₅
  refine wpAny_bind (wpAny_setField_rec he₅ (by simp) fun h₆ he₆ hs₆ => ?_)
  replace hs₆ : Heap.SameBut it h₅ h₆ := hs₆
  replace he₆ : IsItemIterOut h₆ it d (i + 1) kvs.length ep es[i].key es[i].val hp.objs.size := he₆
  refine wpAny_bind (wpAny_letGo (wpAny_pure (wpAny_pure ⟨_, rfl, wpAny_pure (hQ es[i].key h₆ hkey (hval ▸ he₆) ?_ ?_ ?_)⟩)))
  · rw [← hval]; exact hs₆.extBut _ _ (Nat.ne_of_gt hil) (hs₅.extBut _ _ (Nat.ne_of_gt hil) (hs₄.extBut _ _ (Nat.ne_of_gt hil) (hs₃.extBut _ _ (Nat.ne_of_gt hil) ht₂)))
  · show h₆.objs.size = hp.objs.size + 1
    rw [hs₆.1, hs₅.1, hs₄.1, hs₃.1, hz₂]
  · exact fun b o hb e => hs₆.extBut b o hb (hs₅.extBut b o hb (hs₄.extBut b o hb (hs₃.extBut b o hb (hk₂ b o hb e))))
theorem wpAny_pyNext_items_endR {it d : Addr} {i ep : Nat} {kvs : List (Value × Value)} {ok ov : Value} {Q : Option Value → Shared → Prop} (hh : A.handled = none) (hit : IsItemIter s.heap it d i kvs.length ep ok ov)
    (hm : RawKV s.heap d kvs ep) (hx : kvs[i]? = none)
    (hQ : ∀ h', Heap.ExtBut it s.heap h' → Q none { s with heap := h' }) : wpAny (model prog w) A (pyNext (.ref it)) Q E s := by
  obtain ⟨od, es, hod, hcd, hdd, hpr⟩ := id hm
  have hT : s.TypeIs (.ref it) "dict_itemiterator" := ⟨_, hit, rfl⟩
  unfold pyNext
  refine wpAny_bind (wpAny_attempt (wpAny_callSpecial?_slot (name := Str.ofString "__next__") hT PySem.F.slot_dict_itemiterator_next
    (wpAny_call_entry PySem.F.slot_dict_itemiterator_next hT PySem.F.entry_dict_itemiterator_next ?_ (PySem.F.args_dict_itemiterator_next_1 _))))
  refine wpAny_bind (wpAny_pure ?_)
  refine wpAny_bind ?_
  refine wpAny_bind ?_
  first | refine wpAny_bind (wpAny_typeNameOfWhole_itemiter hT (wpAny_pure ?_)) | refine wpAny_bind (wpAny_typeNameOf_itemiter hT (wpAny_pure ?_))
  refine wpAny_bind (wpAny_fieldsOf hit rfl ?_)
  have hown : Builtin.Dict_items.ownsTuple "dict_itemiterator" = true := by decide
  simp only [hown, if_true]
  show wpAny _ _ (if (Value.ref d == Value.none) = true then _ else _) _ _ s
  rw [if_neg (show ¬ ((Value.ref d == Value.none) = true) from Bool.false_ne_true)]
  refine wpAny_bind (wpAny_pure ?_)
  refine wpAny_bind (wpAny_dictEntries hod hdd ?_)
  have hsz : es.size = kvs.length := by rw [← hpr]; simp
  rw [if_neg (by rw [hsz]; simp)]
  refine wpAny_bind (wpAny_pure ?_)
  refine wpAny_bind (wpAny_dictEpoch hod hdd ?_)
  rw [if_neg (by simp)]
  refine wpAny_pure ?_
  have hge : es.size ≤ i := by rw [hsz]; simpa using hx
  simp only [show ¬ ((i : Int) < 0) from by omega, if_false, Int.toNat_natCast, Array.getElem?_eq_none hge]
  refine wpAny_bind ?_
  first | refine wpAny_bind (wpAny_typeNameOfWhole_itemiter hT (wpAny_pure ?_)) | refine wpAny_bind (wpAny_typeNameOf_itemiter hT (wpAny_pure ?_))
  show wpAny _ _ (setField (.ref it) 2 .none >>= _) _ _ s
  refine wpAny_bind (wpAny_setField hit rfl (by simp) ?_)
  show wpAny _ _ (newExc (.type "StopIteration") [] >>= _) _ _ _
  refine wpAny_bind ?_
  simp only [newExc, newTuple]
  refine wpAny_bind (wpAny_newObj_type ?_ (by size_fits))
  refine wpAny_bind (m := firstArgMember _ _) (wpAny_of_eq (a := Value.none) (by first | rfl | (simp only [firstArgMember]; rfl)) ?_)
  refine wpAny_newObj_type ?_ (by size_fits)
  simp only [raiseNew]
  refine wpAny_bind (wpAny_handled ?_)
  rw [show A.in1.handled = none from hh]
  refine wpAny_bind (wpAny_pure (wpAny_throw ?_))
  refine wpAny_bind (wpAny_isInstance (T := "StopIteration") (b := true) ⟨_, Heap.get?_push_size _ rfl, rfl⟩ isSubtype_stop ?_)
  exact wpAny_pure (hQ _ (((Heap.SameBut.update ..).extBut.push _).push _))
theorem kdx_next_outR {it d a : Addr} {f : Bool} {oa : Obj} {i ep : Nat} {kvs : List (Value × Value)} {k : Value} {v ok ov : Value} {Q : Option Value → Shared → Prop} (hit : KdxIt s.heap it d i kvs.length ep ok ov a f) (ha : s.heap.get? a = some oa) (hai : a ≠ it)
    (hm : RawKV s.heap d kvs ep) (hx : kvs[i]? = some (k, v))
    (hQ : ∀ key h', k = key → KdxIt h' it d (i + 1) kvs.length ep ok ov a true →
      h'.get? s.heap.objs.size = some { cls := .type "tuple", data := .seq #[key, v] } → h'.objs.size = s.heap.objs.size + 1 →
      (∀ b o, b ≠ it → s.heap.get? b = some o → h'.get? b = some o) → Q (some (.ref s.heap.objs.size)) { s with heap := h' }) :
    wpAny (model prog w) A (pyNext (.ref it)) Q E s := by
  obtain ⟨hp, g, dr, tk, os⟩ := s
  obtain ⟨od, es, hod, hcd, hdd, hpr⟩ := id hm
  have hT : Shared.TypeIs ⟨hp, g, dr, tk, os⟩ (.ref it) "dict_itemiterator" := ⟨_, hit, rfl⟩
  unfold pyNext
  refine wpAny_bind (wpAny_attempt (wpAny_callSpecial?_slot (name := Str.ofString "__next__") hT PySem.F.slot_dict_itemiterator_next
    (wpAny_call_entry PySem.F.slot_dict_itemiterator_next hT PySem.F.entry_dict_itemiterator_next ?_ (PySem.F.args_dict_itemiterator_next_1 _))))
  refine wpAny_bind (wpAny_pure ?_)
  refine wpAny_bind ?_
  refine wpAny_bind ?_
  first | refine wpAny_bind (wpAny_typeNameOfWhole_itemiter hT (wpAny_pure ?_)) | refine wpAny_bind (wpAny_typeNameOf_itemiter hT (wpAny_pure ?_))
  refine wpAny_bind (wpAny_fieldsOf hit rfl ?_)
  have hown : Builtin.Dict_items.ownsTuple "dict_itemiterator" = true := by decide
  simp only [hown, if_true]
  show wpAny _ _ (if (Value.ref d == Value.none) = true then _ else _) _ _ _
  rw [if_neg (show ¬ ((Value.ref d == Value.none) = true) from Bool.false_ne_true)]
  refine wpAny_bind (wpAny_pure ?_)
  refine wpAny_bind (wpAny_dictEntries hod hdd ?_)
  have hsz : es.size = kvs.length := by rw [← hpr]; simp
  rw [if_neg (by rw [hsz]; simp)]
  refine wpAny_bind (wpAny_pure ?_)
  refine wpAny_bind (wpAny_dictEpoch hod hdd ?_)
  rw [if_neg (by simp)]
  refine wpAny_pure ?_
  have hlt : i < kvs.length := by
    rcases Nat.lt_or_ge i kvs.length with h | h
    · exact h
    · simp [List.getElem?_eq_none h] at hx
  have hlt' : i < es.size := by rw [hsz]; exact hlt
  obtain ⟨hkey, hval⟩ := raw_get hpr hlt' hx
  simp only [show ¬ ((i : Int) < 0) from by omega, if_false, Int.toNat_natCast, Array.getElem?_eq_getElem hlt']
  refine wpAny_bind ?_
  first | refine wpAny_bind (wpAny_typeNameOfWhole_itemiter hT (wpAny_pure ?_)) | refine wpAny_bind (wpAny_typeNameOf_itemiter hT (wpAny_pure ?_))
  refine wpAny_bind (wpAny_isOneOf_itemiter hT ?_)
  show wpAny _ _ (setField (.ref it) 3 (rawInt ((i : Int) + 1)) >>= _) _ _ ⟨hp, g, dr, tk, os⟩
  refine wpAny_bind (wpAny_setField_rec hit (by simp) fun h₁ he₁ hs₁ => ?_)
  replace hs₁ : Heap.SameBut it hp h₁ := hs₁
  replace he₁ : KdxIt h₁ it d (i + 1) kvs.length ep ok ov a f := by
    have e : ((i + 1 : Nat) : Int) = (i : Int) + 1 := by omega
    unfold KdxIt; rw [e]; simpa [rawInt] using he₁
  have hT₁ : Shared.TypeIs ⟨h₁, g, dr, tk, os⟩ (.ref it) "dict_itemiterator" := ⟨_, he₁, rfl⟩
  refine wpAny_bind (wpAny_holding ?_)
  refine wpAny_bind (wpAny_isOneOf_itemiter hT₁ ?_)
  refine wpAny_bind (wpAny_isOneOf_itemiter hT₁ ?_)
  show wpAny _ _ (Builtin.Dict_items.pairFromOwner (.ref it) 6 es[i].key es[i].val) _ _ ⟨h₁, g, dr, tk, os⟩
  unfold Builtin.Dict_items.pairFromOwner
  refine wpAny_bind (wpAny_newTuple ?_)
  have he₂ : KdxIt (h₁.push { cls := .type "tuple", data := .seq #[es[i].key, es[i].val] }) it d (i + 1) kvs.length ep ok ov a f := Heap.get?_push_of_some _ he₁
  generalize hh₂ : h₁.push { cls := .type "tuple", data := .seq #[es[i].key, es[i].val] } = h₂ at he₂
  have hz₁ : h₁.objs.size = hp.objs.size := hs₁.1
  have hil : it < hp.objs.size := Heap.lt_size hit
  have ht₂ : h₂.get? hp.objs.size = some { cls := .type "tuple", data := .seq #[es[i].key, es[i].val] } := by rw [← hh₂, ← hz₁]; exact Heap.get?_push_size _ rfl
  have hz₂ : h₂.objs.size = hp.objs.size + 1 := by rw [← hh₂, Heap.size_push, hz₁]
  have hk₂ : ∀ b o, b ≠ it → hp.get? b = some o → h₂.get? b = some o := fun b o hb e => by rw [← hh₂]; exact Heap.get?_push_of_some _ (hs₁.extBut b o hb e)
  show wpAny _ _ (Builtin.Dict_items.ownedTupleIsFree (.ref it) >>= _) _ _ ⟨h₂, g, dr, tk, os⟩
  rw [hz₁]
  clear hh₂ he₁ hs₁ hT₁ hz₁ h₁
  have ha₂ : h₂.get? a = some oa := hk₂ a oa hai ha
  refine wpAny_bind ?_
  unfold Builtin.Dict_items.ownedTupleIsFree
  refine wpAny_bind (wpAny_field he₂ rfl (x := rawInt a) rfl ?_)
  show wpAny _ _ (loadIfAlive ((a : Int).toNat) >>= _) _ _ _
  rw [Int.toNat_natCast]
  refine wpAny_bind (kdx_alive ha₂ ?_)
  simp only [Option.isNone_some, Bool.false_eq_true, if_false]
  refine wpAny_bind (wpAny_field he₂ rfl (x := .bool f) rfl ?_)
  have fin : ∀ h₃ : Heap, KdxIt h₃ it d (i + 1) kvs.length ep ok ov a true → Heap.SameBut it h₂ h₃ → Q (some (.ref hp.objs.size)) ⟨h₃, g, dr, tk, os⟩ := fun h₃ he₃ hs₃ =>
    hQ es[i].key h₃ hkey he₃ (by rw [← hval]; exact hs₃.extBut _ _ (Nat.ne_of_gt hil) ht₂) (by show h₃.objs.size = hp.objs.size + 1; rw [hs₃.1, hz₂]) fun b o hb e => hs₃.extBut b o hb (hk₂ b o hb e)
  cases f with
  | true =>
    rw [if_neg (show ¬ ((Value.bool true != Value.bool true) = true) from Bool.false_ne_true)]
    refine wpAny_pure ?_
    simp only [Bool.false_eq_true, if_false]
    exact wpAny_pure (wpAny_pure ⟨_, rfl, wpAny_pure (fin h₂ he₂ (Heap.SameBut.refl _ _))⟩)
  | false =>
    rw [if_pos (show (Value.bool false != Value.bool true) = true from rfl)]
    refine wpAny_bind (wpAny_setField_rec he₂ (by simp) fun h₃ he₃ hs₃ => ?_)
    replace hs₃ : Heap.SameBut it h₂ h₃ := hs₃
    replace he₃ : KdxIt h₃ it d (i + 1) kvs.length ep ok ov a true := he₃
    refine wpAny_pure ?_
    simp only [Bool.false_eq_true, if_false]
    exact wpAny_pure (wpAny_pure ⟨_, rfl, wpAny_pure (fin h₃ he₃ hs₃)⟩)
theorem kdx_end_outR {it d a : Addr} {f : Bool} {i ep : Nat} {kvs : List (Value × Value)} {ok ov : Value} {Q : Option Value → Shared → Prop} (hh : A.handled = none) (hit : KdxIt s.heap it d i kvs.length ep ok ov a f)
    (hm : RawKV s.heap d kvs ep) (hx : kvs[i]? = none)
    (hQ : ∀ h', Heap.ExtBut it s.heap h' → Q none { s with heap := h' }) : wpAny (model prog w) A (pyNext (.ref it)) Q E s := by
  obtain ⟨od, es, hod, hcd, hdd, hpr⟩ := id hm
  have hT : s.TypeIs (.ref it) "dict_itemiterator" := ⟨_, hit, rfl⟩
  unfold pyNext
  refine wpAny_bind (wpAny_attempt (wpAny_callSpecial?_slot (name := Str.ofString "__next__") hT PySem.F.slot_dict_itemiterator_next
    (wpAny_call_entry PySem.F.slot_dict_itemiterator_next hT PySem.F.entry_dict_itemiterator_next ?_ (PySem.F.args_dict_itemiterator_next_1 _))))
  refine wpAny_bind (wpAny_pure ?_)
  refine wpAny_bind ?_
  refine wpAny_bind ?_
  first | refine wpAny_bind (wpAny_typeNameOfWhole_itemiter hT (wpAny_pure ?_)) | refine wpAny_bind (wpAny_typeNameOf_itemiter hT (wpAny_pure ?_))
  refine wpAny_bind (wpAny_fieldsOf hit rfl ?_)
  have hown : Builtin.Dict_items.ownsTuple "dict_itemiterator" = true := by decide
  simp only [hown, if_true]
  show wpAny _ _ (if (Value.ref d == Value.none) = true then _ else _) _ _ s
  rw [if_neg (show ¬ ((Value.ref d == Value.none) = true) from Bool.false_ne_true)]
  refine wpAny_bind (wpAny_pure ?_)
  refine wpAny_bind (wpAny_dictEntries hod hdd ?_)
  have hsz : es.size = kvs.length := by rw [← hpr]; simp
  rw [if_neg (by rw [hsz]; simp)]
  refine wpAny_bind (wpAny_pure ?_)
  refine wpAny_bind (wpAny_dictEpoch hod hdd ?_)
  rw [if_neg (by simp)]
  refine wpAny_pure ?_
  have hge : es.size ≤ i := by rw [hsz]; simpa using hx
  simp only [show ¬ ((i : Int) < 0) from by omega, if_false, Int.toNat_natCast, Array.getElem?_eq_none hge]
  refine wpAny_bind ?_
  first | refine wpAny_bind (wpAny_typeNameOfWhole_itemiter hT (wpAny_pure ?_)) | refine wpAny_bind (wpAny_typeNameOf_itemiter hT (wpAny_pure ?_))
  show wpAny _ _ (setField (.ref it) 2 .none >>= _) _ _ s
  refine wpAny_bind (wpAny_setField hit rfl (by simp) ?_)
  show wpAny _ _ (newExc (.type "StopIteration") [] >>= _) _ _ _
  refine wpAny_bind ?_
  simp only [newExc, newTuple]
  refine wpAny_bind (wpAny_newObj_type ?_ (by size_fits))
  refine wpAny_bind (m := firstArgMember _ _) (wpAny_of_eq (a := Value.none) (by first | rfl | (simp only [firstArgMember]; rfl)) ?_)
  refine wpAny_newObj_type ?_ (by size_fits)
  simp only [raiseNew]
  refine wpAny_bind (wpAny_handled ?_)
  rw [show A.in1.handled = none from hh]
  refine wpAny_bind (wpAny_pure (wpAny_throw ?_))
  refine wpAny_bind (wpAny_isInstance (T := "StopIteration") (b := true) ⟨_, Heap.get?_push_size _ rfl, rfl⟩ isSubtype_stop ?_)
  exact wpAny_pure (hQ _ (((Heap.SameBut.update ..).extBut.push _).push _))
theorem kdx_itemR {it d S : Addr} {i ep : Nat} {kvs : List (Value × Value)} {k : Value} {v : Value} {Q : Option Value → Shared → Prop} (hst : KdxSt s.heap it d S i kvs.length ep) (hS : S < s.heap.objs.size)
    (hm : RawKV s.heap d kvs ep) (hx : kvs[i]? = some (k, v))
    (hQ : ∀ key h', k = key → KdxSt h' it d S (i + 1) kvs.length ep → h'.get? s.heap.objs.size = some { cls := .type "tuple", data := .seq #[key, v] } → h'.objs.size = s.heap.objs.size + 1 →
      (∀ b o, b ≠ it → s.heap.get? b = some o → h'.get? b = some o) → Q (some (.ref s.heap.objs.size)) { s with heap := h' }) :
    wpAny (model prog w) A (pyNext (.ref it)) Q E s := by
  rcases hst with ⟨rfl, ok, ov, hit⟩ | ⟨ok, ov, a, f, oa, hit, ha, hai, haS⟩
  · exact wpAny_pyNext_items_itemR hit hm hx fun key h' hk hit' ht hz hkeep => hQ key h' hk (.inr ⟨key, v, _, false, _, hit', ht, Nat.ne_of_gt (Heap.lt_size hit), Nat.ne_of_gt hS⟩) ht hz hkeep
  · exact kdx_next_outR hit ha hai hm hx fun key h' hk hit' ht hz hkeep => hQ key h' hk (.inr ⟨ok, ov, a, true, oa, hit', hkeep a oa hai ha, hai, haS⟩) ht hz hkeep
theorem kdx_doneR {it d S : Addr} {i ep : Nat} {kvs : List (Value × Value)} {Q : Option Value → Shared → Prop} (hh : A.handled = none) (hst : KdxSt s.heap it d S i kvs.length ep) (hm : RawKV s.heap d kvs ep) (hx : kvs[i]? = none)
    (hQ : ∀ h', Heap.ExtBut it s.heap h' → Q none { s with heap := h' }) : wpAny (model prog w) A (pyNext (.ref it)) Q E s := by
  rcases hst with ⟨rfl, ok, ov, hit⟩ | ⟨ok, ov, a, f, oa, hit, _, _, _⟩
  · exact wpAny_pyNext_items_endR hh hit hm hx hQ
  · exact kdx_end_outR hh hit hm hx hQ
structure KdxGR (kvs : List (Value × Value)) (lo : Addr) (h : Heap) (as : List Addr) : Prop where
  rise : as.Pairwise (· < ·)
  above : ∀ a ∈ as, lo < a
  pairs : ∀ (j : Nat) (a : Addr), as[j]? = some a → ∃ key k x, kvs[j]? = some (k, x) ∧ k = key ∧ h.get? a = some { cls := .type "tuple", data := .seq #[key, x] }
theorem KdxGR.there {kvs : List (Value × Value)} {lo : Addr} {h : Heap} {as : List Addr} (g : KdxGR kvs lo h as) {a : Addr} (ha : a ∈ as) : a < h.objs.size := by
  obtain ⟨j, hj⟩ := List.mem_iff_getElem?.mp ha
  obtain ⟨_, _, _, _, _, e⟩ := g.pairs j a hj
  exact Heap.lt_size e
end
section
variable {prog : Program} {w : World} {A : Around} {s : Shared} {R : Result → Shared → Prop} {kvs : List (Value × Value)} {ep : Nat}
theorem kdx_loopR {S I d : Addr} (hh : A.handled = none) (hSI : S < I) (hSd : d ≠ S) (hId : d ≠ I) (hn : kvs.length ≤ sizeLine) (res : Value) {h₁ : Heap}
    (hR : ∀ h' tk acc c as, (∀ b o, b ≠ S → b ≠ I → h₁.get? b = some o → h'.get? b = some o) → h'.get? S = some { cls := .type "list", dict := none, data := .seq acc c, slots := #[] } → as.length = kvs.length → KdxGR kvs I h' as →
      acc.toList = as.map Value.ref → R (.ok (.ret res)) { s with heap := h', toks := tk }) :
    ∀ (k i : Nat) (h : Heap) (tk c : Nat) (acc : Array Value) (as : List Addr), kvs.length - i = k → i ≤ kvs.length → KdxSt h I d S i kvs.length ep → RawKV h d kvs ep → (∀ b o, b ≠ S → b ≠ I → h₁.get? b = some o → h.get? b = some o) →
      h.get? S = some { cls := .type "list", dict := none, data := .seq acc c, slots := #[] } → acc.toList = as.map Value.ref → as.length = i → KdxGR kvs I h as → I < h.objs.size →
      codeAny (model prog w) A (.builtin "list.extend.loop" ⟨[.ref S, .ref I, res], []⟩) R { s with heap := h, toks := tk } := by
  have hne : S ≠ I := Nat.ne_of_lt hSI
  intro k
  induction k with
  | zero =>
    intro i h tk c acc as hk hi hst hD hkeep hS hacc hal hG hIs
    have hin : i = kvs.length := by omega
    refine codeAny_builtin PySem.F.entry_extend_loop ?_
    rw [Around.under_plainId PySem.F.plain_extend_loop _]
    show wpAny _ A.in1 (pyNext (.ref I) >>= _) _ _ _
    refine wpAny_bind (kdx_doneR (s := { s with heap := h, toks := tk }) (A := A.in1) hh hst hD (List.getElem?_eq_none (by omega)) fun h' he => ?_)
    refine wpAny_pure (hR h' tk acc c as (fun b o h1 h2 e => he b o h2 (hkeep b o h1 h2 e)) (he S _ hne hS) (by omega) ⟨hG.rise, hG.above, fun j a hj => ?_⟩ hacc)
    obtain ⟨key, kk, x, e1, e2, e3⟩ := hG.pairs j a hj
    exact ⟨key, kk, x, e1, e2, he a _ (Nat.ne_of_gt (hG.above a (List.mem_of_getElem? hj))) e3⟩
  | succ k ih =>
    intro i h tk c acc as hk hi hst hD hkeep hS hacc hal hG hIs
    have hlt : i < kvs.length := by omega
    obtain ⟨⟨kk, x⟩, hx⟩ : ∃ p, kvs[i]? = some p := ⟨kvs[i], List.getElem?_eq_getElem hlt⟩
    have hsz : acc.size = i := by rw [← Array.length_toList, hacc, List.length_map, hal]
    refine codeAny_builtin PySem.F.entry_extend_loop ?_
    rw [Around.under_plainId PySem.F.plain_extend_loop _]
    show wpAny _ A.in1 (pyNext (.ref I) >>= _) _ _ _
    refine wpAny_bind (kdx_itemR (s := { s with heap := h, toks := tk }) (S := S) hst (Heap.lt_size hS) hD hx fun key h' hkey hst' ht hz hkp => ?_)
    dsimp only at ht hz hkp ⊢
    have hS' := hkp S _ hne hS
    have up : ∀ b o, b ≠ S → h'.get? b = some o → (h'.update S (Obj.mapSeq (·.push (Value.ref h.objs.size)))).get? b = some o := fun b o hb e => (Heap.get?_update_other _ _ (Ne.symm hb)).trans e
    have hSl : S < h.objs.size := Heap.lt_size hS
    show wpAny _ A.in1 (updateSeq S (·.push (Value.ref h.objs.size)) >>= _) _ _ _
    refine wpAny_bind ?_
    refine wpAny_updateSeq hS' rfl (wpAny_pure ⟨plainId_quiet PySem.F.plain_extend_loop _, ih (i + 1) _ tk _ (acc.push (Value.ref h.objs.size)) (as ++ [h.objs.size]) (by omega) hlt (hst'.keep up (Ne.symm hne)) (hD.at' fun o e => up d o hSd (hkp d o hId e))
      (fun b o h1 h2 e => up b o h1 (hkp b o h2 (hkeep b o h1 h2 e))) (Heap.get?_update_self _ hS' rfl) (by rw [Array.toList_push, hacc, List.map_append]; rfl) (by rw [List.length_append, hal]; rfl) ⟨?_, ?_, ?_⟩ ?_⟩) (by rw [hsz]; omega) (by show (acc.push (Value.ref h.objs.size)).size ≤ sizeLine + 1; rw [Array.size_push, hsz]; omega)
    · refine List.pairwise_append.mpr ⟨hG.rise, List.pairwise_singleton _ _, fun a ha b hb => ?_⟩
      rw [List.mem_singleton.mp hb]
      exact hG.there ha
    · intro a ha
      rcases List.mem_append.mp ha with ha | ha
      · exact hG.above a ha
      · rw [List.mem_singleton.mp ha]; exact hIs
    · intro j b hj
      rcases Nat.lt_trichotomy j as.length with h1 | h1 | h1
      · rw [List.getElem?_append_left h1] at hj
        obtain ⟨key', k', x', e1, e2, e3⟩ := hG.pairs j b hj
        have hb := hG.above b (List.mem_of_getElem? hj)
        exact ⟨key', k', x', e1, e2, up b _ (Nat.ne_of_gt (Nat.lt_trans hSI hb)) (hkp b _ (Nat.ne_of_gt hb) e3)⟩
      · subst h1
        have hb : h.objs.size = b := by simpa using hj
        subst hb
        exact ⟨key, kk, x, by rw [hal]; exact hx, hkey, up _ _ (Nat.ne_of_gt hSl) ht⟩
      · have hnone : (as ++ [h.objs.size])[j]? = none := List.getElem?_eq_none (by rw [List.length_append, List.length_singleton]; omega)
        rw [hnone] at hj; cases hj
    · have e : (h'.update S (Obj.mapSeq (·.push (Value.ref h.objs.size)))).get? h.objs.size = _ := up _ _ (Nat.ne_of_gt hSl) ht
      exact Nat.lt_trans hIs (Heap.lt_size e)
end
section
variable {prog : Program} {w : World} {A : Around} {E : Value → Shared → Prop} {s : Shared} {r d : Addr} {kvs : List (Value × Value)} {ep : Nat}
theorem kdx_extendR {R : Result → Shared → Prop} (hh : A.handled = none) (hv : s.heap.IsItemsView r d) (hm : RawKV s.heap d kvs ep) (S : Addr) (hSr : S ≠ r) (hSd : d ≠ S) (res : Value) (c₀ : Nat) (hS : s.heap.get? S = some { cls := .type "list", data := .seq #[] c₀ })
    (hR : ∀ h' tk acc c as, (∀ b o, b ≠ S → s.heap.get? b = some o → h'.get? b = some o) → h'.get? S = some { cls := .type "list", dict := none, data := .seq acc c, slots := #[] } → as.length = kvs.length → KdxGR kvs s.heap.objs.size h' as →
      acc.toList = as.map Value.ref → R (.ok (.ret res)) { s with heap := h', toks := tk }) (hn : kvs.length ≤ sizeLine) :
    wpAny (model prog w) A.in1 (Builtin.List.listExtendWith (.ref S) (.ref r) res)
      (fun fin s' => match fin with | .done f => R (.ok f) s' | .again c' => c'.quiet = true ∧ codeAny (model prog w) A c' R s') (fun e s' => R (.error e) s') s := by
  have hSI : S < s.heap.objs.size := Heap.lt_size hS
  have hdI : d < s.heap.objs.size := hm.lt_size
  have key : ∀ (h : Heap) (c₁ tk : Nat), (∀ b o, b ≠ S → (s.heap.push { cls := .type "dict_itemiterator", data := .fields #[.none, .bool false, .ref d, .int 0 0, .int kvs.length 0, .int ep 0, .none, .none] }).get? b = some o → h.get? b = some o) →
      h.get? S = some { cls := .type "list", data := .seq #[] c₁ } → codeAny (model prog w) A (.builtin "list.extend.loop" ⟨[.ref S, .ref s.heap.objs.size, res], []⟩) R { s with heap := h, toks := tk } := by
    intro h c₁ tk hk hS₁
    have hI := hk s.heap.objs.size _ (Nat.ne_of_gt hSI) (Heap.get?_push_size _ rfl)
    refine kdx_loopR (kvs := kvs) (ep := ep) (s := s) (h₁ := s.heap) hh hSI hSd (Nat.ne_of_lt hdI) hn res (fun h' tk' acc c as hk' hS' hl hG hacc => hR h' tk' acc c as (fun b o hb e => hk' b o hb (Nat.ne_of_lt (Heap.lt_size e)) e) hS' hl hG hacc)
      kvs.length 0 h tk c₁ #[] [] (Nat.sub_zero _) (Nat.zero_le _) (.inl ⟨rfl, .none, .none, hI⟩) (hm.at' fun o e => hk d o hSd (Heap.get?_push_of_some _ e)) (fun b o hb _ e => hk b o hb (Heap.get?_push_of_some _ e)) hS₁ rfl rfl
      ⟨List.Pairwise.nil, (fun _ ha => nomatch ha), (fun j a hj => by simp at hj)⟩ (Heap.lt_size hI)
  unfold Builtin.List.listExtendWith
  refine wpAny_bind (wpAny_typeOf (T := "dict_items") hv.typeIs ?_)
  have h1 : Builtin.List.listSameRef (.ref S) (.ref r) = false := by simp [Builtin.List.listSameRef, hSr]
  have h2 : (Value.type "dict_items" == Value.type "list") = false := by decide
  have h3 : (Value.type "dict_items" == Value.type "tuple") = false := by decide
  simp only [h1, h2, h3, Bool.or_false, Bool.false_eq_true, if_false]
  refine wpAny_bind (wpAny_pyIter_itemsR hv hm ?_)
  have hS₁ := Heap.get?_push_of_some { cls := .type "dict_itemiterator", data := .fields #[.none, .bool false, .ref d, .int 0 0, .int kvs.length 0, .int ep 0, .none, .none] } hS
  refine wpAny_bind (wpAny_holding (kdx_hint (let ⟨o, ho, hc, _⟩ := hv; ⟨o, Heap.get?_push_of_some _ ho, hc⟩) ?_))
  refine wpAny_ite_split (fun _ => ?_) (fun _ => wpAny_pure ⟨plainId_quiet PySem.F.plain_extend_loop _, key _ c₀ _ (fun b o _ e => e) hS₁⟩)
  refine wpAny_bind (wpAny_rule ?_)
  refine wpAny_bind ?_
  show wpAny _ _ (updateSeq S (·.push .none) >>= fun _ => updateSeq S (·.pop)) _ _ _
  refine wpAny_bind (wpAny_updateSeq hS₁ rfl ?_)
  have hS₂ := Heap.get?_update_self (Obj.mapSeq (·.push Value.none)) hS₁ rfl
  refine wpAny_updateSeq (hz := by seq_fits) hS₂ rfl ?_
  have hS₃ := Heap.get?_update_self (Obj.mapSeq (·.pop)) hS₂ rfl
  refine wpAny_pure ⟨plainId_quiet PySem.F.plain_extend_loop _, key _ _ _ (fun b o hb e => ?_) hS₃⟩
  exact (Heap.get?_update_other _ _ (Ne.symm hb)).trans ((Heap.get?_update_other _ _ (Ne.symm hb)).trans e)
theorem KdxGR.low {kvs : List (Value × Value)} {lo lo' : Addr} {h : Heap} {as : List Addr} (g : KdxGR kvs lo h as) (hl : lo' ≤ lo) : KdxGR kvs lo' h as := ⟨g.rise, fun a ha => Nat.lt_of_le_of_lt hl (g.above a ha), g.pairs⟩
theorem kdx_initR {R : Result → Shared → Prop} (hh : A.handled = none) (hv : s.heap.IsItemsView r d) (hm : RawKV s.heap d kvs ep) (S : Addr) (hSr : S ≠ r) (hSd : d ≠ S) (hS : s.heap.get? S = some { cls := .type "list", data := .seq #[] })
    (hR : ∀ h' tk acc c as, (∀ b o, b ≠ S → s.heap.get? b = some o → h'.get? b = some o) → h'.get? S = some { cls := .type "list", dict := none, data := .seq acc c, slots := #[] } → as.length = kvs.length → KdxGR kvs S h' as →
      acc.toList = as.map Value.ref → R (.ok (.ret .none)) { s with heap := h', toks := tk }) (hn : kvs.length ≤ sizeLine) :
    wpAny (model prog w) A.in1 (Builtin.«list.__init__» ⟨[.ref S, .ref r], []⟩)
      (fun fin s' => match fin with | .done f => R (.ok f) s' | .again c' => c'.quiet = true ∧ codeAny (model prog w) A c' R s') (fun e s' => R (.error e) s') s := by
  show wpAny _ _ (do let old ← Builtin.List.listItems (.ref S); Builtin.List.listUpdate (.ref S) (fun _ => #[]); letGo old.toList.reverse; Builtin.List.listExtendWith (.ref S) (.ref r) .none) _ _ s
  refine wpAny_bind ?_
  unfold Builtin.List.listItems
  refine wpAny_bind (wpAny_seqItems hS rfl (wpAny_pure ?_))
  show wpAny _ _ (updateSeq S (fun _ => #[]) >>= fun _ => letGo (#[] : Array Value).toList.reverse >>= fun _ => Builtin.List.listExtendWith (.ref S) (.ref r) .none) _ _ s
  refine wpAny_bind (wpAny_updateSeq hS rfl ?_)
  have hS₂ := Heap.get?_update_self (Obj.mapSeq (fun _ => (#[] : Array Value))) hS rfl
  have oth : ∀ b o, b ≠ S → s.heap.get? b = some o → (s.heap.update S (Obj.mapSeq (fun _ => (#[] : Array Value)))).get? b = some o :=
    fun b o hb e => (Heap.get?_update_other _ _ (Ne.symm hb)).trans e
  refine wpAny_bind (wpAny_letGo ?_)
  refine kdx_extendR (kvs := kvs) (ep := ep) hh (let ⟨o, ho, x⟩ := hv; ⟨o, oth r o hSr.symm ho, x⟩) (hm.at' fun o e => oth d o hSd e) S hSr hSd .none _ hS₂ (fun h' tk acc c as hk hS' hl hG hacc => ?_) hn
  exact hR h' tk acc c as (fun b o hb e => hk b o hb (oth b o hb e)) hS' hl (hG.low (Nat.le_of_lt (Heap.lt_size hS₂))) hacc
theorem kdx_callR {Q : Value → Shared → Prop} (hh : A.handled = none) (hv : s.heap.IsItemsView r d) (hm : RawKV s.heap d kvs ep) (hn : kvs.length ≤ sizeLine)
    (hQ : ∀ h' tk acc c as, (∀ b o, s.heap.get? b = some o → h'.get? b = some o) → h'.get? s.heap.objs.size = some { cls := .type "list", dict := none, data := .seq acc c, slots := #[] } → as.length = kvs.length → KdxGR kvs s.heap.objs.size h' as →
      acc.toList = as.map Value.ref → Q (.ref s.heap.objs.size) { s with heap := h', toks := tk }) :
    wpAny (model prog w) A (call (.type "list") [.ref r]) Q E s := by
  refine callType_codes (Q₁ := fun obj s₁ => obj = .ref s.heap.objs.size ∧ s₁ = { s with heap := s.heap.push { cls := .type "list", data := .seq #[] } }) PySem.F.called_list (PySem.F.typeCall_list_1 _) PySem.F.entry_list_init
    (code_list_new _ ⟨rfl, rfl⟩) fun obj s₁ h₁ => ?_
  obtain ⟨rfl, rfl⟩ := h₁
  have hS : (s.heap.push { cls := .type "list", data := .seq #[] }).get? s.heap.objs.size = some { cls := .type "list", data := .seq #[] } := Heap.get?_push_size _ rfl
  have hr : r < s.heap.objs.size := let ⟨_, ho, _⟩ := hv; Heap.lt_size ho
  have hd : d < s.heap.objs.size := hm.lt_size
  refine ⟨⟨_, hS, rfl⟩, PySem.F.args_list_init_2 _ _, kdx_initR (kvs := kvs) (ep := ep) (A := A.in1) hh (let ⟨o, ho, x⟩ := hv; ⟨o, Heap.get?_push_of_some _ ho, x⟩) (hm.push _) _ (Nat.ne_of_gt hr) (Nat.ne_of_lt hd) hS (fun h' tk acc c as hk hS' hl hG hacc => ?_) hn⟩
  exact ⟨rfl, hQ h' tk acc c as (fun b o e => hk b o (Nat.ne_of_lt (Heap.lt_size e)) (Heap.get?_push_of_some _ e)) hS' hl hG hacc⟩
end
end PySem.W
set_option Elab.async false
set_option maxRecDepth 100000
set_option linter.all false
namespace L2
open PySem PySem.Spec PyProof.Rows PySem.W
section
variable {X : Cx}
/-- list(d.items()), the keys tuples -/
def tLIT (td : TE) : TE := fun σ H Q => td σ H fun x H1 => ∃ (d : Addr) (kvs : List (List Key × V)), x = .ref d ∧ H1 d = some (.dT kvs) ∧
  ∀ (l : Addr) (Ts qs : List Addr) (H' : Hp), H1 l = none → Ts.length = kvs.length → qs.length = kvs.length → Same H1 H' → H' l = some (.lst (Ts.map V.ref)) → (∀ (j : Nat) q k v, qs[j]? = some q → kvs[j]? = some (k, v) → H1 q = some (.tup (k.map kV))) →
    (∀ (j : Nat) T q k v, Ts[j]? = some T → qs[j]? = some q → kvs[j]? = some (k, v) → H' T = some (.tup [.ref q, v])) → Q (.ref l) H'
def zP (H1 : Hp) (l : Addr) (Ts : List Addr) (ps : List (V × V)) : Hp := fun b => if b = l then some (.lst (Ts.map V.ref)) else match (List.range Ts.length).find? (fun j => decide (Ts[j]? = some b)) with
  | some j => (match ps[j]? with | some p => some (.tup [p.1, p.2]) | _ => none)
  | none => H1 b
theorem pe_listitemsT {e : Expr} {td : TE} {p : Pos} {apos cpos pos : Pos} (hc : X.calm = true) (hg : Gl X "list") (hm : X.mg "list" = none) (he : PE X e td) (hbase : attributeBase e "items" X.env (eval e X.env) = eval e X.env := by rfl) (hline : (apos.endLine == cpos.line) = true := by rfl) :
    PE X (.Call (.Name "list" p) [.Call (.Attribute e "items" apos) [] [] cpos] [] pos) (tLIT td) := by
  intro pins s σ H Q I h
  refine wpAny_Call_Name_kw (ld_blt I hg hm (show bootBuiltins "list" = some (.type "list") by decide +kernel) ?_)
  refine PyProof.Rows.callWith_type1 ?_ rfl rfl
  refine Calls.spliced_cons ?_
  refine wpAny_Call_method (T := "dict") (id := "dict.items") hbase rfl hline PySem.F.plainAttrs_dict PySem.F.slot_dict_items PySem.F.type_dict_items (thn (he pins s σ H _ I h) fun u s1 ⟨x, H1, I1, rx, d, kvs, ex, hd, q⟩ => ?_)
  subst ex
  obtain rfl : u = Value.ref d := rx
  obtain ⟨hz, hs, xs, rel, o, es, ep, ho, hx, hdt, hes, _, _⟩ := dt_of I1.hok hd
  have hl : kvs.length = xs.length := Paired.length rel
  let vs : List (Value × Value) := xs.map fun x => (Value.ref x.2.1, x.2.2)
  have hvl : vs.length = kvs.length := by show (xs.map _).length = _; rw [List.length_map]; omega
  have hraw : RawKV s1.heap d vs ep := ⟨o, es, ho, hx, hdt, by
    show es.toList.map _ = xs.map _
    rw [hes, List.map_map]
    rfl⟩
  refine ⟨hraw.typeIs, fun a ea => by cases ea; exact ⟨o, ho, hx.2.1⟩, ?_⟩
  have I2 : Inv X pins σ H1 { s1 with heap := s1.heap.push { cls := .type "dict_items", data := .fields #[.ref d] } } := I1.kept (t' := s1.toks) fun b ob q => Heap.get?_push_of_some _ q
  -- the tuples that are keys
  let qs : List Addr := xs.map (·.2.1)
  let ps : List (V × V) := (qs.zip kvs).map fun z => (V.ref z.1, z.2.2)
  have hql : qs.length = kvs.length := by show (xs.map _).length = _; rw [List.length_map]; omega
  have pget : ∀ (j : Nat) (hj : j < kvs.length), ∃ x, xs[j]? = some x ∧ kvs[j] = (x.1, kvs[j].2) ∧ H1 x.2.1 = some (.tup (x.1.map kV)) ∧ RelV kvs[j].2 x.2.2 ∧ vs[j]? = some (Value.ref x.2.1, x.2.2) ∧ qs[j]? = some x.2.1 ∧ ps[j]? = some (V.ref x.2.1, kvs[j].2) := fun j hj => by
    obtain ⟨x, hxj, e1, e2, e3⟩ := paired_get rel (List.getElem?_eq_getElem hj)
    have hq : qs[j]? = some x.2.1 := by show (xs.map _)[j]? = _; rw [List.getElem?_map, hxj]; rfl
    refine ⟨x, hxj, by rw [← e1], by rw [← e1]; exact e2, e3, ?_, hq, ?_⟩
    · show (xs.map _)[j]? = _
      rw [List.getElem?_map, hxj]; rfl
    · show ((qs.zip kvs).map _)[j]? = _
      have hzz : (qs.zip kvs)[j]? = some (x.2.1, kvs[j]) := List.getElem?_zip_eq_some.mpr ⟨hq, List.getElem?_eq_getElem hj⟩
      rw [List.getElem?_map, hzz]
      rfl
  have fin : wpAny (model X.prog X.w) X.A (call (.type "list") [.ref s1.heap.objs.size]) (EP X pins σ Q) X.xe { s1 with heap := s1.heap.push { cls := .type "dict_items", data := .fields #[.ref d] } } := by
    generalize hh2 : s1.heap.push { cls := .type "dict_items", data := .fields #[.ref d] } = h2 at I2
    have hv2 : h2.IsItemsView s1.heap.objs.size d := by rw [← hh2]; exact ⟨_, Heap.get?_push_size _ rfl, rfl, rfl⟩
    have hm2 : RawKV h2 d vs ep := by rw [← hh2]; exact hraw.push _
    have nw : ∀ b, h2.objs.size ≤ b → H1 b = none := fun b hb => I2.hok.fresh hb
    refine PySem.W.kdx_callR (s := { s1 with heap := h2 }) (I.ok.hd hc) hv2 hm2 (by omega) fun h' tk acc c Ts hk hS hTl hG hacc => ?_
    have hle : h2.objs.size ≤ h2.objs.size := Nat.le_refl _
    have hTge : ∀ (j : Nat) T, Ts[j]? = some T → h2.objs.size < T := fun j T e => hG.above T (List.mem_of_getElem? e)
    have nd : Ts.Nodup := List.Pairwise.imp (fun h => Nat.ne_of_lt h) hG.rise
    have e1 : zP H1 h2.objs.size Ts ps h2.objs.size = some (.lst (Ts.map V.ref)) := if_pos rfl
    have e2 : ∀ (j : Nat) T p, Ts[j]? = some T → ps[j]? = some p → zP H1 h2.objs.size Ts ps T = some (.tup [p.1, p.2]) := fun j T p hT hx => by
      have hne : T ≠ h2.objs.size := Nat.ne_of_gt (hTge j T hT)
      have hjl : j < Ts.length := (List.getElem?_eq_some_iff.mp hT).1
      have hf : (List.range Ts.length).find? (fun j => decide (Ts[j]? = some T)) = some j := by
        cases hq : (List.range Ts.length).find? (fun j => decide (Ts[j]? = some T)) with
        | none => exact absurd (decide_eq_true hT) (by simpa using List.find?_eq_none.mp hq j (List.mem_range.mpr hjl))
        | some j' =>
          have h1 : Ts[j']? = some T := by simpa using List.find?_some hq
          exact congrArg some (nodup_ixA nd h1 hT)
      show (if T = h2.objs.size then _ else _) = _
      rw [if_neg hne, hf]
      simp only [hx]
    have lo : ∀ b, b < h2.objs.size → zP H1 h2.objs.size Ts ps b = H1 b := fun b hb => by
      have hne : b ≠ h2.objs.size := Nat.ne_of_lt hb
      have hf : (List.range Ts.length).find? (fun j => decide (Ts[j]? = some b)) = none := by
        rw [List.find?_eq_none]
        intro j _ hj
        have hj' := of_decide_eq_true hj
        exact absurd (Nat.lt_trans hb (hTge j b hj')) (Nat.lt_irrefl _)
      show (if b = h2.objs.size then _ else _) = _
      rw [if_neg hne, hf]
    have same : Same H1 (zP H1 h2.objs.size Ts ps) := fun b o e => by rw [lo b (I2.hok.lt e)]; exact e
    refine ⟨V.ref h2.objs.size, zP H1 h2.objs.size Ts ps, I2.laidAll (h' := h') (t' := tk) hk lo fun b o hb ho => ?_, rfl, q _ Ts qs _ (nw _ hle) (by rw [hTl, hvl]) hql same e1 (fun j q' k v hq hkv => ?_) fun j T q' k v hT hq hkv => ?_⟩
    · by_cases hbs : b = h2.objs.size
      · subst hbs
        rw [e1] at ho
        cases ho
        refine ⟨by rw [List.length_map, hTl]; omega, _, c, vals_refs Ts, ?_⟩
        rw [hS, ← hacc]
      · have ho' : (match (List.range Ts.length).find? (fun j => decide (Ts[j]? = some b)) with
          | some j => (match ps[j]? with | some p => some (HO.tup [p.1, p.2]) | _ => none)
          | none => H1 b) = some o := by
          unfold zP at ho
          rwa [if_neg hbs] at ho
        cases hq : (List.range Ts.length).find? (fun j => decide (Ts[j]? = some b)) with
        | none =>
          rw [hq] at ho'
          rw [nw b hb] at ho'
          cases ho'
        | some j =>
          rw [hq] at ho'
          have hT : Ts[j]? = some b := by simpa using List.find?_some hq
          obtain ⟨key, k, x, hkx, hkey, hg⟩ := hG.pairs j b hT
          have hjx : j < kvs.length := by have := (List.getElem?_eq_some_iff.mp hT).1; omega
          obtain ⟨y, _, _, _, ry, hvj, _, hpj⟩ := pget j hjx
          rw [hvj] at hkx
          cases hkx
          simp only [hpj] at ho'
          cases ho'
          rw [← hkey] at hg
          exact ⟨by show 2 ≤ sizeLine; decide, _, .cons rfl (.cons ry .nil), ⟨_, hg, rfl, _, rfl⟩⟩
    · have hjx := (List.getElem?_eq_some_iff.mp hkv).1
      obtain ⟨y, _, ek, hty, _, _, hqj, _⟩ := pget j hjx
      rw [hqj] at hq
      cases hq
      rw [List.getElem?_eq_getElem hjx, ek] at hkv
      cases hkv
      exact hty
    · have hjx := (List.getElem?_eq_some_iff.mp hkv).1
      obtain ⟨y, _, ek, _, _, _, hqj, hpj⟩ := pget j hjx
      rw [hqj] at hq
      cases hq
      have ev : kvs[j].2 = v := by
        rw [List.getElem?_eq_getElem hjx] at hkv
        exact congrArg Prod.snd (Option.some.inj hkv)
      have := e2 j T _ hT hpj
      rw [ev] at this
      exact this
  show wpAny _ _ (callWith cpos (.builtin "dict.items") [.ref d] [] []) _ X.xe s1
  exact method_meetsIn PySem.F.slot_dict_items PySem.F.entry_dict_items rfl (PySem.evalArgs_none ⟨rfl, hraw.typeIs, PySem.F.args_dict_items_1 _, _, PySem.W.meets_dict_itemsR d hs, ⟨⟨vs, ep, hraw⟩, Calls.spliced_nil fin⟩⟩)
end
end L2
set_option Elab.async false
set_option maxRecDepth 100000
set_option linter.all false
namespace L2
open PySem PySem.Spec PyProof.Rows PySem.W
section
variable {X : Cx}
theorem dt_raw {pins : List (Addr × Obj)} {σ : St} {H : Hp} {s : Shared} {d : Addr} {kvs : List (List Key × V)} (I : Inv X pins σ H s) (h : Rd H d (.dT kvs)) : (d == sysModules) = false ∧ ∃ o es ep, s.heap.get? d = some o ∧ o.ExactDict ∧ o.data = .dict es ep ∧ es.size = kvs.length ∧ kvs.length ≤ sizeLine := by
  obtain ⟨hz, hs, xs, rel, o, es, ep, ho, hx, hdt, hes, _, _⟩ := dt_rd I.hok h
  have hl : kvs.length = xs.length := Paired.length rel
  have le : es.size = xs.length := by simpa using congrArg List.length hes
  exact ⟨hs, o, es, ep, ho, hx, hdt, by omega, hz⟩
theorem meets_clear_raw {prog : Program} {w : World} {d : Addr} :
    MeetsIn prog w (Builtin.«dict.clear» ⟨[.ref d], []⟩) (fun _ R s => ∃ o es ep, s.heap.get? d = some o ∧ o.ExactDict ∧ o.data = .dict es ep ∧ es.size ≤ sizeLine ∧
      ∀ h' o' ep', h'.get? d = some o' → o'.ExactDict → o'.data = .dict #[] ep' → Heap.SameBut d s.heap h' → R (.ok (.ret .none)) { s with heap := h' }) :=
  .of_wp fun A R s ⟨o, es, ep, ho, hc, hdat, hes, h⟩ => by
    unfold Builtin.«dict.clear»
    refine wpAny_bind ?_
    unfold Builtin.Dict.noArgs
    refine wpAny_bind (wpAny_notOrdered_dict ⟨o, ho, hc.1⟩ ?_)
    show wpAny _ _ (pure d) _ _ s
    refine wpAny_pure ?_
    refine wpAny_bind (wpAny_dictEntries ho hdat ?_)
    refine wpAny_bind ?_
    unfold bearsInstanceDictMark
    refine wpAny_bind (wpAny_load ho (wpAny_pure ?_))
    refine wpAny_bind (wpAny_updateDictKeys (hz := hes) ho hdat ?_)
    have hnew := Heap.get?_update_self (Obj.mapDictKeys fun _ => #[]) ho (Obj.isFreed_of_dict (Obj.data_mapDictKeys hdat _))
    split
    · exact wpAny_bind (wpAny_letGo (wpAny_pure ⟨.none, rfl, h _ _ (ep + 1) hnew (hc.mapDictKeys _) (Obj.data_mapDictKeys hdat _) (Heap.SameBut.update ..)⟩))
    · exact wpAny_bind (wpAny_pure (wpAny_pure ⟨.none, rfl, h _ _ (ep + 1) hnew (hc.mapDictKeys _) (Obj.data_mapDictKeys hdat _) (Heap.SameBut.update ..)⟩))
/-- d.clear(), the keys tuples -/
theorem mt_dclearT : MtR X "dict.clear" (fun x xs H Q => ∃ (a : Addr) (kvs : List (List Key × V)), x = .ref a ∧ xs = [] ∧ H a = some (.dT kvs) ∧ Q .non (upd H a (.dT []))) := by
  intro pins s σ H x xs v us Q I rx rv h
  obtain ⟨a, kvs, rfl, rfl, e, q⟩ := h
  cases rv
  obtain rfl : v = Value.ref a := rx
  obtain ⟨hs, o, es, ep, ho, hx, hdt, hl, hz⟩ := dt_raw I (.inl e)
  refine call_meetsIn PySem.F.slot_dict_clear (T := "dict") ⟨o, ho, hx.1⟩ PySem.F.entry_dict_clear (PySem.F.args_dict_clear_1 _) meets_clear_raw ⟨o, es, ep, ho, hx, hdt, by omega, fun h' o' ep' g' x' d' hsb => ?_⟩
  exact ⟨.non, _, d_write (t' := s.toks) I (by rw [e]; exact True.intro) hsb ⟨o', g'⟩ (show ObjOk X.prog X.w _ h' a (.dT []) from ⟨Nat.zero_le _, hs, [], .nil, o', #[], ep', g', x', d', rfl, List.nodup_nil⟩), rfl, q⟩
/-- isinstance(d, dict) of a dict, the keys tuples -/
theorem call_isi_dictT : CallR X (.builtin "isinstance") (fun xs H Q => ∃ (a : Addr) (kvs : List (List Key × V)), xs = [.ref a, .ty "dict"] ∧ H a = some (.dT kvs) ∧ Q (.bl true) H) := by
  intro pins s σ H xs us Q I r h
  obtain ⟨a, kvs, rfl, e, q⟩ := h
  cases r with
  | cons r1 r =>
    cases r with
    | cons r2 r =>
      cases r
      cases r2
      cases r1
      obtain ⟨hs, o, es, ep, ho, hx, hdt, hl, hz⟩ := dt_raw I (.inl e)
      exact IsiPair.dict_dict ho hx.1 ⟨.bl true, H, I, rfl, q⟩
end
end L2
set_option Elab.async false
set_option maxRecDepth 100000
set_option linter.all false
namespace L2
open PySem PySem.Spec PyProof.Rows
section
variable {K : PySem.W.Frag} {g : TG} {σ : St} {H1 : Hp} {Qd : Hp → Prop} {B : (Hp → Prop) → St → Hp → Prop}
theorem walk_list {a : Addr} {xs : List V} (Pv : Nat → Hp → Prop) (h0 : Pv 0 H1) (hl : ∀ i H, i ≤ xs.length → Pv i H → SqL K H a xs)
    (hs : ∀ i x H, xs[i]? = some x → Pv i H → g x σ H (B (Pv (i + 1)))) (hd : ∀ H, Pv xs.length H → Qd H) :
    ∃ W : Nat → Nat → Hp → Prop, (∃ m, W 0 m H1) ∧ ∀ i m H, W i m H →
      ((Itl K a).stop i H ∧ Qd H) ∨ ((Itl K a).go i H ∧ ∃ Nx : Hp → Prop, (∀ H', Nx H' → ∃ m', m' < m ∧ W (i + 1) m' H') ∧ ∀ x H', (Itl K a).yld i H x H' → g x σ H' (B Nx)) := by
  refine ⟨fun i m H => m = xs.length - i ∧ i ≤ xs.length ∧ Pv i H, ⟨xs.length, by simp, Nat.zero_le _, h0⟩, ?_⟩
  rintro i m H ⟨rfl, hi, p⟩
  have q := hl i H hi p
  by_cases hlt : i < xs.length
  · refine .inr ⟨⟨xs, xs[i], q, by simp [hlt]⟩, Pv (i + 1), fun H' p' => ⟨xs.length - (i + 1), by omega, rfl, hlt, p'⟩, fun x H' y => ?_⟩
    obtain ⟨e, y⟩ := y
    subst e
    exact hs i x _ (y xs q) p
  · have e : i = xs.length := by omega
    subst e
    exact .inl ⟨⟨xs, q, Nat.le_refl _⟩, hd H p⟩
/-- over zip: a new pair each turn -/
theorem walk_zip {b1 b2 : Bool} {a b : Addr} {xs ys : List V} (Pv : Nat → Hp → Prop) (h0 : Pv 0 H1) (hl : ∀ i H, i ≤ min xs.length ys.length → Pv i H → SqX K b1 H a xs ∧ SqX K b2 H b ys)
    (hs : ∀ i x y T H, xs[i]? = some x → ys[i]? = some y → H T = none → Pv i H → g (.ref T) σ (upd H T (.tup [x, y])) (B (Pv (i + 1)))) (hd : ∀ H, Pv (min xs.length ys.length) H → Qd H) :
    ∃ W : Nat → Nat → Hp → Prop, (∃ m, W 0 m H1) ∧ ∀ i m H, W i m H →
      ((ItzG K b1 b2 a b).stop i H ∧ Qd H) ∨ ((ItzG K b1 b2 a b).go i H ∧ ∃ Nx : Hp → Prop, (∀ H', Nx H' → ∃ m', m' < m ∧ W (i + 1) m' H') ∧ ∀ x H', (ItzG K b1 b2 a b).yld i H x H' → g x σ H' (B Nx)) := by
  refine ⟨fun i m H => m = min xs.length ys.length - i ∧ i ≤ min xs.length ys.length ∧ Pv i H, ⟨_, rfl, Nat.zero_le _, h0⟩, ?_⟩
  rintro i m H ⟨rfl, hi, p⟩
  obtain ⟨q1, q2⟩ := hl i H hi p
  by_cases hlt : i < min xs.length ys.length
  · refine .inr ⟨⟨xs, ys, xs[i]'(by omega), ys[i]'(by omega), q1, q2, by simp [show i < xs.length by omega], by simp [show i < ys.length by omega]⟩, Pv (i + 1), fun H' p' => ⟨min xs.length ys.length - (i + 1), by omega, rfl, hlt, p'⟩, fun x H' y => ?_⟩
    obtain ⟨T, x, y, rfl, hT, rfl, hx, hy⟩ := y
    exact hs i x y T H (hx xs q1) (hy ys q2) hT p
  · have e : i = min xs.length ys.length := by omega
    subst e
    exact .inl ⟨⟨xs, ys, q1, q2, by omega⟩, hd H p⟩
end
end L2
set_option Elab.async false
set_option maxRecDepth 100000
set_option linter.all false
namespace L2
open PySem PySem.Spec PyProof.Rows
section
variable {prog : Program} {w : World} {A : Around} {E : Value → Shared → Prop} {s : Shared}
set_option maxRecDepth 100000 in
/-- list.__setitem__ with a slice of step one and another list -/
theorem setItem_sliceB {l b sl : Addr} {items new : Array Value} {n n2 : Nat} {vl vu : Value} {a c : Nat} {lo hi : Option Int} {Q : Unit → Shared → Prop}
    (e : s.heap.get? l = some { cls := .type "list", data := .seq items n }) (e2 : s.heap.get? b = some { cls := .type "list", data := .seq new n2 }) (hne : l ≠ b)
    (hs : s.heap.IsSliceOf sl vl vu .none) (pl : IsPart vl lo) (pu : IsPart vu hi) (hbd : sliceBounds lo hi none items.size = ((a : Int), (c : Int), 1)) (hac : a ≤ c) (hc : c ≤ items.size)
    (hsz : items.size + new.size ≤ sizeLine) (h : Q () { s with heap := s.heap.update l (Obj.mapSeq fun xs => xs.extract 0 a ++ new ++ xs.extract c xs.size) }) :
    wpAny (model prog w) A (setItem (.ref l) (.ref sl) (.ref b)) Q E s := by
  have hl : s.heap.IsList l items := PySem.IsL.isList e
  have hb : s.heap.IsList b new := PySem.IsL.isList e2
  obtain ⟨os, hos, hcs, hds⟩ := id hs
  have hTs : s.TypeIs (.ref sl) "slice" := ⟨os, hos, hcs⟩
  have hstep : ¬ ((rawPart none == rawInt 0) = true) := Bool.false_ne_true
  have hsame : Builtin.List.listSameRef (.ref l) (.ref b) = false := by
    unfold Builtin.List.listSameRef
    exact beq_eq_false_iff_ne.mpr hne
  have hmax : (max (a : Int) (c : Int)).toNat = c := by omega
  have hz' : ((fun xs : Array Value => xs.extract 0 a ++ new ++ xs.extract c xs.size) items).size ≤ sizeLine + 1 := by
    simp only [Array.size_append, Array.size_extract]
    omega
  unfold setItem
  try with_reducible refine wpAny_holding ?_
  first | refine wpAny_bind (wpAny_pure ?_) | skip
  refine wpAny_bind (wpAny_sequenceKey hl.typeIs (by decide) ?_)
  refine wpAny_bind (wpAny_callSpecial?_slot (name := Str.ofString "__setitem__") hl.typeIs slot_list_setitem
    (wpAny_call_entry slot_list_setitem hl.typeIs entry_list_setitem ?_ (args_list_setitem _ _ _)))
  show wpAny _ _ (Builtin.List.listSubscript? (.ref sl) >>= _) _ _ s
  refine wpAny_bind ?_
  unfold Builtin.List.listSubscript?
  refine wpAny_bind (wpAny_specialOf hTs slice_no_index ?_)
  simp only [Option.isNone_none, if_true]
  refine wpAny_pure ?_
  show wpAny _ _ (typeOf (.ref sl) >>= _) _ _ s
  refine wpAny_bind (wpAny_typeOf hTs ?_)
  first
    | rw [if_neg (by decide)]
    | refine PySem.W.KFB.if_not (by decide) ?_
  rw [listSliceParts_eq]
  refine wpAny_bind (wpAny_bind (wpAny_field hos hds (x := .none) rfl (wpAny_bind (wpAny_listPart .none ?_))))
  rw [if_neg hstep]
  refine wpAny_bind (wpAny_field hos hds (x := vl) rfl (wpAny_bind (wpAny_listPart pl ?_)))
  refine wpAny_bind (wpAny_field hos hds (x := vu) rfl (wpAny_bind (wpAny_listPart pu (wpAny_pure ?_))))
  first
    | simp only [hsame, Bool.false_eq_true, if_false]
    | refine PySem.W.KFB.if_not hsame ?_
    | (dsimp only
       rw [if_neg (by rw [hsame]; exact Bool.false_ne_true)])
  refine wpAny_bind (m := Builtin.List.listAllItems (.ref b) "must assign iterable to extended slice") ?_
  unfold Builtin.List.listAllItems
  refine wpAny_bind (wpAny_typeOf hb.typeIs ?_)
  first
    | refine PySem.W.KFB.if_so (by decide) ?_
    | rw [if_pos (by decide)]
    | simp only [beq_self_eq_true, Bool.true_or, if_true]
  unfold Builtin.List.listItems
  refine wpAny_bind (wpAny_seqItems e2 rfl (wpAny_pure ?_))
  refine wpAny_bind (wpAny_bind (wpAny_seqItems e rfl (wpAny_pure ?_)))
  refine wpAny_bind (wpAny_of_eq ((sliceIndices_raw lo hi none items.size (by simp)).trans (congrArg (pure : Int × Int × Int → Sem (Int × Int × Int)) hbd)) ?_)
  show wpAny _ _ (if ((1 : Int) == 1) = true then _ else _) _ _ s
  rw [if_pos (by decide)]
  refine wpAny_bind (wpAny_rule ?_)
  first
    | simp only [notLongL hsz, Bool.false_eq_true, if_false]
    | refine PySem.W.KFB.if_not (notLongL hsz) ?_
  first | refine wpAny_bind (wpAny_pure ?_) | skip
  show wpAny _ _ (updateSeq l (fun xs => xs.extract 0 ((a : Int)).toNat ++ new ++ xs.extract (max (a : Int) (c : Int)).toNat xs.size) >>= _) _ _ s
  rw [hmax, Int.toNat_natCast]
  refine wpAny_bind (wpAny_updateSeq (hz := Nat.le_trans (Nat.le_add_right _ _) hsz) (_hz' := hz') e rfl ?_)
  refine wpAny_bind (wpAny_letGo ?_)
  first
    | exact wpAny_bind (wpAny_pure (wpAny_pure ⟨.none, rfl, wpAny_pure h⟩))
    | exact wpAny_pure ⟨.none, rfl, wpAny_pure h⟩
end
section
variable {X : Cx} {o : Expr} {to : TE} {lo hi : Option Expr} {tl th : TO} {pos p2 : Pos}
/-- xs[lo:hi] = ys, another list -/
def gSlG (to : TE) (tl th : TO) : TG := fun v σ H Q => to σ H fun x H1 => tl σ H1 fun l H2 => th σ H2 fun u H3 => ∃ (p b : Addr) (xs ys : List V) (a c : Nat), x = .ref p ∧ v = .ref b ∧ H3 p = some (.lst xs) ∧ H3 b = some (.lst ys) ∧ p ≠ b ∧
  u = some (c : Int) ∧ (l = none ∧ a = 0 ∨ l = some (a : Int)) ∧ a ≤ c ∧ xs.length + ys.length ≤ sizeLine ∧ Q σ (upd H3 p (.lst (xs.take a ++ ys ++ xs.drop c)))
theorem pg_sliceG (ho : PE X o to) (hl : PO X lo tl) (hh : PO X hi th)
    (ha : ∀ v, assign (.Subscript o (.Slice lo hi none p2) pos) X.env v = (do
      let ov ← holding [v] (eval o X.env)
      let iv ← holding [v, ov] (eval (.Slice lo hi none p2) X.env)
      standAt pos
      holding [v, ov, iv] (setItem ov iv v)
      release [iv, v, ov] []) := by intro _; rfl) : PG X (.Subscript o (.Slice lo hi none p2) pos) (gSlG to tl th) := by
  intro pins s σ H v u Q I r h
  rw [ha]
  refine wpAny_bind (wpAny_holding (thn (ho pins s σ H _ I h) fun ov s1 ⟨x, H1, I1, r1, q1⟩ => ?_))
  refine wpAny_bind (wpAny_holding (wpAny_Slice (thn (hl pins s1 σ H1 _ I1 q1) fun vl s2 ⟨l, H2, I2, pl, q2⟩ => thn (hh pins s2 σ H2 _ I2 q2) fun vu s3 ⟨uu, H3, I3, pu, q3⟩ => ?_)))
  rw [evalPart_none]
  refine wpAny_pure ?_
  have I4 : Inv X pins σ H3 { s3 with heap := s3.heap.push { cls := .type "slice", data := .fields #[vl, vu, .none] } } := I3.kept (t' := s3.toks) fun b ob q => Heap.get?_push_of_some _ q
  have hs : ({ s3 with heap := s3.heap.push { cls := .type "slice", data := .fields #[vl, vu, .none] } } : Shared).heap.IsSliceOf s3.heap.objs.size vl vu .none := Heap.IsSliceOf.new ..
  obtain ⟨p, b, xs, ys, a, c, rfl, rfl, hH, hB, hne, rfl, hl', hac, hz, q⟩ := q3
  cases r1
  cases r
  obtain ⟨z, its, n, rr, hll, e⟩ := I4.lstM hH
  obtain ⟨z2, its2, n2, r2, hl2, e2⟩ := I4.lstM hB
  refine wpAny_bind (wpAny_standAt (wpAny_bind (wpAny_holding ?_)))
  have hvv : Vals (xs.take a ++ ys ++ xs.drop c) (its.take (min a its.length) ++ its2 ++ its.drop (min c its.length)) := by
    have e1 : its.take (min a its.length) = its.take a := by rw [List.take_eq_take_iff]; omega
    have e3 : its.drop (min c its.length) = its.drop c := by
      by_cases h : c ≤ its.length
      · rw [Nat.min_eq_left h]
      · rw [Nat.min_eq_right (by omega), List.drop_eq_nil_of_le (Nat.le_refl _), List.drop_eq_nil_of_le (by omega)]
    rw [e1, e3]
    exact Vals.append (Vals.append (rr.take _) r2) (rr.drop _)
  have fin : ∀ s', s' = { ({ s3 with heap := s3.heap.push { cls := .type "slice", data := .fields #[vl, vu, .none] } } : Shared) with heap := ({ s3 with heap := s3.heap.push { cls := .type "slice", data := .fields #[vl, vu, .none] } } : Shared).heap.update p (Obj.mapSeq fun xs => xs.extract 0 (min a its.length) ++ its2.toArray ++ xs.extract (min c its.length) xs.size) } →
      wpAny (model X.prog X.w) X.A (release [Value.ref s3.heap.objs.size, Value.ref b, Value.ref p] []) (fun _ s' => ∃ σ' H', Inv X pins σ' H' s' ∧ Q σ' H') X.xe s' := by
    rintro s' rfl
    refine wpAny_release ⟨σ, _, I4.lset (its' := its.take (min a its.length) ++ its2 ++ its.drop (min c its.length)) (t' := s3.toks) hH e ?_ hvv ?_, q⟩
    · exact splice_eq its its2 _ _
    · rw [List.length_append, List.length_append, List.length_take, List.length_drop]
      omega
  have hb : sliceBounds l (some (c : Int)) none its.toArray.size = (((min a its.length : Nat) : Int), ((min c its.length : Nat) : Int), 1) := by
    rw [List.size_toArray]
    rcases hl' with ⟨rfl, rfl⟩ | rfl
    · rw [Nat.zero_min]
      simp only [sliceBounds, Option.getD_none]
      have h2 : ¬ ((c : Int) < 0) := by omega
      simp only [h2, if_false, show (1 : Int) > 0 by decide, if_true]
      congr 1
      congr 1; omega
    · simp only [sliceBounds, Option.getD_none]
      have h1 : ¬ ((a : Int) < 0) := by omega
      have h2 : ¬ ((c : Int) < 0) := by omega
      simp only [h1, h2, if_false, show (1 : Int) > 0 by decide, if_true]
      congr 1
      · omega
      · congr 1; omega
  refine setItem_sliceB (a := min a its.length) (c := min c its.length) e e2 hne hs pl pu hb (by omega) (by rw [List.size_toArray]; omega) (by rw [List.size_toArray, List.size_toArray]; omega) ?_
  exact fin _ rfl
end
end L2
set_option Elab.async false
set_option maxRecDepth 100000
set_option linter.all false
namespace L2
open PySem PySem.Spec PyProof.Rows
theorem pe_dictzipK {X : Cx} {K : PySem.W.Frag} (hK : X.K = K) {e e2 : Expr} {ta : TA} {p p2 pos pos2 : Pos} (hc : X.calm = true) (hg : Gl X "dict") (hm : X.mg "dict" = none) (hg2 : Gl X "zip") (hm2 : X.mg "zip" = none) (ha : PA X [e, e2] ta)
    (hs : starEach [e, e2] X.env = (false, eval e X.env) :: starEach [e2] X.env := by rfl) (hpl : (backTo pos2 (starEach [e2] X.env)).any (·.1) = false := by rfl) :
    PE X (.Call (.Name "dict" p) [.Call (.Name "zip" p2) [e, e2] [] pos2] [] pos) (tDZ K ta) := by
  subst hK
  exact pe_dictzip hc hg hm hg2 hm2 ha hs hpl
theorem pa_starK {X : Cx} {K : PySem.W.Frag} (hK : X.K = K) {e : Expr} {te : TE} {es : List Expr} {t : TA} {sp : Pos} (ha : PE X e te) (hr : PA X es t) : PA X (.Starred e sp :: es) (tStar K te t) := by
  subst hK
  exact pa_star ha hr
section
variable {X : Cx}
theorem cat_tup0 {prog : Program} {w : World} {A : Around} {E : Value → Shared → Prop} {s : Shared} {t b : Addr} {vs ws : List Value} {Q : Value → Shared → Prop} (ht : IsTup s.heap t vs.toArray) (hb : IsTup s.heap b ws.toArray) (hv : vs = []) (h1 : Q (.ref b) s) :
    wpAny (model prog w) A (binaryOp .Add (.ref t) (.ref b)) Q E s := by
  obtain ⟨⟨cls, dd, data, sl⟩, ho, hc, n, hd⟩ := id ht
  obtain ⟨⟨cls2, dd2, data2, sl2⟩, ho2, hc2, n2, hd2⟩ := id hb
  simp only at hc hd hc2 hd2
  subst hc hd hc2 hd2
  exact concat_meets ⟨_, ho, rfl⟩ ⟨_, ho2, rfl⟩ noFill_tuple_add seq_tuple_add PySem.F.slot_tuple_add PySem.F.entry_tuple_add (PySem.F.args_tuple_add_2 _ _)
    (tuple_addW0 t b vs.toArray ws.toArray n n2 dd dd2 sl sl2 (by simp [hv])) ⟨ho, ho2, h1⟩
/-- t + u, u not empty and alive: a tuple alive -/
def rCatN (K : PySem.W.Frag) : R2 := fun x y H Q => ∃ a b xs ys, x = .ref a ∧ y = .ref b ∧ SqT K H a xs ∧ H b = some (.tup ys) ∧ ys ≠ [] ∧ xs.length + ys.length ≤ sizeLine ∧ ∀ p H', H' p = some (.tup (xs ++ ys)) → Same H H' → Q (.ref p) H'
theorem op_catN : OpR X (binaryOp .Add) (rCatN X.K) := by
  intro pins s σ H x y v u Q I rx ry h
  obtain ⟨a, b, xs, ys, rfl, rfl, ha, hb, hy, hz, q⟩ := h
  by_cases hx : xs = []
  · subst hx
    cases rx
    cases ry
    obtain ⟨its, r1, p1, _⟩ := I.tuple ha
    obtain ⟨its2, r2, p2, _⟩ := I.tuple (a := b) (xs := ys) (.inl (.inl hb))
    exact cat_tup0 p1 p2 (r1.nil_iff.mpr rfl) ⟨.ref b, H, I, rfl, q b H (by rw [List.nil_append]; exact hb) (fun _ _ h => h)⟩
  · exact op_catT pins s σ H _ _ v u Q I rx ry ⟨a, b, xs, ys, rfl, rfl, ha, .inl (.inl hb), hx, hz, fun e => absurd e hy, fun _ p hp => q p _ upd_same (fun c o e => by rw [upd_ne (ne_of_none e hp)]; exact e)⟩
theorem op_catNK {K : PySem.W.Frag} (h : X.K = K) : OpR X (binaryOp .Add) (rCatN K) := by subst h; exact op_catN
theorem cr_allK {K : PySem.W.Frag} (h : X.K = K) (hc : X.calm = true) : CallR X (.builtin "all") (rAll K) := by subst h; exact cr_all hc
end
end L2
set_option Elab.async false
set_option maxRecDepth 100000
set_option linter.all false
namespace My
open PySem L2
def top (i : Nat) : Stmt := PySem.Challenge.pw_chancetongue_k22_what_unknowns_may_be.main.body.getD i (.Pass ⟨0, 0, 0, 0⟩)
abbrev s_joined : Stmt := top 4
abbrev s_value_of : Stmt := top 5
abbrev s_greatest_divisor : Stmt := top 8
abbrev s_share_of : Stmt := top 9
abbrev s_sum_of : Stmt := top 10
abbrev s_product_of : Stmt := top 11
abbrev s_add_share : Stmt := top 13
abbrev s_ways_on : Stmt := top 14
abbrev s_ways_of_unknowns : Stmt := top 16
abbrev s_prior_of : Stmt := top 17
abbrev s_L_deal : Stmt := top 19
abbrev s_L_draw : Stmt := top 20
abbrev s_L_words : Stmt := top 21
abbrev s_L_number : Stmt := top 22
abbrev s_L_expr : Stmt := top 23
abbrev s_L_test : Stmt := top 24
abbrev s_L_value : Stmt := top 25
abbrev s_L_lowest : Stmt := top 26
abbrev s_L_times_both : Stmt := top 27
abbrev s_L_sum : Stmt := top 28
abbrev s_L_on : Stmt := top 29
abbrev s_L_choices : Stmt := top 30
abbrev s_L_unknowns : Stmt := top 31
abbrev s_law : Stmt := top 32
abbrev nm_joined : List Str := ["sign", "one", "other"]
abbrev ps_joined : List Str := ["sign", "one", "other"]
theorem sc_joined : FnScope nm_joined ps_joined (defScope s_joined) := ⟨rfl, rfl, rfl, by decide +kernel, rfl, by decide +kernel, by decide +kernel⟩
abbrev nm_value_of : List Str := ["expression", "known", "kind", "chosen"]
abbrev ps_value_of : List Str := ["expression", "known"]
theorem sc_value_of : FnScope nm_value_of ps_value_of (defScope s_value_of) := ⟨rfl, rfl, rfl, by decide +kernel, rfl, by decide +kernel, by decide +kernel⟩
abbrev nm_greatest_divisor : List Str := ["one", "other"]
abbrev ps_greatest_divisor : List Str := ["one", "other"]
theorem sc_greatest_divisor : FnScope nm_greatest_divisor ps_greatest_divisor (defScope s_greatest_divisor) := ⟨rfl, rfl, rfl, by decide +kernel, rfl, by decide +kernel, by decide +kernel⟩
abbrev nm_share_of : List Str := ["upper", "lower", "divisor"]
abbrev ps_share_of : List Str := ["upper", "lower"]
theorem sc_share_of : FnScope nm_share_of ps_share_of (defScope s_share_of) := ⟨rfl, rfl, rfl, by decide +kernel, rfl, by decide +kernel, by decide +kernel⟩
abbrev nm_sum_of : List Str := ["one", "other"]
abbrev ps_sum_of : List Str := ["one", "other"]
theorem sc_sum_of : FnScope nm_sum_of ps_sum_of (defScope s_sum_of) := ⟨rfl, rfl, rfl, by decide +kernel, rfl, by decide +kernel, by decide +kernel⟩
abbrev nm_product_of : List Str := ["one", "other"]
abbrev ps_product_of : List Str := ["one", "other"]
theorem sc_product_of : FnScope nm_product_of ps_product_of (defScope s_product_of) := ⟨rfl, rfl, rfl, by decide +kernel, rfl, by decide +kernel, by decide +kernel⟩
abbrev nm_add_share : List Str := ["table", "key", "share"]
abbrev ps_add_share : List Str := ["table", "key", "share"]
theorem sc_add_share : FnScope nm_add_share ps_add_share (defScope s_add_share) := ⟨rfl, rfl, rfl, by decide +kernel, rfl, by decide +kernel, by decide +kernel⟩
abbrev nm_ways_on : List Str := ["alts", "known", "weights", "whole", "weight", "value", "own"]
abbrev ps_ways_on : List Str := ["alts", "known"]
theorem sc_ways_on : FnScope nm_ways_on ps_ways_on (defScope s_ways_on) := ⟨rfl, rfl, rfl, by decide +kernel, rfl, by decide +kernel, by decide +kernel⟩
abbrev nm_ways_of_unknowns : List Str := ["book", "names", "ways", "name", "alts", "share", "values", "part", "value"]
abbrev ps_ways_of_unknowns : List Str := ["book"]
theorem sc_ways_of_unknowns : FnScope nm_ways_of_unknowns ps_ways_of_unknowns (defScope s_ways_of_unknowns) := ⟨rfl, rfl, rfl, by decide +kernel, rfl, by decide +kernel, by decide +kernel⟩
abbrev nm_prior_of : List Str := ["book", "prior", "share", "values"]
abbrev ps_prior_of : List Str := ["book"]
theorem sc_prior_of : FnScope nm_prior_of ps_prior_of (defScope s_prior_of) := ⟨rfl, rfl, rfl, by decide +kernel, rfl, by decide +kernel, by decide +kernel⟩
abbrev nm_L_deal : List Str := ["_law_script", "_law_base", "_law_some", "_law_number_here", "_law_one"]
abbrev ps_L_deal : List Str := ["_law_script", "_law_base"]
theorem sc_L_deal : FnScope nm_L_deal ps_L_deal (defScope s_L_deal) := ⟨rfl, rfl, rfl, by decide +kernel, rfl, by decide +kernel, by decide +kernel⟩
abbrev nm_L_draw : List Str := ["_law_deal_here", "_law_many", "_law_number_here", "_law_one", "_law_other"]
abbrev ps_L_draw : List Str := ["_law_deal_here", "_law_many"]
theorem sc_L_draw : FnScope nm_L_draw ps_L_draw (defScope s_L_draw) := ⟨rfl, rfl, rfl, by decide +kernel, rfl, by decide +kernel, by decide +kernel⟩
abbrev nm_L_words : List Str := ["_law_deal_here", "_law_many", "_law_letters", "_law_core", "_law_found", "_law_k", "_law_form", "_law_spot", "_law_turn", "_law_own", "_law_chain"]
abbrev ps_L_words : List Str := ["_law_deal_here", "_law_many"]
theorem sc_L_words : FnScope nm_L_words ps_L_words (defScope s_L_words) := ⟨rfl, rfl, rfl, by decide +kernel, rfl, by decide +kernel, by decide +kernel⟩
abbrev nm_L_number : List Str := ["_law_deal_here"]
abbrev ps_L_number : List Str := ["_law_deal_here"]
theorem sc_L_number : FnScope nm_L_number ps_L_number (defScope s_L_number) := ⟨rfl, rfl, rfl, by decide +kernel, rfl, by decide +kernel, by decide +kernel⟩
abbrev nm_L_expr : List Str := ["_law_deal_here", "_law_names", "_law_deep", "_law_form", "_law_a", "_law_b"]
abbrev ps_L_expr : List Str := ["_law_deal_here", "_law_names", "_law_deep"]
theorem sc_L_expr : FnScope nm_L_expr ps_L_expr (defScope s_L_expr) := ⟨rfl, rfl, rfl, by decide +kernel, rfl, by decide +kernel, by decide +kernel⟩
abbrev nm_L_test : List Str := ["_law_deal_here", "_law_names", "_law_a", "_law_b"]
abbrev ps_L_test : List Str := ["_law_deal_here", "_law_names"]
theorem sc_L_test : FnScope nm_L_test ps_L_test (defScope s_L_test) := ⟨rfl, rfl, rfl, by decide +kernel, rfl, by decide +kernel, by decide +kernel⟩
abbrev nm_L_value : List Str := ["_law_term", "_law_known", "_law_word", "_law_some", "_law_came", "_law_a", "_law_b", "_law_one"]
abbrev ps_L_value : List Str := ["_law_term", "_law_known"]
theorem sc_L_value : FnScope nm_L_value ps_L_value (defScope s_L_value) := ⟨rfl, rfl, rfl, by decide +kernel, rfl, by decide +kernel, by decide +kernel⟩
abbrev nm_L_lowest : List Str := ["_law_upper", "_law_lower", "_law_one", "_law_other"]
abbrev ps_L_lowest : List Str := ["_law_upper", "_law_lower"]
theorem sc_L_lowest : FnScope nm_L_lowest ps_L_lowest (defScope s_L_lowest) := ⟨rfl, rfl, rfl, by decide +kernel, rfl, by decide +kernel, by decide +kernel⟩
abbrev nm_L_times_both : List Str := ["_law_one", "_law_other"]
abbrev ps_L_times_both : List Str := ["_law_one", "_law_other"]
theorem sc_L_times_both : FnScope nm_L_times_both ps_L_times_both (defScope s_L_times_both) := ⟨rfl, rfl, rfl, by decide +kernel, rfl, by decide +kernel, by decide +kernel⟩
abbrev nm_L_sum : List Str := ["_law_some", "_law_found", "_law_upper", "_law_lower"]
abbrev ps_L_sum : List Str := ["_law_some"]
theorem sc_L_sum : FnScope nm_L_sum ps_L_sum (defScope s_L_sum) := ⟨rfl, rfl, rfl, by decide +kernel, rfl, by decide +kernel, by decide +kernel⟩
abbrev nm_L_on : List Str := ["_law_alts", "_law_known", "_law_weights", "_law_found", "_law_k", "_law_weight", "_law_worth"]
abbrev ps_L_on : List Str := ["_law_alts", "_law_known"]
theorem sc_L_on : FnScope nm_L_on ps_L_on (defScope s_L_on) := ⟨rfl, rfl, rfl, by decide +kernel, rfl, by decide +kernel, by decide +kernel⟩
abbrev nm_L_choices : List Str := ["_law_book", "_law_found", "_law_x", "_law_alts", "_law_longer", "_law_share", "_law_values", "_law_known", "_law_more", "_law_worth", "_law_name", "_law_other"]
abbrev ps_L_choices : List Str := ["_law_book"]
theorem sc_L_choices : FnScope nm_L_choices ps_L_choices (defScope s_L_choices) := ⟨rfl, rfl, rfl, by decide +kernel, rfl, by decide +kernel, by decide +kernel⟩
abbrev nm_L_unknowns : List Str := ["_law_deal_here", "_law_words_here", "_law_found", "_law_k", "_law_low", "_law_j", "_law_names", "_law_alts", "_law_weight", "_law_worth", "_law_x", "_law_other", "_law_part"]
abbrev ps_L_unknowns : List Str := ["_law_deal_here", "_law_words_here"]
theorem sc_L_unknowns : FnScope nm_L_unknowns ps_L_unknowns (defScope s_L_unknowns) := ⟨rfl, rfl, rfl, by decide +kernel, rfl, by decide +kernel, by decide +kernel⟩
abbrev nm_law : List Str := ["_law_script", "_law_deal_here", "_law_cases", "_law_turn", "_law_words_here", "_law_book", "_law_due", "_law_share", "_law_values", "_law_found"]
abbrev ps_law : List Str := ["_law_script"]
theorem sc_law : FnScope nm_law ps_law (defScope s_law) := ⟨rfl, rfl, rfl, by decide +kernel, rfl, by decide +kernel, by decide +kernel⟩
def letters : Str := "abcdefghijklmnopqrstuvwxyz"
structure Zb (mg : Str → Option Value) : Prop where
  ZeroDivisionError : mg "ZeroDivisionError" = none
  abs : mg "abs" = none
  all : mg "all" = none
  dict : mg "dict" = none
  enumerate : mg "enumerate" = none
  int : mg "int" = none
  isinstance : mg "isinstance" = none
  len : mg "len" = none
  list : mg "list" = none
  max : mg "max" = none
  min : mg "min" = none
  range : mg "range" = none
  repr : mg "repr" = none
  reversed : mg "reversed" = none
  sorted : mg "sorted" = none
  sum : mg "sum" = none
  tuple : mg "tuple" = none
  zip : mg "zip" = none
  LIMIT : ∃ t, mg "LIMIT" = some (.int 1000 t)
def dealKV (s n : Int) (l : Addr) : List (Key × V) := [(Sum.inr "seed", .int s), (Sum.inr "number", .int n), (Sum.inr "left", .ref l)]
theorem k_sn : ¬ (Sum.inr ("seed" : Str) : Key) = Sum.inr ("number" : Str) := by decide +kernel
theorem k_sl : ¬ (Sum.inr ("seed" : Str) : Key) = Sum.inr ("left" : Str) := by decide +kernel
theorem k_nl : ¬ (Sum.inr ("number" : Str) : Key) = Sum.inr ("left" : Str) := by decide +kernel
theorem dv_s {s n : Int} {l : Addr} : valV (dealKV s n l) (Sum.inr "seed") = some (.int s) := valV_pos rfl
theorem dv_n {s n : Int} {l : Addr} : valV (dealKV s n l) (Sum.inr "number") = some (.int n) := (valV_neg k_sn).trans (valV_pos rfl)
theorem dv_l {s n : Int} {l : Addr} : valV (dealKV s n l) (Sum.inr "left") = some (.ref l) := (valV_neg k_sl).trans ((valV_neg k_nl).trans (valV_pos rfl))
theorem dp_s {s n : Int} {l : Addr} (x : Int) : putK (dealKV s n l) (Sum.inr "seed") (.int x) = dealKV x n l := by
  unfold putK dealKV
  have e1 : ¬ ("number" : Str) = "seed" := by decide +kernel
  have e2 : ¬ ("left" : Str) = "seed" := by decide +kernel
  simp [e1, e2]
theorem dp_n {s n : Int} {l : Addr} (x : Int) : putK (dealKV s n l) (Sum.inr "number") (.int x) = dealKV s x l := by
  unfold putK dealKV
  have e1 : ¬ ("seed" : Str) = "number" := by decide +kernel
  have e2 : ¬ ("left" : Str) = "number" := by decide +kernel
  simp [e1, e2]
theorem g_s {H : Hp} {d l : Addr} {s n : Int} (h : H d = some (.dK (dealKV s n l))) : DGet H d (.str "seed") (some (.int s)) := .inl ⟨_, Sum.inr "seed", .inl h, rfl, dv_s.symm⟩
theorem g_n {H : Hp} {d l : Addr} {s n : Int} (h : H d = some (.dK (dealKV s n l))) : DGet H d (.str "number") (some (.int n)) := .inl ⟨_, Sum.inr "number", .inl h, rfl, dv_n.symm⟩
theorem g_l {H : Hp} {d l : Addr} {s n : Int} (h : H d = some (.dK (dealKV s n l))) : DGet H d (.str "left") (some (.ref l)) := .inl ⟨_, Sum.inr "left", .inl h, rfl, dv_l.symm⟩
theorem p_s {H : Hp} {d l : Addr} {s n : Int} (x : Int) (h : H d = some (.dK (dealKV s n l))) : DPut H d (.str "seed") (.int x) (upd H d (.dK (dealKV x n l))) := .inl ⟨_, Sum.inr "seed", h, rfl, (by show 3 < sizeLine; decide), by rw [dp_s]⟩
theorem p_n {H : Hp} {d l : Addr} {s n : Int} (x : Int) (h : H d = some (.dK (dealKV s n l))) : DPut H d (.str "number") (.int x) (upd H d (.dK (dealKV s x l))) := .inl ⟨_, Sum.inr "number", h, rfl, (by show 3 < sizeLine; decide), by rw [dp_n]⟩
/-- the deal stands at d, its list at l -/
structure Deal (H : Hp) (d l : Addr) : Prop where
  ex : ∃ (s n : Int) (ls : List Int), H d = some (.dK (dealKV s n l)) ∧ H l = some (.lst (ls.map V.int)) ∧ 0 ≤ s ∧ s < 2147483647 ∧ 0 ≤ n ∧ ∀ x ∈ ls, 0 < x
/-- all else stands -/
def Ext (d l : Addr) (H H' : Hp) : Prop := ∀ b o, H b = some o → b ≠ d → b ≠ l → H' b = some o
theorem Ext.refl {d l : Addr} (H : Hp) : Ext d l H H := fun _ _ h _ _ => h
theorem Ext.trans {d l : Addr} {H H1 H2 : Hp} (a : Ext d l H H1) (b : Ext d l H1 H2) : Ext d l H H2 := fun c o h hd hl => b c o (a c o h hd hl) hd hl
theorem Ext.new {d l p : Addr} {H : Hp} {o : HO} (h : H p = none) : Ext d l H (upd H p o) := fun b u q _ _ => by rw [upd_ne (ne_of_none q h)]; exact q
theorem Deal.ne {H : Hp} {d l : Addr} (D : Deal H d l) : d ≠ l := by
  obtain ⟨s, n, ls, h1, h2, _⟩ := D
  exact ne_of h1 h2 (by intro z; cases z)
theorem Deal.same {H H' : Hp} {d l : Addr} (D : Deal H d l) (h : Same H H') : Deal H' d l := by
  obtain ⟨s, n, ls, h1, h2, r⟩ := D
  exact ⟨s, n, ls, h _ _ h1, h _ _ h2, r⟩
theorem Deal.new {H : Hp} {d l p : Addr} {o : HO} (D : Deal H d l) (h : H p = none) : Deal (upd H p o) d l := D.same fun b u q => by rw [upd_ne (ne_of_none q h)]; exact q
def spDraw : Sp := fun vs H Q _ => ∃ (d l : Addr) (m : Int), vs = [.ref d, .int m] ∧ Deal H d l ∧ 0 < m ∧ m < 1073741824 ∧
  ∀ (r : Int) (H' : Hp), 0 ≤ r → r < m → Deal H' d l → Ext d l H H' → Q (.int r) H'
theorem emod_b {a b : Int} (h : 0 < b) : 0 ≤ a % b ∧ a % b < b := ⟨Int.emod_nonneg _ (by omega), Int.emod_lt_of_pos _ h⟩
section
variable {P : Program} {w : World} {K : PySem.W.Frag} {mg : Str → Option Value} {base : Heap}
theorem ok_draw {f : Addr} {fd : FuncData} (F : Fun K "_law_draw" "_law_draw" s_L_draw f fd) (Z : Zb mg) : FnOk P w K mg base CX0 1 f fd ps_L_draw spDraw := by
  refine F.ok sc_L_draw (fun vs H Q E h => ?_) (fun cdv A outer s H vs Q E hr h => ?_)
  · obtain ⟨d, l, m, rfl, _⟩ := h
    rfl
  · obtain ⟨d, l, m, rfl, D, h0, h1, k⟩ := h
    have hu := hu_of hr
    have ndl := D.ne
    refine ⟨_, (pss_cons (ps_while PassesOwn.never (PW.pt (pw_and (pt_cmpR op_eq (pe_dget hu (pv 0) pe_str (fun _ _ => rfl)) pe_int (nomark _)) (pw_and1 (pt_cmpR op_gt (pe_callB call_len_seq (by rfl) Z.len (by decide +kernel) (pa_cons (pe_dget hu (pv 0) pe_str (fun _ _ => rfl)) pa_nil)) pe_int (nomark _))))) (pss_one (ps_dput hu (pv 0) pe_str (pe_bm0 PySem.F.plainAttrs_list PySem.F.slot_list_pop PySem.F.type_list_pop mt_pop (pe_dget hu (pv 0) pe_str (fun _ _ => rfl))) rfl)))
      (pss_cons (ps_set (i := 2) sc_L_draw.nd rfl (by first | exact Or.inl rfl | exact Or.inr rfl) (pe_dget hu (pv 0) pe_str (fun _ _ => rfl)))
      (pss_cons (ps_if (pt_cmpR op_gt (pv 2) pe_int (nomark _)) (pss_cons (ps_dput hu (pv 0) pe_str (pe_op op_fdiv (pv 2) (pv 1)) rfl)
      (pss_one (ps_ret (pe_op op_mod (pv 2) (pv 1))))) pss_nil)
      (pss_cons (ps_set (i := 3) sc_L_draw.nd rfl (by first | exact Or.inl rfl | exact Or.inr rfl) (pe_op op_mod (pe_op op_add (pe_op op_mul (pe_dget hu (pv 0) pe_str (fun _ _ => rfl)) pe_int) pe_int) pe_int))
      (pss_cons (ps_dput hu (pv 0) pe_str (pe_op op_mod (pe_op op_add (pe_op op_mul (pv 3) pe_int) pe_int) pe_int) rfl)
      (pss_cons (ps_set (i := 4) sc_L_draw.nd rfl (by first | exact Or.inl rfl | exact Or.inr rfl) (pe_op op_mod (pe_op op_mul (pe_dget hu (pv 0) pe_str (fun _ _ => rfl)) (pe_dget hu (pv 0) pe_str (fun _ _ => rfl))) pe_int))
      (pss_one (ps_ret (pe_op op_mod (pe_op op_add (pe_op op_mul (pe_op op_mod (pe_op op_mul (pv 3) (pv 3)) pe_int) pe_int) (pv 4)) (pv 1)))))))))), ?_⟩
    -- while
    refine ⟨fun mm σ H2 => ∃ (s n : Int) (ls : List Int), mm = ls.length ∧ σ = [some (.ref d), some (.int m), none, none, none] ∧ H2 d = some (.dK (dealKV s n l)) ∧ H2 l = some (.lst (ls.map V.int)) ∧ 0 ≤ s ∧ s < 2147483647 ∧ 0 ≤ n ∧ (∀ x ∈ ls, 0 < x) ∧ Ext d l H H2, ?_, ?_⟩
    · obtain ⟨s, n, ls, a1, a2, a3, a4, a5, a6⟩ := D
      exact ⟨_, s, n, ls, rfl, rfl, a1, a2, a3, a4, a5, a6, Ext.refl H⟩
    rintro mm σ H2 ⟨s, n, ls, rfl, rfl, a1, a2, a3, a4, a5, a6, x1⟩
    refine ⟨_, rfl, d, _, rfl, g_n a1, rfl, _, rfl, ?_⟩
    refine ite2 (fun c => ⟨_, rfl, d, _, rfl, g_l a1, l, _, rfl, .inl (SqL.of a2), _, _, rfl, rfl, _, rfl, ite2 (fun c => ?pop) (fun c => ?e1)⟩) (fun c => iteF ?e2)
    case pop =>
      have hl : 0 < ls.length := by
        have := of_decide_eq_true c
        rw [List.length_map] at this
        omega
      obtain ⟨ys, y, rfl⟩ : ∃ ys y, ls = ys ++ [y] := ⟨ls.dropLast, ls.getLast (by intro e; rw [e] at hl; cases hl), (List.dropLast_concat_getLast _).symm⟩
      refine ⟨_, fun _ _ h => h, ?_⟩
      refine ⟨_, rfl, d, _, rfl, g_l a1, .inl ⟨rfl, _, SqL.of a2⟩, l, _, .int y, rfl, rfl, a2, by simp, _, rfl, d, _, rfl, p_n y (by rw [upd_ne ndl]; exact a1), ?_⟩
      refine ⟨ys.length, by simp, s, y, ys, rfl, rfl, upd_same, ?_, a3, a4, Int.le_of_lt (a6 y (by simp)), fun x hx => a6 x (by simp [hx]), fun b o q hd hl => ?_⟩
      · rw [upd_ne (Ne.symm ndl), upd_same]
        simp
      · rw [upd_ne hd, upd_ne hl]
        exact x1 b o q hd hl
    all_goals
      -- number = deal['number']
      refine ⟨_, rfl, d, _, rfl, g_n a1, ?_⟩
      refine ⟨_, rfl, _, _, rfl, rfl, _, rfl, ?_⟩
      refine ite2 (fun c2 => ?_) (fun c2 => ?_)
      · have hn : 0 < n := of_decide_eq_true c2
        refine ⟨_, rfl, _, rfl, _, _, rfl, rfl, ⟨h0, h1⟩, _, rfl, d, _, rfl, p_n _ a1, ?_⟩
        refine ⟨_, rfl, _, rfl, _, _, rfl, rfl, h0, ?_⟩
        have hm := emod_b (a := n) h0
        refine k _ _ hm.1 hm.2 ⟨s, n / m, ls, upd_same, by rw [upd_ne (Ne.symm ndl)]; exact a2, a3, a4, Int.ediv_nonneg a5 (Int.le_of_lt h0), a6⟩ fun b o q hd hl => ?_
        rw [upd_ne hd]
        exact x1 b o q hd hl
      · refine ⟨_, rfl, d, _, rfl, g_s a1, _, _, rfl, rfl, .inr ⟨by decide, by decide⟩, _, _, rfl, rfl, _, _, rfl, rfl, (by show (0 : Int) < 2147483647; decide), ?_⟩
        have b1 := emod_b (a := s * 48271 + 7919) (b := 2147483647) (by decide)
        refine ⟨_, rfl, _, _, rfl, rfl, .inr ⟨by decide, by decide⟩, _, _, rfl, rfl, _, _, rfl, rfl, (by show (0 : Int) < 2147483399; decide), _, rfl, d, _, rfl, p_s _ a1, ?_⟩
        have b2 := emod_b (a := (s * 48271 + 7919) % 2147483647 * 40692 + 104729) (b := 2147483399) (by decide)
        refine ⟨_, rfl, d, _, rfl, g_s upd_same, _, rfl, d, _, rfl, g_s upd_same, _, _, rfl, rfl, .inl ⟨by omega, by omega⟩, _, _, rfl, rfl, (by show (0 : Int) < 2147483563; decide), ?_⟩
        refine ⟨_, rfl, _, rfl, _, _, rfl, rfl, .inl ⟨by omega, by omega⟩, _, _, rfl, rfl, (by show (0 : Int) < 2147483629; decide), _, _, rfl, rfl, .inr ⟨by decide, by decide⟩, _, rfl, _, _, rfl, rfl, _, rfl, _, _, rfl, rfl, h0, ?_⟩
        refine k _ _ (emod_b h0).1 (emod_b h0).2 ⟨_, n, ls, upd_same, by rw [upd_ne (Ne.symm ndl)]; exact a2, b2.1, by omega, a5, a6⟩ fun b o q hd hl => ?_
        rw [upd_ne hd]
        exact x1 b o q hd hl
end
theorem cutV_map {α : Type} (f : α → V) (xs : List α) (lo hi : Option Int) : cutV (xs.map f) lo hi = ((xs.drop (HT.sIx xs.length 0 lo)).take (HT.sIx xs.length xs.length hi - HT.sIx xs.length 0 lo)).map f := by
  unfold cutV
  rw [List.length_map, List.map_take, List.map_drop]
theorem get_map {α : Type} {f : α → V} {xs : List α} {i : Nat} {y : V} (h : (xs.map f)[i]? = some y) : ∃ z, xs[i]? = some z ∧ y = f z := by
  rw [List.getElem?_map] at h
  cases e : xs[i]? with
  | none => rw [e] at h; cases h
  | some z => rw [e] at h; exact ⟨z, rfl, (Option.some.inj h).symm⟩
theorem lt_of_get {α : Type} {xs : List α} {i : Nat} {y : α} (h : xs[i]? = some y) : i < xs.length := (List.getElem?_eq_some_iff.mp h).1
theorem same_new {H : Hp} {p : Addr} (h : H p = none) (o : HO) : Same H (upd H p o) := fun b u q => by rw [upd_ne (ne_of_none q h)]; exact q
theorem same_upd {H H2 : Hp} {p : Addr} (s : Same H H2) (h : H p = none) (o : HO) : Same H (upd H2 p o) := fun b u q => by rw [upd_ne (ne_of_none q h)]; exact s b u q
theorem merge3 (z : Int) (l : Addr) : mergeK [] [(Sum.inr "seed", .int z), (Sum.inr "number", .int 0), (Sum.inr "left", .ref l)] = dealKV z 0 l := by
  have e1 : ¬ ("seed" : Str) = "number" := by decide +kernel
  have e2 : ¬ ("seed" : Str) = "left" := by decide +kernel
  have e3 : ¬ ("number" : Str) = "left" := by decide +kernel
  simp [mergeK, putK, dealKV, e1, e2, e3]
theorem sz {n m : Nat} (h : n ≤ m) (hm : m ≤ 16777215 := by decide) : n < sizeLine := Nat.lt_of_le_of_lt h (Nat.lt_of_le_of_lt hm (by decide))
theorem szl {n m : Nat} (h : n ≤ m) (hm : m ≤ 16777215 := by decide) : n ≤ sizeLine := Nat.le_of_lt (sz h hm)
def spDeal (K : PySem.W.Frag) : Sp := fun vs H Q _ => ∃ (a : Addr) (ns : List Int), vs = [.ref a, .int 0] ∧ SqL K H a (ns.map V.int) ∧ ns.length ≤ 63 ∧
  ∀ (d l : Addr) (H' : Hp), H d = none → H l = none → Deal H' d l → Same H H' → Q (.ref d) H'
section
variable {P : Program} {w : World} {K : PySem.W.Frag} {mg : Str → Option Value} {base : Heap}
theorem ok_deal {f : Addr} {fd : FuncData} (F : Fun K "_law_deal" "_law_deal" s_L_deal f fd) (Z : Zb mg) : FnOk P w K mg base CX0 1 f fd ps_L_deal (spDeal K) := by
  refine F.ok sc_L_deal (fun vs H Q E h => ?_) (fun cdv A outer s H vs Q E hr h => ?_)
  · obtain ⟨a, ns, rfl, _⟩ := h
    rfl
  · obtain ⟨a, ns, rfl, hS, h63, k⟩ := h
    have hu := hu_of hr
    refine ⟨_, (pss_cons (ps_setLc (i := 2) (own := [("_law_one", 4)]) (g := gName 4) (by rfl) sc_L_deal.nd rfl rfl (sw_true rfl rfl rfl (by decide +kernel)) (pi_list (pe_slice sl_list (pv 0) (po_some (pv 1)) (po_some pe_int))) (blkOk_by (own := [("_law_one", 4)]) (N := nm_L_deal) (sc := defScope s_L_deal) (by decide +kernel)) (fun _ _ _ _ _ => (pg_name (i := 4) sc_L_deal.nd rfl (by first | exact Or.inl rfl | exact Or.inr rfl))) (fun _ _ _ _ _ => pts_nil) (fun _ _ _ _ _ => (pe_callB (call_max2 rfl) (by rfl) Z.max (by decide +kernel) (pa_cons (pv 4) (pa_cons (pe_op op_sub pe_int (pv 4)) pa_nil)))))
      (pss_cons (ps_set (i := 3) sc_L_deal.nd rfl (by first | exact Or.inl rfl | exact Or.inr rfl) (pe_op op_add pe_int (pv 1)))
      (pss_cons (ps_for PassesOwn.never rfl (pi_list (pv 2)) (pg_name (i := 4) sc_L_deal.nd rfl (by first | exact Or.inl rfl | exact Or.inr rfl)) (pss_one (ps_set (i := 3) sc_L_deal.nd rfl (by first | exact Or.inl rfl | exact Or.inr rfl) (pe_op op_mod (pe_op op_add (pe_op op_mul (pv 3) pe_int) (pe_op op_mod (pv 4) pe_int)) pe_int))))
      (pss_one (ps_ret (pe_disp (pps_cons pe_str (pv 3) (pps_cons pe_str pe_int (pps_cons pe_str (pe_listrev rfl rfl Z.list rfl Z.reversed (pa_cons (pe_lc (own := [("_law_one", 4)]) (g := gName 4) (by rfl) sc_L_deal.nd (pi_list (pv 2)) (blkOk_by (own := [("_law_one", 4)]) (N := nm_L_deal) (sc := defScope s_L_deal) (by decide +kernel)) (fun _ _ _ _ _ => (pg_name (i := 4) sc_L_deal.nd rfl (by first | exact Or.inl rfl | exact Or.inr rfl))) (fun _ _ _ _ _ => (pts_one (pt_cmpR op_ge (pv 4) (pe_op op_pow pe_int pe_int) (nomark _)))) (fun _ _ _ _ _ => (pv 4))) pa_nil)) pps_nil))) (by rfl) (by rfl) (fun z => by cases z) (by decide))))))), ?_⟩
    -- some = [max(one, 0 - one) for one in script[base:63]]
    refine ⟨_, rfl, _, rfl, _, rfl, _, rfl, a, _, rfl, hS, fun p hp => ⟨p, rfl, ⟨_, SqL.of upd_same⟩, fun D hD => ?_⟩⟩
    rw [cutV_map]
    generalize hcs : (ns.drop (HT.sIx ns.length 0 (some 0))).take (HT.sIx ns.length ns.length (some 63) - HT.sIx ns.length 0 (some 0)) = cs
    have hcl : cs.length ≤ 63 := by rw [← hcs, List.length_take, List.length_drop]; omega
    have s1 : Same H (upd H p (.lst (cs.map V.int))) := same_new hp _
    have hpD : p ≠ D := ne_of_none (o := .lst (cs.map V.int)) upd_same (by rw [cutV_map, hcs] at hD; exact hD)
    have hDH : H D = none := by
      rw [upd_ne (Ne.symm hpD)] at hD
      exact hD
    refine lc_list (K := K) (a := p) (xs := cs.map V.int) (fun i H2 => Same H H2 ∧ H2 p = some (.lst (cs.map V.int)) ∧ ∃ acc : List Int, H2 D = some (.lst (acc.map V.int)) ∧ acc.length ≤ i ∧ ∀ x ∈ acc, 0 ≤ x)
      ⟨same_upd s1 hDH _, by rw [upd_ne hpD]; exact upd_same, [], upd_same, Nat.le_refl _, by simp⟩ (fun i H2 _ ⟨_, q, _⟩ => SqL.of q) ?_ ?_
    · rintro i x H2 hx ⟨g1, g2, acc, g3, g4, g5⟩
      obtain ⟨n, hn, rfl⟩ := get_map hx
      have hi := lt_of_get hn
      refine ⟨rfl, _, rfl, _, rfl, _, _, rfl, rfl, _, _, rfl, _, g3, by rw [List.length_map]; exact sz (m := 63) (by omega), ?_⟩
      refine ⟨same_upd g1 hDH _, by rw [upd_ne hpD]; exact g2, acc ++ [if 0 - n > n then 0 - n else n], ?_, by simp; omega, fun y hy => ?_⟩
      · rw [upd_same]; simp
      · rcases List.mem_append.mp hy with q | q
        · exact g5 y q
        · rw [List.mem_singleton.mp q]; split <;> omega
    · rintro H2 ⟨g1, g2, acc, g3, g4, g5⟩
      rw [List.length_map] at g4
      -- number = 7919 + base
      refine ⟨_, rfl, _, _, rfl, rfl, ?_⟩
      -- for one in some
      refine ⟨_, rfl, D, rfl, ⟨_, SqL.of g3⟩, for_list (K := K) (a := D) (xs := acc.map V.int) (fun i σ H3 => H3 = H2 ∧ ∃ (z : Int) (v : Option V), σ = [some (.ref a), some (.int 0), some (.ref D), some (.int z), v] ∧ 0 ≤ z ∧ z < 2147483647)
        ⟨rfl, _, none, rfl, by decide, by decide⟩ (fun i σ H3 _ ⟨e, _⟩ => by rw [e]; exact SqL.of g3) ?_ ?_⟩
      · rintro i x σ H3 hx ⟨rfl, z, v, rfl, z0, z1⟩
        obtain ⟨n, hn, rfl⟩ := get_map hx
        refine ⟨_, rfl, _, _, rfl, rfl, .inr ⟨by decide, by decide⟩, _, rfl, _, _, rfl, rfl, (by show (0 : Int) < 2147483629; decide), _, _, rfl, rfl, _, _, rfl, rfl, (by show (0 : Int) < 2147483647; decide), ?_⟩
        exact ⟨rfl, _, _, rfl, (emod_b (by decide)).1, (emod_b (by decide)).2⟩
      · rintro σ H3 ⟨rfl, z, v, rfl, z0, z1⟩
        -- return {..}
        intro q hq
        have sq : Same H3 (upd H3 q (.dK [])) := same_new hq _
        have g3' := sq _ _ g3
        refine ⟨_, rfl, _, rfl, D, rfl, ⟨_, SqL.of g3'⟩, fun D2 hD2 => ?_⟩
        have hqD2 : q ≠ D2 := ne_of_none upd_same hD2
        have hD2' : H3 D2 = none := sq.free hD2
        refine lc_list (K := K) (a := D) (xs := acc.map V.int) (fun i H4 => Same H3 H4 ∧ H4 q = some (.dK []) ∧ ∃ ls : List Int, H4 D2 = some (.lst (ls.map V.int)) ∧ ls.length ≤ i ∧ ∀ x ∈ ls, 0 < x)
          ⟨same_upd sq hD2' _, by rw [upd_ne hqD2]; exact upd_same, [], upd_same, Nat.le_refl _, by simp⟩ (fun i H2 _ ⟨s, _⟩ => SqL.of (s _ _ g3)) ?_ ?_
        · rintro i x H4 hx ⟨s4, hq4, ls, l1, l2, l3⟩
          obtain ⟨n, hn, rfl⟩ := get_map hx
          have hi := lt_of_get hn
          refine ⟨rfl, _, rfl, _, _, rfl, rfl, ⟨by decide, by decide, by decide⟩, _, _, rfl, rfl, _, rfl, ite2 (fun c => ?_) (fun c => ?_)⟩
          · have c' : (10 : Int) ^ (18 : Int).toNat ≤ n := of_decide_eq_true c
            refine ⟨_, rfl, _, l1, by rw [List.length_map]; exact sz (m := 63) (by omega), same_upd s4 hD2' _, by rw [upd_ne hqD2]; exact hq4, ls ++ [n], by rw [upd_same]; simp, by simp; omega, fun y hy => ?_⟩
            rcases List.mem_append.mp hy with r | r
            · exact l3 y r
            · rw [List.mem_singleton.mp r]
              have : (0 : Int) < 10 ^ (18 : Int).toNat := by decide
              omega
          · exact ⟨s4, hq4, ls, l1, by omega, l3⟩
        · rintro H4 ⟨s4, hq4, ls, l1, l2, l3⟩
          refine ⟨D2, _, rfl, SqL.of l1, fun l hl => ?_⟩
          have hql : q ≠ l := ne_of_none hq4 hl
          refine ⟨by rw [upd_ne hql]; exact hq4, [(Sum.inr "seed", .int z), (Sum.inr "number", .int 0), (Sum.inr "left", .ref l)], rfl, (by show 3 ≤ 15; decide), ?_⟩
          rw [merge3]
          have hH3l : H3 l = none := s4.free hl
          refine k q l _ (g1.free hq) (g1.free hH3l) ⟨z, 0, ls.reverse, upd_same, ?_, z0, z1, Int.le_refl _, fun x hx => l3 x (by simpa using hx)⟩ ?_
          · rw [upd_ne (Ne.symm hql), upd_same, List.map_reverse]
          · exact same_upd (same_upd (g1.trans s4) (g1.free hH3l) _) (g1.free hq) _
end
/-- of plain signs alone -/
def Asc (z : Str) : Prop := ∀ c ∈ z.cps.toList, c < 128
theorem letters_len : letters.cps.toList.length = 26 := by decide +kernel
theorem at_ofA {α : Type} {xs : List α} {z : Int} {j : Nat} {v : α} (e : z = (j : Int)) (h : xs[j]? = some v) : atI xs z = some v := by
  rw [e]
  exact atI_nat h
theorem at_get {α : Type} {xs : List α} {r : Int} (h0 : 0 ≤ r) (h1 : r < xs.length) : ∃ v, atI xs r = some v ∧ v ∈ xs := by
  have hk : r.toNat < xs.length := by omega
  refine ⟨xs[r.toNat], ?_, List.getElem_mem hk⟩
  exact at_ofA (by omega) (List.getElem?_eq_getElem hk)
theorem cutS_hi (z : Str) (n : Nat) : (cutS z none (some (n : Int))).length ≤ n := by
  show (((z.cps.toList.drop (HT.sIx z.length 0 none)).take (HT.sIx z.length z.length (some (n : Int)) - HT.sIx z.length 0 none)).toArray).size ≤ n
  rw [List.size_toArray, List.length_take]
  have h : HT.sIx z.length z.length (some (n : Int)) ≤ n := by
    simp only [HT.sIx]
    split <;> omega
  omega
theorem app_len (a b : Str) : (a ++ b).length = a.length + b.length := by
  show (a.cps ++ b.cps).size = a.cps.size + b.cps.size
  simp
theorem join0_len : ∀ acc : List Str, (Txt.join "" acc).length = (acc.map (·.length)).sum := by
  intro acc
  rw [TL.join_eq]
  induction acc with
  | nil => rfl
  | cons x r ih =>
    cases r with
    | nil => show x.length = x.length + 0; rfl
    | cons y r =>
      show ((x ++ "") ++ Str.join "" (y :: r)).length = _
      rw [app_len, app_len, ih]
      show x.length + 0 + _ = x.length + _
      rfl
theorem Asc.app {a b : Str} (h : Asc a) (h' : Asc b) : Asc (a ++ b) := fun c m => by
  have m' : c ∈ (a.cps ++ b.cps).toList := m
  rw [Array.toList_append, List.mem_append] at m'
  exact m'.elim (h c) (h' c)
theorem Asc.cut {a : Str} (h : Asc a) (lo hi : Option Int) : Asc (cutS a lo hi) := fun c m => by
  have m' : c ∈ ((a.cps.toList.drop (HT.sIx a.length 0 lo)).take (HT.sIx a.length a.length hi - HT.sIx a.length 0 lo)).toArray.toList := m
  exact h c (List.mem_of_mem_drop (List.mem_of_mem_take (by simpa using m')))
theorem Asc.rep {a : Str} (h : Asc a) (n : Int) : Asc (repS a n) := fun c m => by
  rw [repS_toList, List.mem_flatten] at m
  obtain ⟨x, mx, mc⟩ := m
  rw [(List.mem_replicate.mp mx).2] at mc
  exact h c mc
theorem Asc.one {u : Nat} {a : Str} (h : Asc a) (m : u ∈ a.cps.toList) : Asc ⟨#[u]⟩ := fun c mc => by
  have : c = u := by simpa using mc
  rw [this]
  exact h u m
theorem Asc.join0 : ∀ {acc : List Str}, (∀ x ∈ acc, Asc x) → Asc (Txt.join "" acc) := by
  intro acc h
  rw [TL.join_eq]
  induction acc with
  | nil => exact fun c m => by cases m
  | cons x r ih =>
    cases r with
    | nil => exact h x (by simp)
    | cons y r =>
      show Asc ((x ++ "") ++ Str.join "" (y :: r))
      exact ((h x (by simp)).app (fun c m => by cases m)).app (ih fun z hz => h z (by simp [List.mem_cons.mp hz]))
theorem asc_by {z : Str} (h : z.cps.toList.all (fun c => decide (c < 128)) = true) : Asc z := fun c m => by simpa using List.all_eq_true.mp h c m
theorem asc_letters : Asc letters := asc_by (by decide +kernel)
theorem take_snoc {α : Type} {xs : List α} {i : Nat} {c : α} (h : xs[i]? = some c) : xs.take (i + 1) = xs.take i ++ [c] := by
  rw [List.take_succ, h]; rfl
/-- what comes behind is shown once -/
theorem joinC {G : Prop} (C R : St → Hp → Prop) (h1 : ∀ σ H, R σ H → C σ H) (h2 : (∀ σ H, R σ H → C σ H) → G) : G := h2 h1
end My
set_option Elab.async false
set_option maxRecDepth 100000
set_option linter.all false
namespace My
open PySem L2
inductive Ex where
  | num (n : Int)
  | name (x : Str)
  | op (s : Str) (a b : Ex)
  | not (a : Ex)
  | ite (c a b : Ex)
namespace Ex
def tag : Ex → Str
  | .num _ => "num"
  | .name _ => "name"
  | .op _ _ _ => "op"
  | .not _ => "not"
  | .ite _ _ _ => "if"
def kids : Ex → List Ex
  | .num _ => []
  | .name _ => []
  | .op _ a b => [a, b]
  | .not a => [a]
  | .ite c a b => [c, a, b]
def dat : Ex → PyData
  | .num n => .tuple [.str "num", .int n]
  | .name x => .tuple [.str "name", .str x]
  | .op s a b => .tuple [.str "op", .str s, dat a, dat b]
  | .not a => .tuple [.str "not", dat a]
  | .ite c a b => .tuple [.str "if", dat c, dat a, dat b]
def parts : Ex → List Ex
  | .num n => [.num n]
  | .name x => [.name x]
  | .op s a b => .op s a b :: (parts a ++ parts b)
  | .not a => .not a :: parts a
  | .ite c a b => .ite c a b :: (parts c ++ parts a ++ parts b)
def depth : Ex → Nat
  | .num _ => 0
  | .name _ => 0
  | .op _ a b => max (depth a) (depth b) + 1
  | .not a => depth a + 1
  | .ite c a b => max (depth c) (max (depth a) (depth b)) + 1
def ok : Ex → Prop
  | .num n => 0 ≤ n ∧ n ≤ 999
  | .name x => x.length ≤ 6 ∧ Asc x
  | .op s a b => (s.length = 1 ∧ Asc s) ∧ ok a ∧ ok b
  | .not a => ok a
  | .ite c a b => ok c ∧ ok a ∧ ok b
theorem kid_depth {e k : Ex} (h : k ∈ e.kids) : k.depth < e.depth := by
  cases e <;> simp [kids] at h
  · rcases h with rfl | rfl <;> simp [depth] <;> omega
  · subst h; simp [depth]
  · rcases h with rfl | rfl | rfl <;> simp [depth] <;> omega
end Ex
structure Fine (d : PyData) (dep wt : Nat) : Prop where
  lv : d.leavesShort 8 = true
  sh : d.showable = true
  nd : d.hasDict = false
  dp : d.depth ≤ dep
  wt : d.weight ≤ wt
theorem Fine.fits {d : PyData} {dep wt : Nat} (h : Fine d dep wt) (hw : wt ≤ 1048576) : d.shown.length ≤ sizeLine := PyData.shown_fits (B := 8) (by decide) (by decide) h.lv (Nat.le_trans h.wt hw)
theorem Fine.mono {d : PyData} {dep wt dep' wt' : Nat} (h : Fine d dep wt) (h1 : dep ≤ dep') (h2 : wt ≤ wt') : Fine d dep' wt' := ⟨h.lv, h.sh, h.nd, Nat.le_trans h.dp h1, Nat.le_trans h.wt h2⟩
structure FineAll (ds : List PyData) (dep wt : Nat) : Prop where
  lv : PyData.leavesShortAll 8 ds = true
  sh : PyData.showableAll ds = true
  nd : PyData.hasDictAll ds = false
  dp : PyData.depthAll ds ≤ dep
  wt : PyData.weightAll ds ≤ wt
theorem FineAll.nil {dep : Nat} : FineAll [] dep 0 := ⟨rfl, rfl, rfl, Nat.zero_le _, Nat.le_refl _⟩
theorem FineAll.cons {d : PyData} {ds : List PyData} {dep w w' : Nat} (h : Fine d dep w) (h' : FineAll ds dep w') : FineAll (d :: ds) dep (w + 1 + w') :=
  ⟨by simp [PyData.leavesShortAll, h.lv, h'.lv], by simp [PyData.showableAll, h.sh, h'.sh], by simp [PyData.hasDictAll, h.nd, h'.nd], by simp only [PyData.depthAll]; exact Nat.max_le.mpr ⟨h.dp, h'.dp⟩, by simp only [PyData.weightAll]; have := h.wt; have := h'.wt; omega⟩
theorem FineAll.tuple {ds : List PyData} {dep w : Nat} (h : FineAll ds dep w) : Fine (.tuple ds) (dep + 1) w :=
  ⟨by simpa [PyData.leavesShort] using h.lv, by simpa [PyData.showable] using h.sh, by simpa [PyData.hasDict] using h.nd, by simp only [PyData.depth]; have := h.dp; omega, by simpa [PyData.weight] using h.wt⟩
theorem FineAll.list {ds : List PyData} {dep w : Nat} (h : FineAll ds dep w) : Fine (.list ds) (dep + 1) w :=
  ⟨by simpa [PyData.leavesShort] using h.lv, by simpa [PyData.showable] using h.sh, by simpa [PyData.hasDict] using h.nd, by simp only [PyData.depth]; have := h.dp; omega, by simpa [PyData.weight] using h.wt⟩
theorem FineAll.of : ∀ {ds : List PyData} {dep w : Nat}, (∀ d ∈ ds, Fine d dep w) → FineAll ds dep (ds.length * (w + 1))
  | [], _, _, _ => ⟨rfl, rfl, rfl, Nat.zero_le _, Nat.zero_le _⟩
  | d :: ds, dep, w, h => by
    have q := FineAll.cons (h d (by simp)) (FineAll.of (ds := ds) (dep := dep) (w := w) fun x hx => h x (by simp [hx]))
    have e : w + 1 + ds.length * (w + 1) = (d :: ds).length * (w + 1) := by rw [List.length_cons, Nat.add_mul, Nat.one_mul]; omega
    rw [← e]
    exact q
theorem Fine.str {x : Str} {n : Nat} (h : x.length ≤ n) (a : Asc x) : Fine (.str x) 0 n :=
  ⟨by
    simp only [PyData.leavesShort, List.all_eq_true, decide_eq_true_eq]
    intro c m
    have := a c m
    omega, rfl, rfl, Nat.le_refl _, h⟩
theorem Fine.int {i : Int} (h0 : 0 ≤ i) (h : i ≤ 999) : Fine (.int i) 0 10 := by
  have hl : i.natAbs.log2 < 10 := by
    by_cases e : i.natAbs = 0
    · rw [e]; decide
    · exact (Nat.log2_lt e).mpr (by omega)
  refine ⟨?_, ?_, rfl, Nat.le_refl _, ?_⟩
  · simp only [PyData.leavesShort]
    refine decide_eq_true ?_
    have q := int_text_length_le10 (a := i) (k := 3) (by decide) (by omega)
    show (Str.ofString (toString i)).length ≤ 8
    rw [ofString_length]
    omega
  · simp only [PyData.showable, decide_eq_true_eq]
    omega
  · simp only [PyData.weight]
    split <;> omega
theorem Fine.up {d : PyData} {n w : Nat} (h : Fine d 0 w) : Fine d n w := h.mono (Nat.zero_le _) (Nat.le_refl _)
def KT (H H' : Hp) : Prop := ∀ b xs, Rd H b (.tup xs) → Rd H' b (.tup xs)
theorem KT.refl (H : Hp) : KT H H := fun _ _ h => h
theorem KT.trans {H H1 H2 : Hp} (a : KT H H1) (b : KT H1 H2) : KT H H2 := fun c xs h => b c xs (a c xs h)
theorem kt_same {H H' : Hp} (s : Same H H') : KT H H' := fun b xs h => by
  rcases h with h | ⟨o, h⟩
  · exact .inl (s _ _ h)
  · exact .inr ⟨o, s _ _ h⟩
theorem kt_ext {H H' : Hp} {d l : Addr} (x : Ext d l H H') (D : Deal H d l) : KT H H' := fun b xs h => by
  obtain ⟨s, n, ls, h1, h2, _⟩ := D
  rcases h with h | ⟨o, h⟩
  · exact .inl (x b _ h (ne_of h h1 (by intro z; cases z)) (ne_of h h2 (by intro z; cases z)))
  · exact .inr ⟨o, x b _ h (ne_of h h1 (by intro z; cases z)) (ne_of h h2 (by intro z; cases z))⟩
theorem kt_new {H : Hp} {p : Addr} (h : H p = none) (o : HO) : KT H (upd H p o) := kt_same (same_new h o)
theorem kt_lst {H : Hp} {p : Addr} {xs : List V} (h : H p = some (.lst xs)) (o : HO) : KT H (upd H p o) := fun b ys q => by
  rcases q with q | ⟨ob, q⟩
  · exact .inl (by rw [upd_ne (ne_of q h (by intro z; cases z))]; exact q)
  · exact .inr ⟨ob, by rw [upd_ne (ne_of q h (by intro z; cases z))]; exact q⟩
theorem sqt_kt {K : PySem.W.Frag} {H H' : Hp} {a : Addr} {xs : List V} (h : SqT K H a xs) (k : KT H H') : SqT K H' a xs := by
  rcases h with h | h
  · exact .inl (k a xs h)
  · exact .inr h
/-- made of tuples alone -/
inductive Tp : PyData → Prop
  | non : Tp .none
  | bl (b : Bool) : Tp (.bool b)
  | int (i : Int) : Tp (.int i)
  | str (x : Str) : Tp (.str x)
  | tup {ds : List PyData} : (∀ d ∈ ds, Tp d) → Tp (.tuple ds)
mutual
theorem Dp.kt {K : PySem.W.Frag} {H H' : Hp} (k : KT H H') : ∀ (d : PyData) (v : V), Tp d → Dp K H v d → Dp K H' v d
  | .none, _, _, h => by cases h; exact .non
  | .bool b, _, _, h => by cases h; exact .bl b
  | .int i, _, _, h => by cases h; exact .int i
  | .str x, _, _, h => by cases h; exact .str x
  | .list ds, _, t, _ => by cases t
  | .tuple ds, _, t, h => by
    cases h with
    | tup hs ha =>
      cases t with
      | tup ht => exact .tup (sqt_kt hs k) (Dp.ktAll k ds _ ht ha)
  | .dict _, _, t, _ => by cases t
theorem Dp.ktAll {K : PySem.W.Frag} {H H' : Hp} (k : KT H H') : ∀ (ds : List PyData) (vs : List V), (∀ d ∈ ds, Tp d) → DpAll K H vs ds → DpAll K H' vs ds
  | [], _, _, h => by cases h; exact .nil
  | d :: ds, _, t, h => by
    cases h with
    | cons h1 h2 => exact .cons (Dp.kt k d _ (t d (by simp)) h1) (Dp.ktAll k ds _ (fun x hx => t x (by simp [hx])) h2)
end
theorem Ex.tp : ∀ e : Ex, Tp e.dat
  | .num n => .tup fun d h => by simp at h; rcases h with rfl | rfl <;> constructor
  | .name n => .tup fun d h => by simp at h; rcases h with rfl | rfl <;> constructor
  | .op s a b => .tup fun d h => by
    simp at h
    rcases h with rfl | rfl | rfl | rfl
    · constructor
    · constructor
    · exact Ex.tp a
    · exact Ex.tp b
  | .not a => .tup fun d h => by
    simp at h
    rcases h with rfl | rfl
    · constructor
    · exact Ex.tp a
  | .ite c a b => .tup fun d h => by
    simp at h
    rcases h with rfl | rfl | rfl | rfl
    · constructor
    · exact Ex.tp c
    · exact Ex.tp a
    · exact Ex.tp b
/-- an expression stands at v -/
abbrev IsE (K : PySem.W.Frag) (H : Hp) (v : V) (e : Ex) : Prop := Dp K H v e.dat
abbrev AreE (K : PySem.W.Frag) (H : Hp) (vs : List V) (es : List Ex) : Prop := DpAll K H vs (es.map Ex.dat)
section
variable {K : PySem.W.Frag} {H H' : Hp}
theorem IsE.kt {v : V} {e : Ex} (h : IsE K H v e) (k : KT H H') : IsE K H' v e := Dp.kt k _ _ e.tp h
theorem AreE.kt {vs : List V} {es : List Ex} (h : AreE K H vs es) (k : KT H H') : AreE K H' vs es := Dp.ktAll k _ _ (fun d hd => by
  obtain ⟨x, _, rfl⟩ := List.mem_map.mp hd
  exact x.tp) h
theorem DpAll.app : ∀ {vs us : List V} {ds es : List PyData}, DpAll K H vs ds → DpAll K H us es → DpAll K H (vs ++ us) (ds ++ es)
  | _, _, _, _, .nil, h => h
  | _, _, _, _, .cons a r, h => .cons a (DpAll.app r h)
theorem DpAll.len : ∀ {vs : List V} {ds : List PyData}, DpAll K H vs ds → vs.length = ds.length
  | _, _, .nil => rfl
  | _, _, .cons _ r => by simp [DpAll.len r]
theorem DpAll.get : ∀ {vs : List V} {ds : List PyData} {i : Nat} {v : V}, DpAll K H vs ds → vs[i]? = some v → ∃ d, ds[i]? = some d ∧ Dp K H v d
  | _, _, 0, _, .cons a _, h => ⟨_, rfl, by cases h; exact a⟩
  | _, _, i + 1, _, .cons _ r, h => DpAll.get (i := i) r h
theorem AreE.app {vs us : List V} {es fs : List Ex} (h : AreE K H vs es) (h' : AreE K H us fs) : AreE K H (vs ++ us) (es ++ fs) := by
  show DpAll K H _ ((es ++ fs).map Ex.dat)
  rw [List.map_append]
  exact DpAll.app h h'
theorem AreE.len {vs : List V} {es : List Ex} (h : AreE K H vs es) : vs.length = es.length := by have := DpAll.len h; simpa using this
theorem AreE.get {vs : List V} {es : List Ex} {i : Nat} {v : V} (h : AreE K H vs es) (hv : vs[i]? = some v) : ∃ e, es[i]? = some e ∧ IsE K H v e := by
  obtain ⟨d, hd, q⟩ := DpAll.get h hv
  rw [List.getElem?_map] at hd
  cases e : es[i]? with
  | none => rw [e] at hd; cases hd
  | some x => rw [e] at hd; cases hd; exact ⟨x, rfl, q⟩
theorem AreE.one {v : V} {e : Ex} (h : IsE K H v e) : AreE K H [v] [e] := .cons h .nil
/-- an expression opened: its tuple, tag first, then by its form -/
theorem IsE.open {v : V} {e : Ex} (h : IsE K H v e) : ∃ a xs, v = .ref a ∧ SqT K H a xs ∧ (match e with
    | .num n => xs = [.str "num", .int n]
    | .name x => xs = [.str "name", .str x]
    | .op s a b => ∃ va vb, xs = [.str "op", .str s, va, vb] ∧ IsE K H va a ∧ IsE K H vb b
    | .not a => ∃ va, xs = [.str "not", va] ∧ IsE K H va a
    | .ite c a b => ∃ vc va vb, xs = [.str "if", vc, va, vb] ∧ IsE K H vc c ∧ IsE K H va a ∧ IsE K H vb b) := by
  cases e with
  | num n =>
    cases h with
    | tup hs ha =>
      cases ha with | cons h1 r => cases h1; cases r with | cons h2 r => cases h2; cases r; exact ⟨_, _, rfl, hs, rfl⟩
  | name n =>
    cases h with
    | tup hs ha =>
      cases ha with | cons h1 r => cases h1; cases r with | cons h2 r => cases h2; cases r; exact ⟨_, _, rfl, hs, rfl⟩
  | op s a b =>
    cases h with
    | tup hs ha =>
      cases ha with | cons h1 r => cases h1; cases r with | cons h2 r => cases h2; cases r with | cons h3 r => cases r with | cons h4 r => cases r; exact ⟨_, _, rfl, hs, _, _, rfl, h3, h4⟩
  | not a =>
    cases h with
    | tup hs ha =>
      cases ha with | cons h1 r => cases h1; cases r with | cons h2 r => cases r; exact ⟨_, _, rfl, hs, _, rfl, h2⟩
  | ite c a b =>
    cases h with
    | tup hs ha =>
      cases ha with | cons h1 r => cases h1; cases r with | cons h2 r => cases r with | cons h3 r => cases r with | cons h4 r => cases r; exact ⟨_, _, rfl, hs, _, _, _, rfl, h2, h3, h4⟩
end
section
variable {K : PySem.W.Frag} {H : Hp} {t : Addr}
theorem isE_num {n : Int} (h : H t = some (.tup [.str "num", .int n])) : IsE K H (.ref t) (.num n) := .tup (SqT.of h) (.cons (.str _) (.cons (.int _) .nil))
theorem isE_name {x : Str} (h : H t = some (.tup [.str "name", .str x])) : IsE K H (.ref t) (.name x) := .tup (SqT.of h) (.cons (.str _) (.cons (.str _) .nil))
theorem isE_op {s : Str} {a b : Ex} {va vb : V} (h : H t = some (.tup [.str "op", .str s, va, vb])) (ha : IsE K H va a) (hb : IsE K H vb b) : IsE K H (.ref t) (.op s a b) := .tup (SqT.of h) (.cons (.str _) (.cons (.str _) (.cons ha (.cons hb .nil))))
theorem isE_not {a : Ex} {va : V} (h : H t = some (.tup [.str "not", va])) (ha : IsE K H va a) : IsE K H (.ref t) (.not a) := .tup (SqT.of h) (.cons (.str _) (.cons ha .nil))
theorem isE_ite {c a b : Ex} {vc va vb : V} (h : H t = some (.tup [.str "if", vc, va, vb])) (hc : IsE K H vc c) (ha : IsE K H va a) (hb : IsE K H vb b) : IsE K H (.ref t) (.ite c a b) := .tup (SqT.of h) (.cons (.str _) (.cons hc (.cons ha (.cons hb .nil))))
end
theorem Deal.nn {H : Hp} {d l p : Addr} (D : Deal H d l) (h : H p = none) : p ≠ d ∧ p ≠ l := by
  obtain ⟨s, n, ls, h1, h2, _⟩ := D
  exact ⟨fun e => (by rw [e, h1] at h; cases h), fun e => (by rw [e, h2] at h; cases h)⟩
end My
set_option Elab.async false
set_option maxRecDepth 100000
set_option linter.all false
namespace My
open PySem L2
def opT : Str := "+-*<=&|<=="
theorem opT_len : opT.cps.toList.length = 10 := by decide +kernel
theorem asc_opT : Asc opT := asc_by (by decide +kernel)
def NmOk (x : Str) : Prop := x.length ≤ 6 ∧ Asc x
namespace Ex
def okN (ns : List Str) : Ex → Prop
  | .num n => 0 ≤ n ∧ n ≤ 999
  | .name x => x ∈ ns
  | .op s a b => (∃ u, s = ⟨#[u]⟩ ∧ u ∈ opT.cps.toList) ∧ okN ns a ∧ okN ns b
  | .not a => okN ns a
  | .ite c a b => okN ns c ∧ okN ns a ∧ okN ns b
theorem okN.ok {ns : List Str} (hn : ∀ x ∈ ns, NmOk x) : ∀ {e : Ex}, e.okN ns → e.ok
  | .num _, h => h
  | .name x, h => hn x h
  | .op s a b, h => by
    obtain ⟨⟨u, rfl, mu⟩, h1, h2⟩ := h
    exact ⟨⟨rfl, asc_opT.one mu⟩, okN.ok hn h1, okN.ok hn h2⟩
  | .not a, h => okN.ok (e := a) hn h
  | .ite c a b, h => ⟨okN.ok hn h.1, okN.ok hn h.2.1, okN.ok hn h.2.2⟩
end Ex
def szf : Nat → Nat
  | 0 => 1
  | n + 1 => 1 + 3 * szf n
/-- a list of names stands at nl, apart from the deal -/
structure Nms (H : Hp) (d l nl : Addr) (ns : List Str) : Prop where
  at_ : H nl = some (.lst (ns.map V.str))
  nd : nl ≠ d
  nl : nl ≠ l
  ok : ∀ x ∈ ns, NmOk x
  few : ns.length ≤ 1000
theorem Nms.ext {H H' : Hp} {d l nl : Addr} {ns : List Str} (h : Nms H d l nl ns) (x : Ext d l H H') : Nms H' d l nl ns := ⟨x nl _ h.at_ h.nd h.nl, h.nd, h.nl, h.ok, h.few⟩
theorem Nms.new {H : Hp} {d l nl p : Addr} {ns : List Str} {o : HO} (h : Nms H d l nl ns) (hp : H p = none) : Nms (upd H p o) d l nl ns := ⟨by rw [upd_ne (ne_of_none h.at_ hp)]; exact h.at_, h.nd, h.nl, h.ok, h.few⟩
def spNum : Sp := fun vs H Q _ => ∃ (d l : Addr), vs = [.ref d] ∧ Deal H d l ∧ ∀ (r : Int) (H' : Hp), 0 ≤ r → r ≤ 999 → Deal H' d l → Ext d l H H' → Q (.int r) H'
def spExpr (K : PySem.W.Frag) (n : Nat) : Sp := fun vs H Q _ => ∃ (d l nl : Addr) (ns : List Str) (deep : Nat), vs = [.ref d, .ref nl, .int (deep : Int)] ∧ Deal H d l ∧ Nms H d l nl ns ∧ deep < n ∧
  ∀ (v : V) (e : Ex) (H' : Hp), Deal H' d l → Ext d l H H' → IsE K H' v e → e.okN ns → e.depth ≤ deep → e.parts.length ≤ szf deep → Q v H'
def spTest (K : PySem.W.Frag) : Sp := fun vs H Q _ => ∃ (d l nl : Addr) (ns : List Str), vs = [.ref d, .ref nl] ∧ Deal H d l ∧ Nms H d l nl ns ∧
  ∀ (v : V) (e : Ex) (H' : Hp), Deal H' d l → Ext d l H H' → IsE K H' v e → e.okN ns → e.depth ≤ 3 → e.parts.length ≤ 13 → Q v H'
section
variable {P : Program} {w : World} {K : PySem.W.Frag} {mg : Str → Option Value} {base : Heap}
theorem ok_num {f : Addr} {fd : FuncData} (F : Fun K "_law_number" "_law_number" s_L_number f fd) (Z : Zb mg) (G_L_draw : FnIn P w K mg base 1 "_law_draw" ps_L_draw spDraw) : FnOk P w K mg base CX0 2 f fd ps_L_number spNum := by
  refine F.ok sc_L_number (fun vs H Q E h => ?_) (fun cdv A outer s H vs Q E hr h => ?_)
  · obtain ⟨d, l, rfl, _⟩ := h
    rfl
  · obtain ⟨d, l, rfl, D, k⟩ := h
    refine ⟨_, (pss_one (ps_ret (pe_ix ix_list (pe_lst (pa_cons (pe_fn G_L_draw hr rfl (pa_cons (pv 0) (pa_cons pe_int pa_nil))) (pa_cons (pe_fn G_L_draw hr rfl (pa_cons (pv 0) (pa_cons pe_int pa_nil))) (pa_cons (pe_op op_sub pe_int (pe_fn G_L_draw hr rfl (pa_cons (pv 0) (pa_cons pe_int pa_nil)))) pa_nil)))) (pe_callB (call_min2 rfl) (by rfl) Z.min (by decide +kernel) (pa_cons pe_int (pa_cons (pe_op op_fdiv (pe_fn G_L_draw hr rfl (pa_cons (pv 0) (pa_cons pe_int pa_nil))) pe_int) pa_nil))) (fun _ _ => rfl)))), ?_⟩
    refine ⟨_, rfl, d, l, 5, rfl, D, by decide, by decide, fun r1 H1 r10 r11 D1 x1 => ⟨_, rfl, d, l, 3, rfl, D1, by decide, by decide, fun r2 H2 r20 r21 D2 x2 => ⟨_, rfl, d, l, 1000, rfl, D2, by decide, by decide, fun r3 H3 r30 r31 D3 x3 => ⟨_, _, rfl, rfl, (by show 3 ≤ sizeLine; decide), fun p hp => ⟨_, rfl, d, l, 9, rfl, D3.new hp, by decide, by decide, fun r4 H4 r40 r41 D4 x4 => ⟨_, _, rfl, rfl, ⟨by decide, by decide⟩, _, _, rfl, ?_⟩⟩⟩⟩⟩⟩
    obtain ⟨np1, np2⟩ := D3.nn hp
    obtain ⟨y, hy, my⟩ := at_get (xs := [V.int r1, V.int r2, V.int (999 - r3)]) (r := if r4 / 4 < 2 then r4 / 4 else 2) (by split <;> omega) (by show _ < (3 : Int); split <;> omega)
    refine ⟨p, _, _, _, rfl, rfl, SqL.of (x4 p _ upd_same np1 np2), hy, ?_⟩
    have x := ((x1.trans x2).trans x3).trans ((Ext.new (o := .lst [V.int r1, V.int r2, V.int (999 - r3)]) hp).trans x4)
    simp only [List.mem_cons, List.not_mem_nil, or_false] at my
    rcases my with rfl | rfl | rfl
    · exact k _ H4 r10 (by omega) D4 x
    · exact k _ H4 r20 (by omega) D4 x
    · exact k _ H4 (by omega) (by omega) D4 x
theorem ok_expr {f : Addr} {fd : FuncData} (n : Nat) (F : Fun K "_law_expr" "_law_expr" s_L_expr f fd) (Z : Zb mg) (G_L_draw : FnIn P w K mg base 1 "_law_draw" ps_L_draw spDraw) (G_L_number : FnIn P w K mg base 2 "_law_number" ps_L_number spNum)
    (G_L_expr : FnIn P w K mg base (n + 2) "_law_expr" ps_L_expr (spExpr K n)) : FnOk P w K mg base CX0 (n + 3) f fd ps_L_expr (spExpr K (n + 1)) := by
  refine F.ok sc_L_expr (fun vs H Q E h => ?_) (fun cdv A outer s H vs Q E hr h => ?_)
  · obtain ⟨d, l, nl, ns, deep, rfl, _⟩ := h
    rfl
  · obtain ⟨d, l, nl, ns, deep, rfl, D, N, hdn, k⟩ := h
    refine ⟨_, (pss_cons (ps_set (i := 3) sc_L_expr.nd rfl (by first | exact Or.inl rfl | exact Or.inr rfl) (pe_fn G_L_draw hr rfl (pa_cons (pv 0) (pa_cons pe_int pa_nil))))
      (pss_cons (ps_if (PW.pt (pw_or (pt_cmpR op_eq (pv 2) pe_int (nomark _)) (pw_or1 (pt_cmpR op_lt (pv 3) pe_int (nomark _))))) (pss_cons (ps_if (PW.pt (pw_and (pt_cmpR op_gt (pe_callB call_len_seq (by rfl) Z.len (by decide +kernel) (pa_cons (pv 1) pa_nil)) pe_int (nomark _)) (pw_and1 (pt_cmpR op_gt (pe_fn G_L_draw hr rfl (pa_cons (pv 0) (pa_cons pe_int pa_nil))) pe_int (nomark _))))) (pss_one (ps_ret (pe_tup (pa_cons pe_str (pa_cons (pe_ix ix_list (pv 1) (pe_fn G_L_draw hr rfl (pa_cons (pv 0) (pa_cons (pe_callB call_len_seq (by rfl) Z.len (by decide +kernel) (pa_cons (pv 1) pa_nil)) pa_nil))) (fun _ _ => rfl)) pa_nil))))) pss_nil)
      (pss_one (ps_ret (pe_tup (pa_cons pe_str (pa_cons (pe_fn G_L_number hr rfl (pa_cons (pv 0) pa_nil)) pa_nil)))))) pss_nil)
      (pss_cons (ps_par (i := 4) (j := 5) (by rfl) sc_L_expr.nd rfl rfl (by decide) rfl rfl (pa_cons (pe_fn G_L_expr hr rfl (pa_cons (pv 0) (pa_cons (pv 1) (pa_cons (pe_op op_sub (pv 2) pe_int) pa_nil)))) (pa_cons (pe_fn G_L_expr hr rfl (pa_cons (pv 0) (pa_cons (pv 1) (pa_cons (pe_op op_sub (pv 2) pe_int) pa_nil)))) pa_nil)) (by rfl))
      (pss_cons (ps_if (pt_cmpR op_eq (pv 3) pe_int (nomark _)) (pss_one (ps_ret (pe_tup (pa_cons pe_str (pa_cons (pv 4) pa_nil))))) pss_nil)
      (pss_cons (ps_if (pt_cmpR op_eq (pv 3) pe_int (nomark _)) (pss_one (ps_ret (pe_tup (pa_cons pe_str (pa_cons (pv 4) (pa_cons (pv 5) (pa_cons (pe_fn G_L_expr hr rfl (pa_cons (pv 0) (pa_cons (pv 1) (pa_cons (pe_op op_sub (pv 2) pe_int) pa_nil)))) pa_nil))))))) pss_nil)
      (pss_one (ps_ret (pe_tup (pa_cons pe_str (pa_cons (pe_ix ix_str pe_str (pe_fn G_L_draw hr rfl (pa_cons (pv 0) (pa_cons pe_int pa_nil))) (fun _ _ => rfl)) (pa_cons (pv 4) (pa_cons (pv 5) pa_nil)))))))))))), ?_⟩
    refine ⟨_, rfl, d, l, 10, rfl, D, by decide, by decide, fun fm H1 f0 f1 D1 x1 => ?_⟩
    have N1 := N.ext x1
    refine ⟨_, rfl, rfl, _, rfl, ite2 (fun c => ?leaf1) (fun c => ⟨_, rfl, _, _, rfl, rfl, _, rfl, ite2 (fun c2 => ?leaf2) (fun c2 => ?deep)⟩)⟩
    case deep =>
      have hd1 : deep ≠ 0 := fun h => c (decide_eq_true (by rw [h]; rfl))
      obtain ⟨m, rfl⟩ : ∃ m, deep = m + 1 := ⟨deep - 1, by omega⟩
      have em : ((m + 1 : Nat) : Int) - 1 = (m : Int) := by omega
      refine ⟨_, rfl, _, rfl, _, rfl, _, _, rfl, rfl, d, l, nl, ns, m, (by show [V.ref d, V.ref nl, V.int (((m + 1 : Nat) : Int) - 1)] = _; rw [em]), D1, N1, by omega, fun va ea H2 D2 x2 ha oa da sa => ⟨_, rfl, _, rfl, _, rfl, _, _, rfl, rfl, d, l, nl, ns, m, (by show [V.ref d, V.ref nl, V.int (((m + 1 : Nat) : Int) - 1)] = _; rw [em]), D2, N1.ext x2, by omega, fun vb eb H3 D3 x3 hb ob db sb => ⟨_, _, rfl, ?_⟩⟩⟩
      have ha3 := ha.kt (kt_ext x3 D2)
      have x13 := (x1.trans x2).trans x3
      refine ⟨_, rfl, rfl, _, rfl, ite2 (fun c3 => ⟨_, rfl, (by show 2 ≤ sizeLine; decide), fun t ht => ?_⟩) (fun c3 => ⟨_, rfl, rfl, _, rfl, ite2 (fun c4 => ?iff) (fun c4 => ?op)⟩)⟩
      · exact k (.ref t) (.not ea) _ (D3.new ht) (x13.trans (Ext.new ht)) (isE_not upd_same (ha3.kt (kt_new ht _))) oa (by simp only [Ex.depth]; omega) (by simp only [Ex.parts, List.length_cons, szf]; omega)
      case iff =>
        refine ⟨_, rfl, _, rfl, _, rfl, _, rfl, _, rfl, _, _, rfl, rfl, d, l, nl, ns, m, (by show [V.ref d, V.ref nl, V.int (((m + 1 : Nat) : Int) - 1)] = _; rw [em]), D3, (N1.ext x2).ext x3, by omega, fun vc ec H4 D4 x4 hc oc dc sc => ⟨(by show 4 ≤ sizeLine; decide), fun t ht => ?_⟩⟩
        have kk := (kt_ext x4 D3).trans (kt_new ht (.tup [.str "if", va, vb, vc]))
        exact k (.ref t) (.ite ea eb ec) _ (D4.new ht) (x13.trans (x4.trans (Ext.new ht))) (isE_ite upd_same (ha3.kt kk) (hb.kt kk) (hc.kt (kt_new ht _))) ⟨oa, ob, oc⟩ (by simp only [Ex.depth]; omega) (by simp only [Ex.parts, List.length_cons, List.length_append, szf]; omega)
      case op =>
        refine ⟨_, rfl, d, l, 10, rfl, D3, by decide, by decide, fun c1 H4 c10 c11 D4 x4 => ?_⟩
        obtain ⟨u, hu, mu⟩ := at_get (xs := opT.cps.toList) c10 (by rw [opT_len]; omega)
        refine ⟨_, _, u, rfl, rfl, by decide +kernel, hu, _, rfl, _, rfl, (by show 4 ≤ sizeLine; decide), fun t ht => ?_⟩
        have kk := (kt_ext x4 D3).trans (kt_new ht (.tup [.str "op", .str ⟨#[u]⟩, va, vb]))
        exact k (.ref t) (.op ⟨#[u]⟩ ea eb) _ (D4.new ht) (x13.trans (x4.trans (Ext.new ht))) (isE_op upd_same (ha3.kt kk) (hb.kt kk)) ⟨⟨u, rfl, mu⟩, oa, ob⟩ (by simp only [Ex.depth]; omega) (by simp only [Ex.parts, List.length_cons, List.length_append, szf]; omega)
    all_goals
      have hs1 : 1 ≤ szf deep := by cases deep <;> simp [szf]
      refine' joinC _ (fun σ H2 => σ = [some (.ref d), some (.ref nl), some (.int (deep : Int)), some (.int fm), none, none] ∧ Deal H2 d l ∧ Ext d l H H2) ?fin ?main
      case main =>
        intro fin
        refine ⟨_, rfl, nl, _, rfl, .inl (SqL.of N1.at_), _, _, rfl, rfl, _, rfl, ite2 (fun c5 => ?hasn) (fun c5 => ?non)⟩
        case hasn =>
          refine ⟨_, rfl, d, l, 4, rfl, D1, by decide, by decide, fun r2 H2 r20 r21 D2 x2 => ⟨_, _, rfl, rfl, _, rfl, ite2 (fun c6 => ?takn) (fun c6 => ?non2)⟩⟩
          case takn =>
            have hl : 0 < ns.length := by
              have := of_decide_eq_true c5
              rw [List.length_map] at this
              omega
            have N2 := N1.ext x2
            refine ⟨_, rfl, _, rfl, _, rfl, nl, _, rfl, .inl (SqL.of N2.at_), d, l, _, rfl, D2, by rw [List.length_map]; omega, by rw [List.length_map]; have := N.few; omega, fun r3 H3 r30 r31 D3 x3 => ?_⟩
            obtain ⟨y, hy, my⟩ := at_get (xs := ns.map V.str) r30 r31
            obtain ⟨z, mz, rfl⟩ := List.mem_map.mp my
            refine ⟨nl, _, _, _, rfl, rfl, SqL.of (N2.ext x3).at_, hy, (by show 2 ≤ sizeLine; decide), fun t ht => ?_⟩
            exact k (.ref t) (.name z) _ (D3.new ht) ((x1.trans x2).trans (x3.trans (Ext.new ht))) (isE_name upd_same) mz (by simp [Ex.depth]) (by simp [Ex.parts]; omega)
          case non2 => exact fin _ _ ⟨rfl, D2, x1.trans x2⟩
        case non => exact fin _ _ ⟨rfl, D1, x1⟩
      case fin =>
        rintro σ H2 ⟨rfl, D2, x2⟩
        refine ⟨_, rfl, d, l, rfl, D2, fun r H3 r0 r1 D3 x3 => ⟨(by show 2 ≤ sizeLine; decide), fun t ht => ?_⟩⟩
        exact k (.ref t) (.num r) _ (D3.new ht) (x2.trans (x3.trans (Ext.new ht))) (isE_num upd_same) ⟨r0, r1⟩ (by simp [Ex.depth]) (by simp [Ex.parts]; omega)
end
end My
set_option Elab.async false
set_option maxRecDepth 100000
set_option linter.all false
namespace My
open PySem L2
def altD (a : Ex × Ex) : PyData := .tuple [a.1.dat, a.2.dat]
theorem altD_tp (a : Ex × Ex) : Tp (altD a) := .tup fun d h => by
  simp at h
  rcases h with rfl | rfl
  · exact a.1.tp
  · exact a.2.tp
theorem sg_eq : ∃ u, ("=" : Str) = ⟨#[u]⟩ ∧ u ∈ opT.cps.toList := ⟨61, by decide +kernel, by decide +kernel⟩
theorem sg_lt : ∃ u, ("<" : Str) = ⟨#[u]⟩ ∧ u ∈ opT.cps.toList := ⟨60, by decide +kernel, by decide +kernel⟩
theorem sg_or : ∃ u, ("|" : Str) = ⟨#[u]⟩ ∧ u ∈ opT.cps.toList := ⟨124, by decide +kernel, by decide +kernel⟩
section
variable {P : Program} {w : World} {K : PySem.W.Frag} {mg : Str → Option Value} {base : Heap}
set_option maxHeartbeats 4000000 in
theorem ok_test {f : Addr} {fd : FuncData} (F : Fun K "_law_test" "_law_test" s_L_test f fd) (Z : Zb mg) (G_L_draw : FnIn P w K mg base 1 "_law_draw" ps_L_draw spDraw)
    (G_L_expr : FnIn P w K mg base 5 "_law_expr" ps_L_expr (spExpr K 3)) : FnOk P w K mg base CX0 6 f fd ps_L_test (spTest K) := by
  refine F.ok sc_L_test (fun vs H Q E h => ?_) (fun cdv A outer s H vs Q E hr h => ?_)
  · obtain ⟨d, l, nl, ns, rfl, _⟩ := h
    rfl
  · obtain ⟨d, l, nl, ns, rfl, D, N, k⟩ := h
    refine ⟨_, (pss_cons (ps_if (PW.pt (pw_or (pt_cmpR op_eq (pe_callB call_len_seq (by rfl) Z.len (by decide +kernel) (pa_cons (pv 1) pa_nil)) pe_int (nomark _)) (pw_or1 (pt_cmpR op_eq (pe_fn G_L_draw hr rfl (pa_cons (pv 0) (pa_cons pe_int pa_nil))) pe_int (nomark _))))) (pss_one (ps_ret (pe_fn G_L_expr hr rfl (pa_cons (pv 0) (pa_cons (pv 1) (pa_cons pe_int pa_nil)))))) pss_nil)
      (pss_cons (ps_set (i := 2) sc_L_test.nd rfl (by first | exact Or.inl rfl | exact Or.inr rfl) (pe_tup (pa_cons pe_str (pa_cons (pe_ix ix_list (pv 1) (pe_fn G_L_draw hr rfl (pa_cons (pv 0) (pa_cons (pe_callB call_len_seq (by rfl) Z.len (by decide +kernel) (pa_cons (pv 1) pa_nil)) pa_nil))) (fun _ _ => rfl)) pa_nil))))
      (pss_cons (ps_set (i := 3) sc_L_test.nd rfl (by first | exact Or.inl rfl | exact Or.inr rfl) (pe_ix ix_list (pe_lst (pa_cons (pe_tup (pa_cons pe_str (pa_cons (pe_fn G_L_draw hr rfl (pa_cons (pv 0) (pa_cons pe_int pa_nil))) pa_nil))) (pa_cons (pe_tup (pa_cons pe_str (pa_cons (pe_ix ix_list (pv 1) (pe_fn G_L_draw hr rfl (pa_cons (pv 0) (pa_cons (pe_callB call_len_seq (by rfl) Z.len (by decide +kernel) (pa_cons (pv 1) pa_nil)) pa_nil))) (fun _ _ => rfl)) pa_nil))) pa_nil))) (pe_fn G_L_draw hr rfl (pa_cons (pv 0) (pa_cons pe_int pa_nil))) (fun _ _ => rfl)))
      (pss_one (ps_ret (pe_ix ix_list (pe_lst (pa_cons (pe_tup (pa_cons pe_str (pa_cons pe_str (pa_cons (pv 2) (pa_cons (pv 3) pa_nil))))) (pa_cons (pe_tup (pa_cons pe_str (pa_cons pe_str (pa_cons (pv 2) (pa_cons (pv 3) pa_nil))))) (pa_cons (pe_tup (pa_cons pe_str (pa_cons (pe_tup (pa_cons pe_str (pa_cons pe_str (pa_cons (pv 2) (pa_cons (pv 3) pa_nil))))) pa_nil))) (pa_cons (pe_tup (pa_cons pe_str (pa_cons pe_str (pa_cons (pv 2) (pa_cons (pv 3) pa_nil))))) pa_nil))))) (pe_fn G_L_draw hr rfl (pa_cons (pv 0) (pa_cons pe_int pa_nil))) (fun _ _ => rfl))))))), ?_⟩
    refine ⟨_, rfl, nl, _, rfl, .inl (SqL.of N.at_), rfl, _, rfl, ite2 (fun c => ?e1) (fun c => ⟨_, rfl, d, l, 5, rfl, D, by decide, by decide, fun r1 H1 r10 r11 D1 x1 => ⟨rfl, _, rfl, ite2 (fun c2 => ?e2) (fun c2 => ?rest)⟩⟩)⟩
    case e1 =>
      refine ⟨_, rfl, _, rfl, d, l, nl, ns, 2, rfl, D, N, by decide, fun v e H2 D2 x2 he oe de se => ?_⟩
      exact k v e H2 D2 x2 he oe (by omega) se
    case e2 =>
      refine ⟨_, rfl, _, rfl, d, l, nl, ns, 2, rfl, D1, N.ext x1, by decide, fun v e H2 D2 x2 he oe de se => ?_⟩
      exact k v e H2 D2 (x1.trans x2) he oe (by omega) se
    case rest =>
      have hl : 0 < ns.length := by
        have : ¬ ((ns.map V.str).length : Int) = 0 := fun e => c (decide_eq_true (by rw [e]))
        rw [List.length_map] at this
        omega
      have hf := N.few
      have N1 := N.ext x1
      -- a = ('name', names[draw(deal, len(names))])
      refine ⟨_, rfl, _, rfl, _, rfl, nl, _, rfl, .inl (SqL.of N1.at_), d, l, _, rfl, D1, by rw [List.length_map]; omega, by rw [List.length_map]; omega, fun r2 H2 r20 r21 D2 x2 => ?_⟩
      obtain ⟨y, hy, my⟩ := at_get (xs := ns.map V.str) r20 r21
      obtain ⟨z, mz, rfl⟩ := List.mem_map.mp my
      have N2 := N1.ext x2
      refine ⟨nl, _, _, _, rfl, rfl, SqL.of N2.at_, hy, (by show 2 ≤ sizeLine; decide), fun ta hta => ?_⟩
      -- b
      refine ⟨_, rfl, d, l, 4, rfl, D2.new hta, by decide, by decide, fun r3 H3 r30 r31 D3 x3 => ⟨(by show 2 ≤ sizeLine; decide), fun t1 ht1 => ?_⟩⟩
      have N3 := (N2.new (o := .tup [.str "name", .str z]) hta).ext x3
      have N3' := N3.new (o := .tup [.str "num", .int r3]) ht1
      refine ⟨_, rfl, _, rfl, _, rfl, nl, _, rfl, .inl (SqL.of N3'.at_), d, l, _, rfl, D3.new ht1, by rw [List.length_map]; omega, by rw [List.length_map]; omega, fun r4 H4 r40 r41 D4 x4 => ?_⟩
      obtain ⟨y, hy2, my⟩ := at_get (xs := ns.map V.str) r40 r41
      obtain ⟨z2, mz2, rfl⟩ := List.mem_map.mp my
      refine ⟨nl, _, _, _, rfl, rfl, SqL.of (N3'.ext x4).at_, hy2, (by show 2 ≤ sizeLine; decide), fun t2 ht2 => ⟨(by show 2 ≤ sizeLine; decide), fun q hq => ⟨_, rfl, d, l, 2, rfl, (D4.new ht2).new hq, by decide, by decide, fun r5 H5 r50 r51 D5 x5 => ?_⟩⟩⟩
      obtain ⟨nq1, nq2⟩ := (D4.new (o := .tup [.str "name", .str z2]) ht2).nn hq
      have k3 : KT (upd H2 ta (.tup [.str "name", .str z])) H3 := kt_ext x3 (D2.new hta)
      have k4 : KT (upd H3 t1 (.tup [.str "num", .int r3])) H4 := kt_ext x4 (D3.new ht1)
      have k5 := ((kt_new ht2 (.tup [.str "name", .str z2])).trans (kt_new hq (.lst [.ref t1, .ref t2]))).trans (kt_ext x5 ((D4.new ht2).new hq))
      have ea : IsE K H5 (.ref ta) (.name z) := ((((isE_name upd_same).kt k3).kt (kt_new ht1 _)).kt k4).kt k5
      have e1 : IsE K H5 (.ref t1) (.num r3) := ((isE_num upd_same).kt k4).kt k5
      have e2 : IsE K H5 (.ref t2) (.name z2) := ((isE_name upd_same).kt (kt_new hq _)).kt (kt_ext x5 ((D4.new ht2).new hq))
      have x05 := (((x1.trans x2).trans (Ext.new (o := .tup [.str "name", .str z]) hta)).trans (x3.trans (Ext.new (o := .tup [.str "num", .int r3]) ht1))).trans ((x4.trans (Ext.new (o := .tup [.str "name", .str z2]) ht2)).trans ((Ext.new (o := .lst [.ref t1, .ref t2]) hq).trans x5))
      obtain ⟨vb, hvb, mvb⟩ := at_get (xs := [V.ref t1, V.ref t2]) r50 (by show r5 < 2; omega)
      obtain ⟨eb, hb, ob, db, sb⟩ : ∃ eb, IsE K H5 vb eb ∧ eb.okN ns ∧ eb.depth = 0 ∧ eb.parts.length = 1 := by
        simp only [List.mem_cons, List.not_mem_nil, or_false] at mvb
        rcases mvb with rfl | rfl
        · exact ⟨_, e1, ⟨r30, by omega⟩, rfl, rfl⟩
        · exact ⟨_, e2, mz2, rfl, rfl⟩
      refine ⟨q, _, _, _, rfl, rfl, SqL.of (x5 q _ upd_same nq1 nq2), hvb, ?_⟩
      -- the four
      refine ⟨_, rfl, _, rfl, (by show 4 ≤ sizeLine; decide), fun u1 hu1 => ⟨_, rfl, _, rfl, (by show 4 ≤ sizeLine; decide), fun u2 hu2 => ⟨_, rfl, _, rfl, (by show 4 ≤ sizeLine; decide), fun u3 hu3 => ⟨(by show 2 ≤ sizeLine; decide), fun u4 hu4 => ⟨_, rfl, _, rfl, (by show 4 ≤ sizeLine; decide), fun u5 hu5 => ⟨(by show 4 ≤ sizeLine; decide), fun q2 hq2 => ⟨_, rfl, d, l, 4, rfl, (((((D5.new hu1).new hu2).new hu3).new hu4).new hu5).new hq2, by decide, by decide, fun r6 H6 r60 r61 D6 x6 => ?_⟩⟩⟩⟩⟩⟩⟩
      have DD := ((((D5.new (o := .tup [.str "op", .str "=", .ref ta, vb]) hu1).new (o := .tup [.str "op", .str "<", .ref ta, vb]) hu2).new (o := .tup [.str "op", .str "=", .ref ta, vb]) hu3).new (o := .tup [.str "not", .ref u3]) hu4).new (o := .tup [.str "op", .str "|", .ref ta, vb]) hu5
      obtain ⟨nn1, nn2⟩ := DD.nn hq2
      have g1 := kt_new hu1 (.tup [.str "op", .str "=", .ref ta, vb])
      have g2 := kt_new hu2 (.tup [.str "op", .str "<", .ref ta, vb])
      have g3 := kt_new hu3 (.tup [.str "op", .str "=", .ref ta, vb])
      have g4 := kt_new hu4 (.tup [.str "not", .ref u3])
      have g5 := kt_new hu5 (.tup [.str "op", .str "|", .ref ta, vb])
      have g6 := (kt_new hq2 (.lst [.ref u1, .ref u2, .ref u4, .ref u5])).trans (kt_ext x6 (DD.new hq2))
      have w1 : IsE K H6 (.ref u1) (.op "=" (.name z) eb) := ((((((isE_op upd_same (ea.kt g1) (hb.kt g1)).kt g2).kt g3).kt g4).kt g5).kt g6)
      have w2 : IsE K H6 (.ref u2) (.op "<" (.name z) eb) := (((((isE_op upd_same ((ea.kt g1).kt g2) ((hb.kt g1).kt g2)).kt g3).kt g4).kt g5).kt g6)
      have w3 : IsE K (upd (upd (upd H5 u1 (.tup [.str "op", .str "=", .ref ta, vb])) u2 (.tup [.str "op", .str "<", .ref ta, vb])) u3 (.tup [.str "op", .str "=", .ref ta, vb])) (.ref u3) (.op "=" (.name z) eb) := isE_op upd_same (((ea.kt g1).kt g2).kt g3) (((hb.kt g1).kt g2).kt g3)
      have w4 : IsE K H6 (.ref u4) (.not (.op "=" (.name z) eb)) := ((isE_not upd_same (w3.kt g4)).kt g5).kt g6
      have w5 : IsE K H6 (.ref u5) (.op "|" (.name z) eb) := (isE_op upd_same (((((ea.kt g1).kt g2).kt g3).kt g4).kt g5) (((((hb.kt g1).kt g2).kt g3).kt g4).kt g5)).kt g6
      obtain ⟨y, hy3, my⟩ := at_get (xs := [V.ref u1, V.ref u2, V.ref u4, V.ref u5]) r60 (by show r6 < 4; omega)
      refine ⟨q2, _, _, _, rfl, rfl, SqL.of (x6 q2 _ upd_same nn1 nn2), hy3, ?_⟩
      have x06 := x05.trans (((((Ext.new hu1).trans (Ext.new hu2)).trans (Ext.new hu3)).trans ((Ext.new hu4).trans (Ext.new hu5))).trans ((Ext.new hq2).trans x6))
      simp only [List.mem_cons, List.not_mem_nil, or_false] at my
      rcases my with rfl | rfl | rfl | rfl
      · exact k _ _ H6 D6 x06 w1 ⟨sg_eq, mz, ob⟩ (by simp only [Ex.depth]; omega) (by simp only [Ex.parts, List.length_cons, List.length_append, List.length_nil]; omega)
      · exact k _ _ H6 D6 x06 w2 ⟨sg_lt, mz, ob⟩ (by simp only [Ex.depth]; omega) (by simp only [Ex.parts, List.length_cons, List.length_append, List.length_nil]; omega)
      · exact k _ _ H6 D6 x06 w4 ⟨sg_eq, mz, ob⟩ (by simp only [Ex.depth]; omega) (by simp only [Ex.parts, List.length_cons, List.length_append, List.length_nil]; omega)
      · exact k _ _ H6 D6 x06 w5 ⟨sg_or, mz, ob⟩ (by simp only [Ex.depth]; omega) (by simp only [Ex.parts, List.length_cons, List.length_append, List.length_nil]; omega)
end
end My
set_option Elab.async false
set_option maxRecDepth 100000
set_option linter.all false
namespace My
open PySem L2
theorem iteST {x : Str} {A B : Prop} (h : A) : if decide (V.str x = V.str x) = true then A else B := by
  rw [decide_eq_true rfl]
  exact iteT h
theorem iteSF {x y : Str} {A B : Prop} (hn : x ≠ y) (h : B) : if decide (V.str x = V.str y) = true then A else B := by
  rw [decide_eq_false (fun e => hn (V.str.inj e))]
  exact iteF h
theorem iteB {b : Bool} {A B : Prop} (e : b = false) (h : B) : if b = true then A else B := by subst e; exact iteF h
theorem iteBT {b : Bool} {A B : Prop} (e : b = true) (h : A) : if b = true then A else B := by subst e; exact iteT h
def signs : List Str := ["+", "-", "*", "<", "=", "&", "|"]
/-- of good numbers and signs, its names such as P says -/
def Ex.sem (P : Str → Prop) : Ex → Prop
  | .num n => 0 ≤ n ∧ n ≤ 999
  | .name x => P x
  | .op s a b => s ∈ signs ∧ sem P a ∧ sem P b
  | .not a => sem P a
  | .ite c a b => sem P c ∧ sem P a ∧ sem P b
theorem Ex.sem.imp {P Q : Str → Prop} (h : ∀ x, P x → Q x) : ∀ {e : Ex}, e.sem P → e.sem Q
  | .num _, o => o
  | .name x, o => h x o
  | .op _ _ _, o => ⟨o.1, o.2.1.imp h, o.2.2.imp h⟩
  | .not a, o => Ex.sem.imp (e := a) h o
  | .ite _ _ _, o => ⟨o.1.imp h, o.2.1.imp h, o.2.2.imp h⟩
/-- what two numbers and a sign give -/
def opv (s : Str) (a b : Int) : Int :=
  if s = "+" then (a + b) % 1000 else if s = "-" then (a - b) % 1000 else if s = "*" then a * b % 1000 else if s = "<" then (if a < b then 1 else 0)
  else if s = "=" then (if a = b then 1 else 0) else if s = "&" then (if a = 0 ∨ b = 0 then 0 else 1) else (if a = 0 ∧ b = 0 then 0 else 1)
theorem opv1 (a b : Int) : opv "+" a b = (a + b) % 1000 := by unfold opv; rw [if_pos rfl]
theorem opv2 (a b : Int) : opv "-" a b = (a - b) % 1000 := by unfold opv; rw [if_neg (by decide +kernel), if_pos rfl]
theorem opv3 (a b : Int) : opv "*" a b = a * b % 1000 := by unfold opv; rw [if_neg (by decide +kernel), if_neg (by decide +kernel), if_pos rfl]
theorem opv4 (a b : Int) : opv "<" a b = if a < b then 1 else 0 := by unfold opv; rw [if_neg (by decide +kernel), if_neg (by decide +kernel), if_neg (by decide +kernel), if_pos rfl]
theorem opv5 (a b : Int) : opv "=" a b = if a = b then 1 else 0 := by unfold opv; rw [if_neg (by decide +kernel), if_neg (by decide +kernel), if_neg (by decide +kernel), if_neg (by decide +kernel), if_pos rfl]
theorem opv6 (a b : Int) : opv "&" a b = if a = 0 ∨ b = 0 then 0 else 1 := by unfold opv; rw [if_neg (by decide +kernel), if_neg (by decide +kernel), if_neg (by decide +kernel), if_neg (by decide +kernel), if_neg (by decide +kernel), if_pos rfl]
theorem opv7 (a b : Int) : opv "|" a b = if a = 0 ∧ b = 0 then 0 else 1 := by unfold opv; rw [if_neg (by decide +kernel), if_neg (by decide +kernel), if_neg (by decide +kernel), if_neg (by decide +kernel), if_neg (by decide +kernel), if_neg (by decide +kernel)]
theorem signs_cases {s : Str} (h : s ∈ signs) : s = "+" ∨ s = "-" ∨ s = "*" ∨ s = "<" ∨ s = "=" ∨ s = "&" ∨ s = "|" := by
  simp only [signs, List.mem_cons, List.not_mem_nil, or_false] at h
  exact h
theorem opv_rng {s : Str} (h : s ∈ signs) (a b : Int) : 0 ≤ opv s a b ∧ opv s a b ≤ 999 := by
  rcases signs_cases h with rfl | rfl | rfl | rfl | rfl | rfl | rfl
  · rw [opv1]; omega
  · rw [opv2]; omega
  · rw [opv3]; omega
  · rw [opv4]; split <;> omega
  · rw [opv5]; split <;> omega
  · rw [opv6]; split <;> omega
  · rw [opv7]; split <;> omega
def Ex.val (ρ : Str → Int) : Ex → Int
  | .num n => n
  | .name x => ρ x
  | .op s a b => opv s (val ρ a) (val ρ b)
  | .not a => if val ρ a = 0 then 1 else 0
  | .ite c a b => if val ρ c = 0 then val ρ b else val ρ a
theorem Ex.val_rng {ρ : Str → Int} : ∀ {e : Ex}, e.sem (fun x => 0 ≤ ρ x ∧ ρ x ≤ 999) → 0 ≤ e.val ρ ∧ e.val ρ ≤ 999
  | .num _, o => o
  | .name _, o => o
  | .op _ _ _, o => opv_rng o.1 _ _
  | .not a, _ => by simp only [Ex.val]; split <;> omega
  | .ite c a b, o => by
    have h1 := Ex.val_rng (e := a) o.2.1
    have h2 := Ex.val_rng (e := b) o.2.2
    simp only [Ex.val]
    split
    · exact h2
    · exact h1
def spJoin : Sp := fun vs H Q _ => ∃ (s : Str) (a b : Int), vs = [.str s, .int a, .int b] ∧ s ∈ signs ∧ (0 ≤ a ∧ a ≤ 999) ∧ (0 ≤ b ∧ b ≤ 999) ∧ Q (.int (opv s a b)) H
/-- the names are in the dict -/
def Kn (kvs : List (Key × V)) (ρ : Str → Int) (x : Str) : Prop := valV kvs (Sum.inr x) = some (.int (ρ x)) ∧ 0 ≤ ρ x ∧ ρ x ≤ 999
def spVal (K : PySem.W.Frag) (n : Nat) : Sp := fun vs H Q _ => ∃ (v : V) (e : Ex) (dk : Addr) (kvs : List (Key × V)) (ρ : Str → Int), vs = [v, .ref dk] ∧ IsE K H v e ∧ e.depth < n ∧ H dk = some (.dK kvs) ∧ e.sem (Kn kvs ρ) ∧ Q (.int (e.val ρ)) H
section
variable {P : Program} {w : World} {K : PySem.W.Frag} {mg : Str → Option Value} {base : Heap}
theorem ok_join {f : Addr} {fd : FuncData} (F : Fun K "joined" "joined" s_joined f fd) (Z : Zb mg) : FnOk P w K mg base CX0 1 f fd ps_joined spJoin := by
  refine F.ok sc_joined (fun vs H Q E h => ?_) (fun cdv A outer s H vs Q E hr h => ?_)
  · obtain ⟨s, a, b, rfl, _⟩ := h
    rfl
  · obtain ⟨s, a, b, rfl, hs, ha, hb, k⟩ := h
    refine ⟨_, (pss_cons (ps_if (pt_cmpR op_eq (pv 0) pe_str (nomark _)) (pss_one (ps_ret (pe_op op_mod (pe_op op_add (pv 1) (pv 2)) (pe_gint rfl Z.LIMIT)))) pss_nil)
      (pss_cons (ps_if (pt_cmpR op_eq (pv 0) pe_str (nomark _)) (pss_one (ps_ret (pe_op op_mod (pe_op op_sub (pv 1) (pv 2)) (pe_gint rfl Z.LIMIT)))) pss_nil)
      (pss_cons (ps_if (pt_cmpR op_eq (pv 0) pe_str (nomark _)) (pss_one (ps_ret (pe_op op_mod (pe_op op_mul (pv 1) (pv 2)) (pe_gint rfl Z.LIMIT)))) pss_nil)
      (pss_cons (ps_if (pt_cmpR op_eq (pv 0) pe_str (nomark _)) (pss_one (ps_ret (pe_ifExp (pt_cmpR op_lt (pv 1) (pv 2) (nomark _)) pe_int pe_int))) pss_nil)
      (pss_cons (ps_if (pt_cmpR op_eq (pv 0) pe_str (nomark _)) (pss_one (ps_ret (pe_ifExp (pt_cmpR op_eq (pv 1) (pv 2) (nomark _)) pe_int pe_int))) pss_nil)
      (pss_cons (ps_if (pt_cmpR op_eq (pv 0) pe_str (nomark _)) (pss_one (ps_ret (pe_ifExp (PW.pt (pw_or (pt_cmpR op_eq (pv 1) pe_int (nomark _)) (pw_or1 (pt_cmpR op_eq (pv 2) pe_int (nomark _))))) pe_int pe_int))) pss_nil)
      (pss_one (ps_ret (pe_ifExp (PW.pt (pw_and (pt_cmpR op_eq (pv 1) pe_int (nomark _)) (pw_and1 (pt_cmpR op_eq (pv 2) pe_int (nomark _))))) pe_int pe_int))))))))), ?_⟩
    rcases signs_cases hs with rfl | rfl | rfl | rfl | rfl | rfl | rfl
    · rw [opv1] at k
      exact ⟨_, rfl, rfl, _, rfl, iteST ⟨_, rfl, _, rfl, _, _, rfl, rfl, _, _, rfl, rfl, (by show (0 : Int) < 1000; decide), k⟩⟩
    · rw [opv2] at k
      exact ⟨_, rfl, rfl, _, rfl, iteSF (by decide +kernel) ⟨_, rfl, rfl, _, rfl, iteST ⟨_, rfl, _, rfl, _, _, rfl, rfl, _, _, rfl, rfl, (by show (0 : Int) < 1000; decide), k⟩⟩⟩
    · rw [opv3] at k
      exact ⟨_, rfl, rfl, _, rfl, iteSF (by decide +kernel) ⟨_, rfl, rfl, _, rfl, iteSF (by decide +kernel) ⟨_, rfl, rfl, _, rfl, iteST ⟨_, rfl, _, rfl, _, _, rfl, rfl, .inl ⟨by omega, by omega⟩, _, _, rfl, rfl, (by show (0 : Int) < 1000; decide), k⟩⟩⟩⟩
    · rw [opv4] at k
      refine ⟨_, rfl, rfl, _, rfl, iteSF (by decide +kernel) ⟨_, rfl, rfl, _, rfl, iteSF (by decide +kernel) ⟨_, rfl, rfl, _, rfl, iteSF (by decide +kernel) ⟨_, rfl, rfl, _, rfl, iteST ⟨_, rfl, _, rfl, _, _, rfl, rfl, _, rfl, ite2 (fun c => ?_) (fun c => ?_)⟩⟩⟩⟩⟩
      · rw [if_pos (of_decide_eq_true c)] at k; exact k
      · rw [if_neg (fun z => c (decide_eq_true z))] at k; exact k
    · rw [opv5] at k
      refine ⟨_, rfl, rfl, _, rfl, iteSF (by decide +kernel) ⟨_, rfl, rfl, _, rfl, iteSF (by decide +kernel) ⟨_, rfl, rfl, _, rfl, iteSF (by decide +kernel) ⟨_, rfl, rfl, _, rfl, iteSF (by decide +kernel) ⟨_, rfl, rfl, _, rfl, iteST ⟨_, rfl, _, rfl, rfl, _, rfl, ite2 (fun c => ?_) (fun c => ?_)⟩⟩⟩⟩⟩⟩
      · rw [if_pos (V.int.inj (of_decide_eq_true c))] at k; exact k
      · rw [if_neg (fun z => c (decide_eq_true (by rw [z])))] at k; exact k
    · rw [opv6] at k
      refine ⟨_, rfl, rfl, _, rfl, iteSF (by decide +kernel) ⟨_, rfl, rfl, _, rfl, iteSF (by decide +kernel) ⟨_, rfl, rfl, _, rfl, iteSF (by decide +kernel) ⟨_, rfl, rfl, _, rfl, iteSF (by decide +kernel) ⟨_, rfl, rfl, _, rfl, iteSF (by decide +kernel) ⟨_, rfl, rfl, _, rfl, iteST ⟨_, rfl, rfl, _, rfl, ite2 (fun c => iteT ?_) (fun c => ⟨_, rfl, rfl, _, rfl, ite2 (fun c2 => ?_) (fun c2 => ?_)⟩)⟩⟩⟩⟩⟩⟩⟩
      · rw [if_pos (.inl (V.int.inj (of_decide_eq_true c)))] at k; exact k
      · rw [if_pos (.inr (V.int.inj (of_decide_eq_true c2)))] at k; exact k
      · rw [if_neg (fun z => z.elim (fun z => c (decide_eq_true (by rw [z]))) (fun z => c2 (decide_eq_true (by rw [z]))))] at k; exact k
    · rw [opv7] at k
      refine ⟨_, rfl, rfl, _, rfl, iteSF (by decide +kernel) ⟨_, rfl, rfl, _, rfl, iteSF (by decide +kernel) ⟨_, rfl, rfl, _, rfl, iteSF (by decide +kernel) ⟨_, rfl, rfl, _, rfl, iteSF (by decide +kernel) ⟨_, rfl, rfl, _, rfl, iteSF (by decide +kernel) ⟨_, rfl, rfl, _, rfl, iteSF (by decide +kernel) ⟨_, rfl, rfl, _, rfl, ite2 (fun c => ⟨_, rfl, rfl, _, rfl, ite2 (fun c2 => ?_) (fun c2 => ?_)⟩) (fun c => iteF ?_)⟩⟩⟩⟩⟩⟩⟩
      · rw [if_pos ⟨V.int.inj (of_decide_eq_true c), V.int.inj (of_decide_eq_true c2)⟩] at k; exact k
      · rw [if_neg (fun z => c2 (decide_eq_true (by rw [z.2])))] at k; exact k
      · rw [if_neg (fun z => c (decide_eq_true (by rw [z.1])))] at k; exact k
theorem kn_rng {kvs : List (Key × V)} {ρ : Str → Int} {e : Ex} (h : e.sem (Kn kvs ρ)) : 0 ≤ e.val ρ ∧ e.val ρ ≤ 999 := Ex.val_rng (h.imp fun x q => q.2)
theorem dget_name {H : Hp} {dk : Addr} {kvs : List (Key × V)} {ρ : Str → Int} {x : Str} (h : H dk = some (.dK kvs)) (q : Kn kvs ρ x) : DGet H dk (.str x) (some (.int (ρ x))) := .inl ⟨kvs, Sum.inr x, .inl h, rfl, q.1.symm⟩
theorem ok_val {f : Addr} {fd : FuncData} (n : Nat) (F : Fun K "value_of" "value_of" s_value_of f fd) (Z : Zb mg) (G_joined : FnIn P w K mg base 1 "joined" ps_joined spJoin)
    (G_value_of : FnIn P w K mg base (n + 2) "value_of" ps_value_of (spVal K n)) : FnOk P w K mg base CX0 (n + 3) f fd ps_value_of (spVal K (n + 1)) := by
  refine F.ok sc_value_of (fun vs H Q E h => ?_) (fun cdv A outer s H vs Q E hr h => ?_)
  · obtain ⟨v, e, dk, kvs, ρ, rfl, _⟩ := h
    rfl
  · obtain ⟨v, e, dk, kvs, ρ, rfl, hv, hdp, hdk, hsem, k⟩ := h
    have hu := hu_of hr
    refine ⟨_, (pss_cons (ps_set (i := 2) sc_value_of.nd rfl (by first | exact Or.inl rfl | exact Or.inr rfl) (pe_ix ix_tup (pv 0) pe_int (fun _ _ => rfl)))
      (pss_cons (ps_if (pt_cmpR op_eq (pv 2) pe_str (nomark _)) (pss_one (ps_ret (pe_ix ix_tup (pv 0) pe_int (fun _ _ => rfl)))) pss_nil)
      (pss_cons (ps_if (pt_cmpR op_eq (pv 2) pe_str (nomark _)) (pss_one (ps_ret (pe_dget hu (pv 1) (pe_ix ix_tup (pv 0) pe_int (fun _ _ => rfl)) (fun _ _ => rfl)))) pss_nil)
      (pss_cons (ps_if (pt_cmpR op_eq (pv 2) pe_str (nomark _)) (pss_one (ps_ret (pe_ifExp (pt_cmpR op_eq (pe_fn G_value_of hr rfl (pa_cons (pe_ix ix_tup (pv 0) pe_int (fun _ _ => rfl)) (pa_cons (pv 1) pa_nil))) pe_int (nomark _)) pe_int pe_int))) pss_nil)
      (pss_cons (ps_if (pt_cmpR op_eq (pv 2) pe_str (nomark _)) (pss_cons (ps_set (i := 3) sc_value_of.nd rfl (by first | exact Or.inl rfl | exact Or.inr rfl) (pe_ifExp (pt_cmpR op_eq (pe_fn G_value_of hr rfl (pa_cons (pe_ix ix_tup (pv 0) pe_int (fun _ _ => rfl)) (pa_cons (pv 1) pa_nil))) pe_int (nomark _)) (pe_ix ix_tup (pv 0) pe_int (fun _ _ => rfl)) (pe_ix ix_tup (pv 0) pe_int (fun _ _ => rfl))))
      (pss_one (ps_ret (pe_fn G_value_of hr rfl (pa_cons (pv 3) (pa_cons (pv 1) pa_nil)))))) pss_nil)
      (pss_one (ps_ret (pe_fn G_joined hr rfl (pa_cons (pe_ix ix_tup (pv 0) pe_int (fun _ _ => rfl)) (pa_cons (pe_fn G_value_of hr rfl (pa_cons (pe_ix ix_tup (pv 0) pe_int (fun _ _ => rfl)) (pa_cons (pv 1) pa_nil))) (pa_cons (pe_fn G_value_of hr rfl (pa_cons (pe_ix ix_tup (pv 0) pe_int (fun _ _ => rfl)) (pa_cons (pv 1) pa_nil))) pa_nil))))))))))), ?_⟩
    obtain ⟨a, xs, rfl, hS, hx⟩ := hv.open
    cases e with
    | num m =>
      subst hx
      exact ⟨_, rfl, a, _, _, _, rfl, rfl, hS, rfl, _, rfl, rfl, _, rfl, iteST ⟨_, rfl, a, _, _, _, rfl, rfl, hS, rfl, k⟩⟩
    | name x =>
      subst hx
      exact ⟨_, rfl, a, _, _, _, rfl, rfl, hS, rfl, _, rfl, rfl, _, rfl, iteSF (by decide +kernel) ⟨_, rfl, rfl, _, rfl, iteST ⟨_, rfl, _, rfl, a, _, _, _, rfl, rfl, hS, rfl, dk, _, rfl, dget_name hdk hsem, k⟩⟩⟩
    | not x =>
      obtain ⟨va, rfl, h1⟩ := hx
      have d1 : x.depth < n := by simp only [Ex.depth] at hdp; omega
      refine ⟨_, rfl, a, _, _, _, rfl, rfl, hS, rfl, _, rfl, rfl, _, rfl, iteSF (by decide +kernel) ⟨_, rfl, rfl, _, rfl, iteSF (by decide +kernel) ⟨_, rfl, rfl, _, rfl, iteST ⟨_, rfl, a, _, _, _, rfl, rfl, hS, rfl, _, rfl, va, x, dk, kvs, ρ, rfl, h1, d1, hdk, hsem, rfl, _, rfl, ite2 (fun c => ?_) (fun c => ?_)⟩⟩⟩⟩
      · simp only [Ex.val] at k; rw [if_pos (V.int.inj (of_decide_eq_true c))] at k; exact k
      · simp only [Ex.val] at k; rw [if_neg (fun z => c (decide_eq_true (by rw [z])))] at k; exact k
    | ite b x y =>
      obtain ⟨vc, va, vb, rfl, h0, h1, h2⟩ := hx
      have d0 : b.depth < n := by simp only [Ex.depth] at hdp; omega
      have d1 : x.depth < n := by simp only [Ex.depth] at hdp; omega
      have d2 : y.depth < n := by simp only [Ex.depth] at hdp; omega
      refine ⟨_, rfl, a, _, _, _, rfl, rfl, hS, rfl, _, rfl, rfl, _, rfl, iteSF (by decide +kernel) ⟨_, rfl, rfl, _, rfl, iteSF (by decide +kernel) ⟨_, rfl, rfl, _, rfl, iteSF (by decide +kernel) ⟨_, rfl, rfl, _, rfl, iteST ⟨_, rfl, a, _, _, _, rfl, rfl, hS, rfl, _, rfl, vc, b, dk, kvs, ρ, rfl, h0, d0, hdk, hsem.1, rfl, _, rfl, ite2 (fun c => ?_) (fun c => ?_)⟩⟩⟩⟩⟩
      · simp only [Ex.val] at k; rw [if_pos (V.int.inj (of_decide_eq_true c))] at k
        exact ⟨_, rfl, a, _, _, _, rfl, rfl, hS, rfl, _, rfl, _, rfl, vb, y, dk, kvs, ρ, rfl, h2, d2, hdk, hsem.2.2, k⟩
      · simp only [Ex.val] at k; rw [if_neg (fun z => c (decide_eq_true (by rw [z])))] at k
        exact ⟨_, rfl, a, _, _, _, rfl, rfl, hS, rfl, _, rfl, _, rfl, va, x, dk, kvs, ρ, rfl, h1, d1, hdk, hsem.2.1, k⟩
    | op o x y =>
      obtain ⟨va, vb, rfl, h1, h2⟩ := hx
      have d1 : x.depth < n := by simp only [Ex.depth] at hdp; omega
      have d2 : y.depth < n := by simp only [Ex.depth] at hdp; omega
      exact ⟨_, rfl, a, _, _, _, rfl, rfl, hS, rfl, _, rfl, rfl, _, rfl, iteSF (by decide +kernel) ⟨_, rfl, rfl, _, rfl, iteSF (by decide +kernel) ⟨_, rfl, rfl, _, rfl, iteSF (by decide +kernel) ⟨_, rfl, rfl, _, rfl, iteSF (by decide +kernel) ⟨_, rfl, a, _, _, _, rfl, rfl, hS, rfl, _, rfl, a, _, _, _, rfl, rfl, hS, rfl, _, rfl, va, x, dk, kvs, ρ, rfl, h1, d1, hdk, hsem.2.1, _, rfl, a, _, _, _, rfl, rfl, hS, rfl, _, rfl, vb, y, dk, kvs, ρ, rfl, h2, d2, hdk, hsem.2.2, o, _, _, rfl, hsem.1, kn_rng hsem.2.1, kn_rng hsem.2.2, k⟩⟩⟩⟩⟩
end
end My
set_option Elab.async false
set_option maxRecDepth 100000
set_option linter.all false
namespace My
open PySem L2
def BG : Nat := 2 ^ 27000
theorem bg_log {i : Int} (h : i.natAbs < BG) : i.natAbs.log2 < 27000 := by
  by_cases e : i.natAbs = 0
  · rw [e]; decide
  · exact (Nat.log2_lt e).mpr h
theorem bg_bits {i : Int} (h : i.natAbs < BG) : Builtin.Int.intBits i ≤ 27000 := by
  unfold Builtin.Int.intBits
  have := bg_log h
  split <;> omega
def CMulG (i j : Int) : Prop := i.natAbs < BG ∧ j.natAbs < BG
theorem CMulG.ok {i j : Int} (h : CMulG i j) : IntMulOk i j := by
  have h1 := bg_bits h.1
  have h2 := bg_bits h.2
  unfold IntMulOk
  intro z
  rw [Bool.and_eq_true] at z
  have z2 := of_decide_eq_true z.2
  have e : (bitsLine : Int) = 134217728 := by decide
  omega
theorem op_mulG {X : Cx} : OpR X (binaryOp .Mult) (rI CMulG fun i j => .int (i * j)) := opI fun _ _ _ _ _ _ _ hc q => PyProof.Rows.mul_int q hc.ok
theorem abs_nat (i : Int) : (if i < 0 then -i else i) = (i.natAbs : Int) := by split <;> omega
theorem sgn_mul {s : Int} (hs : s = 1 ∨ s = -1) (u : Int) : (s * u).natAbs = u.natAbs := by
  rcases hs with rfl | rfl
  · simp
  · simp
def sg (l : Int) : Int := if l < 0 then -1 else 1
theorem sg1 (l : Int) : sg l = 1 ∨ sg l = -1 := by unfold sg; split <;> simp
theorem sg_mul (l u : Int) : (sg l * u).natAbs = u.natAbs := sgn_mul (sg1 l) u
theorem sg_self (l : Int) : sg l * l = (l.natAbs : Int) := by unfold sg; split <;> omega
def lowU (u l : Int) : Int := sg l * u / (Nat.gcd u.natAbs l.natAbs : Nat)
def lowL (u l : Int) : Int := sg l * l / (Nat.gcd u.natAbs l.natAbs : Nat)
theorem low_pos {u l : Int} (hl : l ≠ 0) : 0 < lowL u l := by
  unfold lowL
  rw [sg_self]
  have hG : 0 < Nat.gcd u.natAbs l.natAbs := Nat.gcd_pos_of_pos_right _ (by omega)
  have : Nat.gcd u.natAbs l.natAbs ≤ l.natAbs := Nat.gcd_le_right _ (by omega)
  rw [← Int.natCast_ediv]
  have := Nat.div_pos this hG
  omega
theorem low_ub {u l : Int} : (lowU u l).natAbs ≤ u.natAbs := by
  unfold lowU
  have h1 := sg_mul l u
  rw [← h1]
  exact Int.natAbs_ediv_le_natAbs _ _
theorem low_lb {u l : Int} : (lowL u l).natAbs ≤ l.natAbs := by
  unfold lowL
  have h1 := sg_mul l l
  rw [← h1]
  exact Int.natAbs_ediv_le_natAbs _ _
/-- a positive denominator, below B -/
structure Sh (a b : Int) (B : Nat) : Prop where
  pos : 0 < b
  ua : a.natAbs ≤ B
  ub : b.natAbs ≤ B
theorem Sh.mono {a b : Int} {B C : Nat} (h : Sh a b B) (hBC : B ≤ C) : Sh a b C := ⟨h.pos, Nat.le_trans h.ua hBC, Nat.le_trans h.ub hBC⟩
theorem Sh.low {u l : Int} {B : Nat} (hl : l ≠ 0) (hu : u.natAbs ≤ B) (hb : l.natAbs ≤ B) : Sh (lowU u l) (lowL u l) B := ⟨low_pos hl, Nat.le_trans low_ub hu, Nat.le_trans low_lb hb⟩
def shO (u l : Int) : HO := .tup [.int (lowU u l), .int (lowL u l)]
def spLow : Sp := fun vs H Q _ => ∃ (u l : Int), vs = [.int u, .int l] ∧ l ≠ 0 ∧ ∀ (t : Addr), H t = none → Q (.ref t) (upd H t (shO u l))
def spGd : Sp := fun vs H Q _ => ∃ (m n : Nat), vs = [.int m, .int n] ∧ Q (.int (Nat.gcd m n : Nat)) H
section
variable {P : Program} {w : World} {K : PySem.W.Frag} {mg : Str → Option Value} {base : Heap}
theorem nat_mod (m n : Nat) : (m : Int) % (n : Int) = ((m % n : Nat) : Int) := by omega
theorem gcd_step (m n : Nat) : Nat.gcd n (m % n) = Nat.gcd m n := by rw [Nat.gcd_comm n, ← Nat.gcd_rec, Nat.gcd_comm]
theorem ok_gd {f : Addr} {fd : FuncData} (F : Fun K "greatest_divisor" "greatest_divisor" s_greatest_divisor f fd) (Z : Zb mg) : FnOk P w K mg base CX0 1 f fd ps_greatest_divisor spGd := by
  refine F.ok sc_greatest_divisor (fun vs H Q E h => ?_) (fun cdv A outer s H vs Q E hr h => ?_)
  · obtain ⟨m, n, rfl, _⟩ := h
    rfl
  · obtain ⟨m, n, rfl, k⟩ := h
    refine ⟨_, (pss_cons (ps_while PassesOwn.never (pt_cmpR op_ne (pv 1) pe_int (nomark _)) (pss_one (ps_par (i := 0) (j := 1) (by rfl) sc_greatest_divisor.nd rfl rfl (by decide) rfl rfl (pa_cons (pv 1) (pa_cons (pe_op op_mod (pv 0) (pv 1)) pa_nil)) (by rfl))))
      (pss_one (ps_ret (pv 0)))), ?_⟩
    refine ⟨fun mm σ H2 => ∃ (x y : Nat), mm = y ∧ σ = [some (.int x), some (.int y)] ∧ H2 = H ∧ Nat.gcd x y = Nat.gcd m n, ⟨_, m, n, rfl, rfl, rfl, rfl⟩, ?_⟩
    rintro y σ H2 ⟨x, _, rfl, rfl, rfl, hg⟩
    refine ⟨_, rfl, rfl, _, rfl, ?_⟩
    by_cases hy : y = 0
    · subst hy
      refine iteB (by simp) ?_
      refine ⟨_, rfl, ?_⟩
      rw [Nat.gcd_zero_right] at hg
      rw [← hg] at k
      exact k
    · refine iteBT (by simp; omega) ⟨_, fun _ _ h => h, ?_⟩
      refine ⟨_, rfl, _, rfl, _, rfl, _, _, rfl, rfl, (by show (0 : Int) < (y : Int); omega), _, _, rfl, ?_⟩
      exact ⟨x % y, Nat.mod_lt _ (by omega), y, x % y, rfl, (by rw [← nat_mod]; rfl), rfl, by rw [gcd_step]; exact hg⟩
end
theorem gcd_pos' {u l : Int} (hl : l ≠ 0) : 0 < Nat.gcd u.natAbs l.natAbs := Nat.gcd_pos_of_pos_right _ (by omega)
section
variable {P : Program} {w : World} {K : PySem.W.Frag} {mg : Str → Option Value} {base : Heap}
theorem ok_share {f : Addr} {fd : FuncData} (hP : P.given.tree = none) (F : Fun K "share_of" "share_of" s_share_of f fd) (Z : Zb mg) (G_greatest_divisor : FnIn P w K mg base 1 "greatest_divisor" ps_greatest_divisor spGd) : FnOk P w K mg base CX0 40 f fd ps_share_of spLow := by
  refine F.ok sc_share_of (fun vs H Q E h => ?_) (fun cdv A outer s H vs Q E hr h => ?_)
  · obtain ⟨u, l, rfl, _⟩ := h
    rfl
  · obtain ⟨u, l, rfl, hl, k⟩ := h
    refine ⟨_, (pss_cons (ps_if (pt_cmpR op_eq (pv 1) pe_int (nomark _)) (pss_one ps_never) pss_nil)
      (pss_cons (ps_if (pt_cmpR op_lt (pv 1) pe_int (nomark _)) (pss_one (ps_par (i := 0) (j := 1) (by rfl) sc_share_of.nd rfl rfl (by decide) rfl rfl (pa_cons (pe_un un_neg (pv 0)) (pa_cons (pe_un un_neg (pv 1)) pa_nil)) (by rfl))) pss_nil)
      (pss_cons (ps_set (i := 2) sc_share_of.nd rfl (by first | exact Or.inl rfl | exact Or.inr rfl) (pe_fn G_greatest_divisor hr rfl (pa_cons (pe_callB call_abs (by rfl) Z.abs (by decide +kernel) (pa_cons (pv 0) pa_nil)) (pa_cons (pv 1) pa_nil))))
      (pss_one (ps_ret (pe_tup (pa_cons (pe_op (op_fdivP hr hP rfl rfl rfl (by decide)) (pv 0) (pv 2)) (pa_cons (pe_op (op_fdivP hr hP rfl rfl rfl (by decide)) (pv 1) (pv 2)) pa_nil)))))))), ?_⟩
    refine ⟨_, rfl, rfl, _, rfl, iteB (decide_eq_false (fun z => hl (V.int.inj z))) ?_⟩
    refine' joinC _ (fun σ H2 => σ = [some (.int (sg l * u)), some (.int (sg l * l)), none] ∧ H2 = H) ?fin ?main
    case main =>
      intro fin
      refine ⟨_, rfl, _, _, rfl, rfl, _, rfl, ite2 (fun c => ?_) (fun c => ?_)⟩
      · have c' : l < 0 := of_decide_eq_true c
        refine ⟨_, rfl, _, rfl, _, rfl, _, rfl, _, _, rfl, ?_⟩
        have es : sg l = -1 := by unfold sg; rw [if_pos c']
        exact fin _ _ ⟨by rw [es, Int.neg_one_mul, Int.neg_one_mul], rfl⟩
      · have c' : ¬ l < 0 := fun z => c (decide_eq_true z)
        have es : sg l = 1 := by unfold sg; rw [if_neg c']
        exact fin _ _ ⟨by rw [es, Int.one_mul, Int.one_mul]; rfl, rfl⟩
    case fin =>
      rintro σ H2 ⟨rfl, rfl⟩
      have hG := gcd_pos' (u := u) hl
      refine ⟨_, rfl, _, rfl, _, rfl, u.natAbs, l.natAbs, ?_, ?_⟩
      · rw [abs_nat, sg_mul, sg_self]; rfl
      refine ⟨_, rfl, _, rfl, _, _, rfl, rfl, (by show (0 : Int) < _; omega), _, rfl, _, rfl, _, _, rfl, rfl, (by show (0 : Int) < _; omega), (by show 2 ≤ sizeLine; decide), fun t ht => ?_⟩
      exact k t ht
end
/-- a share stands at v -/
def IsSh (K : PySem.W.Frag) (H : Hp) (v : V) (a b : Int) : Prop := ∃ t, v = .ref t ∧ SqT K H t [.int a, .int b]
theorem IsSh.same {K : PySem.W.Frag} {H H' : Hp} {v : V} {a b : Int} (h : IsSh K H v a b) (s : Same H H') : IsSh K H' v a b := by
  obtain ⟨t, e, q⟩ := h
  refine ⟨t, e, ?_⟩
  rcases q with (q | ⟨o, q⟩) | q
  · exact .inl (.inl (s _ _ q))
  · exact .inl (.inr ⟨o, s _ _ q⟩)
  · exact .inr q
theorem IsSh.ext {K : PySem.W.Frag} {H H' : Hp} {v : V} {a b : Int} {d l : Addr} (h : IsSh K H v a b) (x : Ext d l H H') (D : Deal H d l) : IsSh K H' v a b := by
  obtain ⟨t, e, q⟩ := h
  obtain ⟨s, n, ls, h1, h2, _⟩ := D
  refine ⟨t, e, ?_⟩
  rcases q with (q | ⟨o, q⟩) | q
  · exact .inl (.inl (x _ _ q (ne_of q h1 (by intro z; cases z)) (ne_of q h2 (by intro z; cases z))))
  · exact .inl (.inr ⟨o, x _ _ q (ne_of q h1 (by intro z; cases z)) (ne_of q h2 (by intro z; cases z))⟩)
  · exact .inr q
theorem IsSh.new {K : PySem.W.Frag} {H : Hp} {t : Addr} {a b : Int} : IsSh K (upd H t (.tup [.int a, .int b])) (.ref t) a b := ⟨t, rfl, SqT.of upd_same⟩
theorem IsSh.dp {K : PySem.W.Frag} {H : Hp} {v : V} {a b : Int} (h : IsSh K H v a b) : Dp K H v (.tuple [.int a, .int b]) := by
  obtain ⟨t, rfl, q⟩ := h
  exact .tup q (.cons (.int _) (.cons (.int _) .nil))
abbrev F4 := Int → Int → Int → Int → Int
/-- the numbers that are multiplied are not too great -/
def Bnd (a b c e : Int) : Prop := a.natAbs < BG ∧ b.natAbs < BG ∧ c.natAbs < BG ∧ e.natAbs < BG
def spTwo (K : PySem.W.Frag) (fu fl : F4) : Sp := fun vs H Q _ => ∃ (v u : V) (a b c e : Int), vs = [v, u] ∧ IsSh K H v a b ∧ IsSh K H u c e ∧ Bnd a b c e ∧ fl a b c e ≠ 0 ∧ ∀ t : Addr, H t = none → Q (.ref t) (upd H t (shO (fu a b c e) (fl a b c e)))
def sumU : F4 := fun a b c e => a * e + c * b
def sumL : F4 := fun _ b _ e => b * e
def mulU : F4 := fun a _ c _ => a * c
section
variable {P : Program} {w : World} {K : PySem.W.Frag} {mg : Str → Option Value} {base : Heap}
theorem ok_sum {f : Addr} {fd : FuncData} (F : Fun K "sum_of" "sum_of" s_sum_of f fd) (Z : Zb mg) (GK_share_of_lower : FnK P w K mg base 40 "share_of" ps_share_of spLow ["lower"] g11) : FnOk P w K mg base CX0 41 f fd ps_sum_of (spTwo K sumU sumL) := by
  refine F.ok sc_sum_of (fun vs H Q E h => ?_) (fun cdv A outer s H vs Q E hr h => ?_)
  · obtain ⟨v, u, a, b, c, e, rfl, _⟩ := h
    rfl
  · obtain ⟨v, u, a, b, c, e, rfl, ⟨t1, rfl, q1⟩, ⟨t2, rfl, q2⟩, ⟨ba, bb, bc, be⟩, hne, k⟩ := h
    refine ⟨_, (pss_one (ps_ret (pe_kfn GK_share_of_lower hr rfl (pa_cons (pe_op op_add (pe_op op_mulG (pe_ix ix_tup (pv 0) pe_int (fun _ _ => rfl)) (pe_ix ix_tup (pv 1) pe_int (fun _ _ => rfl))) (pe_op op_mulG (pe_ix ix_tup (pv 1) pe_int (fun _ _ => rfl)) (pe_ix ix_tup (pv 0) pe_int (fun _ _ => rfl)))) pa_nil) (pk_cons (pe_op op_mulG (pe_ix ix_tup (pv 0) pe_int (fun _ _ => rfl)) (pe_ix ix_tup (pv 1) pe_int (fun _ _ => rfl))) pk_nil)))), ?_⟩
    exact ⟨_, rfl, t1, _, _, _, rfl, rfl, q1, rfl, _, rfl, t2, _, _, _, rfl, rfl, q2, rfl, _, _, rfl, rfl, ⟨ba, be⟩, _, rfl, t2, _, _, _, rfl, rfl, q2, rfl, _, rfl, t1, _, _, _, rfl, rfl, q1, rfl, _, _, rfl, rfl, ⟨bc, bb⟩, _, _, rfl, rfl, _, rfl, t1, _, _, _, rfl, rfl, q1, rfl, _, rfl, t2, _, _, _, rfl, rfl, q2, rfl, _, _, rfl, rfl, ⟨bb, be⟩, _, _, rfl, hne, k⟩
theorem ok_product {f : Addr} {fd : FuncData} (F : Fun K "product_of" "product_of" s_product_of f fd) (Z : Zb mg) (GK_share_of_lower : FnK P w K mg base 40 "share_of" ps_share_of spLow ["lower"] g11) : FnOk P w K mg base CX0 41 f fd ps_product_of (spTwo K mulU sumL) := by
  refine F.ok sc_product_of (fun vs H Q E h => ?_) (fun cdv A outer s H vs Q E hr h => ?_)
  · obtain ⟨v, u, a, b, c, e, rfl, _⟩ := h
    rfl
  · obtain ⟨v, u, a, b, c, e, rfl, ⟨t1, rfl, q1⟩, ⟨t2, rfl, q2⟩, ⟨ba, bb, bc, be⟩, hne, k⟩ := h
    refine ⟨_, (pss_one (ps_ret (pe_kfn GK_share_of_lower hr rfl (pa_cons (pe_op op_mulG (pe_ix ix_tup (pv 0) pe_int (fun _ _ => rfl)) (pe_ix ix_tup (pv 1) pe_int (fun _ _ => rfl))) pa_nil) (pk_cons (pe_op op_mulG (pe_ix ix_tup (pv 0) pe_int (fun _ _ => rfl)) (pe_ix ix_tup (pv 1) pe_int (fun _ _ => rfl))) pk_nil)))), ?_⟩
    exact ⟨_, rfl, t1, _, _, _, rfl, rfl, q1, rfl, _, rfl, t2, _, _, _, rfl, rfl, q2, rfl, _, _, rfl, rfl, ⟨ba, bc⟩, _, rfl, t1, _, _, _, rfl, rfl, q1, rfl, _, rfl, t2, _, _, _, rfl, rfl, q2, rfl, _, _, rfl, rfl, ⟨bb, be⟩, _, _, rfl, hne, k⟩
end
end My
set_option Elab.async false
set_option maxRecDepth 100000
set_option linter.all false
namespace My
open PySem L2
abbrev S2 := Nat × Nat
def lowN (u l : Nat) : S2 := (u / Nat.gcd u l, l / Nat.gcd u l)
theorem lowU_nat (u l : Nat) : lowU (u : Int) (l : Int) = ((lowN u l).1 : Int) := by
  unfold lowU lowN sg
  have : ¬ ((l : Int) < 0) := by omega
  rw [if_neg this, Int.one_mul]
  simp
theorem lowL_nat (u l : Nat) : lowL (u : Int) (l : Int) = ((lowN u l).2 : Int) := by
  unfold lowL lowN sg
  have : ¬ ((l : Int) < 0) := by omega
  rw [if_neg this, Int.one_mul]
  simp
structure ShN (s : S2) : Prop where
  pos : 0 < s.2
  cop : Nat.gcd s.1 s.2 = 1
theorem lowN_ok {u l : Nat} (h : 0 < l) : ShN (lowN u l) := by
  have hg : 0 < Nat.gcd u l := Nat.gcd_pos_of_pos_right _ h
  refine ⟨Nat.div_pos (Nat.gcd_le_right _ h) hg, ?_⟩
  exact Nat.coprime_div_gcd_div_gcd hg
theorem lowN_id {s : S2} (h : ShN s) : lowN s.1 s.2 = s := by
  unfold lowN
  rw [h.cop, Nat.div_one, Nat.div_one]
theorem lowN_le (u l : Nat) : (lowN u l).1 ≤ u ∧ (lowN u l).2 ≤ l := ⟨Nat.div_le_self _ _, Nat.div_le_self _ _⟩
def mulN (s t : S2) : S2 := lowN (s.1 * t.1) (s.2 * t.2)
def sumN (s t : S2) : S2 := lowN (s.1 * t.2 + t.1 * s.2) (s.2 * t.2)
/-- both parts at most two to the n -/
def Bd (n : Nat) (s : S2) : Prop := s.1 ≤ 2 ^ n ∧ s.2 ≤ 2 ^ n
theorem Bd.mono {n m : Nat} {s : S2} (h : Bd n s) (hm : n ≤ m) : Bd m s := ⟨Nat.le_trans h.1 (Nat.pow_le_pow_right (by decide) hm), Nat.le_trans h.2 (Nat.pow_le_pow_right (by decide) hm)⟩
theorem mulN_ok {s t : S2} (hs : ShN s) (ht : ShN t) : ShN (mulN s t) := lowN_ok (Nat.mul_pos hs.pos ht.pos)
theorem sumN_ok {s t : S2} (hs : ShN s) (ht : ShN t) : ShN (sumN s t) := lowN_ok (Nat.mul_pos hs.pos ht.pos)
theorem mulN_bd {s t : S2} {n m : Nat} (hs : Bd n s) (ht : Bd m t) : Bd (n + m) (mulN s t) := by
  have h := lowN_le (s.1 * t.1) (s.2 * t.2)
  refine ⟨Nat.le_trans h.1 ?_, Nat.le_trans h.2 ?_⟩
  · rw [Nat.pow_add]; exact Nat.mul_le_mul hs.1 ht.1
  · rw [Nat.pow_add]; exact Nat.mul_le_mul hs.2 ht.2
theorem sumN_bd {s t : S2} {n m : Nat} (hs : Bd n s) (ht : Bd m t) : Bd (n + m + 1) (sumN s t) := by
  have h := lowN_le (s.1 * t.2 + t.1 * s.2) (s.2 * t.2)
  have e : 2 ^ (n + m + 1) = 2 ^ n * 2 ^ m + 2 ^ m * 2 ^ n := by rw [Nat.pow_succ, Nat.pow_add, Nat.mul_comm (2 ^ m)]; omega
  have h1 := Nat.mul_le_mul hs.1 ht.2
  have h2 := Nat.mul_le_mul ht.1 hs.2
  have h3 := Nat.mul_le_mul hs.2 ht.2
  refine ⟨Nat.le_trans h.1 ?_, Nat.le_trans h.2 ?_⟩
  · rw [e]; omega
  · rw [e]; omega
theorem Bd.lt {n : Nat} {s : S2} (h : Bd n s) (hn : n < 27000) : ((s.1 : Int)).natAbs < BG ∧ ((s.2 : Int)).natAbs < BG := by
  have : 2 ^ n < BG := Nat.pow_lt_pow_right (by decide) hn
  rw [Int.natAbs_natCast, Int.natAbs_natCast]
  exact ⟨Nat.lt_of_le_of_lt h.1 this, Nat.lt_of_le_of_lt h.2 this⟩
def shN (s : S2) : HO := .tup [.int s.1, .int s.2]
theorem shO_nat (u l : Nat) : shO (u : Int) (l : Int) = shN (lowN u l) := by
  unfold shO shN
  rw [lowU_nat, lowL_nat]
def s2D (s : S2) : PyData := .tuple [.int s.1, .int s.2]
theorem s2D_tp (s : S2) : Tp (s2D s) := .tup fun d h => by
  simp at h
  rcases h with rfl | rfl <;> constructor
theorem IsSh.of {K : PySem.W.Frag} {H : Hp} {v : V} {s : S2} (h : Dp K H v (s2D s)) : IsSh K H v s.1 s.2 := by
  cases h with
  | tup hs ha =>
    cases ha with
    | cons h1 h2 =>
      cases h2 with
      | cons h3 h4 => cases h1; cases h3; cases h4; exact ⟨_, rfl, hs⟩
theorem sh_dp {K : PySem.W.Frag} {H : Hp} {t : Addr} {s : S2} (h : H t = some (shN s)) : Dp K H (.ref t) (s2D s) := .tup (SqT.of h) (.cons (.int _) (.cons (.int _) .nil))
def envOf (kvs : List (Key × V)) (x : Str) : Int := match valV kvs (Sum.inr x) with | some (.int n) => n | _ => 0
def KnIn (kvs : List (Key × V)) (x : Str) : Prop := ∃ n, valV kvs (Sum.inr x) = some (.int n) ∧ 0 ≤ n ∧ n ≤ 999
theorem KnIn.kn {kvs : List (Key × V)} {x : Str} (h : KnIn kvs x) : Kn kvs (envOf kvs) x := by
  obtain ⟨n, e, h1, h2⟩ := h
  have : envOf kvs x = n := by unfold envOf; rw [e]
  exact ⟨by rw [this]; exact e, by rw [this]; exact h1, by rw [this]; exact h2⟩
theorem sign_inT : ∀ u ∈ opT.cps.toList, (⟨#[u]⟩ : Str) ∈ signs := by decide +kernel
theorem Ex.okN.sem {ns : List Str} {P : Str → Prop} (h : ∀ x ∈ ns, P x) : ∀ {e : Ex}, e.okN ns → e.sem P
  | .num _, o => o
  | .name x, o => h x o
  | .op _ _ _, o => by
    obtain ⟨⟨u, rfl, mu⟩, h1, h2⟩ := o
    exact ⟨sign_inT u mu, Ex.okN.sem h h1, Ex.okN.sem h h2⟩
  | .not a, o => Ex.okN.sem (e := a) h o
  | .ite _ _ _, o => ⟨Ex.okN.sem h o.1, Ex.okN.sem h o.2.1, Ex.okN.sem h o.2.2⟩
theorem mergeK_keep {kvs ps : List (Key × V)} {x : Str} (hp : ∀ p ∈ ps, ∃ n, p.2 = V.int n ∧ 0 ≤ n ∧ n ≤ 999) (h : KnIn kvs x) : KnIn (mergeK kvs ps) x := by
  induction ps generalizing kvs with
  | nil => exact h
  | cons p r ih =>
    show KnIn (mergeK (putK kvs p.1 p.2) r) x
    refine ih (fun q hq => hp q (by simp [hq])) ?_
    obtain ⟨n, e, h1, h2⟩ := h
    obtain ⟨m, e', m1, m2⟩ := hp p (by simp)
    unfold KnIn
    rw [valV_put]
    split
    · exact ⟨m, by rw [e'], m1, m2⟩
    · exact ⟨n, e, h1, h2⟩
theorem mergeK_in {kvs ps : List (Key × V)} {x : Str} (hp : ∀ p ∈ ps, ∃ n, p.2 = V.int n ∧ 0 ≤ n ∧ n ≤ 999) (h : ∃ v, (Sum.inr x, v) ∈ ps) : KnIn (mergeK kvs ps) x := by
  induction ps generalizing kvs with
  | nil => obtain ⟨v, h⟩ := h; cases h
  | cons p r ih =>
    obtain ⟨v, h⟩ := h
    show KnIn (mergeK (putK kvs p.1 p.2) r) x
    rcases List.mem_cons.mp h with rfl | h
    · refine mergeK_keep (fun q hq => hp q (by simp [hq])) ?_
      obtain ⟨m, e', m1, m2⟩ := hp _ (List.mem_cons_self ..)
      refine ⟨m, ?_, m1, m2⟩
      rw [valV_put, if_pos rfl, e']
    · exact ih (fun q hq => hp q (by simp [hq])) ⟨v, h⟩
def kvZ (names : List Str) (vals : List Int) : List (Key × V) := mergeK [] ((names.map (fun x => (Sum.inr x : Key))).zip (vals.map V.int))
def ValsOk (vals : List Int) : Prop := ∀ v ∈ vals, 0 ≤ v ∧ v ≤ 999
theorem kvZ_in {names : List Str} {vals : List Int} {x : Str} (hv : ValsOk vals) (hx : x ∈ names.take vals.length) : KnIn (kvZ names vals) x := by
  refine mergeK_in (fun p hp => ?_) ?_
  · obtain ⟨m, hm, e⟩ := List.mem_map.mp (List.of_mem_zip (a := p.1) (b := p.2) hp).2
    exact ⟨m, e.symm, hv m hm⟩
  · obtain ⟨i, hi⟩ := List.getElem?_of_mem hx
    have hlt := lt_of_get hi
    rw [List.length_take] at hlt
    have hv2 : i < vals.length := by omega
    have e1 : names[i]? = some x := by rw [List.getElem?_take_of_lt hv2] at hi; exact hi
    refine ⟨.int vals[i], List.mem_of_getElem? (i := i) ?_⟩
    rw [List.getElem?_zip_eq_some]
    exact ⟨by rw [List.getElem?_map, e1]; rfl, by rw [List.getElem?_map, List.getElem?_eq_getElem hv2]; rfl⟩
abbrev Alt := Ex × Ex
def wOf (ρ : Str → Int) (a : Alt) : Nat := (a.1.val ρ).toNat
def wholeOf (ρ : Str → Int) (as : List Alt) : Nat := (as.map (wOf ρ)).sum
def waysP (ρ : Str → Int) (whole : Nat) (as : List Alt) : List (S2 × Int) := (as.filter fun a => decide (wOf ρ a ≠ 0)).map fun a => (lowN (wOf ρ a) whole, a.2.val ρ)
def waysA (ρ : Str → Int) (as : List Alt) : List (S2 × Int) := waysP ρ (wholeOf ρ as) as
theorem waysP_snoc {ρ : Str → Int} {whole i : Nat} {as : List Alt} {a : Alt} (h : as[i]? = some a) : waysP ρ whole (as.take (i + 1)) = waysP ρ whole (as.take i) ++ (if wOf ρ a = 0 then [] else [(lowN (wOf ρ a) whole, a.2.val ρ)]) := by
  rw [take_snoc h]
  unfold waysP
  rw [List.filter_append, List.map_append]
  congr 1
  by_cases e : wOf ρ a = 0
  · rw [if_pos e]; simp [e]
  · rw [if_neg e]; simp [e]
/-- good weights and values -/
def AltOk (ρ : Str → Int) (a : Alt) : Prop := (0 ≤ a.1.val ρ ∧ a.1.val ρ ≤ 999) ∧ (0 ≤ a.2.val ρ ∧ a.2.val ρ ≤ 999)
theorem whole_int {ρ : Str → Int} : ∀ {as : List Alt}, (∀ a ∈ as, AltOk ρ a) → (as.map fun a => a.1.val ρ).sum = (wholeOf ρ as : Int)
  | [], _ => rfl
  | a :: r, h => by
    have h1 := (h a (by simp)).1
    have ih := whole_int (ρ := ρ) (as := r) fun b hb => h b (by simp [hb])
    have e : wholeOf ρ (a :: r) = wOf ρ a + wholeOf ρ r := rfl
    rw [List.map_cons, List.sum_cons, ih, e]
    unfold wOf
    omega
theorem whole_ge {ρ : Str → Int} {a : Alt} : ∀ {as : List Alt}, a ∈ as → wOf ρ a ≤ wholeOf ρ as
  | [], h => by cases h
  | b :: r, h => by
    have e : wholeOf ρ (b :: r) = wOf ρ b + wholeOf ρ r := rfl
    rcases List.mem_cons.mp h with rfl | h
    · omega
    · have := whole_ge (ρ := ρ) h
      omega
theorem whole_le {ρ : Str → Int} : ∀ {as : List Alt}, (∀ a ∈ as, AltOk ρ a) → wholeOf ρ as ≤ 999 * as.length
  | [], _ => Nat.le_refl _
  | a :: r, h => by
    have h1 := (h a (by simp)).1
    have ih := whole_le (ρ := ρ) (as := r) fun b hb => h b (by simp [hb])
    have e : wholeOf ρ (a :: r) = wOf ρ a + wholeOf ρ r := rfl
    rw [e, List.length_cons]
    unfold wOf
    omega
theorem waysP_len {ρ : Str → Int} {whole : Nat} {as : List Alt} : (waysP ρ whole as).length ≤ as.length := by
  unfold waysP
  rw [List.length_map]
  exact List.length_filter_le _ _
theorem waysA_ok {ρ : Str → Int} {as : List Alt} (h : ∀ a ∈ as, AltOk ρ a) {n : Nat} (hn : 999 * as.length ≤ 2 ^ n) : ∀ p ∈ waysA ρ as, ShN p.1 ∧ Bd n p.1 ∧ 0 ≤ p.2 ∧ p.2 ≤ 999 := by
  intro p hp
  obtain ⟨a, ha, rfl⟩ := List.mem_map.mp hp
  obtain ⟨ma, hne⟩ := List.mem_filter.mp ha
  have hne := of_decide_eq_true hne
  have h1 := whole_ge (ρ := ρ) ma
  have h2 := whole_le h
  have h3 := lowN_le (wOf ρ a) (wholeOf ρ as)
  have hb : Bd n (lowN (wOf ρ a) (wholeOf ρ as)) := ⟨Nat.le_trans h3.1 (by omega), Nat.le_trans h3.2 (by omega)⟩
  exact ⟨lowN_ok (by omega), hb, (h a ma).2⟩
def wyD (p : S2 × Int) : PyData := .tuple [s2D p.1, .int p.2]
theorem wyD_tp (p : S2 × Int) : Tp (wyD p) := .tup fun d h => by
  simp at h
  rcases h with rfl | rfl
  · exact s2D_tp _
  · constructor
end My
set_option Elab.async false
set_option maxRecDepth 100000
set_option linter.all false
namespace My
open PySem L2
/-- an alternative's parts are known -/
def AltKn (n : Nat) (kvs : List (Key × V)) (ρ : Str → Int) (a : Alt) : Prop := (a.1.sem (Kn kvs ρ) ∧ a.1.depth < n) ∧ (a.2.sem (Kn kvs ρ) ∧ a.2.depth < n)
theorem AltKn.ok {n : Nat} {kvs : List (Key × V)} {ρ : Str → Int} {a : Alt} (h : AltKn n kvs ρ a) : AltOk ρ a := ⟨kn_rng h.1.1, kn_rng h.2.1⟩
def spWaysOn (K : PySem.W.Frag) (n : Nat) : Sp := fun vs H Q _ => ∃ (va : V) (dk : Addr) (as : List Alt) (kvs : List (Key × V)) (ρ : Str → Int), vs = [va, .ref dk] ∧ Dp K H va (.tuple (as.map altD)) ∧ H dk = some (.dK kvs) ∧ as.length ≤ 1000 ∧ (∀ a ∈ as, AltKn n kvs ρ a) ∧
  ∀ (D : Addr) (us : List V) (H' : Hp), H D = none → Same H H' → H' D = some (.lst us) → DpAll K H' us ((waysA ρ as).map wyD) → Q (.ref D) H'
theorem alt_open {K : PySem.W.Frag} {H : Hp} {v : V} {a : Alt} (h : Dp K H v (altD a)) : ∃ t v1 v2, v = .ref t ∧ SqT K H t [v1, v2] ∧ IsE K H v1 a.1 ∧ IsE K H v2 a.2 := by
  cases h with
  | tup hs ha =>
    cases ha with
    | cons h1 h2 =>
      cases h2 with
      | cons h3 h4 => cases h4; exact ⟨_, _, _, rfl, hs, h1, h3⟩
section
variable {P : Program} {w : World} {K : PySem.W.Frag} {mg : Str → Option Value} {base : Heap}
theorem ok_wayson (n : Nat) {f : Addr} {fd : FuncData} (F : Fun K "ways_on" "ways_on" s_ways_on f fd) (Z : Zb mg) (G_value_of : FnIn P w K mg base (n + 2) "value_of" ps_value_of (spVal K n)) (hn : n + 2 ≤ 40) (GK_share_of_lower : FnK P w K mg base 40 "share_of" ps_share_of spLow ["lower"] g11) : FnOk P w K mg base CX0 41 f fd ps_ways_on (spWaysOn K n) := by
  refine F.ok sc_ways_on (fun vs H Q E h => ?_) (fun cdv A outer s H vs Q E hr h => ?_)
  · obtain ⟨va, dk, as, kvs, ρ, rfl, _⟩ := h
    rfl
  · obtain ⟨va, dk, as, kvs, ρ, rfl, hva, hdk, hlen, hkn, k⟩ := h
    refine ⟨_, (pss_cons (ps_setLc (i := 2) (own := [("weight", 4), ("value", 5)]) (g := gTup K 2 (gCons (gName 4) (gCons (gName 5) (gNil)))) (by rfl) sc_ways_on.nd rfl rfl (sw_true rfl rfl rfl (by decide +kernel)) (pi_tup (pv 0)) (blkOk_by (own := [("weight", 4), ("value", 5)]) (N := nm_ways_on) (sc := defScope s_ways_on) (by decide +kernel)) (fun _ _ _ _ _ => (pg_tup rfl (pgs_cons (pg_name (i := 4) sc_ways_on.nd rfl (by first | exact Or.inl rfl | exact Or.inr rfl)) (pgs_cons (pg_name (i := 5) sc_ways_on.nd rfl (by first | exact Or.inl rfl | exact Or.inr rfl)) pgs_nil)))) (fun _ _ _ _ _ => pts_nil) (fun _ _ _ _ _ => (pe_fn G_value_of hr rfl (pa_cons (pv 4) (pa_cons (pv 1) pa_nil)))))
      (pss_cons (ps_set (i := 3) sc_ways_on.nd rfl (by first | exact Or.inl rfl | exact Or.inr rfl) (pe_callB (cr_sum rfl) (by rfl) Z.sum (by decide +kernel) (pa_cons (pv 2) pa_nil)))
      (pss_one (ps_ret (pe_lc (own := [("weight", 4), ("own", 6), ("value", 5)]) (g := gTup K 2 (gCons (gName 4) (gCons (gTup K 2 (gCons (gName 6) (gCons (gName 5) (gNil)))) (gNil)))) (by rfl) sc_ways_on.nd (pi_zipG (by rfl) Z.zip (pa_cons (pv 2) (pa_cons (pv 0) pa_nil))) (blkOk_by (own := [("weight", 4), ("own", 6), ("value", 5)]) (N := nm_ways_on) (sc := defScope s_ways_on) (by decide +kernel)) (fun _ _ _ _ _ => (pg_tup rfl (pgs_cons (pg_name (i := 4) sc_ways_on.nd rfl (by first | exact Or.inl rfl | exact Or.inr rfl)) (pgs_cons (pg_tup rfl (pgs_cons (pg_name (i := 6) sc_ways_on.nd rfl (by first | exact Or.inl rfl | exact Or.inr rfl)) (pgs_cons (pg_name (i := 5) sc_ways_on.nd rfl (by first | exact Or.inl rfl | exact Or.inr rfl)) pgs_nil))) pgs_nil)))) (fun _ _ _ _ _ => (pts_one (pt_cmpR op_ne (pv 4) pe_int (nomark _)))) (fun _ _ _ _ _ => (pe_tup (pa_cons (pe_kfn GK_share_of_lower hr rfl (pa_cons (pv 4) pa_nil) (pk_cons (pv 3) pk_nil)) (pa_cons (pe_fn G_value_of hr rfl (pa_cons (pv 5) (pa_cons (pv 1) pa_nil))) pa_nil))))))))), ?_⟩
    cases hva with
    | @tup a xs _ hS ha =>
    have hxl : xs.length = as.length := by have := DpAll.len ha; simpa using this
    refine ⟨_, rfl, a, rfl, ⟨xs, hS⟩, fun D hD => ?_⟩
    refine lc_tup (K := K) (a := a) (xs := xs) (fun i H2 => Same H H2 ∧ H2 D = some (.lst ((as.take i).map fun z => V.int (z.1.val ρ)))) ⟨same_new hD _, upd_same⟩ (fun i H2 _ q => sqt_kt hS (kt_same q.1)) ?_ ?_
    · rintro i x H2 hx ⟨s2, d2⟩
      have hil := lt_of_get hx
      obtain ⟨d, hd1, dx⟩ := DpAll.get ha hx
      obtain ⟨z, hz, rfl⟩ : ∃ z, as[i]? = some z ∧ d = altD z := by
        rw [List.getElem?_map] at hd1
        cases e : as[i]? with
        | none => rw [e] at hd1; cases hd1
        | some z => rw [e] at hd1; exact ⟨z, rfl, (Option.some.inj hd1).symm⟩
      obtain ⟨t, v1, v2, rfl, hs, e1, e2⟩ := alt_open (Dp.kt (kt_same s2) _ _ (altD_tp z) dx)
      have hk := hkn z (List.mem_of_getElem? hz)
      refine ⟨t, _, rfl, hs, rfl, _, _, rfl, _, _, rfl, rfl, rfl, _, rfl, _, rfl, v1, z.1, dk, kvs, ρ, rfl, e1, hk.1.2, s2 _ _ hdk, hk.1.1, _, d2, ?_, same_upd s2 hD _, ?_⟩
      · rw [List.length_map, List.length_take]; exact sz (m := 1000) (by omega)
      · rw [upd_same, take_snoc hz, List.map_append]; rfl
    · rintro H2 ⟨s2, d2⟩
      rw [hxl, List.take_length] at d2
      have hw := whole_int (ρ := ρ) fun z m => (hkn z m).ok
      refine ⟨_, rfl, D, as.map (fun z => z.1.val ρ), rfl, SqL.of (by rw [d2, List.map_map]; rfl), ?_⟩
      rw [hw]
      refine ⟨_, rfl, _, rfl, false, true, D, a, _, _, rfl, SqL.of d2, sqt_kt hS (kt_same s2), fun D2 hD2 => ?_⟩
      have hDD : D ≠ D2 := ne_of_none d2 hD2
      have hD2' : H D2 = none := s2.free hD2
      refine walk_zip (K := K) (b1 := false) (b2 := true) (a := D) (b := a) (fun i H3 => Same H H3 ∧ H3 D = some (.lst (as.map fun z => V.int (z.1.val ρ))) ∧ ∃ us, H3 D2 = some (.lst us) ∧ DpAll K H3 us ((waysP ρ (wholeOf ρ as) (as.take i)).map wyD)) ⟨same_upd s2 hD2' _, by rw [upd_ne hDD]; exact d2, [], upd_same, .nil⟩ (fun i H3 _ q => ⟨SqL.of q.2.1, sqt_kt hS (kt_same q.1)⟩) ?_ ?_
      · rintro i wx x T H3 hwx hx hT ⟨s3, d3, us, hus, hup⟩
        have hil := lt_of_get hx
        obtain ⟨d, hd1, dx⟩ := DpAll.get ha hx
        obtain ⟨z, hz, rfl⟩ : ∃ z, as[i]? = some z ∧ d = altD z := by
          rw [List.getElem?_map] at hd1
          cases e : as[i]? with
          | none => rw [e] at hd1; cases hd1
          | some z => rw [e] at hd1; exact ⟨z, rfl, (Option.some.inj hd1).symm⟩
        obtain rfl : wx = V.int (z.1.val ρ) := by rw [List.getElem?_map, hz] at hwx; exact (Option.some.inj hwx).symm
        have s4 : Same H (upd H3 T (.tup [V.int (z.1.val ρ), x])) := s3.trans (same_new hT _)
        obtain ⟨t, v1, v2, rfl, hs, e1, e2⟩ := alt_open (Dp.kt (kt_same s4) _ _ (altD_tp z) dx)
        have hk := hkn z (List.mem_of_getElem? hz)
        have gT : upd H3 T (.tup [V.int (z.1.val ρ), .ref t]) T = some (.tup [V.int (z.1.val ρ), .ref t]) := upd_same
        have q4 : Same H3 (upd H3 T (.tup [V.int (z.1.val ρ), .ref t])) := same_new hT _
        generalize upd H3 T (.tup [V.int (z.1.val ρ), .ref t]) = H4 at s4 e1 e2 hs gT q4 ⊢
        have hus4 := q4 _ _ hus
        have hup4 := Dp.ktAll (kt_same q4) _ _ (fun d hd => by obtain ⟨y, _, rfl⟩ := List.mem_map.mp hd; exact wyD_tp y) hup
        have hW := waysP_snoc (ρ := ρ) (whole := wholeOf ρ as) hz
        have ew : z.1.val ρ = (wOf ρ z : Int) := by have := hk.ok.1.1; unfold wOf; omega
        have hwl := waysP_len (ρ := ρ) (whole := wholeOf ρ as) (as := as.take i)
        have hul := DpAll.len hup
        rw [List.length_map] at hul
        rw [List.length_take] at hwl
        refine ⟨T, _, rfl, SqT.of gT, rfl, _, _, rfl, _, _, rfl, t, _, rfl, hs, rfl, _, _, rfl, _, _, rfl, rfl, rfl, rfl, _, rfl, rfl, _, rfl, ite2 (fun c => ?_) (fun c => ?_)⟩
        · have hne : wOf ρ z ≠ 0 := fun e0 => by
            rw [ew, e0] at c
            exact absurd c (by decide)
          have hwh := whole_ge (ρ := ρ) (List.mem_of_getElem? hz)
          refine ⟨_, rfl, _, rfl, _, _, rfl, (by omega), fun u1 hu1 => ?_⟩
          have s5 := same_new hu1 (shO (z.1.val ρ) (wholeOf ρ as : Int))
          have g5 : upd H4 u1 (shO (z.1.val ρ) (wholeOf ρ as : Int)) u1 = some (shO (z.1.val ρ) (wholeOf ρ as : Int)) := upd_same
          generalize upd H4 u1 (shO (z.1.val ρ) (wholeOf ρ as : Int)) = H5 at s5 g5 ⊢
          rw [ew, shO_nat] at g5
          have ks : KT H4 H5 := kt_same s5
          refine ⟨_, rfl, _, rfl, v2, z.2, dk, kvs, ρ, rfl, e2.kt ks, hk.2.2, s5 _ _ (s4 _ _ hdk), hk.2.1, (by show 2 ≤ sizeLine; decide), fun u2 hu2 => ?_⟩
          have s6 := same_new hu2 (.tup [.ref u1, .int (z.2.val ρ)])
          have g6 : upd H5 u2 (.tup [.ref u1, .int (z.2.val ρ)]) u2 = some (.tup [.ref u1, .int (z.2.val ρ)]) := upd_same
          generalize upd H5 u2 (.tup [.ref u1, .int (z.2.val ρ)]) = H6 at s6 g6 ⊢
          have s06 := (s4.trans s5).trans s6
          have s46 := s5.trans s6
          refine ⟨us, s46 _ _ hus4, sz (m := 1000) (by omega), same_upd s06 hD2' _, by rw [upd_ne hDD]; exact s46 _ _ (q4 _ _ d3), us ++ [.ref u2], upd_same, ?_⟩
          rw [hW, if_neg hne, List.map_append]
          have kk : KT H6 (upd H6 D2 (.lst (us ++ [.ref u2]))) := kt_lst (s46 _ _ hus4) _
          refine DpAll.app (Dp.ktAll ((kt_same s46).trans kk) _ _ (fun d hd => by obtain ⟨y, _, rfl⟩ := List.mem_map.mp hd; exact wyD_tp y) hup4) (.cons ?_ .nil)
          refine Dp.kt kk _ _ (wyD_tp _) ?_
          exact .tup (SqT.of g6) (.cons (sh_dp (s6 _ _ g5)) (.cons (.int _) .nil))
        · have he : wOf ρ z = 0 := by
            rw [ew] at c
            by_cases e0 : wOf ρ z = 0
            · exact e0
            · refine absurd ?_ c
              rw [Bool.not_eq_true', decide_eq_false_iff_not]
              intro q
              injection q with q
              omega
          exact ⟨s4, q4 _ _ d3, us, hus4, by rw [hW, if_pos he, List.append_nil]; exact hup4⟩
      · rintro H3 ⟨s3, d3, us, hus, hup⟩
        rw [List.length_map, ← hxl, Nat.min_self, hxl, List.take_length] at hup
        exact k D2 us H3 hD2' s3 hus hup
end
end My
set_option Elab.async false
set_option maxRecDepth 100000
set_option linter.all false
namespace My
open PySem L2
def unkD (u : Str × List (Ex × Ex)) : PyData := .tuple [.str u.1, .tuple (u.2.map altD)]
abbrev Unk := Str × List Alt
abbrev Way := S2 × List Int
def stepOf (names : List Str) (as : List Alt) (q : Way) : List Way := (waysA (envOf (kvZ names q.2)) as).map fun p => (mulN q.1 p.1, q.2 ++ [p.2])
def wayStep (names : List Str) (as : List Alt) (W : List Way) : List Way := W.flatMap (stepOf names as)
def waysF (names : List Str) (us : List Unk) : List Way := us.foldl (fun W u => wayStep names u.2 W) [((1, 1), [])]
def waysU (us : List Unk) : List Way := waysF (us.map (·.1)) us
structure UOk (n : Nat) (us : List Unk) : Prop where
  few : us.length ≤ 6
  alt : ∀ (i : Nat) (u : Unk), us[i]? = some u → u.2.length ≤ 4 ∧ ∀ a : Alt, a ∈ u.2 → (a.1.sem (fun x => x ∈ (us.map (·.1)).take i) ∧ a.1.depth < n) ∧ (a.2.sem (fun x => x ∈ (us.map (·.1)).take i) ∧ a.2.depth < n)
structure WOk (i : Nat) (q : Way) : Prop where
  sh : ShN q.1
  bd : Bd (12 * i) q.1
  len : q.2.length = i
  vals : ValsOk q.2
theorem sem_kn {names : List Str} {vals : List Int} {e : Ex} (hv : ValsOk vals) (h : e.sem (fun x => x ∈ names.take vals.length)) : e.sem (Kn (kvZ names vals) (envOf (kvZ names vals))) := h.imp fun x hx => (kvZ_in hv hx).kn
theorem UOk.kn {n i : Nat} {us : List Unk} {u : Unk} {q : Way} (h : UOk n us) (hu : us[i]? = some u) (hq : WOk i q) : ∀ a ∈ u.2, AltKn n (kvZ (us.map (·.1)) q.2) (envOf (kvZ (us.map (·.1)) q.2)) a := fun a ha => by
  obtain ⟨⟨h1, h2⟩, h3, h4⟩ := (h.alt i u hu).2 a ha
  rw [← hq.len] at h1 h3
  exact ⟨⟨sem_kn hq.vals h1, h2⟩, sem_kn hq.vals h3, h4⟩
theorem waysF_snoc {names : List Str} {us : List Unk} {u : Unk} {i : Nat} (h : us[i]? = some u) : waysF names (us.take (i + 1)) = wayStep names u.2 (waysF names (us.take i)) := by
  rw [take_snoc h]
  unfold waysF
  rw [List.foldl_append]
  rfl
theorem stepOf_ok {n i : Nat} {us : List Unk} {u : Unk} {q : Way} (h : UOk n us) (hu : us[i]? = some u) (hq : WOk i q) : ∀ r ∈ stepOf (us.map (·.1)) u.2 q, WOk (i + 1) r := by
  intro r hr
  obtain ⟨p, hp, rfl⟩ := List.mem_map.mp hr
  have hl := (h.alt i u hu).1
  obtain ⟨p1, p2, p3, p4⟩ := waysA_ok (fun a ha => (h.kn hu hq a ha).ok) (n := 12) (show 999 * u.2.length ≤ 4096 by omega) p hp
  refine ⟨mulN_ok hq.sh p1, (mulN_bd hq.bd p2).mono (by omega), by simp [hq.len], fun v hv => ?_⟩
  rcases List.mem_append.mp hv with hv | hv
  · exact hq.vals v hv
  · rw [List.mem_singleton.mp hv]; exact ⟨p3, p4⟩
theorem stepOf_len {names : List Str} {as : List Alt} {q : Way} : (stepOf names as q).length ≤ as.length := by
  unfold stepOf
  rw [List.length_map]
  exact waysP_len
theorem wayStep_len {names : List Str} {as : List Alt} : ∀ {W : List Way}, (wayStep names as W).length ≤ as.length * W.length
  | [] => Nat.zero_le _
  | q :: r => by
    have ih := wayStep_len (names := names) (as := as) (W := r)
    have h1 := stepOf_len (names := names) (as := as) (q := q)
    show ((stepOf names as q) ++ wayStep names as r).length ≤ _
    rw [List.length_append, List.length_cons, Nat.mul_succ]
    omega
theorem waysF_ok {n : Nat} {us : List Unk} (h : UOk n us) : ∀ i, i ≤ us.length → (∀ q ∈ waysF (us.map (·.1)) (us.take i), WOk i q) ∧ (waysF (us.map (·.1)) (us.take i)).length ≤ 4 ^ i
  | 0, _ => ⟨fun q hq => by
      have : q = ((1, 1), []) := by simpa [waysF] using hq
      subst this
      exact ⟨⟨by decide, by decide⟩, ⟨by decide, by decide⟩, rfl, fun v hv => by cases hv⟩, by simp [waysF]⟩
  | i + 1, hi => by
    obtain ⟨h1, h2⟩ := waysF_ok h i (by omega)
    have hu : us[i]? = some us[i] := List.getElem?_eq_getElem (by omega)
    rw [waysF_snoc hu]
    refine ⟨fun r hr => ?_, ?_⟩
    · obtain ⟨q, hq, hr⟩ := List.mem_flatMap.mp hr
      exact stepOf_ok h hu (h1 q hq) r hr
    · have q1 := wayStep_len (names := us.map (·.1)) (as := us[i].2) (W := waysF (us.map (·.1)) (us.take i))
      have q2 := Nat.mul_le_mul (h.alt i _ hu).1 h2
      rw [Nat.pow_succ]
      omega
theorem waysF_few {n : Nat} {us : List Unk} (h : UOk n us) {i : Nat} (hi : i ≤ us.length) : (waysF (us.map (·.1)) (us.take i)).length ≤ 4096 := by
  have h1 := (waysF_ok h i hi).2
  have h2 : 4 ^ i ≤ 4 ^ 6 := Nat.pow_le_pow_right (by decide) (by have := h.few; omega)
  exact Nat.le_trans h1 h2
theorem waysU_ok {n : Nat} {us : List Unk} (h : UOk n us) : (∀ q ∈ waysU us, WOk us.length q) ∧ (waysU us).length ≤ 4096 := by
  have h1 := waysF_ok h us.length (Nat.le_refl _)
  have h2 := waysF_few h (Nat.le_refl us.length)
  rw [List.take_length] at h1 h2
  exact ⟨h1.1, h2⟩
theorem unk_open {K : PySem.W.Frag} {H : Hp} {v : V} {u : Unk} (h : Dp K H v (unkD u)) : ∃ t va, v = .ref t ∧ SqT K H t [.str u.1, va] ∧ Dp K H va (.tuple (u.2.map altD)) := by
  cases h with
  | tup hs ha =>
    cases ha with
    | cons h1 h2 =>
      cases h2 with
      | cons h3 h4 => cases h4; cases h1; exact ⟨_, _, rfl, hs, h3⟩
theorem alts_tp (as : List Alt) : Tp (.tuple (as.map altD)) := .tup fun d hd => by
  obtain ⟨y, _, rfl⟩ := List.mem_map.mp hd
  exact altD_tp y
theorem unkD_tp (u : Unk) : Tp (unkD u) := .tup fun d h => by
  simp at h
  rcases h with rfl | rfl
  · constructor
  · exact .tup fun d hd => by
      obtain ⟨y, hy, rfl⟩ := List.mem_map.mp hd
      exact altD_tp y
theorem ints_dp {K : PySem.W.Frag} {H : Hp} : ∀ (ns : List Int), DpAll K H (ns.map V.int) (ns.map PyData.int)
  | [] => .nil
  | n :: r => .cons (.int n) (ints_dp r)
theorem wy_open {K : PySem.W.Frag} {H : Hp} {v : V} {p : S2 × Int} (h : Dp K H v (wyD p)) : ∃ t s, v = .ref t ∧ SqT K H t [s, .int p.2] ∧ Dp K H s (s2D p.1) := by
  cases h with
  | tup hs ha =>
    cases ha with
    | cons h1 h2 =>
      cases h2 with
      | cons h3 h4 => cases h4; cases h3; exact ⟨_, _, rfl, hs, h1⟩
theorem get_dat {K : PySem.W.Frag} {H : Hp} {α : Type} {f : α → PyData} {xs : List V} {as : List α} {i : Nat} {v : V} (h : DpAll K H xs (as.map f)) (hx : xs[i]? = some v) : ∃ a, as[i]? = some a ∧ Dp K H v (f a) := by
  obtain ⟨d, hd, dx⟩ := DpAll.get h hx
  rw [List.getElem?_map] at hd
  cases e : as[i]? with
  | none => rw [e] at hd; cases hd
  | some a => rw [e] at hd; cases hd; exact ⟨a, rfl, dx⟩
theorem all_kt {K : PySem.W.Frag} {H H' : Hp} {α : Type} {f : α → PyData} (ht : ∀ a, Tp (f a)) (k : KT H H') {xs : List V} {as : List α} (h : DpAll K H xs (as.map f)) : DpAll K H' xs (as.map f) := Dp.ktAll k _ _ (fun d hd => by obtain ⟨y, _, rfl⟩ := List.mem_map.mp hd; exact ht y) h
theorem mul_shN (s t : S2) : shO (mulU (s.1 : Int) s.2 t.1 t.2) (sumL (s.1 : Int) s.2 t.1 t.2) = shN (mulN s t) := by
  unfold mulU sumL mulN
  rw [← shO_nat, Int.natCast_mul, Int.natCast_mul]
theorem sum_shN (s t : S2) : shO (sumU (s.1 : Int) s.2 t.1 t.2) (sumL (s.1 : Int) s.2 t.1 t.2) = shN (sumN s t) := by
  unfold sumU sumL sumN
  rw [← shO_nat, Int.natCast_add, Int.natCast_mul, Int.natCast_mul, Int.natCast_mul]
theorem sumL_ne {s t : S2} (hs : ShN s) (ht : ShN t) : sumL (s.1 : Int) s.2 t.1 t.2 ≠ 0 := by
  unfold sumL
  have := Nat.mul_pos hs.pos ht.pos
  rw [← Int.natCast_mul]
  omega
theorem bnd_of {s t : S2} {n m : Nat} (hs : Bd n s) (ht : Bd m t) (hn : n < 27000) (hm : m < 27000) : Bnd (s.1 : Int) s.2 t.1 t.2 := ⟨(hs.lt hn).1, (hs.lt hn).2, (ht.lt hm).1, (ht.lt hm).2⟩
/-- tuples stay, those that live too -/
structure KL (H H' : Hp) : Prop where
  kt : KT H H'
  lt : ∀ b xs, H b = some (.tup xs) → H' b = some (.tup xs)
theorem KL.refl (H : Hp) : KL H H := ⟨KT.refl H, fun _ _ h => h⟩
theorem KL.trans {H H1 H2 : Hp} (a : KL H H1) (b : KL H1 H2) : KL H H2 := ⟨a.kt.trans b.kt, fun c xs h => b.lt c xs (a.lt c xs h)⟩
theorem kl_same {H H' : Hp} (s : Same H H') : KL H H' := ⟨kt_same s, fun _ _ h => s _ _ h⟩
theorem kl_new {H : Hp} {p : Addr} (h : H p = none) (o : HO) : KL H (upd H p o) := kl_same (same_new h o)
theorem kl_lst {H : Hp} {p : Addr} {xs : List V} (h : H p = some (.lst xs)) (o : HO) : KL H (upd H p o) := ⟨kt_lst h o, fun b ys q => by rw [upd_ne (ne_of q h (by intro z; cases z))]; exact q⟩
/-- a way at v, its tuples alive -/
def WayAt (K : PySem.W.Frag) (H : Hp) (v : V) (q : Way) : Prop := ∃ t s tv, v = .ref t ∧ H t = some (.tup [s, .ref tv]) ∧ Dp K H s (s2D q.1) ∧ H tv = some (.tup (q.2.map V.int))
theorem WayAt.kl {K : PySem.W.Frag} {H H' : Hp} {v : V} {q : Way} (h : WayAt K H v q) (k : KL H H') : WayAt K H' v q := by
  obtain ⟨t, s, tv, e, h1, h2, h3⟩ := h
  exact ⟨t, s, tv, e, k.lt _ _ h1, Dp.kt k.kt _ _ (s2D_tp _) h2, k.lt _ _ h3⟩
inductive WAt (K : PySem.W.Frag) (H : Hp) : List V → List Way → Prop
  | nil : WAt K H [] []
  | cons {v : V} {q : Way} {vs : List V} {W : List Way} : WayAt K H v q → WAt K H vs W → WAt K H (v :: vs) (q :: W)
theorem WAt.kl {K : PySem.W.Frag} {H H' : Hp} (k : KL H H') : ∀ {vs : List V} {W : List Way}, WAt K H vs W → WAt K H' vs W
  | _, _, .nil => .nil
  | _, _, .cons a r => .cons (a.kl k) (WAt.kl k r)
theorem WAt.app {K : PySem.W.Frag} {H : Hp} : ∀ {vs us : List V} {W U : List Way}, WAt K H vs W → WAt K H us U → WAt K H (vs ++ us) (W ++ U)
  | _, _, _, _, .nil, h => h
  | _, _, _, _, .cons a r, h => .cons a (WAt.app r h)
theorem WAt.len {K : PySem.W.Frag} {H : Hp} : ∀ {vs : List V} {W : List Way}, WAt K H vs W → vs.length = W.length
  | _, _, .nil => rfl
  | _, _, .cons _ r => by simp [WAt.len r]
theorem WAt.get {K : PySem.W.Frag} {H : Hp} : ∀ {vs : List V} {W : List Way} {i : Nat} {v : V}, WAt K H vs W → vs[i]? = some v → ∃ q, W[i]? = some q ∧ WayAt K H v q
  | _, _, 0, _, .cons a _, h => by cases h; exact ⟨_, rfl, a⟩
  | _, _, i + 1, _, .cons _ r, h => by
    obtain ⟨q, hq, w⟩ := WAt.get (i := i) r h
    exact ⟨q, hq, w⟩
def spWays (K : PySem.W.Frag) (n : Nat) : Sp := fun vs H Q _ => ∃ (b : Addr) (t0 : V) (rest : List V) (us : List Unk), vs = [.ref b] ∧ SqT K H b (t0 :: rest) ∧ Dp K H t0 (.tuple (us.map unkD)) ∧ UOk n us ∧
  ∀ (D : Addr) (ws : List V) (H' : Hp), H D = none → Same H H' → H' D = some (.lst ws) → WAt K H' ws (waysU us) → Q (.ref D) H'
section
variable {P : Program} {w : World} {K : PySem.W.Frag} {mg : Str → Option Value} {base : Heap}
set_option maxHeartbeats 4000000 in
theorem ok_wou (n : Nat) {f aONE : Addr} {fd : FuncData} (F : Fun K "ways_of_unknowns" "ways_of_unknowns" s_ways_of_unknowns f fd) (Z : Zb mg) (g_ONE : mg "ONE" = some (.ref aONE)) (sONE : ∀ H, SqT K H aONE [V.int 1, V.int 1]) (G_product_of : FnIn P w K mg base 41 "product_of" ps_product_of (spTwo K mulU sumL)) (G_ways_on : FnIn P w K mg base 41 "ways_on" ps_ways_on (spWaysOn K n)) : FnOk P w K mg base CX0 42 f fd ps_ways_of_unknowns (spWays K n) := by
  refine F.ok sc_ways_of_unknowns (fun vs H Q E h => ?_) (fun cdv A outer s H vs Q E hr h => ?_)
  · obtain ⟨b, t0, rest, us, rfl, _⟩ := h
    rfl
  · obtain ⟨b, t0, rest, us, rfl, hb, ht0, hus, k⟩ := h
    have hu := hu_of hr
    refine ⟨_, (pss_cons (ps_asg (pe_lc (own := [("name", 3), ("alts", 4)]) (g := gTup K 2 (gCons (gName 3) (gCons (gName 4) (gNil)))) (by rfl) sc_ways_of_unknowns.nd (pi_tup (pe_ix ix_tup (pv 0) pe_int (fun _ _ => rfl))) (blkOk_by (own := [("name", 3), ("alts", 4)]) (N := nm_ways_of_unknowns) (sc := defScope s_ways_of_unknowns) (by decide +kernel)) (fun _ _ _ _ _ => (pg_tup rfl (pgs_cons (pg_name (i := 3) sc_ways_of_unknowns.nd rfl (by first | exact Or.inl rfl | exact Or.inr rfl)) (pgs_cons (pg_name (i := 4) sc_ways_of_unknowns.nd rfl (by first | exact Or.inl rfl | exact Or.inr rfl)) pgs_nil)))) (fun _ _ _ _ _ => pts_nil) (fun _ _ _ _ _ => (pv 3))) (pg_name (i := 1) sc_ways_of_unknowns.nd rfl (by first | exact Or.inl rfl | exact Or.inr rfl)))
      (pss_cons (ps_set (i := 2) sc_ways_of_unknowns.nd rfl (by first | exact Or.inl rfl | exact Or.inr rfl) (pe_lst (pa_cons (pe_tup (pa_cons (pe_gref rfl g_ONE) (pa_cons (pe_tup pa_nil) pa_nil))) pa_nil)))
      (pss_cons (ps_for PassesOwn.never rfl (pi_tup (pe_ix ix_tup (pv 0) pe_int (fun _ _ => rfl))) (pg_tup rfl (pgs_cons (pg_name (i := 3) sc_ways_of_unknowns.nd rfl (by first | exact Or.inl rfl | exact Or.inr rfl)) (pgs_cons (pg_name (i := 4) sc_ways_of_unknowns.nd rfl (by first | exact Or.inl rfl | exact Or.inr rfl)) pgs_nil))) (pss_one (ps_setLc2 (i := 2) (own := [("share", 5), ("values", 6), ("part", 7), ("value", 8)]) (vs1 := [7, 8]) (g := gTup K 2 (gCons (gName 5) (gCons (gName 6) (gNil)))) (g1 := gTup K 2 (gCons (gName 7) (gCons (gName 8) (gNil)))) (by rfl) sc_ways_of_unknowns.nd rfl rfl (sw_true rfl rfl rfl (by decide +kernel)) (pi_list (pv 2)) (blkOk_by (own := [("share", 5), ("values", 6), ("part", 7), ("value", 8)]) (N := nm_ways_of_unknowns) (sc := defScope s_ways_of_unknowns) (by decide +kernel)) (by decide) (fun _ _ _ _ _ => (pg_tup rfl (pgs_cons (pg_name (i := 5) sc_ways_of_unknowns.nd rfl (by first | exact Or.inl rfl | exact Or.inr rfl)) (pgs_cons (pg_name (i := 6) sc_ways_of_unknowns.nd rfl (by first | exact Or.inl rfl | exact Or.inr rfl)) pgs_nil)))) (fun _ _ _ _ _ => pts_nil) (fun _ _ _ _ _ => ((pi_listK (K := K) rfl) (pe_fn G_ways_on hr rfl (pa_cons (pv 4) (pa_cons ((pe_dictzipK (K := K) rfl) (by rfl) (by rfl) Z.dict (by rfl) Z.zip (pa_cons (pv 1) (pa_cons (pv 6) pa_nil))) pa_nil))))) (fun _ _ _ _ _ => (pg_tup rfl (pgs_cons (pg_name (i := 7) sc_ways_of_unknowns.nd rfl (by first | exact Or.inl rfl | exact Or.inr rfl)) (pgs_cons (pg_name (i := 8) sc_ways_of_unknowns.nd rfl (by first | exact Or.inl rfl | exact Or.inr rfl)) pgs_nil)))) (fun _ _ _ _ _ => pts_nil) (fun _ _ _ _ _ => (pe_tup (pa_cons (pe_fn G_product_of hr rfl (pa_cons (pv 5) (pa_cons (pv 7) pa_nil))) (pa_cons (pe_tup ((pa_starK (K := K) rfl) (pv 6) (pa_cons (pv 8) pa_nil))) pa_nil)))))))
      (pss_one (ps_ret (pv 2)))))), ?_⟩
    cases ht0 with
    | @tup a0 xs _ hS ha =>
    have hxl : xs.length = us.length := by have := DpAll.len ha; simpa using this
    have h6 := hus.few
    refine ⟨_, rfl, b, _, _, _, rfl, rfl, hb, at_ofA (j := 0) rfl rfl, a0, rfl, ⟨xs, hS⟩, fun N hN => ?_⟩
    refine lc_tup (K := K) (a := a0) (xs := xs) (fun i H2 => Same H H2 ∧ H2 N = some (.lst ((us.take i).map fun u => V.str u.1))) ⟨same_new hN _, upd_same⟩ (fun i H2 _ q => sqt_kt hS (kt_same q.1)) ?_ ?_
    · rintro i x H2 hx ⟨s2, d2⟩
      have hil := lt_of_get hx
      obtain ⟨u, hu1, dx⟩ := get_dat ha hx
      obtain ⟨t, va, rfl, hs, _⟩ := unk_open (Dp.kt (kt_same s2) _ _ (unkD_tp u) dx)
      refine ⟨t, _, rfl, hs, rfl, _, _, rfl, _, _, rfl, rfl, rfl, _, rfl, _, d2, ?_, same_upd s2 hN _, ?_⟩
      · rw [List.length_map, List.length_take]; exact sz (m := 1000) (by omega)
      · rw [upd_same, take_snoc hu1, List.map_append]; rfl
    · rintro H2 ⟨s2, d2⟩
      rw [hxl, List.take_length] at d2
      refine ⟨(by show 0 ≤ sizeLine; decide), fun e0 he0 => ?_⟩
      have s3 := same_new he0 (.tup [])
      have g3 : upd H2 e0 (.tup []) e0 = some (.tup []) := upd_same
      generalize upd H2 e0 (.tup []) = H3 at s3 g3 ⊢
      refine ⟨(by show 2 ≤ sizeLine; decide), fun e1 he1 => ?_⟩
      have s4 := same_new he1 (.tup [.ref aONE, .ref e0])
      have g4 : upd H3 e1 (.tup [.ref aONE, .ref e0]) e1 = some (.tup [.ref aONE, .ref e0]) := upd_same
      generalize upd H3 e1 (.tup [.ref aONE, .ref e0]) = H4 at s4 g4 ⊢
      refine ⟨(by show 1 ≤ sizeLine; decide), fun W0 hW0 => ?_⟩
      have s5 := same_new hW0 (.lst [.ref e1])
      have g5 : upd H4 W0 (.lst [.ref e1]) W0 = some (.lst [.ref e1]) := upd_same
      generalize upd H4 W0 (.lst [.ref e1]) = H5 at s5 g5 ⊢
      have s05 := ((s2.trans s3).trans s4).trans s5
      have d5 := s5 _ _ (s4 _ _ (s3 _ _ d2))
      have p5 : WAt K H5 [V.ref e1] (waysF (us.map (·.1)) (us.take 0)) := .cons ⟨e1, .ref aONE, e0, rfl, s5 _ _ g4, .tup (sONE _) (.cons (.int 1) (.cons (.int 1) .nil)), s5 _ _ (s4 _ _ g3)⟩ .nil
      refine ⟨_, rfl, b, _, _, _, rfl, rfl, sqt_kt hb (kt_same s05), at_ofA (j := 0) rfl rfl, a0, rfl, ⟨xs, sqt_kt hS (kt_same s05)⟩, for_tup (K := K) (a := a0) (xs := xs) (fun i σ H3 => ∃ (Wd : Addr) (ws : List V) (o3 o4 : Option V), σ = [some (.ref b), some (.ref N), some (.ref Wd), o3, o4, none, none, none, none] ∧ Same H H3 ∧ H3 N = some (.lst (us.map fun u => V.str u.1)) ∧ H Wd = none ∧ H3 Wd = some (.lst ws) ∧ WAt K H3 ws (waysF (us.map (·.1)) (us.take i)))
        ⟨W0, _, _, _, rfl, s05, d5, ((s2.trans s3).trans s4).free hW0, g5, p5⟩ (fun i σ H3 _ ⟨_, _, _, _, _, q, _⟩ => sqt_kt hS (kt_same q)) ?_ ?_⟩
      · rintro i x σ H3 hx ⟨Wd, ws, o3, o4, rfl, s3, n3, fr, w3, p3⟩
        have hil := lt_of_get hx
        obtain ⟨u, hu1, dx⟩ := get_dat ha hx
        obtain ⟨t, va, rfl, hs, hva⟩ := unk_open (Dp.kt (kt_same s3) _ _ (unkD_tp u) dx)
        have hW := waysF_ok hus i (by omega)
        have hF := waysF_few hus (i := i) (by omega)
        have hu2 := (hus.alt i u hu1).1
        have eW := waysF_snoc (names := us.map (·.1)) hu1
        generalize hWs : waysF (us.map (·.1)) (us.take i) = W at p3 hW hF eW
        generalize hnm : us.map (·.1) = names at eW hW
        have hwl := WAt.len p3
        refine ⟨t, _, rfl, hs, rfl, _, _, rfl, _, _, rfl, rfl, _, rfl, Wd, rfl, ⟨ws, SqL.of w3⟩, fun D hD => ?_⟩
        have hDW : Wd ≠ D := ne_of_none w3 hD
        refine walk_list (K := K) (a := Wd) (xs := ws) (fun j H4 => Same H3 H4 ∧ ∃ ys, H4 D = some (.lst ys) ∧ WAt K H4 ys (wayStep names u.2 (W.take j))) ⟨same_new hD _, [], upd_same, .nil⟩ (fun j H4 _ q => SqL.of (q.1 _ _ w3)) ?_ ?_
        · rintro j y H4 hy ⟨s4, ys, hys, pys⟩
          have hjl := lt_of_get hy
          obtain ⟨q, hq, dy⟩ := WAt.get p3 hy
          have hqo := hW.1 q (List.mem_of_getElem? hq)
          obtain ⟨t1, sv, tv, rfl, hs1, hsv, htv⟩ := dy.kl (kl_same s4)
          have s04 := s3.trans s4
          have hkn := hus.kn hu1 hqo
          rw [hnm] at hkn
          refine ⟨t1, _, rfl, SqT.of hs1, rfl, _, _, rfl, _, _, rfl, rfl, rfl, _, rfl, _, rfl, _, rfl, false, true, N, tv, names.map (fun x => (Sum.inr x : Key)), q.2.map V.int, rfl, ?_, SqT.of htv, fun dk hdk => ?_⟩
          · show SqL K H4 N _
            refine SqL.of ?_
            rw [s4 _ _ n3, ← hnm, List.map_map, List.map_map]
            rfl
          have s5 : Same H4 (upd H4 dk (.dK (kvZ names q.2))) := same_new hdk _
          have g5 : upd H4 dk (.dK (kvZ names q.2)) dk = some (.dK (kvZ names q.2)) := upd_same
          generalize hH5 : upd H4 dk (.dK (kvZ names q.2)) = H5 at s5 g5
          have hH5' : upd H4 dk (.dK (mergeK [] ((names.map fun x => (Sum.inr x : Key)).zip (q.2.map V.int)))) = H5 := hH5
          rw [hH5']
          refine ⟨va, dk, u.2, kvZ names q.2, envOf (kvZ names q.2), rfl, Dp.kt (kt_same (s4.trans s5)) _ _ (alts_tp u.2) hva, g5, by omega, hkn, fun L us' H6 hL s6 g6 d6 => ⟨L, rfl, ⟨us', SqL.of g6⟩, ?_⟩⟩
          have s46 := s5.trans s6
          have s36 := s4.trans s46
          have hLD : L ≠ D := fun z => by rw [z] at hL; rw [s5 _ _ hys] at hL; cases hL
          have hal := waysP_len (ρ := envOf (kvZ names q.2)) (whole := wholeOf (envOf (kvZ names q.2)) u.2) (as := u.2)
          have hok := waysA_ok (fun a ha => (hkn a ha).ok) (n := 12) (show 999 * u.2.length ≤ 4096 by omega)
          generalize hps : waysA (envOf (kvZ names q.2)) u.2 = ps at d6 hok
          have hpl : ps.length ≤ 4 := by rw [← hps]; exact Nat.le_trans hal hu2
          have hul := DpAll.len d6
          rw [List.length_map] at hul
          have hyl := WAt.len pys
          have hwl2 := wayStep_len (names := names) (as := u.2) (W := W.take j)
          rw [List.length_take] at hwl2
          have hys4 : ys.length ≤ 4 * 4096 := by
            rw [hyl]
            refine Nat.le_trans hwl2 (Nat.mul_le_mul hu2 (by omega))
          have e1 : wayStep names u.2 (W.take (j + 1)) = wayStep names u.2 (W.take j) ++ ps.map (fun p => (mulN q.1 p.1, q.2 ++ [p.2])) := by
            rw [take_snoc hq]
            unfold wayStep
            rw [List.flatMap_append, ← hps]
            simp [stepOf]
          have h12 : 12 * i < 27000 := by omega
          refine walk_list (K := K) (a := L) (xs := us') (fun k2 H7 => Same H3 H7 ∧ KT H6 H7 ∧ H7 L = some (.lst us') ∧ ∃ zs, H7 D = some (.lst zs) ∧ zs.length ≤ 4 * 4096 + k2 ∧ WAt K H7 zs (wayStep names u.2 (W.take j) ++ (ps.take k2).map (fun p => (mulN q.1 p.1, q.2 ++ [p.2])))) ?_ (fun k2 H7 _ q => SqL.of q.2.2.1) ?_ ?_
          · refine ⟨s36, KT.refl _, g6, ys, s46 _ _ hys, by omega, ?_⟩
            rw [List.take_zero, List.map_nil, List.append_nil]
            exact pys.kl (kl_same s46)
          · rintro k2 z H7 hz ⟨s7, kt7, g7, zs, hzs, hzl, pzs⟩
            have hkl := lt_of_get hz
            obtain ⟨p, hp, dz⟩ := get_dat d6 hz
            have hpo := hok p (List.mem_of_getElem? hp)
            obtain ⟨t2, pv2, rfl, hs2, hpv⟩ := wy_open (Dp.kt kt7 _ _ (wyD_tp p) dz)
            have hsv7 : Dp K H7 sv (s2D q.1) := Dp.kt ((kt_same s46).trans kt7) _ _ (s2D_tp _) hsv
            have htv7 : SqT K H7 tv (q.2.map V.int) := sqt_kt (SqT.of htv) ((kt_same s46).trans kt7)
            refine ⟨t2, _, rfl, hs2, rfl, _, _, rfl, _, _, rfl, rfl, rfl, ?_⟩
            refine ⟨_, rfl, _, rfl, sv, pv2, q.1.1, q.1.2, p.1.1, p.1.2, rfl, IsSh.of hsv7, IsSh.of hpv, bnd_of hqo.bd hpo.2.1 h12 (by decide), sumL_ne hqo.sh hpo.1, fun m1 hm1 => ?_⟩
            have s8 := same_new hm1 (shO (mulU (q.1.1 : Int) q.1.2 p.1.1 p.1.2) (sumL (q.1.1 : Int) q.1.2 p.1.1 p.1.2))
            have g8 : upd H7 m1 (shO (mulU (q.1.1 : Int) q.1.2 p.1.1 p.1.2) (sumL (q.1.1 : Int) q.1.2 p.1.1 p.1.2)) m1 = some (shO (mulU (q.1.1 : Int) q.1.2 p.1.1 p.1.2) (sumL (q.1.1 : Int) q.1.2 p.1.1 p.1.2)) := upd_same
            generalize upd H7 m1 (shO (mulU (q.1.1 : Int) q.1.2 p.1.1 p.1.2) (sumL (q.1.1 : Int) q.1.2 p.1.1 p.1.2)) = H8 at s8 g8 ⊢
            rw [mul_shN] at g8
            have htv8 := sqt_kt htv7 (kt_same s8)
            have hsz : (q.2.map V.int ++ [V.int p.2]).length ≤ sizeLine := by
              rw [List.length_append, List.length_map, hqo.len]
              exact szl (m := 100) (by show i + 1 ≤ 100; omega)
            refine ⟨_, rfl, tv, _, rfl, .inr htv8, _, rfl, hsz, fun m2 hm2 => ?_⟩
            have s9 := same_new hm2 (.tup (q.2.map V.int ++ [V.int p.2]))
            have g9 : upd H8 m2 (.tup (q.2.map V.int ++ [V.int p.2])) m2 = some (.tup (q.2.map V.int ++ [V.int p.2])) := upd_same
            generalize upd H8 m2 (.tup (q.2.map V.int ++ [V.int p.2])) = H9 at s9 g9 ⊢
            refine ⟨(by show 2 ≤ sizeLine; decide), fun m3 hm3 => ?_⟩
            have s10 := same_new hm3 (.tup [.ref m1, .ref m2])
            have g10 : upd H9 m3 (.tup [.ref m1, .ref m2]) m3 = some (.tup [.ref m1, .ref m2]) := upd_same
            generalize upd H9 m3 (.tup [.ref m1, .ref m2]) = H10 at s10 g10 ⊢
            have s710 := (s8.trans s9).trans s10
            have hzs10 := s710 _ _ hzs
            refine ⟨zs, hzs10, sz (m := 20000) (by omega), same_upd (s7.trans s710) hD _, (kt7.trans (kt_same s710)).trans (kt_lst hzs10 _), by rw [upd_ne hLD]; exact s710 _ _ g7, zs ++ [.ref m3], upd_same, by rw [List.length_append]; show zs.length + 1 ≤ _; omega, ?_⟩
            have e2 : wayStep names u.2 (W.take j) ++ (ps.take (k2 + 1)).map (fun p => (mulN q.1 p.1, q.2 ++ [p.2])) = (wayStep names u.2 (W.take j) ++ (ps.take k2).map (fun p => (mulN q.1 p.1, q.2 ++ [p.2]))) ++ [(mulN q.1 p.1, q.2 ++ [p.2])] := by
              rw [take_snoc hp, List.map_append, ← List.append_assoc]
              rfl
            rw [e2]
            have kk : KL H10 (upd H10 D (.lst (zs ++ [.ref m3]))) := kl_lst hzs10 _
            refine WAt.app (pzs.kl ((kl_same s710).trans kk)) (.cons (WayAt.kl ⟨m3, .ref m1, m2, rfl, g10, sh_dp (s10 _ _ (s9 _ _ g8)), ?_⟩ kk) .nil)
            rw [List.map_append]
            exact s10 _ _ g9
          · rintro H7 ⟨s7, kt7, g7, zs, hzs, hzl, pzs⟩
            refine ⟨s7, zs, hzs, ?_⟩
            rw [e1]
            rw [hul, List.take_length] at pzs
            exact pzs
        · rintro H4 ⟨s4, ys, hys, pys⟩
          refine ⟨D, ys, _, _, rfl, s3.trans s4, s4 _ _ n3, s3.free hD, hys, ?_⟩
          rw [eW]
          rw [hwl, List.take_length] at pys
          exact pys
      · rintro σ H3 ⟨Wd, ws, o3, o4, rfl, s3, n3, fr, w3, p3⟩
        rw [hxl, List.take_length] at p3
        exact ⟨_, rfl, k Wd ws H3 fr s3 w3 p3⟩
end
end My
set_option Elab.async false
set_option maxRecDepth 100000
set_option linter.all false
namespace My
open PySem L2
abbrev Tab := List (List Int × S2)
def getT (T : Tab) (k : List Int) : Option S2 := (T.find? fun e => decide (e.1 = k)).map (·.2)
def putT (T : Tab) (k : List Int) (s : S2) : Tab := if (T.any fun e => decide (e.1 = k)) = true then T.map (fun e => if e.1 = k then (e.1, s) else e) else T ++ [(k, s)]
def addT (T : Tab) (k : List Int) (s : S2) : Tab := putT T k (match getT T k with | some o => sumN o s | none => s)
abbrev kL (k : List Int) : List Key := k.map Sum.inl
theorem kL_inj {a b : List Int} (h : kL a = kL b) : a = b := (List.map_inj_right (fun x y e => Sum.inl.inj e)).mp h
theorem kL_V (k : List Int) : (kL k).map kV = k.map V.int := by rw [List.map_map]; rfl
inductive TAt (K : PySem.W.Frag) (H : Hp) : List (List Key × V) → Tab → Prop
  | nil : TAt K H [] []
  | cons {k : List Int} {v : V} {s : S2} {kvs : List (List Key × V)} {T : Tab} : Dp K H v (s2D s) → TAt K H kvs T → TAt K H ((kL k, v) :: kvs) ((k, s) :: T)
theorem TAt.kt {K : PySem.W.Frag} {H H' : Hp} (k : KT H H') : ∀ {kvs : List (List Key × V)} {T : Tab}, TAt K H kvs T → TAt K H' kvs T
  | _, _, .nil => .nil
  | _, _, .cons a r => .cons (Dp.kt k _ _ (s2D_tp _) a) (TAt.kt k r)
theorem TAt.len {K : PySem.W.Frag} {H : Hp} : ∀ {kvs : List (List Key × V)} {T : Tab}, TAt K H kvs T → kvs.length = T.length
  | _, _, .nil => rfl
  | _, _, .cons _ r => by simp [TAt.len r]
theorem TAt.keys {K : PySem.W.Frag} {H : Hp} : ∀ {kvs : List (List Key × V)} {T : Tab}, TAt K H kvs T → kvs.map (·.1) = (T.map (·.1)).map (·.map Sum.inl)
  | _, _, .nil => rfl
  | _, _, .cons _ r => by simp [TAt.keys r]
theorem TAt.val {K : PySem.W.Frag} {H : Hp} {k : List Int} : ∀ {kvs : List (List Key × V)} {T : Tab}, TAt K H kvs T → (∀ s, getT T k = some s → ∃ v, valV kvs (kL k) = some v ∧ Dp K H v (s2D s)) ∧ (getT T k = none → valV kvs (kL k) = none)
  | _, _, .nil => ⟨(fun s h => by cases h), fun _ => rfl⟩
  | _, _, .cons (k := j) (s := s0) (T := T) a r => by
    obtain ⟨h1, h2⟩ := TAt.val (k := k) r
    by_cases e : j = k
    · have eg : getT ((j, s0) :: T) k = some s0 := by unfold getT; rw [List.find?_cons]; simp [e]
      rw [eg, valV_pos (by rw [e])]
      exact ⟨fun s h => ⟨_, rfl, by cases h; exact a⟩, fun h => by cases h⟩
    · have eg : getT ((j, s0) :: T) k = getT T k := by unfold getT; rw [List.find?_cons]; simp [e]
      rw [eg, valV_neg (fun z => e (kL_inj z))]
      exact ⟨h1, h2⟩
theorem TAt.any {K : PySem.W.Frag} {H : Hp} {k : List Int} : ∀ {kvs : List (List Key × V)} {T : Tab}, TAt K H kvs T → (kvs.any fun kv => decide (kv.1 = kL k)) = T.any fun e => decide (e.1 = k)
  | _, _, .nil => rfl
  | _, _, .cons (k := j) a r => by
    rw [List.any_cons, List.any_cons, TAt.any (k := k) r]
    congr 1
    by_cases e : j = k
    · subst e; simp
    · simp only [e, decide_false, decide_eq_false_iff_not]; exact fun z => e (kL_inj z)
theorem TAt.mapPut {K : PySem.W.Frag} {H : Hp} {k : List Int} {v : V} {s : S2} (hv : Dp K H v (s2D s)) : ∀ {kvs : List (List Key × V)} {T : Tab}, TAt K H kvs T → TAt K H (kvs.map fun kv => if kv.1 = kL k then (kv.1, v) else kv) (T.map fun e => if e.1 = k then (e.1, s) else e)
  | _, _, .nil => .nil
  | _, _, .cons (k := j) a r => by
    rw [List.map_cons, List.map_cons]
    by_cases e : j = k
    · subst e; rw [if_pos rfl, if_pos rfl]; exact .cons hv (TAt.mapPut hv r)
    · rw [if_neg (fun z => e (kL_inj z)), if_neg e]; exact .cons a (TAt.mapPut hv r)
theorem TAt.snoc {K : PySem.W.Frag} {H : Hp} {k : List Int} {v : V} {s : S2} (hv : Dp K H v (s2D s)) : ∀ {kvs : List (List Key × V)} {T : Tab}, TAt K H kvs T → TAt K H (kvs ++ [(kL k, v)]) (T ++ [(k, s)])
  | _, _, .nil => .cons hv .nil
  | _, _, .cons a r => .cons a (TAt.snoc hv r)
theorem TAt.put {K : PySem.W.Frag} {H : Hp} {k : List Int} {v : V} {s : S2} {kvs : List (List Key × V)} {T : Tab} (hv : Dp K H v (s2D s)) (h : TAt K H kvs T) : TAt K H (putK kvs (kL k) v) (putT T k s) := by
  unfold putK putT
  rw [h.any]
  split
  · exact h.mapPut hv
  · exact h.snoc hv
theorem putT_len (T : Tab) (k : List Int) (s : S2) : (putT T k s).length ≤ T.length + 1 := by
  unfold putT
  split <;> simp
theorem getT_mem {T : Tab} {k : List Int} {s : S2} (h : getT T k = some s) : (k, s) ∈ T := by
  unfold getT at h
  cases e : T.find? fun e => decide (e.1 = k) with
  | none => rw [e] at h; cases h
  | some x =>
    rw [e] at h
    have h1 := List.find?_some e
    have h2 := List.mem_of_find?_eq_some e
    have : x = (k, s) := by
      have h3 := of_decide_eq_true h1
      have h4 : x.2 = s := Option.some.inj h
      rw [← h3, ← h4]
    rwa [← this]
theorem mem_putT {T : Tab} {k : List Int} {s : S2} {e : List Int × S2} (h : e ∈ putT T k s) : e ∈ T ∨ e = (k, s) := by
  unfold putT at h
  split at h
  · obtain ⟨x, hx, rfl⟩ := List.mem_map.mp h
    split
    · rename_i hk; exact .inr (by rw [hk])
    · exact .inl hx
  · rcases List.mem_append.mp h with h | h
    · exact .inl h
    · exact .inr (List.mem_singleton.mp h)
/-- shares in lowest terms, not too great -/
def TOk (n : Nat) (T : Tab) : Prop := ∀ e ∈ T, ShN e.2 ∧ Bd n e.2
theorem TOk.add {n m : Nat} {T : Tab} {k : List Int} {s : S2} (h : TOk n T) (hs : ShN s) (hb : Bd m s) : TOk (n + m + 1) (addT T k s) := by
  intro e he
  rcases mem_putT he with he | rfl
  · exact ⟨(h e he).1, (h e he).2.mono (by omega)⟩
  · show ShN (match getT T k with | some o => sumN o s | none => s) ∧ Bd _ (match getT T k with | some o => sumN o s | none => s)
    cases eo : getT T k with
    | none => exact ⟨hs, hb.mono (by omega)⟩
    | some o =>
      have ho := h _ (getT_mem eo)
      exact ⟨sumN_ok ho.1 hs, sumN_bd ho.2 hb⟩
theorem kl_dt {H : Hp} {p : Addr} {kvs : List (List Key × V)} (h : H p = some (.dT kvs)) (o : HO) : KL H (upd H p o) := ⟨fun b ys q => by
  rcases q with q | ⟨ob, q⟩
  · exact .inl (by rw [upd_ne (ne_of q h (by intro z; cases z))]; exact q)
  · exact .inr ⟨ob, by rw [upd_ne (ne_of q h (by intro z; cases z))]; exact q⟩, fun b ys q => by rw [upd_ne (ne_of q h (by intro z; cases z))]; exact q⟩
def spAddSh (K : PySem.W.Frag) : Sp := fun vs H Q _ => ∃ (p kq : Addr) (v : V) (kvs : List (List Key × V)) (T : Tab) (k : List Int) (s : S2) (n m : Nat), vs = [.ref p, .ref kq, v] ∧ H p = some (.dT kvs) ∧ TAt K H kvs T ∧ TOk n T ∧ H kq = some (.tup (k.map V.int)) ∧ Dp K H v (s2D s) ∧ ShN s ∧ Bd m s ∧ n < 27000 ∧ m < 27000 ∧ kvs.length < 100000 ∧
  ∀ (kvs' : List (List Key × V)) (H1 : Hp), Same H H1 → TAt K (upd H1 p (.dT kvs')) kvs' (addT T k s) → Q .non (upd H1 p (.dT kvs'))
section
variable {P : Program} {w : World} {K : PySem.W.Frag} {mg : Str → Option Value} {base : Heap}
theorem ok_addsh {f : Addr} {fd : FuncData} (F : Fun K "add_share" "add_share" s_add_share f fd) (Z : Zb mg) (G_sum_of : FnIn P w K mg base 41 "sum_of" ps_sum_of (spTwo K sumU sumL)) : FnOk P w K mg base CX0 42 f fd ps_add_share (spAddSh K) := by
  refine F.ok sc_add_share (fun vs H Q E h => ?_) (fun cdv A outer s H vs Q E hr h => ?_)
  · obtain ⟨p, kq, v, kvs, T, k, s', n, m, rfl, _⟩ := h
    rfl
  · obtain ⟨p, kq, v, kvs, T, k, s', n, m, rfl, hp, hT, hok, hkq, hv, hs, hb, hn, hm, hlen, kk⟩ := h
    have hu := hu_of hr
    refine ⟨_, (pss_one (ps_dput hu (pv 0) (pv 1) (pe_ifExp (pt_cmp (pc_din hu (pv 1) (pv 0))) (pe_fn G_sum_of hr rfl (pa_cons (pe_dget hu (pv 0) (pv 1) (fun _ _ => rfl)) (pa_cons (pv 2) pa_nil))) (pv 2)) rfl)), ?_⟩
    have hval := hT.val (k := k)
    have hkq' : H kq = some (.tup ((kL k).map kV)) := by rw [kL_V]; exact hkq
    have hin : DGet H p (.ref kq) (valV kvs (kL k)) := DGet.t hp hkq'
    refine ⟨_, rfl, _, rfl, p, _, rfl, hin, ?_⟩
    cases eg : getT T k with
    | none =>
      rw [hval.2 eg]
      have e1 : addT T k s' = putT T k s' := by unfold addT; rw [eg]
      refine ⟨_, rfl, iteF ⟨_, rfl, _, rfl, _, rfl, p, _, rfl, DPut.t hp hkq' (Nat.lt_trans hlen (by decide)), ?_⟩⟩
      refine kk _ H (fun _ _ h => h) ?_
      rw [e1]
      exact (hT.put hv).kt (kl_dt hp _).kt
    | some o =>
      obtain ⟨vo, e1, d1⟩ := hval.1 o eg
      rw [e1] at hin
      rw [e1]
      have e2 : addT T k s' = putT T k (sumN o s') := by unfold addT; rw [eg]
      have ho := hok _ (getT_mem eg)
      refine ⟨_, rfl, iteT ?_⟩
      refine ⟨_, rfl, _, rfl, p, vo, rfl, hin, _, rfl, vo, v, o.1, o.2, s'.1, s'.2, rfl, IsSh.of d1, IsSh.of hv, bnd_of ho.2 hb hn hm, sumL_ne ho.1 hs, fun t ht => ?_⟩
      have s2 := same_new ht (shO (sumU (o.1 : Int) o.2 s'.1 s'.2) (sumL (o.1 : Int) o.2 s'.1 s'.2))
      have g2 : upd H t (shO (sumU (o.1 : Int) o.2 s'.1 s'.2) (sumL (o.1 : Int) o.2 s'.1 s'.2)) t = some (shO (sumU (o.1 : Int) o.2 s'.1 s'.2) (sumL (o.1 : Int) o.2 s'.1 s'.2)) := upd_same
      generalize upd H t (shO (sumU (o.1 : Int) o.2 s'.1 s'.2) (sumL (o.1 : Int) o.2 s'.1 s'.2)) = H2 at s2 g2 ⊢
      rw [sum_shN] at g2
      have hp2 := s2 _ _ hp
      refine ⟨_, rfl, _, rfl, p, _, rfl, DPut.t hp2 (s2 _ _ hkq') (Nat.lt_trans hlen (by decide)), ?_⟩
      refine kk _ H2 s2 ?_
      rw [e2]
      exact ((hT.kt (kt_same s2)).put (sh_dp g2)).kt (kl_dt hp2 _).kt
end
end My
set_option Elab.async false
set_option maxRecDepth 100000
set_option linter.all false
namespace My
open PySem L2
def priorF (W : List Way) : Tab := W.foldl (fun T q => addT T q.2 q.1) []
theorem priorF_snoc {W : List Way} {q : Way} {i : Nat} (h : W[i]? = some q) : priorF (W.take (i + 1)) = addT (priorF (W.take i)) q.2 q.1 := by
  rw [take_snoc h]
  unfold priorF
  rw [List.foldl_append]
  rfl
theorem priorF_ok {i : Nat} {W : List Way} (h : ∀ q ∈ W, WOk i q) : ∀ n, n ≤ W.length → TOk (n * (12 * i + 1)) (priorF (W.take n)) ∧ (priorF (W.take n)).length ≤ n ∧ ∀ e ∈ priorF (W.take n), e.1.length = i
  | 0, _ => ⟨fun e he => by simp [priorF] at he, by simp [priorF], fun e he => by simp [priorF] at he⟩
  | n + 1, hn => by
    obtain ⟨h1, h2, h3⟩ := priorF_ok h n (by omega)
    have hq : W[n]? = some W[n] := List.getElem?_eq_getElem (by omega)
    have ho := h _ (List.mem_of_getElem? hq)
    rw [priorF_snoc hq]
    refine ⟨fun e he => ?_, ?_, fun e he => ?_⟩
    · obtain ⟨a, b⟩ := h1.add ho.sh ho.bd e he
      have e2 : (n + 1) * (12 * i + 1) = n * (12 * i + 1) + (12 * i + 1) := Nat.succ_mul _ _
      exact ⟨a, b.mono (by rw [e2]; omega)⟩
    · show (putT _ _ _).length ≤ _
      exact Nat.le_trans (putT_len _ _ _) (by omega)
    · rcases mem_putT he with he | rfl
      · exact h3 e he
      · exact ho.len
theorem nodup_putT {T : Tab} {k : List Int} {s : S2} (h : (T.map (·.1)).Nodup) : ((putT T k s).map (·.1)).Nodup := by
  unfold putT
  split
  · have : (T.map fun e => if e.1 = k then (e.1, s) else e).map (·.1) = T.map (·.1) := by
      rw [List.map_map]
      refine List.map_congr_left fun e _ => ?_
      show (if e.1 = k then (e.1, s) else e).1 = e.1
      split <;> rfl
    rw [this]; exact h
  · rename_i hn
    rw [List.map_append]
    refine List.nodup_append.mpr ⟨h, by simp, fun a ha b hb => ?_⟩
    have hb' : b = k := by simpa using hb
    subst hb'
    intro e
    subst e
    obtain ⟨x, hx, rfl⟩ := List.mem_map.mp ha
    exact hn (List.any_eq_true.mpr ⟨x, hx, decide_eq_true rfl⟩)
theorem nodup_priorF (W : List Way) : ((priorF W).map (·.1)).Nodup := by
  unfold priorF
  suffices h : ∀ (W : List Way) (T : Tab), (T.map (·.1)).Nodup → ((W.foldl (fun T q => addT T q.2 q.1) T).map (·.1)).Nodup from h W [] (by simp)
  intro W
  induction W with
  | nil => intro T h; exact h
  | cons q r ih => intro T h; exact ih _ (nodup_putT h)
def pick (T : Tab) (k : List Int) : S2 := (getT T k).getD (0, 1)
theorem pick_in {T : Tab} {k : List Int} (h : k ∈ T.map (·.1)) : getT T k = some (pick T k) := by
  obtain ⟨e, he, rfl⟩ := List.mem_map.mp h
  unfold pick
  cases eg : getT T e.1 with
  | some s => rfl
  | none =>
    unfold getT at eg
    rw [Option.map_eq_none_iff, List.find?_eq_none] at eg
    exact absurd (decide_eq_true rfl) (eg e he)
theorem putT_new {T : Tab} {k : List Int} {s : S2} (h : k ∉ T.map (·.1)) : putT T k s = T ++ [(k, s)] := by
  unfold putT
  rw [if_neg]
  intro z
  obtain ⟨e, he, hk⟩ := List.any_eq_true.mp z
  exact h (List.mem_map.mpr ⟨e, he, of_decide_eq_true hk⟩)
theorem paired_at {α β : Type} {R : α → β → Prop} : ∀ {xs : List α} {ys : List β} {i : Nat} {x : α}, Paired R xs ys → xs[i]? = some x → ∃ y, ys[i]? = some y ∧ R x y
  | _, _, 0, _, .cons h _, e => by cases e; exact ⟨_, rfl, h⟩
  | _, _, i + 1, _, .cons _ t, e => by
    obtain ⟨y, h1, h2⟩ := paired_at (i := i) t e
    exact ⟨y, h1, h2⟩
theorem paired_size {α β : Type} {R : α → β → Prop} : ∀ {xs : List α} {ys : List β}, Paired R xs ys → xs.length = ys.length
  | _, _, .nil => rfl
  | _, _, .cons _ t => by simp [paired_size t]
/-- the table in the order of its tuples -/
def inOrder (T : Tab) (ks : List (List Int)) : Tab := ks.map fun k => (k, pick T k)
/-- a fresh dict holds the table in its tuples' order -/
def PriorAt (K : PySem.W.Frag) (H' : Hp) (D : Addr) (T : Tab) : Prop := ∃ kvs ks, ks.Perm (T.map (·.1)) ∧ ks.Pairwise lexLe ∧ H' D = some (.dT kvs) ∧ TAt K H' kvs (inOrder T ks)
def spPrior (K : PySem.W.Frag) (n : Nat) : Sp := fun vs H Q _ => ∃ (b : Addr) (t0 : V) (rest : List V) (us : List Unk), vs = [.ref b] ∧ SqT K H b (t0 :: rest) ∧ Dp K H t0 (.tuple (us.map unkD)) ∧ UOk n us ∧ us.length ≤ 4 ∧
  ∀ (D : Addr) (H' : Hp), H D = none → Same H H' → PriorAt K H' D (priorF (waysU us)) → Q (.ref D) H'
section
variable {P : Program} {w : World} {K : PySem.W.Frag} {mg : Str → Option Value} {base : Heap}
set_option maxHeartbeats 4000000 in
theorem ok_prior (n : Nat) {f : Addr} {fd : FuncData} (F : Fun K "prior_of" "prior_of" s_prior_of f fd) (Z : Zb mg) (G_ways_of_unknowns : FnIn P w K mg base 42 "ways_of_unknowns" ps_ways_of_unknowns (spWays K n)) (G_add_share : FnIn P w K mg base 42 "add_share" ps_add_share (spAddSh K)) : FnOk P w K mg base CX0 43 f fd ps_prior_of (spPrior K n) := by
  refine F.ok sc_prior_of (fun vs H Q E h => ?_) (fun cdv A outer s H vs Q E hr h => ?_)
  · obtain ⟨b, t0, rest, us, rfl, _⟩ := h
    rfl
  · obtain ⟨b, t0, rest, us, rfl, hb, ht0, hus, h4, k⟩ := h
    have hu := hu_of hr
    refine ⟨_, (pss_cons (ps_set (i := 1) sc_prior_of.nd rfl (by first | exact Or.inl rfl | exact Or.inr rfl) pe_dnewT)
      (pss_cons (ps_for PassesOwn.never rfl (pi_list (pe_fn G_ways_of_unknowns hr rfl (pa_cons (pv 0) pa_nil))) (pg_tup rfl (pgs_cons (pg_name (i := 2) sc_prior_of.nd rfl (by first | exact Or.inl rfl | exact Or.inr rfl)) (pgs_cons (pg_name (i := 3) sc_prior_of.nd rfl (by first | exact Or.inl rfl | exact Or.inr rfl)) pgs_nil))) (pss_one (ps_expr (pe_fn G_add_share hr rfl (pa_cons (pv 1) (pa_cons (pv 3) (pa_cons (pv 2) pa_nil)))))))
      (pss_one (ps_ret (pe_dc (own := [("values", 3)]) (g := gName 3) (by rfl) sc_prior_of.nd (pi_list (pe_callB (cr_sortedTD rfl) (by rfl) Z.sorted (by decide +kernel) (pa_cons (pv 1) pa_nil))) (blkOk_by (own := [("values", 3)]) (N := nm_prior_of) (sc := defScope s_prior_of) (by decide +kernel)) (fun _ _ _ _ _ => (pg_name (i := 3) sc_prior_of.nd rfl (by first | exact Or.inl rfl | exact Or.inr rfl))) (fun _ _ _ _ _ => pts_nil) (fun _ _ _ _ _ => (pv 3)) (fun _ _ _ _ _ => (pe_dget hu (pv 1) (pv 3) (fun _ _ => rfl))) (fun s H C cl fp => hu)))))), ?_⟩
    refine (fun p hp => ?_)
    have s1 := same_new hp (.dT [])
    have g1 : upd H p (.dT []) p = some (.dT []) := upd_same
    generalize upd H p (.dT []) = H1 at s1 g1 ⊢
    obtain ⟨hW, hWl⟩ := waysU_ok hus
    have hWl4 : (waysU us).length ≤ 256 := by
      have h1 := (waysF_ok hus us.length (Nat.le_refl _)).2
      rw [List.take_length] at h1
      have h2 : 4 ^ us.length ≤ 4 ^ 4 := Nat.pow_le_pow_right (by decide) h4
      exact Nat.le_trans h1 h2
    refine ⟨_, rfl, b, t0, rest, us, rfl, sqt_kt hb (kt_same s1), Dp.kt (kt_same s1) _ _ (.tup fun d hd => by obtain ⟨y, _, rfl⟩ := List.mem_map.mp hd; exact unkD_tp y) ht0, hus, fun L ws H2 hL s2 g2 w2 => ?_⟩
    generalize hWs : waysU us = W at w2 hW hWl hWl4 k
    have hwl := WAt.len w2
    have hLp : L ≠ p := fun z => by rw [z, g1] at hL; cases hL
    refine ⟨L, rfl, ⟨ws, SqL.of g2⟩, for_list (K := K) (a := L) (xs := ws) (fun i σ H3 => ∃ (kvs : List (List Key × V)) (o2 o3 : Option V), σ = [some (.ref b), some (.ref p), o2, o3] ∧ KL H2 H3 ∧ Same H H3 ∧ H3 L = some (.lst ws) ∧ H3 p = some (.dT kvs) ∧ TAt K H3 kvs (priorF (W.take i)))
      ⟨[], _, _, rfl, KL.refl _, s1.trans s2, g2, s2 _ _ g1, .nil⟩ (fun i σ H3 _ ⟨_, _, _, _, _, _, q, _⟩ => SqL.of q) ?_ ?_⟩
    · rintro i x σ H3 hx ⟨kvs, o2, o3, rfl, kl3, s3, gL, gp, hT⟩
      have hil := lt_of_get hx
      obtain ⟨q, hq, dq⟩ := WAt.get w2 hx
      obtain ⟨t, sv, tv, rfl, e1, e2, e3⟩ := dq.kl kl3
      have hqo := hW q (List.mem_of_getElem? hq)
      obtain ⟨p1, p2, p3⟩ := priorF_ok hW i (by omega)
      have hb1 : i * (12 * us.length + 1) ≤ 256 * 49 := Nat.mul_le_mul (by omega) (by omega)
      refine ⟨t, _, rfl, SqT.of e1, rfl, _, _, rfl, _, _, rfl, rfl, _, rfl, _, rfl, _, rfl, p, tv, sv, kvs, priorF (W.take i), q.2, q.1, _, _, rfl, gp, hT, p1, e3, e2, hqo.sh, hqo.bd, by omega, by omega, by rw [hT.len]; omega, fun kvs' H4 s4 hT' => ?_⟩
      have kl4 : KL H3 (upd H4 p (.dT kvs')) := (kl_same s4).trans (kl_dt (s4 _ _ gp) _)
      refine ⟨kvs', _, _, rfl, kl3.trans kl4, same_upd (s3.trans s4) hp _, by rw [upd_ne hLp]; exact s4 _ _ gL, upd_same, ?_⟩
      rw [priorF_snoc hq]
      exact hT'
    · rintro σ H3 ⟨kvs, o2, o3, rfl, kl3, s3, gL, gp, hT⟩
      rw [hwl, List.take_length] at hT
      obtain ⟨p1, p2, p3⟩ := priorF_ok hW W.length (Nat.le_refl _)
      rw [List.take_length] at p1 p2 p3
      have hnd := nodup_priorF W
      generalize hTT : priorF W = T at hT p1 p2 p3 hnd k
      refine ⟨_, rfl, p, kvs, T.map (·.1), rfl, .inl gp, hT.keys, ?_, fun a qs' ks' hpm hpw hal ha => ⟨a, rfl, ⟨_, SqL.of upd_same⟩, fun D hD => ?_⟩⟩
      · by_cases h0 : us.length = 0
        · left
          have hW1 : W.length ≤ 1 := by
            rw [← hWs]
            have h1 := (waysF_ok hus us.length (Nat.le_refl _)).2
            rw [List.take_length, h0] at h1
            exact h1
          rw [List.length_map]; omega
        · right
          intro ks hks z
          obtain ⟨e, he, rfl⟩ := List.mem_map.mp hks
          have := p3 e he
          rw [z] at this
          exact h0 this.symm
      · have kla : KL H3 (upd H3 a (.lst (qs'.map V.ref))) := kl_new ha _
        have ga : upd H3 a (.lst (qs'.map V.ref)) a = some (.lst (qs'.map V.ref)) := upd_same
        have sa : Same H3 (upd H3 a (.lst (qs'.map V.ref))) := same_new ha _
        generalize upd H3 a (.lst (qs'.map V.ref)) = H4 at kla ga sa hD
        have haD : a ≠ D := ne_of_none ga hD
        have hlq : qs'.length = ks'.length := paired_size hal
        have hlk : ks'.length = T.length := by rw [hpm.length_eq, List.length_map]
        have gp4 := sa _ _ gp
        refine walk_list (K := K) (a := a) (xs := qs'.map V.ref) (fun i H5 => Same H4 H5 ∧ ∃ kvs', H5 D = some (.dT kvs') ∧ TAt K H5 kvs' (inOrder T (ks'.take i))) ⟨same_new hD _, [], upd_same, .nil⟩ (fun i H5 _ q => SqL.of (q.1 _ _ ga)) ?_ ?_
        · rintro i x H5 hx ⟨s5, kvs', g5, t5⟩
          have hil := lt_of_get hx
          rw [List.length_map] at hil
          obtain ⟨q, hq, rfl⟩ := get_map hx
          obtain ⟨ks, hks, hlv⟩ := paired_at hal hq
          have hmem : ks ∈ T.map (·.1) := hpm.mem_iff.mp (List.mem_of_getElem? hks)
          have hlv5 := s5 _ _ (sa _ _ hlv)
          have hlv6 : H5 q = some (.tup ((kL ks).map kV)) := by rw [kL_V]; exact hlv5
          have gp5 := s5 _ _ gp4
          obtain ⟨v, ev, dv⟩ := ((hT.kt kla.kt).kt (kt_same s5)).val (k := ks) |>.1 _ (pick_in hmem)
          have hget : DGet H5 p (.ref q) (some v) := by rw [← ev]; exact DGet.t gp5 hlv6
          refine ⟨rfl, _, rfl, _, rfl, _, rfl, p, v, rfl, hget, kvs', kL ks, q, g5, rfl, hlv6, ?_, same_upd s5 hD _, _, upd_same, ?_⟩
          · rw [t5.len]
            unfold inOrder
            rw [List.length_map, List.length_take]
            exact sz (m := 1000) (by omega)
          · have hnew : ks ∉ (inOrder T (ks'.take i)).map (·.1) := by
              have e1 : (inOrder T (ks'.take i)).map (·.1) = ks'.take i := by
                unfold inOrder
                rw [List.map_map]
                exact (List.map_congr_left fun _ _ => rfl).trans (List.map_id _)
              rw [e1]
              intro z
              have hn2 : ks'.Nodup := hpm.nodup_iff.mpr hnd
              have hn3 : (ks'.take (i + 1)).Nodup := List.Sublist.nodup (List.take_sublist _ _) hn2
              rw [take_snoc hks] at hn3
              exact (List.nodup_append.mp hn3).2.2 ks z ks (by simp) rfl
            have e2 : inOrder T (ks'.take (i + 1)) = putT (inOrder T (ks'.take i)) ks (pick T ks) := by
              rw [putT_new hnew, take_snoc hks]
              unfold inOrder
              rw [List.map_append]
              rfl
            rw [e2]
            exact (t5.put dv).kt (kl_dt g5 _).kt
        · rintro H5 ⟨s5, kvs', g5, t5⟩
          rw [List.length_map, hlq, List.take_length] at t5
          exact k D H5 (s3.free (sa.free hD)) ((s3.trans sa).trans s5) ⟨kvs', ks', hpm, hpw, g5, t5⟩
end
end My
set_option Elab.async false
set_option maxRecDepth 100000
set_option linter.all false
namespace My
open PySem L2
def i01 (b : Bool) : V := .int (if b = true then 1 else 0)
def kvC (a b : Int) : List (Key × V) := [(Sum.inr "<", i01 (decide (a < b))), (Sum.inr "=", i01 (decide (V.int a = V.int b))), (Sum.inr "&", i01 (decide (0 < a * b))), (Sum.inr "|", i01 (decide (0 < a + b)))]
theorem nkC {x y : Str} (h : x ≠ y) : ¬ (Sum.inr x : Key) = Sum.inr y := fun e => h (Sum.inr.inj e)
theorem mergeC (a b : Int) : mergeK [] (kvC a b) = kvC a b := by
  have e1 : ¬ ("<" : Str) = "=" := by decide +kernel
  have e2 : ¬ ("<" : Str) = "&" := by decide +kernel
  have e3 : ¬ ("<" : Str) = "|" := by decide +kernel
  have e4 : ¬ ("=" : Str) = "&" := by decide +kernel
  have e5 : ¬ ("=" : Str) = "|" := by decide +kernel
  have e6 : ¬ ("&" : Str) = "|" := by decide +kernel
  simp [mergeK, putK, kvC, e1, e2, e3, e4, e5, e6]
theorem lv_get {s : Str} (hs : s ∈ signs) {a b : Int} (ha : 0 ≤ a) (hb : 0 ≤ b) : ∃ x, atI [V.int (a + b), V.int (a - b), V.int (a * b)] (Txt.find "+-*" s) = some (.int x) ∧ (valV (kvC a b) (Sum.inr s)).getD (.int (x % 1000)) = .int (opv s a b) := by
  have hab : (0 < a * b) ↔ ¬ (a = 0 ∨ b = 0) := by
    constructor
    · rintro h (rfl | rfl)
      · rw [Int.zero_mul] at h; omega
      · rw [Int.mul_zero] at h; omega
    · intro h
      exact Int.mul_pos (by omega) (by omega)
  rcases signs_cases hs with rfl | rfl | rfl | rfl | rfl | rfl | rfl
  · refine ⟨a + b, ?_, ?_⟩
    · rw [show Txt.find "+-*" "+" = 0 by decide +kernel]; rfl
    · rw [opv1, show valV (kvC a b) (Sum.inr "+") = none from by
        unfold kvC
        rw [valV_neg (nkC (by decide +kernel)), valV_neg (nkC (by decide +kernel)), valV_neg (nkC (by decide +kernel)), valV_neg (nkC (by decide +kernel))]; rfl]
      rfl
  · refine ⟨a - b, ?_, ?_⟩
    · rw [show Txt.find "+-*" "-" = 1 by decide +kernel]; rfl
    · rw [opv2, show valV (kvC a b) (Sum.inr "-") = none from by
        unfold kvC
        rw [valV_neg (nkC (by decide +kernel)), valV_neg (nkC (by decide +kernel)), valV_neg (nkC (by decide +kernel)), valV_neg (nkC (by decide +kernel))]; rfl]
      rfl
  · refine ⟨a * b, ?_, ?_⟩
    · rw [show Txt.find "+-*" "*" = 2 by decide +kernel]; rfl
    · rw [opv3, show valV (kvC a b) (Sum.inr "*") = none from by
        unfold kvC
        rw [valV_neg (nkC (by decide +kernel)), valV_neg (nkC (by decide +kernel)), valV_neg (nkC (by decide +kernel)), valV_neg (nkC (by decide +kernel))]; rfl]
      rfl
  all_goals refine ⟨a * b, ?_, ?_⟩
  · rw [show Txt.find "+-*" "<" = -1 by decide +kernel]; rfl
  · rw [opv4]
    unfold kvC
    rw [valV_pos rfl]
    show V.int (if decide (a < b) = true then 1 else 0) = _
    by_cases h : a < b
    · rw [if_pos (decide_eq_true h), if_pos h]
    · rw [if_neg (fun z => h (of_decide_eq_true z)), if_neg h]
  · rw [show Txt.find "+-*" "=" = -1 by decide +kernel]; rfl
  · rw [opv5]
    unfold kvC
    rw [valV_neg (nkC (by decide +kernel)), valV_pos rfl]
    show V.int (if decide (V.int a = V.int b) = true then 1 else 0) = _
    by_cases h : a = b
    · rw [if_pos (decide_eq_true (by rw [h])), if_pos h]
    · rw [if_neg (fun z => h (V.int.inj (of_decide_eq_true z))), if_neg h]
  · rw [show Txt.find "+-*" "&" = -1 by decide +kernel]; rfl
  · rw [opv6]
    unfold kvC
    rw [valV_neg (nkC (by decide +kernel)), valV_neg (nkC (by decide +kernel)), valV_pos rfl]
    show V.int (if decide (0 < a * b) = true then 1 else 0) = _
    by_cases h : a = 0 ∨ b = 0
    · rw [if_neg (fun z => (hab.mp (of_decide_eq_true z)) h), if_pos h]
    · rw [if_pos (decide_eq_true (hab.mpr h)), if_neg h]
  · rw [show Txt.find "+-*" "|" = -1 by decide +kernel]; rfl
  · rw [opv7]
    unfold kvC
    rw [valV_neg (nkC (by decide +kernel)), valV_neg (nkC (by decide +kernel)), valV_neg (nkC (by decide +kernel)), valV_pos rfl]
    show V.int (if decide (0 < a + b) = true then 1 else 0) = _
    by_cases h : a = 0 ∧ b = 0
    · rw [if_neg (fun z => by have := of_decide_eq_true z; omega), if_pos h]
    · rw [if_pos (decide_eq_true (by omega)), if_neg h]
def spLVal (K : PySem.W.Frag) (n : Nat) : Sp := fun vs H Q _ => ∃ (v : V) (e : Ex) (dk : Addr) (kvs : List (Key × V)) (ρ : Str → Int), vs = [v, .ref dk] ∧ IsE K H v e ∧ e.depth < n ∧ H dk = some (.dK kvs) ∧ e.sem (Kn kvs ρ) ∧
  ∀ H', Same H H' → Q (.int (e.val ρ)) H'
/-- what is no leaf, opened for a slice of its parts -/
theorem kids_open {K : PySem.W.Frag} {H : Hp} {v : V} {e : Ex} (h : IsE K H v e) (h1 : e.tag ≠ "num") (h2 : e.tag ≠ "name") : ∃ a xs ks, v = .ref a ∧ SqT K H a xs ∧ atI xs 0 = some (.str e.tag) ∧
    ¬ (HT.sIx xs.length 0 (some (1 + if decide (V.str e.tag = V.str "op") = true then 1 else 0)) = 0 ∧ HT.sIx xs.length xs.length none = xs.length) ∧ cutV xs (some (1 + if decide (V.str e.tag = V.str "op") = true then 1 else 0)) none = ks ∧ AreE K H ks e.kids := by
  obtain ⟨a, xs, rfl, hs, hx⟩ := h.open
  cases e with
  | num n => exact absurd rfl h1
  | name x => exact absurd rfl h2
  | op s x y =>
    obtain ⟨va, vb, rfl, d1, d2⟩ := hx
    refine ⟨a, _, [va, vb], rfl, hs, rfl, ?_, ?_, .cons d1 (.cons d2 .nil)⟩
    · rw [show (decide (V.str (Ex.op s x y).tag = V.str "op")) = true from decide_eq_true rfl]
      rintro ⟨z, _⟩
      exact absurd (show HT.sIx 4 0 (some (1 + if true = true then 1 else 0)) = 0 from z) (by decide)
    · rw [show (decide (V.str (Ex.op s x y).tag = V.str "op")) = true from decide_eq_true rfl]; rfl
  | not x =>
    obtain ⟨va, rfl, d1⟩ := hx
    have en : decide (V.str (Ex.not x).tag = V.str "op") = false := decide_eq_false (fun z => absurd (V.str.inj z) (by show ¬ (("not" : Str) = "op"); decide +kernel))
    refine ⟨a, _, [va], rfl, hs, rfl, ?_, ?_, .cons d1 .nil⟩
    · rw [en]
      rintro ⟨z, _⟩
      exact absurd (show HT.sIx 2 0 (some (1 + if false = true then 1 else 0)) = 0 from z) (by decide)
    · rw [en]; rfl
  | ite c x y =>
    obtain ⟨vc, va, vb, rfl, d0, d1, d2⟩ := hx
    have en : decide (V.str (Ex.ite c x y).tag = V.str "op") = false := decide_eq_false (fun z => absurd (V.str.inj z) (by show ¬ (("if" : Str) = "op"); decide +kernel))
    refine ⟨a, _, [vc, va, vb], rfl, hs, rfl, ?_, ?_, .cons d0 (.cons d1 (.cons d2 .nil))⟩
    · rw [en]
      rintro ⟨z, _⟩
      exact absurd (show HT.sIx 4 0 (some (1 + if false = true then 1 else 0)) = 0 from z) (by decide)
    · rw [en]; rfl
theorem kid_sem {P : Str → Prop} {e k : Ex} (h : k ∈ e.kids) (o : e.sem P) : k.sem P := by
  cases e <;> simp [Ex.kids] at h
  · rcases h with rfl | rfl
    · exact o.2.1
    · exact o.2.2
  · subst h; exact o
  · rcases h with rfl | rfl | rfl
    · exact o.1
    · exact o.2.1
    · exact o.2.2
section
variable {P : Program} {w : World} {K : PySem.W.Frag} {mg : Str → Option Value} {base : Heap}
set_option maxHeartbeats 4000000 in
theorem ok_lval (n : Nat) {f : Addr} {fd : FuncData} (F : Fun K "_law_value" "_law_value" s_L_value f fd) (Z : Zb mg) (G_L_value : FnIn P w K mg base (n + 1) "_law_value" ps_L_value (spLVal K n)) : FnOk P w K mg base CX0 (n + 2) f fd ps_L_value (spLVal K (n + 1)) := by
  refine F.ok sc_L_value (fun vs H Q E h => ?_) (fun cdv A outer s H vs Q E hr h => ?_)
  · obtain ⟨v, e, dk, kvs, ρ, rfl, _⟩ := h
    rfl
  · obtain ⟨v, e, dk, kvs, ρ, rfl, hv, hdp, hdk, hsem, k⟩ := h
    have hu := hu_of hr
    refine ⟨_, (pss_cons (ps_set (i := 2) sc_L_value.nd rfl (by first | exact Or.inl rfl | exact Or.inr rfl) (pe_ix ix_tup (pv 0) pe_int (fun _ _ => rfl)))
      (pss_cons (ps_if (pt_cmpR op_eq (pv 2) pe_str (nomark _)) (pss_one (ps_ret (pe_ix ix_tup (pv 0) pe_int (fun _ _ => rfl)))) pss_nil)
      (pss_cons (ps_if (pt_cmpR op_eq (pv 2) pe_str (nomark _)) (pss_one (ps_ret (pe_dget hu (pv 1) (pe_ix ix_tup (pv 0) pe_int (fun _ _ => rfl)) (fun _ _ => rfl)))) pss_nil)
      (pss_cons (ps_setLc (i := 3) (own := [("_law_one", 7)]) (g := gName 7) (by rfl) sc_L_value.nd rfl rfl (sw_true rfl rfl rfl (by decide +kernel)) (pi_tup (pe_slice sl_tup (pv 0) (po_some (pe_op op_add pe_int (pe_callTy call_int1 (by rfl) Z.int (by decide +kernel) (pa_cons (pe_cmpR op_eq (pv 2) pe_str (nomark _)) pa_nil)))) po_none)) (blkOk_by (own := [("_law_one", 7)]) (N := nm_L_value) (sc := defScope s_L_value) (by decide +kernel)) (fun _ _ _ _ _ => (pg_name (i := 7) sc_L_value.nd rfl (by first | exact Or.inl rfl | exact Or.inr rfl))) (fun _ _ _ _ _ => pts_nil) (fun _ _ _ _ _ => (pe_fn G_L_value hr rfl (pa_cons (pv 7) (pa_cons (pv 1) pa_nil)))))
      (pss_cons (ps_if (pt_cmpR op_eq (pv 2) pe_str (nomark _)) (pss_one (ps_ret (pe_callTy call_int1 (by rfl) Z.int (by decide +kernel) (pa_cons (pe_cmpR op_eq (pe_ix ix_list (pv 3) pe_int (fun _ _ => rfl)) pe_int (nomark _)) pa_nil)))) pss_nil)
      (pss_cons (ps_if (pt_cmpR op_eq (pv 2) pe_str (nomark _)) (pss_one (ps_ret (pe_ix ix_list (pv 3) (pe_op op_add pe_int (pe_callTy call_int1 (by rfl) Z.int (by decide +kernel) (pa_cons (pe_cmpR op_eq (pe_ix ix_list (pv 3) pe_int (fun _ _ => rfl)) pe_int (nomark _)) pa_nil))) (fun _ _ => rfl)))) pss_nil)
      (pss_cons (ps_asg (pv 3) (pg_tupL rfl (pgs_cons (pg_name (i := 5) sc_L_value.nd rfl (by first | exact Or.inl rfl | exact Or.inr rfl)) (pgs_cons (pg_name (i := 6) sc_L_value.nd rfl (by first | exact Or.inl rfl | exact Or.inr rfl)) pgs_nil))))
      (pss_cons (ps_set (i := 4) sc_L_value.nd rfl (by first | exact Or.inl rfl | exact Or.inr rfl) (pe_disp (pps_cons pe_str (pe_callTy call_int1 (by rfl) Z.int (by decide +kernel) (pa_cons (pe_cmpR op_lt (pv 5) (pv 6) (nomark _)) pa_nil)) (pps_cons pe_str (pe_callTy call_int1 (by rfl) Z.int (by decide +kernel) (pa_cons (pe_cmpR op_eq (pv 5) (pv 6) (nomark _)) pa_nil)) (pps_cons pe_str (pe_callTy call_int1 (by rfl) Z.int (by decide +kernel) (pa_cons (pe_cmpR op_gt (pe_op op_mul (pv 5) (pv 6)) pe_int (nomark _)) pa_nil)) (pps_cons pe_str (pe_callTy call_int1 (by rfl) Z.int (by decide +kernel) (pa_cons (pe_cmpR op_gt (pe_op op_add (pv 5) (pv 6)) pe_int (nomark _)) pa_nil)) pps_nil)))) (by rfl) (by rfl) (fun z => by cases z) (by decide)))
      (pss_one (ps_ret (pe_dget2 hu (pv 4) (pe_ix ix_tup (pv 0) pe_int (fun _ _ => rfl)) (pe_op op_mod (pe_ix ix_list (pe_lst (pa_cons (pe_op op_add (pv 5) (pv 6)) (pa_cons (pe_op op_sub (pv 5) (pv 6)) (pa_cons (pe_op op_mul (pv 5) (pv 6)) pa_nil)))) (pe_m1 PySem.F.slot_str_find PySem.F.type_str_find mt_find pe_str (pe_ix ix_tup (pv 0) pe_int (fun _ _ => rfl))) (fun _ _ => rfl)) pe_int) ⟨by rfl, by rfl, by rfl, by rfl⟩))))))))))), ?_⟩
    by_cases t1 : e.tag = "num"
    · obtain ⟨a, xs, rfl, hS, hx⟩ := hv.open
      cases e with
      | num m =>
        subst hx
        exact ⟨_, rfl, a, _, _, _, rfl, rfl, hS, rfl, _, rfl, rfl, _, rfl, iteST ⟨_, rfl, a, _, _, _, rfl, rfl, hS, rfl, k H (fun _ _ h => h)⟩⟩
      | name x => exact absurd t1 (by show ¬ (("name" : Str) = "num"); decide +kernel)
      | op o x y => exact absurd t1 (by show ¬ (("op" : Str) = "num"); decide +kernel)
      | not x => exact absurd t1 (by show ¬ (("not" : Str) = "num"); decide +kernel)
      | ite c x y => exact absurd t1 (by show ¬ (("if" : Str) = "num"); decide +kernel)
    by_cases t2 : e.tag = "name"
    · obtain ⟨a, xs, rfl, hS, hx⟩ := hv.open
      cases e with
      | name x =>
        subst hx
        exact ⟨_, rfl, a, _, _, _, rfl, rfl, hS, rfl, _, rfl, rfl, _, rfl, iteSF (by decide +kernel) ⟨_, rfl, rfl, _, rfl, iteST ⟨_, rfl, _, rfl, a, _, _, _, rfl, rfl, hS, rfl, dk, _, rfl, dget_name hdk hsem, k H (fun _ _ h => h)⟩⟩⟩
      | num m => exact absurd t2 (by show ¬ (("num" : Str) = "name"); decide +kernel)
      | op o x y => exact absurd t2 (by show ¬ (("op" : Str) = "name"); decide +kernel)
      | not x => exact absurd t2 (by show ¬ (("not" : Str) = "name"); decide +kernel)
      | ite c x y => exact absurd t2 (by show ¬ (("if" : Str) = "name"); decide +kernel)
    obtain ⟨a, xs, ks, rfl, hS, h0, hw, hc, hks⟩ := kids_open hv t1 t2
    have hkl := hks.len
    have hk3 : e.kids.length ≤ 3 := by cases e <;> simp [Ex.kids]
    refine ⟨_, rfl, a, _, _, _, rfl, rfl, hS, h0, _, rfl, rfl, _, rfl, iteSF t1 ⟨_, rfl, rfl, _, rfl, iteSF t2 ⟨_, rfl, _, rfl, rfl, .inr ⟨_, rfl, _, _, rfl, rfl, _, rfl, a, xs, rfl, hS, hw, fun p hp => ⟨p, rfl, ⟨_, SqT.of upd_same⟩, fun D hD => ?_⟩⟩⟩⟩⟩
    rw [hc] at hD ⊢
    have sp : Same H (upd H p (.tup ks)) := same_new hp _
    have gp : upd H p (.tup ks) p = some (.tup ks) := upd_same
    generalize upd H p (.tup ks) = H1 at sp gp hD ⊢
    refine lc_tup (K := K) (a := p) (xs := ks) (fun i H2 => Same H1 H2 ∧ H2 D = some (.lst ((e.kids.take i).map fun x => V.int (x.val ρ)))) ⟨same_new hD _, upd_same⟩ (fun i H2 _ q => SqT.of (q.1 _ _ gp)) ?_ ?_
    · rintro i x H2 hx ⟨s2, d2⟩
      have hil := lt_of_get hx
      obtain ⟨y, hy, dy⟩ := hks.get hx
      have my := List.mem_of_getElem? hy
      have dpt := Ex.kid_depth my
      refine ⟨rfl, _, rfl, _, rfl, x, y, dk, kvs, ρ, rfl, (dy.kt (kt_same sp)).kt (kt_same s2), by omega, s2 _ _ (sp _ _ hdk), kid_sem my hsem, fun H3 s3 => ⟨_, s3 _ _ d2, ?_, same_upd (s2.trans s3) hD _, ?_⟩⟩
      · rw [List.length_map, List.length_take]; exact sz (m := 1000) (by omega)
      · rw [upd_same, take_snoc hy, List.map_append]; rfl
    · rintro H2 ⟨s2, d2⟩
      rw [hkl, List.take_length] at d2
      have s02 := sp.trans s2
      have k2 := k
      cases e with
      | num m => exact absurd rfl t1
      | name x => exact absurd rfl t2
      | not x =>
        have d2 : H2 D = some (.lst [V.int (x.val ρ)]) := d2
        refine ⟨_, rfl, rfl, _, rfl, iteST ⟨_, rfl, D, _, _, _, rfl, rfl, SqL.of d2, rfl, rfl, .inr ⟨_, rfl, ?_⟩⟩⟩
        have k3 := k H2 s02
        simp only [Ex.val] at k3
        by_cases c : x.val ρ = 0
        · rw [if_pos c] at k3
          rw [if_pos (decide_eq_true (by rw [c]))]
          exact k3
        · rw [if_neg c] at k3
          rw [if_neg (fun z => c (V.int.inj (of_decide_eq_true z)))]
          exact k3
      | ite c x y =>
        have d2 : H2 D = some (.lst [V.int (c.val ρ), V.int (x.val ρ), V.int (y.val ρ)]) := d2
        refine ⟨_, rfl, rfl, _, rfl, iteSF (by show ("if" : Str) ≠ "not"; decide +kernel) ⟨_, rfl, rfl, _, rfl, iteST ⟨_, rfl, _, rfl, D, _, _, _, rfl, rfl, SqL.of d2, rfl, rfl, .inr ⟨_, rfl, ?_⟩⟩⟩⟩
        have k3 := k H2 s02
        simp only [Ex.val] at k3
        by_cases cc : c.val ρ = 0
        · rw [if_pos cc] at k3
          rw [if_pos (decide_eq_true (by rw [cc]))]
          exact ⟨_, _, rfl, rfl, D, _, _, _, rfl, rfl, SqL.of d2, rfl, k3⟩
        · rw [if_neg cc] at k3
          rw [if_neg (fun z => cc (V.int.inj (of_decide_eq_true z)))]
          exact ⟨_, _, rfl, rfl, D, _, _, _, rfl, rfl, SqL.of d2, rfl, k3⟩
      | op o x y =>
        have d2 : H2 D = some (.lst [V.int (x.val ρ), V.int (y.val ρ)]) := d2
        have rx := kn_rng hsem.2.1
        have ry := kn_rng hsem.2.2
        have hxy : x.val ρ * y.val ρ ≤ 999 * 999 := Int.mul_le_mul rx.2 ry.2 ry.1 (by decide)
        have hxy0 : 0 ≤ x.val ρ * y.val ρ := Int.mul_nonneg rx.1 ry.1
        obtain ⟨z, hz1, hz2⟩ := lv_get hsem.1 rx.1 ry.1
        obtain ⟨a', xs', e1, hS2, va, vb, rfl, _, _⟩ := hv.open
        cases e1
        have hS3 := sqt_kt hS2 (kt_same s02)
        refine ⟨_, rfl, rfl, _, rfl, iteSF (by show ("op" : Str) ≠ "not"; decide +kernel) ⟨_, rfl, rfl, _, rfl, iteSF (by show ("op" : Str) ≠ "if"; decide +kernel) ?_⟩⟩
        refine ⟨_, rfl, D, _, rfl, SqL.of d2, rfl, _, _, rfl, _, _, rfl, rfl, fun q hq => ?_⟩
        have sq : Same H2 (upd H2 q (.dK [])) := same_new hq _
        have mb : -(2 ^ 64) < x.val ρ ∧ x.val ρ < 2 ^ 64 := by omega
        refine ⟨_, rfl, _, rfl, _, _, rfl, rfl, .inr ⟨_, rfl, _, rfl, _, rfl, rfl, .inr ⟨_, rfl, _, rfl, _, rfl, _, _, rfl, rfl, .inl mb, _, _, rfl, rfl, .inr ⟨_, rfl, _, rfl, _, rfl, _, _, rfl, rfl, _, _, rfl, rfl, .inr ⟨_, rfl, ?_⟩⟩⟩⟩⟩
        refine ⟨upd_same, kvC (x.val ρ) (y.val ρ), rfl, (by show 4 ≤ 15; decide), ?_⟩
        rw [mergeC]
        have s3 : Same H2 (upd (upd H2 q (.dK [])) q (.dK (kvC (x.val ρ) (y.val ρ)))) := same_upd sq hq _
        have g3 : upd (upd H2 q (.dK [])) q (.dK (kvC (x.val ρ) (y.val ρ))) q = some (.dK (kvC (x.val ρ) (y.val ρ))) := upd_same
        generalize upd (upd H2 q (.dK [])) q (.dK (kvC (x.val ρ) (y.val ρ))) = H3 at s3 g3 ⊢
        have hS4 := sqt_kt hS3 (kt_same s3)
        refine ⟨_, rfl, q, rfl, .inl ⟨_, .inl g3⟩, _, rfl, a, _, _, _, rfl, rfl, hS4, rfl, ?_⟩
        refine ⟨_, rfl, _, rfl, _, _, rfl, rfl, _, rfl, _, rfl, _, _, rfl, rfl, _, rfl, _, rfl, _, _, rfl, rfl, .inl mb, (by show 3 ≤ sizeLine; decide), fun p2 hp2 => ?_⟩
        have s4 := same_new hp2 (.lst [V.int (x.val ρ + y.val ρ), V.int (x.val ρ - y.val ρ), V.int (x.val ρ * y.val ρ)])
        have g4 : upd H3 p2 (.lst [V.int (x.val ρ + y.val ρ), V.int (x.val ρ - y.val ρ), V.int (x.val ρ * y.val ρ)]) p2 = some (.lst [V.int (x.val ρ + y.val ρ), V.int (x.val ρ - y.val ρ), V.int (x.val ρ * y.val ρ)]) := upd_same
        generalize upd H3 p2 (.lst [V.int (x.val ρ + y.val ρ), V.int (x.val ρ - y.val ρ), V.int (x.val ρ * y.val ρ)]) = H4 at s4 g4 ⊢
        refine ⟨⟨_, rfl⟩, _, rfl, a, _, _, _, rfl, rfl, sqt_kt hS4 (kt_same s4), rfl, _, _, rfl, rfl, p2, _, _, _, rfl, rfl, SqL.of g4, hz1, _, _, rfl, rfl, (by show (0 : Int) < 1000; decide), _, .inl ⟨_, Sum.inr o, .inl (s4 _ _ g3), rfl, rfl⟩, ?_⟩
        rw [hz2]
        exact k H4 ((s02.trans s3).trans s4)
theorem rec_lval {f : Addr} {fd : FuncData} (F : Fun K "_law_value" "_law_value" s_L_value f fd) (hm : mg "_law_value" = some (.ref f)) (hb : Binds K fd ps_L_value []) (Z : Zb mg) : ∀ n : Nat, FnIn P w K mg base (n + 1) "_law_value" ps_L_value (spLVal K n)
  | 0 => by
    have no : ∀ vs H Q E, ¬ spLVal K 0 vs H Q E := fun vs H Q E h => by
      obtain ⟨_, _, _, _, _, _, _, h1, _⟩ := h
      omega
    exact ⟨f, fd, ⟨fun vs H Q E h => absurd h (no vs H Q E), fun A outer s H args us vs Q E _ _ _ _ h => absurd h (no vs H Q E)⟩, hm, F.kp, hb⟩
  | n + 1 => ⟨f, fd, ok_lval n F Z (rec_lval F hm hb Z n), hm, F.kp, hb⟩
end
end My
set_option Elab.async false
set_option maxRecDepth 100000
set_option linter.all false
namespace My
open PySem L2
theorem sql_sm {K : PySem.W.Frag} {H H' : Hp} {a : Addr} {xs : List V} (h : SqL K H a xs) (s : Same H H') : SqL K H' a xs := by
  rcases h with (h | ⟨o, h⟩) | h
  · exact .inl (.inl (s _ _ h))
  · exact .inl (.inr ⟨o, s _ _ h⟩)
  · exact .inr h
def spLowN : Sp := fun vs H Q _ => ∃ (u l : Nat), vs = [.int u, .int l] ∧ 0 < l ∧ ∀ (t : Addr), H t = none → Q (.ref t) (upd H t (shN (lowN u l)))
def spTimes (K : PySem.W.Frag) : Sp := fun vs H Q _ => ∃ (v u : V) (s t : S2) (n m : Nat), vs = [v, u] ∧ Dp K H v (s2D s) ∧ Dp K H u (s2D t) ∧ ShN s ∧ ShN t ∧ Bd n s ∧ Bd m t ∧ n < 27000 ∧ m < 27000 ∧ ∀ a : Addr, H a = none → Q (.ref a) (upd H a (shN (mulN s t)))
def lsum (ss : List S2) : S2 := ss.foldl sumN (0, 1)
theorem sh01 : ShN (0, 1) := ⟨by decide, by decide⟩
theorem sumN_0 {s : S2} (h : ShN s) : sumN (0, 1) s = s := by
  unfold sumN
  rw [Nat.zero_mul, Nat.zero_add, Nat.mul_one, Nat.one_mul]
  exact lowN_id h
theorem lsum_two {s t : S2} (h : ShN s) : lsum [s, t] = sumN s t := by
  unfold lsum
  rw [List.foldl_cons, List.foldl_cons, List.foldl_nil, sumN_0 h]
theorem lsum_snoc {ss : List S2} {s : S2} {i : Nat} (h : ss[i]? = some s) : lsum (ss.take (i + 1)) = sumN (lsum (ss.take i)) s := by
  rw [take_snoc h]
  unfold lsum
  rw [List.foldl_append]
  rfl
theorem lsum_ok {n : Nat} {ss : List S2} (h : ∀ s ∈ ss, ShN s ∧ Bd n s) : ∀ i, i ≤ ss.length → ShN (lsum (ss.take i)) ∧ Bd ((n + 1) * i) (lsum (ss.take i))
  | 0, _ => ⟨sh01, by rw [Nat.mul_zero]; exact ⟨(by decide : (0 : Nat) ≤ 2 ^ 0), (by decide : (1 : Nat) ≤ 2 ^ 0)⟩⟩
  | i + 1, hi => by
    obtain ⟨h1, h2⟩ := lsum_ok h i (by omega)
    have hs : ss[i]? = some ss[i] := List.getElem?_eq_getElem (by omega)
    have ho := h _ (List.mem_of_getElem? hs)
    rw [lsum_snoc hs]
    exact ⟨sumN_ok h1 ho.1, (sumN_bd h2 ho.2).mono (by rw [Nat.mul_succ]; omega)⟩
def spLSum (K : PySem.W.Frag) : Sp := fun vs H Q _ => ∃ (a : Addr) (xs : List V) (ss : List S2) (n : Nat), vs = [.ref a] ∧ SqL K H a xs ∧ DpAll K H xs (ss.map s2D) ∧ (∀ s ∈ ss, ShN s ∧ Bd n s) ∧ n < 27000 ∧ (n + 1) * ss.length < 27000 ∧
  ∀ (t : Addr) (H' : Hp), Same H H' → H' t = some (shN (lsum ss)) → Q (.ref t) H'
section
variable {P : Program} {w : World} {K : PySem.W.Frag} {mg : Str → Option Value} {base : Heap}
theorem ok_lowN {f : Addr} {fd : FuncData} (hP : P.given.tree = none) (F : Fun K "_law_lowest" "_law_lowest" s_L_lowest f fd) (Z : Zb mg) : FnOk P w K mg base CX0 40 f fd ps_L_lowest spLowN := by
  refine F.ok sc_L_lowest (fun vs H Q E h => ?_) (fun cdv A outer s H vs Q E hr h => ?_)
  · obtain ⟨u, l, rfl, _⟩ := h
    rfl
  · obtain ⟨u, l, rfl, hl, k⟩ := h
    refine ⟨_, (pss_cons (ps_par (i := 2) (j := 3) (by rfl) sc_L_lowest.nd rfl rfl (by decide) rfl rfl (pa_cons (pv 0) (pa_cons (pv 1) pa_nil)) (by rfl))
      (pss_cons (ps_while PassesOwn.never (pt_cmpR op_gt (pv 3) pe_int (nomark _)) (pss_one (ps_par (i := 2) (j := 3) (by rfl) sc_L_lowest.nd rfl rfl (by decide) rfl rfl (pa_cons (pv 3) (pa_cons (pe_op op_mod (pv 2) (pv 3)) pa_nil)) (by rfl))))
      (pss_one (ps_ret (pe_tup (pa_cons (pe_op (op_fdivP hr hP rfl rfl rfl (by decide)) (pv 0) (pv 2)) (pa_cons (pe_op (op_fdivP hr hP rfl rfl rfl (by decide)) (pv 1) (pv 2)) pa_nil))))))), ?_⟩
    refine ⟨_, rfl, _, rfl, _, _, rfl, ?_⟩
    refine ⟨fun mm σ H2 => ∃ (x y : Nat), mm = y ∧ σ = [some (.int u), some (.int l), some (.int x), some (.int y)] ∧ H2 = H ∧ Nat.gcd x y = Nat.gcd u l, ⟨_, u, l, rfl, rfl, rfl, rfl⟩, ?_⟩
    rintro y σ H2 ⟨x, _, rfl, rfl, rfl, hg⟩
    refine ⟨_, rfl, _, _, rfl, rfl, _, rfl, ?_⟩
    by_cases hy : y = 0
    · subst hy
      refine iteB (by simp) ?_
      rw [Nat.gcd_zero_right] at hg
      subst hg
      have hG : 0 < Nat.gcd u l := Nat.gcd_pos_of_pos_right _ hl
      refine ⟨_, rfl, _, rfl, _, _, rfl, rfl, (by show (0 : Int) < _; omega), _, rfl, _, rfl, _, _, rfl, rfl, (by show (0 : Int) < _; omega), (by show 2 ≤ sizeLine; decide), fun t ht => ?_⟩
      have k' := k t ht
      unfold shN lowN at k'
      rw [Int.natCast_ediv, Int.natCast_ediv] at k'
      exact k'
    · refine iteBT (by simp; omega) ⟨_, fun _ _ h => h, ?_⟩
      refine ⟨_, rfl, _, rfl, _, rfl, _, _, rfl, rfl, (by show (0 : Int) < (y : Int); omega), _, _, rfl, ?_⟩
      exact ⟨x % y, Nat.mod_lt _ (by omega), y, x % y, rfl, (by rw [← nat_mod]; rfl), rfl, by rw [gcd_step]; exact hg⟩
theorem ok_times {f : Addr} {fd : FuncData} (F : Fun K "_law_times_both" "_law_times_both" s_L_times_both f fd) (Z : Zb mg) (G_L_lowest : FnIn P w K mg base 40 "_law_lowest" ps_L_lowest spLowN) : FnOk P w K mg base CX0 41 f fd ps_L_times_both (spTimes K) := by
  refine F.ok sc_L_times_both (fun vs H Q E h => ?_) (fun cdv A outer s H vs Q E hr h => ?_)
  · obtain ⟨v, u, s', t, n, m, rfl, _⟩ := h
    rfl
  · obtain ⟨v, u, s', t, n, m, rfl, d1, d2, h1, h2, b1, b2, hn, hm, k⟩ := h
    obtain ⟨t1, rfl, q1⟩ := IsSh.of d1
    obtain ⟨t2, rfl, q2⟩ := IsSh.of d2
    refine ⟨_, (pss_one (ps_ret (pe_fn G_L_lowest hr rfl (pa_cons (pe_op op_mulG (pe_ix ix_tup (pv 0) pe_int (fun _ _ => rfl)) (pe_ix ix_tup (pv 1) pe_int (fun _ _ => rfl))) (pa_cons (pe_op op_mulG (pe_ix ix_tup (pv 0) pe_int (fun _ _ => rfl)) (pe_ix ix_tup (pv 1) pe_int (fun _ _ => rfl))) pa_nil))))), ?_⟩
    have l1 := b1.lt hn
    have l2 := b2.lt hm
    exact ⟨_, rfl, t1, _, _, _, rfl, rfl, q1, rfl, _, rfl, t2, _, _, _, rfl, rfl, q2, rfl, _, _, rfl, rfl, ⟨l1.1, l2.1⟩, _, rfl, t1, _, _, _, rfl, rfl, q1, rfl, _, rfl, t2, _, _, _, rfl, rfl, q2, rfl, _, _, rfl, rfl, ⟨l1.2, l2.2⟩, s'.1 * t.1, s'.2 * t.2, by rw [Int.natCast_mul, Int.natCast_mul]; rfl, Nat.mul_pos h1.pos h2.pos, k⟩
theorem ok_lsum {f : Addr} {fd : FuncData} (F : Fun K "_law_sum" "_law_sum" s_L_sum f fd) (Z : Zb mg) (G_L_lowest : FnIn P w K mg base 40 "_law_lowest" ps_L_lowest spLowN) : FnOk P w K mg base CX0 41 f fd ps_L_sum (spLSum K) := by
  refine F.ok sc_L_sum (fun vs H Q E h => ?_) (fun cdv A outer s H vs Q E hr h => ?_)
  · obtain ⟨a, xs, ss, n, rfl, _⟩ := h
    rfl
  · obtain ⟨a, xs, ss, n, rfl, ha, hx, hok, hn, hn2, k⟩ := h
    refine ⟨_, (pss_cons (ps_set (i := 1) sc_L_sum.nd rfl (by first | exact Or.inl rfl | exact Or.inr rfl) (pe_tup (pa_cons pe_int (pa_cons pe_int pa_nil))))
      (pss_cons (ps_for PassesOwn.never rfl (pi_list (pv 0)) (pg_tup rfl (pgs_cons (pg_name (i := 2) sc_L_sum.nd rfl (by first | exact Or.inl rfl | exact Or.inr rfl)) (pgs_cons (pg_name (i := 3) sc_L_sum.nd rfl (by first | exact Or.inl rfl | exact Or.inr rfl)) pgs_nil))) (pss_one (ps_set (i := 1) sc_L_sum.nd rfl (by first | exact Or.inl rfl | exact Or.inr rfl) (pe_fn G_L_lowest hr rfl (pa_cons (pe_op op_add (pe_op op_mulG (pe_ix ix_tup (pv 1) pe_int (fun _ _ => rfl)) (pv 3)) (pe_op op_mulG (pv 2) (pe_ix ix_tup (pv 1) pe_int (fun _ _ => rfl)))) (pa_cons (pe_op op_mulG (pe_ix ix_tup (pv 1) pe_int (fun _ _ => rfl)) (pv 3)) pa_nil))))))
      (pss_one (ps_ret (pv 1))))), ?_⟩
    have hxl := DpAll.len hx
    rw [List.length_map] at hxl
    refine ⟨(by show 2 ≤ sizeLine; decide), fun t0 ht0 => ?_⟩
    have s1 := same_new ht0 (.tup [.int 0, .int 1])
    have g1 : upd H t0 (.tup [.int 0, .int 1]) t0 = some (.tup [.int 0, .int 1]) := upd_same
    generalize upd H t0 (.tup [.int 0, .int 1]) = H1 at s1 g1 ⊢
    refine ⟨_, rfl, a, rfl, ⟨xs, sql_sm ha s1⟩, for_list (K := K) (a := a) (xs := xs) (fun i σ H2 => ∃ (t : Addr) (o2 o3 : Option V), σ = [some (.ref a), some (.ref t), o2, o3] ∧ Same H H2 ∧ H2 t = some (shN (lsum (ss.take i)))) ⟨t0, _, _, rfl, s1, g1⟩ (fun i σ H2 _ ⟨_, _, _, _, q, _⟩ => sql_sm ha q) ?_ ?_⟩
    · rintro i x σ H2 hx2 ⟨t, o2, o3, rfl, s2, g2⟩
      obtain ⟨sh, hsh, dx⟩ := get_dat hx hx2
      have hil := lt_of_get hsh
      obtain ⟨t1, rfl, q1⟩ := IsSh.of (Dp.kt (kt_same s2) _ _ (s2D_tp _) dx)
      have ho := hok sh (List.mem_of_getElem? hsh)
      obtain ⟨l1, l2⟩ := lsum_ok hok i (by omega)
      have hb : (n + 1) * i < 27000 := Nat.lt_of_le_of_lt (Nat.mul_le_mul_left _ (by omega)) hn2
      have b1 := l2.lt hb
      have b2 := ho.2.lt hn
      have e1 := lsum_snoc hsh
      generalize lsum (ss.take i) = ac at g2 l1 l2 b1 e1
      have q2 : SqT K H2 t [V.int ac.1, V.int ac.2] := SqT.of g2
      refine ⟨t1, _, rfl, q1, rfl, _, _, rfl, _, _, rfl, rfl, ?_⟩
      refine ⟨_, rfl, t, _, _, _, rfl, rfl, q2, rfl, _, rfl, _, _, rfl, rfl, ⟨b1.1, b2.2⟩, _, rfl, _, rfl, t, _, _, _, rfl, rfl, q2, rfl, _, _, rfl, rfl, ⟨b2.1, b1.2⟩, _, _, rfl, rfl, _, rfl, t, _, _, _, rfl, rfl, q2, rfl, _, rfl, _, _, rfl, rfl, ⟨b1.2, b2.2⟩, ac.1 * sh.2 + sh.1 * ac.2, ac.2 * sh.2, (by rw [Int.natCast_add, Int.natCast_mul, Int.natCast_mul, Int.natCast_mul]; rfl), Nat.mul_pos l1.pos ho.1.pos, fun t3 ht3 => ?_⟩
      have s3 := same_new ht3 (shN (lowN (ac.1 * sh.2 + sh.1 * ac.2) (ac.2 * sh.2)))
      have g3 : upd H2 t3 (shN (lowN (ac.1 * sh.2 + sh.1 * ac.2) (ac.2 * sh.2))) t3 = some (shN (lowN (ac.1 * sh.2 + sh.1 * ac.2) (ac.2 * sh.2))) := upd_same
      generalize upd H2 t3 (shN (lowN (ac.1 * sh.2 + sh.1 * ac.2) (ac.2 * sh.2))) = H3 at s3 g3 ⊢
      refine ⟨t3, _, _, rfl, s2.trans s3, ?_⟩
      rw [e1]
      exact g3
    · rintro σ H2 ⟨t, o2, o3, rfl, s2, g2⟩
      rw [hxl, List.take_length] at g2
      exact ⟨_, rfl, k t H2 s2 g2⟩
end
end My
set_option Elab.async false
set_option maxRecDepth 100000
set_option linter.all false
namespace My
open PySem L2
section
variable {P : Program} {w : World} {K : PySem.W.Frag} {mg : Str → Option Value} {base : Heap}
set_option maxHeartbeats 4000000 in
theorem ok_lon (n : Nat) {f : Addr} {fd : FuncData} (F : Fun K "_law_on" "_law_on" s_L_on f fd) (Z : Zb mg) (G_L_value : FnIn P w K mg base (n + 1) "_law_value" ps_L_value (spLVal K n)) (hn : n + 1 ≤ 40) (G_L_lowest : FnIn P w K mg base 40 "_law_lowest" ps_L_lowest spLowN) : FnOk P w K mg base CX0 41 f fd ps_L_on (spWaysOn K n) := by
  refine F.ok sc_L_on (fun vs H Q E h => ?_) (fun cdv A outer s H vs Q E hr h => ?_)
  · obtain ⟨va, dk, as, kvs, ρ, rfl, _⟩ := h
    rfl
  · obtain ⟨va, dk, as, kvs, ρ, rfl, hva, hdk, hlen, hkn, k⟩ := h
    have hu := hu_of hr
    refine ⟨_, (pss_cons (ps_setLc (i := 2) (own := [("_law_weight", 5), ("_law_worth", 6)]) (g := gTup K 2 (gCons (gName 5) (gCons (gName 6) (gNil)))) (by rfl) sc_L_on.nd rfl rfl (sw_true rfl rfl rfl (by decide +kernel)) (pi_tup (pv 0)) (blkOk_by (own := [("_law_weight", 5), ("_law_worth", 6)]) (N := nm_L_on) (sc := defScope s_L_on) (by decide +kernel)) (fun _ _ _ _ _ => (pg_tup rfl (pgs_cons (pg_name (i := 5) sc_L_on.nd rfl (by first | exact Or.inl rfl | exact Or.inr rfl)) (pgs_cons (pg_name (i := 6) sc_L_on.nd rfl (by first | exact Or.inl rfl | exact Or.inr rfl)) pgs_nil)))) (fun _ _ _ _ _ => pts_nil) (fun _ _ _ _ _ => (pe_fn G_L_value hr rfl (pa_cons (pv 5) (pa_cons (pv 1) pa_nil)))))
      (pss_cons (ps_set (i := 3) sc_L_on.nd rfl (by first | exact Or.inl rfl | exact Or.inr rfl) (pe_lst pa_nil))
      (pss_cons (ps_for PassesOwn.never rfl (pi_enumT (by rfl) Z.enumerate (pa_cons (pv 0) pa_nil)) (pg_tup rfl (pgs_cons (pg_name (i := 4) sc_L_on.nd rfl (by first | exact Or.inl rfl | exact Or.inr rfl)) (pgs_cons (pg_tup rfl (pgs_cons (pg_name (i := 5) sc_L_on.nd rfl (by first | exact Or.inl rfl | exact Or.inr rfl)) (pgs_cons (pg_name (i := 6) sc_L_on.nd rfl (by first | exact Or.inl rfl | exact Or.inr rfl)) pgs_nil))) pgs_nil))) (pss_one (ps_if (pt_cmpR op_gt (pe_ix ix_list (pv 2) (pv 4) (fun _ _ => rfl)) pe_int (nomark _)) (pss_one (ps_expr (pe_bm PySem.F.plainAttrs_list PySem.F.slot_list_append PySem.F.type_list_append mt_append (pv 3) (pa_cons (pe_tup (pa_cons (pe_fn G_L_lowest hr rfl (pa_cons (pe_ix ix_list (pv 2) (pv 4) (fun _ _ => rfl)) (pa_cons (pe_callB (cr_sum rfl) (by rfl) Z.sum (by decide +kernel) (pa_cons (pv 2) pa_nil)) pa_nil))) (pa_cons (pe_fn G_L_value hr rfl (pa_cons (pv 6) (pa_cons (pv 1) pa_nil))) pa_nil))) pa_nil)))) pss_nil)))
      (pss_one (ps_ret (pv 3)))))), ?_⟩
    cases hva with
    | @tup a xs _ hS ha =>
    have hxl : xs.length = as.length := by have := DpAll.len ha; simpa using this
    refine ⟨_, rfl, a, rfl, ⟨xs, hS⟩, fun D hD => ?_⟩
    refine lc_tup (K := K) (a := a) (xs := xs) (fun i H2 => Same H H2 ∧ H2 D = some (.lst ((as.take i).map fun z => V.int (z.1.val ρ)))) ⟨same_new hD _, upd_same⟩ (fun i H2 _ q => sqt_kt hS (kt_same q.1)) ?_ ?_
    · rintro i x H2 hx ⟨s2, d2⟩
      obtain ⟨z, hz, dx⟩ := get_dat ha hx
      have hil := lt_of_get hz
      obtain ⟨t, v1, v2, rfl, hs, e1, e2⟩ := alt_open (Dp.kt (kt_same s2) _ _ (altD_tp z) dx)
      have hk := hkn z (List.mem_of_getElem? hz)
      refine ⟨t, _, rfl, hs, rfl, _, _, rfl, _, _, rfl, rfl, rfl, _, rfl, _, rfl, v1, z.1, dk, kvs, ρ, rfl, e1, hk.1.2, s2 _ _ hdk, hk.1.1, fun H3 s3 => ⟨_, s3 _ _ d2, ?_, same_upd (s2.trans s3) hD _, ?_⟩⟩
      · rw [List.length_map, List.length_take]; exact sz (m := 1000) (by omega)
      · rw [upd_same, take_snoc hz, List.map_append]; rfl
    · rintro H2 ⟨s2, d2⟩
      rw [hxl, List.take_length] at d2
      have hw := whole_int (ρ := ρ) fun z m => (hkn z m).ok
      have d2' : H2 D = some (.lst ((as.map fun z => z.1.val ρ).map V.int)) := by rw [d2, List.map_map]; rfl
      refine ⟨(by show 0 ≤ sizeLine; decide), fun D2 hD2 => ?_⟩
      have s3 := same_new hD2 (.lst [])
      have g3 : upd H2 D2 (.lst []) D2 = some (.lst []) := upd_same
      generalize upd H2 D2 (.lst []) = H3 at s3 g3 ⊢
      have hDD : D ≠ D2 := ne_of_none d2 hD2
      have s03 := s2.trans s3
      have hD2' : H D2 = none := s2.free hD2
      refine ⟨_, rfl, a, xs, rfl, sqt_kt hS (kt_same s03), ?_⟩
      refine for_enumT (K := K) (a := a) (xs := xs) (fun i σ H4 => ∃ (o4 o5 o6 : Option V), σ = [some (.ref a), some (.ref dk), some (.ref D), some (.ref D2), o4, o5, o6] ∧ Same H H4 ∧ KT H3 H4 ∧ H4 D = some (.lst ((as.map fun z => z.1.val ρ).map V.int)) ∧ ∃ us, H4 D2 = some (.lst us) ∧ DpAll K H4 us ((waysP ρ (wholeOf ρ as) (as.take i)).map wyD))
        ⟨_, _, _, rfl, s03, KT.refl _, s3 _ _ d2', [], g3, .nil⟩ (fun i σ H4 _ ⟨_, _, _, _, q, _⟩ => sqt_kt hS (kt_same q)) ?_ ?_
      · rintro i x T σ H4 hx ⟨o4, o5, o6, rfl, s4, kt4, d4, us, hus, hup⟩ hT
        obtain ⟨z, hz, dx⟩ := get_dat ha hx
        have hil := lt_of_get hz
        have gT : upd H4 T (.tup [V.int (i : Nat), x]) T = some (.tup [V.int (i : Nat), x]) := upd_same
        have q4 : Same H4 (upd H4 T (.tup [V.int (i : Nat), x])) := same_new hT _
        generalize upd H4 T (.tup [V.int (i : Nat), x]) = H5 at gT q4 ⊢
        have s5 := s4.trans q4
        obtain ⟨t, v1, v2, rfl, hs, e1, e2⟩ := alt_open (Dp.kt (kt_same s5) _ _ (altD_tp z) dx)
        have hk := hkn z (List.mem_of_getElem? hz)
        have d5 := q4 _ _ d4
        have hus5 := q4 _ _ hus
        have hup5 := all_kt wyD_tp (kt_same q4) hup
        have hW := waysP_snoc (ρ := ρ) (whole := wholeOf ρ as) hz
        have ew : z.1.val ρ = (wOf ρ z : Int) := by have := hk.ok.1.1; unfold wOf; omega
        have hwl := waysP_len (ρ := ρ) (whole := wholeOf ρ as) (as := as.take i)
        have hul := DpAll.len hup
        rw [List.length_map] at hul
        rw [List.length_take] at hwl
        have hix : atI ((as.map fun z => z.1.val ρ).map V.int) ((i : Nat) : Int) = some (.int (wOf ρ z : Int)) := by
          refine at_ofA rfl ?_
          rw [List.getElem?_map, List.getElem?_map, hz, ← ew]; rfl
        refine ⟨T, _, rfl, SqT.of gT, rfl, _, _, rfl, _, _, rfl, t, _, rfl, hs, rfl, _, _, rfl, _, _, rfl, rfl, rfl, ?_⟩
        refine ⟨_, rfl, _, rfl, D, _, _, _, rfl, rfl, SqL.of d5, hix, _, _, rfl, rfl, _, rfl, ite2 (fun c => ?_) (fun c => ?_)⟩
        · have c' : (0 : Int) < (wOf ρ z : Int) := of_decide_eq_true c
          have hne : wOf ρ z ≠ 0 := by omega
          have hwh := whole_ge (ρ := ρ) (List.mem_of_getElem? hz)
          refine ⟨_, rfl, .inl ⟨rfl, _, SqL.of hus5⟩, _, rfl, _, rfl, D, _, _, _, rfl, rfl, SqL.of d5, hix, _, rfl, D, _, rfl, SqL.of d5, wOf ρ z, wholeOf ρ as, by rw [hw]; rfl, by omega, fun u1 hu1 => ?_⟩
          have s6 : Same H5 (upd H5 u1 (shN (lowN (wOf ρ z) (wholeOf ρ as)))) := same_new hu1 _
          have g6 : upd H5 u1 (shN (lowN (wOf ρ z) (wholeOf ρ as))) u1 = some (shN (lowN (wOf ρ z) (wholeOf ρ as))) := upd_same
          generalize upd H5 u1 (shN (lowN (wOf ρ z) (wholeOf ρ as))) = H6 at s6 g6 ⊢
          refine ⟨_, rfl, _, rfl, v2, z.2, dk, kvs, ρ, rfl, e2.kt (kt_same s6), hk.2.2, s6 _ _ (s5 _ _ hdk), hk.2.1, fun H7 s7 => ?_⟩
          refine ⟨(by show 2 ≤ sizeLine; decide), fun u2 hu2 => ?_⟩
          have s8 := same_new hu2 (.tup [.ref u1, .int (z.2.val ρ)])
          have g8 : upd H7 u2 (.tup [.ref u1, .int (z.2.val ρ)]) u2 = some (.tup [.ref u1, .int (z.2.val ρ)]) := upd_same
          generalize upd H7 u2 (.tup [.ref u1, .int (z.2.val ρ)]) = H8 at s8 g8 ⊢
          have s58 := (s6.trans s7).trans s8
          have hus8 := s58 _ _ hus5
          have kk : KT H8 (upd H8 D2 (.lst (us ++ [.ref u2]))) := kt_lst hus8 _
          refine ⟨D2, _, _, rfl, rfl, hus8, sz (m := 1000) (by omega), _, _, _, rfl, same_upd (s5.trans s58) hD2' _, (kt4.trans ((kt_same q4).trans (kt_same s58))).trans kk, by rw [upd_ne hDD]; exact s58 _ _ d5, us ++ [.ref u2], upd_same, ?_⟩
          rw [hW, if_neg hne, List.map_append]
          refine DpAll.app (all_kt wyD_tp ((kt_same s58).trans kk) hup5) (.cons ?_ .nil)
          refine Dp.kt kk _ _ (wyD_tp _) ?_
          exact .tup (SqT.of g8) (.cons (sh_dp (s8 _ _ (s7 _ _ g6))) (.cons (.int _) .nil))
        · have he : wOf ρ z = 0 := by
            by_cases e0 : wOf ρ z = 0
            · exact e0
            · exact absurd (decide_eq_true (show (0 : Int) < (wOf ρ z : Int) by omega)) c
          exact ⟨_, _, _, rfl, s5, kt4.trans (kt_same q4), d5, us, hus5, by rw [hW, if_pos he, List.append_nil]; exact hup5⟩
      · rintro σ H4 ⟨o4, o5, o6, rfl, s4, kt4, d4, us, hus, hup⟩
        rw [hxl, List.take_length] at hup
        exact ⟨_, rfl, k D2 us H4 hD2' s4 hus hup⟩
end
end My
set_option Elab.async false
set_option maxRecDepth 100000
set_option linter.all false
namespace My
open PySem L2
theorem pairs_of {α β : Type} {R : α → β → Prop} : ∀ {xs : List α} {ys : List β}, xs.length = ys.length → (∀ (j : Nat) (x : α) (y : β), xs[j]? = some x → ys[j]? = some y → R x y) → Paired R xs ys
  | [], [], _, _ => .nil
  | x :: xs, y :: ys, h, hr => .cons (hr 0 x y rfl rfl) (pairs_of (by simpa using h) fun j a b ha hb => hr (j + 1) a b ha hb)
  | [], _ :: _, h, _ => by simp at h
  | _ :: _, [], h, _ => by simp at h
section
variable {P : Program} {w : World} {K : PySem.W.Frag} {mg : Str → Option Value} {base : Heap}
set_option maxHeartbeats 4000000 in
theorem ok_lch (n : Nat) {f : Addr} {fd : FuncData} (F : Fun K "_law_choices" "_law_choices" s_L_choices f fd) (Z : Zb mg) (G_L_times_both : FnIn P w K mg base 41 "_law_times_both" ps_L_times_both (spTimes K)) (G_L_on : FnIn P w K mg base 41 "_law_on" ps_L_on (spWaysOn K n)) : FnOk P w K mg base CX0 42 f fd ps_L_choices (spWays K n) := by
  refine F.ok sc_L_choices (fun vs H Q E h => ?_) (fun cdv A outer s H vs Q E hr h => ?_)
  · obtain ⟨b, t0, rest, us, rfl, _⟩ := h
    rfl
  · obtain ⟨b, t0, rest, us, rfl, hb, ht0, hus, k⟩ := h
    have hu := hu_of hr
    refine ⟨_, (pss_cons (ps_set (i := 1) sc_L_choices.nd rfl (by first | exact Or.inl rfl | exact Or.inr rfl) (pe_lst (pa_cons (pe_tup (pa_cons (pe_tup (pa_cons pe_int (pa_cons pe_int pa_nil))) (pa_cons (pe_tup pa_nil) pa_nil))) pa_nil)))
      (pss_cons (ps_for PassesOwn.never rfl (pi_tup (pe_ix ix_tup (pv 0) pe_int (fun _ _ => rfl))) (pg_tup rfl (pgs_cons (pg_name (i := 2) sc_L_choices.nd rfl (by first | exact Or.inl rfl | exact Or.inr rfl)) (pgs_cons (pg_name (i := 3) sc_L_choices.nd rfl (by first | exact Or.inl rfl | exact Or.inr rfl)) pgs_nil))) (pss_cons (ps_set (i := 4) sc_L_choices.nd rfl (by first | exact Or.inl rfl | exact Or.inr rfl) (pe_lst pa_nil))
      (pss_cons (ps_for PassesOwn.never rfl (pi_list (pv 1)) (pg_tup rfl (pgs_cons (pg_name (i := 5) sc_L_choices.nd rfl (by first | exact Or.inl rfl | exact Or.inr rfl)) (pgs_cons (pg_name (i := 6) sc_L_choices.nd rfl (by first | exact Or.inl rfl | exact Or.inr rfl)) pgs_nil))) (pss_cons (ps_set (i := 7) sc_L_choices.nd rfl (by first | exact Or.inl rfl | exact Or.inr rfl) (pe_callTy (call_dictP rfl) (by rfl) Z.dict (by decide +kernel) (pa_cons (pe_listzipG rfl rfl Z.list rfl Z.zip (pa_cons (pe_lc (own := [("_law_name", 10), ("_law_other", 11)]) (g := gTup K 2 (gCons (gName 10) (gCons (gName 11) (gNil)))) (by rfl) sc_L_choices.nd (pi_tup (pe_ix ix_tup (pv 0) pe_int (fun _ _ => rfl))) (blkOk_by (own := [("_law_name", 10), ("_law_other", 11)]) (N := nm_L_choices) (sc := defScope s_L_choices) (by decide +kernel)) (fun _ _ _ _ _ => (pg_tup rfl (pgs_cons (pg_name (i := 10) sc_L_choices.nd rfl (by first | exact Or.inl rfl | exact Or.inr rfl)) (pgs_cons (pg_name (i := 11) sc_L_choices.nd rfl (by first | exact Or.inl rfl | exact Or.inr rfl)) pgs_nil)))) (fun _ _ _ _ _ => pts_nil) (fun _ _ _ _ _ => (pv 10))) (pa_cons (pv 6) pa_nil))) pa_nil)))
      (pss_one (ps_expr (pe_bm PySem.F.plainAttrs_list PySem.F.slot_list_extend PySem.F.type_list_extend mt_extend (pv 4) (pa_cons (pe_lc (own := [("_law_more", 8), ("_law_worth", 9)]) (g := gTup K 2 (gCons (gName 8) (gCons (gName 9) (gNil)))) (by rfl) sc_L_choices.nd (pi_list (pe_fn G_L_on hr rfl (pa_cons (pv 3) (pa_cons (pv 7) pa_nil)))) (blkOk_by (own := [("_law_more", 8), ("_law_worth", 9)]) (N := nm_L_choices) (sc := defScope s_L_choices) (by decide +kernel)) (fun _ _ _ _ _ => (pg_tup rfl (pgs_cons (pg_name (i := 8) sc_L_choices.nd rfl (by first | exact Or.inl rfl | exact Or.inr rfl)) (pgs_cons (pg_name (i := 9) sc_L_choices.nd rfl (by first | exact Or.inl rfl | exact Or.inr rfl)) pgs_nil)))) (fun _ _ _ _ _ => pts_nil) (fun _ _ _ _ _ => (pe_tup (pa_cons (pe_fn G_L_times_both hr rfl (pa_cons (pv 5) (pa_cons (pv 8) pa_nil))) (pa_cons (pe_op (op_catNK (K := K) rfl) (pv 6) (pe_tup (pa_cons (pv 9) pa_nil))) pa_nil))))) pa_nil))))))
      (pss_one (ps_set (i := 1) sc_L_choices.nd rfl (by first | exact Or.inl rfl | exact Or.inr rfl) (pv 4))))))
      (pss_one (ps_ret (pv 1))))), ?_⟩
    cases ht0 with
    | @tup a0 xs _ hS ha =>
    have hxl : xs.length = us.length := by have := DpAll.len ha; simpa using this
    have h6 := hus.few
    refine ⟨(by show 2 ≤ sizeLine; decide), fun z1 hz1 => ?_⟩
    have s1 := same_new hz1 (.tup [.int 1, .int 1])
    have g1 : upd H z1 (.tup [.int 1, .int 1]) z1 = some (.tup [.int 1, .int 1]) := upd_same
    generalize upd H z1 (.tup [.int 1, .int 1]) = H1 at s1 g1 ⊢
    refine ⟨(by show 0 ≤ sizeLine; decide), fun e0 he0 => ?_⟩
    have s2 := same_new he0 (.tup [])
    have g2 : upd H1 e0 (.tup []) e0 = some (.tup []) := upd_same
    generalize upd H1 e0 (.tup []) = H2 at s2 g2 ⊢
    refine ⟨(by show 2 ≤ sizeLine; decide), fun e1 he1 => ?_⟩
    have s3 := same_new he1 (.tup [.ref z1, .ref e0])
    have g3 : upd H2 e1 (.tup [.ref z1, .ref e0]) e1 = some (.tup [.ref z1, .ref e0]) := upd_same
    generalize upd H2 e1 (.tup [.ref z1, .ref e0]) = H3 at s3 g3 ⊢
    refine ⟨(by show 1 ≤ sizeLine; decide), fun W0 hW0 => ?_⟩
    have s4 := same_new hW0 (.lst [.ref e1])
    have g4 : upd H3 W0 (.lst [.ref e1]) W0 = some (.lst [.ref e1]) := upd_same
    generalize upd H3 W0 (.lst [.ref e1]) = H4 at s4 g4 ⊢
    have s04 := ((s1.trans s2).trans s3).trans s4
    have p4 : WAt K H4 [V.ref e1] (waysF (us.map (·.1)) (us.take 0)) := .cons ⟨e1, .ref z1, e0, rfl, s4 _ _ g3, sh_dp (s := (1, 1)) (s4 _ _ (s3 _ _ (s2 _ _ g1))), s4 _ _ (s3 _ _ g2)⟩ .nil
    refine ⟨_, rfl, b, _, _, _, rfl, rfl, sqt_kt hb (kt_same s04), at_ofA (j := 0) rfl rfl, a0, rfl, ⟨xs, sqt_kt hS (kt_same s04)⟩, for_tup (K := K) (a := a0) (xs := xs) (fun i σ H5 => ∃ (Wd : Addr) (ws : List V) (o2 o3 o4 o5 o6 o7 : Option V), σ = [some (.ref b), some (.ref Wd), o2, o3, o4, o5, o6, o7, none, none, none, none] ∧ Same H H5 ∧ H Wd = none ∧ H5 Wd = some (.lst ws) ∧ WAt K H5 ws (waysF (us.map (·.1)) (us.take i)))
        ⟨W0, _, _, _, _, _, _, _, rfl, s04, ((s1.trans s2).trans s3).free hW0, g4, p4⟩ (fun i σ H5 _ ⟨_, _, _, _, _, _, _, _, _, q, _⟩ => sqt_kt hS (kt_same q)) ?_ ?_⟩
    · rintro i x σ H5 hx ⟨Wd, ws, o2, o3, o4, o5, o6, o7, rfl, s5, fr, w5, p5⟩
      have hil := lt_of_get hx
      obtain ⟨u, hu1, dx⟩ := get_dat ha hx
      obtain ⟨t, va, rfl, hs, hva⟩ := unk_open (Dp.kt (kt_same s5) _ _ (unkD_tp u) dx)
      have hW := waysF_ok hus i (by omega)
      have hF := waysF_few hus (i := i) (by omega)
      have hu2 := (hus.alt i u hu1).1
      have eW := waysF_snoc (names := us.map (·.1)) hu1
      generalize waysF (us.map (·.1)) (us.take i) = W at p5 hW hF eW
      have hwl := WAt.len p5
      refine ⟨t, _, rfl, hs, rfl, _, _, rfl, _, _, rfl, rfl, ?_⟩
      refine ⟨(by show 0 ≤ sizeLine; decide), fun Lg hLg => ?_⟩
      have s6 := same_new hLg (.lst [])
      have g6 : upd H5 Lg (.lst []) Lg = some (.lst []) := upd_same
      generalize upd H5 Lg (.lst []) = H6 at s6 g6 ⊢
      have hLW : Wd ≠ Lg := ne_of_none w5 hLg
      refine ⟨_, rfl, Wd, rfl, ⟨ws, SqL.of (s6 _ _ w5)⟩, for_list (K := K) (a := Wd) (xs := ws) (fun j σ H7 => ∃ (o5 o6 o7 : Option V), σ = [some (.ref b), some (.ref Wd), some (.str u.1), some va, some (.ref Lg), o5, o6, o7, none, none, none, none] ∧ Same H5 H7 ∧ ∃ ys, H7 Lg = some (.lst ys) ∧ WAt K H7 ys (wayStep (us.map (·.1)) u.2 (W.take j)))
        ⟨_, _, _, rfl, s6, [], g6, .nil⟩ (fun j σ H7 _ ⟨_, _, _, _, q, _⟩ => SqL.of (q _ _ w5)) ?_ ?_⟩
      · rintro j y σ H7 hy ⟨o5, o6, o7, rfl, s7, ys, hys, pys⟩
        have hjl := lt_of_get hy
        obtain ⟨q, hq, dy⟩ := WAt.get p5 hy
        have hqo := hW.1 q (List.mem_of_getElem? hq)
        obtain ⟨t1, sv, tv, rfl, hs1, hsv, htv⟩ := dy.kl (kl_same s7)
        have s07 := s5.trans s7
        have hkn := hus.kn hu1 hqo
        have hyl := WAt.len pys
        have hwl2 := wayStep_len (names := us.map (·.1)) (as := u.2) (W := W.take j)
        rw [List.length_take] at hwl2
        have hys4 : ys.length ≤ 4 * 4096 := by
          rw [hyl]
          exact Nat.le_trans hwl2 (Nat.mul_le_mul hu2 (by omega))
        have e1' : wayStep (us.map (·.1)) u.2 (W.take (j + 1)) = wayStep (us.map (·.1)) u.2 (W.take j) ++ stepOf (us.map (·.1)) u.2 q := by
          rw [take_snoc hq]
          unfold wayStep
          rw [List.flatMap_append]
          simp
        refine ⟨t1, _, rfl, SqT.of hs1, rfl, _, _, rfl, _, _, rfl, rfl, ?_⟩
        refine ⟨_, rfl, b, _, _, _, rfl, rfl, sqt_kt hb (kt_same s07), at_ofA (j := 0) rfl rfl, a0, rfl, ⟨xs, sqt_kt hS (kt_same s07)⟩, fun N hN => ?_⟩
        refine lc_tup (K := K) (a := a0) (xs := xs) (fun i H8 => Same H7 H8 ∧ H8 N = some (.lst ((us.take i).map fun u => V.str u.1))) ⟨same_new hN _, upd_same⟩ (fun i H8 _ q => sqt_kt hS (kt_same (s07.trans q.1))) ?_ ?_
        · rintro i2 x2 H8 hx2 ⟨s8, d8⟩
          obtain ⟨u2, hu3, dx2⟩ := get_dat ha hx2
          have hil2 := lt_of_get hu3
          obtain ⟨t2, va2, rfl, hs2, _⟩ := unk_open (Dp.kt (kt_same (s07.trans s8)) _ _ (unkD_tp u2) dx2)
          refine ⟨t2, _, rfl, hs2, rfl, _, _, rfl, _, _, rfl, rfl, rfl, _, rfl, _, d8, ?_, same_upd s8 hN _, ?_⟩
          · rw [List.length_map, List.length_take]; exact sz (m := 1000) (by omega)
          · rw [upd_same, take_snoc hu3, List.map_append]; rfl
        · rintro H8 ⟨s8, d8⟩
          rw [hxl, List.take_length] at d8
          have s78 := s7.trans s8
          refine ⟨_, rfl, false, true, N, tv, _, _, rfl, SqL.of d8, SqT.of (s8 _ _ htv), fun zl Ts H9 hzl hTl s9 g9 hT9 => ?_⟩
          have hpr : Paired (fun p (kv : Key × V) => SqT K H9 p [kV kv.1, kv.2]) Ts (((us.map (·.1)).map (fun x => (Sum.inr x : Key))).zip (q.2.map V.int)) := by
            refine pairs_of ?_ fun jj T kv hT hkv => ?_
            · rw [hTl, List.length_zip, List.length_map, List.length_map, List.length_map, List.length_map]
            · obtain ⟨h1, h2⟩ := List.getElem?_zip_eq_some.mp hkv
              rw [List.getElem?_map, List.getElem?_map] at h1
              cases eu : us[jj]? with
              | none => rw [eu] at h1; cases h1
              | some u3 =>
                rw [eu] at h1
                have h1' : kv.1 = Sum.inr u3.1 := (Option.some.inj h1).symm
                rw [h1']
                refine SqT.of (hT9 jj T _ _ hT ?_ h2)
                rw [List.getElem?_map, eu]; rfl
          refine ⟨zl, Ts, _, rfl, SqL.of g9, hpr, fun dk hdk => ?_⟩
          have s10 : Same H9 (upd H9 dk (.dK (kvZ (us.map (·.1)) q.2))) := same_new hdk _
          have g10 : upd H9 dk (.dK (kvZ (us.map (·.1)) q.2)) dk = some (.dK (kvZ (us.map (·.1)) q.2)) := upd_same
          generalize hH10 : upd H9 dk (.dK (kvZ (us.map (·.1)) q.2)) = H10 at s10 g10
          have hH10' : upd H9 dk (.dK (mergeK [] (((us.map (·.1)).map (fun x => (Sum.inr x : Key))).zip (q.2.map V.int)))) = H10 := hH10
          rw [hH10']
          have s710 := (s8.trans s9).trans s10
          have s510 := s7.trans s710
          refine ⟨_, rfl, .inl ⟨rfl, _, SqL.of (s710 _ _ hys)⟩, _, rfl, _, rfl, va, dk, u.2, _, _, rfl, Dp.kt (kt_same s510) _ _ (alts_tp u.2) hva, g10, by omega, hkn, fun L us' H11 hL s11 g11 d11 => ⟨L, rfl, ⟨us', SqL.of g11⟩, fun E1 hE1 => ?_⟩⟩
          have hal := waysP_len (ρ := envOf (kvZ (us.map (·.1)) q.2)) (whole := wholeOf (envOf (kvZ (us.map (·.1)) q.2)) u.2) (as := u.2)
          have hok := waysA_ok (fun a ha => (hkn a ha).ok) (n := 12) (show 999 * u.2.length ≤ 4096 by omega)
          have est : stepOf (us.map (·.1)) u.2 q = (waysA (envOf (kvZ (us.map (·.1)) q.2)) u.2).map (fun p => (mulN q.1 p.1, q.2 ++ [p.2])) := rfl
          generalize hps : waysA (envOf (kvZ (us.map (·.1)) q.2)) u.2 = ps at d11 hok est
          have hpl : ps.length ≤ 4 := by rw [← hps]; exact Nat.le_trans hal hu2
          have hul := DpAll.len d11
          rw [List.length_map] at hul
          have s711 := s710.trans s11
          have hLE : L ≠ E1 := ne_of_none g11 hE1
          have h12 : 12 * i < 27000 := by omega
          refine lc_list (K := K) (a := L) (xs := us') (fun k2 H12 => Same H11 H12 ∧ ∃ zs, H12 E1 = some (.lst zs) ∧ WAt K H12 zs ((ps.take k2).map (fun p => (mulN q.1 p.1, q.2 ++ [p.2])))) ⟨same_new hE1 _, [], upd_same, .nil⟩ (fun k2 H12 _ q => SqL.of (q.1 _ _ g11)) ?_ ?_
          · rintro k2 z H12 hz ⟨s12, zs, hzs, pzs⟩
            obtain ⟨p, hp, dz⟩ := get_dat d11 hz
            have hkl := lt_of_get hp
            have hpo := hok p (List.mem_of_getElem? hp)
            obtain ⟨t2, pv2, rfl, hs2, hpv⟩ := wy_open (Dp.kt (kt_same s12) _ _ (wyD_tp p) dz)
            have s712 := s711.trans s12
            have hsv7 : Dp K H12 sv (s2D q.1) := Dp.kt (kt_same s712) _ _ (s2D_tp _) hsv
            have htv7 := s712 _ _ htv
            have hzl2 := WAt.len pzs
            rw [List.length_map, List.length_take] at hzl2
            refine ⟨t2, _, rfl, hs2, rfl, _, _, rfl, _, _, rfl, rfl, rfl, ?_⟩
            refine ⟨_, rfl, _, rfl, sv, pv2, q.1, p.1, _, _, rfl, hsv7, hpv, hqo.sh, hpo.1, hqo.bd, hpo.2.1, h12, (by decide), fun m1 hm1 => ?_⟩
            have s13 := same_new hm1 (shN (mulN q.1 p.1))
            have g13 : upd H12 m1 (shN (mulN q.1 p.1)) m1 = some (shN (mulN q.1 p.1)) := upd_same
            generalize upd H12 m1 (shN (mulN q.1 p.1)) = H13 at s13 g13 ⊢
            refine ⟨_, rfl, _, rfl, (by show 1 ≤ sizeLine; decide), fun m2 hm2 => ?_⟩
            have s14 := same_new hm2 (.tup [.int p.2])
            have g14 : upd H13 m2 (.tup [.int p.2]) m2 = some (.tup [.int p.2]) := upd_same
            generalize upd H13 m2 (.tup [.int p.2]) = H14 at s14 g14 ⊢
            refine ⟨tv, m2, _, _, rfl, rfl, SqT.of (s14 _ _ (s13 _ _ htv7)), g14, by simp, ?_, fun m3 H15 g15 s15 => ?_⟩
            · rw [List.length_map, hqo.len]
              exact szl (m := 100) (by show i + 1 ≤ 100; omega)
            refine ⟨(by show 2 ≤ sizeLine; decide), fun m4 hm4 => ?_⟩
            have s16 := same_new hm4 (.tup [.ref m1, .ref m3])
            have g16 : upd H15 m4 (.tup [.ref m1, .ref m3]) m4 = some (.tup [.ref m1, .ref m3]) := upd_same
            generalize upd H15 m4 (.tup [.ref m1, .ref m3]) = H16 at s16 g16 ⊢
            have s1216 := ((s13.trans s14).trans s15).trans s16
            have hzs16 := s1216 _ _ hzs
            have kk : KL H16 (upd H16 E1 (.lst (zs ++ [.ref m4]))) := kl_lst hzs16 _
            refine ⟨zs, hzs16, sz (m := 20000) (by omega), same_upd (s12.trans s1216) hE1 _, zs ++ [.ref m4], upd_same, ?_⟩
            rw [take_snoc hp, List.map_append]
            refine WAt.app (pzs.kl ((kl_same s1216).trans kk)) (.cons (WayAt.kl ⟨m4, .ref m1, m3, rfl, g16, sh_dp (s16 _ _ (s15 _ _ (s14 _ _ g13))), ?_⟩ kk) .nil)
            rw [List.map_append]
            exact s16 _ _ g15
          · rintro H12 ⟨s12, zs, hzs, pzs⟩
            rw [hul, List.take_length] at pzs
            have hzl2 := WAt.len pzs
            rw [List.length_map] at hzl2
            have s712 := s711.trans s12
            have hys12 := s712 _ _ hys
            have kk : KL H12 (upd H12 Lg (.lst (ys ++ zs))) := kl_lst hys12 _
            refine ⟨Lg, E1, ys, zs, rfl, rfl, hys12, hzs, szl (m := 20000) (by omega), _, _, _, rfl, same_upd (s7.trans s712) hLg _, ys ++ zs, upd_same, ?_⟩
            rw [e1', est]
            exact WAt.app (pys.kl ((kl_same s712).trans kk)) (pzs.kl kk)
      · rintro σ H7 ⟨o5, o6, o7, rfl, s7, ys, hys, pys⟩
        rw [hwl, List.take_length] at pys
        refine ⟨_, rfl, Lg, ys, _, _, _, _, _, _, rfl, s5.trans s7, s5.free hLg, hys, ?_⟩
        rw [eW]
        exact pys
    · rintro σ H5 ⟨Wd, ws, o2, o3, o4, o5, o6, o7, rfl, s5, fr, w5, p5⟩
      rw [hxl, List.take_length] at p5
      exact ⟨_, rfl, k Wd ws H5 fr s5 w5 p5⟩
end
end My
set_option Elab.async false
set_option maxRecDepth 100000
set_option linter.all false
namespace My
open PySem L2
def okU (ns : List Str) (a : Alt) : Prop := (a.1.okN ns ∧ a.1.depth ≤ 4) ∧ (a.2.okN ns ∧ a.2.depth ≤ 4)
structure UB (us : List Unk) (ws : List Str) : Prop where
  names : us.map (·.1) = ws.take us.length
  alt : ∀ (i : Nat) (u : Unk), us[i]? = some u → u.2.length ≤ 4 ∧ ∀ a : Alt, a ∈ u.2 → okU (ws.take i) a
theorem UB.nil (ws : List Str) : UB [] ws := ⟨rfl, fun i u h => by simp at h⟩
theorem UB.snoc {us : List Unk} {ws : List Str} {as : List Alt} {x : Str} (h : UB us ws) (hx : ws[us.length]? = some x) (ha : as.length ≤ 4) (ho : ∀ a ∈ as, okU (ws.take us.length) a) : UB (us ++ [(x, as)]) ws := by
  refine ⟨?_, fun i u hu => ?_⟩
  · rw [List.map_append, h.names, List.length_append]
    show ws.take us.length ++ [x] = ws.take (us.length + 1)
    rw [take_snoc hx]
  · by_cases hi : i < us.length
    · rw [List.getElem?_append_left hi] at hu
      exact h.alt i u hu
    · rw [List.getElem?_append_right (by omega)] at hu
      have hi2 : i = us.length := by
        have := lt_of_get hu
        simp at this
        omega
      subst hi2
      rw [Nat.sub_self] at hu
      cases hu
      exact ⟨ha, ho⟩
theorem UB.uok {us : List Unk} {ws : List Str} (h : UB us ws) (hl : us.length ≤ 3) : UOk 7 us := by
  refine ⟨by omega, fun i u hu => ⟨(h.alt i u hu).1, fun a ha => ?_⟩⟩
  obtain ⟨⟨h1, h2⟩, h3, h4⟩ := (h.alt i u hu).2 a ha
  have hi := lt_of_get hu
  have e : (us.map (·.1)).take i = ws.take i := by rw [h.names, List.take_take, Nat.min_eq_left (by omega)]
  rw [e]
  exact ⟨⟨Ex.okN.sem (fun _ h => h) h1, by omega⟩, Ex.okN.sem (fun _ h => h) h3, by omega⟩
/-- the lists of the law's unknowns stand, apart from the deal -/
structure UA (H : Hp) (d l fl nl lo al : Addr) (vs vs' : List V) (ns los : List Str) : Prop where
  D : Deal H d l
  f : H fl = some (.lst vs)
  n : H nl = some (.lst (ns.map V.str))
  o : H lo = some (.lst (los.map V.str))
  a : H al = some (.lst vs')
structure UP (d l fl nl lo al : Addr) : Prop where
  fd : fl ≠ d
  fl' : fl ≠ l
  nd : nl ≠ d
  nl' : nl ≠ l
  od : lo ≠ d
  ol : lo ≠ l
  ad : al ≠ d
  al' : al ≠ l
theorem UA.ext {H H' : Hp} {d l fl nl lo al : Addr} {vs vs' : List V} {ns los : List Str} (h : UA H d l fl nl lo al vs vs' ns los) (p : UP d l fl nl lo al) (x : Ext d l H H') (D : Deal H' d l) : UA H' d l fl nl lo al vs vs' ns los :=
  ⟨D, x _ _ h.f p.fd p.fl', x _ _ h.n p.nd p.nl', x _ _ h.o p.od p.ol, x _ _ h.a p.ad p.al'⟩
theorem UA.same {H H' : Hp} {d l fl nl lo al : Addr} {vs vs' : List V} {ns los : List Str} (h : UA H d l fl nl lo al vs vs' ns los) (s : Same H H') : UA H' d l fl nl lo al vs vs' ns los :=
  ⟨h.D.same s, s _ _ h.f, s _ _ h.n, s _ _ h.o, s _ _ h.a⟩
theorem ext_same {H H' : Hp} {d l : Addr} (s : Same H H') : Ext d l H H' := fun b o h _ _ => s b o h
structure UZ (K : PySem.W.Frag) (H0 H : Hp) (d l fl nl lo al : Addr) (vs : List V) (us : List Unk) (ns los : List Str) (vs' : List V) (as : List Alt) : Prop where
  ua : UA H d l fl nl lo al vs vs' ns los
  x : Ext d l H0 H
  du : DpAll K H vs (us.map unkD)
  da : DpAll K H vs' (as.map altD)
theorem UZ.step {K : PySem.W.Frag} {H0 H H' : Hp} {d l fl nl lo al : Addr} {vs : List V} {us : List Unk} {ns los : List Str} {vs' : List V} {as : List Alt} (h : UZ K H0 H d l fl nl lo al vs us ns los vs' as) (p : UP d l fl nl lo al) (x : Ext d l H H') (D : Deal H' d l) : UZ K H0 H' d l fl nl lo al vs us ns los vs' as :=
  ⟨h.ua.ext p x D, h.x.trans x, all_kt unkD_tp (kt_ext x h.ua.D) h.du, all_kt altD_tp (kt_ext x h.ua.D) h.da⟩
theorem UZ.same {K : PySem.W.Frag} {H0 H H' : Hp} {d l fl nl lo al : Addr} {vs : List V} {us : List Unk} {ns los : List Str} {vs' : List V} {as : List Alt} (h : UZ K H0 H d l fl nl lo al vs us ns los vs' as) (p : UP d l fl nl lo al) (s : Same H H') : UZ K H0 H' d l fl nl lo al vs us ns los vs' as :=
  h.step p (ext_same s) (h.ua.D.same s)
theorem Deal.pt {H : Hp} {d l p : Addr} (D : Deal H d l) (nd : p ≠ d) (nl : p ≠ l) (o : HO) : Deal (upd H p o) d l := by
  obtain ⟨b1, b2, b3, b4, b5, b6⟩ := D
  exact ⟨b1, b2, b3, by rw [upd_ne (Ne.symm nd)]; exact b4, by rw [upd_ne (Ne.symm nl)]; exact b5, b6⟩
theorem UZ.app {K : PySem.W.Frag} {H0 H : Hp} {d l fl nl lo al : Addr} {vs : List V} {us : List Unk} {ns los : List Str} {vs' : List V} {as : List Alt} (h : UZ K H0 H d l fl nl lo al vs us ns los vs' as) (p : UP d l fl nl lo al) (h0 : H0 al = none) (n1 : fl ≠ al) (n2 : nl ≠ al) (n3 : lo ≠ al) {v : V} {a : Alt} (hv : Dp K H v (altD a)) :
    UZ K H0 (upd H al (.lst (vs' ++ [v]))) d l fl nl lo al vs us ns los (vs' ++ [v]) (as ++ [a]) := by
  have kk : KT H (upd H al (.lst (vs' ++ [v]))) := kt_lst h.ua.a _
  refine ⟨⟨h.ua.D.pt p.ad p.al' _, by rw [upd_ne n1]; exact h.ua.f, by rw [upd_ne n2]; exact h.ua.n, by rw [upd_ne n3]; exact h.ua.o, upd_same⟩, fun b u q h1 h2 => ?_, all_kt unkD_tp kk h.du, ?_⟩
  · rw [upd_ne (ne_of_none q h0)]; exact h.x b u q h1 h2
  · rw [List.map_append]
    exact DpAll.app (all_kt altD_tp kk h.da) (.cons (Dp.kt kk _ _ (altD_tp a) hv) .nil)
theorem ext_none {H H' : Hp} {d l p : Addr} (x : Ext d l H H') (hp : H' p = Option.none) (nd : p ≠ d) (nl : p ≠ l) : H p = Option.none := by
  cases q : H p with
  | none => rfl
  | some o => rw [x p o q nd nl] at hp; cases hp
def spUnk (K : PySem.W.Frag) : Sp := fun vs H Q _ => ∃ (d l wl : Addr) (ws : List Str), vs = [.ref d, .ref wl] ∧ Deal H d l ∧ Nms H d l wl ws ∧ 3 ≤ ws.length ∧
  ∀ (v : V) (us : List Unk) (H' : Hp), Deal H' d l → Ext d l H H' → Dp K H' v (.tuple (us.map unkD)) → us.length ≤ 3 → UB us ws → Q v H'
section
variable {P : Program} {w : World} {K : PySem.W.Frag} {mg : Str → Option Value} {base : Heap}
set_option maxHeartbeats 8000000 in
theorem ok_lun {f : Addr} {fd : FuncData} (F : Fun K "_law_unknowns" "_law_unknowns" s_L_unknowns f fd) (Z : Zb mg) (G_L_draw : FnIn P w K mg base 1 "_law_draw" ps_L_draw spDraw) (G_L_number : FnIn P w K mg base 2 "_law_number" ps_L_number spNum) (G_L_expr : FnIn P w K mg base 5 "_law_expr" ps_L_expr (spExpr K 3)) (G_L_test : FnIn P w K mg base 6 "_law_test" ps_L_test (spTest K)) : FnOk P w K mg base CX0 7 f fd ps_L_unknowns (spUnk K) := by
  refine F.ok sc_L_unknowns (fun vs H Q E h => ?_) (fun cdv A outer s H vs Q E hr h => ?_)
  · obtain ⟨d, l, wl, ws, rfl, _⟩ := h
    rfl
  · obtain ⟨d, l, wl, ws, rfl, D, N, h3, k⟩ := h
    have hu := hu_of hr
    refine ⟨_, (pss_cons (ps_set (i := 2) sc_L_unknowns.nd rfl (by first | exact Or.inl rfl | exact Or.inr rfl) (pe_lst pa_nil))
      (pss_cons (ps_for PassesOwn.never rfl (pi_range1 (by rfl) Z.range (pa_cons (pe_ix ix_list (pe_lst (pa_cons pe_int (pa_cons pe_int (pa_cons pe_int (pa_cons pe_int pa_nil))))) (pe_fn G_L_draw hr rfl (pa_cons (pv 0) (pa_cons pe_int pa_nil))) (fun _ _ => rfl)) pa_nil)) (pg_name (i := 3) sc_L_unknowns.nd rfl (by first | exact Or.inl rfl | exact Or.inr rfl)) (pss_cons (ps_par (i := 6) (j := 7) (by rfl) sc_L_unknowns.nd rfl rfl (by decide) rfl rfl (pa_cons (pe_lc (own := [("_law_x", 10), ("_law_other", 11)]) (g := gTup K 2 (gCons (gName 10) (gCons (gName 11) (gNil)))) (by rfl) sc_L_unknowns.nd (pi_list (pv 2)) (blkOk_by (own := [("_law_x", 10), ("_law_other", 11)]) (N := nm_L_unknowns) (sc := defScope s_L_unknowns) (by decide +kernel)) (fun _ _ _ _ _ => (pg_tup rfl (pgs_cons (pg_name (i := 10) sc_L_unknowns.nd rfl (by first | exact Or.inl rfl | exact Or.inr rfl)) (pgs_cons (pg_name (i := 11) sc_L_unknowns.nd rfl (by first | exact Or.inl rfl | exact Or.inr rfl)) pgs_nil)))) (fun _ _ _ _ _ => pts_nil) (fun _ _ _ _ _ => (pv 10))) (pa_cons (pe_lst pa_nil) pa_nil)) (by rfl))
      (pss_cons (ps_setLc (i := 4) (own := [("_law_x", 10), ("_law_other", 11)]) (g := gTup K 2 (gCons (gName 10) (gCons (gName 11) (gNil)))) (by rfl) sc_L_unknowns.nd rfl rfl (sw_true rfl rfl rfl (by decide +kernel)) (pi_list (pv 2)) (blkOk_by (own := [("_law_x", 10), ("_law_other", 11)]) (N := nm_L_unknowns) (sc := defScope s_L_unknowns) (by decide +kernel)) (fun _ _ _ _ _ => (pg_tup rfl (pgs_cons (pg_name (i := 10) sc_L_unknowns.nd rfl (by first | exact Or.inl rfl | exact Or.inr rfl)) (pgs_cons (pg_name (i := 11) sc_L_unknowns.nd rfl (by first | exact Or.inl rfl | exact Or.inr rfl)) pgs_nil)))) (fun _ _ _ _ _ => (pts_one (pt_val (pe_callB (cr_allK (K := K) rfl rfl) (by rfl) Z.all (by decide +kernel) (pa_cons (pe_lc (own := [("_law_weight", 8), ("_law_part", 12)]) (g := gTup K 2 (gCons (gName 8) (gCons (gName 12) (gNil)))) (by rfl) sc_L_unknowns.nd ((pi_tupK (K := K) rfl) (pv 11)) (blkOk_by (own := [("_law_weight", 8), ("_law_part", 12)]) (N := nm_L_unknowns) (by show blkC nm_L_unknowns (relS _ (defScope s_L_unknowns)) _ _ = true; decide +kernel)) (fun _ _ _ _ _ => (pg_tup rfl (pgs_cons (pg_name (i := 8) sc_L_unknowns.nd rfl (by first | exact Or.inl rfl | exact Or.inr rfl)) (pgs_cons (pg_name (i := 12) sc_L_unknowns.nd rfl (by first | exact Or.inl rfl | exact Or.inr rfl)) pgs_nil)))) (fun _ _ _ _ _ => pts_nil) (fun _ _ _ _ _ => (pe_and (pe_cmpR op_eq (pe_ix (ix_tupK (K := K) rfl) (pv 12) pe_int (fun _ _ => rfl)) pe_str (nomark _)) (pe_one (pe_cmpR op_lt (pe_ix (ix_tupK (K := K) rfl) (pv 12) pe_int (fun _ _ => rfl)) pe_int (nomark _)))))) pa_nil))))) (fun _ _ _ _ _ => (pv 10)))
      (pss_cons (ps_for PassesOwn.never rfl (pi_range1 (by rfl) Z.range (pa_cons (pe_op op_add pe_int (pe_fn G_L_draw hr rfl (pa_cons (pv 0) (pa_cons pe_int pa_nil)))) pa_nil)) (pg_name (i := 5) sc_L_unknowns.nd rfl (by first | exact Or.inl rfl | exact Or.inr rfl)) (pss_cons (ps_set (i := 8) sc_L_unknowns.nd rfl (by first | exact Or.inl rfl | exact Or.inr rfl) (pe_ix ix_list (pe_lst (pa_cons (pe_tup (pa_cons pe_str (pa_cons (pe_fn G_L_draw hr rfl (pa_cons (pv 0) (pa_cons pe_int pa_nil))) pa_nil))) (pa_cons (pe_tup (pa_cons pe_str (pa_cons (pe_fn G_L_draw hr rfl (pa_cons (pv 0) (pa_cons pe_int pa_nil))) pa_nil))) pa_nil))) (pe_fn G_L_draw hr rfl (pa_cons (pv 0) (pa_cons pe_int pa_nil))) (fun _ _ => rfl)))
      (pss_cons (ps_if (PW.pt (pw_and (pt_cmpR op_gt (pe_callB call_len_seq (by rfl) Z.len (by decide +kernel) (pa_cons (pv 4) pa_nil)) pe_int (nomark _)) (pw_and1 (pt_cmpR op_eq (pe_fn G_L_draw hr rfl (pa_cons (pv 0) (pa_cons pe_int pa_nil))) pe_int (nomark _))))) (pss_one (ps_set (i := 8) sc_L_unknowns.nd rfl (by first | exact Or.inl rfl | exact Or.inr rfl) (pe_tup (pa_cons pe_str (pa_cons (pe_ix ix_list (pv 4) (pe_fn G_L_draw hr rfl (pa_cons (pv 0) (pa_cons (pe_callB call_len_seq (by rfl) Z.len (by decide +kernel) (pa_cons (pv 4) pa_nil)) pa_nil))) (fun _ _ => rfl)) pa_nil))))) pss_nil)
      (pss_cons (ps_if (pt_cmpR op_eq (pe_fn G_L_draw hr rfl (pa_cons (pv 0) (pa_cons pe_int pa_nil))) pe_int (nomark _)) (pss_one (ps_set (i := 8) sc_L_unknowns.nd rfl (by first | exact Or.inl rfl | exact Or.inr rfl) (pe_tup (pa_cons pe_str (pa_cons (pe_fn G_L_test hr rfl (pa_cons (pv 0) (pa_cons (pv 6) pa_nil))) (pa_cons (pv 8) (pa_cons (pe_tup (pa_cons pe_str (pa_cons (pe_fn G_L_draw hr rfl (pa_cons (pv 0) (pa_cons pe_int pa_nil))) pa_nil))) pa_nil))))))) pss_nil)
      (pss_cons (ps_set (i := 9) sc_L_unknowns.nd rfl (by first | exact Or.inl rfl | exact Or.inr rfl) (pe_lst (pa_cons (pe_tup (pa_cons pe_str (pa_cons (pe_fn G_L_draw hr rfl (pa_cons (pv 0) (pa_cons pe_int pa_nil))) pa_nil))) (pa_cons (pe_tup (pa_cons pe_str (pa_cons (pe_fn G_L_number hr rfl (pa_cons (pv 0) pa_nil)) pa_nil))) (pa_cons (pe_fn G_L_expr hr rfl (pa_cons (pv 0) (pa_cons (pv 6) (pa_cons pe_int pa_nil)))) pa_nil)))))
      (pss_one (ps_expr (pe_bm PySem.F.plainAttrs_list PySem.F.slot_list_append PySem.F.type_list_append mt_append (pv 7) (pa_cons (pe_tup (pa_cons (pv 8) (pa_cons (pe_ix ix_list (pv 9) (pe_fn G_L_draw hr rfl (pa_cons (pv 0) (pa_cons pe_int pa_nil))) (fun _ _ => rfl)) pa_nil))) pa_nil)))))))))
      (pss_cons (ps_if (PW.pt (pw_and (pt_cmpR op_eq (pe_callB call_len_seq (by rfl) Z.len (by decide +kernel) (pa_cons (pv 7) pa_nil)) pe_int (nomark _)) (pw_and1 (pt_cmpR op_eq (pe_fn G_L_draw hr rfl (pa_cons (pv 0) (pa_cons pe_int pa_nil))) pe_int (nomark _))))) (pss_one (ps_set (i := 7) sc_L_unknowns.nd rfl (by first | exact Or.inl rfl | exact Or.inr rfl) (pe_lst (pa_cons (pe_tup (pa_cons (pe_tup (pa_cons pe_str (pa_cons (pe_op op_add pe_int (pe_fn G_L_draw hr rfl (pa_cons (pv 0) (pa_cons pe_int pa_nil)))) pa_nil))) (pa_cons (pe_ix ix_tup (pe_ix ix_list (pv 7) pe_int (fun _ _ => rfl)) pe_int (fun _ _ => rfl)) pa_nil))) (pa_cons (pe_tup (pa_cons (pe_tup (pa_cons pe_str (pa_cons (pe_fn G_L_draw hr rfl (pa_cons (pv 0) (pa_cons pe_int pa_nil))) pa_nil))) (pa_cons (pe_ix ix_tup (pe_ix ix_list (pv 7) pe_int (fun _ _ => rfl)) pe_int (fun _ _ => rfl)) pa_nil))) pa_nil))))) pss_nil)
      (pss_one (ps_expr (pe_bm PySem.F.plainAttrs_list PySem.F.slot_list_append PySem.F.type_list_append mt_append (pv 2) (pa_cons (pe_tup (pa_cons (pe_ix ix_list (pv 1) (pv 3) (fun _ _ => rfl)) (pa_cons (pe_callTy call_tuple_of (by rfl) Z.tuple (by decide +kernel) (pa_cons (pv 7) pa_nil)) pa_nil))) pa_nil)))))))))
      (pss_one (ps_ret (pe_callTy call_tuple_of (by rfl) Z.tuple (by decide +kernel) (pa_cons (pv 2) pa_nil)))))), ?_⟩
    refine ⟨(by show 0 ≤ sizeLine; decide), fun fl hfl => ?_⟩
    have s1 := same_new hfl (.lst [])
    have gf : upd H fl (.lst []) fl = some (.lst []) := upd_same
    generalize upd H fl (.lst []) = H1 at s1 gf ⊢
    obtain ⟨fd', fl'⟩ := D.nn hfl
    have D1 := D.same s1
    refine ⟨(by show 4 ≤ sizeLine; decide), fun pl hpl => ?_⟩
    have s2 := same_new hpl (.lst [.int 1, .int 2, .int 3, .int 0])
    have g2 : upd H1 pl (.lst [.int 1, .int 2, .int 3, .int 0]) pl = some (.lst [.int 1, .int 2, .int 3, .int 0]) := upd_same
    generalize upd H1 pl (.lst [.int 1, .int 2, .int 3, .int 0]) = H2 at s2 g2 ⊢
    obtain ⟨np1, np2⟩ := D1.nn hpl
    refine ⟨_, rfl, d, l, 4, rfl, D1.same s2, by decide, by decide, fun r H3 r0 r1 D3 x3 => ?_⟩
    obtain ⟨y, hy, my⟩ := at_get (xs := [V.int 1, V.int 2, V.int 3, V.int 0]) r0 (by show r < 4; omega)
    obtain ⟨m, rfl, m0, m1⟩ : ∃ m, y = .int m ∧ 0 ≤ m ∧ m ≤ 3 := by
      simp only [List.mem_cons, List.not_mem_nil, or_false] at my
      rcases my with rfl | rfl | rfl | rfl <;> exact ⟨_, rfl, by decide, by decide⟩
    have x03 : Ext d l H H3 := (ext_same (s1.trans s2)).trans x3
    refine ⟨pl, _, _, _, rfl, rfl, SqL.of (x3 pl _ g2 np1 np2), hy, _, rfl, by omega, by omega, ?_⟩
    refine for_range (lo := 0) (n := m.toNat) (fun i σ Hi => ∃ (o3 o4 o5 o6 o7 o8 o9 : Option V) (vs : List V) (us : List Unk), σ = [some (.ref d), some (.ref wl), some (.ref fl), o3, o4, o5, o6, o7, o8, o9, none, none, none] ∧ Deal Hi d l ∧ Ext d l H Hi ∧ Hi fl = some (.lst vs) ∧ DpAll K Hi vs (us.map unkD) ∧ us.length = i ∧ UB us ws)
      ⟨_, _, _, _, _, _, _, [], [], rfl, D3, x03, x3 fl _ (s2 _ _ gf) fd' fl', .nil, rfl, UB.nil ws⟩ ?_ ?_
    · rintro i σ Hi hi ⟨o3, o4, o5, o6, o7, o8, o9, vs, us, rfl, Di, xi, gfi, dus, hlen, hub⟩
      have hvl := DpAll.len dus
      rw [List.length_map] at hvl
      refine ⟨_, rfl, fl, rfl, ⟨_, SqL.of gfi⟩, fun nl hnl => ?_⟩
      refine lc_list (K := K) (a := fl) (xs := vs) (fun j Hj => Same Hi Hj ∧ Hj nl = some (.lst ((us.take j).map fun u => V.str u.1))) ⟨same_new hnl _, upd_same⟩ (fun j Hj _ q => SqL.of (q.1 _ _ gfi)) ?_ ?_
      · rintro j x Hj hx ⟨sj, dj⟩
        obtain ⟨u, hu1, dx⟩ := get_dat dus hx
        have hjl := lt_of_get hu1
        obtain ⟨t, va, rfl, hs, _⟩ := unk_open (Dp.kt (kt_same sj) _ _ (unkD_tp u) dx)
        refine ⟨t, _, rfl, hs, rfl, _, _, rfl, _, _, rfl, rfl, rfl, _, rfl, _, dj, ?_, same_upd sj hnl _, ?_⟩
        · rw [List.length_map, List.length_take]; exact sz (m := 1000) (by omega)
        · rw [upd_same, take_snoc hu1, List.map_append]; rfl
      · rintro Hn ⟨sn, gn⟩
        rw [hvl, List.take_length] at gn
        have gn' : Hn nl = some (.lst ((ws.take us.length).map V.str)) := by
          rw [gn, ← hub.names, List.map_map]; rfl
        obtain ⟨nd', nl'⟩ := Di.nn hnl
        have Dn := Di.same sn
        have hfln : fl ≠ nl := ne_of_none gfi hnl
        refine ⟨(by show 0 ≤ sizeLine; decide), fun al hal => ?_⟩
        have sa := same_new hal (.lst [])
        have ga : upd Hn al (.lst []) al = some (.lst []) := upd_same
        generalize upd Hn al (.lst []) = Ha at sa ga ⊢
        obtain ⟨ad', al'⟩ := Dn.nn hal
        refine ⟨_, _, rfl, ?_⟩
        have gfa := sa _ _ (sn _ _ gfi)
        have sia := sn.trans sa
        refine ⟨_, rfl, fl, rfl, ⟨_, SqL.of gfa⟩, fun lo hlo => ?_⟩
        refine lc_list (K := K) (a := fl) (xs := vs) (fun j Hj => Same Ha Hj ∧ ∃ los : List Str, Hj lo = some (.lst (los.map V.str)) ∧ los.length ≤ j ∧ ∀ x ∈ los, x ∈ ws.take us.length) ⟨same_new hlo _, [], upd_same, Nat.le_refl _, by simp⟩ (fun j Hj _ q => SqL.of (q.1 _ _ gfa)) ?_ ?_
        · rintro j x Hj hx ⟨sj, los, gl, hll, hlm⟩
          obtain ⟨u, hu1, dx⟩ := get_dat dus hx
          have hjl := lt_of_get hu1
          obtain ⟨t, va, rfl, hs, hva⟩ := unk_open (Dp.kt (kt_same (sia.trans sj)) _ _ (unkD_tp u) dx)
          refine ⟨t, _, rfl, hs, rfl, _, _, rfl, _, _, rfl, rfl, rfl, ?_⟩
          cases hva with
          | @tup aa xas _ hSa haa =>
          refine ⟨_, rfl, aa, rfl, ⟨xas, hSa⟩, fun B hB => ?_⟩
          refine lc_tup (K := K) (a := aa) (xs := xas) (fun j2 Hk => Same Hj Hk ∧ ∃ bs : List Bool, Hk B = some (.lst (bs.map V.bl)) ∧ bs.length ≤ j2) ⟨same_new hB _, [], upd_same, Nat.le_refl _⟩ (fun j2 Hk _ q => sqt_kt hSa (kt_same q.1)) ?_ ?_
          · rintro j2 y Hk hy ⟨sk, bs, gb, hbl⟩
            obtain ⟨z, hz, dz⟩ := get_dat haa hy
            have hzl := lt_of_get hz
            have hu4 := (hub.alt _ u hu1).1
            obtain ⟨t2, v1, v2, rfl, hs2, e1, e2⟩ := alt_open (Dp.kt (kt_same sk) _ _ (altD_tp z) dz)
            have fin : ∀ b : Bool, ∃ acc, Hk B = some (.lst acc) ∧ acc.length < sizeLine ∧ (Same Hj (upd Hk B (.lst (acc ++ [V.bl b]))) ∧ ∃ bs : List Bool, upd Hk B (.lst (acc ++ [V.bl b])) B = some (.lst (bs.map V.bl)) ∧ bs.length ≤ j2 + 1) := fun b => ⟨_, gb, by rw [List.length_map]; exact sz (m := 1000) (by omega), same_upd sk hB _, bs ++ [b], by rw [upd_same, List.map_append]; rfl, by rw [List.length_append]; show bs.length + 1 ≤ _; omega⟩
            generalize z.2 = e at e2
            obtain ⟨a2, xs2, rfl, hS2, hx2⟩ := e2.open
            cases e with
            | num m =>
              subst hx2
              exact ⟨t2, _, rfl, hs2, rfl, _, _, rfl, _, _, rfl, rfl, rfl, _, rfl, a2, _, _, _, rfl, rfl, hS2, rfl, rfl, _, rfl, iteST ⟨_, rfl, a2, _, _, _, rfl, rfl, hS2, rfl, _, _, rfl, rfl, fin _⟩⟩
            | name x =>
              subst hx2
              exact ⟨t2, _, rfl, hs2, rfl, _, _, rfl, _, _, rfl, rfl, rfl, _, rfl, a2, _, _, _, rfl, rfl, hS2, rfl, rfl, _, rfl, iteSF (by decide +kernel) (fin _)⟩
            | op o x y =>
              obtain ⟨va, vb, rfl, _, _⟩ := hx2
              exact ⟨t2, _, rfl, hs2, rfl, _, _, rfl, _, _, rfl, rfl, rfl, _, rfl, a2, _, _, _, rfl, rfl, hS2, rfl, rfl, _, rfl, iteSF (by decide +kernel) (fin _)⟩
            | not x =>
              obtain ⟨va, rfl, _⟩ := hx2
              exact ⟨t2, _, rfl, hs2, rfl, _, _, rfl, _, _, rfl, rfl, rfl, _, rfl, a2, _, _, _, rfl, rfl, hS2, rfl, rfl, _, rfl, iteSF (by decide +kernel) (fin _)⟩
            | ite c x y =>
              obtain ⟨vc, va, vb, rfl, _, _, _⟩ := hx2
              exact ⟨t2, _, rfl, hs2, rfl, _, _, rfl, _, _, rfl, rfl, rfl, _, rfl, a2, _, _, _, rfl, rfl, hS2, rfl, rfl, _, rfl, iteSF (by decide +kernel) (fin _)⟩
          · rintro Hk ⟨sk, bs, gb, hbl⟩
            refine ⟨B, bs, rfl, SqL.of gb, _, rfl, ite2 (fun c => ?_) (fun c => ?_)⟩
            · refine ⟨_, rfl, _, sk _ _ gl, by rw [List.length_map]; exact sz (m := 1000) (by omega), same_upd (sj.trans sk) hlo _, los ++ [u.1], by rw [upd_same, List.map_append]; rfl, by rw [List.length_append]; show los.length + 1 ≤ _; omega, fun x hx => ?_⟩
              rcases List.mem_append.mp hx with hx | hx
              · exact hlm x hx
              · rw [List.mem_singleton.mp hx, ← hub.names]
                exact List.mem_map.mpr ⟨u, List.mem_of_getElem? hu1, rfl⟩
            · exact ⟨sj.trans sk, los, sk _ _ gl, by omega, hlm⟩
        · rintro Hl ⟨sl, los, gl, hll, hlm⟩
          rw [hvl] at hll
          have sil := sia.trans sl
          obtain ⟨od', ol'⟩ := (Dn.same sa).nn hlo
          have hp : UP d l fl nl lo al := ⟨fd', fl', nd', nl', od', ol', ad', al'⟩
          have hnds : fl ≠ nl ∧ fl ≠ lo ∧ fl ≠ al ∧ nl ≠ lo ∧ nl ≠ al ∧ al ≠ lo := ⟨hfln, ne_of_none gfa hlo, ne_of_none (sn _ _ gfi) hal, ne_of_none (sa _ _ gn) hlo, ne_of_none gn hal, ne_of_none ga hlo⟩
          have huz : UZ K H Hl d l fl nl lo al vs us (ws.take us.length) los [] [] := ⟨⟨Di.same sil, sil _ _ gfi, sl _ _ (sa _ _ gn'), gl, sl _ _ ga⟩, xi.trans (ext_same sil), all_kt unkD_tp (kt_same sil) dus, .nil⟩
          have hns : ∀ x ∈ ws.take us.length, NmOk x := fun x hx => N.ok x (List.mem_of_mem_take hx)
          have hnl : (ws.take us.length).length ≤ 3 := by rw [List.length_take]; omega
          have hal0 : H al = none := ext_none (xi.trans (ext_same sn)) hal ad' al'
          generalize hnse : ws.take us.length = ns at huz hns hnl hlm
          refine ⟨_, rfl, d, l, 4, rfl, huz.ua.D, by decide, by decide, fun r2 H2 r20 r21 D2 x2 => ⟨_, _, rfl, rfl, _, rfl, by omega, by omega, ?_⟩⟩
          refine for_range (lo := 0) (n := (1 + r2).toNat) (fun j σ Hj => ∃ (o5 o8 o9 : Option V) (vs' : List V) (as : List Alt), σ = [some (.ref d), some (.ref wl), some (.ref fl), some (.int (0 + (i : Nat))), some (.ref lo), o5, some (.ref nl), some (.ref al), o8, o9, none, none, none] ∧ UZ K H Hj d l fl nl lo al vs us ns los vs' as ∧ as.length = j ∧ ∀ a ∈ as, okU ns a)
            ⟨_, _, _, [], [], rfl, huz.step hp x2 D2, rfl, by simp⟩ ?_ ?_
          · rintro j σ Hj hj ⟨o5, o8, o9, vs', as, rfl, uz, hal2, hoa⟩
            refine ⟨_, rfl, d, l, 4, rfl, uz.ua.D, by decide, by decide, fun q1 Hb q10 q11 Db xb => ?_⟩
            have uz := uz.step hp xb Db
            refine ⟨(by show 2 ≤ sizeLine; decide), fun t1 ht1 => ?_⟩
            have sc := same_new ht1 (.tup [.str "num", .int q1])
            have gc : upd Hb t1 (.tup [.str "num", .int q1]) t1 = some (.tup [.str "num", .int q1]) := upd_same
            generalize upd Hb t1 (.tup [.str "num", .int q1]) = Hc at sc gc ⊢
            have uz := uz.same hp sc
            refine ⟨_, rfl, d, l, 16, rfl, uz.ua.D, by decide, by decide, fun q2 Hd q20 q21 Dd xd => ?_⟩
            have e1 : IsE K Hd (.ref t1) (.num q1) := (isE_num gc).kt (kt_ext xd uz.ua.D)
            have uz := uz.step hp xd Dd
            refine ⟨(by show 2 ≤ sizeLine; decide), fun t2 ht2 => ?_⟩
            have se := same_new ht2 (.tup [.str "num", .int q2])
            have ge : upd Hd t2 (.tup [.str "num", .int q2]) t2 = some (.tup [.str "num", .int q2]) := upd_same
            generalize upd Hd t2 (.tup [.str "num", .int q2]) = He at se ge ⊢
            have uz := uz.same hp se
            refine ⟨(by show 2 ≤ sizeLine; decide), fun p1 hp1 => ?_⟩
            have sf := same_new hp1 (.lst [.ref t1, .ref t2])
            have gf2 : upd He p1 (.lst [.ref t1, .ref t2]) p1 = some (.lst [.ref t1, .ref t2]) := upd_same
            generalize upd He p1 (.lst [.ref t1, .ref t2]) = Hf at sf gf2 ⊢
            have uz := uz.same hp sf
            obtain ⟨np11, np12⟩ := (Dd.same se).nn hp1
            refine ⟨_, rfl, d, l, 2, rfl, uz.ua.D, by decide, by decide, fun q3 Hg q30 q31 Dg xg => ?_⟩
            have kfg := (kt_same sf).trans (kt_ext xg uz.ua.D)
            have e1g : IsE K Hg (.ref t1) (.num q1) := (e1.kt (kt_same se)).kt kfg
            have e2g : IsE K Hg (.ref t2) (.num q2) := (isE_num ge).kt kfg
            have uz := uz.step hp xg Dg
            obtain ⟨yw, hyw, myw⟩ := at_get (xs := [V.ref t1, V.ref t2]) q30 (by show q3 < 2; omega)
            obtain ⟨qw, qw0, qw1, ew⟩ : ∃ qw, 0 ≤ qw ∧ qw ≤ 999 ∧ IsE K Hg yw (.num qw) := by
              simp only [List.mem_cons, List.not_mem_nil, or_false] at myw
              rcases myw with rfl | rfl
              · exact ⟨q1, q10, by omega, e1g⟩
              · exact ⟨q2, q20, by omega, e2g⟩
            refine ⟨p1, _, _, _, rfl, rfl, SqL.of (xg p1 _ gf2 np11 np12), hyw, ?_⟩
            refine' joinC _ (fun σ H2 => ∃ (v8 : V) (e8 : Ex), σ = [some (.ref d), some (.ref wl), some (.ref fl), some (.int (0 + (i : Nat))), some (.ref lo), some (.int (0 + (j : Nat))), some (.ref nl), some (.ref al), some v8, o9, none, none, none] ∧ UZ K H H2 d l fl nl lo al vs us ns los vs' as ∧ IsE K H2 v8 e8 ∧ e8.okN ns ∧ e8.depth ≤ 0) ?fin ?main
            case main =>
              intro fin
              refine ⟨_, rfl, lo, _, rfl, .inl (SqL.of uz.ua.o), _, _, rfl, rfl, _, rfl, ite2 (fun c => ?_) (fun c => ?_)⟩
              · refine ⟨_, rfl, d, l, 4, rfl, uz.ua.D, by decide, by decide, fun q4 Hh q40 q41 Dh xh => ⟨rfl, _, rfl, ite2 (fun c2 => ?_) (fun c2 => ?_)⟩⟩
                · have hl : 0 < los.length := by
                    have := of_decide_eq_true c
                    rw [List.length_map] at this
                    omega
                  have uz := uz.step hp xh Dh
                  refine ⟨_, rfl, _, rfl, _, rfl, lo, _, rfl, .inl (SqL.of uz.ua.o), d, l, _, rfl, uz.ua.D, by rw [List.length_map]; omega, by rw [List.length_map]; omega, fun q5 Hm q50 q51 Dm xm => ?_⟩
                  have uz := uz.step hp xm Dm
                  obtain ⟨y, hy, my⟩ := at_get (xs := los.map V.str) q50 q51
                  obtain ⟨z, mz, rfl⟩ := List.mem_map.mp my
                  refine ⟨lo, _, _, _, rfl, rfl, SqL.of uz.ua.o, hy, (by show 2 ≤ sizeLine; decide), fun t ht => ?_⟩
                  exact fin _ _ ⟨.ref t, .name z, rfl, uz.same hp (same_new ht _), isE_name upd_same, hlm z mz, Nat.le_refl _⟩
                · exact fin _ _ ⟨yw, .num qw, rfl, uz.step hp xh Dh, ew.kt (kt_ext xh uz.ua.D), ⟨qw0, qw1⟩, Nat.le_refl _⟩
              · exact fin _ _ ⟨yw, .num qw, rfl, uz, ew, ⟨qw0, qw1⟩, Nat.le_refl _⟩
            case fin =>
              rintro σ Hn2 ⟨v8, e8, rfl, uz, h8, ok8, dp8⟩
              refine' joinC _ (fun σ H2 => ∃ (v8 : V) (e8 : Ex), σ = [some (.ref d), some (.ref wl), some (.ref fl), some (.int (0 + (i : Nat))), some (.ref lo), some (.int (0 + (j : Nat))), some (.ref nl), some (.ref al), some v8, o9, none, none, none] ∧ UZ K H H2 d l fl nl lo al vs us ns los vs' as ∧ IsE K H2 v8 e8 ∧ e8.okN ns ∧ e8.depth ≤ 4) ?fin2 ?main2
              case main2 =>
                intro fin
                refine ⟨_, rfl, d, l, 3, rfl, uz.ua.D, by decide, by decide, fun q4 Hh q40 q41 Dh xh => ⟨rfl, _, rfl, ite2 (fun c2 => ?_) (fun c2 => ?_)⟩⟩
                · have h8 := h8.kt (kt_ext xh uz.ua.D)
                  have uz := uz.step hp xh Dh
                  refine ⟨_, rfl, _, rfl, d, l, nl, ns, rfl, uz.ua.D, ⟨uz.ua.n, nd', nl', hns, by omega⟩, fun vt et Ht Dt xt ht okt dt pt => ?_⟩
                  have h8 := h8.kt (kt_ext xt uz.ua.D)
                  have uz := uz.step hp xt Dt
                  refine ⟨_, rfl, _, rfl, d, l, 3, rfl, uz.ua.D, by decide, by decide, fun q6 Hq q60 q61 Dq xq => ?_⟩
                  have h8 := h8.kt (kt_ext xq uz.ua.D)
                  have ht := ht.kt (kt_ext xq uz.ua.D)
                  have uz := uz.step hp xq Dq
                  refine ⟨(by show 2 ≤ sizeLine; decide), fun t6 ht6 => ?_⟩
                  have sr := same_new ht6 (.tup [.str "num", .int q6])
                  have gr : upd Hq t6 (.tup [.str "num", .int q6]) t6 = some (.tup [.str "num", .int q6]) := upd_same
                  generalize upd Hq t6 (.tup [.str "num", .int q6]) = Hr at sr gr ⊢
                  have kr := kt_same sr
                  have uz := uz.same hp sr
                  refine ⟨(by show 4 ≤ sizeLine; decide), fun t7 ht7 => ?_⟩
                  have ss := same_new ht7 (.tup [.str "if", vt, v8, .ref t6])
                  have gs : upd Hr t7 (.tup [.str "if", vt, v8, .ref t6]) t7 = some (.tup [.str "if", vt, v8, .ref t6]) := upd_same
                  generalize upd Hr t7 (.tup [.str "if", vt, v8, .ref t6]) = Hs at ss gs ⊢
                  have ks := kt_same ss
                  dsimp only [gName]
                  refine fin _ _ ⟨.ref t7, .ite et e8 (.num q6), rfl, uz.same hp ss, isE_ite gs ((ht.kt kr).kt ks) ((h8.kt kr).kt ks) ((isE_num gr).kt ks), ⟨okt, ok8, q60, by omega⟩, ?_⟩
                  simp only [Ex.depth]
                  omega
                · exact fin _ _ ⟨v8, e8, rfl, uz.step hp xh Dh, h8.kt (kt_ext xh uz.ua.D), ok8, by omega⟩
              case fin2 =>
                rintro σ Ho ⟨v8, e8, rfl, uz, h8, ok8, dp8⟩
                refine ⟨_, rfl, d, l, 3, rfl, uz.ua.D, by decide, by decide, fun q4 H20 q40 q41 D20 x20 => ?_⟩
                have h8 := h8.kt (kt_ext x20 uz.ua.D)
                have uz := uz.step hp x20 D20
                refine ⟨(by show 2 ≤ sizeLine; decide), fun t6 ht6 => ?_⟩
                have s21 := same_new ht6 (.tup [.str "num", .int q4])
                have g21 : upd H20 t6 (.tup [.str "num", .int q4]) t6 = some (.tup [.str "num", .int q4]) := upd_same
                generalize upd H20 t6 (.tup [.str "num", .int q4]) = H21 at s21 g21 ⊢
                have h8 := h8.kt (kt_same s21)
                have uz := uz.same hp s21
                refine ⟨_, rfl, d, l, rfl, uz.ua.D, fun q5 H22 q50 q51 D22 x22 => ?_⟩
                have h8 := h8.kt (kt_ext x22 uz.ua.D)
                have k6 := kt_ext x22 uz.ua.D
                have uz := uz.step hp x22 D22
                refine ⟨(by show 2 ≤ sizeLine; decide), fun t7 ht7 => ?_⟩
                have s23 := same_new ht7 (.tup [.str "num", .int q5])
                have g23 : upd H22 t7 (.tup [.str "num", .int q5]) t7 = some (.tup [.str "num", .int q5]) := upd_same
                generalize upd H22 t7 (.tup [.str "num", .int q5]) = H23 at s23 g23 ⊢
                have h8 := h8.kt (kt_same s23)
                have uz := uz.same hp s23
                refine ⟨_, rfl, _, rfl, d, l, nl, ns, 2, rfl, uz.ua.D, ⟨uz.ua.n, nd', nl', hns, by omega⟩, by decide, fun ve ee H24 D24 x24 hee oke dpe pte => ?_⟩
                have h8 := h8.kt (kt_ext x24 uz.ua.D)
                have k7 := kt_ext x24 uz.ua.D
                have uz := uz.step hp x24 D24
                refine ⟨(by show 3 ≤ sizeLine; decide), fun p9 hp9 => ?_⟩
                have s25 := same_new hp9 (.lst [.ref t6, .ref t7, ve])
                have g25 : upd H24 p9 (.lst [.ref t6, .ref t7, ve]) p9 = some (.lst [.ref t6, .ref t7, ve]) := upd_same
                generalize upd H24 p9 (.lst [.ref t6, .ref t7, ve]) = H25 at s25 g25 ⊢
                have h8 := h8.kt (kt_same s25)
                obtain ⟨np91, np92⟩ := D24.nn hp9
                have uz := uz.same hp s25
                refine ⟨_, rfl, .inl ⟨rfl, _, SqL.of uz.ua.a⟩, _, rfl, _, rfl, _, rfl, d, l, 3, rfl, uz.ua.D, by decide, by decide, fun q6 H26 q60 q61 D26 x26 => ?_⟩
                have k8 := kt_ext x26 uz.ua.D
                have h8 := h8.kt k8
                have uz := uz.step hp x26 D26
                have kz := (kt_same s25).trans k8
                have f6 : IsE K H26 (.ref t6) (.num q4) := (((((isE_num g21).kt k6).kt (kt_same s23)).kt k7).kt kz)
                have f7 : IsE K H26 (.ref t7) (.num q5) := (((isE_num g23).kt k7).kt kz)
                have fe : IsE K H26 ve ee := hee.kt kz
                obtain ⟨yv, hyv, myv⟩ := at_get (xs := [V.ref t6, V.ref t7, ve]) q60 (by show q6 < 3; omega)
                obtain ⟨ev, fv, okv, dpv⟩ : ∃ ev, IsE K H26 yv ev ∧ ev.okN ns ∧ ev.depth ≤ 4 := by
                  simp only [List.mem_cons, List.not_mem_nil, or_false] at myv
                  rcases myv with rfl | rfl | rfl
                  · exact ⟨_, f6, ⟨q40, by omega⟩, by simp [Ex.depth]⟩
                  · exact ⟨_, f7, ⟨q50, q51⟩, by simp [Ex.depth]⟩
                  · exact ⟨ee, fe, oke, by omega⟩
                refine ⟨p9, _, _, _, rfl, rfl, SqL.of (x26 p9 _ g25 np91 np92), hyv, ?_⟩
                refine ⟨(by show 2 ≤ sizeLine; decide), fun ta hta => ?_⟩
                have s27 := same_new hta (.tup [v8, yv])
                have g27 : upd H26 ta (.tup [v8, yv]) ta = some (.tup [v8, yv]) := upd_same
                generalize upd H26 ta (.tup [v8, yv]) = H27 at s27 g27 ⊢
                have uz := uz.same hp s27
                have dal : Dp K H27 (.ref ta) (altD (e8, ev)) := .tup (SqT.of g27) (.cons (h8.kt (kt_same s27)) (.cons (fv.kt (kt_same s27)) .nil))
                have hvl2 := DpAll.len uz.da
                rw [List.length_map] at hvl2
                refine ⟨al, _, _, rfl, rfl, uz.ua.a, sz (m := 1000) (by omega), _, _, _, _, as ++ [(e8, ev)], rfl, uz.app hp hal0 hnds.2.2.1 hnds.2.2.2.2.1 (Ne.symm hnds.2.2.2.2.2) dal, by rw [List.length_append, hal2]; rfl, fun a ha => ?_⟩
                rcases List.mem_append.mp ha with ha | ha
                · exact hoa a ha
                · rw [List.mem_singleton.mp ha]; exact ⟨⟨ok8, dp8⟩, okv, dpv⟩
          · rintro σ Hj ⟨o5, o8, o9, vs', as, rfl, uz, hal2, hoa⟩
            have hvl2 := DpAll.len uz.da
            rw [List.length_map] at hvl2
            have has4 : as.length ≤ 4 := by omega
            refine' joinC _ (fun σ H2 => ∃ (al2 : Addr) (o5 o8 o9 : Option V) (vs2 : List V) (as2 : List Alt), σ = [some (.ref d), some (.ref wl), some (.ref fl), some (.int (0 + (i : Nat))), some (.ref lo), o5, some (.ref nl), some (.ref al2), o8, o9, none, none, none] ∧ Deal H2 d l ∧ Ext d l H H2 ∧ H2 fl = some (.lst vs) ∧ DpAll K H2 vs (us.map unkD) ∧ H2 al2 = some (.lst vs2) ∧ DpAll K H2 vs2 (as2.map altD) ∧ as2.length ≤ 4 ∧ ∀ a ∈ as2, okU ns a) ?fin ?main
            case main =>
              intro fin
              refine ⟨_, rfl, al, _, rfl, .inl (SqL.of uz.ua.a), rfl, _, rfl, ite2 (fun c => ?_) (fun c => ?_)⟩
              · refine ⟨_, rfl, d, l, 4, rfl, uz.ua.D, by decide, by decide, fun q4 Hh q40 q41 Dh xh => ⟨rfl, _, rfl, ite2 (fun c2 => ?_) (fun c2 => ?_)⟩⟩
                · have hl2 : vs'.length = 2 := by
                    have := V.int.inj (of_decide_eq_true c)
                    omega
                  have uz := uz.step hp xh Dh
                  obtain ⟨va, vb, rfl⟩ : ∃ va vb, vs' = [va, vb] := by
                    match vs', hl2 with
                    | [a, b], _ => exact ⟨a, b, rfl⟩
                  obtain ⟨za, zb, rfl⟩ : ∃ za zb, as = [za, zb] := by
                    match as, hvl2 with
                    | [a, b], _ => exact ⟨a, b, rfl⟩
                  have oza := hoa za (by simp)
                  have ozb := hoa zb (by simp)
                  refine ⟨_, rfl, d, l, 26, rfl, uz.ua.D, by decide, by decide, fun q7 H30 q70 q71 D30 x30 => ⟨_, _, rfl, rfl, ?_⟩⟩
                  have uz := uz.step hp x30 D30
                  refine ⟨(by show 2 ≤ sizeLine; decide), fun t1 ht1 => ?_⟩
                  have s31 := same_new ht1 (.tup [.str "num", .int (25 + q7)])
                  have g31 : upd H30 t1 (.tup [.str "num", .int (25 + q7)]) t1 = some (.tup [.str "num", .int (25 + q7)]) := upd_same
                  generalize upd H30 t1 (.tup [.str "num", .int (25 + q7)]) = H31 at s31 g31 ⊢
                  have uz := uz.same hp s31
                  have hda : DpAll K H31 [va, vb] [altD za, altD zb] := uz.da
                  obtain ⟨da1, da2⟩ : Dp K H31 va (altD za) ∧ Dp K H31 vb (altD zb) := by
                    cases hda with
                    | cons h1 h2 => cases h2 with | cons h3 h4 => exact ⟨h1, h3⟩
                  obtain ⟨ta, va1, va2, rfl, hsa, ea1, ea2⟩ := alt_open da1
                  obtain ⟨tb, vb1, vb2, rfl, hsb, eb1, eb2⟩ := alt_open da2
                  refine ⟨_, rfl, al, _, _, _, rfl, rfl, SqL.of uz.ua.a, rfl, ta, _, _, _, rfl, rfl, hsa, rfl, ?_⟩
                  refine ⟨(by show 2 ≤ sizeLine; decide), fun t2 ht2 => ?_⟩
                  have s32 := same_new ht2 (.tup [.ref t1, va2])
                  have g32 : upd H31 t2 (.tup [.ref t1, va2]) t2 = some (.tup [.ref t1, va2]) := upd_same
                  generalize upd H31 t2 (.tup [.ref t1, va2]) = H32 at s32 g32 ⊢
                  have uz := uz.same hp s32
                  refine ⟨_, rfl, d, l, 11, rfl, uz.ua.D, by decide, by decide, fun q8 H33 q80 q81 D33 x33 => ?_⟩
                  have k33 := (kt_same s32).trans (kt_ext x33 uz.ua.D)
                  have k33' := kt_ext x33 uz.ua.D
                  have uz := uz.step hp x33 D33
                  refine ⟨(by show 2 ≤ sizeLine; decide), fun t3 ht3 => ?_⟩
                  have s34 := same_new ht3 (.tup [.str "num", .int q8])
                  have g34 : upd H33 t3 (.tup [.str "num", .int q8]) t3 = some (.tup [.str "num", .int q8]) := upd_same
                  generalize upd H33 t3 (.tup [.str "num", .int q8]) = H34 at s34 g34 ⊢
                  have uz := uz.same hp s34
                  have k34 := k33.trans (kt_same s34)
                  have hsb' := sqt_kt hsb k34
                  refine ⟨_, rfl, al, _, _, _, rfl, rfl, SqL.of uz.ua.a, rfl, tb, _, _, _, rfl, rfl, hsb', rfl, ?_⟩
                  refine ⟨(by show 2 ≤ sizeLine; decide), fun t4 ht4 => ?_⟩
                  have s35 := same_new ht4 (.tup [.ref t3, vb2])
                  have g35 : upd H34 t4 (.tup [.ref t3, vb2]) t4 = some (.tup [.ref t3, vb2]) := upd_same
                  generalize upd H34 t4 (.tup [.ref t3, vb2]) = H35 at s35 g35 ⊢
                  have uz := uz.same hp s35
                  refine ⟨(by show 2 ≤ sizeLine; decide), fun al3 hal3 => ?_⟩
                  have s36 := same_new hal3 (.lst [.ref t2, .ref t4])
                  have g36 : upd H35 al3 (.lst [.ref t2, .ref t4]) al3 = some (.lst [.ref t2, .ref t4]) := upd_same
                  generalize upd H35 al3 (.lst [.ref t2, .ref t4]) = H36 at s36 g36 ⊢
                  have uz := uz.same hp s36
                  have k36 := (k34.trans (kt_same s35)).trans (kt_same s36)
                  have k36' := ((kt_same s34).trans (kt_same s35)).trans (kt_same s36)
                  have d1 : Dp K H36 (.ref t2) (altD (.num (25 + q7), za.2)) := Dp.kt (k33'.trans k36') _ _ (altD_tp _) (.tup (SqT.of g32) (.cons ((isE_num g31).kt (kt_same s32)) (.cons (ea2.kt (kt_same s32)) .nil)))
                  have d2 : Dp K H36 (.ref t4) (altD (.num q8, zb.2)) := Dp.kt (kt_same s36) _ _ (altD_tp _) (.tup (SqT.of g35) (.cons ((isE_num g34).kt (kt_same s35)) (.cons (eb2.kt (k34.trans (kt_same s35))) .nil)))
                  dsimp only [gName]
                  refine fin _ _ ⟨al3, _, _, _, _, [(.num (25 + q7), za.2), (.num q8, zb.2)], rfl, uz.ua.D, uz.x, uz.ua.f, uz.du, g36, .cons d1 (.cons d2 .nil), (by show 2 ≤ 4; decide), fun a ha => ?_⟩
                  simp only [List.mem_cons, List.not_mem_nil, or_false] at ha
                  rcases ha with rfl | rfl
                  · exact ⟨⟨⟨by omega, by omega⟩, by simp [Ex.depth]⟩, oza.2⟩
                  · exact ⟨⟨⟨by omega, by omega⟩, by simp [Ex.depth]⟩, ozb.2⟩
                · have uz := uz.step hp xh Dh
                  exact fin _ _ ⟨al, _, _, _, vs', as, rfl, uz.ua.D, uz.x, uz.ua.f, uz.du, uz.ua.a, uz.da, has4, hoa⟩
              · exact fin _ _ ⟨al, _, _, _, vs', as, rfl, uz.ua.D, uz.x, uz.ua.f, uz.du, uz.ua.a, uz.da, has4, hoa⟩
            case fin =>
              rintro σ H40 ⟨al2, o5, o8, o9, vs2, as2, rfl, D40, x40, f40, du40, g40, da40, has2, hoa2⟩
              have hi3 : i < 3 := by omega
              have hxw : ws[i]? = some ws[i] := List.getElem?_eq_getElem (by omega)
              have hix : atI (ws.map V.str) (0 + (i : Int)) = some (.str ws[i]) := at_ofA (j := i) (by omega) (by rw [List.getElem?_map, hxw]; rfl)
              refine ⟨_, rfl, .inl ⟨rfl, _, SqL.of f40⟩, _, rfl, _, rfl, wl, _, _, _, rfl, rfl, SqL.of (N.ext x40).at_, hix, _, rfl, al2, vs2, rfl, .inl ⟨SqL.of g40, fun tt htt => ?_⟩⟩
              have s41 : Same H40 (upd H40 tt (.tup vs2)) := same_new htt _
              have g41 : upd H40 tt (.tup vs2) tt = some (.tup vs2) := upd_same
              generalize upd H40 tt (.tup vs2) = H41 at s41 g41 ⊢
              refine ⟨(by show 2 ≤ sizeLine; decide), fun tu htu => ?_⟩
              have s42 := same_new htu (.tup [.str ws[i], .ref tt])
              have g42 : upd H41 tu (.tup [.str ws[i], .ref tt]) tu = some (.tup [.str ws[i], .ref tt]) := upd_same
              generalize upd H41 tu (.tup [.str ws[i], .ref tt]) = H42 at s42 g42 ⊢
              have s402 := s41.trans s42
              have f42 := s402 _ _ f40
              have kk : KT H42 (upd H42 fl (.lst (vs ++ [.ref tu]))) := kt_lst f42 _
              have du : Dp K H42 (.ref tu) (unkD (ws[i], as2)) := .tup (SqT.of g42) (.cons (.str _) (.cons (.tup (SqT.of (s42 _ _ g41)) (all_kt altD_tp (kt_same s402) da40)) .nil))
              subst hnse
              refine ⟨fl, vs, _, rfl, rfl, f42, sz (m := 1000) (by omega), _, _, _, _, _, _, _, vs ++ [.ref tu], us ++ [(ws[i], as2)], rfl, (D40.same s402).pt fd' fl' _, fun b u q h1 h2 => ?_, upd_same, ?_, by rw [List.length_append, hlen]; rfl, ?_⟩
              · rw [upd_ne (ne_of_none q hfl)]; exact s402 _ _ (x40 b u q h1 h2)
              · rw [List.map_append]
                exact DpAll.app (all_kt unkD_tp ((kt_same s402).trans kk) du40) (.cons (Dp.kt kk _ _ (unkD_tp _) du) .nil)
              · refine hub.snoc ?_ has2 hoa2
                rw [hlen]
                exact hxw
    · rintro σ Hi ⟨o3, o4, o5, o6, o7, o8, o9, vs, us, rfl, Di, xi, gfi, dus, hlen, hub⟩
      refine ⟨_, rfl, fl, vs, rfl, .inl ⟨SqL.of gfi, fun t ht => ?_⟩⟩
      exact k (.ref t) us _ (Di.new ht) (xi.trans (Ext.new ht)) (.tup (SqT.of upd_same) (all_kt unkD_tp (kt_new ht _) dus)) (by omega) hub
end
end My
set_option Elab.async false
set_option maxRecDepth 100000
set_option linter.all false
namespace My
open PySem L2
def wordsL : List Str := ["num", "op", "name", "slot", "field", "row", "put", "take", "change", "back", "begin", "branch", "none", "key"]
theorem words_eq : Txt.split "num op name slot field row put take change back begin branch none key" " " = wordsL := by decide +kernel
theorem words_ok : ∀ x ∈ wordsL, NmOk x := fun z m => ⟨by
  have h : ∀ z ∈ wordsL, z.length ≤ 6 := by decide +kernel
  exact h z m, asc_by (by
  have h : wordsL.all (fun z => z.cps.toList.all (fun c => decide (c < 128))) = true := by decide +kernel
  exact List.all_eq_true.mp h z m)⟩
def spWords : Sp := fun vs H Q _ => ∃ (d l : Addr), vs = [.ref d, .int 6] ∧ Deal H d l ∧
  ∀ (p : Addr) (ws : List Str) (H' : Hp), H p = none → Deal H' d l → Ext d l H H' → H' p = some (.lst (ws.map V.str)) → (6 ≤ ws.length ∧ ws.length ≤ 60) → (∀ x ∈ ws, NmOk x) → p ≠ d → p ≠ l → Q (.ref p) H'
theorem cut_two (z : Str) (i : Int) (h0 : 0 ≤ i) (h1 : i ≤ z.length) : (cutS z none (some i)).length + (cutS z (some i) none).length ≤ z.length := by
  have e1 : (cutS z none (some i)).length ≤ i.toNat := by
    obtain ⟨n, rfl⟩ := Int.eq_ofNat_of_zero_le h0
    exact cutS_hi z n
  have e2 : (cutS z (some i) none).length ≤ z.length - i.toNat := by
    show (((z.cps.toList.drop (HT.sIx z.length 0 (some i))).take (HT.sIx z.length z.length none - HT.sIx z.length 0 (some i))).toArray).size ≤ z.length - i.toNat
    rw [List.size_toArray, List.length_take]
    simp only [HT.sIx]
    split <;> omega
  omega
theorem sum_ones {acc : List Str} (h : ∀ x ∈ acc, x.length = 1 ∧ Asc x) : (acc.map (·.length)).sum = acc.length := by
  induction acc with
  | nil => rfl
  | cons x r ih =>
    rw [List.map_cons, List.sum_cons, (h x (by simp)).1, ih fun y hy => h y (by simp [hy]), List.length_cons]
    omega
theorem Ext.none {H H' : Hp} {d l p : Addr} (x : Ext d l H H') (hp : H' p = Option.none) (nd : p ≠ d) (nl : p ≠ l) : H p = Option.none := by
  cases q : H p with
  | none => rfl
  | some o => rw [x p o q nd nl] at hp; cases hp
theorem Ext.upd {H H' : Hp} {d l p : Addr} (x : Ext d l H H') (hp : H p = Option.none) (o : HO) : Ext d l H (upd H' p o) := fun b u q h1 h2 => by
  rw [upd_ne (ne_of_none q hp)]; exact x b u q h1 h2
theorem Deal.put {H : Hp} {d l p : Addr} (D : Deal H d l) (nd : p ≠ d) (nl : p ≠ l) (o : HO) : Deal (upd H p o) d l := by
  obtain ⟨b1, b2, b3, b4, b5, b6⟩ := D
  exact ⟨b1, b2, b3, by rw [upd_ne (Ne.symm nd)]; exact b4, by rw [upd_ne (Ne.symm nl)]; exact b5, b6⟩
def qxzj : Str := "qxzj"
theorem asc_qxzj : Asc qxzj := asc_by (by decide +kernel)
theorem qxzj_len : qxzj.cps.toList.length = 4 := by decide +kernel
section
variable {P : Program} {w : World} {K : PySem.W.Frag} {mg : Str → Option Value} {base : Heap}
set_option maxHeartbeats 8000000 in
theorem ok_words {f : Addr} {fd : FuncData} (F : Fun K "_law_words" "_law_words" s_L_words f fd) (Z : Zb mg) (G_L_draw : FnIn P w K mg base 1 "_law_draw" ps_L_draw spDraw) : FnOk P w K mg base CX0 2 f fd ps_L_words spWords := by
  refine F.ok sc_L_words (fun vs H Q E h => ?_) (fun cdv A outer s H vs Q E hr h => ?_)
  · obtain ⟨d, l, rfl, _⟩ := h
    rfl
  · obtain ⟨d, l, rfl, D, k⟩ := h
    refine ⟨_, (pss_cons (ps_set (i := 2) sc_L_words.nd rfl (by first | exact Or.inl rfl | exact Or.inr rfl) pe_str)
      (pss_cons (ps_set (i := 3) sc_L_words.nd rfl (by first | exact Or.inl rfl | exact Or.inr rfl) (pe_join pe_str (pe_lc (own := [("_law_k", 5)]) (g := gName 5) (by rfl) sc_L_words.nd (pi_range1 (by rfl) Z.range (pa_cons (pe_fn G_L_draw hr rfl (pa_cons (pv 0) (pa_cons pe_int pa_nil))) pa_nil)) (blkOk_by (own := [("_law_k", 5)]) (N := nm_L_words) (sc := defScope s_L_words) (by decide +kernel)) (fun _ _ _ _ _ => (pg_name (i := 5) sc_L_words.nd rfl (by first | exact Or.inl rfl | exact Or.inr rfl))) (fun _ _ _ _ _ => pts_nil) (fun _ _ _ _ _ => (pe_ix ix_str (pv 2) (pe_fn G_L_draw hr rfl (pa_cons (pv 0) (pa_cons pe_int pa_nil))) (fun _ _ => rfl))))))
      (pss_cons (ps_par (i := 7) (j := 8) (by rfl) sc_L_words.nd rfl rfl (by decide) rfl rfl (pa_cons (pe_fn G_L_draw hr rfl (pa_cons (pv 0) (pa_cons (pe_op op_add (pe_callB call_len_str (by rfl) Z.len (by decide +kernel) (pa_cons (pv 3) pa_nil)) pe_int) pa_nil))) (pa_cons (pe_fn G_L_draw hr rfl (pa_cons (pv 0) (pa_cons pe_int pa_nil))) pa_nil)) (by rfl))
      (pss_cons (ps_set (i := 4) sc_L_words.nd rfl (by first | exact Or.inl rfl | exact Or.inr rfl) (pe_lst pa_nil))
      (pss_cons (ps_for PassesOwn.never rfl (pi_range1 (by rfl) Z.range (pa_cons (pv 1) pa_nil)) (pg_name (i := 5) sc_L_words.nd rfl (by first | exact Or.inl rfl | exact Or.inr rfl)) (pss_cons (ps_set (i := 9) sc_L_words.nd rfl (by first | exact Or.inl rfl | exact Or.inr rfl) (pe_op op_add_str (pe_ix ix_str (pv 2) (pe_op op_mod (pe_op op_add (pv 8) (pv 5)) pe_int) (fun _ _ => rfl)) (pe_ix ix_str pe_str (pe_op op_fdiv (pv 5) pe_int) (fun _ _ => rfl))))
      (pss_one (ps_expr (pe_bm PySem.F.plainAttrs_list PySem.F.slot_list_append PySem.F.type_list_append mt_append (pv 4) (pa_cons (pe_op op_add_str (pe_op op_add_str (pe_op op_add_str (pe_slice sl_str (pv 3) po_none (po_some (pv 7))) (pv 9)) (pe_slice sl_str (pv 3) (po_some (pv 7)) po_none)) (pe_op op_mul_str pe_str (pe_op op_mod (pv 5) pe_int))) pa_nil))))))
      (pss_cons (ps_set (i := 6) sc_L_words.nd rfl (by first | exact Or.inl rfl | exact Or.inr rfl) (pe_fn G_L_draw hr rfl (pa_cons (pv 0) (pa_cons pe_int pa_nil))))
      (pss_cons (ps_if (pt_cmpR op_eq (pv 6) pe_int (nomark _)) (pss_one (ps_asg (pe_split pe_str pe_str) (pg_sliceG (pv 4) po_none (po_some pe_int)))) pss_nil)
      (pss_cons (ps_if (pt_cmpR op_eq (pv 6) pe_int (nomark _)) (pss_cons (ps_set (i := 10) sc_L_words.nd rfl (by first | exact Or.inl rfl | exact Or.inr rfl) (pe_op op_add_str pe_str (pe_join pe_str (pe_lc (own := [("_law_k", 5)]) (g := gName 5) (by rfl) sc_L_words.nd (pi_range1 (by rfl) Z.range (pa_cons pe_int pa_nil)) (blkOk_by (own := [("_law_k", 5)]) (N := nm_L_words) (sc := defScope s_L_words) (by decide +kernel)) (fun _ _ _ _ _ => (pg_name (i := 5) sc_L_words.nd rfl (by first | exact Or.inl rfl | exact Or.inr rfl))) (fun _ _ _ _ _ => pts_nil) (fun _ _ _ _ _ => (pe_ix ix_str (pv 2) (pe_fn G_L_draw hr rfl (pa_cons (pv 0) (pa_cons pe_int pa_nil))) (fun _ _ => rfl)))))))
      (pss_one (ps_asg (pe_lc (own := [("_law_k", 5)]) (g := gName 5) (by rfl) sc_L_words.nd (pi_range1 (by rfl) Z.range (pa_cons pe_int pa_nil)) (blkOk_by (own := [("_law_k", 5)]) (N := nm_L_words) (sc := defScope s_L_words) (by decide +kernel)) (fun _ _ _ _ _ => (pg_name (i := 5) sc_L_words.nd rfl (by first | exact Or.inl rfl | exact Or.inr rfl))) (fun _ _ _ _ _ => pts_nil) (fun _ _ _ _ _ => (pe_slice sl_str (pv 10) po_none (po_some (pe_op op_add (pv 5) pe_int))))) (pg_sliceG (pv 4) (po_some pe_int) (po_some pe_int))))) pss_nil)
      (pss_one (ps_ret (pv 4))))))))))), ?_⟩
    refine ⟨⟨_, rfl⟩, _, rfl, d, l, 4, rfl, D, by decide, by decide, fun r H1 r0 r1 D1 x1 => ⟨_, rfl, by omega, by omega, fun B hB => ?_⟩⟩
    obtain ⟨nBd, nBl⟩ := D1.nn hB
    refine lc_range (lo := 0) (n := r.toNat) (fun i H4 => Deal H4 d l ∧ Ext d l H H4 ∧ ∃ acc : List Str, H4 B = some (.lst (acc.map V.str)) ∧ acc.length ≤ i ∧ ∀ x ∈ acc, x.length = 1 ∧ Asc x)
      ⟨D1.new hB, x1.trans (Ext.new hB), [], upd_same, Nat.le_refl _, by simp⟩ ?_ ?_
    · rintro i H4 hi ⟨D4, x4, acc, a1, a2, a3⟩
      refine ⟨rfl, _, rfl, _, rfl, d, l, 26, rfl, D4, by decide, by decide, fun c H5 c0 c1 D5 x5 => ?_⟩
      obtain ⟨u, hu, mu⟩ := at_get (xs := letters.cps.toList) c0 (by rw [letters_len]; omega)
      refine ⟨_, _, u, rfl, rfl, by decide +kernel, hu, _, x5 B _ a1 nBd nBl, by rw [List.length_map]; exact sz (m := 7) (by omega), ?_⟩
      refine ⟨D5.put nBd nBl _, (x4.trans x5).upd (x1.none hB nBd nBl) _, acc ++ [⟨#[u]⟩], by rw [upd_same]; simp, by simp; omega, fun x hx => ?_⟩
      rcases List.mem_append.mp hx with q | q
      · exact a3 x q
      · rw [List.mem_singleton.mp q]; exact ⟨rfl, asc_letters.one mu⟩
    · rintro H4 ⟨D4, x4, acc, a1, a2, a3⟩
      have hsum := sum_ones a3
      refine ⟨_, B, acc, rfl, rfl, .inl (SqL.of a1), ?_, ?_⟩
      · rw [hsum]
        show acc.length + acc.length * 0 ≤ 16777216
        omega
      have hj : (Txt.join "" acc).length ≤ 3 := by rw [join0_len, hsum]; omega
      have ja : Asc (Txt.join "" acc) := Asc.join0 fun x hx => (a3 x hx).2
      generalize Txt.join "" acc = core at hj ja
      -- spot, turn
      refine ⟨_, rfl, _, rfl, _, rfl, szl (m := 3) hj, _, _, rfl, rfl, d, l, _, rfl, D4, by omega, by omega, fun spot H5 s0 s1 D5 x5 => ⟨_, rfl, d, l, 26, rfl, D5, by decide, by decide, fun turn H6 t0 t1 D6 x6 => ⟨_, _, rfl, (by show 0 ≤ sizeLine; decide), fun p hp => ?_⟩⟩⟩
      obtain ⟨npd, npl⟩ := D6.nn hp
      have x06 := x4.trans (x5.trans x6)
      have hp0 := x06.none hp npd npl
      refine ⟨_, rfl, _, rfl, by decide, by decide, ?_⟩
      refine for_range (lo := 0) (n := 6) (fun i σ H' => ∃ v5 v9 acc, σ = [some (.ref d), some (.int 6), some (.str letters), some (.str core), some (.ref p), v5, none, some (.int spot), some (.int turn), v9, none] ∧ Deal H' d l ∧ Ext d l H H' ∧ H' p = some (.lst (acc.map V.str)) ∧ acc.length = i ∧ ∀ x ∈ acc, NmOk x)
        ⟨_, _, [], rfl, D6.new hp, x06.trans (Ext.new hp), upd_same, rfl, by simp⟩ ?_ ?_
      · rintro i σ H7 hi ⟨v5, v9, acc, rfl, D7, x7, P7, hl7, ok7⟩
        have e1 : 0 ≤ (turn + (0 + (i : Int))) % 26 ∧ (turn + (0 + (i : Int))) % 26 < 26 := by omega
        have e2 : 0 ≤ (0 + (i : Int)) / 26 ∧ (0 + (i : Int)) / 26 < 4 := by omega
        obtain ⟨u, hu, mu⟩ := at_get (xs := letters.cps.toList) e1.1 (by rw [letters_len]; exact e1.2)
        obtain ⟨u', hu', mu'⟩ := at_get (xs := qxzj.cps.toList) e2.1 (by rw [qxzj_len]; exact e2.2)
        refine ⟨_, rfl, _, rfl, _, rfl, _, _, rfl, rfl, _, _, rfl, rfl, (by show (0 : Int) < 26; decide), _, _, u, rfl, rfl, by decide +kernel, hu, _, rfl, _, _, rfl, rfl, ⟨by decide, by decide⟩, _, _, u', rfl, rfl, by decide +kernel, hu', _, _, rfl, rfl, (by show 2 ≤ sizeLine; decide), ?_⟩
        have c2 := cut_two core spot s0 (by omega)
        have h2 : ((⟨#[u]⟩ : Str) ++ (⟨#[u']⟩ : Str)).length = 2 := rfl
        have e3 : 0 ≤ (0 + (i : Int)) % 2 ∧ (0 + (i : Int)) % 2 < 2 := by omega
        have h3 : (repS "z" ((0 + (i : Int)) % 2)).length ≤ 1 := by
          rw [repS_len]
          show 1 * ((0 + (i : Int)) % 2).toNat ≤ 1
          omega
        refine ⟨_, rfl, .inl ⟨rfl, _, SqL.of P7⟩, _, rfl, _, rfl, _, rfl, _, rfl, szl (m := 3) hj, _, rfl, _, _, rfl, rfl, szl (m := 10) (by omega), _, rfl, _, rfl, _, rfl, _, rfl, szl (m := 3) hj, _, _, rfl, rfl, szl (m := 10) (by rw [app_len]; omega), _, rfl, _, _, rfl, rfl, (by show (0 : Int) < 2; decide), _, _, rfl, rfl, by omega, by omega, ?_, (by show 1 ≤ sizeLine; decide), _, _, rfl, rfl, szl (m := 10) (by rw [app_len, app_len]; omega), p, _, _, rfl, rfl, P7, by rw [List.length_map]; exact sz (m := 60) (by omega), ?_⟩
        · show 1 * ((0 + (i : Int)) % 2).toNat ≤ sizeLine
          exact szl (m := 2) (by omega)
        refine ⟨_, _, acc ++ [cutS core none (some spot) ++ ((⟨#[u]⟩ : Str) ++ (⟨#[u']⟩ : Str)) ++ cutS core (some spot) none ++ repS ("z" : Str) ((0 + (i : Int)) % 2)], rfl, D7.put npd npl _, x7.upd hp0 _, by rw [upd_same, List.map_append]; rfl, by simp [hl7], fun x hx => ?_⟩
        rcases List.mem_append.mp hx with q | q
        · exact ok7 x q
        · rw [List.mem_singleton.mp q]
          refine ⟨by rw [app_len, app_len, app_len]; omega, ?_⟩
          exact (((ja.cut _ _).app ((asc_letters.one mu).app (asc_qxzj.one mu'))).app (ja.cut _ _)).app ((asc_by (by decide +kernel)).rep _)
      · rintro σ H7 ⟨v5, v9, acc, rfl, D7, x7, P7, hl7, ok7⟩
        refine ⟨_, rfl, d, l, 6, rfl, D7, by decide, by decide, fun form H8 f0 f1 D8 x8 => ?_⟩
        have P8 := x8 p _ P7 npd npl
        refine' joinC _ (fun σ H' => ∃ ws : List Str, σ = [some (.ref d), some (.int 6), some (.str letters), some (.str core), some (.ref p), v5, some (.int form), some (.int spot), some (.int turn), v9, none] ∧ Deal H' d l ∧ Ext d l H H' ∧ H' p = some (.lst (ws.map V.str)) ∧ (6 ≤ ws.length ∧ ws.length ≤ 60) ∧ ∀ x ∈ ws, NmOk x) ?fin ?main
        case main =>
          intro fin
          refine ⟨_, rfl, rfl, _, rfl, ite2 (fun c => ?case0) (fun c => ?case1)⟩
          case case1 => exact fin _ _ ⟨acc, rfl, D8, x7.trans x8, P8, ⟨by omega, by omega⟩, ok7⟩
          case case0 =>
            refine ⟨⟨_, rfl⟩, _, _, rfl, rfl, by decide +kernel, by decide +kernel, fun q hq => ?_⟩
            rw [words_eq]
            have npq : p ≠ q := ne_of_none P8 hq
            refine ⟨_, rfl, _, rfl, p, q, acc.map V.str, wordsL.map V.str, 0, 14, rfl, rfl, by rw [upd_ne npq]; exact P8, upd_same, npq, rfl, .inl ⟨rfl, rfl⟩, by decide, by rw [List.length_map, List.length_map]; exact szl (m := 100) (by show _ + 14 ≤ 100; omega), ?_⟩
            refine fin _ _ ⟨acc.take 0 ++ wordsL ++ acc.drop 14, rfl, (D8.new hq).put npd npl _, ((x7.trans x8).trans (Ext.new hq)).upd hp0 _, ?_, ?_, fun x hx => ?_⟩
            · rw [upd_same, List.map_append, List.map_append, List.map_take, List.map_drop]
            · rw [List.length_append, List.length_append, List.length_take, List.length_drop]
              show 6 ≤ min 0 _ + 14 + _ ∧ min 0 _ + 14 + _ ≤ 60
              omega
            · rcases List.mem_append.mp hx with q | q
              · rcases List.mem_append.mp q with q | q
                · exact ok7 x (List.mem_of_mem_take q)
                · exact words_ok x q
              · exact ok7 x (List.mem_of_mem_drop q)
        case fin =>
        rintro σ H9 ⟨ws, rfl, D9, x9, P9, hl9, ok9⟩
        refine' joinC _ (fun σ H' => ∃ (ws : List Str) (v10 : Option V), σ = [some (.ref d), some (.int 6), some (.str letters), some (.str core), some (.ref p), v5, some (.int form), some (.int spot), some (.int turn), v9, v10] ∧ Deal H' d l ∧ Ext d l H H' ∧ H' p = some (.lst (ws.map V.str)) ∧ (6 ≤ ws.length ∧ ws.length ≤ 60) ∧ ∀ x ∈ ws, NmOk x) ?fin2 ?main2
        case main2 =>
          intro fin
          refine ⟨_, rfl, rfl, _, rfl, ite2 (fun c => ?case2) (fun c => ?case3)⟩
          case case3 => exact fin _ _ ⟨ws, _, rfl, D9, x9, P9, hl9, ok9⟩
          case case2 =>
            refine ⟨⟨_, rfl⟩, _, rfl, by decide, by decide, fun B hB => ?_⟩
            obtain ⟨nBd, nBl⟩ := D9.nn hB
            have npB : p ≠ B := ne_of_none P9 hB
            refine lc_range (lo := 0) (n := 5) (fun i H4 => Deal H4 d l ∧ Ext d l H H4 ∧ H4 p = some (.lst (ws.map V.str)) ∧ ∃ acc : List Str, H4 B = some (.lst (acc.map V.str)) ∧ acc.length ≤ i ∧ ∀ x ∈ acc, x.length = 1 ∧ Asc x)
              ⟨D9.new hB, x9.trans (Ext.new hB), by rw [upd_ne npB]; exact P9, [], upd_same, Nat.le_refl _, by simp⟩ ?_ ?_
            · rintro i H4 hi ⟨D4, x4, P4, acc, a1, a2, a3⟩
              refine ⟨rfl, _, rfl, _, rfl, d, l, 9, rfl, D4, by decide, by decide, fun c H5 c0 c1 D5 x5 => ?_⟩
              obtain ⟨u, hu, mu⟩ := at_get (xs := letters.cps.toList) c0 (by rw [letters_len]; omega)
              refine ⟨_, _, u, rfl, rfl, by decide +kernel, hu, _, x5 B _ a1 nBd nBl, by rw [List.length_map]; exact sz (m := 7) (by omega), ?_⟩
              refine ⟨D5.put nBd nBl _, (x4.trans x5).upd (x9.none hB nBd nBl) _, by rw [upd_ne npB]; exact x5 p _ P4 npd npl, acc ++ [⟨#[u]⟩], by rw [upd_same]; simp, by simp; omega, fun x hx => ?_⟩
              rcases List.mem_append.mp hx with q | q
              · exact a3 x q
              · rw [List.mem_singleton.mp q]; exact ⟨rfl, asc_letters.one mu⟩
            · rintro H4 ⟨D4, x4, P4, acc, a1, a2, a3⟩
              have hsum := sum_ones a3
              refine ⟨_, B, acc, rfl, rfl, .inl (SqL.of a1), ?_, ?_⟩
              · rw [hsum]
                show acc.length + acc.length * 0 ≤ 16777216
                omega
              have hj : (Txt.join "" acc).length ≤ 5 := by rw [join0_len, hsum]; omega
              have ja : Asc (Txt.join "" acc) := Asc.join0 fun x hx => (a3 x hx).2
              generalize Txt.join "" acc = tl at hj ja
              refine ⟨_, _, rfl, rfl, szl (m := 10) (by show 1 + _ ≤ 10; omega), ?_⟩
              have ch6 : (("j" : Str) ++ tl).length ≤ 6 := by
                rw [app_len]
                show 1 + _ ≤ 6
                omega
              have cha : Asc (("j" : Str) ++ tl) := (asc_by (by decide +kernel)).app ja
              generalize ("j" : Str) ++ tl = chain at ch6 cha
              refine ⟨_, rfl, by decide, by decide, fun C hC => ?_⟩
              obtain ⟨nCd, nCl⟩ := D4.nn hC
              have npC : p ≠ C := ne_of_none P4 hC
              refine lc_range (lo := 0) (n := 6) (fun i H5 => Deal H5 d l ∧ Ext d l H H5 ∧ H5 p = some (.lst (ws.map V.str)) ∧ ∃ acc : List Str, H5 C = some (.lst (acc.map V.str)) ∧ acc.length = i ∧ ∀ x ∈ acc, NmOk x)
                ⟨D4.new hC, x4.trans (Ext.new hC), by rw [upd_ne npC]; exact P4, [], upd_same, rfl, by simp⟩ ?_ ?_
              · rintro i H5 hi ⟨D5, x5, P5, acc, a1, a2, a3⟩
                refine ⟨rfl, _, rfl, _, rfl, _, _, rfl, rfl, _, rfl, _, rfl, szl (m := 6) ch6, _, a1, by rw [List.length_map]; exact sz (m := 7) (by omega), ?_⟩
                refine ⟨D5.put nCd nCl _, x5.upd (x4.none hC nCd nCl) _, by rw [upd_ne npC]; exact P5, acc ++ [cutS chain none (some (0 + (i : Int) + 1))], by rw [upd_same, List.map_append]; rfl, by simp [a2], fun x hx => ?_⟩
                rcases List.mem_append.mp hx with q | q
                · exact a3 x q
                · rw [List.mem_singleton.mp q]; exact ⟨Nat.le_trans (cutS_length _ _ _) ch6, cha.cut _ _⟩
              · rintro H5 ⟨D5, x5, P5, acc, a1, a2, a3⟩
                refine ⟨_, rfl, _, rfl, _, rfl, p, C, ws.map V.str, acc.map V.str, 6, 12, rfl, rfl, P5, a1, npC, rfl, .inr rfl, by decide, by rw [List.length_map, List.length_map]; exact szl (m := 100) (by omega), ?_⟩
                refine fin _ _ ⟨ws.take 6 ++ acc ++ ws.drop 12, _, rfl, D5.put npd npl _, x5.upd hp0 _, ?_, ?_, fun x hx => ?_⟩
                · rw [upd_same, List.map_append, List.map_append, List.map_take, List.map_drop]
                · rw [List.length_append, List.length_append, List.length_take, List.length_drop]
                  omega
                · rcases List.mem_append.mp hx with q | q
                  · rcases List.mem_append.mp q with q | q
                    · exact ok9 x (List.mem_of_mem_take q)
                    · exact a3 x q
                  · exact ok9 x (List.mem_of_mem_drop q)
        case fin2 =>
          rintro σ H' ⟨ws, v10, rfl, D', x', P', hl', ok'⟩
          exact ⟨_, rfl, k p ws H' hp0 D' x' P' hl' ok' npd npl⟩
end
end My
set_option Elab.async false
set_option maxRecDepth 100000
set_option linter.all false
namespace My
open PySem L2
theorem low_den {u l M : Nat} (h : l ∣ M) : (lowN u l).2 ∣ M := Nat.dvd_trans (Nat.div_dvd_of_dvd (Nat.gcd_dvd_right u l)) h
theorem low_num {u l n : Nat} (h : u ≤ n * l) : (lowN u l).1 ≤ n * (lowN u l).2 := by
  unfold lowN
  show u / Nat.gcd u l ≤ n * (l / Nat.gcd u l)
  rw [← Nat.mul_div_assoc _ (Nat.gcd_dvd_right u l)]
  exact Nat.div_le_div_right h
theorem sum_den {o s : S2} {M : Nat} (ho : ShN o) (hs : ShN s) (h1 : o.2 ∣ M) (h2 : s.2 ∣ M) : (sumN o s).2 ∣ M := by
  obtain ⟨x, hx⟩ := h1
  obtain ⟨y, hy⟩ := h2
  have hD : 0 < o.2 * s.2 := Nat.mul_pos ho.pos hs.pos
  have e : (o.1 * s.2 + s.1 * o.2) * M = o.2 * s.2 * (o.1 * x + s.1 * y) := by
    rw [Nat.add_mul, Nat.mul_add]
    congr 1
    · rw [hx]; ac_rfl
    · rw [hy]; ac_rfl
  have hg : 0 < Nat.gcd (o.1 * s.2 + s.1 * o.2) (o.2 * s.2) := Nat.gcd_pos_of_pos_right _ hD
  have hc := Nat.coprime_div_gcd_div_gcd hg
  obtain ⟨n', hn⟩ := Nat.gcd_dvd_left (o.1 * s.2 + s.1 * o.2) (o.2 * s.2)
  obtain ⟨b, hb⟩ := Nat.gcd_dvd_right (o.1 * s.2 + s.1 * o.2) (o.2 * s.2)
  show o.2 * s.2 / Nat.gcd (o.1 * s.2 + s.1 * o.2) (o.2 * s.2) ∣ M
  generalize Nat.gcd (o.1 * s.2 + s.1 * o.2) (o.2 * s.2) = g at hg hn hb hc ⊢
  generalize o.1 * s.2 + s.1 * o.2 = N at hn e hc
  generalize o.2 * s.2 = D at hb e hc ⊢
  subst hn hb
  rw [Nat.mul_div_cancel_left _ hg, Nat.mul_div_cancel_left _ hg] at hc
  rw [Nat.mul_div_cancel_left _ hg]
  have e2 : n' * M = b * (o.1 * x + s.1 * y) := Nat.eq_of_mul_eq_mul_left hg (by rw [← Nat.mul_assoc, ← Nat.mul_assoc]; exact e)
  have hc2 : Nat.Coprime b n' := Nat.Coprime.symm hc
  exact hc2.dvd_of_dvd_mul_left ⟨_, e2⟩
theorem sum_num {o s : S2} {n : Nat} (h1 : o.1 ≤ n * o.2) (h2 : s.1 ≤ s.2) : (sumN o s).1 ≤ (n + 1) * (sumN o s).2 := by
  refine low_num ?_
  have a1 := Nat.mul_le_mul_right s.2 h1
  have a2 := Nat.mul_le_mul_right o.2 h2
  have e : (n + 1) * (o.2 * s.2) = n * o.2 * s.2 + s.2 * o.2 := by rw [Nat.add_mul, Nat.one_mul, Nat.mul_assoc, Nat.mul_comm s.2]
  rw [e]
  exact Nat.add_le_add a1 a2
/-- the product of the wholes on the way to vs -/
def Mi (names : List Str) (us : List Unk) (vs : List Int) : Nat → Nat
  | 0 => 1
  | i + 1 => Mi names us vs i * (match us[i]? with | some u => wholeOf (envOf (kvZ names (vs.take i))) u.2 | none => 1)
theorem Mi_pre {names : List Str} {us : List Unk} {vs : List Int} {v : Int} : ∀ {i : Nat}, i ≤ vs.length → Mi names us (vs ++ [v]) i = Mi names us vs i
  | 0, _ => rfl
  | i + 1, h => by
    unfold Mi
    rw [Mi_pre (i := i) (by omega), List.take_append_of_le_length (by omega)]
structure WB (names : List Str) (us : List Unk) (i : Nat) (q : Way) : Prop where
  den : q.1.2 ∣ Mi names us q.2 i
  num : q.1.1 ≤ q.1.2
  bd : Mi names us q.2 i ≤ 2 ^ (12 * i)
  pos : 0 < Mi names us q.2 i
theorem stepOf_wb {n i : Nat} {us : List Unk} {u : Unk} {q : Way} (h : UOk n us) (hu : us[i]? = some u) (hq : WOk i q) (hb : WB (us.map (·.1)) us i q) : ∀ r ∈ stepOf (us.map (·.1)) u.2 q, WB (us.map (·.1)) us (i + 1) r := by
  intro r hr
  obtain ⟨p, hp, rfl⟩ := List.mem_map.mp hr
  obtain ⟨a, ha, rfl⟩ := List.mem_map.mp hp
  obtain ⟨ma, hne⟩ := List.mem_filter.mp ha
  have hne := of_decide_eq_true hne
  have hl := (h.alt i u hu).1
  have hw := whole_le fun a ha => (h.kn hu hq a ha).ok
  have hge := whole_ge (ρ := envOf (kvZ (us.map (·.1)) q.2)) ma
  have e1 : Mi (us.map (·.1)) us (q.2 ++ [a.2.val (envOf (kvZ (us.map (·.1)) q.2))]) (i + 1) = Mi (us.map (·.1)) us q.2 i * wholeOf (envOf (kvZ (us.map (·.1)) q.2)) u.2 := by
    show Mi (us.map (·.1)) us (q.2 ++ [_]) i * _ = _
    rw [Mi_pre (by rw [hq.len]; exact Nat.le_refl _), hu, List.take_append_of_le_length (by rw [hq.len]; exact Nat.le_refl _), List.take_of_length_le (by rw [hq.len]; exact Nat.le_refl _)]
  generalize wholeOf (envOf (kvZ (us.map (·.1)) q.2)) u.2 = W at hw hge e1
  refine ⟨?_, ?_, ?_, ?_⟩
  · show (mulN q.1 (lowN _ W)).2 ∣ Mi _ us (q.2 ++ [_]) (i + 1)
    rw [e1]
    exact low_den (Nat.mul_dvd_mul hb.den (low_den (Nat.dvd_refl _)))
  · show (mulN q.1 (lowN (wOf _ a) W)).1 ≤ (mulN q.1 (lowN (wOf _ a) W)).2
    have q1 : (lowN (wOf (envOf (kvZ (us.map (·.1)) q.2)) a) W).1 ≤ 1 * (lowN (wOf (envOf (kvZ (us.map (·.1)) q.2)) a) W).2 := low_num (by omega)
    have q2 := low_num (u := q.1.1 * (lowN (wOf (envOf (kvZ (us.map (·.1)) q.2)) a) W).1) (l := q.1.2 * (lowN (wOf (envOf (kvZ (us.map (·.1)) q.2)) a) W).2) (n := 1) (by rw [Nat.one_mul] at q1 ⊢; exact Nat.mul_le_mul hb.num q1)
    rw [Nat.one_mul] at q2
    exact q2
  · show Mi _ us (q.2 ++ [_]) (i + 1) ≤ _
    rw [e1, show 12 * (i + 1) = 12 * i + 12 by omega, Nat.pow_add]
    exact Nat.mul_le_mul hb.bd (by show W ≤ 4096; omega)
  · show 0 < Mi _ us (q.2 ++ [_]) (i + 1)
    rw [e1]
    exact Nat.mul_pos hb.pos (by omega)
theorem waysF_wb {n : Nat} {us : List Unk} (h : UOk n us) : ∀ i, i ≤ us.length → ∀ q ∈ waysF (us.map (·.1)) (us.take i), WB (us.map (·.1)) us i q
  | 0, _ => fun q hq => by
    have : q = ((1, 1), []) := by simpa [waysF] using hq
    subst this
    exact ⟨Nat.dvd_refl _, Nat.le_refl _, Nat.le_refl _, Nat.zero_lt_one⟩
  | i + 1, hi => by
    have h1 := waysF_wb h i (by omega)
    have hu : us[i]? = some us[i] := List.getElem?_eq_getElem (by omega)
    rw [waysF_snoc hu]
    intro r hr
    obtain ⟨q, hq, hr⟩ := List.mem_flatMap.mp hr
    exact stepOf_wb h hu ((waysF_ok h i (by omega)).1 q hq) (h1 q hq) r hr
/-- small shares by good values -/
structure TB (M : List Int → Nat) (B n i : Nat) (T : Tab) : Prop where
  ok : ∀ e ∈ T, ShN e.2 ∧ e.2.2 ∣ M e.1 ∧ e.2.1 ≤ n * e.2.2 ∧ M e.1 ≤ B ∧ 0 < M e.1 ∧ ValsOk e.1 ∧ e.1.length = i
theorem priorF_tb {us : List Unk} {m : Nat} (h : UOk m us) : ∀ n, n ≤ (waysU us).length → TB (fun k => Mi (us.map (·.1)) us k us.length) (2 ^ (12 * us.length)) n us.length (priorF ((waysU us).take n))
  | 0, _ => ⟨fun e he => by simp [priorF] at he⟩
  | n + 1, hn => by
    have ih := priorF_tb h n (by omega)
    have hq : (waysU us)[n]? = some (waysU us)[n] := List.getElem?_eq_getElem (by omega)
    have hm := List.mem_of_getElem? hq
    have ho := (waysU_ok h).1 _ hm
    have hb : WB (us.map (·.1)) us us.length (waysU us)[n] := by
      have := waysF_wb h us.length (Nat.le_refl _)
      rw [List.take_length] at this
      exact this _ hm
    rw [priorF_snoc hq]
    refine ⟨fun e he => ?_⟩
    generalize (waysU us)[n] = q at ho hb he
    have hM := hb.pos
    rcases mem_putT he with he | rfl
    · obtain ⟨a1, a2, a3, a4⟩ := ih.ok e he
      exact ⟨a1, a2, Nat.le_trans a3 (Nat.mul_le_mul_right _ (by omega)), a4⟩
    · cases eo : getT (priorF ((waysU us).take n)) q.2 with
      | none =>
        show ShN q.1 ∧ q.1.2 ∣ _ ∧ q.1.1 ≤ (n + 1) * q.1.2 ∧ _ ∧ _ ∧ _ ∧ _
        exact ⟨ho.sh, hb.den, Nat.le_trans hb.num (Nat.le_mul_of_pos_left _ (by omega)), hb.bd, hM, ho.vals, ho.len⟩
      | some o =>
        obtain ⟨a1, a2, a3, a4⟩ := ih.ok _ (getT_mem eo)
        show ShN (sumN o q.1) ∧ (sumN o q.1).2 ∣ _ ∧ (sumN o q.1).1 ≤ (n + 1) * (sumN o q.1).2 ∧ _ ∧ _ ∧ _ ∧ _
        exact ⟨sumN_ok a1 ho.sh, sum_den a1 ho.sh a2 hb.den, sum_num a3 hb.num, hb.bd, hM, ho.vals, ho.len⟩
end My
set_option Elab.async false
set_option maxRecDepth 100000
set_option linter.all false
namespace My
open PySem L2
structure F14 (d : PyData) (dep wt : Nat) : Prop where
  lv : d.leavesShort 14 = true
  sh : d.showable = true
  nd : d.hasDict = false
  dp : d.depth ≤ dep
  wt : d.weight ≤ wt
theorem F14.mono {d : PyData} {dep wt dep' wt' : Nat} (h : F14 d dep wt) (h1 : dep ≤ dep') (h2 : wt ≤ wt') : F14 d dep' wt' := ⟨h.lv, h.sh, h.nd, Nat.le_trans h.dp h1, Nat.le_trans h.wt h2⟩
structure F14All (ds : List PyData) (dep wt : Nat) : Prop where
  lv : PyData.leavesShortAll 14 ds = true
  sh : PyData.showableAll ds = true
  nd : PyData.hasDictAll ds = false
  dp : PyData.depthAll ds ≤ dep
  wt : PyData.weightAll ds ≤ wt
theorem F14All.nil {dep : Nat} : F14All [] dep 0 := ⟨rfl, rfl, rfl, Nat.zero_le _, Nat.le_refl _⟩
theorem F14All.cons {d : PyData} {ds : List PyData} {dep w w' : Nat} (h : F14 d dep w) (h' : F14All ds dep w') : F14All (d :: ds) dep (w + 1 + w') :=
  ⟨by simp [PyData.leavesShortAll, h.lv, h'.lv], by simp [PyData.showableAll, h.sh, h'.sh], by simp [PyData.hasDictAll, h.nd, h'.nd], by simp only [PyData.depthAll]; exact Nat.max_le.mpr ⟨h.dp, h'.dp⟩, by simp only [PyData.weightAll]; have := h.wt; have := h'.wt; omega⟩
theorem F14All.tuple {ds : List PyData} {dep w : Nat} (h : F14All ds dep w) : F14 (.tuple ds) (dep + 1) w :=
  ⟨by simpa [PyData.leavesShort] using h.lv, by simpa [PyData.showable] using h.sh, by simpa [PyData.hasDict] using h.nd, by simp only [PyData.depth]; have := h.dp; omega, by simpa [PyData.weight] using h.wt⟩
theorem F14All.list {ds : List PyData} {dep w : Nat} (h : F14All ds dep w) : F14 (.list ds) (dep + 1) w :=
  ⟨by simpa [PyData.leavesShort] using h.lv, by simpa [PyData.showable] using h.sh, by simpa [PyData.hasDict] using h.nd, by simp only [PyData.depth]; have := h.dp; omega, by simpa [PyData.weight] using h.wt⟩
theorem F14All.of : ∀ {ds : List PyData} {dep w : Nat}, (∀ d ∈ ds, F14 d dep w) → F14All ds dep (ds.length * (w + 1))
  | [], _, _, _ => ⟨rfl, rfl, rfl, Nat.zero_le _, Nat.zero_le _⟩
  | d :: ds, dep, w, h => by
    have q := F14All.cons (h d (by simp)) (F14All.of (ds := ds) (dep := dep) (w := w) fun x hx => h x (by simp [hx]))
    have e : w + 1 + ds.length * (w + 1) = (d :: ds).length * (w + 1) := by rw [List.length_cons, Nat.add_mul, Nat.one_mul]; omega
    rw [← e]
    exact q
theorem F14.int {i : Int} (h : i.natAbs ≤ 2 ^ 42) : F14 (.int i) 0 43 := by
  have hl : i.natAbs.log2 < 43 := by
    by_cases e : i.natAbs = 0
    · rw [e]; decide
    · exact (Nat.log2_lt e).mpr (Nat.lt_of_le_of_lt h (by decide))
  refine ⟨?_, ?_, rfl, Nat.le_refl _, ?_⟩
  · simp only [PyData.leavesShort]
    refine decide_eq_true ?_
    have q := int_text_length_le10 (a := i) (k := 13) (by decide) (Nat.lt_of_le_of_lt h (by decide))
    show (Str.ofString (toString i)).length ≤ 14
    rw [ofString_length]
    omega
  · simp only [PyData.showable, decide_eq_true_eq]
    omega
  · simp only [PyData.weight]
    split <;> omega
def itD (e : List Int × S2) : PyData := .tuple [.tuple (e.1.map PyData.int), s2D e.2]
theorem itD_tp (e : List Int × S2) : Tp (itD e) := .tup fun d h => by
  simp at h
  rcases h with rfl | rfl
  · exact .tup fun d h => by
      obtain ⟨y, _, rfl⟩ := List.mem_map.mp h
      constructor
  · exact s2D_tp _
def dueD (T : Tab) (ks : List (List Int)) : PyData := .list ((inOrder T ks).map itD)
theorem itD_f14 {e : List Int × S2} (h1 : e.1.length ≤ 3) (h2 : ValsOk e.1) (h3 : e.2.1 ≤ 2 ^ 42) (h4 : e.2.2 ≤ 2 ^ 42) : F14 (itD e) 2 300 := by
  have f1 := (F14All.of (ds := e.1.map PyData.int) (dep := 0) (w := 43) fun d hd => by
    obtain ⟨v, hv, rfl⟩ := List.mem_map.mp hd
    have := h2 v hv
    exact F14.int (Nat.le_trans (show v.natAbs ≤ 999 by omega) (by decide))).tuple
  have f2 : F14 (s2D e.2) 1 (43 + 1 + (43 + 1 + 0)) := (F14All.cons (F14.int (by rw [Int.natAbs_natCast]; exact h3)) (F14All.cons (F14.int (by rw [Int.natAbs_natCast]; exact h4)) F14All.nil)).tuple
  rw [List.length_map] at f1
  have f1' := f1.mono (dep' := 1) (Nat.le_refl _) (wt' := 132) (by omega)
  exact ((F14All.cons f1' (F14All.cons f2 F14All.nil)).tuple).mono (Nat.le_refl _) (by decide)
/-- an unknowns' table can be shown, in any order -/
theorem due_shows {us : List Unk} {m : Nat} {ks : List (List Int)} (h : UOk m us) (hl : us.length ≤ 3) (hp : ks.Perm ((priorF (waysU us)).map (·.1))) : (dueD (priorF (waysU us)) ks).showable = true ∧ (dueD (priorF (waysU us)) ks).depth ≤ 60 ∧ (dueD (priorF (waysU us)) ks).hasDict = false ∧ (dueD (priorF (waysU us)) ks).shown.length ≤ sizeLine := by
  have hW : (waysU us).length ≤ 64 := by
    have h1 := (waysF_ok h us.length (Nat.le_refl _)).2
    rw [List.take_length] at h1
    have h2 : 4 ^ us.length ≤ 4 ^ 3 := Nat.pow_le_pow_right (by decide) hl
    exact Nat.le_trans h1 h2
  have tb := priorF_tb h (waysU us).length (Nat.le_refl _)
  have tl := (priorF_ok (waysU_ok h).1 (waysU us).length (Nat.le_refl _)).2.1
  rw [List.take_length] at tb tl
  have hkl : ks.length ≤ 64 := by rw [hp.length_eq, List.length_map]; omega
  have hB : 2 ^ (12 * us.length) ≤ 2 ^ 36 := Nat.pow_le_pow_right (by decide) (by omega)
  have f : F14 (dueD (priorF (waysU us)) ks) 3 (64 * 301) := by
    have := (F14All.of (ds := (inOrder (priorF (waysU us)) ks).map itD) (dep := 2) (w := 300) fun d hd => by
      obtain ⟨e, he, rfl⟩ := List.mem_map.mp hd
      obtain ⟨k, hk, rfl⟩ := List.mem_map.mp he
      have hmem : k ∈ (priorF (waysU us)).map (·.1) := hp.mem_iff.mp hk
      obtain ⟨a1, a2, a3, a4, a5, a6, a7⟩ := tb.ok _ (getT_mem (pick_in hmem))
      have b1 : (pick (priorF (waysU us)) k).2 ≤ 2 ^ 36 := Nat.le_trans (Nat.le_of_dvd a5 a2) (Nat.le_trans a4 hB)
      have b2 : (pick (priorF (waysU us)) k).1 ≤ 64 * 2 ^ 36 := Nat.le_trans a3 (Nat.mul_le_mul hW b1)
      refine itD_f14 (by show k.length ≤ 3; have : k.length = us.length := a7; omega) a6 ?_ ?_
      · exact Nat.le_trans b2 (by decide)
      · exact Nat.le_trans b1 (by decide)).list
    refine this.mono (Nat.le_refl _) ?_
    rw [List.length_map]
    unfold inOrder
    rw [List.length_map]
    exact Nat.mul_le_mul_right _ hkl
  refine ⟨f.sh, Nat.le_trans f.dp (by decide), f.nd, ?_⟩
  have q := PyData.shown_le 14 (by decide) _ f.lv
  have q2 := Nat.mul_le_mul_left 16 f.wt
  have e : (sizeLine : Nat) = 16777216 := by decide
  omega
theorem lex_anti : ∀ {a b : List Int}, HT.lexLt a b = false → HT.lexLt b a = false → a = b
  | [], [], _, _ => rfl
  | [], _ :: _, h, _ => by cases h
  | _ :: _, [], _, h => by cases h
  | x :: r, y :: t, h1, h2 => by
    rw [HT.lexLt_cons] at h1 h2
    by_cases e : x = y
    · subst e
      rw [if_pos rfl] at h1 h2
      rw [lex_anti h1 h2]
    · rw [if_neg e] at h1
      rw [if_neg (fun z => e z.symm)] at h2
      have h1 := of_decide_eq_false h1
      have h2 := of_decide_eq_false h2
      omega
theorem one_order {ks ks' L : List (List Int)} (h1 : ks.Perm L) (h2 : ks'.Perm L) (p1 : ks.Pairwise lexLe) (p2 : ks'.Pairwise lexLe) : ks = ks' := List.Perm.eq_of_pairwise (le := lexLe) (fun a b _ _ h h' => lex_anti h' h) p1 p2 (h1.trans h2.symm)
theorem add_due {T : Tab} {k : List Int} {s : S2} {n : Nat} (hT : TOk n T) (hs : ShN s) : putT T k (lsum [(getT T k).getD (0, 1), s]) = addT T k s := by
  unfold addT
  cases e : getT T k with
  | none =>
    show putT T k (lsum [(0, 1), s]) = putT T k s
    rw [lsum_two sh01, sumN_0 hs]
  | some o =>
    show putT T k (lsum [o, s]) = putT T k (sumN o s)
    rw [lsum_two (hT _ (getT_mem e)).1]
end My
set_option Elab.async false
set_option maxRecDepth 100000
set_option linter.all false
namespace My
open PySem L2
def spLaw (K : PySem.W.Frag) : Sp := fun vs H Q _ => ∃ (a : Addr) (ns : List Int), vs = [.ref a] ∧ SqL K H a (ns.map V.int) ∧ ns.length ≤ 63 ∧ ∀ H', Q (.bl true) H'
/-- a book and what is due -/
def CaseAt (K : PySem.W.Frag) (d l C : Addr) (H : Hp) (v : V) : Prop := ∃ (t bk dl : Addr) (t0 : V) (rest : List V) (us : List Unk) (ks : List (List Int)) (its : List V), v = .ref t ∧ SqT K H t [.ref bk, .ref dl] ∧ SqT K H bk (t0 :: rest) ∧ Dp K H t0 (.tuple (us.map unkD)) ∧ UOk 7 us ∧ us.length ≤ 3 ∧
  H dl = some (.lst its) ∧ DpAll K H its ((inOrder (priorF (waysU us)) ks).map itD) ∧ ks.Perm ((priorF (waysU us)).map (·.1)) ∧ ks.Pairwise lexLe ∧ dl ≠ d ∧ dl ≠ l ∧ dl ≠ C
structure KC (d l C : Addr) (H H' : Hp) : Prop where
  kt : KT H H'
  ls : ∀ b xs, H b = some (.lst xs) → b ≠ d → b ≠ l → b ≠ C → H' b = some (.lst xs)
theorem KC.trans {d l C : Addr} {H H1 H2 : Hp} (a : KC d l C H H1) (b : KC d l C H1 H2) : KC d l C H H2 := ⟨a.kt.trans b.kt, fun c xs h h1 h2 h3 => b.ls c xs (a.ls c xs h h1 h2 h3) h1 h2 h3⟩
theorem kc_same {d l C : Addr} {H H' : Hp} (s : Same H H') : KC d l C H H' := ⟨kt_same s, fun _ _ h _ _ _ => s _ _ h⟩
theorem kc_ext {d l C : Addr} {H H' : Hp} (x : Ext d l H H') (D : Deal H d l) : KC d l C H H' := ⟨kt_ext x D, fun b _ h h1 h2 _ => x b _ h h1 h2⟩
theorem kc_app {d l C : Addr} {H : Hp} {xs : List V} (h : H C = some (.lst xs)) (o : HO) : KC d l C H (upd H C o) := ⟨kt_lst h o, fun b _ q _ _ h3 => by rw [upd_ne h3]; exact q⟩
theorem CaseAt.kc {K : PySem.W.Frag} {d l C : Addr} {H H' : Hp} {v : V} (h : CaseAt K d l C H v) (k : KC d l C H H') : CaseAt K d l C H' v := by
  obtain ⟨t, bk, dl, t0, rest, us, ks, its, e, h1, h2, h3, h4, h5, h6, h7, h8, h9, n1, n2, n3⟩ := h
  exact ⟨t, bk, dl, t0, rest, us, ks, its, e, sqt_kt h1 k.kt, sqt_kt h2 k.kt, Dp.kt k.kt _ _ (.tup fun d hd => by obtain ⟨y, _, rfl⟩ := List.mem_map.mp hd; exact unkD_tp y) h3, h4, h5, k.ls _ _ h6 n1 n2 n3, all_kt itD_tp k.kt h7, h8, h9, n1, n2, n3⟩
theorem get_map' {α β : Type} {f : α → β} {xs : List α} {i : Nat} {y : β} (h : (xs.map f)[i]? = some y) : ∃ z, xs[i]? = some z ∧ y = f z := by
  rw [List.getElem?_map] at h
  cases e : xs[i]? with
  | none => rw [e] at h; cases h
  | some z => rw [e] at h; exact ⟨z, rfl, (Option.some.inj h).symm⟩
theorem DpAll.by_get {K : PySem.W.Frag} {H : Hp} : ∀ {xs : List V} {ds : List PyData}, xs.length = ds.length → (∀ (j : Nat) (x : V) (d : PyData), xs[j]? = some x → ds[j]? = some d → Dp K H x d) → DpAll K H xs ds
  | [], [], _, _ => .nil
  | x :: xs, d :: ds, h, hr => .cons (hr 0 x d rfl rfl) (DpAll.by_get (by simpa using h) fun j a b ha hb => hr (j + 1) a b ha hb)
  | [], _ :: _, h, _ => by simp at h
  | _ :: _, [], h, _ => by simp at h
theorem TAt.get {K : PySem.W.Frag} {H : Hp} : ∀ {kvs : List (List Key × V)} {T : Tab} {j : Nat} {e : List Int × S2}, TAt K H kvs T → T[j]? = some e → ∃ v, kvs[j]? = some (kL e.1, v) ∧ Dp K H v (s2D e.2)
  | _, _, 0, _, .cons a _, h => by cases h; exact ⟨_, rfl, a⟩
  | _, _, j + 1, _, .cons _ r, h => TAt.get (j := j) r h
section
variable {P : Program} {w : World} {K : PySem.W.Frag} {mg : Str → Option Value} {base : Heap}
set_option maxHeartbeats 8000000 in
theorem ok_law {f : Addr} {fd : FuncData} (F : Fun K "law" "law" s_law f fd) (Z : Zb mg) (G_L_deal : FnIn P w K mg base 1 "_law_deal" ps_L_deal (spDeal K)) (G_L_draw : FnIn P w K mg base 1 "_law_draw" ps_L_draw spDraw) (G_L_words : FnIn P w K mg base 2 "_law_words" ps_L_words spWords) (G_L_unknowns : FnIn P w K mg base 7 "_law_unknowns" ps_L_unknowns (spUnk K)) (G_L_choices : FnIn P w K mg base 42 "_law_choices" ps_L_choices (spWays K 7))
    (G_L_sum : FnIn P w K mg base 41 "_law_sum" ps_L_sum (spLSum K)) (G_prior_of : FnIn P w K mg base 43 "prior_of" ps_prior_of (spPrior K 7)) : FnOk P w K mg base CX0 44 f fd ps_law (spLaw K) := by
  refine F.ok sc_law (fun vs H Q E h => ?_) (fun cdv A outer s H vs Q E hr h => ?_)
  · obtain ⟨a, ns, rfl, _⟩ := h
    rfl
  · obtain ⟨a, ns, rfl, hS, h63, k⟩ := h
    have hu := hu_of hr
    refine ⟨_, (pss_cons (ps_set (i := 1) sc_law.nd rfl (by first | exact Or.inl rfl | exact Or.inr rfl) (pe_fn G_L_deal hr rfl (pa_cons (pv 0) (pa_cons pe_int pa_nil))))
      (pss_cons (ps_set (i := 2) sc_law.nd rfl (by first | exact Or.inl rfl | exact Or.inr rfl) (pe_lst pa_nil))
      (pss_cons (ps_for PassesOwn.never rfl (pi_range1 (by rfl) Z.range (pa_cons (pe_op op_add pe_int (pe_fn G_L_draw hr rfl (pa_cons (pv 1) (pa_cons pe_int pa_nil)))) pa_nil)) (pg_name (i := 3) sc_law.nd rfl (by first | exact Or.inl rfl | exact Or.inr rfl)) (pss_cons (ps_set (i := 4) sc_law.nd rfl (by first | exact Or.inl rfl | exact Or.inr rfl) (pe_fn G_L_words hr rfl (pa_cons (pv 1) (pa_cons pe_int pa_nil))))
      (pss_cons (ps_asg (pe_tup (pa_cons (pe_tup (pa_cons (pe_fn G_L_unknowns hr rfl (pa_cons (pv 1) (pa_cons (pv 4) pa_nil))) (pa_cons (pe_callTy call_tuple_of (by rfl) Z.tuple (by decide +kernel) (pa_cons (pe_slice sl_list (pv 4) (po_some pe_int) (po_some (pe_op op_add pe_int (pe_fn G_L_draw hr rfl (pa_cons (pv 1) (pa_cons pe_int pa_nil)))))) pa_nil)) (pa_cons (pe_tup pa_nil) pa_nil)))) (pa_cons pe_dnewT pa_nil))) (pg_tup rfl (pgs_cons (pg_name (i := 5) sc_law.nd rfl (by first | exact Or.inl rfl | exact Or.inr rfl)) (pgs_cons (pg_name (i := 6) sc_law.nd rfl (by first | exact Or.inl rfl | exact Or.inr rfl)) pgs_nil))))
      (pss_cons (ps_for PassesOwn.never rfl (pi_list (pe_fn G_L_choices hr rfl (pa_cons (pv 5) pa_nil))) (pg_tup rfl (pgs_cons (pg_name (i := 7) sc_law.nd rfl (by first | exact Or.inl rfl | exact Or.inr rfl)) (pgs_cons (pg_name (i := 8) sc_law.nd rfl (by first | exact Or.inl rfl | exact Or.inr rfl)) pgs_nil))) (pss_one (ps_dput hu (pv 6) (pv 8) (pe_fn G_L_sum hr rfl (pa_cons (pe_lst (pa_cons (pe_dget2 hu (pv 6) (pv 8) (pe_tup (pa_cons pe_int (pa_cons pe_int pa_nil))) ⟨by rfl, by rfl, by rfl, by rfl⟩) (pa_cons (pv 7) pa_nil))) pa_nil)) rfl)))
      (pss_one (ps_expr (pe_bm PySem.F.plainAttrs_list PySem.F.slot_list_append PySem.F.type_list_append mt_append (pv 2) (pa_cons (pe_tup (pa_cons (pv 5) (pa_cons (pe_lc (own := [("_law_values", 8)]) (g := gName 8) (by rfl) sc_law.nd (pi_list (pe_callB (cr_sortedTD rfl) (by rfl) Z.sorted (by decide +kernel) (pa_cons (pv 6) pa_nil))) (blkOk_by (own := [("_law_values", 8)]) (N := nm_law) (sc := defScope s_law) (by decide +kernel)) (fun _ _ _ _ _ => (pg_name (i := 8) sc_law.nd rfl (by first | exact Or.inl rfl | exact Or.inr rfl))) (fun _ _ _ _ _ => pts_nil) (fun _ _ _ _ _ => (pe_tup (pa_cons (pv 8) (pa_cons (pe_dget hu (pv 6) (pv 8) (fun _ _ => rfl)) pa_nil))))) pa_nil))) pa_nil))))))))
      (pss_cons (ps_for PassesOwn.never rfl (pi_list (pe_op op_cat (pv 2) (pe_slice sl_list (pv 2) po_none (po_some pe_int)))) (pg_tup rfl (pgs_cons (pg_name (i := 5) sc_law.nd rfl (by first | exact Or.inl rfl | exact Or.inr rfl)) (pgs_cons (pg_name (i := 6) sc_law.nd rfl (by first | exact Or.inl rfl | exact Or.inr rfl)) pgs_nil))) (pss_one (ps_for PassesOwn.never rfl (pi_range1 (by rfl) Z.range (pa_cons pe_int pa_nil)) (pg_name (i := 3) sc_law.nd rfl (by first | exact Or.inl rfl | exact Or.inr rfl)) (pss_cons (ps_set (i := 9) sc_law.nd rfl (by first | exact Or.inl rfl | exact Or.inr rfl) (pe_fn G_prior_of hr rfl (pa_cons (pv 5) pa_nil)))
      (pss_cons (ps_if (PW.pt (pw_or (pt_not (pt_val (pe_callB call_isi_dictT (by rfl) Z.isinstance (by decide +kernel) (pa_cons (pv 9) (pa_cons (pe_bltn (v := .ty "dict") (by rfl) Z.dict (by decide +kernel) rfl) pa_nil))))) (pw_or1 (pt_cmpR op_ne (pe_callB (call_repr_data hr.gd hr.units) (by rfl) Z.repr (by decide +kernel) (pa_cons (pe_listitemsT rfl rfl Z.list (pv 9)) pa_nil)) (pe_callB (call_repr_data hr.gd hr.units) (by rfl) Z.repr (by decide +kernel) (pa_cons (pv 6) pa_nil)) (nomark _))))) (pss_one (ps_ret pe_bl)) pss_nil)
      (pss_cons (ps_expr (pe_bm0 PySem.F.plainAttrs_dict PySem.F.slot_dict_clear PySem.F.type_dict_clear mt_dclearT (pv 9)))
      (pss_one (ps_dput hu (pv 9) (pe_tup (pa_cons pe_int pa_nil)) (pe_tup (pa_cons pe_int (pa_cons pe_int pa_nil))) rfl))))))))
      (pss_one (ps_ret pe_bl)))))), ?_⟩
    refine ⟨_, rfl, a, ns, rfl, hS, h63, fun d l H1 hd hl D1 s1 => ?_⟩
    refine ⟨(by show 0 ≤ sizeLine; decide), fun C hC => ?_⟩
    have s2 := same_new hC (.lst [])
    have gC : upd H1 C (.lst []) C = some (.lst []) := upd_same
    generalize upd H1 C (.lst []) = H2 at s2 gC ⊢
    obtain ⟨nCd, nCl⟩ := D1.nn hC
    have D2 := D1.same s2
    refine ⟨_, rfl, d, l, 3, rfl, D2, by decide, by decide, fun r1 H3 r10 r11 D3 x3 => ⟨_, _, rfl, rfl, _, rfl, by omega, by omega, ?_⟩⟩
    refine for_range (lo := 0) (n := (1 + r1).toNat) (fun i σ Hi => ∃ (o3 o4 o5 o6 o7 o8 : Option V) (vs : List V), σ = [some (.ref a), some (.ref d), some (.ref C), o3, o4, o5, o6, o7, o8, none] ∧ Deal Hi d l ∧ Hi C = some (.lst vs) ∧ (∀ v ∈ vs, CaseAt K d l C Hi v) ∧ vs.length ≤ i)
      ⟨_, _, _, _, _, _, [], rfl, D3, x3 C _ gC nCd nCl, by simp, Nat.le_refl _⟩ ?_ ?_
    · rintro i σ Hi hi ⟨o3, o4, o5, o6, o7, o8, vs, rfl, Di, gCi, hcs, hvl⟩
      refine ⟨_, rfl, d, l, rfl, Di, fun wl ws H4 hwl D4 x4 gw hlw hokw nwd nwl => ?_⟩
      have kc := kc_ext (C := C) x4 Di
      have gC4 := x4 C _ gCi nCd nCl
      refine ⟨_, rfl, _, rfl, d, l, wl, ws, rfl, D4, ⟨gw, nwd, nwl, hokw, by omega⟩, by omega, fun v us H5 D5 x5 dv hl3 hub => ?_⟩
      have kc := kc.trans (kc_ext (C := C) x5 D4)
      have gC5 := x5 C _ gC4 nCd nCl
      have gw5 := x5 wl _ gw nwd nwl
      refine ⟨_, rfl, _, rfl, _, rfl, d, l, 3, rfl, D5, by decide, by decide, fun r5 H6 r50 r51 D6 x6 => ⟨_, _, rfl, rfl, _, rfl, wl, _, rfl, SqL.of (x6 wl _ gw5 nwd nwl), fun sl hsl => ?_⟩⟩
      have dv6 : Dp K H6 v (.tuple (us.map unkD)) := Dp.kt (kt_ext x6 D5) _ _ (.tup fun d hd => by obtain ⟨y, _, rfl⟩ := List.mem_map.mp hd; exact unkD_tp y) dv
      have kc := kc.trans (kc_ext (C := C) x6 D5)
      have gC6 := x6 C _ gC5 nCd nCl
      generalize cutV (ws.map V.str) (some 3) (some (3 + r5)) = cut at hsl ⊢
      have s7 : Same H6 (upd H6 sl (.lst cut)) := same_new hsl _
      have g7 : upd H6 sl (.lst cut) sl = some (.lst cut) := upd_same
      generalize upd H6 sl (.lst cut) = H7 at s7 g7 ⊢
      refine ⟨sl, cut, rfl, .inl ⟨SqL.of g7, ?_⟩⟩
      refine (fun tt htt => ?_)
      have s8 := same_new htt (.tup cut)
      have g8 : upd H7 tt (.tup cut) tt = some (.tup cut) := upd_same
      generalize upd H7 tt (.tup cut) = H8 at s8 g8 ⊢
      refine ⟨(by show 0 ≤ sizeLine; decide), fun e0 he0 => ?_⟩
      have s9 := same_new he0 (.tup [])
      have g9 : upd H8 e0 (.tup []) e0 = some (.tup []) := upd_same
      generalize upd H8 e0 (.tup []) = H9 at s9 g9 ⊢
      refine ⟨(by show 3 ≤ sizeLine; decide), fun bk hbk => ?_⟩
      have s10 := same_new hbk (.tup [v, .ref tt, .ref e0])
      have g10 : upd H9 bk (.tup [v, .ref tt, .ref e0]) bk = some (.tup [v, .ref tt, .ref e0]) := upd_same
      generalize upd H9 bk (.tup [v, .ref tt, .ref e0]) = H10 at s10 g10 ⊢
      refine (fun p hp => ?_)
      have s11 := same_new hp (.dT [])
      have g11 : upd H10 p (.dT []) p = some (.dT []) := upd_same
      generalize upd H10 p (.dT []) = H11 at s11 g11 ⊢
      refine ⟨(by show 2 ≤ sizeLine; decide), fun ot hot => ?_⟩
      have s12 := same_new hot (.tup [.ref bk, .ref p])
      have g12 : upd H11 ot (.tup [.ref bk, .ref p]) ot = some (.tup [.ref bk, .ref p]) := upd_same
      generalize upd H11 ot (.tup [.ref bk, .ref p]) = H12 at s12 g12 ⊢
      have s610 := ((s7.trans s8).trans s9).trans s10
      have dv10 : Dp K H10 v (.tuple (us.map unkD)) := Dp.kt (kt_same s610) _ _ (.tup fun d hd => by obtain ⟨y, _, rfl⟩ := List.mem_map.mp hd; exact unkD_tp y) dv6
      have kc := kc.trans (kc_same (d := d) (l := l) (C := C) s610)
      have gC10 := s610 _ _ gC6
      have D10 := D6.same s610
      have huo := hub.uok hl3
      have s1012 := s11.trans s12
      refine ⟨ot, _, rfl, SqT.of g12, rfl, _, _, rfl, _, _, rfl, rfl, ?_⟩
      refine ⟨_, rfl, bk, v, _, us, rfl, SqT.of (s1012 _ _ g10), Dp.kt (kt_same s1012) _ _ (.tup fun d hd => by obtain ⟨y, _, rfl⟩ := List.mem_map.mp hd; exact unkD_tp y) dv10, huo, fun L lw H13 hL s13 gL wL => ?_⟩
      obtain ⟨hW, hWl⟩ := waysU_ok huo
      have hWl4 : (waysU us).length ≤ 64 := by
        have h1 := (waysF_ok huo us.length (Nat.le_refl _)).2
        rw [List.take_length] at h1
        have h2 : 4 ^ us.length ≤ 4 ^ 3 := Nat.pow_le_pow_right (by decide) hl3
        exact Nat.le_trans h1 h2
      have hnd := nodup_priorF (waysU us)
      have hpk := (priorF_ok hW (waysU us).length (Nat.le_refl _))
      rw [List.take_length] at hpk
      generalize hWs : waysU us = W at wL hW hWl hWl4 hnd hpk
      have hwl2 := WAt.len wL
      have hLp : L ≠ p := fun z => by rw [z, s12 _ _ g11] at hL; cases hL
      have s1013 := s1012.trans s13
      refine ⟨L, rfl, ⟨lw, SqL.of gL⟩, for_list (K := K) (a := L) (xs := lw) (fun j σ Hj => ∃ (kvs : List (List Key × V)) (o7 o8 : Option V), σ = [some (.ref a), some (.ref d), some (.ref C), some (.int (0 + (i : Nat))), some (.ref wl), some (.ref bk), some (.ref p), o7, o8, none] ∧ KL H13 Hj ∧ Same H10 Hj ∧ Hj L = some (.lst lw) ∧ Hj p = some (.dT kvs) ∧ TAt K Hj kvs (priorF (W.take j)))
        ⟨[], _, _, rfl, KL.refl _, s1013, gL, s13 _ _ (s12 _ _ g11), .nil⟩ (fun j σ Hj _ ⟨_, _, _, _, _, _, q, _⟩ => SqL.of q) ?_ ?_⟩
      · rintro j x σ Hj hx ⟨kvs, p7, p8, rfl, klj, sj, gLj, gpj, hT⟩
        have hjl := lt_of_get hx
        obtain ⟨q, hq, dq⟩ := WAt.get wL hx
        obtain ⟨t, sv, tv, rfl, e1, e2, e3⟩ := dq.kl klj
        have hqo := hW q (List.mem_of_getElem? hq)
        obtain ⟨p1, p2, p3⟩ := priorF_ok hW j (by omega)
        refine ⟨t, _, rfl, SqT.of e1, rfl, _, _, rfl, _, _, rfl, rfl, ?_⟩
        have hkt : Hj tv = some (.tup ((kL q.2).map kV)) := by rw [kL_V]; exact e3
        have hval := hT.val (k := q.2)
        have hb1 : j * (12 * us.length + 1) ≤ 64 * 37 := Nat.mul_le_mul (by omega) (by omega)
        have eadd := add_due (k := q.2) p1 hqo.sh
        have esn := priorF_snoc hq
        have p1' : ∀ s2, getT (priorF (W.take j)) q.2 = some s2 → ShN s2 ∧ Bd (64 * 37) s2 := fun s2 h2 => ⟨(p1 _ (getT_mem h2)).1, (p1 _ (getT_mem h2)).2.mono hb1⟩
        generalize priorF (W.take j) = T at hT hval eadd esn p1' p2
        refine ⟨_, rfl, p, rfl, .inr ⟨kvs, .inl gpj⟩, _, rfl, ?_⟩
        refine ⟨(by show 2 ≤ sizeLine; decide), fun z hz => ?_⟩
        have sa := same_new hz (.tup [.int 0, .int 1])
        have ga : upd Hj z (.tup [.int 0, .int 1]) z = some (.tup [.int 0, .int 1]) := upd_same
        generalize upd Hj z (.tup [.int 0, .int 1]) = Ha at sa ga ⊢
        have gpa := sa _ _ gpj
        have hget : DGet Ha p (.ref tv) (valV kvs (kL q.2)) := DGet.t gpa (sa _ _ hkt)
        have hov : Dp K Ha ((valV kvs (kL q.2)).getD (.ref z)) (s2D ((getT T q.2).getD (0, 1))) ∧ ShN ((getT T q.2).getD (0, 1)) ∧ Bd (64 * 37) ((getT T q.2).getD (0, 1)) := by
          cases eg : getT T q.2 with
          | none =>
            rw [hval.2 eg]
            exact ⟨sh_dp (s := (0, 1)) ga, sh01, (show Bd 0 (0, 1) from ⟨by decide, by decide⟩).mono (by omega)⟩
          | some o =>
            obtain ⟨vo, e5, e6⟩ := hval.1 o eg
            rw [e5]
            exact ⟨Dp.kt (kt_same sa) _ _ (s2D_tp _) e6, p1' o eg⟩
        generalize hoe : (valV kvs (kL q.2)).getD (.ref z) = ov at hov
        generalize hse : (getT T q.2).getD (0, 1) = os at hov eadd
        refine ⟨_, hget, ?_⟩
        rw [hoe]
        refine ⟨_, rfl, (by show 2 ≤ sizeLine; decide), fun a2 ha2 => ?_⟩
        have sb := same_new ha2 (.lst [ov, sv])
        have gb : upd Ha a2 (.lst [ov, sv]) a2 = some (.lst [ov, sv]) := upd_same
        generalize upd Ha a2 (.lst [ov, sv]) = Hb at sb gb ⊢
        have sab := sa.trans sb
        refine ⟨a2, [ov, sv], [os, q.1], 64 * 37, rfl, SqL.of gb, .cons (Dp.kt (kt_same sb) _ _ (s2D_tp _) hov.1) (.cons (Dp.kt (kt_same sab) _ _ (s2D_tp _) e2) .nil), fun s2 hs2 => ?_, by decide, (by show (64 * 37 + 1) * 2 < 27000; decide), fun t2 Hc sc gc => ?_⟩
        · simp only [List.mem_cons, List.not_mem_nil, or_false] at hs2
          rcases hs2 with rfl | rfl
          · exact hov.2
          · exact ⟨hqo.sh, hqo.bd.mono (by omega)⟩
        · have sac := sab.trans sc
          have gpc := sac _ _ gpj
          refine ⟨_, rfl, _, rfl, p, _, rfl, DPut.t gpc (sac _ _ hkt) (by rw [hT.len]; exact sz (m := 100) (by omega)), ?_⟩
          have klc : KL Hj (upd Hc p (.dT (putK kvs (kL q.2) (.ref t2)))) := (kl_same sac).trans (kl_dt gpc _)
          refine ⟨_, _, _, rfl, klj.trans klc, same_upd (sj.trans sac) hp _, by rw [upd_ne hLp]; exact sac _ _ gLj, upd_same, ?_⟩
          rw [esn, ← eadd]
          exact ((hT.kt (kt_same sac)).put (sh_dp gc)).kt (kl_dt gpc _).kt
      · rintro σ Hj ⟨kvs, p7, p8, rfl, klj, sj, gLj, gpj, hT⟩
        rw [hwl2, List.take_length] at hT
        obtain ⟨q1, q2, q3⟩ := hpk
        have hcond : ((priorF W).map (·.1)).length ≤ 1 ∨ ∀ ks ∈ (priorF W).map (·.1), ks ≠ [] := by
          by_cases h0 : us.length = 0
          · left
            have hW1 : W.length ≤ 1 := by
              rw [← hWs]
              have h1 := (waysF_ok huo us.length (Nat.le_refl _)).2
              rw [List.take_length, h0] at h1
              exact h1
            rw [List.length_map]; omega
          · right
            intro ks hks z
            obtain ⟨e, he, rfl⟩ := List.mem_map.mp hks
            have := q3 e he
            rw [z] at this
            exact h0 this.symm
        generalize hTT : priorF W = T at hT hnd q1 q2 q3 hcond
        refine ⟨_, rfl, .inl ⟨rfl, _, SqL.of (sj _ _ gC10)⟩, _, rfl, _, rfl, p, kvs, T.map (·.1), rfl, .inl gpj, hT.keys, hcond, fun sa qs' ks' hpm hpw hal hsa => ⟨sa, rfl, ⟨_, SqL.of upd_same⟩, fun dl hdl => ?_⟩⟩
        have s14 : Same Hj (upd Hj sa (.lst (qs'.map V.ref))) := same_new hsa _
        have gsa : upd Hj sa (.lst (qs'.map V.ref)) sa = some (.lst (qs'.map V.ref)) := upd_same
        generalize upd Hj sa (.lst (qs'.map V.ref)) = H14 at s14 gsa hdl ⊢
        have s1014 := sj.trans s14
        obtain ⟨nld, nll⟩ := (D10.same s1014).nn hdl
        have nlC : dl ≠ C := Ne.symm (ne_of_none (s1014 _ _ gC10) hdl)
        have hlq : qs'.length = ks'.length := paired_size hal
        have hlk : ks'.length = T.length := by rw [hpm.length_eq, List.length_map]
        have gp4 := s14 _ _ gpj
        refine lc_list (K := K) (a := sa) (xs := qs'.map V.ref) (fun j H15 => Same H14 H15 ∧ ∃ its, H15 dl = some (.lst its) ∧ DpAll K H15 its ((inOrder T (ks'.take j)).map itD)) ⟨same_new hdl _, [], upd_same, .nil⟩ (fun j H15 _ q => SqL.of (q.1 _ _ gsa)) ?_ ?_
        · rintro j x H15 hx ⟨s15, its, g15, t15⟩
          have hjl := lt_of_get hx
          rw [List.length_map] at hjl
          obtain ⟨q, hq, rfl⟩ := get_map hx
          obtain ⟨ks, hks, hlv⟩ := paired_at hal hq
          have hmem : ks ∈ T.map (·.1) := hpm.mem_iff.mp (List.mem_of_getElem? hks)
          have hlv5 := s15 _ _ (s14 _ _ hlv)
          have hlv6 : H15 q = some (.tup ((kL ks).map kV)) := by rw [kL_V]; exact hlv5
          have gp5 := s15 _ _ gp4
          obtain ⟨v2, ev, dv2⟩ := ((hT.kt (kt_same s14)).kt (kt_same s15)).val (k := ks) |>.1 _ (pick_in hmem)
          have hget : DGet H15 p (.ref q) (some v2) := by rw [← ev]; exact DGet.t gp5 hlv6
          have hil := DpAll.len t15
          unfold inOrder at hil
          rw [List.length_map, List.length_map, List.length_take] at hil
          refine ⟨rfl, _, rfl, _, rfl, _, rfl, p, v2, rfl, hget, ?_⟩
          refine ⟨(by show 2 ≤ sizeLine; decide), fun it hit => ?_⟩
          have s16 := same_new hit (.tup [.ref q, v2])
          have g16 : upd H15 it (.tup [.ref q, v2]) it = some (.tup [.ref q, v2]) := upd_same
          generalize upd H15 it (.tup [.ref q, v2]) = H16 at s16 g16 ⊢
          have g15' := s16 _ _ g15
          refine ⟨its, g15', sz (m := 1000) (by omega), same_upd (s15.trans s16) hdl _, its ++ [.ref it], upd_same, ?_⟩
          have kk : KT H16 (upd H16 dl (.lst (its ++ [.ref it]))) := kt_lst g15' _
          have e2 : inOrder T (ks'.take (j + 1)) = inOrder T (ks'.take j) ++ [(ks, pick T ks)] := by
            rw [take_snoc hks]
            unfold inOrder
            rw [List.map_append]
            rfl
          rw [e2, List.map_append]
          refine DpAll.app (all_kt itD_tp ((kt_same s16).trans kk) t15) (.cons (Dp.kt kk _ _ (itD_tp _) ?_) .nil)
          exact .tup (SqT.of g16) (.cons (.tup (SqT.of (s16 _ _ hlv5)) (ints_dp ks)) (.cons (Dp.kt (kt_same s16) _ _ (s2D_tp _) dv2) .nil))
        · rintro H15 ⟨s15, its, g15, t15⟩
          rw [List.length_map, hlq, List.take_length] at t15
          refine ⟨(by show 2 ≤ sizeLine; decide), fun ct hct => ?_⟩
          have s16 := same_new hct (.tup [.ref bk, .ref dl])
          have g16 : upd H15 ct (.tup [.ref bk, .ref dl]) ct = some (.tup [.ref bk, .ref dl]) := upd_same
          generalize upd H15 ct (.tup [.ref bk, .ref dl]) = H16 at s16 g16 ⊢
          have s1016 := (s1014.trans s15).trans s16
          have gC16 := s1016 _ _ gC10
          have kcf := (kc.trans (kc_same (d := d) (l := l) (C := C) s1016)).trans (kc_app gC16 (.lst (vs ++ [.ref ct])))
          refine ⟨C, vs, _, rfl, rfl, gC16, sz (m := 1000) (by omega), _, _, _, _, _, _, vs ++ [.ref ct], rfl, (D10.same s1016).pt nCd nCl _, upd_same, fun v0 hv0 => ?_, by rw [List.length_append]; show vs.length + 1 ≤ _; omega⟩
          rcases List.mem_append.mp hv0 with hv0 | hv0
          · exact (hcs v0 hv0).kc kcf
          · rw [List.mem_singleton.mp hv0]
            refine CaseAt.kc ?_ (kc_app (d := d) (l := l) gC16 (.lst (vs ++ [.ref ct])))
            refine ⟨ct, bk, dl, v, _, us, ks', its, rfl, SqT.of g16, SqT.of (s1016 _ _ g10), Dp.kt (kt_same s1016) _ _ (.tup fun d hd => by obtain ⟨y, _, rfl⟩ := List.mem_map.mp hd; exact unkD_tp y) dv10, huo, hl3, s16 _ _ g15, ?_, ?_, hpw, nld, nll, nlC⟩
            · rw [hWs, hTT]; exact all_kt itD_tp (kt_same s16) t15
            · rw [hWs, hTT]; exact hpm
    · rintro σ Hi ⟨o3, o4, o5, o6, o7, o8, vs, rfl, Di, gCi, hcs, hvl⟩
      refine ⟨_, rfl, _, rfl, _, rfl, C, vs, rfl, SqL.of gCi, fun sl hsl => ?_⟩
      have hcutm : ∀ v ∈ cutV vs none (some 1), v ∈ vs := fun v hv => List.mem_of_mem_drop (List.mem_of_mem_take hv)
      have hcutl : (cutV vs none (some 1)).length ≤ vs.length := by
        unfold cutV
        rw [List.length_take, List.length_drop]
        omega
      generalize cutV vs none (some 1) = cut at hcutm hcutl hsl ⊢
      have s15 : Same Hi (upd Hi sl (.lst cut)) := same_new hsl _
      have gsl : upd Hi sl (.lst cut) sl = some (.lst cut) := upd_same
      generalize upd Hi sl (.lst cut) = Hs at s15 gsl ⊢
      refine ⟨C, sl, vs, cut, rfl, rfl, s15 _ _ gCi, gsl, szl (m := 1000) (by omega), fun cl hcl => ⟨cl, rfl, ⟨_, SqL.of upd_same⟩, ?_⟩⟩
      have s16 : Same Hs (upd Hs cl (.lst (vs ++ cut))) := same_new hcl _
      have gcl : upd Hs cl (.lst (vs ++ cut)) cl = some (.lst (vs ++ cut)) := upd_same
      generalize upd Hs cl (.lst (vs ++ cut)) = Hc at s16 gcl ⊢
      have hall : ∀ v ∈ vs ++ cut, CaseAt K d l C Hc v := fun v hv => by
        refine CaseAt.kc ?_ (kc_same (d := d) (l := l) (C := C) (s15.trans s16))
        rcases List.mem_append.mp hv with hv | hv
        · exact hcs v hv
        · exact hcs v (hcutm v hv)
      refine for_list (K := K) (a := cl) (xs := vs ++ cut) (fun j σ Hj => ∃ (o3 o4 o5 o6 o7 o8 o9 : Option V), σ = [some (.ref a), some (.ref d), some (.ref C), o3, o4, o5, o6, o7, o8, o9] ∧ Same Hc Hj)
        ⟨_, _, _, _, _, _, _, rfl, fun _ _ h => h⟩ (fun j σ Hj _ ⟨_, _, _, _, _, _, _, _, q⟩ => SqL.of (q _ _ gcl)) ?_ ?_
      · rintro j x σ Hj hx ⟨o3, o4, o5, o6, o7, o8, o9, rfl, sj⟩
        obtain ⟨t, bk, dl, t0, rest, us, ks, its, rfl, h1, h2, h3, h4, h5, h6, h7, h8, h9, _⟩ := (hall x (List.mem_of_getElem? hx)).kc (kc_same sj)
        have hsh := due_shows h4 h5 h8
        refine ⟨t, _, rfl, h1, rfl, _, _, rfl, _, _, rfl, rfl, _, rfl, by decide, by decide, ?_⟩
        refine for_range (lo := 0) (n := 2) (fun i σ Hm => ∃ (o3 o9 : Option V), σ = [some (.ref a), some (.ref d), some (.ref C), o3, o4, some (.ref bk), some (.ref dl), o7, o8, o9] ∧ Same Hj Hm) ⟨_, _, rfl, fun _ _ h => h⟩ ?_ ?_
        · rintro i σ Hm hi ⟨o3, o9, rfl, sm⟩
          refine ⟨_, rfl, bk, t0, rest, us, rfl, sqt_kt h2 (kt_same sm), Dp.kt (kt_same sm) _ _ (.tup fun d hd => by obtain ⟨y, _, rfl⟩ := List.mem_map.mp hd; exact unkD_tp y) h3, h4, by omega, fun D Hd hD sd pa => ?_⟩
          obtain ⟨kvs, ks2, hpm2, hpw2, gD, tD⟩ := pa
          obtain rfl := one_order hpm2 h8 hpw2 h9
          refine ⟨_, rfl, D, kvs, rfl, gD, _, rfl, iteF ?_⟩
          refine ⟨_, rfl, D, kvs, rfl, gD, fun L2 Ts qs H2 hL2 hTl hql s2 gL2 hq hT => ?_⟩
          have gD2 := s2 _ _ gD
          have hdl2 := s2 _ _ (sd _ _ (sm _ _ h6))
          have d1 : Dp K H2 (.ref L2) (dueD (priorF (waysU us)) ks2) := by
            refine .lst (SqL.of gL2) (DpAll.by_get ?_ fun jj x dd hx hdd => ?_)
            · rw [List.length_map, hTl, List.length_map, tD.len]
            · obtain ⟨T, hT1, rfl⟩ := get_map hx
              obtain ⟨e, he, rfl⟩ := get_map' hdd
              obtain ⟨v, hv1, hv2⟩ := tD.get he
              have hjl := lt_of_get hv1
              have hq1 : qs[jj]? = some (qs[jj]'(by omega)) := List.getElem?_eq_getElem (by omega)
              have t1 := hT jj T _ _ _ hT1 hq1 hv1
              have t2 := s2 _ _ (hq jj _ _ _ hq1 hv1)
              rw [kL_V] at t2
              exact .tup (SqT.of t1) (.cons (.tup (SqT.of t2) (ints_dp e.1)) (.cons (Dp.kt (kt_same s2) _ _ (s2D_tp _) hv2) .nil))
          have d2 : Dp K H2 (.ref dl) (dueD (priorF (waysU us)) ks2) := .lst (SqL.of hdl2) (all_kt itD_tp (kt_same (sm.trans (sd.trans s2))) h7)
          refine ⟨L2, _, rfl, d1, hsh.1, hsh.2.1, hsh.2.2.1, hsh.2.2.2, _, rfl, dl, _, rfl, d2, hsh.1, hsh.2.1, hsh.2.2.1, hsh.2.2.2, rfl, _, rfl, iteB (by simp) ?_⟩
          refine ⟨_, rfl, .inr (.inr (.inl ⟨rfl, .inr ⟨_, gD2⟩⟩)), D, kvs, rfl, rfl, gD2, ?_⟩
          have sD : Same Hj (upd H2 D (.dT [])) := same_upd (sm.trans (sd.trans s2)) (sm.free hD) _
          have g3 : upd H2 D (.dT []) D = some (.dT []) := upd_same
          generalize upd H2 D (.dT []) = H3 at sD g3 ⊢
          refine ⟨(by show 2 ≤ sizeLine; decide), fun v1 hv1 => ?_⟩
          have s4 := same_new hv1 (.tup [.int 1, .int 2])
          have g4 : upd H3 v1 (.tup [.int 1, .int 2]) v1 = some (.tup [.int 1, .int 2]) := upd_same
          generalize upd H3 v1 (.tup [.int 1, .int 2]) = H4 at s4 g4 ⊢
          refine ⟨_, rfl, (by show 1 ≤ sizeLine; decide), fun k1 hk1 => ?_⟩
          have s5 : Same H4 (upd H4 k1 (.tup [.int 5])) := same_new hk1 _
          have g5 : upd H4 k1 (.tup [.int 5]) k1 = some (.tup [.int 5]) := upd_same
          generalize upd H4 k1 (.tup [.int 5]) = H5 at s5 g5 ⊢
          have hDj : Hj D = none := sm.free hD
          refine ⟨D, _, rfl, DPut.t (k := kL [5]) (s5 _ _ (s4 _ _ g3)) g5 (by decide), _, _, rfl, same_upd ((sD.trans s4).trans s5) hDj _⟩
        · rintro σ Hm ⟨o3, o9, rfl, sm⟩
          exact ⟨_, _, _, _, _, _, _, rfl, sj.trans sm⟩
      · rintro σ Hj ⟨o3, o4, o5, o6, o7, o8, o9, rfl, sj⟩
        exact k Hj
end
end My
set_option Elab.async false
set_option maxRecDepth 100000
set_option linter.all false
namespace My
open PySem L2
section
variable {P : Program} {w : World} {K : PySem.W.Frag} {mg : Str → Option Value} {base : Heap} {f : Addr} {fd : FuncData}
theorem rec_expr (F : Fun K "_law_expr" "_law_expr" s_L_expr f fd) (hm : mg "_law_expr" = some (.ref f)) (hb : Binds K fd ps_L_expr []) (Z : Zb mg) (G_L_draw : FnIn P w K mg base 1 "_law_draw" ps_L_draw spDraw) (G_L_number : FnIn P w K mg base 2 "_law_number" ps_L_number spNum) :
    ∀ n : Nat, FnIn P w K mg base (n + 2) "_law_expr" ps_L_expr (spExpr K n)
  | 0 => by
    have no : ∀ vs H Q E, ¬ spExpr K 0 vs H Q E := fun vs H Q E h => by
      obtain ⟨_, _, _, _, _, _, _, _, h1, _⟩ := h
      omega
    exact ⟨f, fd, ⟨fun vs H Q E h => absurd h (no vs H Q E), fun A outer s H args us vs Q E _ _ _ _ h => absurd h (no vs H Q E)⟩, hm, F.kp, hb⟩
  | n + 1 => ⟨f, fd, ok_expr n F Z G_L_draw G_L_number (rec_expr F hm hb Z G_L_draw G_L_number n), hm, F.kp, hb⟩
theorem rec_val (F : Fun K "value_of" "value_of" s_value_of f fd) (hm : mg "value_of" = some (.ref f)) (hb : Binds K fd ps_value_of []) (Z : Zb mg) (G_joined : FnIn P w K mg base 1 "joined" ps_joined spJoin) :
    ∀ n : Nat, FnIn P w K mg base (n + 2) "value_of" ps_value_of (spVal K n)
  | 0 => by
    have no : ∀ vs H Q E, ¬ spVal K 0 vs H Q E := fun vs H Q E h => by
      obtain ⟨_, _, _, _, _, _, _, h1, _⟩ := h
      omega
    exact ⟨f, fd, ⟨fun vs H Q E h => absurd h (no vs H Q E), fun A outer s H args us vs Q E _ _ _ _ h => absurd h (no vs H Q E)⟩, hm, F.kp, hb⟩
  | n + 1 => ⟨f, fd, ok_val n F Z G_joined (rec_val F hm hb Z G_joined n), hm, F.kp, hb⟩
end
set_option maxHeartbeats 0 in
theorem all_mk {l : PySem.W.OpenLaw} {w : World} {K : PySem.W.Frag} {h : Heap} {mg : Str → Option Value} {fa : Addr} (X : K.In h) (G : h.Ns mainGlobals mg) (hfa : mg "law" = some (.ref fa))
    {f0 : Addr} {od0 an0 : Option Addr} {sl0 : Array (Option Value)} {oc0 kV0 dc0 pm0 cd0 ct0 : Value}
    {f1 : Addr} {od1 an1 : Option Addr} {sl1 : Array (Option Value)} {oc1 kV1 dc1 pm1 cd1 ct1 : Value}
    {f2 : Addr} {od2 an2 : Option Addr} {sl2 : Array (Option Value)} {oc2 kV2 dc2 pm2 cd2 ct2 : Value}
    {f3 : Addr} {od3 an3 : Option Addr} {sl3 : Array (Option Value)} {oc3 kV3 dc3 pm3 cd3 ct3 : Value}
    {f4 : Addr} {od4 an4 : Option Addr} {sl4 : Array (Option Value)} {oc4 kV4 dc4 pm4 cd4 ct4 : Value}
    {f5 : Addr} {od5 an5 : Option Addr} {sl5 : Array (Option Value)} {oc5 kV5 dc5 pm5 cd5 ct5 : Value}
    {f6 : Addr} {od6 an6 : Option Addr} {sl6 : Array (Option Value)} {oc6 kV6 dc6 pm6 cd6 ct6 : Value}
    {f7 : Addr} {od7 an7 : Option Addr} {sl7 : Array (Option Value)} {oc7 kV7 dc7 pm7 cd7 ct7 : Value}
    {f8 : Addr} {od8 an8 : Option Addr} {sl8 : Array (Option Value)} {oc8 kV8 dc8 pm8 cd8 ct8 : Value}
    {f9 : Addr} {od9 an9 : Option Addr} {sl9 : Array (Option Value)} {oc9 kV9 dc9 pm9 cd9 ct9 : Value}
    {f10 : Addr} {od10 an10 : Option Addr} {sl10 : Array (Option Value)} {oc10 kV10 dc10 pm10 cd10 ct10 : Value}
    {f11 : Addr} {od11 an11 : Option Addr} {sl11 : Array (Option Value)} {oc11 kV11 dc11 pm11 cd11 ct11 : Value}
    {f12 : Addr} {od12 an12 : Option Addr} {sl12 : Array (Option Value)} {oc12 kV12 dc12 pm12 cd12 ct12 : Value}
    {f13 : Addr} {od13 an13 : Option Addr} {sl13 : Array (Option Value)} {oc13 kV13 dc13 pm13 cd13 ct13 : Value}
    {f14 : Addr} {od14 an14 : Option Addr} {sl14 : Array (Option Value)} {oc14 kV14 dc14 pm14 cd14 ct14 : Value}
    {f15 : Addr} {od15 an15 : Option Addr} {sl15 : Array (Option Value)} {oc15 kV15 dc15 pm15 cd15 ct15 : Value}
    {f16 : Addr} {od16 an16 : Option Addr} {sl16 : Array (Option Value)} {oc16 kV16 dc16 pm16 cd16 ct16 : Value}
    {f17 : Addr} {od17 an17 : Option Addr} {sl17 : Array (Option Value)} {oc17 kV17 dc17 pm17 cd17 ct17 : Value}
    {f18 : Addr} {od18 an18 : Option Addr} {sl18 : Array (Option Value)} {oc18 kV18 dc18 pm18 cd18 ct18 : Value}
    {f19 : Addr} {od19 an19 : Option Addr} {sl19 : Array (Option Value)} {oc19 kV19 dc19 pm19 cd19 ct19 : Value}
    {f20 : Addr} {od20 an20 : Option Addr} {sl20 : Array (Option Value)} {oc20 kV20 dc20 pm20 cd20 ct20 : Value}
    {f21 : Addr} {od21 an21 : Option Addr} {sl21 : Array (Option Value)} {oc21 kV21 dc21 pm21 cd21 ct21 : Value}
    {f22 : Addr} {od22 an22 : Option Addr} {sl22 : Array (Option Value)} {oc22 kV22 dc22 pm22 cd22 ct22 : Value}
    {f23 : Addr} {od23 an23 : Option Addr} {sl23 : Array (Option Value)} {oc23 kV23 dc23 pm23 cd23 ct23 : Value}
    {tL : Tok}
    
    {aONE : Addr} {odONE : Option Addr} {nONE : Nat} {slONE : Array (Option Value)} {itONE : Array Value}
    (a0 : PySem.W.nsIn K mainGlobals "joined" = some (some (.ref f0))) (l0 : K.lookup f0 = some ⟨oc0, od0, .func (PySem.W.fnOf "joined" "joined" (defArgs s_joined) (defBody s_joined) (defScope s_joined) .none kV0 dc0 pm0 an0 cd0 ct0), sl0⟩) (c0 : PySem.W.codeIn K cd0 "joined" = true) (k0 : PySem.W.keepIn K (.ref f0) = true)
    (a1 : PySem.W.nsIn K mainGlobals "value_of" = some (some (.ref f1))) (l1 : K.lookup f1 = some ⟨oc1, od1, .func (PySem.W.fnOf "value_of" "value_of" (defArgs s_value_of) (defBody s_value_of) (defScope s_value_of) .none kV1 dc1 pm1 an1 cd1 ct1), sl1⟩) (c1 : PySem.W.codeIn K cd1 "value_of" = true) (k1 : PySem.W.keepIn K (.ref f1) = true)
    (a2 : PySem.W.nsIn K mainGlobals "greatest_divisor" = some (some (.ref f2))) (l2 : K.lookup f2 = some ⟨oc2, od2, .func (PySem.W.fnOf "greatest_divisor" "greatest_divisor" (defArgs s_greatest_divisor) (defBody s_greatest_divisor) (defScope s_greatest_divisor) .none kV2 dc2 pm2 an2 cd2 ct2), sl2⟩) (c2 : PySem.W.codeIn K cd2 "greatest_divisor" = true) (k2 : PySem.W.keepIn K (.ref f2) = true)
    (a3 : PySem.W.nsIn K mainGlobals "share_of" = some (some (.ref f3))) (l3 : K.lookup f3 = some ⟨oc3, od3, .func (PySem.W.fnOf "share_of" "share_of" (defArgs s_share_of) (defBody s_share_of) (defScope s_share_of) .none kV3 dc3 pm3 an3 cd3 ct3), sl3⟩) (c3 : PySem.W.codeIn K cd3 "share_of" = true) (k3 : PySem.W.keepIn K (.ref f3) = true)
    (a4 : PySem.W.nsIn K mainGlobals "sum_of" = some (some (.ref f4))) (l4 : K.lookup f4 = some ⟨oc4, od4, .func (PySem.W.fnOf "sum_of" "sum_of" (defArgs s_sum_of) (defBody s_sum_of) (defScope s_sum_of) .none kV4 dc4 pm4 an4 cd4 ct4), sl4⟩) (c4 : PySem.W.codeIn K cd4 "sum_of" = true) (k4 : PySem.W.keepIn K (.ref f4) = true)
    (a5 : PySem.W.nsIn K mainGlobals "product_of" = some (some (.ref f5))) (l5 : K.lookup f5 = some ⟨oc5, od5, .func (PySem.W.fnOf "product_of" "product_of" (defArgs s_product_of) (defBody s_product_of) (defScope s_product_of) .none kV5 dc5 pm5 an5 cd5 ct5), sl5⟩) (c5 : PySem.W.codeIn K cd5 "product_of" = true) (k5 : PySem.W.keepIn K (.ref f5) = true)
    (a6 : PySem.W.nsIn K mainGlobals "add_share" = some (some (.ref f6))) (l6 : K.lookup f6 = some ⟨oc6, od6, .func (PySem.W.fnOf "add_share" "add_share" (defArgs s_add_share) (defBody s_add_share) (defScope s_add_share) .none kV6 dc6 pm6 an6 cd6 ct6), sl6⟩) (c6 : PySem.W.codeIn K cd6 "add_share" = true) (k6 : PySem.W.keepIn K (.ref f6) = true)
    (a7 : PySem.W.nsIn K mainGlobals "ways_on" = some (some (.ref f7))) (l7 : K.lookup f7 = some ⟨oc7, od7, .func (PySem.W.fnOf "ways_on" "ways_on" (defArgs s_ways_on) (defBody s_ways_on) (defScope s_ways_on) .none kV7 dc7 pm7 an7 cd7 ct7), sl7⟩) (c7 : PySem.W.codeIn K cd7 "ways_on" = true) (k7 : PySem.W.keepIn K (.ref f7) = true)
    (a8 : PySem.W.nsIn K mainGlobals "ways_of_unknowns" = some (some (.ref f8))) (l8 : K.lookup f8 = some ⟨oc8, od8, .func (PySem.W.fnOf "ways_of_unknowns" "ways_of_unknowns" (defArgs s_ways_of_unknowns) (defBody s_ways_of_unknowns) (defScope s_ways_of_unknowns) .none kV8 dc8 pm8 an8 cd8 ct8), sl8⟩) (c8 : PySem.W.codeIn K cd8 "ways_of_unknowns" = true) (k8 : PySem.W.keepIn K (.ref f8) = true)
    (a9 : PySem.W.nsIn K mainGlobals "prior_of" = some (some (.ref f9))) (l9 : K.lookup f9 = some ⟨oc9, od9, .func (PySem.W.fnOf "prior_of" "prior_of" (defArgs s_prior_of) (defBody s_prior_of) (defScope s_prior_of) .none kV9 dc9 pm9 an9 cd9 ct9), sl9⟩) (c9 : PySem.W.codeIn K cd9 "prior_of" = true) (k9 : PySem.W.keepIn K (.ref f9) = true)
    (a10 : PySem.W.nsIn K mainGlobals "_law_draw" = some (some (.ref f10))) (l10 : K.lookup f10 = some ⟨oc10, od10, .func (PySem.W.fnOf "_law_draw" "_law_draw" (defArgs s_L_draw) (defBody s_L_draw) (defScope s_L_draw) .none kV10 dc10 pm10 an10 cd10 ct10), sl10⟩) (c10 : PySem.W.codeIn K cd10 "_law_draw" = true) (k10 : PySem.W.keepIn K (.ref f10) = true)
    (a11 : PySem.W.nsIn K mainGlobals "_law_deal" = some (some (.ref f11))) (l11 : K.lookup f11 = some ⟨oc11, od11, .func (PySem.W.fnOf "_law_deal" "_law_deal" (defArgs s_L_deal) (defBody s_L_deal) (defScope s_L_deal) .none kV11 dc11 pm11 an11 cd11 ct11), sl11⟩) (c11 : PySem.W.codeIn K cd11 "_law_deal" = true) (k11 : PySem.W.keepIn K (.ref f11) = true)
    (a12 : PySem.W.nsIn K mainGlobals "_law_words" = some (some (.ref f12))) (l12 : K.lookup f12 = some ⟨oc12, od12, .func (PySem.W.fnOf "_law_words" "_law_words" (defArgs s_L_words) (defBody s_L_words) (defScope s_L_words) .none kV12 dc12 pm12 an12 cd12 ct12), sl12⟩) (c12 : PySem.W.codeIn K cd12 "_law_words" = true) (k12 : PySem.W.keepIn K (.ref f12) = true)
    (a13 : PySem.W.nsIn K mainGlobals "_law_number" = some (some (.ref f13))) (l13 : K.lookup f13 = some ⟨oc13, od13, .func (PySem.W.fnOf "_law_number" "_law_number" (defArgs s_L_number) (defBody s_L_number) (defScope s_L_number) .none kV13 dc13 pm13 an13 cd13 ct13), sl13⟩) (c13 : PySem.W.codeIn K cd13 "_law_number" = true) (k13 : PySem.W.keepIn K (.ref f13) = true)
    (a14 : PySem.W.nsIn K mainGlobals "_law_expr" = some (some (.ref f14))) (l14 : K.lookup f14 = some ⟨oc14, od14, .func (PySem.W.fnOf "_law_expr" "_law_expr" (defArgs s_L_expr) (defBody s_L_expr) (defScope s_L_expr) .none kV14 dc14 pm14 an14 cd14 ct14), sl14⟩) (c14 : PySem.W.codeIn K cd14 "_law_expr" = true) (k14 : PySem.W.keepIn K (.ref f14) = true)
    (a15 : PySem.W.nsIn K mainGlobals "_law_test" = some (some (.ref f15))) (l15 : K.lookup f15 = some ⟨oc15, od15, .func (PySem.W.fnOf "_law_test" "_law_test" (defArgs s_L_test) (defBody s_L_test) (defScope s_L_test) .none kV15 dc15 pm15 an15 cd15 ct15), sl15⟩) (c15 : PySem.W.codeIn K cd15 "_law_test" = true) (k15 : PySem.W.keepIn K (.ref f15) = true)
    (a16 : PySem.W.nsIn K mainGlobals "_law_value" = some (some (.ref f16))) (l16 : K.lookup f16 = some ⟨oc16, od16, .func (PySem.W.fnOf "_law_value" "_law_value" (defArgs s_L_value) (defBody s_L_value) (defScope s_L_value) .none kV16 dc16 pm16 an16 cd16 ct16), sl16⟩) (c16 : PySem.W.codeIn K cd16 "_law_value" = true) (k16 : PySem.W.keepIn K (.ref f16) = true)
    (a17 : PySem.W.nsIn K mainGlobals "_law_lowest" = some (some (.ref f17))) (l17 : K.lookup f17 = some ⟨oc17, od17, .func (PySem.W.fnOf "_law_lowest" "_law_lowest" (defArgs s_L_lowest) (defBody s_L_lowest) (defScope s_L_lowest) .none kV17 dc17 pm17 an17 cd17 ct17), sl17⟩) (c17 : PySem.W.codeIn K cd17 "_law_lowest" = true) (k17 : PySem.W.keepIn K (.ref f17) = true)
    (a18 : PySem.W.nsIn K mainGlobals "_law_times_both" = some (some (.ref f18))) (l18 : K.lookup f18 = some ⟨oc18, od18, .func (PySem.W.fnOf "_law_times_both" "_law_times_both" (defArgs s_L_times_both) (defBody s_L_times_both) (defScope s_L_times_both) .none kV18 dc18 pm18 an18 cd18 ct18), sl18⟩) (c18 : PySem.W.codeIn K cd18 "_law_times_both" = true) (k18 : PySem.W.keepIn K (.ref f18) = true)
    (a19 : PySem.W.nsIn K mainGlobals "_law_sum" = some (some (.ref f19))) (l19 : K.lookup f19 = some ⟨oc19, od19, .func (PySem.W.fnOf "_law_sum" "_law_sum" (defArgs s_L_sum) (defBody s_L_sum) (defScope s_L_sum) .none kV19 dc19 pm19 an19 cd19 ct19), sl19⟩) (c19 : PySem.W.codeIn K cd19 "_law_sum" = true) (k19 : PySem.W.keepIn K (.ref f19) = true)
    (a20 : PySem.W.nsIn K mainGlobals "_law_on" = some (some (.ref f20))) (l20 : K.lookup f20 = some ⟨oc20, od20, .func (PySem.W.fnOf "_law_on" "_law_on" (defArgs s_L_on) (defBody s_L_on) (defScope s_L_on) .none kV20 dc20 pm20 an20 cd20 ct20), sl20⟩) (c20 : PySem.W.codeIn K cd20 "_law_on" = true) (k20 : PySem.W.keepIn K (.ref f20) = true)
    (a21 : PySem.W.nsIn K mainGlobals "_law_choices" = some (some (.ref f21))) (l21 : K.lookup f21 = some ⟨oc21, od21, .func (PySem.W.fnOf "_law_choices" "_law_choices" (defArgs s_L_choices) (defBody s_L_choices) (defScope s_L_choices) .none kV21 dc21 pm21 an21 cd21 ct21), sl21⟩) (c21 : PySem.W.codeIn K cd21 "_law_choices" = true) (k21 : PySem.W.keepIn K (.ref f21) = true)
    (a22 : PySem.W.nsIn K mainGlobals "_law_unknowns" = some (some (.ref f22))) (l22 : K.lookup f22 = some ⟨oc22, od22, .func (PySem.W.fnOf "_law_unknowns" "_law_unknowns" (defArgs s_L_unknowns) (defBody s_L_unknowns) (defScope s_L_unknowns) .none kV22 dc22 pm22 an22 cd22 ct22), sl22⟩) (c22 : PySem.W.codeIn K cd22 "_law_unknowns" = true) (k22 : PySem.W.keepIn K (.ref f22) = true)
    (a23 : PySem.W.nsIn K mainGlobals "law" = some (some (.ref f23))) (l23 : K.lookup f23 = some ⟨oc23, od23, .func (PySem.W.fnOf "law" "law" (defArgs s_law) (defBody s_law) (defScope s_law) .none kV23 dc23 pm23 an23 cd23 ct23), sl23⟩) (c23 : PySem.W.codeIn K cd23 "law" = true) (k23 : PySem.W.keepIn K (.ref f23) = true)
    (z_min : PySem.W.nsIn K mainGlobals "min" = some none)
    (z_len : PySem.W.nsIn K mainGlobals "len" = some none)
    (z_list : PySem.W.nsIn K mainGlobals "list" = some none)
    (z_range : PySem.W.nsIn K mainGlobals "range" = some none)
    (z_repr : PySem.W.nsIn K mainGlobals "repr" = some none)
    (z_reversed : PySem.W.nsIn K mainGlobals "reversed" = some none)
    (z_max : PySem.W.nsIn K mainGlobals "max" = some none)
    (z_int : PySem.W.nsIn K mainGlobals "int" = some none)
    (z_tuple : PySem.W.nsIn K mainGlobals "tuple" = some none)
    (z_abs : PySem.W.nsIn K mainGlobals "abs" = some none)
    (z_sum : PySem.W.nsIn K mainGlobals "sum" = some none)
    (z_zip : PySem.W.nsIn K mainGlobals "zip" = some none)
    (z_dict : PySem.W.nsIn K mainGlobals "dict" = some none)
    (z_sorted : PySem.W.nsIn K mainGlobals "sorted" = some none)
    (z_enumerate : PySem.W.nsIn K mainGlobals "enumerate" = some none)
    (z_all : PySem.W.nsIn K mainGlobals "all" = some none)
    (z_isinstance : PySem.W.nsIn K mainGlobals "isinstance" = some none)
    (z_ZeroDivisionError : PySem.W.nsIn K mainGlobals "ZeroDivisionError" = some none)
    (g1 : PySem.W.nsIn K mainGlobals "LIMIT" = some (some (.int 1000 tL)))
    (hP : l.prog.given.tree = none)
    (q1 : PySem.W.nsIn K mainGlobals "ONE" = some (some (.ref aONE)))
    (q2 : K.lookup aONE = some ⟨.type "tuple", odONE, .seq itONE nONE, slONE⟩)
    (q3 : Vals [V.int 1, V.int 1] itONE.toList) :
    ∃ fd : FuncData, (∀ (s : Shared) (v : Value), BindsTo s fd ⟨[v], []⟩ [("_law_script", v)]) ∧ ∀ base : Heap, K.In base → base.Ns mainGlobals mg → FnOk l.prog w K mg base CX0 44 fa fd ["_law_script"] (spLaw K) := by
  have e := hfa.symm.trans (PySem.W.mg_of X G a23)
  cases e
  have Z : Zb mg := { min := PySem.W.mg_none_of X G z_min, len := PySem.W.mg_none_of X G z_len, list := PySem.W.mg_none_of X G z_list, range := PySem.W.mg_none_of X G z_range, repr := PySem.W.mg_none_of X G z_repr, reversed := PySem.W.mg_none_of X G z_reversed, max := PySem.W.mg_none_of X G z_max, int := PySem.W.mg_none_of X G z_int, tuple := PySem.W.mg_none_of X G z_tuple, abs := PySem.W.mg_none_of X G z_abs, sum := PySem.W.mg_none_of X G z_sum, zip := PySem.W.mg_none_of X G z_zip, dict := PySem.W.mg_none_of X G z_dict, sorted := PySem.W.mg_none_of X G z_sorted, enumerate := PySem.W.mg_none_of X G z_enumerate, all := PySem.W.mg_none_of X G z_all, isinstance := PySem.W.mg_none_of X G z_isinstance, ZeroDivisionError := PySem.W.mg_none_of X G z_ZeroDivisionError, LIMIT := ⟨_, PySem.W.mg_of X G g1⟩ }
  have F0 := fun_mk (st := s_joined) l0 c0 k0
  have b0 := F0.binds (ps := ps_joined) fun _ _ _ _ _ _ us hl => match us, hl with | [_, _, _], _ => rfl
  have F1 := fun_mk (st := s_value_of) l1 c1 k1
  have b1 := F1.binds (ps := ps_value_of) fun _ _ _ _ _ _ us hl => match us, hl with | [_, _], _ => rfl
  have F2 := fun_mk (st := s_greatest_divisor) l2 c2 k2
  have b2 := F2.binds (ps := ps_greatest_divisor) fun _ _ _ _ _ _ us hl => match us, hl with | [_, _], _ => rfl
  have F3 := fun_mk (st := s_share_of) l3 c3 k3
  have kb3 : KBinds K _ ps_share_of ["lower"] g11 g11 := F3.kbinds (fun _ _ _ _ _ _ us ws hl => match us, ws, hl with | [_], [_], _ => rfl) g11_rel
  have F4 := fun_mk (st := s_sum_of) l4 c4 k4
  have b4 := F4.binds (ps := ps_sum_of) fun _ _ _ _ _ _ us hl => match us, hl with | [_, _], _ => rfl
  have F5 := fun_mk (st := s_product_of) l5 c5 k5
  have b5 := F5.binds (ps := ps_product_of) fun _ _ _ _ _ _ us hl => match us, hl with | [_, _], _ => rfl
  have F6 := fun_mk (st := s_add_share) l6 c6 k6
  have b6 := F6.binds (ps := ps_add_share) fun _ _ _ _ _ _ us hl => match us, hl with | [_, _, _], _ => rfl
  have F7 := fun_mk (st := s_ways_on) l7 c7 k7
  have b7 := F7.binds (ps := ps_ways_on) fun _ _ _ _ _ _ us hl => match us, hl with | [_, _], _ => rfl
  have F8 := fun_mk (st := s_ways_of_unknowns) l8 c8 k8
  have b8 := F8.binds (ps := ps_ways_of_unknowns) fun _ _ _ _ _ _ us hl => match us, hl with | [_], _ => rfl
  have F9 := fun_mk (st := s_prior_of) l9 c9 k9
  have b9 := F9.binds (ps := ps_prior_of) fun _ _ _ _ _ _ us hl => match us, hl with | [_], _ => rfl
  have F10 := fun_mk (st := s_L_draw) l10 c10 k10
  have b10 := F10.binds (ps := ps_L_draw) fun _ _ _ _ _ _ us hl => match us, hl with | [_, _], _ => rfl
  have F11 := fun_mk (st := s_L_deal) l11 c11 k11
  have b11 := F11.binds (ps := ps_L_deal) fun _ _ _ _ _ _ us hl => match us, hl with | [_, _], _ => rfl
  have F12 := fun_mk (st := s_L_words) l12 c12 k12
  have b12 := F12.binds (ps := ps_L_words) fun _ _ _ _ _ _ us hl => match us, hl with | [_, _], _ => rfl
  have F13 := fun_mk (st := s_L_number) l13 c13 k13
  have b13 := F13.binds (ps := ps_L_number) fun _ _ _ _ _ _ us hl => match us, hl with | [_], _ => rfl
  have F14 := fun_mk (st := s_L_expr) l14 c14 k14
  have b14 := F14.binds (ps := ps_L_expr) fun _ _ _ _ _ _ us hl => match us, hl with | [_, _, _], _ => rfl
  have F15 := fun_mk (st := s_L_test) l15 c15 k15
  have b15 := F15.binds (ps := ps_L_test) fun _ _ _ _ _ _ us hl => match us, hl with | [_, _], _ => rfl
  have F16 := fun_mk (st := s_L_value) l16 c16 k16
  have b16 := F16.binds (ps := ps_L_value) fun _ _ _ _ _ _ us hl => match us, hl with | [_, _], _ => rfl
  have F17 := fun_mk (st := s_L_lowest) l17 c17 k17
  have b17 := F17.binds (ps := ps_L_lowest) fun _ _ _ _ _ _ us hl => match us, hl with | [_, _], _ => rfl
  have F18 := fun_mk (st := s_L_times_both) l18 c18 k18
  have b18 := F18.binds (ps := ps_L_times_both) fun _ _ _ _ _ _ us hl => match us, hl with | [_, _], _ => rfl
  have F19 := fun_mk (st := s_L_sum) l19 c19 k19
  have b19 := F19.binds (ps := ps_L_sum) fun _ _ _ _ _ _ us hl => match us, hl with | [_], _ => rfl
  have F20 := fun_mk (st := s_L_on) l20 c20 k20
  have b20 := F20.binds (ps := ps_L_on) fun _ _ _ _ _ _ us hl => match us, hl with | [_, _], _ => rfl
  have F21 := fun_mk (st := s_L_choices) l21 c21 k21
  have b21 := F21.binds (ps := ps_L_choices) fun _ _ _ _ _ _ us hl => match us, hl with | [_], _ => rfl
  have F22 := fun_mk (st := s_L_unknowns) l22 c22 k22
  have b22 := F22.binds (ps := ps_L_unknowns) fun _ _ _ _ _ _ us hl => match us, hl with | [_, _], _ => rfl
  have F23 := fun_mk (st := s_law) l23 c23 k23
  have g_ONE := PySem.W.mg_of X G q1
  have sONE : ∀ H, SqT K H aONE [V.int 1, V.int 1] := fun H => .inr ⟨_, itONE, nONE, q2, rfl, rfl, by have := q3.length; simp at this; rw [← this]; decide, q3⟩
  refine ⟨PySem.W.fnOf "law" "law" (defArgs s_law) (defBody s_law) (defScope s_law) .none kV23 dc23 pm23 an23 cd23 ct23, fun s v => .of_eq rfl, fun base _ _ => ?_⟩
  have G_joined : FnIn l.prog w K mg base 1 "joined" ps_joined spJoin := ⟨_, _, ok_join F0 Z, PySem.W.mg_of X G a0, k0, b0⟩
  have G_value_of : FnIn l.prog w K mg base 9 "value_of" ps_value_of (spVal K 7) := rec_val F1 (PySem.W.mg_of X G a1) b1 Z G_joined 7
  have G_greatest_divisor : FnIn l.prog w K mg base 1 "greatest_divisor" ps_greatest_divisor spGd := ⟨_, _, ok_gd F2 Z, PySem.W.mg_of X G a2, k2, b2⟩
  have GK_share_of_lower : FnK l.prog w K mg base 40 "share_of" ps_share_of spLow ["lower"] g11 := ⟨_, _, _, ok_share hP F3 Z G_greatest_divisor, (PySem.W.mg_of X G a3), k3, kb3⟩
  have G_sum_of : FnIn l.prog w K mg base 41 "sum_of" ps_sum_of (spTwo K sumU sumL) := ⟨_, _, ok_sum F4 Z GK_share_of_lower, PySem.W.mg_of X G a4, k4, b4⟩
  have G_product_of : FnIn l.prog w K mg base 41 "product_of" ps_product_of (spTwo K mulU sumL) := ⟨_, _, ok_product F5 Z GK_share_of_lower, PySem.W.mg_of X G a5, k5, b5⟩
  have G_add_share : FnIn l.prog w K mg base 42 "add_share" ps_add_share (spAddSh K) := ⟨_, _, ok_addsh F6 Z G_sum_of, PySem.W.mg_of X G a6, k6, b6⟩
  have G_ways_on : FnIn l.prog w K mg base 41 "ways_on" ps_ways_on (spWaysOn K 7) := ⟨_, _, ok_wayson 7 F7 Z G_value_of (by decide) GK_share_of_lower, PySem.W.mg_of X G a7, k7, b7⟩
  have G_ways_of_unknowns : FnIn l.prog w K mg base 42 "ways_of_unknowns" ps_ways_of_unknowns (spWays K 7) := ⟨_, _, ok_wou 7 F8 Z g_ONE sONE G_product_of G_ways_on, PySem.W.mg_of X G a8, k8, b8⟩
  have G_prior_of : FnIn l.prog w K mg base 43 "prior_of" ps_prior_of (spPrior K 7) := ⟨_, _, ok_prior 7 F9 Z G_ways_of_unknowns G_add_share, PySem.W.mg_of X G a9, k9, b9⟩
  have G_L_draw : FnIn l.prog w K mg base 1 "_law_draw" ps_L_draw spDraw := ⟨_, _, ok_draw F10 Z, PySem.W.mg_of X G a10, k10, b10⟩
  have G_L_deal : FnIn l.prog w K mg base 1 "_law_deal" ps_L_deal (spDeal K) := ⟨_, _, ok_deal F11 Z, PySem.W.mg_of X G a11, k11, b11⟩
  have G_L_words : FnIn l.prog w K mg base 2 "_law_words" ps_L_words spWords := ⟨_, _, ok_words F12 Z G_L_draw, PySem.W.mg_of X G a12, k12, b12⟩
  have G_L_number : FnIn l.prog w K mg base 2 "_law_number" ps_L_number spNum := ⟨_, _, ok_num F13 Z G_L_draw, PySem.W.mg_of X G a13, k13, b13⟩
  have G_L_expr : FnIn l.prog w K mg base 5 "_law_expr" ps_L_expr (spExpr K 3) := rec_expr F14 (PySem.W.mg_of X G a14) b14 Z G_L_draw G_L_number 3
  have G_L_test : FnIn l.prog w K mg base 6 "_law_test" ps_L_test (spTest K) := ⟨_, _, ok_test F15 Z G_L_draw G_L_expr, PySem.W.mg_of X G a15, k15, b15⟩
  have G_L_value : FnIn l.prog w K mg base 8 "_law_value" ps_L_value (spLVal K 7) := rec_lval F16 (PySem.W.mg_of X G a16) b16 Z 7
  have G_L_lowest : FnIn l.prog w K mg base 40 "_law_lowest" ps_L_lowest spLowN := ⟨_, _, ok_lowN hP F17 Z, PySem.W.mg_of X G a17, k17, b17⟩
  have G_L_times_both : FnIn l.prog w K mg base 41 "_law_times_both" ps_L_times_both (spTimes K) := ⟨_, _, ok_times F18 Z G_L_lowest, PySem.W.mg_of X G a18, k18, b18⟩
  have G_L_sum : FnIn l.prog w K mg base 41 "_law_sum" ps_L_sum (spLSum K) := ⟨_, _, ok_lsum F19 Z G_L_lowest, PySem.W.mg_of X G a19, k19, b19⟩
  have G_L_on : FnIn l.prog w K mg base 41 "_law_on" ps_L_on (spWaysOn K 7) := ⟨_, _, ok_lon 7 F20 Z G_L_value (by decide) G_L_lowest, PySem.W.mg_of X G a20, k20, b20⟩
  have G_L_choices : FnIn l.prog w K mg base 42 "_law_choices" ps_L_choices (spWays K 7) := ⟨_, _, ok_lch 7 F21 Z G_L_times_both G_L_on, PySem.W.mg_of X G a21, k21, b21⟩
  have G_L_unknowns : FnIn l.prog w K mg base 7 "_law_unknowns" ps_L_unknowns (spUnk K) := ⟨_, _, ok_lun F22 Z G_L_draw G_L_number G_L_expr G_L_test, PySem.W.mg_of X G a22, k22, b22⟩
  exact ok_law F23 Z G_L_deal G_L_draw G_L_words G_L_unknowns G_L_choices G_L_sum G_prior_of
theorem walk {l : PySem.W.OpenLaw} {q : Program} {loose : List Str} {XP : (Str → Option Value) → Heap → Prop} {YP : World → Heap → Prop} {d : DefRec} {K : Params → PySem.W.Frag} (hn : l.most = some 63) (hdf : d.params.defaults = []) (hI : PyProof.Rows.importsNone q = true)
    (hY : ∀ (w : World) (h : Heap), YP w h → (K w.params).In h)
    (F : ∀ (w : World) (mg : Str → Option Value) (fa : Addr) (h : Heap), (K w.params).In h → h.Ns mainGlobals mg → mg d.name = some (.ref fa) →
      ∃ fd : FuncData, (∀ (s : Shared) (u : Value), BindsTo s fd ⟨[u], []⟩ [("_law_script", u)]) ∧ ∀ base : Heap, (K w.params).In base → base.Ns mainGlobals mg → FnOk l.prog w (K w.params) mg base CX0 44 fa fd ["_law_script"] (spLaw (K w.params))) :
    PySem.W.WalkO q loose XP YP l.row.toRowW d [] (fun f vs => PySem.call f vs) :=
  L2.walk_of (n := 63) (k := 44) (x := "_law_script") (CX := fun _ => CX0) (sp := fun w => spLaw (K w.params)) hn (by decide) hdf hI ⟨rfl, by decide, by decide, rfl⟩ hY F (fun _ _ a ns hl _ hS => ⟨a, ns, rfl, hS, hl, fun _ => rfl⟩) fun _ _ _ _ _ z => z
end My
open PySem PySem.W PyProof.Rows
set_option maxRecDepth 100000 in
set_option maxHeartbeats 0 in
theorem PySem.Challenge.cw_chancetongue_k22_what_unknowns_may_be_holds : PySem.Challenge.rw_chancetongue_k22_what_unknowns_may_be.Holds := by
  w_on; o_law; k_head; (case hw => w_witness2)
  k_fill
  refine My.walk (l := PySem.Challenge.rw_chancetongue_k22_what_unknowns_may_be) rfl rfl (by decide +kernel) (fun w h Y => PySem.W.kIn_of Y) ?F
  case F =>
    intro w mg fa h KX G hmg
    refine' My.all_mk KX G hmg ?a0 ?l0 ?c0 ?k0 ?a1 ?l1 ?c1 ?k1 ?a2 ?l2 ?c2 ?k2 ?a3 ?l3 ?c3 ?k3 ?a4 ?l4 ?c4 ?k4 ?a5 ?l5 ?c5 ?k5 ?a6 ?l6 ?c6 ?k6 ?a7 ?l7 ?c7 ?k7 ?a8 ?l8 ?c8 ?k8 ?a9 ?l9 ?c9 ?k9 ?a10 ?l10 ?c10 ?k10 ?a11 ?l11 ?c11 ?k11 ?a12 ?l12 ?c12 ?k12 ?a13 ?l13 ?c13 ?k13 ?a14 ?l14 ?c14 ?k14 ?a15 ?l15 ?c15 ?k15 ?a16 ?l16 ?c16 ?k16 ?a17 ?l17 ?c17 ?k17 ?a18 ?l18 ?c18 ?k18 ?a19 ?l19 ?c19 ?k19 ?a20 ?l20 ?c20 ?k20 ?a21 ?l21 ?c21 ?k21 ?a22 ?l22 ?c22 ?k22 ?a23 ?l23 ?c23 ?k23 ?z_min ?z_len ?z_list ?z_range ?z_repr ?z_reversed ?z_max ?z_int ?z_tuple ?z_abs ?z_sum ?z_zip ?z_dict ?z_sorted ?z_enumerate ?z_all ?z_isinstance ?z_ZeroDivisionError ?g1 ?hP ?q1 ?q2 ?q3
    (case a0 => k_is)
    (case l0 => k_is)
    (case c0 => k_is)
    (case k0 => k_is)
    (case a1 => k_is)
    (case l1 => k_is)
    (case c1 => k_is)
    (case k1 => k_is)
    (case a2 => k_is)
    (case l2 => k_is)
    (case c2 => k_is)
    (case k2 => k_is)
    (case a3 => k_is)
    (case l3 => k_is)
    (case c3 => k_is)
    (case k3 => k_is)
    (case a4 => k_is)
    (case l4 => k_is)
    (case c4 => k_is)
    (case k4 => k_is)
    (case a5 => k_is)
    (case l5 => k_is)
    (case c5 => k_is)
    (case k5 => k_is)
    (case a6 => k_is)
    (case l6 => k_is)
    (case c6 => k_is)
    (case k6 => k_is)
    (case a7 => k_is)
    (case l7 => k_is)
    (case c7 => k_is)
    (case k7 => k_is)
    (case a8 => k_is)
    (case l8 => k_is)
    (case c8 => k_is)
    (case k8 => k_is)
    (case a9 => k_is)
    (case l9 => k_is)
    (case c9 => k_is)
    (case k9 => k_is)
    (case a10 => k_is)
    (case l10 => k_is)
    (case c10 => k_is)
    (case k10 => k_is)
    (case a11 => k_is)
    (case l11 => k_is)
    (case c11 => k_is)
    (case k11 => k_is)
    (case a12 => k_is)
    (case l12 => k_is)
    (case c12 => k_is)
    (case k12 => k_is)
    (case a13 => k_is)
    (case l13 => k_is)
    (case c13 => k_is)
    (case k13 => k_is)
    (case a14 => k_is)
    (case l14 => k_is)
    (case c14 => k_is)
    (case k14 => k_is)
    (case a15 => k_is)
    (case l15 => k_is)
    (case c15 => k_is)
    (case k15 => k_is)
    (case a16 => k_is)
    (case l16 => k_is)
    (case c16 => k_is)
    (case k16 => k_is)
    (case a17 => k_is)
    (case l17 => k_is)
    (case c17 => k_is)
    (case k17 => k_is)
    (case a18 => k_is)
    (case l18 => k_is)
    (case c18 => k_is)
    (case k18 => k_is)
    (case a19 => k_is)
    (case l19 => k_is)
    (case c19 => k_is)
    (case k19 => k_is)
    (case a20 => k_is)
    (case l20 => k_is)
    (case c20 => k_is)
    (case k20 => k_is)
    (case a21 => k_is)
    (case l21 => k_is)
    (case c21 => k_is)
    (case k21 => k_is)
    (case a22 => k_is)
    (case l22 => k_is)
    (case c22 => k_is)
    (case k22 => k_is)
    (case a23 => k_is)
    (case l23 => k_is)
    (case c23 => k_is)
    (case k23 => k_is)
    (case z_min => k_is)
    (case z_len => k_is)
    (case z_list => k_is)
    (case z_range => k_is)
    (case z_repr => k_is)
    (case z_reversed => k_is)
    (case z_max => k_is)
    (case z_int => k_is)
    (case z_tuple => k_is)
    (case z_abs => k_is)
    (case z_sum => k_is)
    (case z_zip => k_is)
    (case z_dict => k_is)
    (case z_sorted => k_is)
    (case z_enumerate => k_is)
    (case z_all => k_is)
    (case z_isinstance => k_is)
    (case z_ZeroDivisionError => k_is)
    (case g1 => k_is)
    (case hP => exact rfl)
    (case q1 => k_is)
    (case q2 => k_is)
    (case q3 => repeat' (first | exact Paired.nil | refine Paired.cons ⟨_, rfl⟩ ?_))
