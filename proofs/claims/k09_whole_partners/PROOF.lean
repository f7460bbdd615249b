import PyProof.Rows.All
import Wide.All
import OpenK.AllK
import Wide.FinOn
import Lean
import PyProof.EqAt
import PyProof.EqKinds
import PyProof.NeKinds
import PyProof.TupleCall
import PyProof.ExcAttrAll.ValueError
import PySem.SetTable
import PySem.Challenge.RW_cornerdoors_k09_whole_partners
set_option Elab.async false
set_option linter.all false
set_option maxRecDepth 100000
namespace L2
open PySem PySem.Spec PyProof.Rows
abbrev Key := Sum Int Str
def keyIs : Key → Value → Bool
  | .inl k, v => Value.isInt k v
  | .inr x, v => Value.isStrOf x v
def keyH (w : World) : Key → Int
  | .inl k => hashInt k
  | .inr x => hashStr w x
theorem keyIs_shape : ∀ {k : Key} {v : Value}, keyIs k v = true → (∃ i t, k = Sum.inl i ∧ v = Value.int i t) ∨ (∃ x t, k = Sum.inr x ∧ v = Value.str x t)
  | .inl i, v, h => by
    obtain ⟨t, e⟩ := Value.isInt_shape (k := i) (v := v) h
    exact .inl ⟨i, t, rfl, e⟩
  | .inr x, v, h => by
    obtain ⟨t, e⟩ := Value.isStrOf_shape (x := x) (v := v) h
    exact .inr ⟨x, t, rfl, e⟩
theorem keyIs_int (i : Int) (t : Tok) : keyIs (.inl i) (.int i t) = true := by simp [keyIs, Value.isInt]
theorem keyIs_str (x : Str) (t : Tok) : keyIs (.inr x) (.str x t) = true := by simp [keyIs, Value.isStrOf]
theorem key_ll (a b : Int) : decide ((Sum.inl a : Key) = Sum.inl b) = (a == b) := by
  by_cases e : a = b
  · subst e; simp
  · have h : ¬ (Sum.inl a : Key) = Sum.inl b := fun q => e (Sum.inl.inj q)
    rw [decide_eq_false h]
    exact (beq_eq_false_iff_ne.mpr e).symm
theorem key_rr (a b : Str) : decide ((Sum.inr a : Key) = Sum.inr b) = decide (a = b) := by
  by_cases e : a = b
  · subst e; simp
  · have h : ¬ (Sum.inr a : Key) = Sum.inr b := fun q => e (Sum.inr.inj q)
    rw [decide_eq_false h, decide_eq_false e]
theorem key_lr (a : Int) (b : Str) : decide ((Sum.inl a : Key) = Sum.inr b) = false := decide_eq_false (fun q => nomatch q)
theorem key_rl (a : Str) (b : Int) : decide ((Sum.inr a : Key) = Sum.inl b) = false := decide_eq_false (fun q => nomatch q)
def mixKind (prog : Program) (w : World) : PySem.KeyKind prog w Key where
  is := keyIs
  hash := keyH w
  inj := fun v a b ha hb => by
    rcases keyIs_shape ha with ⟨i, t, rfl, rfl⟩ | ⟨x, t, rfl, rfl⟩
    · rcases keyIs_shape hb with ⟨j, u, rfl, e⟩ | ⟨y, u, rfl, e⟩
      · injection e with e1 _; rw [e1]
      · exact nomatch e
    · rcases keyIs_shape hb with ⟨j, u, rfl, e⟩ | ⟨y, u, rfl, e⟩
      · exact nomatch e
      · injection e with e1 _; rw [e1]
  byValue := fun k v h => by
    rcases keyIs_shape h with ⟨i, t, rfl, rfl⟩ | ⟨x, t, rfl, rfl⟩ <;> rfl
  pyHash := fun hv h => by
    rcases keyIs_shape hv with ⟨i, t, rfl, rfl⟩ | ⟨x, t, rfl, rfl⟩
    · exact wpAny_pyHash_int h
    · exact wpAny_pyHash_str h
  eqBool := fun hu hv h => by
    rcases keyIs_shape hu with ⟨i, t, rfl, rfl⟩ | ⟨x, t, rfl, rfl⟩
    · rcases keyIs_shape hv with ⟨j, u, rfl, rfl⟩ | ⟨y, u, rfl, rfl⟩
      · rw [key_ll] at h; exact wpAny_eqBool_int h
      · rw [key_lr] at h; exact SeqAt.EqAt.int_str i t y u _ _ _ _ h
    · rcases keyIs_shape hv with ⟨j, u, rfl, rfl⟩ | ⟨y, u, rfl, rfl⟩
      · rw [key_rl] at h; exact SeqAt.EqAt.str_int x t j u _ _ _ _ h
      · rw [key_rr] at h; exact wpAny_eqBool_str h
  «strs» := fun k x t v h => by
    rcases keyIs_shape h with ⟨i, u, rfl, e⟩ | ⟨y, u, rfl, e⟩
    · exact nomatch e
    · injection e with e1 _
      subst e1
      cases v <;> rfl
end L2
namespace L2
open PySem PySem.Spec PyProof.Rows
inductive V where
  | non | bl (b : Bool) | int (i : Int) | str (x : Str) | byt (b : Array UInt8) | flt (b : UInt64) | ref (a : Addr) | ty (n : String)
  deriving DecidableEq
def RelV : V → Value → Prop
  | .non, u => u = Value.none
  | .bl b, u => u = Value.bool b
  | .int i, u => ∃ t, u = Value.int i t
  | .str x, u => ∃ t, u = Value.str x t
  | .byt b, u => ∃ t, u = Value.bytes b t
  | .flt b, u => ∃ t, u = Value.float b t
  | .ref a, u => u = Value.ref a
  | .ty n, u => u = Value.type n
abbrev Vals : List V → List Value → Prop := Paired RelV
theorem Vals.length {xs : List V} {us : List Value} (r : Vals xs us) : xs.length = us.length := Paired.length r
theorem Vals.get : ∀ {xs : List V} {us : List Value} {i : Nat} {x : V}, Vals xs us → xs[i]? = some x → ∃ u, us[i]? = some u ∧ RelV x u
  | _, _, _, _, .nil, e => by simp at e
  | _, _, 0, _, .cons r _, e => by simp at e; subst e; exact ⟨_, rfl, r⟩
  | _, _, i + 1, x, .cons _ t, e => by
    obtain ⟨u, h1, h2⟩ := Vals.get (i := i) (x := x) t (by simpa using e)
    exact ⟨u, by simpa using h1, h2⟩
theorem Vals.set {x : V} {u : Value} (r : RelV x u) : ∀ {xs : List V} {us : List Value} (i : Nat), Vals xs us → Vals (xs.set i x) (us.set i u)
  | _, _, _, .nil => .nil
  | _, _, 0, .cons _ t => .cons r t
  | _, _, i + 1, .cons q t => .cons q (Vals.set r i t)
theorem Vals.append : ∀ {xs ys : List V} {us ws : List Value}, Vals xs us → Vals ys ws → Vals (xs ++ ys) (us ++ ws)
  | _, _, _, _, .nil, s => s
  | _, _, _, _, .cons r t, s => .cons r (Vals.append t s)
theorem Vals.take : ∀ {xs : List V} {us : List Value} (n : Nat), Vals xs us → Vals (xs.take n) (us.take n)
  | _, _, 0, _ => .nil
  | _, _, _ + 1, .nil => .nil
  | _, _, n + 1, .cons r t => .cons r (Vals.take n t)
theorem Vals.drop : ∀ {xs : List V} {us : List Value} (n : Nat), Vals xs us → Vals (xs.drop n) (us.drop n)
  | _, _, 0, r => r
  | _, _, _ + 1, .nil => .nil
  | _, _, n + 1, .cons _ t => Vals.drop n t
def RelO : Option V → Option Value → Prop
  | some v, some u => RelV v u
  | none, none => True
  | _, _ => False
def KV {κ : Type} : List (κ × V) → List (κ × Value) → Prop := Paired fun (p : κ × V) (q : κ × Value) => p.1 = q.1 ∧ RelV p.2 q.2
def kV : Key → V
  | .inl i => .int i
  | .inr x => .str x
inductive HO where
  | lst (xs : List V)
  | tup (xs : List V)
  | dK (kvs : List (Key × V)) | dT (kvs : List (List Key × V))
  | set (S : Int → Bool) (n : Nat)
  | ins (C dx : Addr) (fs : List (Str × V))
  | own (x : Addr)
  | xd (fs : List (Str × V))
  | met (f x : Addr)
  | rng (lo hi : Int)
  | frz (o : Obj) (u : HO)
  | tbl (ps : Array Value)
  | ext (φ : Heap → Prop)
abbrev Hp := Addr → Option HO
def upd (H : Hp) (a : Addr) (o : HO) : Hp := fun b => if b = a then some o else H b
theorem upd_same {H : Hp} {a : Addr} {o : HO} : upd H a o a = some o := by unfold upd; rw [if_pos rfl]
theorem upd_ne {H : Hp} {a b : Addr} {o : HO} (h : b ≠ a) : upd H a o b = H b := by unfold upd; rw [if_neg h]
theorem ne_of {H : Hp} {a b : Addr} {o u : HO} (h : H a = some o) (h' : H b = some u) (d : o ≠ u) : a ≠ b := by
  intro e; subst e; rw [h] at h'; exact d (Option.some.inj h')
theorem ne_of_none {H : Hp} {a b : Addr} {o : HO} (h : H a = some o) (h' : H b = none) : a ≠ b := by
  intro e; subst e; rw [h] at h'; cases h'
section
variable (P : Program) (w : World)
def ObjOk (H : Hp) (h : Heap) (a : Addr) : HO → Prop
  | .lst xs => xs.length ≤ sizeLine ∧ ∃ (its : List Value) (n : Nat), Vals xs its ∧ h.get? a = some { cls := .type "list", data := .seq its.toArray n }
  | .tup xs => xs.length ≤ sizeLine ∧ ∃ its : List Value, Vals xs its ∧ IsTup h a its.toArray
  | .dK kvs => kvs.length ≤ sizeLine ∧ (a == sysModules) = false ∧ ∃ vs, KV kvs vs ∧ h.DictOf (mixKind P w) a vs
  | .dT kvs => kvs.length ≤ sizeLine ∧ (a == sysModules) = false ∧ ∃ xs : List (List Key × Addr × Value),
      Paired (fun (p : List Key × V) (q : List Key × Addr × Value) => p.1 = q.1 ∧ H q.2.1 = some (.tup (p.1.map kV)) ∧ RelV p.2 q.2.2) kvs xs ∧
      ∃ o es ep, h.get? a = some o ∧ o.ExactDict ∧ o.data = .dict es ep ∧ es.toList = xs.map (entryOfKey (tupleKind (mixKind P w))) ∧ (xs.map (·.1)).Nodup
  | .set S n => h.SetOf (intKind P w) a S n
  | .ins C dx fs => H dx = some (.own a) ∧ fs.length ≤ 1000 ∧ dx ≠ a ∧ h.get? a = some (PySem.W.instObj C dx) ∧
      ∃ mA, h.Ns1 dx mA ∧ (∀ f, RelO (fs.lookup f) (mA f)) ∧ PySem.Within mA (fs.map (·.1))
  | .own _ => ∃ o, h.get? a = some o
  | .xd fs => ∃ mA, h.Ns1 a mA ∧ ∀ f, RelO (fs.lookup f) (mA f)
  | .rng lo hi => ∃ t u v, h.get? a = some { cls := .type "range", data := .fields #[.int lo t, .int hi u, .int 1 v] }
  | .frz o u => h.get? a = some o ∧ ObjOk H h a u
  | .tbl ps => h.get? a = some { cls := .none, data := .fields ps }
  | .met f x => h.get? a = some (PySem.W.methodObj (.ref f) (.ref x))
  | .ext φ => φ h ∧ (∃ o, h.get? a = some o) ∧ ∀ h1 h2 : Heap, φ h1 → (∀ o, h1.get? a = some o → h2.get? a = some o) → φ h2
def HOk (H : Hp) (h : Heap) : Prop := ∀ a o, H a = some o → ObjOk P w H h a o
end
section
variable {P : Program} {w : World} {H H' : Hp} {h h' : Heap} {a : Addr} {o : HO}
theorem ObjOk.lt (x : ObjOk P w H h a o) : a < h.objs.size := by
  cases o with
  | lst xs => obtain ⟨_, _, _, _, e⟩ := x; exact Heap.lt_size e
  | tup xs => obtain ⟨_, _, _, p⟩ := x; exact p.lt
  | dK kvs => obtain ⟨_, _, _, _, o, _, _, e, _⟩ := x; exact Heap.lt_size e
  | dT kvs => obtain ⟨_, _, _, _, o, _, _, e, _⟩ := x; exact Heap.lt_size e
  | set S n => obtain ⟨o, _, _, _, e, _⟩ := x; exact Heap.lt_size e
  | ins C dx fs => obtain ⟨_, _, _, e, _⟩ := x; exact Heap.lt_size e
  | own y => obtain ⟨_, e⟩ := x; exact Heap.lt_size e
  | xd fs => obtain ⟨_, ⟨_, _, _, e, _⟩, _⟩ := x; exact Heap.lt_size e
  | rng lo hi => obtain ⟨_, _, _, e⟩ := x; exact Heap.lt_size e
  | frz ob u => obtain ⟨e, _⟩ := x; exact Heap.lt_size e
  | tbl ps => exact Heap.lt_size (show h.get? a = some _ from x)
  | met f y => exact Heap.lt_size (show h.get? a = some _ from x)
  | ext φ => obtain ⟨_, ⟨_, e⟩, _⟩ := x; exact Heap.lt_size e
theorem Paired.mapP {α β : Type} {F G : α → β → Prop} : ∀ {l₁ : List α} {l₂ : List β}, Paired F l₁ l₂ → (∀ a b, F a b → G a b) → Paired G l₁ l₂
  | _, _, .nil, _ => .nil
  | _, _, .cons r t, f => .cons (f _ _ r) (Paired.mapP t f)
theorem ObjOk.stay (x : ObjOk P w H h a o) (k : ∀ b u, (b = a ∨ H b = some (.own a)) → h.get? b = some u → h'.get? b = some u)
    (ho : ∀ b, H b = some (.own a) → H' b = some (.own a)) (ht : ∀ b xs, H b = some (.tup xs) → H' b = some (.tup xs)) : ObjOk P w H' h' a o := by
  induction o with
  | lst xs => obtain ⟨z, its, n, r, e⟩ := x; exact ⟨z, its, n, r, k _ _ (.inl rfl) e⟩
  | tup xs => obtain ⟨z, its, r, ob, e, c⟩ := x; exact ⟨z, its, r, ob, k _ _ (.inl rfl) e, c⟩
  | dK kvs => obtain ⟨z, y, vs, r, ob, es, ep, e, c⟩ := x; exact ⟨z, y, vs, r, ob, es, ep, k _ _ (.inl rfl) e, c⟩
  | dT kvs =>
    obtain ⟨z, y, xs, r, ob, es, ep, e, c⟩ := x
    exact ⟨z, y, xs, Paired.mapP r fun p q z => ⟨z.1, ht _ _ z.2.1, z.2.2⟩, ob, es, ep, k _ _ (.inl rfl) e, c⟩
  | set S n => obtain ⟨ob, es, ep, t, e, c⟩ := x; exact ⟨ob, es, ep, t, k _ _ (.inl rfl) e, c⟩
  | ins C dx fs =>
    obtain ⟨d, z, ne, e, mA, ⟨od, es, ep, e2, c⟩, r⟩ := x
    exact ⟨ho _ d, z, ne, k _ _ (.inl rfl) e, mA, ⟨od, es, ep, k _ _ (.inr d) e2, c⟩, r⟩
  | own y => obtain ⟨ob, e⟩ := x; exact ⟨ob, k _ _ (.inl rfl) e⟩
  | xd fs => obtain ⟨mA, ⟨od, es, ep, e, c⟩, r⟩ := x; exact ⟨mA, ⟨od, es, ep, k _ _ (.inl rfl) e, c⟩, r⟩
  | rng lo hi => obtain ⟨t, u, v, e⟩ := x; exact ⟨t, u, v, k _ _ (.inl rfl) e⟩
  | frz ob u ih => obtain ⟨e, q⟩ := x; exact ⟨k _ _ (.inl rfl) e, ih q⟩
  | tbl ps =>
    have e : h.get? a = some { cls := .none, data := .fields ps } := x
    show h'.get? a = some { cls := .none, data := .fields ps }
    exact k a _ (.inl rfl) e
  | met f y =>
    have e : h.get? a = some (PySem.W.methodObj (.ref f) (.ref y)) := x
    show h'.get? a = some (PySem.W.methodObj (.ref f) (.ref y))
    exact k a _ (.inl rfl) e
  | ext φ => obtain ⟨p, ⟨o, e⟩, st⟩ := x; exact ⟨st _ _ p fun o q => k _ _ (.inl rfl) q, ⟨o, k _ _ (.inl rfl) e⟩, st⟩
theorem HOk.lt (x : HOk P w H h) (e : H a = some o) : a < h.objs.size := (x a o e).lt
theorem HOk.fresh (x : HOk P w H h) (e : h.objs.size ≤ a) : H a = none := by
  cases q : H a with
  | none => rfl
  | some u => exact absurd (Nat.lt_of_lt_of_le (x.lt q) e) (Nat.lt_irrefl _)
theorem HOk.kept (x : HOk P w H h) (k : ∀ b u, h.get? b = some u → h'.get? b = some u) : HOk P w H h' := fun a o e =>
  (x a o e).stay (fun b u _ q => k b u q) (fun _ q => q) fun _ _ q => q
theorem HOk.laid (x : HOk P w H h) (k : ∀ b u, h.get? b = some u → h'.get? b = some u) (hp : h.objs.size ≤ a) (new : ObjOk P w (upd H a o) h' a o) : HOk P w (upd H a o) h' := fun b u e => by
  have hn := x.fresh hp
  by_cases hb : b = a
  · subst hb; rw [upd_same] at e; cases e; exact new
  · rw [upd_ne hb] at e
    exact (x b u e).stay (fun c v _ q => k c v q) (fun c q => by rw [upd_ne (ne_of_none q hn)]; exact q) fun c xs q => by rw [upd_ne (ne_of_none q hn)]; exact q
end
def Rd (H : Hp) (a : Addr) (u : HO) : Prop := H a = some u ∨ ∃ o, H a = some (.frz o u)
theorem Rd.of {H : Hp} {a : Addr} {u : HO} (h : H a = some u) : Rd H a u := .inl h
theorem Rd.ok {P : Program} {w : World} {H : Hp} {h : Heap} {a : Addr} {u : HO} (r : Rd H a u) (x : HOk P w H h) : ObjOk P w H h a u := by
  rcases r with r | ⟨o, r⟩
  · exact x a u r
  · obtain ⟨_, q⟩ := x a _ r
    exact q
def Mut : Option HO → Prop
  | some (.lst _) => True
  | some (.dK _) => True
  | some (.dT _) => True
  | some (.set _ _) => True
  | some (.ins _ _ _) => True
  | some (.ext _) => True
  | _ => False
section
variable {P : Program} {w : World} {H : Hp} {h h' : Heap} {x e : Addr} {o' : HO}
theorem HOk.write (ok : HOk P w H h) (mu : Mut (H x)) (he : e = x ∨ H e = some (.own x)) (k : ∀ b u, b ≠ e → h.get? b = some u → h'.get? b = some u) (heo : ∃ u, h'.get? e = some u)
    (new : ObjOk P w (upd H x o') h' x o') : HOk P w (upd H x o') h' := fun b u q => by
  have nown : ∀ c y, H c = some (.own y) → c ≠ x := fun c y r z => by subst z; rw [r] at mu; exact mu
  have ntup : ∀ c xs, H c = some (.tup xs) → c ≠ x := fun c xs r z => by subst z; rw [r] at mu; exact mu
  by_cases hb : b = x
  · subst hb; rw [upd_same] at q; cases q; exact new
  · rw [upd_ne hb] at q
    by_cases hbe : b = e
    · have q' : H b = some (.own x) := by
        rcases he with z | z
        · exact absurd (hbe.trans z) hb
        · rw [hbe]; exact z
      rw [q] at q'; cases q'
      obtain ⟨v, hv⟩ := heo
      exact ⟨v, by rw [hbe]; exact hv⟩
    · refine (ok b u q).stay (fun c v hc r => k c v ?_ r) (fun c r => by rw [upd_ne (nown c b r)]; exact r) fun c xs r => by rw [upd_ne (ntup c xs r)]; exact r
      rcases hc with rfl | hc
      · exact hbe
      · rintro rfl
        rcases he with z | z
        · exact nown c b hc z
        · rw [hc] at z; cases z; exact hb rfl
end
structure Un (fs ex : List Addr) (H H' : Hp) (h h' : Heap) : Prop where
  keep : ∀ b o, h.get? b = some o → H b = none → b ∉ fs → b ∉ ex → h'.get? b = some o
  slot : ∀ b o, h.get? b = some o → H b = none → b ∈ fs → b ∉ ex → ∃ sl, h'.get? b = some { o with slots := sl }
  free : ∀ b o, h.get? b = some o → H b = none → b ∉ ex → H' b = none
  there : ∀ b o, h.get? b = some o → b ∉ ex → ∃ o', h'.get? b = some o'
  tups : ∀ b xs, H b = some (.tup xs) → H' b = some (.tup xs)
  frzs : ∀ b o u, H b = some (.frz o u) → H' b = some (.frz o u)
  tbls : ∀ b ps, H b = some (.tbl ps) → ∃ more, H' b = some (.tbl (ps ++ more))
section
variable {fs fs' ex ex' : List Addr} {H H1 H2 : Hp} {h h1 h2 h' : Heap} {a x e : Addr} {o : HO}
theorem Un.any (u : Un fs ex H H1 h h1) {b : Addr} {ob : Obj} (q : h.get? b = some ob) (n : H b = none) (hx : b ∉ ex) : ∃ sl, h1.get? b = some { ob with slots := sl } := by
  by_cases hb : b ∈ fs
  · exact u.slot b ob q n hb hx
  · exact ⟨ob.slots, u.keep b ob q n hb hx⟩
theorem Un.trans (a : Un fs ex H H1 h h1) (b : Un fs ex H1 H2 h1 h2) : Un fs ex H H2 h h2 where
  keep := fun c ob q n hc hx => b.keep c ob (a.keep c ob q n hc hx) (a.free c ob q n hx) hc hx
  slot := fun c ob q n hc hx => by
    obtain ⟨sl, e1⟩ := a.slot c ob q n hc hx
    obtain ⟨sl', e2⟩ := b.slot c _ e1 (a.free c ob q n hx) hc hx
    exact ⟨sl', e2⟩
  free := fun c ob q n hx => by
    obtain ⟨o', e1⟩ := a.there c ob q hx
    exact b.free c o' e1 (a.free c ob q n hx) hx
  there := fun c ob q hx => by
    obtain ⟨o', e1⟩ := a.there c ob q hx
    exact b.there c o' e1 hx
  tups := fun c xs q => b.tups c xs (a.tups c xs q)
  frzs := fun c ob xs q => b.frzs c ob xs (a.frzs c ob xs q)
  tbls := fun c ps q => by
    obtain ⟨m1, e1⟩ := a.tbls c ps q
    obtain ⟨m2, e2⟩ := b.tbls c _ e1
    exact ⟨m1 ++ m2, by rw [e2, Array.append_assoc]⟩
theorem Un.kept (k : ∀ b u, h.get? b = some u → h'.get? b = some u) : Un fs ex H H h h' :=
  ⟨fun b ob q _ _ _ => k b ob q, fun b ob q _ _ _ => ⟨ob.slots, k b ob q⟩, fun _ _ _ n _ => n, fun b ob q _ => ⟨ob, k b ob q⟩, fun _ _ q => q, fun _ _ _ q => q, fun _ ps q => ⟨#[], by rw [q]; simp⟩⟩
theorem Un.refl : Un fs ex H H h h := Un.kept fun _ _ q => q
theorem Un.laid (k : ∀ b u, h.get? b = some u → h'.get? b = some u) (hp : h.objs.size ≤ a) (hn : H a = none) : Un fs ex H (upd H a o) h h' where
  keep := fun b u q _ _ _ => k b u q
  slot := fun b u q _ _ _ => ⟨u.slots, k b u q⟩
  free := fun b u q n _ => by rw [upd_ne (Nat.ne_of_lt (Nat.lt_of_lt_of_le (Heap.lt_size q) hp))]; exact n
  there := fun b u q _ => ⟨u, k b u q⟩
  tups := fun b xs q => by rw [upd_ne (ne_of_none q hn)]; exact q
  frzs := fun b u xs q => by rw [upd_ne (ne_of_none q hn)]; exact q
  tbls := fun b ps q => ⟨#[], by rw [upd_ne (ne_of_none q hn), q]; simp⟩
theorem Un.write (mu : Mut (H x)) (he : e = x ∨ H e = some (.own x)) (k : ∀ b u, b ≠ e → h.get? b = some u → h'.get? b = some u) (heo : ∃ u, h'.get? e = some u) : Un fs ex H (upd H x o) h h' := by
  have hx : ∀ b, H b = none → b ≠ x := fun b n z => by subst z; rw [n] at mu; exact mu
  have hb : ∀ b, H b = none → b ≠ e := fun b n z => by
    subst z
    rcases he with r | r
    · exact hx b n r
    · rw [n] at r; cases r
  have hm : ∀ b u, H b = some u → ¬ Mut (some u) → b ≠ x := fun b u q nm z => by subst z; rw [q] at mu; exact nm mu
  refine ⟨fun b u q n _ _ => k b u (hb b n) q, fun b u q n _ _ => ⟨u.slots, k b u (hb b n) q⟩, fun b u q n _ => by rw [upd_ne (hx b n)]; exact n, fun b u q _ => ?_,
    fun b xs q => by rw [upd_ne (hm b _ q fun z => z)]; exact q, fun b u xs q => by rw [upd_ne (hm b _ q fun z => z)]; exact q, fun b ps q => ⟨#[], by rw [upd_ne (hm b _ q fun z => z), q]; simp⟩⟩
  by_cases hbe : b = e
  · subst hbe; exact heo
  · exact ⟨u, k b u hbe q⟩
theorem Un.mono (u : Un fs ex H H1 h h1) (hs : ∀ b ∈ fs, b ∈ fs') (hx : ∀ b ∈ ex, b ∈ ex') : Un fs' ex' H H1 h h1 :=
  ⟨fun b ob q n hb he => u.keep b ob q n (fun z => hb (hs b z)) fun z => he (hx b z), fun _ _ q n _ he => u.any q n fun z => he (hx _ z), fun b ob q n he => u.free b ob q n fun z => he (hx b z), fun b ob q he => u.there b ob q fun z => he (hx b z), u.tups, u.frzs, u.tbls⟩
end
def trk (h : Heap) (H : Hp) : List Addr := (List.range h.objs.size).filter fun a => (H a).isSome
def hidT (h : Heap) (H : Hp) : Heap := PySem.W.hideAll h (trk h H)
theorem hidT_size (h : Heap) (H : Hp) : (hidT h H).objs.size = h.objs.size := PySem.W.hideAll_size _ _
theorem hidT_get {h : Heap} {H : Hp} {b : Addr} {o : Obj} (e : h.get? b = some o) (n : H b = none) : (hidT h H).get? b = some o :=
  PySem.W.hideAll_get _ e fun hm => by
    have q : (H b).isSome = true := (List.mem_filter.mp hm).2
    rw [n] at q; simp at q
theorem of_hidT {h : Heap} {H : Hp} {b : Addr} {o : Obj} (e : (hidT h H).get? b = some o) : h.get? b = some o ∧ H b = none := by
  have e' : h.get? b = some o := PySem.W.of_hideAll (trk h H) e
  refine ⟨e', ?_⟩
  cases q : H b with
  | none => rfl
  | some x =>
    have hm : b ∈ trk h H := List.mem_filter.mpr ⟨List.mem_range.mpr (Heap.lt_size e'), by simp [q]⟩
    have z : (hidT h H).get? b = none := PySem.W.hideAll_none (trk h H) hm
    rw [z] at e; cases e
def allNews (g h : Heap) (L : Addr) : List (Addr × Obj) := (List.range h.objs.size).filterMap fun a => if a = L ∨ (g.get? a).isSome = true then none else (h.get? a).map fun o => (a, o)
def rest (g h : Heap) (L d : Addr) : List (Addr × Obj) := (allNews g h L).filter fun p => decide (p.1 ≠ d)
end L2
namespace L2
open PySem PySem.Spec PyProof.Rows
structure Mod (K : PySem.W.Frag) (mg : Str → Option Value) (base : Heap) : Prop where
  kin : K.In base
  glob : base.Ns mainGlobals mg
  blt : ∃ mb, base.Ns builtinsNs mb ∧ ∀ x : Str, x ≠ "__name__" → mb x = bootBuiltins x
  nolimit : base.NoLimit
structure Cx where
  prog : Program
  w : World
  K : PySem.W.Frag
  mg : Str → Option Value
  base : Heap
  A : Around
  N : List Str
  s₀ : Shared
  H₀ : Hp
  env : Env
  outer : List Env
  stack : List Env
  ex : List Addr
  fn : Str → Bool
  calm : Bool
  pn : List (Addr × Obj)
  xe : Value → Shared → Prop
def frs (l : List Env) : List Addr := l.filterMap (·.frame)
abbrev Cx.fs (X : Cx) : List Addr := frs X.outer
def Vis (sc : Scope) (x : Str) : Prop := sc.names.lookup x = some .local ∨ sc.names.lookup x = some .cell ∨ sc.names.lookup x = some .free
def Loc (sc : Scope) (x : Str) : Prop := sc.names.lookup x = some .local ∨ sc.names.lookup x = some .cell
def Look (env : Env) (h : Heap) (m : Str → Option Value) (x : Str) (u : Value) : Prop :=
  (env.kindOf x = some .local ∧ m x = some u) ∨ ((env.kindOf x = some .cell ∨ env.kindOf x = some .free) ∧ ∃ c, env.cells.lookup x = some c ∧ h.IsCell c (some u))
structure Cx.Ok (X : Cx) : Prop where
  mod : Mod X.K X.mg X.base
  kind : X.env.scope.kind = .function
  glob : X.env.globals = mainGlobals
  blt : X.env.builtins = builtinsNs
  above : X.s₀.heap.objs.size ≤ X.env.locals
  inj : ∀ x y c, X.env.cells.lookup x = some c → X.env.cells.lookup y = some c → x = y
  has : ∀ x, (X.env.kindOf x = some .cell ∨ X.env.kindOf x = some .free) → ∃ c, X.env.cells.lookup x = some c
  cab : ∀ x c, X.fn x = true → X.env.cells.lookup x = some c → X.s₀.heap.objs.size ≤ c
  hd : X.calm = true → X.A.handled = none
  frames : X.A.frames = some X.stack
  stk : X.stack = X.outer ∨ (X.stack = X.env :: X.outer ∧ X.env.frame = some X.env.locals)
  exf : ∀ b ∈ X.ex, b ≠ X.env.locals ∧ ∀ x c, X.env.cells.lookup x = some c → c ≠ b
  bs : ∀ b o, X.base.get? b = some o → X.s₀.heap.get? b = some o ∧ X.H₀ b = none
  bsz : X.base.objs.size ≤ X.s₀.heap.objs.size
  noex : ∀ b o, X.base.get? b = some o → b ∉ X.ex
  exfs : ∀ b ∈ X.ex, b ∉ X.fs
  funs : X.s₀.heap.FunFrames X.base X.outer
  frf : ∀ b ∈ X.fs, X.H₀ b = none
structure Inv (X : Cx) (pins : List (Addr × Obj)) (σ : List (Option V)) (H : Hp) (s : Shared) : Prop where
  ok : X.Ok
  os : s.os = X.s₀.os
  bare : AllBare s.gens
  base : Un X.fs X.ex X.H₀ H X.s₀.heap s.heap
  loc : ∃ m, s.heap.Ns X.env.locals m ∧ ∀ (i : Nat) (x : Str) (v : V), X.N[i]? = some x → σ[i]? = some (some v) → Vis X.env.scope x → ∃ u, RelV v u ∧ Look X.env s.heap m x u
  cell : ∀ x c, X.env.cells.lookup x = some c → ∃ v, s.heap.IsCell c v
  free : H X.env.locals = none
  freeC : ∀ x c, X.env.cells.lookup x = some c → H c = none
  pin : ∀ p ∈ X.pn ++ pins, s.heap.get? p.1 = some p.2 ∧ H p.1 = none ∧ p.1 ≠ X.env.locals ∧ p.1 ∉ X.fs ∧ ∀ v, p.2.data ≠ .cell v
  hok : HOk X.prog X.w H s.heap
  len : σ.length = X.N.length
section
variable {X : Cx} {pins : List (Addr × Obj)} {σ : List (Option V)} {H H' : Hp} {s : Shared} {h' : Heap}
theorem Cx.Ok.nofr (ok : X.Ok) {b : Addr} {o : Obj} (e : X.base.get? b = some o) : b ∉ X.fs := fun hb => by
  have := (ok.funs.mem hb).1
  rw [e] at this; cases this
theorem Inv.bs (I : Inv X pins σ H s) : ∀ b o, X.base.get? b = some o → s.heap.get? b = some o ∧ H b = none := fun b o e =>
  ⟨I.base.keep b o (I.ok.bs b o e).1 (I.ok.bs b o e).2 (I.ok.nofr e) (I.ok.noex b o e), I.base.free b o (I.ok.bs b o e).1 (I.ok.bs b o e).2 (I.ok.noex b o e)⟩
theorem Inv.bk (I : Inv X pins σ H s) : ∀ b o, X.base.get? b = some o → s.heap.get? b = some o := fun b o e => (I.bs b o e).1
theorem Inv.mod (I : Inv X pins σ H s) : Mod X.K X.mg X.base := I.ok.mod
theorem Inv.kIn (I : Inv X pins σ H s) : X.K.In s.heap := I.ok.mod.kin.keeps I.bk
theorem Inv.nolimit (I : Inv X pins σ H s) : s.heap.NoLimit := I.ok.mod.nolimit.keeps I.bk
theorem Inv.fr (I : Inv X pins σ H s) : ∃ m, Fr X.base X.env.locals s.heap m :=
  let ⟨m, hn, _⟩ := I.loc
  ⟨m, hn, I.bk, Nat.le_trans I.ok.bsz I.ok.above⟩
theorem Inv.lt (I : Inv X pins σ H s) : X.env.locals < s.heap.objs.size := let ⟨_, hn, _⟩ := I.loc; hn.lt
theorem Inv.sz (I : Inv X pins σ H s) : X.s₀.heap.objs.size ≤ s.heap.objs.size := Nat.le_trans I.ok.above (Nat.le_of_lt I.lt)
theorem Inv.nofs (I : Inv X pins σ H s) {a : Addr} (h : s.heap.objs.size ≤ a) : a ∉ X.fs := fun hb => by
  obtain ⟨_, o, ho, _⟩ := I.ok.funs.mem hb
  exact absurd (Nat.lt_of_lt_of_le (Heap.lt_size ho) (Nat.le_trans I.sz h)) (Nat.lt_irrefl _)
theorem Inv.cne (I : Inv X pins σ H s) : ∀ x c, X.env.cells.lookup x = some c → c ≠ X.env.locals := fun x c e z => by
  obtain ⟨v, o, ho, hd⟩ := I.cell x c e
  obtain ⟨m, ⟨o', es, ep, ho', hd', _⟩, _⟩ := I.loc
  rw [z, ho'] at ho; cases ho; rw [hd'] at hd; cases hd
theorem Inv.funs (I : Inv X pins σ H s) : s.heap.FunFrames X.base X.outer := by
  have all : ∀ (l : List Env), (∀ b ∈ frs l, b ∈ X.fs) → X.s₀.heap.FunFrames X.base l → s.heap.FunFrames X.base l := by
    intro l
    induction l with
    | nil => intro _ _; trivial
    | cons env r ih =>
      intro hs hl
      obtain ⟨hk, ⟨L, o, hf, hn, ho, hd⟩, hr⟩ := hl
      have hL : L ∈ X.fs := hs L (by unfold frs; rw [List.filterMap_cons, hf]; exact List.mem_cons_self)
      obtain ⟨sl, e⟩ := I.base.slot L o ho (I.ok.frf L hL) hL fun z => I.ok.exfs L z hL
      exact ⟨hk, ⟨L, _, hf, hn, e, hd⟩, ih (fun b hb => hs b (by unfold frs; rw [List.filterMap_cons, hf]; exact List.mem_cons_of_mem _ hb)) hr⟩
  exact all X.outer (fun _ hb => hb) I.ok.funs
theorem Inv.stack (I : Inv X pins σ H s) : s.heap.FunFrames X.base X.stack := by
  rcases I.ok.stk with e | ⟨e, hf⟩
  · rw [e]; exact I.funs
  · rw [e]
    obtain ⟨m, hn, _⟩ := I.loc
    refine .cons (by rw [I.ok.kind]; decide) hf hn ?_ I.funs
    exact Heap.get?_none_of_le (Nat.le_trans I.ok.bsz I.ok.above)
theorem Inv.stkSub (I : Inv X pins σ H s) : ∀ b ∈ frs X.stack, b ∈ X.env.locals :: X.fs := fun b hb => by
  rcases I.ok.stk with e | ⟨e, hf⟩
  · rw [e] at hb; exact List.mem_cons_of_mem _ hb
  · rw [e] at hb
    unfold frs at hb
    rw [List.filterMap_cons, hf] at hb
    exact hb
theorem Inv.stkFree (I : Inv X pins σ H s) : ∀ b ∈ frs X.stack, H b = none := fun b hb => by
  rcases List.mem_cons.mp (I.stkSub b hb) with e | hb
  · rw [e]; exact I.free
  · obtain ⟨_, o, ho, _⟩ := I.ok.funs.mem hb
    exact I.base.free b o ho (I.ok.frf b hb) fun z => I.ok.exfs b z hb
theorem Inv.step {g' : Array GenState} {t' : Nat} {d' : Drawn} {ch : List Addr} (I : Inv X pins σ H s)
    (hch : ∀ b ∈ ch, (b ∈ X.ex ∨ X.s₀.heap.objs.size ≤ b) ∧ b ≠ X.env.locals ∧ (∀ x c, X.env.cells.lookup x = some c → c ≠ b) ∧ ∀ p ∈ X.pn ++ pins, p.1 ≠ b)
    (keep : ∀ b o, b ≠ X.env.locals → b ∉ X.fs → b ∉ ch → s.heap.get? b = some o → H b = none → h'.get? b = some o)
    (slot : ∀ b o, b ≠ X.env.locals → b ∈ X.fs → b ∉ ch → s.heap.get? b = some o → H b = none → ∃ sl, h'.get? b = some { o with slots := sl }) (free : ∀ b o, b ∉ ch → s.heap.get? b = some o → H b = none → H' b = none)
    (there : ∀ b o, b ∉ ch → s.heap.get? b = some o → ∃ o', h'.get? b = some o')
    (tups : ∀ b xs, H b = some (.tup xs) → H' b = some (.tup xs)) (frzs : ∀ b o u, H b = some (.frz o u) → H' b = some (.frz o u)) (tbls : ∀ b ps, H b = some (.tbl ps) → ∃ more, H' b = some (.tbl (ps ++ more)))
    (ns : ∀ m, s.heap.Ns X.env.locals m → h'.Ns X.env.locals m) (hok : HOk X.prog X.w H' h') (hg : AllBare g') :
    Inv X pins σ H' { s with heap := h', gens := g', drawn := d', toks := t' } := by
  have neL : ∀ b o, X.s₀.heap.get? b = some o → b ≠ X.env.locals := fun b o e => Nat.ne_of_lt (Nat.lt_of_lt_of_le (Heap.lt_size e) I.ok.above)
  have neC : ∀ b o, X.s₀.heap.get? b = some o → b ∉ X.ex → b ∉ ch := fun b o e hx hb => by
    rcases (hch b hb).1 with z | z
    · exact hx z
    · exact absurd (Nat.lt_of_lt_of_le (Heap.lt_size e) z) (Nat.lt_irrefl _)
  have cellK : ∀ x c, X.env.cells.lookup x = some c → ∀ v, s.heap.IsCell c v → h'.IsCell c v := fun x c e v ⟨o, ho, hd⟩ => by
    have nch : c ∉ ch := fun z => (hch c z).2.2.1 x c e rfl
    by_cases hc : c ∈ X.fs
    · obtain ⟨sl, q⟩ := slot c o (I.cne x c e) hc nch ho (I.freeC x c e)
      exact ⟨_, q, hd⟩
    · exact ⟨o, keep c o (I.cne x c e) hc nch ho (I.freeC x c e), hd⟩
  refine ⟨I.ok, I.os, hg, ⟨fun b o e n hb hx => ?_, fun b o e n hb hx => ?_, fun b o e n hx => ?_, fun b o e hx => ?_, fun b xs e => tups b xs (I.base.tups b xs e), fun b o xs e => frzs b o xs (I.base.frzs b o xs e), fun b ps e => ?_⟩, ?_, fun x c e => ?_, ?_, fun x c e => ?_, fun p hp => ?_, hok, I.len⟩
  · exact keep b o (neL b o e) hb (neC b o e hx) (I.base.keep b o e n hb hx) (I.base.free b o e n hx)
  · obtain ⟨sl, e1⟩ := I.base.slot b o e n hb hx
    obtain ⟨sl', e2⟩ := slot b _ (neL b o e) hb (neC b o e hx) e1 (I.base.free b o e n hx)
    exact ⟨sl', e2⟩
  · obtain ⟨o', e1⟩ := I.base.there b o e hx
    exact free b o' (neC b o e hx) e1 (I.base.free b o e n hx)
  · obtain ⟨o', e1⟩ := I.base.there b o e hx
    exact there b o' (neC b o e hx) e1
  · obtain ⟨m1, e1⟩ := I.base.tbls b ps e
    obtain ⟨m2, e2⟩ := tbls b _ e1
    exact ⟨m1 ++ m2, by rw [e2, Array.append_assoc]⟩
  · obtain ⟨m, hn, hl⟩ := I.loc
    refine ⟨m, ns m hn, fun i x v e1 e2 e3 => ?_⟩
    obtain ⟨u, r, l⟩ := hl i x v e1 e2 e3
    refine ⟨u, r, ?_⟩
    rcases l with l | ⟨k, c, e, z⟩
    · exact .inl l
    · exact .inr ⟨k, c, e, cellK x c e _ z⟩
  · obtain ⟨v, z⟩ := I.cell x c e
    exact ⟨v, cellK x c e v z⟩
  · obtain ⟨m, ⟨o, _, _, ho, _⟩, _⟩ := I.loc
    exact free _ o (fun z => (hch _ z).2.1 rfl) ho I.free
  · obtain ⟨v, o, ho, hd⟩ := I.cell x c e
    exact free c o (fun z => (hch c z).2.2.1 x c e rfl) ho (I.freeC x c e)
  · obtain ⟨e, n, ne, nf, d⟩ := I.pin p hp
    have nch : p.1 ∉ ch := fun z => (hch p.1 z).2.2.2 p hp rfl
    exact ⟨keep p.1 p.2 ne nf nch e n, free p.1 p.2 nch e n, ne, nf, d⟩
theorem Inv.un {t' : Nat} (I : Inv X pins σ H s) (u : Un X.fs [] H H' s.heap h') (hok : HOk X.prog X.w H' h') : Inv X pins σ H' { s with heap := h', toks := t' } := by
  obtain ⟨m, ⟨o, es, ep, ho, r⟩, _⟩ := id I.loc
  obtain ⟨sl, hL⟩ := u.any ho I.free (by simp)
  exact I.step (g' := s.gens) (d' := s.drawn) (ch := []) (fun _ z => nomatch z) (fun b o _ hb _ e n => u.keep b o e n hb (by simp)) (fun b o _ hb _ e n => u.slot b o e n hb (by simp)) (fun b o _ e n => u.free b o e n (by simp)) (fun b o _ e => u.there b o e (by simp)) u.tups u.frzs u.tbls (fun m' hm => by
    obtain ⟨o', es', ep', ho', r'⟩ := hm
    rw [ho] at ho'; cases ho'
    exact ⟨_, es', ep', hL, r'⟩) hok I.bare
theorem Inv.call {g' : Array GenState} {t' : Nat} {d' : Drawn} {ch : List Addr} (I : Inv X pins σ H s) (u : Un (frs X.stack) ch H H' s.heap h') (hok : HOk X.prog X.w H' h') (hg : AllBare g')
    (hch : ∀ b ∈ ch, (b ∈ X.ex ∨ X.s₀.heap.objs.size ≤ b) ∧ b ≠ X.env.locals ∧ (∀ x c, X.env.cells.lookup x = some c → c ≠ b) ∧ ∀ p ∈ X.pn ++ pins, p.1 ≠ b) :
    Inv X pins σ H' { s with heap := h', gens := g', drawn := d', toks := t' } := by
  obtain ⟨m, ⟨o, es, ep, ho, r⟩, _⟩ := id I.loc
  obtain ⟨sl, hL⟩ := u.any ho I.free fun z => (hch _ z).2.1 rfl
  exact I.step (ch := ch) hch (fun b o hL hb hc e n => u.keep b o e n (fun z => (List.mem_cons.mp (I.stkSub b z)).elim hL hb) hc) (fun b o _ _ hc e n => u.any e n hc) (fun b o hc e n => u.free b o e n hc) (fun b o hc e => u.there b o e hc) u.tups u.frzs u.tbls (fun m' hm => by
    obtain ⟨o', es', ep', ho', r'⟩ := hm
    rw [ho] at ho'; cases ho'
    exact ⟨_, es', ep', hL, r'⟩) hok hg
theorem Inv.turned {t' : Nat} {it : Addr} (I : Inv X pins σ H s) (k : ∀ b o, b ≠ it → s.heap.get? b = some o → h'.get? b = some o) (hn : H it = none) (hL : it ≠ X.env.locals)
    (h1 : it ∈ X.ex ∨ X.s₀.heap.objs.size ≤ it) (h2 : ∀ x c, X.env.cells.lookup x = some c → c ≠ it) (h3 : ∀ p ∈ X.pn ++ pins, p.1 ≠ it) : Inv X pins σ H { s with heap := h', toks := t' } := by
  have nit : ∀ b u, H b = some u → b ≠ it := fun b u e z => by rw [z, hn] at e; cases e
  refine I.step (g' := s.gens) (d' := s.drawn) (ch := [it]) (fun b hb => ?_) (fun b o _ _ hc e _ => k b o (fun z => hc (by simp [z])) e) (fun b o _ _ hc e _ => ⟨o.slots, k b o (fun z => hc (by simp [z])) e⟩) (fun _ _ _ _ n => n)
    (fun b o hc e => ⟨o, k b o (fun z => hc (by simp [z])) e⟩) (fun _ _ e => e) (fun _ _ _ e => e) (fun b ps e => ⟨#[], by rw [e]; simp⟩) (fun m hm => ?_) (fun b u e => ?_) I.bare
  · have e : b = it := by simpa using hb
    subst e
    exact ⟨h1, hL, h2, h3⟩
  · obtain ⟨o, es, ep, ho, r⟩ := hm
    exact ⟨o, es, ep, k _ o (Ne.symm hL) ho, r⟩
  · refine (I.hok b u e).stay (fun c v hc q => k c v ?_ q) (fun _ q => q) fun _ _ q => q
    rcases hc with z | z
    · rw [z]; exact nit b u e
    · exact nit c _ z
theorem Inv.tok (I : Inv X pins σ H s) (t : Nat) : Inv X pins σ H { s with toks := t } := I.un (h' := s.heap) (t' := t) Un.refl I.hok
theorem Inv.kept {t' : Nat} (I : Inv X pins σ H s) (k : ∀ b u, s.heap.get? b = some u → h'.get? b = some u) : Inv X pins σ H { s with heap := h', toks := t' } := I.un (Un.kept k) (I.hok.kept k)
theorem Inv.laid {a : Addr} {o : HO} {t' : Nat} (I : Inv X pins σ H s) (k : ∀ b u, s.heap.get? b = some u → h'.get? b = some u) (hp : s.heap.objs.size ≤ a) (new : ObjOk X.prog X.w (upd H a o) h' a o) :
    Inv X pins σ (upd H a o) { s with heap := h', toks := t' } := I.un (Un.laid k hp (I.hok.fresh hp)) (I.hok.laid k hp new)
theorem Inv.write {x e : Addr} {o : HO} {t' : Nat} (I : Inv X pins σ H s) (mu : Mut (H x)) (he : e = x ∨ H e = some (.own x)) (k : ∀ b u, b ≠ e → s.heap.get? b = some u → h'.get? b = some u) (heo : ∃ u, h'.get? e = some u)
    (new : ObjOk X.prog X.w (upd H x o) h' x o) : Inv X pins σ (upd H x o) { s with heap := h', toks := t' } := I.un (Un.write mu he k heo) (I.hok.write mu he k heo new)
theorem Inv.pins_of {pins' : List (Addr × Obj)} (I : Inv X pins σ H s) (h : ∀ p ∈ pins', s.heap.get? p.1 = some p.2 ∧ H p.1 = none ∧ p.1 ≠ X.env.locals ∧ p.1 ∉ X.fs ∧ ∀ v, p.2.data ≠ .cell v) : Inv X pins' σ H s :=
  ⟨I.ok, I.os, I.bare, I.base, I.loc, I.cell, I.free, I.freeC, fun p hp => (List.mem_append.mp hp).elim (fun z => I.pin p (List.mem_append_left _ z)) (h p), I.hok, I.len⟩
theorem nodup_ix {N : List Str} (hN : N.Nodup) {i j : Nat} {x : Str} (a : N[i]? = some x) (b : N[j]? = some x) : i = j := by
  obtain ⟨h1, e1⟩ := List.getElem?_eq_some_iff.mp a
  obtain ⟨h2, e2⟩ := List.getElem?_eq_some_iff.mp b
  exact (List.getElem_inj hN).mp (e1.trans e2.symm)
theorem store_ok2 {M : Model} {A : Around} {E : Value → Shared → Prop} {i : Nat} {x : Str} {v : V} {u : Value} {Q : Unit → Shared → Prop} (I : Inv X pins σ H s) (hN : X.N.Nodup) (hi : X.N[i]? = some x) (hx : Loc X.env.scope x) (r : RelV v u)
    (h : ∀ s', Inv X pins (σ.set i (some v)) H s' → (∃ a, Heap.SameBut a s.heap s'.heap ∧ (a = X.env.locals ∨ X.env.cells.lookup x = some a)) → Q () s') (hf : X.fn x = true ∨ X.env.scope.names.lookup x = some .local := by first | exact .inl rfl | exact .inr rfl | assumption) : wpAny M A (storeName X.env x u) Q E s := by
  obtain ⟨m, hn, hl⟩ := id I.loc
  have hcls : (X.env.scope.kind == .class || (X.env.scope.kind == .module && X.env.locals != X.env.globals)) = false := by rw [I.ok.kind]; rfl
  have hiσ : i < σ.length := by rw [I.len]; exact (List.getElem?_eq_some_iff.mp hi).1
  have cne := I.cne
  have tracked : ∀ {a : Addr} {h' : Heap}, (∃ o, s.heap.get? a = some o ∧ H a = none) → Heap.SameBut a s.heap h' → HOk X.prog X.w H h' := fun {a h'} ha hs b ob e => by
    obtain ⟨_, _, hfree⟩ := ha
    refine (I.hok b ob e).stay (fun c w' hc q => (hs.2 c ?_).trans q) (fun _ q => q) fun _ _ q => q
    rintro rfl
    rcases hc with rfl | hc
    · rw [hfree] at e; cases e
    · rw [hfree] at hc; cases hc
  rcases hx with hk | hk
  · refine wpAny_storeName_local hk hn (fun h' hn' hs => ?_) hcls
    obtain ⟨oL, _, _, hoL, _⟩ := id hn
    refine h _ ⟨I.ok, I.os, I.bare, ⟨fun b o e n hb hx => ?_, fun b o e n hb hx => ?_, I.base.free, fun b o e hx => ?_, I.base.tups, I.base.frzs, I.base.tbls⟩, ⟨_, hn', fun j y v' e1 e2 e3 => ?_⟩, fun y c e => ?_, I.free, I.freeC, fun p hp => ?_, tracked ⟨oL, hoL, I.free⟩ hs, by simpa using I.len⟩ ⟨_, hs, .inl rfl⟩
    · exact (hs.2 b (Nat.ne_of_lt (Nat.lt_of_lt_of_le (Heap.lt_size e) I.ok.above))).trans (I.base.keep b o e n hb hx)
    · obtain ⟨sl, e1⟩ := I.base.slot b o e n hb hx
      exact ⟨sl, (hs.2 b (Nat.ne_of_lt (Nat.lt_of_lt_of_le (Heap.lt_size e) I.ok.above))).trans e1⟩
    · obtain ⟨o', e1⟩ := I.base.there b o e hx
      exact ⟨o', (hs.2 b (Nat.ne_of_lt (Nat.lt_of_lt_of_le (Heap.lt_size e) I.ok.above))).trans e1⟩
    · by_cases hj : j = i
      · subst hj
        rw [hi] at e1; cases e1
        rw [List.getElem?_set_self hiσ] at e2
        cases e2
        exact ⟨u, r, .inl ⟨hk, by simp⟩⟩
      · rw [List.getElem?_set_ne (Ne.symm hj)] at e2
        obtain ⟨u', r', q⟩ := hl j y v' e1 e2 e3
        refine ⟨u', r', ?_⟩
        rcases q with ⟨k, e⟩ | ⟨k, c, e, z⟩
        · refine .inl ⟨k, ?_⟩
          have : y ≠ x := fun e => hj (nodup_ix hN e1 (e ▸ hi))
          simp [this, e]
        · exact .inr ⟨k, c, e, z.sameBut hs (cne y c e)⟩
    · obtain ⟨w', z⟩ := I.cell y c e
      exact ⟨w', z.sameBut hs (cne y c e)⟩
    · obtain ⟨e, n, ne, nf, d⟩ := I.pin p hp
      exact ⟨(hs.2 p.1 ne).trans e, n, ne, nf, d⟩
  · have hfn : X.fn x = true := by
      rcases hf with z | z
      · exact z
      · rw [z] at hk; cases hk
    obtain ⟨c, hc⟩ := I.ok.has x (.inl hk)
    obtain ⟨w', z⟩ := I.cell x c hc
    refine wpAny_storeName_cell I.ok.kind hk hc z (fun h' hc' hs => ?_)
    obtain ⟨oc, hoc, hocd⟩ := id z
    refine h { s with heap := h' } ⟨I.ok, I.os, I.bare, ⟨fun b o e n hb hx => ?_, fun b o e n hb hx => ?_, I.base.free, fun b o e hx => ?_, I.base.tups, I.base.frzs, I.base.tbls⟩, ⟨m, hn.sameBut hs (Ne.symm (cne x c hc)), fun j y v' e1 e2 e3 => ?_⟩, fun y c' e => ?_, I.free, I.freeC, fun p hp => ?_, tracked ⟨oc, hoc, I.freeC x c hc⟩ hs, by simpa using I.len⟩ ⟨c, hs, .inr hc⟩
    · exact (hs.2 b (Nat.ne_of_lt (Nat.lt_of_lt_of_le (Heap.lt_size e) (I.ok.cab x c hfn hc)))).trans (I.base.keep b o e n hb hx)
    · obtain ⟨sl, e1⟩ := I.base.slot b o e n hb hx
      exact ⟨sl, (hs.2 b (Nat.ne_of_lt (Nat.lt_of_lt_of_le (Heap.lt_size e) (I.ok.cab x c hfn hc)))).trans e1⟩
    · obtain ⟨o', e1⟩ := I.base.there b o e hx
      exact ⟨o', (hs.2 b (Nat.ne_of_lt (Nat.lt_of_lt_of_le (Heap.lt_size e) (I.ok.cab x c hfn hc)))).trans e1⟩
    · by_cases hj : j = i
      · subst hj
        rw [hi] at e1; cases e1
        rw [List.getElem?_set_self hiσ] at e2
        cases e2
        exact ⟨u, r, .inr ⟨.inl hk, c, hc, hc'⟩⟩
      · rw [List.getElem?_set_ne (Ne.symm hj)] at e2
        obtain ⟨u', r', q⟩ := hl j y v' e1 e2 e3
        refine ⟨u', r', ?_⟩
        rcases q with q | ⟨k, c', e, z'⟩
        · exact .inl q
        · refine .inr ⟨k, c', e, z'.sameBut hs ?_⟩
          rintro rfl
          exact hj (nodup_ix hN e1 (I.ok.inj _ _ _ e hc ▸ hi))
    · by_cases hcc : c' = c
      · subst hcc; exact ⟨_, hc'⟩
      · obtain ⟨w2, z2⟩ := I.cell y c' e
        exact ⟨w2, z2.sameBut hs hcc⟩
    · obtain ⟨e, n, ne, nf, d⟩ := I.pin p hp
      refine ⟨(hs.2 p.1 ?_).trans e, n, ne, nf, d⟩
      intro q
      rw [q, hoc] at e
      have q' : oc = p.2 := Option.some.inj e
      exact d w' (by rw [← q']; exact hocd)
theorem store_ok {M : Model} {A : Around} {E : Value → Shared → Prop} {i : Nat} {x : Str} {v : V} {u : Value} {Q : Unit → Shared → Prop} (I : Inv X pins σ H s) (hN : X.N.Nodup) (hi : X.N[i]? = some x) (hx : Loc X.env.scope x) (r : RelV v u)
    (h : ∀ s', Inv X pins (σ.set i (some v)) H s' → Q () s') (hf : X.fn x = true ∨ X.env.scope.names.lookup x = some .local := by first | exact .inl rfl | exact .inr rfl | assumption) : wpAny M A (storeName X.env x u) Q E s :=
  store_ok2 I hN hi hx r (fun s' I' _ => h s' I') hf
theorem Inv.call' {s' : Shared} {ch : List Addr} (I : Inv X pins σ H s) (ho : s'.os = s.os) (u : Un (frs X.stack) ch H H' s.heap s'.heap) (hok : HOk X.prog X.w H' s'.heap) (hg : AllBare s'.gens)
    (hch : ∀ b ∈ ch, (b ∈ X.ex ∨ X.s₀.heap.objs.size ≤ b) ∧ b ≠ X.env.locals ∧ (∀ x c, X.env.cells.lookup x = some c → c ≠ b) ∧ ∀ p ∈ X.pn ++ pins, p.1 ≠ b) : Inv X pins σ H' s' := by
  obtain ⟨h', g', d', t', o'⟩ := s'
  have e : o' = s.os := ho
  subst e
  exact I.call (g' := g') (t' := t') (d' := d') u hok hg hch
end
abbrev XK := Value → Option Addr → Hp → Prop
abbrev St := List (Option V)
abbrev VK := V → Hp → Prop
abbrev TE := St → Hp → VK → Prop
abbrev TT := St → Hp → (Bool → Hp → Prop) → Prop
abbrev TA := St → Hp → (List V → Hp → Prop) → Prop
structure Ends where
  nx : St → Hp → Prop
  rt : VK
  bk : St → Hp → Prop := fun _ _ => False
  ct : St → Hp → Prop := fun _ _ => False
abbrev TS := Ends → St → Hp → Prop
def EP (X : Cx) (pins : List (Addr × Obj)) (σ : St) (Q : VK) (u : Value) (s' : Shared) : Prop := ∃ v H', Inv X pins σ H' s' ∧ RelV v u ∧ Q v H'
def TP (X : Cx) (pins : List (Addr × Obj)) (σ : St) (Q : Bool → Hp → Prop) (b : Bool) (s' : Shared) : Prop := ∃ H', Inv X pins σ H' s' ∧ Q b H'
def AP (X : Cx) (pins : List (Addr × Obj)) (σ : St) (Q : List V → Hp → Prop) (us : List Value) (s' : Shared) : Prop := ∃ vs H', Inv X pins σ H' s' ∧ Vals vs us ∧ Q vs H'
def SP (X : Cx) (pins : List (Addr × Obj)) (D : Ends) (f : Flow) (s' : Shared) : Prop :=
  match f with
  | .next => ∃ σ' H', Inv X pins σ' H' s' ∧ D.nx σ' H'
  | .brk => ∃ σ' H', Inv X pins σ' H' s' ∧ D.bk σ' H'
  | .cont => ∃ σ' H', Inv X pins σ' H' s' ∧ D.ct σ' H'
  | .ret u => ∃ v σ' H', Inv X pins σ' H' s' ∧ RelV v u ∧ D.rt v H'
def PE (X : Cx) (e : Expr) (t : TE) : Prop :=
  ∀ (pins : List (Addr × Obj)) (s : Shared) (σ : St) (H : Hp) (Q : VK), Inv X pins σ H s → t σ H Q → wpAny (model X.prog X.w) X.A (eval e X.env) (EP X pins σ Q) X.xe s
def PT (X : Cx) (e : Expr) (t : TT) : Prop :=
  ∀ (pins : List (Addr × Obj)) (s : Shared) (σ : St) (H : Hp) (Q : Bool → Hp → Prop), Inv X pins σ H s → t σ H Q → wpAny (model X.prog X.w) X.A (isTrue e X.env (eval e X.env)) (TP X pins σ Q) X.xe s
def PW (X : Cx) (e : Expr) (t : TT) : Prop :=
  ∀ (whole : Sem Value) (pins : List (Addr × Obj)) (s : Shared) (σ : St) (H : Hp) (Q : Bool → Hp → Prop), Inv X pins σ H s → t σ H Q → wpAny (model X.prog X.w) X.A (isTrue e X.env whole) (TP X pins σ Q) X.xe s
theorem PW.pt {X : Cx} {e : Expr} {t : TT} (h : PW X e t) : PT X e t := h _
def PA (X : Cx) (es : List Expr) (t : TA) : Prop :=
  ∀ (pos : Pos) (pins : List (Addr × Obj)) (s : Shared) (σ : St) (H : Hp) (Q : List V → Hp → Prop), Inv X pins σ H s → t σ H Q → wpAny (model X.prog X.w) X.A (spliced (backTo pos (starEach es X.env))) (AP X pins σ Q) X.xe s
def PS (X : Cx) (st : Stmt) (t : TS) : Prop :=
  ∀ (pins : List (Addr × Obj)) (s : Shared) (σ : St) (H : Hp) (D : Ends), Inv X pins σ H s → t D σ H → wpAny (model X.prog X.w) X.A (exec st X.env) (SP X pins D) X.xe s
def PSs (X : Cx) (st : List Stmt) (t : TS) : Prop :=
  ∀ (pins : List (Addr × Obj)) (s : Shared) (σ : St) (H : Hp) (D : Ends), Inv X pins σ H s → t D σ H → wpAny (model X.prog X.w) X.A (execs st X.env) (SP X pins D) X.xe s
theorem thn {α : Type} {t : Sem α} {Q Q' : α → Shared → Prop} {M : Model} {A : Around} {E : Value → Shared → Prop} {s : Shared} (h : wpAny M A t Q E s) (hQ : ∀ a s, Q a s → Q' a s) : wpAny M A t Q' E s := wpAny_mono h hQ fun _ _ x => x
end L2
namespace L2
open PySem PySem.Spec PyProof.Rows
section
variable {X : Cx}
def tVar (i : Nat) : TE := fun σ H Q => ∃ v, σ[i]? = some (some v) ∧ Q v H
def tC (v : V) : TE := fun _ H Q => Q v H
theorem pe_var {i : Nat} {x : Str} {pos : Pos} (hN : X.N[i]? = some x) (hv : Vis X.env.scope x) (hd : (x == ("__debug__" : Str)) = false := by decide) (hcd : (x == ("__classdict__" : Str)) = false := by decide) : PE X (.Name x pos) (tVar i) := by
  intro pins s σ H Q I h
  obtain ⟨v, e, h⟩ := h
  obtain ⟨m, hn, hl⟩ := I.loc
  obtain ⟨u, r, l⟩ := hl i x v hN e hv
  have fin : EP X pins σ Q u s := ⟨v, H, I, r, h⟩
  rcases l with ⟨hk, hm⟩ | ⟨hk, c, hc, hcell⟩
  · exact wpAny_Name (wpAny_loadName_local I.ok.kind hk hn hm fin) hd
  · rcases hk with hk | hk
    · exact wpAny_Name (wpAny_loadName_cell I.ok.kind hk hc hcell fin) hd
    · exact wpAny_Name (wpAny_loadName_free I.ok.kind hk hc hcell fin hcd) hd
theorem pe_int {i j pos} : PE X (.Constant (.int i) j pos) (tC (.int i)) := fun _ _ _ H _ I h => wpAny_Constant_int ⟨.int i, H, I.tok _, ⟨_, rfl⟩, h⟩
theorem pe_bl {b j pos} : PE X (.Constant (.bool b) j pos) (tC (.bl b)) := fun _ _ _ H _ I h => Constant_bool ⟨.bl b, H, I, rfl, h⟩
theorem pe_non {j pos} : PE X (.Constant .none j pos) (tC .non) := fun _ _ _ H _ I h => Constant_none ⟨.non, H, I, rfl, h⟩
theorem pe_str {x j pos} : PE X (.Constant (.str x) j pos) (tC (.str x)) := fun _ _ _ H _ I h => Calls.Constant_str ⟨.str x, H, I.tok _, ⟨_, rfl⟩, h⟩
def Gl (X : Cx) (x : Str) : Prop := X.env.kindOf x = some .globalImplicit
theorem ld_glob {E : Value → Shared → Prop} {pins : List (Addr × Obj)} {s : Shared} {σ : St} {H : Hp} {x : Str} {u : Value} {pos : Pos} {Q : Value → Shared → Prop} (I : Inv X pins σ H s) (hg : Gl X x) (hm : X.mg x = some u) (h : Q u s)
    (hd : (x == ("__debug__" : Str)) = false := by decide) : wpAny (model X.prog X.w) X.A (eval (.Name x pos) X.env) Q E s :=
  Calls.Name_function_global I.ok.kind hg (Calls.loadGlobal_global (by rw [I.ok.glob]; exact I.mod.glob.keeps I.bk) hm h) hd
theorem ld_blt {E : Value → Shared → Prop} {pins : List (Addr × Obj)} {s : Shared} {σ : St} {H : Hp} {x : Str} {u : Value} {pos : Pos} {Q : Value → Shared → Prop} (I : Inv X pins σ H s) (hg : Gl X x) (hm : X.mg x = none) (hv : bootBuiltins x = some u) (h : Q u s)
    (hn : x ≠ "__name__" := by decide) (hd : (x == ("__debug__" : Str)) = false := by decide) : wpAny (model X.prog X.w) X.A (eval (.Name x pos) X.env) Q E s := by
  obtain ⟨mb, h1, h2⟩ := I.mod.blt
  exact Calls.Name_function_global I.ok.kind hg (Calls.loadGlobal_builtin (by rw [I.ok.glob]; exact I.mod.glob.keeps I.bk) hm (by rw [I.ok.blt]; exact h1.keeps I.bk) ((h2 x hn).trans hv) h) hd
theorem pe_glob {x : Str} {v : V} {u : Value} {pos : Pos} (hg : Gl X x) (hm : X.mg x = some u) (r : RelV v u) (hd : (x == ("__debug__" : Str)) = false := by decide) : PE X (.Name x pos) (tC v) :=
  fun _ _ _ H _ I h => ld_glob I hg hm ⟨v, H, I, r, h⟩ hd
variable {a b : Expr} {ta tb : TE} {pos : Pos}
def tB (t : TE) : TT := fun σ H Q => t σ H fun x H1 => ∃ c, x = .bl c ∧ Q c H1
theorem pt_val {e : Expr} {t : TE} (h : PE X e t) (he : ∀ whole, isTrue e X.env whole = (do let v ← whole; standAt e.pos; holding [v] (truthy v)) := by intro _; rfl) : PT X e (tB t) := by
  intro pins s σ H Q I hw
  refine isTrue_plain (thn (h pins s σ H _ I hw) fun v s1 ⟨x, H1, I1, r1, q1⟩ => ?_) (he _)
  obtain ⟨d, rfl, q⟩ := q1
  cases r1
  exact wpAny_truthy_bool ⟨H1, I1, q⟩
variable {tA tB' : TT} {rest : List Expr}
def tAnd (t u : TT) : TT := fun σ H Q => t σ H fun c H1 => if c = true then u σ H1 Q else Q false H1
def tOr (t u : TT) : TT := fun σ H Q => t σ H fun c H1 => if c = true then Q true H1 else u σ H1 Q
def tNot (t : TT) : TT := fun σ H Q => t σ H fun c H1 => Q (!c) H1
theorem pw_and1 (ha : PT X a tA) : PW X (.BoolOp .And [a] pos) tA := by
  intro wh pins s σ H Q I h
  refine isTrue_and (thn (ha pins s σ H Q I h) fun c s1 e => ?_)
  cases c with
  | true => exact isTrue_and_nil e
  | false => exact e
theorem pw_or1 (ha : PT X a tA) : PW X (.BoolOp .Or [a] pos) tA := by
  intro wh pins s σ H Q I h
  refine isTrue_or (thn (ha pins s σ H Q I h) fun c s1 e => ?_)
  cases c with
  | false => exact isTrue_or_nil e
  | true => exact e
theorem pw_and (ha : PT X a tA) (hb : PW X (.BoolOp .And (b :: rest) pos) tB') : PW X (.BoolOp .And (a :: b :: rest) pos) (tAnd tA tB') := by
  intro wh pins s σ H Q I h
  refine isTrue_and (thn (ha pins s σ H _ I h) fun c s1 ⟨H1, I1, q1⟩ => ?_)
  cases c with
  | true => exact hb wh pins s1 σ H1 Q I1 q1
  | false => exact ⟨H1, I1, q1⟩
theorem pw_or (ha : PT X a tA) (hb : PW X (.BoolOp .Or (b :: rest) pos) tB') : PW X (.BoolOp .Or (a :: b :: rest) pos) (tOr tA tB') := by
  intro wh pins s σ H Q I h
  refine isTrue_or (thn (ha pins s σ H _ I h) fun c s1 ⟨H1, I1, q1⟩ => ?_)
  cases c with
  | true => exact ⟨H1, I1, q1⟩
  | false => exact hb wh pins s1 σ H1 Q I1 q1
theorem pt_not (ha : PT X a tA) : PT X (.UnaryOp .Not a pos) (tNot tA) := by
  intro pins s σ H Q I h
  exact isTrue_not (ha pins s σ H (fun c H1 => Q (!c) H1) I h)
def tAndV (ta tb : TE) : TE := fun σ H Q => ta σ H fun x H1 => ∃ c, x = .bl c ∧ if c = true then tb σ H1 Q else Q (.bl false) H1
theorem pe_one {op} {t : TE} (h : PE X a t) : PE X (.BoolOp op [a] pos) t := fun pins s σ H Q I hw => BoolOp_one (h pins s σ H Q I hw)
theorem pe_and (ha : PE X a ta) (hb : PE X (.BoolOp .And (b :: rest) pos) tb) : PE X (.BoolOp .And (a :: b :: rest) pos) (tAndV ta tb) := by
  intro pins s σ H Q I h
  refine BoolOp_and (thn (ha pins s σ H _ I h) fun v s1 ⟨x, H1, I1, r1, q1⟩ => ?_)
  obtain ⟨c, rfl, q1⟩ := q1
  cases r1
  refine wpAny_truthy_bool ?_
  cases c with
  | true => exact hb pins s1 σ H1 Q I1 q1
  | false => exact ⟨.bl false, H1, I1, rfl, q1⟩
def tIf (t : TT) (ta tb : TE) : TE := fun σ H Q => t σ H fun c H1 => if c = true then ta σ H1 Q else tb σ H1 Q
theorem pe_ifExp {c : Expr} (hc : PT X c tA) (ha : PE X a ta) (hb : PE X b tb) : PE X (.IfExp c a b pos) (tIf tA ta tb) := by
  intro pins s σ H Q I h
  refine wpAny_IfExp (thn (hc pins s σ H _ I h) fun d s1 ⟨H1, I1, q1⟩ => ?_)
  cases d with
  | true => exact ha pins s1 σ H1 Q I1 q1
  | false => exact hb pins s1 σ H1 Q I1 q1
end
end L2
namespace L2
open PySem PySem.Spec PyProof.Rows
def SqL (K : PySem.W.Frag) (H : Hp) (a : Addr) (xs : List V) : Prop :=
  Rd H a (.lst xs) ∨
    ∃ (o : Obj) (its : Array Value) (n : Nat), K.lookup a = some o ∧ o.cls = .type "list" ∧ o.dict = none ∧ o.data = .seq its n ∧ its.size ≤ sizeLine ∧ Vals xs its.toList
def SqT (K : PySem.W.Frag) (H : Hp) (a : Addr) (xs : List V) : Prop :=
  Rd H a (.tup xs) ∨
    ∃ (o : Obj) (its : Array Value) (n : Nat), K.lookup a = some o ∧ o.cls = .type "tuple" ∧ o.data = .seq its n ∧ its.size ≤ sizeLine ∧ Vals xs its.toList
def absV : Value → Option V
  | .none => some .non
  | .bool b => some (.bl b)
  | .int i _ => some (.int i)
  | .str x _ => some (.str x)
  | .bytes b _ => some (.byt b)
  | .float b _ => some (.flt b)
  | .ref a => some (.ref a)
  | .type n => some (.ty n)
  | _ => none
theorem RelV.abs {x : V} {u : Value} (r : RelV x u) : absV u = some x := by
  cases x with
  | non => cases r; rfl
  | bl _ => cases r; rfl
  | int _ => obtain ⟨t, rfl⟩ := r; rfl
  | str _ => obtain ⟨t, rfl⟩ := r; rfl
  | byt _ => obtain ⟨t, rfl⟩ := r; rfl
  | flt _ => obtain ⟨t, rfl⟩ := r; rfl
  | ref _ => cases r; rfl
  | ty _ => cases r; rfl
theorem RelV.inj {x y : V} {u : Value} (r : RelV x u) (q : RelV y u) : x = y := Option.some.inj (r.abs.symm.trans q.abs)
theorem Vals.inj : ∀ {xs ys : List V} {us : List Value}, Vals xs us → Vals ys us → xs = ys
  | _, _, _, .nil, .nil => rfl
  | _, _, _, .cons r t, .cons r' t' => by rw [r.inj r', Vals.inj t t']
section
variable {X : Cx} {pins : List (Addr × Obj)} {σ : St} {H : Hp} {s : Shared} {a : Addr} {xs ys : List V}
theorem SqL.of {K : PySem.W.Frag} (h : H a = some (.lst xs)) : SqL K H a xs := .inl (.inl h)
theorem SqT.of {K : PySem.W.Frag} (h : H a = some (.tup xs)) : SqT K H a xs := .inl (.inl h)
theorem Inv.list (I : Inv X pins σ H s) (h : SqL X.K H a xs) : ∃ its : List Value, Vals xs its ∧ PlainL s.heap a its.toArray ∧ xs.length ≤ sizeLine := by
  rcases h with h | ⟨o, its, n, hk, hc, hd, hs, hz, r⟩
  · obtain ⟨z, its, n, r, e⟩ := h.ok I.hok
    exact ⟨its, r, ⟨_, n, e, rfl, rfl, rfl⟩, z⟩
  · refine ⟨its.toList, r, ⟨o, n, I.kIn a o hk, hc, hd, by simpa using hs⟩, ?_⟩
    have e := r.length
    simp only [Array.length_toList] at e
    omega
theorem Inv.tuple (I : Inv X pins σ H s) (h : SqT X.K H a xs) : ∃ its : List Value, Vals xs its ∧ IsTup s.heap a its.toArray ∧ xs.length ≤ sizeLine := by
  rcases h with h | ⟨o, its, n, hk, hc, hs, hz, r⟩
  · obtain ⟨z, its, r, p⟩ := h.ok I.hok
    exact ⟨its, r, p, z⟩
  · refine ⟨its.toList, r, ⟨o, I.kIn a o hk, hc, n, by simpa using hs⟩, ?_⟩
    have e := r.length
    simp only [Array.length_toList] at e
    omega
theorem Inv.list_inj (I : Inv X pins σ H s) (h : SqL X.K H a xs) (h' : SqL X.K H a ys) : xs = ys := by
  obtain ⟨its, r, ⟨o, n, e, _, _, d⟩, _⟩ := I.list h
  obtain ⟨its', r', ⟨o', n', e', _, _, d'⟩, _⟩ := I.list h'
  rw [e] at e'; cases e'
  rw [d] at d'
  injection d' with d1 _
  have : its = its' := by simpa using congrArg Array.toList d1
  subst this
  exact r.inj r'
theorem Inv.tuple_inj (I : Inv X pins σ H s) (h : SqT X.K H a xs) (h' : SqT X.K H a ys) : xs = ys := by
  obtain ⟨its, r, ⟨o, e, _, n, d⟩, _⟩ := I.tuple h
  obtain ⟨its', r', ⟨o', e', _, n', d'⟩, _⟩ := I.tuple h'
  rw [e] at e'; cases e'
  rw [d] at d'
  injection d' with d1 _
  have : its = its' := by simpa using congrArg Array.toList d1
  subst this
  exact r.inj r'
end
abbrev Cx.wish (X : Cx) (E : Value → Shared → Prop) : Cx := { X with xe := E }
abbrev Cx.nox (X : Cx) : Cx := X.wish fun _ _ => False
theorem Cx.Ok.wish {X : Cx} (ok : X.Ok) (E : Value → Shared → Prop) : (X.wish E).Ok :=
  ⟨ok.mod, ok.kind, ok.glob, ok.blt, ok.above, ok.inj, ok.has, ok.cab, ok.hd, ok.frames, ok.stk, ok.exf, ok.bs, ok.bsz, ok.noex, ok.exfs, ok.funs, ok.frf⟩
theorem Cx.Ok.unwish {X : Cx} {E : Value → Shared → Prop} (ok : (X.wish E).Ok) : X.Ok :=
  ⟨ok.mod, ok.kind, ok.glob, ok.blt, ok.above, ok.inj, ok.has, ok.cab, ok.hd, ok.frames, ok.stk, ok.exf, ok.bs, ok.bsz, ok.noex, ok.exfs, ok.funs, ok.frf⟩
section
variable {X : Cx} {pins : List (Addr × Obj)} {σ : St} {H : Hp} {s : Shared} {E : Value → Shared → Prop}
theorem Inv.wish (I : Inv X pins σ H s) (E : Value → Shared → Prop) : Inv (X.wish E) pins σ H s := ⟨I.ok.wish E, I.os, I.bare, I.base, I.loc, I.cell, I.free, I.freeC, I.pin, I.hok, I.len⟩
theorem Inv.unwish (I : Inv (X.wish E) pins σ H s) : Inv X pins σ H s := ⟨I.ok.unwish, I.os, I.bare, I.base, I.loc, I.cell, I.free, I.freeC, I.pin, I.hok, I.len⟩
theorem SP.unwish {D : Ends} {f : Flow} {s' : Shared} (h : SP (X.wish E) pins D f s') : SP X pins D f s' := by
  cases f with
  | next => obtain ⟨σ', H', I, q⟩ := h; exact ⟨σ', H', I.unwish, q⟩
  | brk => obtain ⟨σ', H', I, q⟩ := h; exact ⟨σ', H', I.unwish, q⟩
  | cont => obtain ⟨σ', H', I, q⟩ := h; exact ⟨σ', H', I.unwish, q⟩
  | ret u => obtain ⟨v, σ', H', I, r, q⟩ := h; exact ⟨v, σ', H', I.unwish, r, q⟩
theorem PE.nox {e : Expr} {t : TE} (h : PE X.nox e t) : PE X e t := fun pins s σ H Q I hw =>
  wpAny_mono (h pins s σ H Q (I.wish _) hw) (fun _ _ ⟨v, H', I', r, q⟩ => ⟨v, H', I'.unwish, r, q⟩) fun _ _ z => False.elim z
theorem PT.nox {e : Expr} {t : TT} (h : PT X.nox e t) : PT X e t := fun pins s σ H Q I hw =>
  wpAny_mono (h pins s σ H Q (I.wish _) hw) (fun _ _ ⟨H', I', q⟩ => ⟨H', I'.unwish, q⟩) fun _ _ z => False.elim z
theorem PSs.nox {st : List Stmt} {t : TS} (h : PSs X.nox st t) : PSs X st t := fun pins s σ H D I hw =>
  wpAny_mono (h pins s σ H D (I.wish _) hw) (fun _ _ q => q.unwish) fun _ _ z => False.elim z
end
section
variable {X : Cx} {st : Stmt} {rest : List Stmt} {t u : TS} {e : Expr} {te : TE} {pos : Pos}
def tNext : TS := fun D σ H => D.nx σ H
def tSeq (t u : TS) : TS := fun D σ H => t { D with nx := u D } σ H
theorem pss_nil : PSs X [] tNext := fun _ _ σ H _ I h => wpAny_execs_nil ⟨σ, H, I, h⟩
theorem pss_cons (h1 : PS X st t) (h2 : PSs X rest u) : PSs X (st :: rest) (tSeq t u) := by
  intro pins s σ H D I h
  refine wpAny_execs_cons (thn (h1 pins s σ H { D with nx := u D } I h) fun f s1 q => ?_)
  cases f with
  | next =>
    obtain ⟨σ', H', I', q⟩ := q
    exact h2 pins s1 σ' H' D I' q
  | ret v => exact q
  | brk => exact q
  | cont => exact q
theorem pss_one (h1 : PS X st t) : PSs X [st] t := by
  intro pins s σ H D I h
  refine wpAny_execs_cons (thn (h1 pins s σ H D I h) fun f s1 q => ?_)
  cases f with
  | next => exact wpAny_execs_nil q
  | ret v => exact q
  | brk => exact q
  | cont => exact q
theorem Inv.quiet {pins : List (Addr × Obj)} {σ : St} {H : Hp} {s : Shared} (I : Inv X pins σ H s) : interactive X.env = false := by simp [interactive, I.ok.kind]
def tDrop (te : TE) : TS := fun D σ H => te σ H fun _ H1 => D.nx σ H1
theorem ps_expr (he : PE X e te) (hs : swapsWith e none pos.line X.env = pure false := by rfl) : PS X (.Expr e pos) (tDrop te) := by
  intro pins s σ H D I h
  exact wpAny_Expr_any (thn (he pins s σ H _ I h) fun v s1 ⟨x, H1, I1, r1, q1⟩ => ⟨σ, H1, I1, q1⟩) I.quiet hs
def tRet (te : TE) : TS := fun D σ H => te σ H D.rt
theorem ps_ret (he : PE X e te) : PS X (.Return (some e) pos) (tRet te) := by
  intro pins s σ H D I h
  exact wpAny_Return_some (thn (he pins s σ H _ I h) fun v s1 ⟨x, H1, I1, r1, q1⟩ => ⟨x, σ, H1, I1, r1, q1⟩)
def tIfS (c : TT) (t u : TS) : TS := fun D σ H => c σ H fun b H1 => if b = true then t D σ H1 else u D σ H1
theorem ps_if {c : Expr} {a b : List Stmt} {tc : TT} (hc : PT X c tc) (ha : PSs X a t) (hb : PSs X b u) : PS X (.If c a b pos) (tIfS tc t u) := by
  intro pins s σ H D I h
  refine wpAny_If (thn (hc pins s σ H _ I h) fun d s1 ⟨H1, I1, q1⟩ => ?_)
  cases d with
  | true => exact ha pins s1 σ H1 D I1 q1
  | false => exact hb pins s1 σ H1 D I1 q1
end
abbrev TG := V → St → Hp → (St → Hp → Prop) → Prop
abbrev TGs := List V → St → Hp → (St → Hp → Prop) → Prop
def PG (X : Cx) (target : Expr) (t : TG) : Prop :=
  ∀ (pins : List (Addr × Obj)) (s : Shared) (σ : St) (H : Hp) (v : V) (u : Value) (Q : St → Hp → Prop), Inv X pins σ H s → RelV v u → t v σ H Q →
    wpAny (model X.prog X.w) X.A (assign target X.env u) (fun _ s' => ∃ σ' H', Inv X pins σ' H' s' ∧ Q σ' H') X.xe s
def PGs (X : Cx) (ts : List Expr) (t : TGs) : Prop :=
  ∀ (pins : List (Addr × Obj)) (s : Shared) (σ : St) (H : Hp) (vs : List V) (us : List Value) (Q : St → Hp → Prop), Inv X pins σ H s → Vals vs us → t vs σ H Q →
    wpAny (model X.prog X.w) X.A (assignInOrder ((assignEach ts X.env).map (·.2)) us) (fun _ s' => ∃ σ' H', Inv X pins σ' H' s' ∧ Q σ' H') X.xe s
abbrev TSet := V → V → V → Hp → (Hp → Prop) → Prop
def PSet (X : Cx) (t : TSet) : Prop :=
  ∀ (pins : List (Addr × Obj)) (s : Shared) (σ : St) (H : Hp) (o i v : V) (ov iv u : Value) (Q : Hp → Prop), Inv X pins σ H s → RelV o ov → RelV i iv → RelV v u → t o i v H Q →
    wpAny (model X.prog X.w) X.A (setItem ov iv u) (fun _ s' => ∃ H', Inv X pins σ H' s' ∧ Q H') X.xe s
section
variable {X : Cx} {pos : Pos}
def gName (i : Nat) : TG := fun v σ H Q => Q (σ.set i (some v)) H
theorem pg_name {i : Nat} {x : Str} (hN : X.N.Nodup) (hi : X.N[i]? = some x) (hx : Loc X.env.scope x) (hf : X.fn x = true ∨ X.env.scope.names.lookup x = some .local := by first | exact .inl rfl | exact .inr rfl | assumption) : PG X (.Name x pos) (gName i) := by
  intro pins s σ H v u Q I r h
  exact wpAny_assign_Name (store_ok I hN hi hx r (fun s' I' => ⟨_, H, I', h⟩) hf)
def gNil : TGs := fun vs σ H Q => vs = [] ∧ Q σ H
def gCons (t : TG) (u : TGs) : TGs := fun vs σ H Q => ∃ v r, vs = v :: r ∧ t v σ H fun σ' H' => u r σ' H' Q
theorem pgs_nil : PGs X [] gNil := by
  intro pins s σ H vs us Q I r h
  obtain ⟨e, h⟩ := h
  subst e
  cases r
  exact assignInOrder_nil ⟨σ, H, I, h⟩
theorem pgs_cons {e : Expr} {es : List Expr} {t : TG} {u : TGs} (h1 : PG X e t) (h2 : PGs X es u)
    (hs : (assignEach (e :: es) X.env).map (·.2) = assign e X.env :: (assignEach es X.env).map (·.2) := by rfl) : PGs X (e :: es) (gCons t u) := by
  intro pins s σ H vs us Q I r h
  obtain ⟨v, vr, e1, h⟩ := h
  subst e1
  cases r with
  | cons r rr =>
    rw [hs]
    refine assignInOrder_cons (thn (h1 pins s σ H _ _ _ I r h) fun _ s1 ⟨σ1, H1, I1, q1⟩ => ?_)
    exact h2 pins s1 σ1 H1 _ _ Q I1 rr q1
def gTup (K : PySem.W.Frag) (n : Nat) (t : TGs) : TG := fun v σ H Q => ∃ a xs, v = .ref a ∧ SqT K H a xs ∧ xs.length = n ∧ t xs σ H Q
theorem pg_tup {es : List Expr} {k : Nat} {t : TGs} {n : Nat} (hc : X.calm = true) (h : PGs X es t)
    (hn : (assignEach es X.env).length = n := by rfl) (hst : (assignEach es X.env).findIdx? (·.1) = none := by rfl) : PG X (.Tuple es k pos) (gTup X.K n t) := by
  intro pins s σ H v u Q I r hw
  obtain ⟨a, xs, e1, hq, hl, hw⟩ := hw
  subst e1
  cases r
  obtain ⟨its, rv, ht, hz⟩ := I.tuple hq
  refine assign_Tuple_tuple (I.ok.hd hc) ht (by simp [hn, ← hl, rv.length]) hst fun h' hx => ?_
  have I1 : Inv X pins σ H { s with heap := h' } := I.kept (t' := s.toks) fun b o e => hx b o (Nat.ne_of_lt (Heap.lt_size e)) e
  exact h pins _ σ H xs _ Q I1 (by simpa using rv) hw
def gSub (to ti : TE) (t : TSet) : TG := fun v σ H Q => to σ H fun o H1 => ti σ H1 fun i H2 => t o i v H2 fun H3 => Q σ H3
theorem pg_sub {o i : Expr} {to ti : TE} {t : TSet} (ho : PE X o to) (hi : PE X i ti) (hs : PSet X t)
    (ha : ∀ v, assign (.Subscript o i pos) X.env v = (do
      let ov ← holding [v] (eval o X.env)
      let iv ← holding [v, ov] (eval i X.env)
      standAt pos
      holding [v, ov, iv] (setItem ov iv v)
      release [v, ov, iv] []) := by intro _; rfl) : PG X (.Subscript o i pos) (gSub to ti t) := by
  intro pins s σ H v u Q I r h
  rw [ha]
  refine wpAny_bind (wpAny_holding (thn (ho pins s σ H _ I h) fun ov s1 ⟨x, H1, I1, r1, q1⟩ => ?_))
  refine wpAny_bind (wpAny_holding (thn (hi pins s1 σ H1 _ I1 q1) fun iv s2 ⟨y, H2, I2, r2, q2⟩ => ?_))
  refine wpAny_bind (wpAny_standAt (wpAny_bind (wpAny_holding (thn (hs pins s2 σ H2 x y v ov iv u _ I2 r1 r2 r q2) fun _ s3 ⟨H3, I3, q3⟩ => ?_))))
  exact wpAny_release ⟨σ, H3, I3, q3⟩
def tAsg (te : TE) (g : TG) : TS := fun D σ H => te σ H fun x H1 => g x σ H1 D.nx
theorem ps_asg {tg e : Expr} {te : TE} {g : TG} (he : PE X e te) (hg : PG X tg g) (hs : swapsWithSole [tg] e pos.line X.env = pure false := by rfl) (hw : swappedStores [tg] e X.env = pure none := by rfl)
    (h1 : (assignEach [tg] X.env).map (·.2) = [assign tg X.env] := by rfl) : PS X (.Assign [tg] e pos) (tAsg te g) := by
  intro pins s σ H D I h
  refine wpAny_Assign_stores (thn (he pins s σ H _ I h) fun v s1 ⟨x, H1, I1, r1, q1⟩ => ?_) hs hw
  rw [h1]
  exact thn (hg pins s1 σ H1 x v _ I1 r1 q1) fun _ s2 q => q
theorem ps_set {i : Nat} {x : Str} {e : Expr} {te : TE} {pos' : Pos} (hN : X.N.Nodup) (hi : X.N[i]? = some x) (hx : Loc X.env.scope x) (he : PE X e te) (hs : swapsWith e (some (.Name x pos')) pos.line X.env = pure false := by rfl) (hf : X.fn x = true ∨ X.env.scope.names.lookup x = some .local := by first | exact .inl rfl | exact .inr rfl | assumption) :
    PS X (.Assign [.Name x pos'] e pos) (tAsg te (gName i)) := by
  intro pins s σ H D I h
  refine wpAny_Assign_Name (thn (he pins s σ H _ I h) fun v s1 ⟨y, H1, I1, r1, q1⟩ => ?_) hs
  exact store_ok I1 hN hi hx r1 (fun s2 I2 => ⟨_, H1, I2, q1⟩) hf
end
section
variable {X : Cx} {pos : Pos}
def tWhile (c : TT) (tb : TS) : TS := fun D σ H => ∃ W : Nat → St → Hp → Prop, (∃ m, W m σ H) ∧ ∀ m σ H, W m σ H →
  c σ H fun b H1 => if b = true then ∃ N : St → Hp → Prop, (∀ σ' H', N σ' H' → ∃ m', m' < m ∧ W m' σ' H') ∧ tb { D with nx := N, ct := N, bk := D.nx } σ H1 else D.nx σ H1
theorem ps_while {c : Expr} {body : List Stmt} {tc : TT} {tb : TS} (hp : PassesOwn (model X.prog X.w) X.A X.env X.xe) (hc : PT X c tc) (hb : PSs X body tb) : PS X (.While c body [] pos) (tWhile tc tb) := by
  intro pins s σ H D I h
  obtain ⟨W, ⟨m0, w0⟩, turn⟩ := h
  refine wpAny_While (codeAny_whileLoop (fun n s' => ∃ σ' H', Inv X pins σ' H' s' ∧ W n σ' H') ?_ m0 ⟨σ, H, I, w0⟩)
  rintro n s1 ⟨σ1, H1, I1, w1⟩
  refine wpAny_passesOwn hp (thn (hc pins s1 σ1 H1 _ I1 (turn n σ1 H1 w1)) fun b s2 ⟨H2, I2, q2⟩ => ?_)
  cases b with
  | true =>
    obtain ⟨N, hN, q2⟩ := q2
    rw [if_pos rfl]
    refine wpAny_passesOwn hp (thn (hb pins s2 σ1 H2 _ I2 q2) fun f s3 q3 => ?_)
    cases f with
    | next =>
      obtain ⟨σ3, H3, I3, n3⟩ := q3
      obtain ⟨m', hm, w3⟩ := hN σ3 H3 n3
      exact ⟨m', hm, σ3, H3, I3, w3⟩
    | cont =>
      obtain ⟨σ3, H3, I3, n3⟩ := q3
      obtain ⟨m', hm, w3⟩ := hN σ3 H3 n3
      exact ⟨m', hm, σ3, H3, I3, w3⟩
    | brk => exact q3
    | ret v => exact q3
  | false =>
    rw [if_neg Bool.false_ne_true]
    exact wpAny_execs_nil ⟨σ1, H2, I2, q2⟩
end
structure It where
  go : Nat → Hp → Prop
  yld : Nat → Hp → V → Hp → Prop
  stop : Nat → Hp → Prop
def FpOk (X : Cx) (pins : List (Addr × Obj)) (H : Hp) (b : Addr) : Prop :=
  H b = none ∧ b ≠ X.env.locals ∧ b ∉ X.fs ∧ (b ∈ X.ex ∨ X.s₀.heap.objs.size ≤ b) ∧ (∀ x c, X.env.cells.lookup x = some c → c ≠ b) ∧ ∀ p ∈ X.pn ++ pins, p.1 ≠ b
theorem Inv.fpOk {X : Cx} {pins : List (Addr × Obj)} {σ : St} {H H' : Hp} {s : Shared} {b : Addr} (I : Inv X pins σ H s) (hb : s.heap.objs.size ≤ b) (hn : H' b = none) : FpOk X pins H' b := by
  refine ⟨hn, Nat.ne_of_gt (Nat.lt_of_lt_of_le I.lt hb), I.nofs hb, .inr (Nat.le_trans I.sz hb), fun x c e z => ?_, fun p hp z => ?_⟩
  · obtain ⟨v, q⟩ := I.cell x c e
    exact absurd (Nat.lt_of_lt_of_le q.lt (by rw [z]; exact hb)) (Nat.lt_irrefl _)
  · exact absurd (Nat.lt_of_lt_of_le (Heap.lt_size (I.pin p hp).1) (by rw [z]; exact hb)) (Nat.lt_irrefl _)
structure Turn (P : Program) (w : World) (K : PySem.W.Frag) (tg : Expr) (J : It) (fp : List Addr) (it : Addr) (tn : Nat → Heap → Prop) : Prop where
  mem : it ∈ fp
  obj : ∀ i h, tn i h → ∀ b ∈ fp, ∃ o, h.get? b = some o ∧ ∀ v, o.data ≠ .cell v
  keep : ∀ i h h', tn i h → (∀ b ∈ fp, ∀ o, h.get? b = some o → h'.get? b = some o) → tn i h'
  item : ∀ (X : Cx), X.prog = P → X.w = w → X.K = K → X.calm = true → ∀ (i : Nat) (pins : List (Addr × Obj)) (s : Shared) (σ : St) (H : Hp) (E : Value → Shared → Prop), Inv X pins σ H s → (∀ b ∈ fp, FpOk X pins H b) → tn i s.heap → J.go i H →
    wpAny (model P w) X.A (pyNext (.ref it)) (fun r s1 => ∃ u, r = some u ∧
      wpAny (model P w) X.A (letOwnedTupleGo tg (.ref it) u) (fun _ s2 => ∃ x H', Inv X pins σ H' s2 ∧ RelV x u ∧ J.yld i H x H' ∧ tn (i + 1) s2.heap ∧ ∀ b ∈ fp, H' b = none) E s1) E s
  done : ∀ (X : Cx), X.prog = P → X.w = w → X.K = K → X.calm = true → ∀ (i : Nat) (pins : List (Addr × Obj)) (s : Shared) (σ : St) (H : Hp) (E : Value → Shared → Prop), Inv X pins σ H s → (∀ b ∈ fp, FpOk X pins H b) → tn i s.heap → J.stop i H →
    wpAny (model P w) X.A (pyNext (.ref it)) (fun r s1 => r = none ∧ Inv X pins σ H s1) E s
  self : ∀ (A : Around) (i : Nat) (s : Shared) (Q : Value → Shared → Prop) (E : Value → Shared → Prop), tn i s.heap → Q (.ref it) s → wpAny (model P w) A (pyIter (.ref it)) Q E s
abbrev TI := St → Hp → (It → Hp → Prop) → Prop
def PIE (X : Cx) (pins : List (Addr × Obj)) (σ : St) (tg : Expr) (R : It → Hp → Prop) (itv : Value) (s2 : Shared) : Prop :=
  ∃ (it : Addr) (fp : List Addr) (tn : Nat → Heap → Prop) (J : It) (H' : Hp), itv = .ref it ∧ Inv X pins σ H' s2 ∧ Turn X.prog X.w X.K tg J fp it tn ∧ tn 0 s2.heap ∧ (∀ b ∈ fp, FpOk X pins H' b) ∧ R J H'
def PI (X : Cx) (tg iter : Expr) (wi : TI) : Prop :=
  ∀ (pins : List (Addr × Obj)) (s : Shared) (σ : St) (H : Hp) (R : It → Hp → Prop), Inv X pins σ H s → wi σ H R →
    wpAny (model X.prog X.w) X.A (eval iter X.env) (fun v s1 => wpAny (model X.prog X.w) X.A (pyIter v) (PIE X pins σ tg R) X.xe s1) X.xe s
theorem go_of {M : Model} {A : Around} {E : Value → Shared → Prop} {s : Shared} {tg : Expr} {it : Addr} {u : Value} {o : Obj} {n : String} {vs : Array Value} {Q : Unit → Shared → Prop} (ho : s.heap.get? it = some o) (hc : o.cls = .type n) (hd : o.data = .fields vs)
    (hn : ["enumerate", "zip", "dict_itemiterator", "dict_reverseitemiterator", "odict_iterator", "itertools.zip_longest", "itertools.pairwise"].contains n = false) (hQ : Q () s) : wpAny M A (letOwnedTupleGo tg (.ref it) u) Q E s := by
  unfold letOwnedTupleGo
  cases tg <;> first
    | exact wpAny_pure hQ
    | (cases u <;> first
        | exact wpAny_pure hQ
        | (refine wpAny_bind (wpAny_load ho ?_)
           rw [hc, hd]
           show wpAny M A (if (["enumerate", "zip", "dict_itemiterator", "dict_reverseitemiterator", "odict_iterator", "itertools.zip_longest", "itertools.pairwise"].contains n && vs[0]? == some (rawInt _)) = true then _ else _) Q E s
           rw [if_neg (by intro h; rw [hn, Bool.false_and] at h; cases h)]
           exact wpAny_pure hQ))
def Itl (K : PySem.W.Frag) (a : Addr) : It :=
  ⟨fun i H => ∃ xs x, SqL K H a xs ∧ xs[i]? = some x, fun i H x H' => H' = H ∧ ∀ xs, SqL K H a xs → xs[i]? = some x, fun i H => ∃ xs, SqL K H a xs ∧ xs.length ≤ i⟩
def Itr (lo : Int) (n : Nat) : It := ⟨fun i _ => i < n, fun i H x H' => H' = H ∧ x = .int (lo + i), fun i _ => n ≤ i⟩
theorem turn_list {P : Program} {w : World} {K : PySem.W.Frag} {tg : Expr} (a it : Addr) : Turn P w K tg (Itl K a) [it] it (fun i h => h.IsListIter it a i) where
  mem := by simp
  obj := fun i h st b hb => by
    have e : b = it := by simpa using hb
    subst e
    obtain ⟨o, e, c, d⟩ := st
    exact ⟨o, e, fun v z => by rw [d] at z; cases z⟩
  keep := fun i h h' st k => st.at fun o e => k it (by simp) o e
  item := by
    intro X hP hw hK hc i pins s σ H E I hf st hg
    subst hP hw hK
    obtain ⟨xs, x, hq, hx⟩ := hg
    obtain ⟨its, rv, p, hz⟩ := I.list hq
    obtain ⟨u, hu, ru⟩ := rv.get hx
    obtain ⟨f0, f1, f2, f3, f4, f5⟩ := hf it (by simp)
    refine wpAny_pyNext_list_item st p.isList (x := u) (by simpa using hu) fun h' st' sb => ?_
    have I1 : Inv X pins σ H { s with heap := h' } := I.turned (t' := s.toks) (fun b o hb e => (sb.2 b hb).trans e) f0 f1 f3 f4 f5
    obtain ⟨o, e, c, d⟩ := id st'
    exact ⟨u, rfl, go_of (s := { s with heap := h' }) e c d (by decide) ⟨x, H, I1, ru, ⟨rfl, fun ys hy => by rw [I.list_inj hy hq]; exact hx⟩, st', fun b hb => (hf b hb).1⟩⟩
  done := by
    intro X hP hw hK hc i pins s σ H E I hf st hg
    subst hP hw hK
    obtain ⟨xs, hq, hx⟩ := hg
    obtain ⟨its, rv, p, hz⟩ := I.list hq
    obtain ⟨f0, f1, f2, f3, f4, f5⟩ := hf it (by simp)
    have hl := rv.length
    exact wpAny_pyNext_list_end (I.ok.hd hc) st p.isList (by simp; omega) fun h' eb => ⟨rfl, I.turned (t' := s.toks) (fun b o hb e => eb b o hb e) f0 f1 f3 f4 f5⟩
  self := fun _ _ _ _ _ st h => wpAny_pyIter_listiter st h
theorem turn_range {P : Program} {w : World} {K : PySem.W.Frag} {tg : Expr} (it : Addr) (lo : Int) (n : Nat) : Turn P w K tg (Itr lo n) [it] it (fun i h => IsRangeIter h it (lo + (i : Nat) * 1) ((n : Int) - (i : Nat)) 1) where
  mem := by simp
  obj := fun i h st b hb => by
    have e : b = it := by simpa using hb
    subst e
    exact ⟨_, st, fun v z => by
      have z' : Data.fields _ = Data.cell v := z
      cases z'⟩
  keep := fun i h h' st k => k it (by simp) _ st
  item := by
    intro X hP hw hK hc i pins s σ H E I hf st hg
    subst hP hw hK
    obtain ⟨f0, f1, f2, f3, f4, f5⟩ := hf it (by simp)
    have W := Walks.range (prog := X.prog) (w := X.w) (I.ok.hd hc) it lo 1 n
    refine W.item i s _ _ hg st fun v h' tk hv st' kk => ?_
    obtain ⟨t, rfl⟩ := hv
    have I1 : Inv X pins σ H { s with heap := h', toks := tk } := I.turned (fun b o hb e => kk b o (by simpa using hb) e) f0 f1 f3 f4 f5
    refine ⟨_, rfl, go_of (s := { s with heap := h', toks := tk }) (n := "range_iterator") st' rfl rfl (by decide) ⟨.int (lo + i), H, I1, ⟨t, ?_⟩, ⟨rfl, rfl⟩, st', fun b hb => (hf b hb).1⟩⟩
    rw [Int.mul_one]
  done := by
    intro X hP hw hK hc i pins s σ H E I hf st hg
    subst hP hw hK
    obtain ⟨f0, f1, f2, f3, f4, f5⟩ := hf it (by simp)
    exact wpAny_pyNext_range_end (I.ok.hd hc) st (by have : n ≤ i := hg; omega) fun h' eb => ⟨rfl, I.turned (t' := s.toks) (fun b o hb e => eb b o hb e) f0 f1 f3 f4 f5⟩
  self := fun _ _ _ _ _ st h => wpAny_pyIter_rangeiter st h
end L2
namespace L2
open PySem PySem.Spec PyProof.Rows
section
variable {X : Cx} {tg : Expr}
def iList (K : PySem.W.Frag) (tl : TE) : TI := fun σ H R => tl σ H fun x H1 => ∃ a, x = .ref a ∧ (∃ xs, SqL K H1 a xs) ∧ R (Itl K a) H1
theorem pi_list {l : Expr} {tl : TE} (hl : PE X l tl) : PI X tg l (iList X.K tl) := by
  intro pins s σ H R I h
  refine thn (hl pins s σ H _ I h) fun v s1 ⟨x, H1, I1, r1, q1⟩ => ?_
  obtain ⟨a, e, ⟨xs, hq⟩, q⟩ := q1
  subst e
  cases r1
  obtain ⟨its, rv, p, hz⟩ := I1.list hq
  refine wpAny_pyIter_list p.isList ?_
  refine ⟨s1.heap.objs.size, [s1.heap.objs.size], _, _, H1, rfl, I1.kept (t' := s1.toks) fun b o e => Heap.get?_push_of_some _ e, turn_list a _, ⟨_, Heap.get?_push_size _ rfl, rfl, rfl⟩, fun b hb => ?_, q⟩
  have e : b = s1.heap.objs.size := by simpa using hb
  subst e
  exact I1.fpOk (Nat.le_refl _) (I1.hok.fresh (Nat.le_refl _))
theorem range_it {pins : List (Addr × Obj)} {σ : St} {H : Hp} {s : Shared} {R : It → Hp → Prop} {E : Value → Shared → Prop} {lo hi : Int} {t u v : Tok} {tk : Nat} (I : Inv X pins σ H s) (h1 : -(2 ^ 62) ≤ lo) (h2 : lo < 2 ^ 62) (h3 : -(2 ^ 62) ≤ hi) (h4 : hi < 2 ^ 62)
    (q : R (Itr lo (hi - lo).toNat) H) : wpAny (model X.prog X.w) X.A (pyIter (.ref s.heap.objs.size)) (PIE X pins σ tg R) E { s with heap := s.heap.push { cls := .type "range", data := .fields #[.int lo t, .int hi u, .int 1 v] }, toks := tk } := by
  refine wpAny_pyIter_range (IsRange.new ..) (small_one h1 h2 h3 h4) ?_
  have I1 : Inv X pins σ H { s with heap := s.heap.push { cls := .type "range", data := .fields #[.int lo t, .int hi u, .int 1 v] }, toks := tk } := I.kept fun b o e => Heap.get?_push_of_some _ e
  refine ⟨(s.heap.push { cls := .type "range", data := .fields #[.int lo t, .int hi u, .int 1 v] }).objs.size, [(s.heap.push { cls := .type "range", data := .fields #[.int lo t, .int hi u, .int 1 v] }).objs.size], _, _, H, rfl,
    I1.kept (t' := tk) fun b o e => Heap.get?_push_of_some _ e, turn_range _ lo (hi - lo).toNat, ?_, fun b hb => ?_, q⟩
  · have e1 : lo + ((0 : Nat) : Int) * 1 = lo := by simp
    have e2 : (((hi - lo).toNat : Nat) : Int) - ((0 : Nat) : Int) = Builtin.Range.rangeSize lo hi 1 := by rw [rangeSize_one]; split <;> omega
    show IsRangeIter _ _ (lo + ((0 : Nat) : Int) * 1) ((((hi - lo).toNat : Nat) : Int) - ((0 : Nat) : Int)) 1
    rw [e1, e2]
    exact Heap.get?_push_size _ rfl
  · have e : b = (s.heap.push { cls := .type "range", data := .fields #[.int lo t, .int hi u, .int 1 v] }).objs.size := by simpa using hb
    subst e
    exact I1.fpOk (Nat.le_refl _) (I1.hok.fresh (Nat.le_refl _))
def iRng1 (ta : TA) : TI := fun σ H R => ta σ H fun vs H1 => ∃ j : Int, vs = [.int j] ∧ -(2 ^ 62) ≤ j ∧ j < 2 ^ 62 ∧ R (Itr 0 j.toNat) H1
theorem pi_range1 {a : Expr} {ta : TA} {p pos : Pos} (hg : Gl X "range") (hm : X.mg "range" = none) (ha : PA X [a] ta) (hs : starEach [a] X.env = [(false, eval a X.env)] := by rfl) : PI X tg (.Call (.Name "range" p) [a] [] pos) (iRng1 ta) := by
  intro pins s σ H R I h
  refine Call_ (ld_blt I hg hm boot_range (PyProof.Rows.callWith_type1 (thn (ha pos pins s σ H _ I h) fun us s1 ⟨vs, H1, I1, r1, q1⟩ => ?_) hs rfl))
  obtain ⟨j, e, q1, q2, q⟩ := q1
  subst e
  cases r1 with
  | cons r rr =>
    cases rr
    obtain ⟨t, rfl⟩ := r
    exact call_range_1 (range_it I1 (by omega) (by omega) q1 q2 (by simpa using q))
def tFor (wi : TI) (g : TG) (tb : TS) : TS := fun D σ H => wi σ H fun J H1 => ∃ W : Nat → Nat → St → Hp → Prop, (∃ m, W 0 m σ H1) ∧ ∀ i m σ H, W i m σ H →
  (J.stop i H ∧ D.nx σ H) ∨ (J.go i H ∧ ∃ N : St → Hp → Prop, (∀ σ' H', N σ' H' → ∃ m', m' < m ∧ W (i + 1) m' σ' H') ∧ ∀ x H', J.yld i H x H' → g x σ H' fun σ2 H2 => tb { D with nx := N, ct := N, bk := D.nx } σ2 H2)
def pinsAt (fp : List Addr) (h : Heap) : List (Addr × Obj) := fp.filterMap fun b => (h.get? b).map fun o => (b, o)
theorem mem_pinsAt {fp : List Addr} {h : Heap} {b : Addr} {o : Obj} (hb : b ∈ fp) (e : h.get? b = some o) : (b, o) ∈ pinsAt fp h := List.mem_filterMap.mpr ⟨b, hb, by rw [e]; rfl⟩
theorem of_pinsAt {fp : List Addr} {h : Heap} {p : Addr × Obj} (hp : p ∈ pinsAt fp h) : p.1 ∈ fp ∧ h.get? p.1 = some p.2 := by
  obtain ⟨b, hb, e⟩ := List.mem_filterMap.mp hp
  cases q : h.get? b with
  | none => rw [q] at e; cases e
  | some o =>
    rw [q] at e
    have e' : (b, o) = p := Option.some.inj e
    subst e'
    exact ⟨hb, q⟩
theorem Inv.pinned {pins : List (Addr × Obj)} {σ : St} {H : Hp} {s : Shared} {fp : List Addr} (I : Inv X pins σ H s) (hf : ∀ b ∈ fp, FpOk X pins H b) (ho : ∀ b ∈ fp, ∃ o, s.heap.get? b = some o ∧ ∀ v, o.data ≠ .cell v) : Inv X (pins ++ pinsAt fp s.heap) σ H s :=
  I.pins_of fun p hp => (List.mem_append.mp hp).elim (fun z => I.pin p (List.mem_append_right _ z)) fun z => by
    obtain ⟨hb, e⟩ := of_pinsAt z
    obtain ⟨f0, f1, f2, _⟩ := hf p.1 hb
    obtain ⟨o, e', d⟩ := ho p.1 hb
    rw [e] at e'; cases e'
    exact ⟨e, f0, f1, f2, d⟩
theorem Inv.unpinned {pins pl : List (Addr × Obj)} {σ : St} {H : Hp} {s : Shared} (I : Inv X (pins ++ pl) σ H s) : Inv X pins σ H s := I.pins_of fun p hp => I.pin p (List.mem_append_right _ (List.mem_append_left _ hp))
theorem ps_for {iter : Expr} {body : List Stmt} {wi : TI} {g : TG} {tb : TS} {pos : Pos} (hp : PassesOwn (model X.prog X.w) X.A X.env X.xe) (hc : X.calm = true) (hi : PI X tg iter wi) (hg : PG X tg g) (hb : PSs X body tb)
    (hs : ∀ x, foldedSetIterable iter X.env x = pure x := by intro _; rfl) : PS X (.For tg iter body [] pos) (tFor wi g tb) := by
  intro pins s σ H D I h
  refine wpAny_For (thn (hi pins s σ H _ I h) fun v s1 h1 => thn h1 fun itv s2 h2 => ?_) hs
  obtain ⟨it, fp, tn, J, H2, e, I2, T, st2, f2, W, ⟨m0, w0⟩, turn⟩ := h2
  subst e
  have stat : ∀ {H' : Hp}, (∀ b ∈ fp, H' b = none) → ∀ b ∈ fp, FpOk X pins H' b := fun hn b hb => ⟨hn b hb, (f2 b hb).2⟩
  refine codeAny_forLoop_any (fun n s' => ∃ i σ' H', Inv X pins σ' H' s' ∧ tn i s'.heap ∧ (∀ b ∈ fp, H' b = none) ∧ W i n σ' H') ?_ m0 ⟨0, σ, H2, I2, st2, fun b hb => (f2 b hb).1, w0⟩
  rintro n s3 ⟨i, σ3, H3, I3, st3, fr3, w3⟩
  rcases turn i n σ3 H3 w3 with ⟨stop, qn⟩ | ⟨go, N, hN, step⟩
  · refine wpAny_passesOwn hp (thn (T.done X rfl rfl rfl hc i pins s3 σ3 H3 X.xe I3 (stat fr3) st3 stop) fun r s4 ⟨hr, I4⟩ => ?_)
    subst hr
    exact wpAny_execs_nil ⟨σ3, H3, I4, qn⟩
  · refine wpAny_passesOwn hp (thn (T.item X rfl rfl rfl hc i pins s3 σ3 H3 X.xe I3 (stat fr3) st3 go) fun r s4 ⟨u, hr, h4⟩ => ?_)
    subst hr
    refine wpAny_passesOwn hp (thn h4 fun _ s5 ⟨x, H5, I5, r5, y5, st5, fr5⟩ => ?_)
    have I5' := I5.pinned (stat fr5) (T.obj _ _ st5)
    refine wpAny_passesOwn hp (thn (hg _ s5 σ3 H5 x u _ I5' r5 (step x H5 y5)) fun _ s6 ⟨σ6, H6, I6, q6⟩ => ?_)
    refine wpAny_passesOwn hp (thn (hb _ s6 σ6 H6 _ I6 q6) fun f s7 q7 => ?_)
    have again : ∀ {σ7 : St} {H7 : Hp}, Inv X (pins ++ pinsAt fp s5.heap) σ7 H7 s7 → N σ7 H7 → ∃ m, m < n ∧ ∃ i σ' H', Inv X pins σ' H' s7 ∧ tn i s7.heap ∧ (∀ b ∈ fp, H' b = none) ∧ W i m σ' H' := fun {σ7 H7} I7 n7 => by
      obtain ⟨m', hm, w7⟩ := hN σ7 H7 n7
      refine ⟨m', hm, i + 1, σ7, H7, I7.unpinned, T.keep _ _ _ st5 fun b hb o e => (I7.pin (b, o) (List.mem_append_right _ (List.mem_append_right _ (mem_pinsAt hb e)))).1, fun b hb => ?_, w7⟩
      obtain ⟨o, e, d⟩ := T.obj _ _ st5 b hb
      exact (I7.pin (b, o) (List.mem_append_right _ (List.mem_append_right _ (mem_pinsAt hb e)))).2.1
    cases f with
    | next => obtain ⟨σ7, H7, I7, n7⟩ := q7; exact again I7 n7
    | cont => obtain ⟨σ7, H7, I7, n7⟩ := q7; exact again I7 n7
    | brk => obtain ⟨σ7, H7, I7, q7⟩ := q7; exact ⟨σ7, H7, I7.unpinned, q7⟩
    | ret v => obtain ⟨x7, σ7, H7, I7, r7, q7⟩ := q7; exact ⟨x7, σ7, H7, I7.unpinned, r7, q7⟩
end
theorem for_list {K : PySem.W.Frag} {a : Addr} {xs : List V} {g : TG} {tb : TS} {D : Ends} {σ : St} {H : Hp} (Pv : Nat → St → Hp → Prop) (h0 : Pv 0 σ H) (hl : ∀ i σ H, i ≤ xs.length → Pv i σ H → SqL K H a xs)
    (hs : ∀ i x σ H, xs[i]? = some x → Pv i σ H → g x σ H fun σ2 H2 => tb { D with nx := Pv (i + 1), ct := Pv (i + 1), bk := D.nx } σ2 H2) (hd : ∀ σ H, Pv xs.length σ H → D.nx σ H) :
    ∃ W : Nat → Nat → St → Hp → Prop, (∃ m, W 0 m σ H) ∧ ∀ i m σ H, W i m σ H →
      ((Itl K a).stop i H ∧ D.nx σ H) ∨ ((Itl K a).go i H ∧ ∃ N : St → Hp → Prop, (∀ σ' H', N σ' H' → ∃ m', m' < m ∧ W (i + 1) m' σ' H') ∧ ∀ x H', (Itl K a).yld i H x H' → g x σ H' fun σ2 H2 => tb { D with nx := N, ct := N, bk := D.nx } σ2 H2) := by
  refine ⟨fun i m σ H => m = xs.length - i ∧ i ≤ xs.length ∧ Pv i σ H, ⟨xs.length, by simp, Nat.zero_le _, h0⟩, ?_⟩
  rintro i m σ H ⟨rfl, hi, p⟩
  have q := hl i σ H hi p
  by_cases hlt : i < xs.length
  · refine .inr ⟨⟨xs, xs[i], q, by simp [hlt]⟩, Pv (i + 1), fun σ' H' p' => ⟨xs.length - (i + 1), by omega, rfl, hlt, p'⟩, fun x H' y => ?_⟩
    obtain ⟨e, y⟩ := y
    subst e
    exact hs i x σ _ (y xs q) p
  · have e : i = xs.length := by omega
    subst e
    exact .inl ⟨⟨xs, q, Nat.le_refl _⟩, hd σ H p⟩
theorem for_range {lo : Int} {n : Nat} {g : TG} {tb : TS} {D : Ends} {σ : St} {H : Hp} (Pv : Nat → St → Hp → Prop) (h0 : Pv 0 σ H)
    (hs : ∀ i σ H, i < n → Pv i σ H → g (.int (lo + i)) σ H fun σ2 H2 => tb { D with nx := Pv (i + 1), ct := Pv (i + 1), bk := D.nx } σ2 H2) (hd : ∀ σ H, Pv n σ H → D.nx σ H) :
    ∃ W : Nat → Nat → St → Hp → Prop, (∃ m, W 0 m σ H) ∧ ∀ i m σ H, W i m σ H →
      ((Itr lo n).stop i H ∧ D.nx σ H) ∨ ((Itr lo n).go i H ∧ ∃ N : St → Hp → Prop, (∀ σ' H', N σ' H' → ∃ m', m' < m ∧ W (i + 1) m' σ' H') ∧ ∀ x H', (Itr lo n).yld i H x H' → g x σ H' fun σ2 H2 => tb { D with nx := N, ct := N, bk := D.nx } σ2 H2) := by
  refine ⟨fun i m σ H => m = n - i ∧ i ≤ n ∧ Pv i σ H, ⟨n, by simp, Nat.zero_le _, h0⟩, ?_⟩
  rintro i m σ H ⟨rfl, hi, p⟩
  by_cases hlt : i < n
  · refine .inr ⟨hlt, Pv (i + 1), fun σ' H' p' => ⟨n - (i + 1), by omega, rfl, hlt, p'⟩, fun x H' y => ?_⟩
    obtain ⟨e, y⟩ := y
    subst e y
    exact hs i σ _ hlt p
  · have e : i = n := by omega
    subst e
    exact .inl ⟨Nat.le_refl _, hd σ H p⟩
end L2
namespace L2
open PySem PySem.Spec PyProof.Rows
abbrev R2 := V → V → Hp → VK → Prop
def OpR (X : Cx) (f : Value → Value → Sem Value) (r : R2) : Prop :=
  ∀ (pins : List (Addr × Obj)) (s : Shared) (σ : St) (H : Hp) (x y : V) (v u : Value) (Q : VK), Inv X pins σ H s → RelV x v → RelV y u → r x y H Q →
    wpAny (model X.prog X.w) X.A (f v u) (EP X pins σ Q) X.xe s
def UnR (X : Cx) (f : Value → Sem Value) (r : V → Hp → VK → Prop) : Prop :=
  ∀ (pins : List (Addr × Obj)) (s : Shared) (σ : St) (H : Hp) (x : V) (v : Value) (Q : VK), Inv X pins σ H s → RelV x v → r x H Q →
    wpAny (model X.prog X.w) X.A (f v) (EP X pins σ Q) X.xe s
def CallR (X : Cx) (f : Value) (r : List V → Hp → VK → Prop) : Prop :=
  ∀ (pins : List (Addr × Obj)) (s : Shared) (σ : St) (H : Hp) (xs : List V) (us : List Value) (Q : VK), Inv X pins σ H s → Vals xs us → r xs H Q →
    wpAny (model X.prog X.w) X.A (call f us) (EP X pins σ Q) X.xe s
def tOp (r : R2) (ta tb : TE) : TE := fun σ H Q => ta σ H fun x H1 => tb σ H1 fun y H2 => r x y H2 Q
def tUn (r : V → Hp → VK → Prop) (ta : TE) : TE := fun σ H Q => ta σ H fun x H1 => r x H1 Q
def rI (C : Int → Int → Prop) (g : Int → Int → V) : R2 := fun x y H Q => ∃ i j, x = .int i ∧ y = .int j ∧ C i j ∧ Q (g i j) H
def rI0 (g : Int → Int → V) : R2 := fun x y H Q => ∃ i j, x = .int i ∧ y = .int j ∧ Q (g i j) H
def rU (g : Int → V) : V → Hp → VK → Prop := fun x H Q => ∃ i, x = .int i ∧ Q (g i) H
section
variable {X : Cx} {a b c : Expr} {ta tb tc : TE} {pos : Pos}
theorem binT (ha : PE X a ta) (hb : PE X b tb) {pins : List (Addr × Obj)} {s : Shared} {σ : St} {H : Hp} {R : V → V → Hp → Prop} (I : Inv X pins σ H s)
    (h : ta σ H fun x H1 => tb σ H1 fun y H2 => R x y H2) {Q : Value → Shared → Prop} {f : Value → Value → Sem Value}
    (hf : ∀ v u s2 x y H2, Inv X pins σ H2 s2 → RelV x v → RelV y u → R x y H2 → wpAny (model X.prog X.w) X.A (f v u) Q X.xe s2) :
    wpAny (model X.prog X.w) X.A (eval a X.env) (fun v s₁ => wpAny (model X.prog X.w) X.A (eval b X.env) (fun u s₂ => wpAny (model X.prog X.w) X.A (f v u) Q X.xe s₂) X.xe s₁) X.xe s := by
  refine thn (ha pins s σ H _ I h) fun v s1 ⟨x, H1, I1, r1, q1⟩ => ?_
  refine thn (hb pins s1 σ H1 _ I1 q1) fun u s2 ⟨y, H2, I2, r2, q2⟩ => ?_
  exact hf v u s2 x y H2 I2 r1 r2 q2
theorem pe_op {op : Operator} {r : R2} (ho : OpR X (binaryOp op) r) (ha : PE X a ta) (hb : PE X b tb) : PE X (.BinOp a op b pos) (tOp r ta tb) := by
  intro pins s σ H Q I h
  exact wpAny_BinOp (binT ha hb I h fun v u s2 x y H2 I2 rx ry q => ho pins s2 σ H2 x y v u Q I2 rx ry q)
theorem pe_un {op : UnaryOp} {r : V → Hp → VK → Prop} (ho : UnR X (unaryOp op) r) (ha : PE X a ta) : PE X (.UnaryOp op a pos) (tUn r ta) := by
  intro pins s σ H Q I h
  exact UnaryOp_ (thn (ha pins s σ H _ I h) fun v s1 ⟨x, H1, I1, r1, q1⟩ => ho pins s1 σ H1 x v Q I1 r1 q1)
theorem opI {f : Value → Value → Sem Value} {C : Int → Int → Prop} {g : Int → Int → Int}
    (rule : ∀ (i j : Int) (t u : Tok) (s : Shared) (Q : Value → Shared → Prop) (E : Value → Shared → Prop), C i j → Q (.int (g i j) s.toks) { s with toks := s.toks + 1 } → wpAny (model X.prog X.w) X.A (f (.int i t) (.int j u)) Q E s) :
    OpR X f (rI C fun i j => .int (g i j)) := by
  intro pins s σ H x y v u Q I rx ry h
  obtain ⟨i, j, rfl, rfl, hc, q⟩ := h
  obtain ⟨t, rfl⟩ := rx
  obtain ⟨t', rfl⟩ := ry
  exact rule i j t t' s _ _ hc ⟨.int (g i j), H, I.tok _, ⟨_, rfl⟩, q⟩
theorem opI0 {f : Value → Value → Sem Value} {g : Int → Int → Int}
    (rule : ∀ (i j : Int) (t u : Tok) (s : Shared) (Q : Value → Shared → Prop) (E : Value → Shared → Prop), Q (.int (g i j) s.toks) { s with toks := s.toks + 1 } → wpAny (model X.prog X.w) X.A (f (.int i t) (.int j u)) Q E s) :
    OpR X f (rI0 fun i j => .int (g i j)) := by
  intro pins s σ H x y v u Q I rx ry h
  obtain ⟨i, j, rfl, rfl, q⟩ := h
  obtain ⟨t, rfl⟩ := rx
  obtain ⟨t', rfl⟩ := ry
  exact rule i j t t' s _ _ ⟨.int (g i j), H, I.tok _, ⟨_, rfl⟩, q⟩
theorem opB0 {f : Value → Value → Sem Value} {g : Int → Int → Bool}
    (rule : ∀ (i j : Int) (t u : Tok) (s : Shared) (Q : Value → Shared → Prop) (E : Value → Shared → Prop), Q (.bool (g i j)) s → wpAny (model X.prog X.w) X.A (f (.int i t) (.int j u)) Q E s) :
    OpR X f (rI0 fun i j => .bl (g i j)) := by
  intro pins s σ H x y v u Q I rx ry h
  obtain ⟨i, j, rfl, rfl, q⟩ := h
  obtain ⟨t, rfl⟩ := rx
  obtain ⟨t', rfl⟩ := ry
  exact rule i j t t' s _ _ ⟨.bl (g i j), H, I, rfl, q⟩
def CDiv (i j : Int) : Prop := 0 < j ∧ j < 1073741824
def CMul (i j : Int) : Prop := (-(2 ^ 64) < i ∧ i < 2 ^ 64) ∨ (-(2 ^ 64) < j ∧ j < 2 ^ 64)
theorem CMul.ok {i j : Int} (h : CMul i j) : IntMulOk i j := by
  rcases h with ⟨h1, h2⟩ | ⟨h1, h2⟩
  · exact .of_left (intBits_le_64 h1 h2)
  · exact .of_right (intBits_le_64 h1 h2)
theorem op_add : OpR X (binaryOp .Add) (rI0 fun i j => .int (i + j)) := opI0 fun _ _ _ _ _ _ _ q => add_int q
theorem op_sub : OpR X (binaryOp .Sub) (rI0 fun i j => .int (i - j)) := opI0 fun _ _ _ _ _ _ _ q => sub_int q
theorem op_mul : OpR X (binaryOp .Mult) (rI CMul fun i j => .int (i * j)) := opI fun _ _ _ _ _ _ _ hc q => mul_int q hc.ok
theorem op_fdiv : OpR X (binaryOp .FloorDiv) (rI CDiv fun i j => .int (i / j)) := opI fun i j _ _ _ _ _ hc q => by
  have h1 : (0 : Int) < j := hc.1
  have h2 : j < 1073741824 := hc.2
  exact floordiv_int (by omega) (by rw [Int.fdiv_eq_ediv_of_nonneg i (by omega)]; exact q) (.inl (PyProof.noPylong_small (by omega)))
theorem op_mod : OpR X (binaryOp .Mod) (rI (fun _ j => 0 < j) fun i j => .int (i % j)) := opI fun i j _ _ _ _ _ hc q => by
  have h1 : (0 : Int) < j := hc
  exact mod_int' (by omega) (by rw [Int.fmod_eq_emod_of_nonneg i (by omega)]; exact q)
theorem unI {f : Value → Sem Value} {g : Int → Int}
    (rule : ∀ (i : Int) (t : Tok) (s : Shared) (Q : Value → Shared → Prop) (E : Value → Shared → Prop), Q (.int (g i) s.toks) { s with toks := s.toks + 1 } → wpAny (model X.prog X.w) X.A (f (.int i t)) Q E s) :
    UnR X f (rU fun i => .int (g i)) := by
  intro pins s σ H x v Q I rx h
  obtain ⟨i, rfl, q⟩ := h
  obtain ⟨t, rfl⟩ := rx
  exact rule i t s _ _ ⟨.int (g i), H, I.tok _, ⟨_, rfl⟩, q⟩
theorem un_neg : UnR X (unaryOp .USub) (rU fun i => .int (-i)) := unI fun _ _ _ _ _ q => neg_int q
end
def scal : V → V → Bool
  | .non, .non => true | .non, .int _ => true | .int _, .non => true | .non, .bl _ => true | .bl _, .non => true | .non, .str _ => true | .str _, .non => true
  | .int _, .int _ => true | .bl _, .bl _ => true | .str _, .str _ => true | .byt _, .byt _ => true
  | .int _, .str _ => true | .str _, .int _ => true | .bl _, .str _ => true | .str _, .bl _ => true
  | _, _ => false
def rEq : R2 := fun x y H Q => scal x y = true ∧ Q (.bl (decide (x = y))) H
def rNe : R2 := fun x y H Q => scal x y = true ∧ Q (.bl (!decide (x = y))) H
theorem dec_int {i j : Int} : decide (V.int i = V.int j) = (i == j) := by
  rw [Bool.eq_iff_iff]
  simp
theorem dec_bl {i j : Bool} : decide (V.bl i = V.bl j) = (i == j) := by
  rw [Bool.eq_iff_iff]
  simp
theorem dec_str {i j : Str} : decide (V.str i = V.str j) = (i == j) := by
  rw [Bool.eq_iff_iff]
  simp
theorem dec_byt {i j : Array UInt8} : decide (V.byt i = V.byt j) = (i.toList == j.toList) := by
  rw [Bool.eq_iff_iff]
  cases i
  cases j
  simp
section
variable {X : Cx} {a b c : Expr} {ta tb tc : TE} {pos : Pos}
theorem fin_bl {pins : List (Addr × Obj)} {σ : St} {H : Hp} {s : Shared} {Q : VK} {k k' : Bool} (I : Inv X pins σ H s) (q : Q (.bl k) H) (e : k = k') : EP X pins σ Q (.bool k') s := by
  subst e
  exact ⟨.bl k, H, I, rfl, q⟩
theorem op_eq : OpR X (compareOp .Eq) rEq := by
  intro pins s σ H x y v u Q I rx ry h
  obtain ⟨hs, q⟩ := h
  cases x with
  | non =>
    cases rx
    cases y with
    | non => cases ry; exact PySem.EqNone.eq_none_none (fin_bl I q (by simp))
    | bl j => cases ry; exact PySem.EqNone.eq_none_bool (fin_bl I q (by simp))
    | int j => obtain ⟨t', rfl⟩ := ry; exact PySem.EqNone.eq_none_int (fin_bl I q (by simp))
    | str j => obtain ⟨t', rfl⟩ := ry; exact PySem.EqNone.eq_none_str (fin_bl I q (by simp))
    | _ => exact absurd (show false = true from hs) Bool.false_ne_true
  | bl i =>
    cases rx
    cases y with
    | non => cases ry; exact PySem.EqNone.eq_bool_none (fin_bl I q (by simp))
    | bl j => cases ry; exact eq_bool (fin_bl I q dec_bl)
    | str j => obtain ⟨t', rfl⟩ := ry; exact PySem.EqMixed.eq_bool_str (fin_bl I q (by simp))
    | _ => exact absurd (show false = true from hs) Bool.false_ne_true
  | int i =>
    obtain ⟨t, rfl⟩ := rx
    cases y with
    | non => cases ry; exact PySem.EqNone.eq_int_none (fin_bl I q (by simp))
    | int j => obtain ⟨t', rfl⟩ := ry; exact eq_int (fin_bl I q dec_int)
    | str j => obtain ⟨t', rfl⟩ := ry; exact PySem.EqMixed.eq_int_str (fin_bl I q (by simp))
    | _ => exact absurd (show false = true from hs) Bool.false_ne_true
  | str i =>
    obtain ⟨t, rfl⟩ := rx
    cases y with
    | non => cases ry; exact PySem.EqNone.eq_str_none (fin_bl I q (by simp))
    | bl j => cases ry; exact PySem.EqMixed.eq_str_bool (fin_bl I q (by simp))
    | int j => obtain ⟨t', rfl⟩ := ry; exact PySem.EqMixed.eq_str_int (fin_bl I q (by simp))
    | str j => obtain ⟨t', rfl⟩ := ry; exact eq_str (fin_bl I q dec_str)
    | _ => exact absurd (show false = true from hs) Bool.false_ne_true
  | byt i =>
    obtain ⟨t, rfl⟩ := rx
    cases y with
    | byt j => obtain ⟨t', rfl⟩ := ry; exact PySem.W.eq_bytes (fin_bl I q dec_byt)
    | _ => exact absurd (show false = true from hs) Bool.false_ne_true
  | _ => cases y <;> exact absurd (show false = true from hs) Bool.false_ne_true
theorem op_ne : OpR X (compareOp .NotEq) rNe := by
  intro pins s σ H x y v u Q I rx ry h
  obtain ⟨hs, q⟩ := h
  cases x with
  | non =>
    cases rx
    cases y with
    | non => cases ry; exact PySem.EqNone.ne_none_none (fin_bl I q (by simp))
    | bl j => cases ry; exact PySem.EqNone.ne_none_bool (fin_bl I q (by simp))
    | int j => obtain ⟨t', rfl⟩ := ry; exact PySem.EqNone.ne_none_int (fin_bl I q (by simp))
    | str j => obtain ⟨t', rfl⟩ := ry; exact PySem.EqNone.ne_none_str (fin_bl I q (by simp))
    | _ => exact absurd (show false = true from hs) Bool.false_ne_true
  | bl i =>
    cases rx
    cases y with
    | non => cases ry; exact PySem.EqNone.ne_bool_none (fin_bl I q (by simp))
    | bl j => cases ry; exact ne_bool (fin_bl I q (congrArg not dec_bl))
    | str j => obtain ⟨t', rfl⟩ := ry; exact PySem.EqMixed.ne_bool_str (fin_bl I q (by simp))
    | _ => exact absurd (show false = true from hs) Bool.false_ne_true
  | int i =>
    obtain ⟨t, rfl⟩ := rx
    cases y with
    | non => cases ry; exact PySem.EqNone.ne_int_none (fin_bl I q (by simp))
    | int j => obtain ⟨t', rfl⟩ := ry; exact ne_int (fin_bl I q (congrArg not dec_int))
    | str j => obtain ⟨t', rfl⟩ := ry; exact PySem.EqMixed.ne_int_str (fin_bl I q (by simp))
    | _ => exact absurd (show false = true from hs) Bool.false_ne_true
  | str i =>
    obtain ⟨t, rfl⟩ := rx
    cases y with
    | non => cases ry; exact PySem.EqNone.ne_str_none (fin_bl I q (by simp))
    | bl j => cases ry; exact PySem.EqMixed.ne_str_bool (fin_bl I q (by simp))
    | int j => obtain ⟨t', rfl⟩ := ry; exact PySem.EqMixed.ne_str_int (fin_bl I q (by simp))
    | str j => obtain ⟨t', rfl⟩ := ry; exact ne_str (fin_bl I q (congrArg not dec_str))
    | _ => exact absurd (show false = true from hs) Bool.false_ne_true
  | byt i =>
    obtain ⟨t, rfl⟩ := rx
    cases y with
    | byt j => obtain ⟨t', rfl⟩ := ry; exact PySem.W.ne_bytes (fin_bl I q (congrArg not dec_byt))
    | _ => exact absurd (show false = true from hs) Bool.false_ne_true
  | _ => cases y <;> exact absurd (show false = true from hs) Bool.false_ne_true
theorem op_lt : OpR X (compareOp .Lt) (rI0 fun i j => .bl (decide (i < j))) := opB0 fun _ _ _ _ _ _ _ q => lt_int q
theorem op_le : OpR X (compareOp .LtE) (rI0 fun i j => .bl (decide (i ≤ j))) := opB0 fun _ _ _ _ _ _ _ q => le_int q
theorem op_gt : OpR X (compareOp .Gt) (rI0 fun i j => .bl (decide (j < i))) := opB0 fun _ _ _ _ _ _ _ q => gt_int q
theorem op_ge : OpR X (compareOp .GtE) (rI0 fun i j => .bl (decide (j ≤ i))) := opB0 fun _ _ _ _ _ _ _ q => ge_int q
theorem op_isN : OpR X (compareOp .Is) (fun x y H Q => y = .non ∧ Q (.bl (decide (x = .non))) H) := by
  intro pins s σ H x y v u Q I rx ry h
  obtain ⟨rfl, q⟩ := h
  cases ry
  refine is_none_gen (fin_bl I q ?_)
  cases x <;> first
    | (cases rx; rfl)
    | (obtain ⟨t, rfl⟩ := rx; rfl)
theorem op_notN : OpR X (compareOp .IsNot) (fun x y H Q => y = .non ∧ Q (.bl (!decide (x = .non))) H) := by
  intro pins s σ H x y v u Q I rx ry h
  obtain ⟨rfl, q⟩ := h
  cases ry
  refine isnot_none_gen (fin_bl I q ?_)
  cases x <;> first
    | (cases rx; rfl)
    | (obtain ⟨t, rfl⟩ := rx; rfl)
theorem nomark (b : Expr) {op : CmpOp} (h : op ≠ .In := by decide) (h2 : op ≠ .NotIn := by decide) : behindInMarks op b = false := by
  have e1 : (op == CmpOp.In) = false := by cases op <;> first | rfl | exact absurd rfl h
  have e2 : (op == CmpOp.NotIn) = false := by cases op <;> first | rfl | exact absurd rfl h2
  cases b <;> simp [behindInMarks, e1, e2]
theorem pe_cmpR {op : CmpOp} {r : R2} (ho : OpR X (compareOp op) r) (ha : PE X a ta) (hb : PE X b tb) (hm : behindInMarks op b = false) : PE X (.Compare a [op] [b] pos) (tOp r ta tb) := by
  intro pins s σ H Q I h
  exact wpAny_Compare1 (binT ha hb I h fun v u s2 x y H2 I2 rx ry q => ho pins s2 σ H2 x y v u Q I2 rx ry q) hm
def tTest (t : TE) : TT := fun σ H Q => t σ H fun x H' => ∃ k, x = .bl k ∧ Q k H'
theorem pt_cmpR {op : CmpOp} {r : R2} (ho : OpR X (compareOp op) r) (ha : PE X a ta) (hb : PE X b tb) (hm : behindInMarks op b = false) : PT X (.Compare a [op] [b] pos) (tTest (tOp r ta tb)) := by
  intro pins s σ H Q I h
  refine wpAny_isTrue_Compare1 (thn (ha pins s σ H _ I h) fun v s1 ⟨x, H1, I1, r1, q1⟩ => thn (hb pins s1 σ H1 _ I1 q1) fun u s2 ⟨y, H2, I2, r2, q2⟩ =>
    thn (ho pins s2 σ H2 x y v u _ I2 r1 r2 q2) fun c s3 ⟨z, H3, I3, r3, k, e, q3⟩ => ?_) hm
  subst e
  cases r3
  exact wpAny_truthy_bool ⟨H3, I3, q3⟩
theorem line63 : (sizeLine : Nat) < 2 ^ 63 := by rw [sizeLine_eq]; decide
theorem vals1 {x : V} {us : List Value} (r : Vals [x] us) : ∃ u, us = [u] ∧ RelV x u := by
  cases r with
  | cons r1 r2 => cases r2; exact ⟨_, rfl, r1⟩
theorem vals2 {x y : V} {us : List Value} (r : Vals [x, y] us) : ∃ u w', us = [u, w'] ∧ RelV x u ∧ RelV y w' := by
  cases r with
  | cons r1 r2 =>
    cases r2 with
    | cons r3 r4 => cases r4; exact ⟨_, _, rfl, r1, r3⟩
theorem call_min2 (hc : X.calm = true) : CallR X (.builtin "min") (fun xs H Q => ∃ i j, xs = [.int i, .int j] ∧ Q (.int (if j < i then j else i)) H) := by
  intro pins s σ H xs us Q I r h
  obtain ⟨i, j, rfl, q⟩ := h
  obtain ⟨u, w', rfl, ⟨t, rfl⟩, ⟨t', rfl⟩⟩ := vals2 r
  refine min_two_ints (I.ok.hd hc) fun h' tk k => ⟨_, H, I.kept k, ?_, q⟩
  by_cases hj : j < i
  · rw [if_pos hj, if_pos hj]; exact ⟨_, rfl⟩
  · rw [if_neg hj, if_neg hj]; exact ⟨_, rfl⟩
theorem call_int1 : CallR X (.type "int") (fun xs H Q => (∃ i, xs = [.int i] ∧ Q (.int i) H) ∨ ∃ k, xs = [.bl k] ∧ Q (.int (if k then 1 else 0)) H) := by
  intro pins s σ H xs us Q I r h
  rcases h with ⟨i, rfl, q⟩ | ⟨k, rfl, q⟩
  · obtain ⟨u, rfl, t, rfl⟩ := vals1 r
    exact call_int_int ⟨.int i, H, I, ⟨_, rfl⟩, q⟩
  · obtain ⟨u, rfl, r1⟩ := vals1 r
    cases r1
    exact call_int_bool ⟨.int (if k then 1 else 0), H, I.tok _, ⟨_, rfl⟩, q⟩
end
end L2
namespace L2
open PySem PySem.Spec PyProof.Rows
structure ObjM (h : Heap) (x dx C : Addr) (mA : Str → Option Value) : Prop where
  obj : h.get? x = some (PySem.W.instObj C dx)
  ns : h.Ns1 dx mA
  ne : dx ≠ x
theorem lookIn_ns {h : Heap} {dx : Addr} {mA : Str → Option Value} (n : h.Ns1 dx mA) : ∃ od, h.get? dx = some od ∧ ∀ name, PySem.W.lookIn name od = some (mA name) := by
  obtain ⟨o, es, ep, ho, hd, hk, _, hm⟩ := n
  refine ⟨o, ho, fun name => ?_⟩
  have e := hm name
  unfold nsFind findBy at e
  rw [← Array.find?_toList] at e
  unfold PySem.W.lookIn
  rw [hd]
  dsimp only
  split
  · rename_i y q
    rw [q] at e
    exact congrArg some e
  · rename_i q
    rw [q] at e
    have a : es.toList.any (·.refKey) = false := by
      rw [List.any_eq_false]
      intro y hy
      obtain ⟨z, t, hkey⟩ := hk y (Array.mem_toList_iff.mp hy)
      simp [DictEntry.refKey, hkey]
    have a' : ¬ es.toList.any (·.refKey) = true := by rw [a]; exact Bool.false_ne_true
    rw [if_neg a']
    exact congrArg some e
theorem ObjM.look {h : Heap} {x dx C : Addr} {mA : Str → Option Value} (I : ObjM h x dx C mA) : ∃ od, PySem.W.InstAt h x (PySem.W.instObj C dx) C (some od) ∧ ∀ name, PySem.W.lookIn name od = some (mA name) :=
  let ⟨od, ho, hl⟩ := lookIn_ns I.ns
  ⟨od, ⟨I.obj, rfl, rfl, ho⟩, hl⟩
section
variable {prog : Program} {w : World} {A : Around} {E : Value → Shared → Prop} {s : Shared} {K : PySem.W.Frag} {x dx C f : Addr} {mA : Str → Option Value} {name : Str} {v : Value}
theorem get_map {expr : Bool} {Q : Value → Shared → Prop} (X : K.In s.heap) (I : ObjM s.heap x dx C mA) (hg : PySem.W.plainGet K C name = true) (hh : PySem.W.hasDictIn K C = true)
    (ha : PySem.W.findIn K (.ref C) name = some none) (hv : mA name = some v) (hv' : PySem.W.handedIn v = true) (h : Q v { s with toks := s.toks + 1 }) :
    wpAny (model prog w) A (getAttr (.ref x) name expr) Q E s := by
  obtain ⟨od, J, hl⟩ := I.look
  exact PySem.W.get_value X J (PySem.W.plainGet_of hg).1 (PySem.W.findObj_own hh ha rfl (by rw [hl, hv])) hv' h
theorem set_map {ns : List Str} {Q : Unit → Shared → Prop} (X : K.In s.heap) (I : ObjM s.heap x dx C mA)
    (hs : PySem.W.findIn K (.ref C) "__setattr__" = some (some (.builtin "object.__setattr__"))) (hp : PySem.W.plainOver K C = true) (ht : PySem.W.takerIn K C name = some none) (hh : PySem.W.hasDictIn K C = true)
    (hw : PySem.Within mA ns) (hsz : ns.length ≤ sizeLine)
    (h : ∀ h', ObjM h' x dx C (fun y => if y = name then some v else mA y) → Heap.SameBut dx s.heap h' → Q () { s with heap := h', toks := s.toks + 2 }) :
    wpAny (model prog w) A (setAttr (.ref x) name v) Q E s := by
  obtain ⟨od, J, hl⟩ := I.look
  refine PySem.W.set_plain X J hs (PySem.W.osa_open (s := { s with toks := s.toks + 1 }) (r := none) X J hp ht fun b => ?_)
  obtain ⟨cd, hc, hd'⟩ := PySem.W.any_some hh
  have hx : s.heap.get? x = some ⟨.ref C, some dx, .plain, #[]⟩ := I.obj
  refine wpAny_bind (wpAny_pure (wpAny_bind (wpAny_bind (wpAny_loadPart hx (wpAny_bind (PySem.W.Looks.here (s := { s with toks := s.toks + 1 }) (PySem.W.looks_clsIn X hc) ?_))))))
  rw [hd']
  refine wpAny_pure (a := some dx) (wpAny_bind (wpAny_pure (wpAny_bind ?_)))
  refine wpAny_nsSet1 (s := { s with toks := s.toks + 1 }) I.ns fun h' hn2 hs2 => ?_
  obtain ⟨oD, esD, epD, hoD, hdD, hcD⟩ := hn2.count (PySem.Within.cons name v hw)
  refine wpAny_bind (wpAny_lookBehind hoD (by rw [hdD]; exact pastItsLine_dict (Nat.le_trans hcD (by rw [List.length_cons]; omega))) ?_)
  exact wpAny_pure (h _ ⟨(hs2.2 _ (Ne.symm I.ne)).trans I.obj, hn2, I.ne⟩ hs2)
theorem make_map {R : Result → Shared → Prop} {vs : List Value} {kw : List (Str × Value)} (X : K.In s.heap) (hm : PySem.W.makesIn K C = true)
    (hi : PySem.W.findIn K (.ref C) "__init__" = some (some (.ref f))) (hf : PySem.W.typeIn K (.ref f) = some (.type "function"))
    (h : codeAny (model prog w) (A.under (.builtin "type.__call__" ⟨.ref C :: vs, kw⟩)) (.call (.ref f) ⟨.ref (s.heap.objs.size + 1) :: vs, kw⟩) (PySem.W.InitBack (s.heap.objs.size + 1) R)
      { s with heap := (s.heap.push PySem.W.emptyDict).push (PySem.W.instObj C s.heap.objs.size) }) :
    codeAny (model prog w) A (.call (.ref C) ⟨vs, kw⟩) R s := by
  obtain ⟨hh, g, d, t, os⟩ := s
  exact PySem.W.make_core (PySem.W.makes_of X hm) (PySem.W.looks_findIn X hi) (fun self => PySem.W.bind_fn X self hf) (.inl rfl) h
end
def putF (f : Str) (v : V) : List (Str × V) → List (Str × V)
  | [] => [(f, v)]
  | (g, x) :: r => if g = f then (g, v) :: r else (g, x) :: putF f v r
theorem lookup_putF (f g : Str) (v : V) : ∀ fs : List (Str × V), (putF f v fs).lookup g = if g = f then some v else fs.lookup g
  | [] => by
    show List.lookup g [(f, v)] = _
    by_cases h : g = f
    · have hb : (g == f) = true := beq_iff_eq.mpr h
      simp only [List.lookup, hb, if_pos h]
    · have hb : (g == f) = false := beq_eq_false_iff_ne.mpr h
      simp only [List.lookup, hb, if_neg h]
  | (k, x) :: r => by
    have ih := lookup_putF f g v r
    rw [show putF f v ((k, x) :: r) = (if k = f then (k, v) :: r else (k, x) :: putF f v r) from rfl]
    by_cases hk : k = f
    · rw [if_pos hk]
      by_cases h : g = k
      · have hb : (g == k) = true := beq_iff_eq.mpr h
        simp only [List.lookup, hb, if_pos (h.trans hk)]
      · have hb : (g == k) = false := beq_eq_false_iff_ne.mpr h
        simp only [List.lookup, hb, if_neg (fun e : g = f => h (e.trans hk.symm))]
    · rw [if_neg hk]
      by_cases h : g = k
      · have hb : (g == k) = true := beq_iff_eq.mpr h
        simp only [List.lookup, hb, if_neg (fun e : g = f => hk (h.symm.trans e))]
      · have hb : (g == k) = false := beq_eq_false_iff_ne.mpr h
        simp only [List.lookup, hb]
        exact ih
theorem keys_putF (f : Str) (v : V) : ∀ fs : List (Str × V), f ∈ (putF f v fs).map (·.1) ∧ ∀ g, g ∈ fs.map (·.1) → g ∈ (putF f v fs).map (·.1)
  | [] => ⟨by simp [putF], fun g h => by simp at h⟩
  | (k, x) :: r => by
    obtain ⟨i1, i2⟩ := keys_putF f v r
    rw [show putF f v ((k, x) :: r) = (if k = f then (k, v) :: r else (k, x) :: putF f v r) from rfl]
    by_cases hk : k = f
    · rw [if_pos hk]
      subst hk
      exact ⟨by simp, fun g h => by simpa using h⟩
    · rw [if_neg hk]
      refine ⟨?_, fun g h => ?_⟩
      · rw [List.map_cons]
        exact List.mem_cons_of_mem _ i1
      · rw [List.map_cons] at h ⊢
        rcases List.mem_cons.mp h with e | e
        · exact List.mem_cons.mpr (.inl e)
        · exact List.mem_cons_of_mem _ (i2 g e)
theorem length_putF (f : Str) (v : V) : ∀ fs : List (Str × V), (putF f v fs).length ≤ fs.length + 1
  | [] => by simp [putF]
  | (k, x) :: r => by
    have ih := length_putF f v r
    rw [show putF f v ((k, x) :: r) = (if k = f then (k, v) :: r else (k, x) :: putF f v r) from rfl]
    by_cases hk : k = f
    · rw [if_pos hk, List.length_cons, List.length_cons]; omega
    · rw [if_neg hk, List.length_cons, List.length_cons]; omega
theorem RelO.some_of {v : V} {o : Option Value} (r : RelO (some v) o) : ∃ u, o = some u ∧ RelV v u := by
  cases o with
  | none => exact (show False from r).elim
  | some u => exact ⟨u, rfl, r⟩
theorem handed_of {v : V} {u : Value} (r : RelV v u) : PySem.W.handedIn u = true := by
  cases v with
  | non => cases (show u = Value.none from r); rfl
  | bl b => cases (show u = Value.bool b from r); rfl
  | int i => obtain ⟨t, e⟩ := (show ∃ t, u = Value.int i t from r); cases e; rfl
  | str x => obtain ⟨t, e⟩ := (show ∃ t, u = Value.str x t from r); cases e; rfl
  | byt b => obtain ⟨t, e⟩ := (show ∃ t, u = Value.bytes b t from r); cases e; rfl
  | flt b => obtain ⟨t, e⟩ := (show ∃ t, u = Value.float b t from r); cases e; rfl
  | ref a => cases (show u = Value.ref a from r); rfl
  | ty n => cases (show u = Value.type n from r); rfl
section
variable {P : Program} {w : World} {H H' : Hp} {h h' : Heap} {a C dx : Addr} {fs fs' : List (Str × V)}
theorem ins_get (hok : HOk P w H h) (e : H a = some (.ins C dx fs)) : ∃ mA, ObjM h a dx C mA ∧ (∀ f, RelO (fs.lookup f) (mA f)) ∧ PySem.Within mA (fs.map (·.1)) ∧ fs.length ≤ 1000 ∧ H dx = some (.own a) := by
  obtain ⟨d, z, ne, ob, mA, n, r, q⟩ := (show ObjOk P w H h a (.ins C dx fs) from hok a _ e)
  exact ⟨mA, ⟨ob, n, ne⟩, r, q, z, d⟩
end
structure Cls (K : PySem.W.Frag) (C : Addr) : Prop where
  pg : PySem.W.plainGet K C Str.empty = true
  hd : PySem.W.hasDictIn K C = true
  po : PySem.W.plainOver K C = true
  sa : PySem.W.findIn K (.ref C) "__setattr__" = some (some (.builtin "object.__setattr__"))
theorem Cls.get {K : PySem.W.Frag} {C : Addr} (c : Cls K C) (f : Str) : PySem.W.plainGet K C f = true := c.pg
def NoAttr (K : PySem.W.Frag) (C : Addr) (f : Str) : Prop := PySem.W.findIn K (.ref C) f = some none
theorem NoAttr.taker {K : PySem.W.Frag} {C : Addr} {f : Str} (n : NoAttr K C f) : PySem.W.takerIn K C f = some none := by
  unfold PySem.W.takerIn
  rw [show PySem.W.findIn K (.ref C) f = some none from n]
  rfl
section
variable {X : Cx} {pins : List (Addr × Obj)} {σ : St} {H : Hp} {s : Shared} {a C dx : Addr} {fs : List (Str × V)} {f : Str} {v : V} {A : Around} {E : Value → Shared → Prop}
theorem getattr_ok {b : Bool} {Q : Value → Shared → Prop} (I : Inv X pins σ H s) (e : H a = some (.ins C dx fs)) (c : Cls X.K C) (n : NoAttr X.K C f) (l : fs.lookup f = some v)
    (h : ∀ u s', Inv X pins σ H s' → RelV v u → Q u s') : wpAny (model X.prog X.w) A (getAttr (.ref a) f b) Q E s := by
  obtain ⟨mA, O, r, _, _, _⟩ := ins_get I.hok e
  obtain ⟨u, hu, ru⟩ := RelO.some_of (v := v) (o := mA f) (by rw [← l]; exact r f)
  exact get_map I.kIn O (c.get f) c.hd n hu (handed_of ru) (h u _ (I.tok _) ru)
theorem setattr_ok {y : V} {u : Value} {Q : Unit → Shared → Prop} (I : Inv X pins σ H s) (e : H a = some (.ins C dx fs)) (c : Cls X.K C) (n : NoAttr X.K C f) (hl : fs.length < 1000) (ry : RelV y u)
    (h : ∀ s', Inv X pins σ (upd H a (.ins C dx (putF f y fs))) s' → Q () s') : wpAny (model X.prog X.w) A (setAttr (.ref a) f u) Q E s := by
  obtain ⟨mA, O, r, wi, _, ho⟩ := ins_get I.hok e
  have hz : (fs.map (·.1)).length ≤ sizeLine := by rw [List.length_map, sizeLine_eq]; omega
  refine set_map I.kIn O c.sa c.po n.taker c.hd wi hz fun h' O' sb => h _ ?_
  have hd : ∃ o, h'.get? dx = some o := let ⟨o, _, _, e', _⟩ := O'.ns; ⟨o, e'⟩
  refine I.write (x := a) (e := dx) (by rw [e]; exact True.intro) (.inr ho) (fun b q hb z => (sb.2 b hb).trans z) hd ?_
  refine ⟨by rw [upd_ne O.ne]; exact ho, ?_, O.ne, O'.obj, _, O'.ns, fun g => ?_, fun g hg => ?_⟩
  · have := length_putF f y fs; omega
  · show RelO ((putF f y fs).lookup g) (if g = f then some u else mA g)
    rw [lookup_putF]
    by_cases q : g = f
    · rw [if_pos q, if_pos q]; exact ry
    · rw [if_neg q, if_neg q]; exact r g
  · by_cases q : g = f
    · rw [q]; exact (keys_putF f y fs).1
    · refine (keys_putF f y fs).2 g (wi g fun z => hg ?_)
      show (if g = f then some u else mA g) = none
      rw [if_neg q]; exact z
theorem Inv.made (I : Inv X pins σ H s) : Inv X pins σ (upd (upd H s.heap.objs.size (.own (s.heap.objs.size + 1))) (s.heap.objs.size + 1) (.ins C s.heap.objs.size []))
    { s with heap := (s.heap.push PySem.W.emptyDict).push (PySem.W.instObj C s.heap.objs.size) } := by
  have e1 : (s.heap.push PySem.W.emptyDict).get? s.heap.objs.size = some PySem.W.emptyDict := Heap.get?_push_size s.heap rfl
  have e2 : ((s.heap.push PySem.W.emptyDict).push (PySem.W.instObj C s.heap.objs.size)).get? (s.heap.objs.size + 1) = some (PySem.W.instObj C s.heap.objs.size) := by
    have := Heap.get?_push_size (s.heap.push PySem.W.emptyDict) (o := PySem.W.instObj C s.heap.objs.size) rfl
    rwa [Heap.size_push] at this
  have e3 : (s.heap.push PySem.W.emptyDict).Ns s.heap.objs.size (fun _ => none) := ⟨PySem.W.emptyDict, #[], _, e1, rfl, (fun e he => absurd he (by simp)), fun _ => rfl⟩
  have I1 := I.laid (a := s.heap.objs.size) (o := .own (s.heap.objs.size + 1)) (h' := s.heap.push PySem.W.emptyDict) (t' := s.toks) (fun b u q => Heap.get?_push_of_some _ q) (Nat.le_refl _) ⟨_, e1⟩
  refine I1.laid (a := s.heap.objs.size + 1) (o := .ins C s.heap.objs.size []) (t' := s.toks) (fun b u q => Heap.get?_push_of_some _ q) (Nat.le_of_eq (Heap.size_push _ _)) ?_
  have ne : s.heap.objs.size ≠ s.heap.objs.size + 1 := Nat.ne_of_lt (Nat.lt_succ_self _)
  refine ⟨by rw [upd_ne ne, upd_same], Nat.zero_le _, ne, e2, fun _ => none, (Heap.Ns1.of_empty e3).at fun o q => Heap.get?_push_of_some _ q, fun _ => True.intro, fun y hy => absurd rfl hy⟩
theorem attr_of {prog : Program} {w : World} {env : Env} {e : Expr} {f : Str} {pos : Pos} {s : Shared} {Q : Value → Shared → Prop} (hb : attributeBase e f env (eval e env) = eval e env)
    (h : wpAny (model prog w) A (eval e env) (fun o s₁ => wpAny (model prog w) A (getAttr o f true) Q E s₁) E s) : wpAny (model prog w) A (eval (.Attribute e f pos) env) Q E s :=
  Attribute_any_ h (by rw [arm_eval_Attribute, hb])
end
def tFld (K : PySem.W.Frag) (ta : TE) (f : Str) : TE := fun σ H Q => ta σ H fun x H1 => ∃ a C dx fs v, x = .ref a ∧ H1 a = some (.ins C dx fs) ∧ Cls K C ∧ NoAttr K C f ∧ fs.lookup f = some v ∧ Q v H1
def sFld (K : PySem.W.Frag) (ta tv : TE) (f : Str) : TS := fun D σ H => tv σ H fun y H1 => ta σ H1 fun x H2 => ∃ a C dx fs, x = .ref a ∧ H2 a = some (.ins C dx fs) ∧ Cls K C ∧ NoAttr K C f ∧ fs.length < 1000 ∧
  D.nx σ (upd H2 a (.ins C dx (putF f y fs)))
section
variable {X : Cx} {o e value : Expr} {f : Str} {pos pos' tpos : Pos} {ta tv : TE}
theorem pe_fld (he : PE X e ta) (hb : attributeBase e f X.env (eval e X.env) = eval e X.env) : PE X (.Attribute e f pos) (tFld X.K ta f) := by
  intro pins s σ H Q I h
  refine attr_of hb (thn (he pins s σ H _ I h) fun u s1 ⟨x, H1, I1, rx, a, C, dx, fs, v, ex, ea, c, n, l, q⟩ => ?_)
  subst ex
  obtain rfl : u = Value.ref a := rx
  exact getattr_ok I1 ea c n l fun u' s2 I2 ru => ⟨v, H1, I2, ru, q⟩
theorem ps_fld (ha : PE X o ta) (hv : PE X value tv) (hs : swapsWith value (some (.Attribute o f pos')) pos.line X.env = pure false) : PS X (.Assign [.Attribute o f pos'] value pos) (sFld X.K ta tv f) := by
  intro pins s σ H D I h
  refine plainObj_wpAny_Assign_Attribute (thn (hv pins s σ H _ I h) fun u s1 ⟨y, H1, I1, ry, q⟩ => thn (ha pins s1 σ H1 _ I1 q) fun ov s2 ⟨x, H2, I2, rx, a, C, dx, fs, ex, ea, c, n, l, q2⟩ => ?_) hs
  subst ex
  obtain rfl : ov = Value.ref a := rx
  exact setattr_ok I2 ea c n l ry fun s3 I3 => ⟨σ, _, I3, q2⟩
end
section
variable {X : Cx} {pins : List (Addr × Obj)} {σ : St} {H : Hp} {s : Shared} {A : Around} {E : Value → Shared → Prop} {Q : Value → Shared → Prop} {c : Value} {b : Bool}
end
end L2
namespace L2
open PySem PySem.Spec PyProof.Rows
structure Room (k : Nat) (A : Around) : Prop where
  hd : A.handled = none
  dp : A.depth + 3 * k + 5 < recursionLimit
  un : A.units + 16 * k + 200 < cLine
theorem Room.mono {j k : Nat} {A : Around} (r : Room k A) (h : j ≤ k) : Room j A := ⟨r.hd, by have := r.dp; omega, by have := r.un; omega⟩
theorem Room.deeper {k : Nat} {A : Around} (r : Room (k + 1) A) (env : Env) : Room k (A.deeper env) :=
  ⟨r.hd, by have := r.dp; show A.depth + 1 + 3 * k + 5 < _; omega, by have := r.un; show A.units + 3 + 16 * k + 200 < _; omega⟩
theorem Room.in1 {k : Nat} {A : Around} (r : Room (k + 1) A) : Room k A.in1 :=
  ⟨r.hd, by have := r.dp; show A.depth + 3 * k + 5 < _; omega, by have := r.un; show A.units + 1 + 16 * k + 200 < _; omega⟩
theorem make_depth {A : Around} {C : Addr} {us : List Value} {kw : List (Str × Value)} : (A.under (.builtin "type.__call__" ⟨.ref C :: us, kw⟩)).depth = A.depth + 1 := by
  first | rfl | simp [Around.under, Code.weight, Code.isCreation, Code.isGuard, Code.isCaller, Code.frames, Code.isFrame, guardIds]
theorem make_units {A : Around} {C : Addr} {us : List Value} {kw : List (Str × Value)} : (A.under (.builtin "type.__call__" ⟨.ref C :: us, kw⟩)).units = A.units + 1 := by
  first | rfl | simp [Around.under, Code.cUnits, Code.frames, Code.isFrame]
theorem Room.make {k : Nat} {A : Around} (r : Room (k + 1) A) (C : Addr) (us : List Value) (kw : List (Str × Value)) : Room k (A.under (.builtin "type.__call__" ⟨.ref C :: us, kw⟩)) :=
  ⟨r.hd, by have := r.dp; rw [make_depth]; omega, by have := r.un; rw [make_units]; omega⟩
theorem Room.depth {k : Nat} {A : Around} (r : Room k A) : A.depth < recursionLimit := by have := r.dp; omega
theorem Room.units {k : Nat} {A : Around} (r : Room k A) : A.units + 64 < cLine := by have := r.un; omega
def tNil : TA := fun _ H Q => Q [] H
def tCons (ta : TE) (tr : TA) : TA := fun σ H Q => ta σ H fun x H1 => tr σ H1 fun xs H2 => Q (x :: xs) H2
section
variable {X : Cx} {e : Expr} {es : List Expr} {te : TE} {t : TA} {pos : Pos}
theorem pa_nil : PA X [] tNil := fun _ _ _ _ H Q I h => Calls.spliced_nil ⟨[], H, I, .nil, h⟩
theorem pa_cons (ha : PE X e te) (hr : PA X es t) (hs : starEach (e :: es) X.env = (false, eval e X.env) :: starEach es X.env := by rfl) : PA X (e :: es) (tCons te t) := by
  intro pos pins s σ H Q I h
  rw [hs]
  show wpAny _ _ (spliced ((false, eval e X.env) :: backTo pos (starEach es X.env))) _ _ s
  refine Calls.spliced_cons (thn (ha pins s σ H _ I h) fun u s1 ⟨x, H1, I1, r1, q1⟩ => ?_)
  exact thn (hr pos pins s1 σ H1 _ I1 q1) fun us s2 ⟨xs, H2, I2, r2, q2⟩ => ⟨x :: xs, H2, I2, .cons r1 r2, q2⟩
def tTup (t : TA) : TE := fun σ H Q => t σ H fun xs H1 => xs.length ≤ sizeLine ∧ ∀ p, H1 p = none → Q (.ref p) (upd H1 p (.tup xs))
def tLst (t : TA) : TE := fun σ H Q => t σ H fun xs H1 => xs.length ≤ sizeLine ∧ ∀ p, H1 p = none → Q (.ref p) (upd H1 p (.lst xs))
theorem pe_tup {x1} (h : PA X es t) : PE X (.Tuple es x1 pos) (tTup t) := by
  intro pins s σ H Q I hq
  refine wpAny_Tuple_spliced (thn (h pos pins s σ H _ I hq) fun us s1 ⟨xs, H1, I1, r, z, q⟩ => ⟨by rw [← r.length]; exact z, ?_⟩)
  have hf : H1 s1.heap.objs.size = none := I1.hok.fresh (Nat.le_refl _)
  refine ⟨.ref s1.heap.objs.size, upd H1 s1.heap.objs.size (.tup xs), I1.laid (t' := s1.toks) (fun b u e => Heap.get?_push_of_some _ e) (Nat.le_refl _) ?_, rfl, q _ hf⟩
  exact ⟨z, us, r, ⟨_, Heap.get?_push_size _ rfl, rfl, _, rfl⟩⟩
theorem pe_lst (h : PA X es t) : PE X (.List es pos) (tLst t) := by
  intro pins s σ H Q I hq
  refine wpAny_List_spliced (thn (h pos pins s σ H _ I hq) fun us s1 ⟨xs, H1, I1, r, z, q⟩ => ⟨by rw [← r.length]; exact z, ?_⟩)
  have hf : H1 s1.heap.objs.size = none := I1.hok.fresh (Nat.le_refl _)
  refine ⟨.ref s1.heap.objs.size, upd H1 s1.heap.objs.size (.lst xs), I1.laid (t' := s1.toks) (fun b u e => Heap.get?_push_of_some _ e) (Nat.le_refl _) ?_, rfl, q _ hf⟩
  exact ⟨z, us, 0, r, Heap.get?_push_size _ rfl⟩
end
abbrev Sp := List V → Hp → VK → XK → Prop
abbrev CXT := List Env → Hp → Shared → XK → Value → Shared → Prop
structure Env0 (P : Program) (w : World) (K : PySem.W.Frag) (mg : Str → Option Value) (base : Heap) (A : Around) (outer : List Env) (s : Shared) (H : Hp) : Prop where
  frames : A.frames = some outer
  mod : Mod K mg base
  bs : ∀ b o, base.get? b = some o → s.heap.get? b = some o ∧ H b = none
  bsz : base.objs.size ≤ s.heap.objs.size
  funs : s.heap.FunFrames base outer
  frf : ∀ b ∈ frs outer, H b = none
  hok : HOk P w H s.heap
  bare : AllBare s.gens
def CE (outer : List Env) (P : Program) (w : World) (H : Hp) (s : Shared) (Q : VK) (u : Value) (s' : Shared) : Prop :=
  ∃ v H', s'.os = s.os ∧ AllBare s'.gens ∧ Un (frs outer) [] H H' s.heap s'.heap ∧ HOk P w H' s'.heap ∧ RelV v u ∧ Q v H'
def CR (CX : CXT) (outer : List Env) (P : Program) (w : World) (H : Hp) (s : Shared) (Q : VK) (E : XK) (r : Result) (s' : Shared) : Prop :=
  match r with
  | .ok (.ret u) => CE outer P w H s Q u s'
  | .ok _ => False
  | .error e => CX outer H s E e s'
structure FnOk (P : Program) (w : World) (K : PySem.W.Frag) (mg : Str → Option Value) (base : Heap) (CX : CXT) (k : Nat) (f : Addr) (fd : FuncData) (ps : List Str) (sp : Sp) : Prop where
  len : ∀ vs H Q E, sp vs H Q E → vs.length = ps.length
  run : ∀ (A : Around) (outer : List Env) (s : Shared) (H : Hp) (args : Args) (us : List Value) (vs : List V) (Q : VK) (E : XK), Room k A → Env0 P w K mg base A outer s H → BindsTo s fd args (ps.zip us) → Vals vs us → sp vs H Q E →
    codeAny (model P w) A (.call (.ref f) args) (CR CX outer P w H s Q E) s
theorem FnOk.mono {P : Program} {w : World} {K : PySem.W.Frag} {mg : Str → Option Value} {base : Heap} {CX : CXT} {j k : Nat} {f : Addr} {fd : FuncData} {ps : List Str} {sp : Sp} (F : FnOk P w K mg base CX j f fd ps sp) (h : j ≤ k) :
    FnOk P w K mg base CX k f fd ps sp := ⟨F.len, fun A outer s H args us vs Q E hr => F.run A outer s H args us vs Q E (hr.mono h)⟩
theorem Env0.make {P : Program} {w : World} {K : PySem.W.Frag} {mg : Str → Option Value} {base : Heap} {A : Around} {outer : List Env} {s : Shared} {H : Hp} (e : Env0 P w K mg base A outer s H) (C : Addr) (us : List Value) (kw : List (Str × Value)) :
    Env0 P w K mg base (A.under (.builtin "type.__call__" ⟨.ref C :: us, kw⟩)) outer s H := ⟨by first | exact e.frames | (simpa [Around.under, Code.envs, Code.isFrame, pushEnvs] using e.frames), e.mod, e.bs, e.bsz, e.funs, e.frf, e.hok, e.bare⟩
theorem Env0.in1 {P : Program} {w : World} {K : PySem.W.Frag} {mg : Str → Option Value} {base : Heap} {A : Around} {outer : List Env} {s : Shared} {H : Hp} (e : Env0 P w K mg base A outer s H) :
    Env0 P w K mg base A.in1 outer s H := ⟨e.frames, e.mod, e.bs, e.bsz, e.funs, e.frf, e.hok, e.bare⟩
section
variable {X : Cx} {pins : List (Addr × Obj)} {σ : St} {H : Hp} {s s' : Shared}
theorem Inv.env0 (I : Inv X pins σ H s) : Env0 X.prog X.w X.K X.mg X.base X.A X.stack s H :=
  ⟨I.ok.frames, I.ok.mod, I.bs, Nat.le_trans I.ok.bsz I.sz, I.stack, I.stkFree, I.hok, I.bare⟩
theorem Inv.after {Q : VK} {u : Value} (I : Inv X pins σ H s) (h : CE X.stack X.prog X.w H s Q u s') : EP X pins σ Q u s' := by
  obtain ⟨v, H', os, bare, un, hok, r, q⟩ := h
  obtain ⟨hh, g, d, t, os'⟩ := s'
  obtain rfl : os' = s.os := os
  exact ⟨v, H', I.call (h' := hh) (g' := g) (d' := d) (t' := t) (ch := []) un hok bare (fun b z => absurd z (by simp)), r, q⟩
end
def Binds (K : PySem.W.Frag) (fd : FuncData) (ps : List Str) (ds : List Value) : Prop :=
  ∀ (s : Shared) (us : List Value), K.In s.heap → (us ++ ds).length = ps.length → BindsTo s fd ⟨us, []⟩ (ps.zip (us ++ ds))
theorem Binds.all {K : PySem.W.Frag} {fd : FuncData} {ps : List Str} (h : ∀ us : List Value, us.length = ps.length → bindArgs fd ⟨us, []⟩ = pure (ps.zip us)) : Binds K fd ps [] := fun s us _ hl => by
  rw [List.append_nil] at hl ⊢
  exact .of_eq (h us hl)
section
variable {X : Cx} {CX : CXT} {k : Nat} {f C : Addr} {fd : FuncData} {ps : List Str} {sp : Sp} {dvs : List V} {ds : List Value} {E : XK} {x m : Str} {p pos apos : Pos} {e o : Expr} {es : List Expr} {ta : TE} {t : TA}
structure Mk (K : PySem.W.Frag) (C f : Addr) : Prop where
  makes : PySem.W.makesIn K C = true
  init : PySem.W.findIn K (.ref C) "__init__" = some (some (.ref f))
  fn : PySem.W.isFn K (.ref f) = true
  kp : PySem.W.keepIn K (.ref C) = true
end
section
variable {X : Cx} {CX : CXT} {k : Nat} {f C : Addr} {fd : FuncData} {ps ks : List Str} {sp : Sp} {E : XK} {x m : Str} {p pos apos kpos : Pos} {e o : Expr} {es : List Expr} {kws : List Keyword} {te ta : TE} {t tk : TA} {nm : Option Str}
variable {g : List Value → List Value → List Value} {gV : List V → List V → List V}
end
structure FnScope (N P : List Str) (sc : Scope) : Prop where
  kind : sc.kind = .function
  co : sc.isCoroutine = false
  gen : sc.isGenerator = false
  nd : N.Nodup
  pre : N.take P.length = P
  par : ∀ x ∈ P, sc.names.lookup x = some .local ∨ sc.names.lookup x = some .cell
  nofree : ∀ y ∈ sc.names, y.2 ≠ .free
theorem bindL_out {kindOf : Str → Option NameKind} {x : Str} : ∀ {binds : List (Str × Value)} {m : Str → Option Value}, (∀ v, (x, v) ∉ binds) → bindL kindOf binds m x = m x
  | [], _, _ => rfl
  | (n, v) :: r, m, h => by
    unfold bindL
    rw [bindL_out fun w hw => h w (List.mem_cons_of_mem _ hw)]
    split
    · have : x ≠ n := by rintro rfl; exact h v List.mem_cons_self
      simp [this]
    · rfl
theorem bindC_out {kindOf : Str → Option NameKind} {x : Str} : ∀ {binds : List (Str × Value)} {m : Str → Option Value}, (∀ v, (x, v) ∉ binds) → bindC kindOf binds m x = m x
  | [], _, _ => rfl
  | (n, v) :: r, m, h => by
    unfold bindC
    rw [bindC_out fun w hw => h w (List.mem_cons_of_mem _ hw)]
    split
    · rfl
    · have : x ≠ n := by rintro rfl; exact h v List.mem_cons_self
      simp [this]
theorem bindL_get {kindOf : Str → Option NameKind} {x : Str} {v : Value} : ∀ {P : List Str} {vs : List Value} {i : Nat} {m : Str → Option Value}, P.Nodup → P[i]? = some x → vs[i]? = some v → kindOf x = some .local →
    bindL kindOf (P.zip vs) m x = some v
  | [], _, _, _, _, h, _, _ => by simp at h
  | _ :: _, [], _, _, _, _, h, _ => by simp at h
  | p :: P, w :: vs, 0, m, nd, h1, h2, hk => by
    simp at h1 h2; subst h1; subst h2
    show bindL kindOf ((p, w) :: P.zip vs) m p = _
    unfold bindL
    rw [bindL_out fun v hv => (List.nodup_cons.mp nd).1 (List.of_mem_zip hv).1, if_pos hk]
    simp
  | p :: P, w :: vs, i + 1, m, nd, h1, h2, hk => by
    show bindL kindOf ((p, w) :: P.zip vs) m x = _
    unfold bindL
    exact bindL_get (i := i) (List.nodup_cons.mp nd).2 (by simpa using h1) (by simpa using h2) hk
theorem bindC_get {kindOf : Str → Option NameKind} {x : Str} {v : Value} : ∀ {P : List Str} {vs : List Value} {i : Nat} {m : Str → Option Value}, P.Nodup → P[i]? = some x → vs[i]? = some v → kindOf x ≠ some .local →
    bindC kindOf (P.zip vs) m x = some v
  | [], _, _, _, _, h, _, _ => by simp at h
  | _ :: _, [], _, _, _, _, h, _ => by simp at h
  | p :: P, w :: vs, 0, m, nd, h1, h2, hk => by
    simp at h1 h2; subst h1; subst h2
    show bindC kindOf ((p, w) :: P.zip vs) m p = _
    unfold bindC
    rw [bindC_out fun v hv => (List.nodup_cons.mp nd).1 (List.of_mem_zip hv).1, if_neg hk]
    simp
  | p :: P, w :: vs, i + 1, m, nd, h1, h2, hk => by
    show bindC kindOf ((p, w) :: P.zip vs) m x = _
    unfold bindC
    exact bindC_get (i := i) (List.nodup_cons.mp nd).2 (by simpa using h1) (by simpa using h2) hk
def start (N : List Str) (vs : List V) : St := vs.map some ++ List.replicate (N.length - vs.length) none
def cxOf (CX : CXT) (P : Program) (w : World) (K : PySem.W.Frag) (mg : Str → Option Value) (base : Heap) (N : List Str) (qual : Str) (scope : Scope) (f : Addr) (cd : Value) (A : Around) (outer : List Env) (s : Shared) (H : Hp) (E : XK) : Cx where
  prog := P
  w := w
  K := K
  mg := mg
  base := base
  A := A.deeper (envOfC qual scope s.heap.objs.size f cd)
  N := N
  s₀ := s
  H₀ := H
  env := envOfC qual scope s.heap.objs.size f cd
  outer := outer
  stack := envOfC qual scope s.heap.objs.size f cd :: outer
  ex := []
  calm := true
  fn := fun _ => true
  pn := []
  xe := fun e s' => wpAny (model P w) (A.deeper (envOfC qual scope s.heap.objs.size f cd)) (leaving (envOfC qual scope s.heap.objs.size f cd) e) (fun _ s'' => CX outer H s E e s'') (fun e' s'' => CX outer H s E e' s'') s'
theorem cell_has {sc : Scope} {n : Nat} {x : Str} (h : sc.names.lookup x = some .cell) : ∃ c, (cellsFrom n sc.names []).lookup x = some c := by
  have q := PySem.W.cellsFrom_some sc.names n [] (.inl h)
  exact Option.isSome_iff_exists.mp q
theorem inv_start {CX : CXT} {P : Program} {w : World} {K : PySem.W.Frag} {mg : Str → Option Value} {base : Heap} {N ps : List Str} {qual : Str} {scope : Scope} {f : Addr} {cd : Value} {A : Around} {outer : List Env} {s s1 : Shared} {H : Hp} {E : XK} {us : List Value} {vs : List V}
    (S : FnScope N ps scope) (hd : A.handled = none) (e0 : Env0 P w K mg base A outer s H) (hl : vs.length = ps.length) (r : Vals vs us)
    (x : InCallC s s.heap.objs.size (bindL (envOfC qual scope s.heap.objs.size f cd).kindOf (ps.zip us) fun _ => none) (cellsFrom (s.heap.objs.size + 1) scope.names []) (bindC (envOfC qual scope s.heap.objs.size f cd).kindOf (ps.zip us) fun _ => none) s1) :
    Inv (cxOf CX P w K mg base N qual scope f cd A outer s H E) [] (start N vs) H s1 := by
  have hpl : ps.length ≤ N.length := by have := congrArg List.length S.pre; rw [List.length_take] at this; omega
  obtain ⟨h1, tk, rfl, hk⟩ := x.done
  have noA : ∀ b : Addr, b ∉ (cxOf CX P w K mg base N qual scope f cd A outer s H E).ex := fun b z => absurd (show b ∈ ([] : List Addr) from z) (by simp)
  refine ⟨⟨e0.mod, S.kind, rfl, rfl, Nat.le_refl _, fun y z c h1 h2 => ?_, fun y hy => ?_, fun y c _ h => ?_, fun _ => hd, Around.frames_deeper e0.frames, .inr ⟨rfl, rfl⟩, fun b z => absurd z (noA b), e0.bs, e0.bsz, fun b _ _ => noA b, fun b z => absurd z (noA b), e0.funs, e0.frf⟩,
    rfl, e0.bare, Un.kept hk, ⟨_, x.toInCall.ns, fun i y v h1 h2 h3 => ?_⟩, fun y c h => ⟨_, x.cell y c h⟩, e0.hok.fresh (Nat.le_refl _), fun y c h => ?_, fun p hp => absurd (show p ∈ ([] : List (Addr × Obj)) from hp) (by simp), e0.hok.kept hk, ?_⟩
  · exact name_of_addr x.apart (PySem.mem_of_lookup h1) (PySem.mem_of_lookup h2)
  · have hy : scope.names.lookup y = some .cell ∨ scope.names.lookup y = some .free := hy
    rcases hy with hy | hy
    · exact cell_has hy
    · exact absurd rfl (S.nofree _ (PySem.mem_of_lookup hy))
  · exact Nat.le_of_lt (x.above y c (PySem.mem_of_lookup h))
  · have hi : i < vs.length := by
      unfold start at h2
      by_cases hi : i < vs.length
      · exact hi
      · rw [List.getElem?_append_right (by simpa using hi)] at h2
        rw [List.getElem?_replicate] at h2
        split at h2 <;> cases h2
    have ha : vs[i]? = some v := by
      unfold start at h2
      rw [List.getElem?_append_left (by simpa using hi), List.getElem?_map] at h2
      cases e : vs[i]? with
      | none => rw [e] at h2; cases h2
      | some a => rw [e] at h2; cases h2; rfl
    obtain ⟨u, hu, rv⟩ := r.get ha
    have hp : ps[i]? = some y := by
      rw [← S.pre, List.getElem?_take_of_lt (by omega)]; exact h1
    have ndP : ps.Nodup := by rw [← S.pre]; exact S.nd.sublist (List.take_sublist _ _)
    refine ⟨u, rv, ?_⟩
    rcases S.par y (List.mem_of_getElem? hp) with k | k
    · exact .inl ⟨k, bindL_get ndP hp hu k⟩
    · obtain ⟨c, e⟩ := cell_has (n := s.heap.objs.size + 1) k
      refine .inr ⟨.inl k, c, e, ?_⟩
      have q := x.cell y c e
      rw [bindC_get ndP hp hu (by show scope.names.lookup y ≠ _; rw [k]; decide)] at q
      exact q
  · exact e0.hok.fresh (Nat.le_of_lt (x.above y c (PySem.mem_of_lookup h)))
  · unfold start
    show _ = N.length
    rw [List.length_append, List.length_map, List.length_replicate]
    omega
theorem fn_of {CX : CXT} {P : Program} {w : World} {K : PySem.W.Frag} {mg : Str → Option Value} {base : Heap} {k : Nat} {f : Addr} {name qual : Str} {params : Arguments} {body : List Stmt} {scope : Scope} {dV kV doc pm cdv ct oc : Value} {an od : Option Addr}
    {osl : Array (Option Value)} {N ps : List Str} {sp : Sp} (lk : K.lookup f = some ⟨oc, od, .func (PySem.W.fnOf name qual params body scope dV kV doc pm an cdv ct), osl⟩) (hcd : PySem.W.codeIn K cdv qual = true) (S : FnScope N ps scope)
    (len : ∀ vs H Q E, sp vs H Q E → vs.length = ps.length)
    (hbody : ∀ (A : Around) (outer : List Env) (s : Shared) (H : Hp) (vs : List V) (Q : VK) (E : XK), Room k (A.deeper (envOfC qual scope s.heap.objs.size f cdv)) → sp vs H Q E →
      ∃ t, PSs (cxOf CX P w K mg base N qual scope f cdv A outer s H E) body t ∧ t { nx := fun _ H' => Q .non H', rt := Q } (start N vs) H) :
    FnOk P w K mg base CX (k + 1) f (PySem.W.fnOf name qual params body scope dV kV doc pm an cdv ct) ps sp := by
  refine ⟨len, fun A outer s H args us vs Q E hr e0 hb r hsp => ?_⟩
  have hl := len _ _ _ _ hsp
  have KX : K.In s.heap := e0.mod.kin.keeps fun b o e => (e0.bs b o e).1
  have lim : s.heap.NoLimit := e0.mod.nolimit.keeps fun b o e => (e0.bs b o e).1
  have hkind : ∀ y ∈ ps.zip us, scope.names.lookup y.1 = some .local ∨ (scope.names.lookup y.1 = some .cell ∧ ((cellsFrom (s.heap.objs.size + 1) scope.names []).lookup y.1).isSome = true) := fun ⟨n, v⟩ hy => by
    rcases S.par n (List.of_mem_zip hy).1 with q | q
    · exact .inl q
    · exact .inr ⟨q, PySem.W.cellsFrom_some _ _ _ (.inl q)⟩
  refine codeAny_call_function hr.depth (KX _ _ lk) rfl S.co S.gen rfl (PySem.W.codeRec_of KX hcd) (hb _ _ _ _ ?_)
  refine wpAny_newFunctionEnv_cells S.kind hkind fun env he s1 x => ?_
  subst he
  refine ⟨lim.keeps x.toInCall.keep, codeAny_func ?_⟩
  obtain ⟨t, ht, hq⟩ := hbody A outer s H vs Q E (hr.deeper _) hsp
  have I : Inv (cxOf CX P w K mg base N qual scope f cdv A outer s H E) [] (start N vs) H s1 := inv_start S hr.hd e0 hl r x
  refine wpAny_mono (ht [] s1 (start N vs) H _ I hq) (fun fl s' hs => ?_) fun e s' hs => hs
  have fin : ∀ {σ' : St} {H' : Hp} {v : V} {u : Value}, Inv (cxOf CX P w K mg base N qual scope f cdv A outer s H E) [] σ' H' s' → RelV v u → Q v H' → CE outer P w H s Q u s' :=
    fun {σ' H' v u} J rv q => ⟨v, H', J.os, J.bare, J.base, J.hok, rv, q⟩
  cases fl with
  | ret u =>
    obtain ⟨v, σ', H', J, rv, q⟩ := hs
    exact fin J rv q
  | next =>
    obtain ⟨σ', H', J, q⟩ := hs
    exact fin (v := V.non) (u := Value.none) J rfl q
  | brk =>
    obtain ⟨_, _, _, q⟩ := hs
    exact False.elim q
  | cont =>
    obtain ⟨_, _, _, q⟩ := hs
    exact False.elim q
end L2
namespace L2
open PySem PySem.Spec PyProof.Rows
section
variable {X : Cx} {x : Str} {p pos : Pos} {e : Expr} {es : List Expr} {t : TA} {id T : String} {r : List V → Hp → VK → Prop}
def tCB (r : List V → Hp → VK → Prop) (t : TA) : TE := fun σ H Q => t σ H fun vs H1 => r vs H1 Q
theorem pe_callB (hc : CallR X (.builtin id) r) (hg : Gl X x) (hm : X.mg x = none) (hv : bootBuiltins x = some (.builtin id)) (ha : PA X (e :: es) t) (hn : x ≠ "__name__" := by decide) (hdb : (x == ("__debug__" : Str)) = false := by decide)
    (he : starEach (e :: es) X.env = (false, eval e X.env) :: starEach es X.env := by rfl) (hpl : (backTo pos (starEach es X.env)).any (·.1) = false := by rfl) : PE X (.Call (.Name x p) (e :: es) [] pos) (tCB r t) := by
  intro pins s σ H Q I h
  refine wpAny_Call_Name_kw (ld_blt I hg hm hv ?_ hn hdb)
  exact PyProof.Rows.callWith_builtin1 (thn (ha pos pins s σ H _ I h) fun us s1 ⟨vs, H1, I1, r1, q1⟩ => hc pins s1 σ H1 vs us Q I1 r1 q1) he hpl
theorem pe_callTy (hc : CallR X (.type T) r) (hg : Gl X x) (hm : X.mg x = none) (hv : bootBuiltins x = some (.type T)) (ha : PA X (e :: es) t) (hn : x ≠ "__name__" := by decide) (hdb : (x == ("__debug__" : Str)) = false := by decide)
    (he : starEach (e :: es) X.env = (false, eval e X.env) :: starEach es X.env := by rfl) (hpl : (backTo pos (starEach es X.env)).any (·.1) = false := by rfl) : PE X (.Call (.Name x p) (e :: es) [] pos) (tCB r t) := by
  intro pins s σ H Q I h
  refine wpAny_Call_Name_kw (ld_blt I hg hm hv ?_ hn hdb)
  exact PyProof.Rows.callWith_type1 (thn (ha pos pins s σ H _ I h) fun us s1 ⟨vs, H1, I1, r1, q1⟩ => hc pins s1 σ H1 vs us Q I1 r1 q1) he hpl
end
end L2
namespace HT
open PySem PyProof.Rows
def lexLt : List Int → List Int → Bool
  | [], [] => false
  | [], _ :: _ => true
  | _ :: _, [] => false
  | x :: xs, y :: ys => if x = y then lexLt xs ys else decide (x < y)
section
open PySem.SeqAt
open PySem.AutoSeq1 (wpAny_loadPart')
open PySem.MeetsSeq PySem.MeetsSeq2 PySem.MeetsSeq3
end
section
variable {prog : Program} {w : World} {A : Around} {E : Value → Shared → Prop} {s : Shared}
end
end HT
namespace L2
open PySem PySem.Spec PyProof.Rows
abbrev TO := St → Hp → (Option Int → Hp → Prop) → Prop
def PO (X : Cx) (e : Option Expr) (t : TO) : Prop :=
  ∀ (pins : List (Addr × Obj)) (s : Shared) (σ : St) (H : Hp) (Q : Option Int → Hp → Prop), Inv X pins σ H s → t σ H Q →
    wpAny (model X.prog X.w) X.A (evalPart e X.env) (fun u s' => ∃ o H', Inv X pins σ H' s' ∧ IsPart u o ∧ Q o H') X.xe s
def tPart (t : TE) : TO := fun σ H Q => t σ H fun x H1 => ∃ i, x = .int i ∧ Q (some i) H1
section
variable {X : Cx} {e : Expr} {te : TE} {lo hi : Option Expr} {tl th : TO} {pos p2 : Pos}
theorem po_some (h : PE X e te) : PO X (some e) (tPart te) := by
  intro pins s σ H Q I hw
  rw [evalPart_some]
  refine thn (h pins s σ H _ I hw) fun u s1 ⟨x, H1, I1, r1, q1⟩ => ?_
  obtain ⟨i, rfl, q⟩ := q1
  obtain ⟨t, rfl⟩ := r1
  exact ⟨some i, H1, I1, .int i t, q⟩
end
end L2
namespace L2
open PySem PySem.Spec PyProof.Rows
def ixN (n : Nat) (i : Int) : Option Nat := if 0 ≤ i then (if i < n then some i.toNat else none) else if -(n : Int) ≤ i then some (i + n).toNat else none
def atI {α : Type} (xs : List α) (i : Int) : Option α := (ixN xs.length i).bind fun j => xs[j]?
theorem ixN_seq {n : Nat} {i : Int} {j : Nat} (h : ixN n i = some j) : seqIndex? i n = some j ∧ j < n ∧ -(n : Int) ≤ i ∧ i < n := by
  unfold ixN at h
  by_cases h0 : 0 ≤ i
  · rw [if_pos h0] at h
    by_cases h1 : i < n
    · rw [if_pos h1] at h
      have e : i.toNat = j := Option.some.inj h
      exact ⟨by rw [seqIndex_of h0 h1, e], by omega, by omega, h1⟩
    · rw [if_neg h1] at h; cases h
  · rw [if_neg h0] at h
    by_cases h1 : -(n : Int) ≤ i
    · rw [if_pos h1] at h
      have e : (i + n).toNat = j := Option.some.inj h
      exact ⟨by rw [seqIndex_neg (by omega) h1, e], by omega, h1, by omega⟩
    · rw [if_neg h1] at h; cases h
theorem atI_get {α : Type} {xs : List α} {i : Int} {v : α} (h : atI xs i = some v) : ∃ j, seqIndex? i xs.length = some j ∧ xs[j]? = some v ∧ j < xs.length ∧ -(xs.length : Int) ≤ i ∧ i < xs.length := by
  unfold atI at h
  cases e : ixN xs.length i with
  | none => rw [e] at h; cases h
  | some j =>
    rw [e] at h
    obtain ⟨h1, h2, h3, h4⟩ := ixN_seq e
    exact ⟨j, h1, h, h2, h3, h4⟩
theorem atI_nat {α : Type} {xs : List α} {j : Nat} {v : α} (h : xs[j]? = some v) : atI xs (j : Int) = some v := by
  have hj : j < xs.length := (List.getElem?_eq_some_iff.mp h).1
  have e : ixN xs.length (j : Int) = some j := by
    unfold ixN
    rw [if_pos (by omega), if_pos (by omega)]; simp
  unfold atI; rw [e]; exact h
def PlainIx (b : Expr) : Prop := ∀ o i, subscripted b false o i = operate [o, i] (getItem o i)
def IxR (X : Cx) (r : R2) : Prop :=
  ∀ (value slice : Expr) (pins : List (Addr × Obj)) (s : Shared) (σ : St) (H : Hp) (x y : V) (v u : Value) (Q : VK), Inv X pins σ H s → RelV x v → RelV y u → r x y H Q →
    subscripted slice false v u = operate [v, u] (getItem v u) → wpAny (model X.prog X.w) X.A (subscriptTail value slice v u) (EP X pins σ Q) X.xe s
def MtR (X : Cx) (id : String) (r : V → List V → Hp → VK → Prop) : Prop :=
  ∀ (pins : List (Addr × Obj)) (s : Shared) (σ : St) (H : Hp) (x : V) (xs : List V) (v : Value) (us : List Value) (Q : VK), Inv X pins σ H s → RelV x v → Vals xs us → r x xs H Q →
    wpAny (model X.prog X.w) X.A (call (.builtin id) (v :: us)) (EP X pins σ Q) X.xe s
section
variable {X : Cx} {a b : Expr} {ta tb : TE} {pos : Pos}
theorem pe_ix {r : R2} (hr : IxR X r) (ha : PE X a ta) (hb : PE X b tb) (hs : PlainIx b) : PE X (.Subscript a b pos) (tOp r ta tb) := by
  intro pins s σ H Q I h
  exact Subscript_ (binT ha hb I h fun v u s2 x y H2 I2 rx ry q => hr a b pins s2 σ H2 x y v u Q I2 rx ry q (hs _ _))
def rIxL (K : PySem.W.Frag) : R2 := fun x y H Q => ∃ p xs i v, x = .ref p ∧ y = .int i ∧ SqL K H p xs ∧ atI xs i = some v ∧ Q v H
def rIxT (K : PySem.W.Frag) : R2 := fun x y H Q => ∃ p xs i v, x = .ref p ∧ y = .int i ∧ SqT K H p xs ∧ atI xs i = some v ∧ Q v H
theorem ix_list : IxR X (rIxL X.K) := by
  intro value slice pins s σ H x y v u Q I rx ry h hs
  obtain ⟨p, xs, i, z, rfl, rfl, hq, he, q⟩ := h
  cases rx
  obtain ⟨t, rfl⟩ := ry
  obtain ⟨its, r, pl, hz⟩ := I.list hq
  obtain ⟨j, h1, h2, h3, h4, h5⟩ := atI_get he
  obtain ⟨w, ew, rw'⟩ := r.get h2
  have hl := r.length
  have hn := line63
  have fin : EP X pins σ Q w s := ⟨z, H, I, rw', q⟩
  by_cases h0 : 0 ≤ i
  · have hj : i.toNat = j := by
      rw [seqIndex_of h0 h5] at h1
      exact Option.some.inj h1
    exact item_listR pl.isList h0 (by omega) (by rw [hj]; simpa using ew) fin hs
  · have hj : (i + (its.toArray.size : Int)).toNat = j := by
      rw [seqIndex_neg (by omega) h4] at h1
      rw [List.size_toArray, ← hl]
      exact Option.some.inj h1
    exact subscriptTail_builtinR (x := w) pl.isList.typeIs slot_list_getitem.lookup
      (wpAny_getItem_list_neg (Q := fun r s' => r = w ∧ EP X pins σ Q r s') pl.isList (by omega) (by rw [List.size_toArray] <;> omega) (by omega) (by rw [hj]; simpa using ew) ⟨rfl, fin⟩) hs
theorem ix_tup : IxR X (rIxT X.K) := by
  intro value slice pins s σ H x y v u Q I rx ry h hs
  obtain ⟨p, xs, i, z, rfl, rfl, hq, he, q⟩ := h
  cases rx
  obtain ⟨t, rfl⟩ := ry
  obtain ⟨its, r, pl, hz⟩ := I.tuple hq
  obtain ⟨j, h1, h2, h3, h4, h5⟩ := atI_get he
  obtain ⟨w, ew, rw'⟩ := r.get h2
  have hl := r.length
  have hn := line63
  have fin : EP X pins σ Q w s := ⟨z, H, I, rw', q⟩
  exact subscriptTail_builtinR (x := w) pl.typeIs slot_tuple_getitem.lookup
    (getItem_tuple (j := j) (Q := fun r s' => r = w ∧ EP X pins σ Q r s') pl (by omega) (by omega) (by rw [List.size_toArray, ← hl]; exact h1) (by simpa using ew) ⟨rfl, fin⟩) hs
theorem Inv.lst {pins : List (Addr × Obj)} {σ : St} {H : Hp} {s : Shared} {p : Addr} {xs : List V} (I : Inv X pins σ H s) (h : H p = some (.lst xs)) :
    ∃ (its : List Value) (n : Nat), Vals xs its ∧ s.heap.get? p = some { cls := .type "list", data := .seq its.toArray n } ∧ xs.length ≤ sizeLine := by
  obtain ⟨z, its, n, r, e⟩ := I.hok p _ h
  exact ⟨its, n, r, e, z⟩
def flatV : V → Bool
  | .non => true
  | .bl _ => true
  | .int _ => true
  | .str _ => true
  | _ => false
def eqV : V → V → Bool
  | .non, .non => true
  | .bl a, .bl b => a == b
  | .bl a, .int b => (if a then 1 else 0) == b
  | .int a, .bl b => a == (if b then 1 else 0)
  | .int a, .int b => a == b
  | .str a, .str b => a == b
  | _, _ => false
theorem eqAt_V {A : Around} {s : Shared} {y x : V} {u v : Value} (ry : RelV y u) (rx : RelV x v) (fy : flatV y = true) (fx : flatV x = true) : SeqAt.EqAt A s u v (eqV y x) := by
  cases y with
  | non =>
    cases ry
    cases x with
    | non => cases rx; exact SeqAt.EqAt.same _
    | bl b => cases rx; exact SeqAt.EqAt.none_bool b
    | int b => obtain ⟨t, rfl⟩ := rx; exact SeqAt.EqAt.none_int b t
    | str b => obtain ⟨t, rfl⟩ := rx; exact SeqAt.EqAt.none_str b t
    | _ => exact absurd (show false = true from fx) Bool.false_ne_true
  | bl a =>
    cases ry
    cases x with
    | non => cases rx; exact SeqAt.EqAt.bool_none a
    | bl b => cases rx; exact SeqAt.EqAt.bool_bool a b
    | int b => obtain ⟨t, rfl⟩ := rx; exact SeqAt.EqAt.bool_int a b t
    | str b => obtain ⟨t, rfl⟩ := rx; exact SeqAt.EqAt.bool_str a b t
    | _ => exact absurd (show false = true from fx) Bool.false_ne_true
  | int a =>
    obtain ⟨t', rfl⟩ := ry
    cases x with
    | non => cases rx; exact SeqAt.EqAt.int_none a t'
    | bl b => cases rx; exact SeqAt.EqAt.int_bool a t' b
    | int b => obtain ⟨t, rfl⟩ := rx; exact SeqAt.EqAt.int_int a t' b t
    | str b => obtain ⟨t, rfl⟩ := rx; exact SeqAt.EqAt.int_str a t' b t
    | _ => exact absurd (show false = true from fx) Bool.false_ne_true
  | str a =>
    obtain ⟨t', rfl⟩ := ry
    cases x with
    | non => cases rx; exact SeqAt.EqAt.str_none a t'
    | bl b => cases rx; exact SeqAt.EqAt.str_bool a t' b
    | int b => obtain ⟨t, rfl⟩ := rx; exact SeqAt.EqAt.str_int a t' b t
    | str b => obtain ⟨t, rfl⟩ := rx; exact SeqAt.EqAt.str_str a t' b t
    | _ => exact absurd (show false = true from fx) Bool.false_ne_true
  | _ => exact absurd (show false = true from fy) Bool.false_ne_true
def eqU (x : V) (u : Value) : Bool := match u with
  | .none => eqV .non x
  | .bool b => eqV (.bl b) x
  | .int i _ => eqV (.int i) x
  | .str z _ => eqV (.str z) x
  | _ => false
theorem eqU_of {x y : V} {u : Value} (r : RelV y u) (f : flatV y = true) : eqU x u = eqV y x := by
  cases y with
  | non => cases r; rfl
  | bl b => cases r; rfl
  | int i => obtain ⟨t, rfl⟩ := r; rfl
  | str z => obtain ⟨t, rfl⟩ := r; rfl
  | _ => exact absurd (show false = true from f) Bool.false_ne_true
theorem any_eqU {x : V} : ∀ {xs : List V} {us : List Value}, Vals xs us → xs.all flatV = true → us.any (eqU x) = xs.any fun y => eqV y x
  | _, _, .nil, _ => rfl
  | y :: xs, u :: us, .cons r t, f => by
    rw [List.all_cons, Bool.and_eq_true] at f
    rw [List.any_cons, List.any_cons, eqU_of r f.1, any_eqU t f.2]
theorem mem_eqAt {A : Around} {s : Shared} {x : V} {v : Value} (rx : RelV x v) (fx : flatV x = true) : ∀ {xs : List V} {us : List Value}, Vals xs us → xs.all flatV = true → ∀ u ∈ us, SeqAt.EqAt A s u v (eqU x u)
  | _, _, .nil, _ => fun u hu => by cases hu
  | y :: xs, u :: us, .cons r t, f => fun u' hu => by
    rw [List.all_cons, Bool.and_eq_true] at f
    rcases List.mem_cons.mp hu with rfl | hu
    · rw [eqU_of r f.1]; exact eqAt_V r rx f.1 fx
    · exact mem_eqAt rx fx t f.2 u' hu
def inV (x : V) (xs : List V) : Bool := xs.any fun y => eqV y x
def rIn (K : PySem.W.Frag) (neg : Bool) : R2 := fun x y H Q => ∃ p xs, y = .ref p ∧ (SqL K H p xs ∨ SqT K H p xs) ∧ flatV x = true ∧ xs.all flatV = true ∧ Q (.bl (if neg then !inV x xs else inV x xs)) H
theorem op_in_seq : OpR X (compareOp .In) (rIn X.K false) := by
  intro pins s σ H x y v u Q I rx ry h
  obtain ⟨p, xs, rfl, hq, fx, fs, q⟩ := h
  cases ry
  rcases hq with hq | hq
  · obtain ⟨its, r, pl, hz⟩ := I.list hq
    refine SeqAt.in_listAt (eqU x) pl.isList (fun w hw => mem_eqAt rx fx r fs w (by simpa using hw)) ⟨.bl _, H, I, rfl, ?_⟩
    rw [show its.toArray.any (eqU x) = its.any (eqU x) by simp, any_eqU r fs]
    exact q
  · obtain ⟨its, r, pl, hz⟩ := I.tuple hq
    refine SeqAt.in_tupleAt (eqU x) pl (fun w hw => mem_eqAt rx fx r fs w (by simpa using hw)) ⟨.bl _, H, I, rfl, ?_⟩
    rw [show its.toArray.any (eqU x) = its.any (eqU x) by simp, any_eqU r fs]
    exact q
theorem op_notIn_seq : OpR X (compareOp .NotIn) (rIn X.K true) := by
  intro pins s σ H x y v u Q I rx ry h
  obtain ⟨p, xs, rfl, hq, fx, fs, q⟩ := h
  cases ry
  rcases hq with hq | hq
  · obtain ⟨its, r, pl, hz⟩ := I.list hq
    refine SeqAt.notIn_listAt (eqU x) pl.isList (fun w hw => mem_eqAt rx fx r fs w (by simpa using hw)) ⟨.bl _, H, I, rfl, ?_⟩
    rw [show its.toArray.any (eqU x) = its.any (eqU x) by simp, any_eqU r fs]
    exact q
  · obtain ⟨its, r, pl, hz⟩ := I.tuple hq
    refine SeqAt.notIn_tupleAt (eqU x) pl (fun w hw => mem_eqAt rx fx r fs w (by simpa using hw)) ⟨.bl _, H, I, rfl, ?_⟩
    rw [show its.toArray.any (eqU x) = its.any (eqU x) by simp, any_eqU r fs]
    exact q
theorem call_len_seq : CallR X (.builtin "len") (fun xs H Q => ∃ p ys, xs = [.ref p] ∧ (SqL X.K H p ys ∨ SqT X.K H p ys) ∧ Q (.int ys.length) H) := by
  intro pins s σ H xs us Q I r h
  obtain ⟨p, ys, rfl, hq, q⟩ := h
  obtain ⟨u, rfl, rx⟩ := vals1 r
  cases rx
  have hn := line63
  rcases hq with hq | hq
  · obtain ⟨its, r', pl, hz⟩ := I.list hq
    have hlen := r'.length
    exact Calls.call_len_list pl.isList (by simp only [List.size_toArray] <;> omega) ⟨.int ys.length, H, I.tok _, ⟨s.toks + 1, by rw [List.size_toArray, hlen]⟩, q⟩
  · obtain ⟨its, r', pl, hz⟩ := I.tuple hq
    have hlen := r'.length
    exact len_tuple pl (by simp only [List.size_toArray] <;> omega) ⟨.int ys.length, H, I.tok _, ⟨s.toks + 1, by rw [List.size_toArray, hlen]⟩, q⟩
theorem call_list_of : CallR X (.type "list") (fun xs H Q => ∃ p ys, xs = [.ref p] ∧ (SqL X.K H p ys ∨ SqT X.K H p ys) ∧ ∀ l, H l = none → Q (.ref l) (upd H l (.lst ys))) := by
  intro pins s σ H xs us Q I r h
  obtain ⟨p, ys, rfl, hq, q⟩ := h
  obtain ⟨u, rfl, rx⟩ := vals1 r
  cases rx
  have fin : ∀ (its : List Value), Vals ys its → ys.length ≤ sizeLine → ∀ (h' : Heap) (c' : Nat), (∀ b o', s.heap.get? b = some o' → h'.get? b = some o') →
      h'.get? s.heap.objs.size = some { cls := .type "list", dict := none, data := .seq its.toArray c', slots := #[] } → EP X pins σ Q (.ref s.heap.objs.size) { s with heap := h' } := fun its r' hz h' c' kp e =>
    ⟨.ref s.heap.objs.size, _, I.laid (t' := s.toks) kp (Nat.le_refl _) (show ObjOk X.prog X.w _ h' _ (.lst ys) from ⟨hz, its, c', r', e⟩), rfl, q _ (I.hok.fresh (Nat.le_refl _))⟩
  rcases hq with hq | hq
  · obtain ⟨its, r', pl, hz⟩ := I.list hq
    have hlen := r'.length
    obtain ⟨o, ho, hc, n, hd⟩ := pl.isList
    exact call_list_seq p (.inl rfl) ho hc hd (fun h' c' kp e => fin its r' hz h' c' kp e) (by simp only [List.size_toArray] <;> omega)
  · obtain ⟨its, r', pl, hz⟩ := I.tuple hq
    have hlen := r'.length
    obtain ⟨o, ho, hc, n, hd⟩ := pl
    exact call_list_seq p (.inr rfl) ho hc hd (fun h' c' kp e => fin its r' hz h' c' kp e) (by simp only [List.size_toArray] <;> omega)
theorem call_tuple_of : CallR X (.type "tuple") (fun xs H Q => ∃ p ys, xs = [.ref p] ∧ ((SqL X.K H p ys ∧ ∀ l, H l = none → Q (.ref l) (upd H l (.tup ys))) ∨ (SqT X.K H p ys ∧ Q (.ref p) H))) := by
  intro pins s σ H xs us Q I r h
  obtain ⟨p, ys, rfl, h⟩ := h
  obtain ⟨u, rfl, rx⟩ := vals1 r
  cases rx
  rcases h with ⟨hq, q⟩ | ⟨hq, q⟩
  · obtain ⟨its, r', pl, hz⟩ := I.list hq
    have hlen := r'.length
    refine call_tuple_list pl.isList (fun h' kp => ?_) (by simp only [List.size_toArray] <;> omega)
    have I1 : Inv X pins σ H { s with heap := h' } := I.kept (t' := s.toks) kp
    have I2 : Inv X pins σ (upd H h'.objs.size (.tup ys)) { s with heap := h'.push { cls := .type "tuple", data := .seq its.toArray } } :=
      I1.laid (t' := s.toks) (fun b o e => Heap.get?_push_of_some _ e) (Nat.le_refl _) (show ObjOk X.prog X.w _ _ _ (.tup ys) from ⟨hz, its, r', IsTup.new _ _⟩)
    exact ⟨.ref h'.objs.size, _, I2, rfl, q _ (I1.hok.fresh (Nat.le_refl _))⟩
  · obtain ⟨its, r', pl, hz⟩ := I.tuple hq
    exact call_tuple_same pl ⟨.ref p, H, I, rfl, q⟩
def tyV (K : PySem.W.Frag) (T : String) (x : V) (H : Hp) : Prop := match x with
  | .str _ => T = "str"
  | .int _ => T = "int"
  | .ref p => (T = "list" ∧ ∃ xs, SqL K H p xs) ∨ (T = "tuple" ∧ ∃ o, K.lookup p = some o ∧ o.cls = .type "tuple" ∧ o.dict = none) ∨
      (T = "dict" ∧ ((∃ kvs, H p = some (.dK kvs)) ∨ ∃ kvs, H p = some (.dT kvs))) ∨ (T = "set" ∧ ∃ S n, H p = some (.set S n))
  | _ => False
theorem tyV_is {pins : List (Addr × Obj)} {σ : St} {H : Hp} {s : Shared} {T : String} {x : V} {v : Value} (I : Inv X pins σ H s) (r : RelV x v) (ty : tyV X.K T x H) :
    s.TypeIs v T ∧ ∀ a, v = .ref a → ∃ ob, s.heap.get? a = some ob ∧ ob.dict = none := by
  cases x with
  | str z =>
    obtain ⟨t, rfl⟩ := r
    cases (show T = "str" from ty)
    exact ⟨typeIs_str s z t, fun _ e => nomatch e⟩
  | int i =>
    obtain ⟨t, rfl⟩ := r
    cases (show T = "int" from ty)
    exact ⟨typeIs_int s i t, fun _ e => nomatch e⟩
  | ref p =>
    cases r
    rcases ty with ⟨rfl, xs, hq⟩ | ⟨rfl, o, hk, hc, hd⟩ | ⟨rfl, hk⟩ | ⟨rfl, S, n, hk⟩
    · obtain ⟨its, _, pl, _⟩ := I.list hq
      refine ⟨pl.isList.typeIs, fun a e => ?_⟩
      cases e
      obtain ⟨o, n, e, c, hd, _⟩ := pl
      exact ⟨o, e, hd⟩
    · refine ⟨⟨o, I.kIn p o hk, hc⟩, fun a e => ?_⟩
      cases e
      exact ⟨o, I.kIn _ o hk, hd⟩
    · have z : ∃ o, s.heap.get? p = some o ∧ o.ExactDict := by
        rcases hk with ⟨kvs, hk⟩ | ⟨kvs, hk⟩
        · obtain ⟨_, _, _, _, o, _, _, e, ex, _⟩ := I.hok p _ hk
          exact ⟨o, e, ex⟩
        · obtain ⟨_, _, _, _, o, _, _, e, ex, _⟩ := I.hok p _ hk
          exact ⟨o, e, ex⟩
      obtain ⟨o, e, ex⟩ := z
      refine ⟨⟨o, e, ex.1⟩, fun a e2 => ?_⟩
      cases e2
      exact ⟨o, e, ex.2.1⟩
    · obtain ⟨o, _, _, _, e, ex, _⟩ := I.hok p _ hk
      refine ⟨⟨o, e, ex.1⟩, fun a e2 => ?_⟩
      cases e2
      exact ⟨o, e, ex.2.1⟩
  | _ => exact False.elim ty
def tBM (K : PySem.W.Frag) (T : String) (r : V → List V → Hp → VK → Prop) (to : TE) (t : TA) : TE := fun σ H Q => to σ H fun x H1 => tyV K T x H1 ∧ t σ H1 fun xs H2 => r x xs H2 Q
variable {o e : Expr} {es : List Expr} {to : TE} {t : TA} {name : Str} {apos cpos : Pos} {T id : String} {r : V → List V → Hp → VK → Prop}
theorem pe_bm (pa : PlainAttrs T) (slot : Slot T name id) (hty : typeOf (.builtin id) = pure (.type "method_descriptor")) (hm : MtR X id r) (ho : PE X o to) (ha : PA X (e :: es) t)
    (hbase : attributeBase o name X.env (eval o X.env) = eval o X.env := by rfl)
    (hfew : ((backTo cpos (starEach (e :: es) X.env)).all (fun x => !x.1) && (backToKw cpos (keywordEach [] X.env)).all (fun x => x.1.isSome)
      && decide ((e :: es).length + ([] : List Keyword).length + (if ([] : List Keyword).isEmpty then 0 else 1) < 30)) = true := by rfl)
    (hline : (apos.endLine == cpos.line) = true := by rfl) (hs : starEach (e :: es) X.env = (false, eval e X.env) :: starEach es X.env := by rfl) (hplain : (backTo cpos (starEach es X.env)).any (·.1) = false := by rfl) :
    PE X (.Call (.Attribute o name apos) (e :: es) [] cpos) (tBM X.K T r to t) := by
  intro pins s σ H Q I h
  refine wpAny_Call_method_late hbase hfew hline rfl (thn (ho pins s σ H _ I h) fun v s1 ⟨x, H1, I1, r1, ty, q1⟩ => ?_)
  obtain ⟨h1, h2⟩ := tyV_is I1 r1 ty
  refine ⟨T, id, pa, slot, hty, h1, h2, ?_⟩
  have hA := ha cpos pins s1 σ H1 _ I1 q1
  rw [hs] at hA ⊢
  refine Calls.callWith_builtin (by show (false || (backTo cpos (starEach es X.env)).any (·.1)) = false; rw [hplain] <;> rfl) (Calls.evalArgs_plain ?_)
  exact thn hA fun us s2 ⟨vs, H2, I2, r2, q2⟩ => hm pins s2 σ H2 x vs v us Q I2 r1 r2 q2
end
end L2
namespace L2
open PySem PySem.Spec PyProof.Rows
def MtM (X : Cx) (id : String) (r : V → List V → Hp → VK → Prop) : Prop :=
  ∀ (pins : List (Addr × Obj)) (s : Shared) (σ : St) (H : Hp) (x : V) (xs : List V) (v : Value) (us : List Value) (Q : VK), Inv X pins σ H s → RelV x v → Vals xs us → r x xs H Q →
    wpAny (model X.prog X.w) X.A (call (.builtin id) (v :: us)) (EP X pins σ Q) X.xe s
theorem Vals.one : ∀ {x : V} {us : List Value}, Vals [x] us → ∃ u, us = [u] ∧ RelV x u
  | _, _, .cons r .nil => ⟨_, rfl, r⟩
theorem Vals.two : ∀ {x y : V} {us : List Value}, Vals [x, y] us → ∃ u v, us = [u, v] ∧ RelV x u ∧ RelV y v
  | _, _, _, .cons r (.cons q .nil) => ⟨_, _, rfl, r, q⟩
theorem Vals.zero : ∀ {us : List Value}, Vals [] us → us = []
  | _, .nil => rfl
theorem Vals.reverse {xs : List V} {us : List Value} (h : Vals xs us) : Vals xs.reverse us.reverse := by
  induction h with
  | nil => exact .nil
  | cons r t ih => rw [List.reverse_cons, List.reverse_cons]; exact Vals.append ih (.cons r .nil)
section
variable {X : Cx} {pins : List (Addr × Obj)} {σ : St} {H : Hp} {s : Shared} {l b : Addr} {xs ys zs : List V}
theorem Inv.lset {its its' : List Value} {n : Nat} {f : Array Value → Array Value} {t' : Nat} (I : Inv X pins σ H s) (hH : H l = some (.lst xs))
    (e : s.heap.get? l = some { cls := .type "list", data := .seq its.toArray n }) (hf : f its.toArray = its'.toArray) (hv : Vals ys its') (hz : ys.length ≤ sizeLine) :
    Inv X pins σ (upd H l (.lst ys)) { s with heap := s.heap.update l (Obj.mapSeq f), toks := t' } := by
  have q := PySem.IsL.update e f
  rw [hf] at q
  refine I.write (x := l) (e := l) (by rw [hH]; exact trivial) (.inl rfl) (fun b' u hb hu => (Heap.get?_update_other s.heap (Obj.mapSeq f) (Ne.symm hb)).trans hu) ⟨_, q⟩ ?_
  exact ⟨hz, its', _, hv, q⟩
theorem Inv.lnew {its : List Value} {t' : Nat} (I : Inv X pins σ H s) (hv : Vals ys its) (hz : ys.length ≤ sizeLine) :
    Inv X pins σ (upd H s.heap.objs.size (.lst ys)) { s with heap := s.heap.push { cls := .type "list", data := .seq its.toArray }, toks := t' } :=
  I.laid (fun _ _ q => Heap.get?_push_of_some _ q) (Nat.le_refl _) ⟨hz, its, 0, hv, Heap.get?_push_size _ rfl⟩
theorem Inv.fresh (I : Inv X pins σ H s) : H s.heap.objs.size = none := I.hok.fresh (Nat.le_refl _)
theorem Inv.lstM (I : Inv X pins σ H s) (hH : H l = some (.lst xs)) : xs.length ≤ sizeLine ∧ ∃ (its : List Value) (n : Nat), Vals xs its ∧ xs.length = its.length ∧ s.heap.get? l = some { cls := .type "list", data := .seq its.toArray n } := by
  obtain ⟨z, its, n, r, e⟩ := I.hok l _ hH
  exact ⟨z, its, n, r, r.length, e⟩
theorem notLongL {n : Nat} (h : n ≤ sizeLine) : Builtin.List.listTooLong n = false := by
  unfold Builtin.List.listTooLong
  exact decide_eq_false (by omega)
end
section
variable {X : Cx}
def rAppend : V → List V → Hp → VK → Prop := fun x vs H Q => ∃ l xs y, x = .ref l ∧ vs = [y] ∧ H l = some (.lst xs) ∧ xs.length < sizeLine ∧ Q .non (upd H l (.lst (xs ++ [y])))
theorem mt_append : MtM X "list.append" rAppend := by
  intro pins s σ H x vs v us Q I rx rv h
  obtain ⟨l, xs, y, rfl, rfl, hH, hz, q⟩ := h
  cases rx
  obtain ⟨u, rfl, ru⟩ := rv.one
  obtain ⟨z, its, n, r, hl, e⟩ := I.lstM hH
  refine call_meets F.slot_list_append ⟨_, e, rfl⟩ F.entry_list_append (F.args_list_append_2 _ _) (PySem.list_append l its.toArray n u (by rw [List.size_toArray]; omega)) ⟨e, ?_⟩
  refine ⟨.non, _, I.lset (its' := its ++ [u]) hH e (by simp) (r.append (.cons ru .nil)) ?_, rfl, q⟩
  rw [List.length_append, List.length_singleton]
  omega
def rExtend : V → List V → Hp → VK → Prop := fun x vs H Q => ∃ l b xs zs, x = .ref l ∧ vs = [.ref b] ∧ H l = some (.lst xs) ∧ H b = some (.lst zs) ∧ xs.length + zs.length ≤ sizeLine ∧ Q .non (upd H l (.lst (xs ++ zs)))
theorem mt_extend : MtM X "list.extend" rExtend := by
  intro pins s σ H x vs v us Q I rx rv h
  obtain ⟨l, b, xs, zs, rfl, rfl, hH, hB, hz, q⟩ := h
  cases rx
  obtain ⟨u, rfl, ru⟩ := rv.one
  cases ru
  obtain ⟨z, its, n, r, hl, e⟩ := I.lstM hH
  obtain ⟨z2, its2, n2, r2, hl2, e2⟩ := I.lstM hB
  have hsz : its.toArray.size + its2.toArray.size ≤ sizeLine := by rw [List.size_toArray, List.size_toArray]; omega
  have hlong : ¬ (!its.toArray.isEmpty && Builtin.List.listTooLong (its.toArray.size + its2.toArray.size)) = true := by
    rw [notLongL hsz, Bool.and_false]
    exact Bool.false_ne_true
  refine call_meets F.slot_list_extend ⟨_, e, rfl⟩ F.entry_list_extend (F.args_list_extend_2 _ _)
    (AutoSeq1.list_extend_list_list_0 l its.toArray n b its2.toArray n2 hlong (by rw [List.size_toArray]; omega) (by omega)) ⟨e, e2, ?_⟩
  refine ⟨.non, _, I.lset (its' := its ++ its2) hH e (by simp) (r.append r2) ?_, rfl, q⟩
  rw [List.length_append]
  omega
def rCat : R2 := fun x y H Q => ∃ l b xs zs, x = .ref l ∧ y = .ref b ∧ H l = some (.lst xs) ∧ H b = some (.lst zs) ∧ xs.length + zs.length ≤ sizeLine ∧ ∀ p, H p = none → Q (.ref p) (upd H p (.lst (xs ++ zs)))
theorem op_cat : OpR X (binaryOp .Add) rCat := by
  intro pins s σ H x y v u Q I rx ry h
  obtain ⟨l, b, xs, zs, rfl, rfl, hH, hB, hz, q⟩ := h
  cases rx
  cases ry
  obtain ⟨z, its, n, r, hl, e⟩ := I.lstM hH
  obtain ⟨z2, its2, n2, r2, hl2, e2⟩ := I.lstM hB
  refine PySem.P.add_list e e2 ?_ (by rw [List.size_toArray, List.size_toArray]; omega)
  have ea : its.toArray ++ its2.toArray = (its ++ its2).toArray := by simp
  rw [ea]
  exact ⟨.ref _, _, I.lnew (t' := s.toks) (r.append r2) (by rw [List.length_append]; omega), rfl, q _ I.fresh⟩
end
section
variable {prog : Program} {w : World} {A : Around} {E : Value → Shared → Prop} {s : Shared}
end
section
variable {X : Cx}
end
end L2
namespace Att
open PySem PySem.W PySem.Calls PyProof.Rows
theorem ints_of_wellAll {P : Params} {h : Heap} : ∀ (ns : List Int) (vs : List Value), WellAll P h vs (ns.map WData.int) → IntsAre vs ns := by
  intro ns
  induction ns with
  | nil =>
    intro vs w
    rw [List.map_nil] at w
    cases w
    exact .nil
  | cons n ns ih =>
    intro vs w
    rw [List.map_cons] at w
    cases w with
    | cons a b =>
      cases a
      exact .cons _ _ (ih _ b)
theorem script_of {l : OpenLaw} {n : Nat} (hn : l.most = some n) {P : Params} {h : Heap} {args : List WData} {vals : List Value}
    (hpre : l.row.toRowW.claim.pre args = true) (hwl : WellAll P h vals args) :
    ∃ a vs ns, vals = [Value.ref a] ∧ args = [WData.list (ns.map WData.int)] ∧ h.get? a = some { cls := .type "list", data := .seq vs.toArray } ∧ IntsAre vs ns ∧ ns.length ≤ n := by
  have hsh : WShape.hasAll [] args [.list .int] = true := (pre_splitW hpre).1
  have hc : l.pre.holds [] { args := args } = true := (pre_splitW hpre).2
  obtain ⟨d, r, rfl, h1, h2⟩ := hasAllW_cons hsh
  obtain rfl := hasAllW_nil h2
  obtain ⟨xs, rfl, h3⟩ := hasW_list h1
  obtain ⟨ns, rfl⟩ := items_int h3
  have hlen : ns.length ≤ n := by
    unfold OpenLaw.pre at hc
    have h4 : (WTm.not (.lt (.lit (.int (n : Int))) (.len (.arg 0)))).holds [] { args := [.list (ns.map .int)] } = true := by
      have h4 := (holds_andW hc).1
      rw [hn] at h4
      exact h4
    have h5 := condW_of h4 (w_not (w_lt w_lit (w_len_list (w_arg rfl))))
    rw [List.length_map] at h5
    refine Nat.le_of_not_lt fun q => ?_
    have q' : (n : Int) < ((ns.length : Nat) : Int) := by omega
    first
      | (rw [decide_eq_true q'] at h5; exact absurd h5 (by decide))
      | (simp at h5; omega)
  cases hwl with
  | cons w1 w2 =>
    cases w2
    cases w1 with
    | list ho hall => exact ⟨_, _, ns, rfl, rfl, ho, ints_of_wellAll ns _ hall, hlen⟩
theorem post_true (l : OpenLaw) (args : List WData) : l.row.toRowW.claim.post args (.bool true) args = true :=
  postW_of (r := l.row.toRowW) (X := (true == true))
    (show WShape.has [] (.bool true) .bool = true by first | rfl | decide | simp [WShape.has, WShape.arms, WShape.armsAll])
    (show (WTm.eq .res (.lit (.bool true))).value [] { args := args, res := some (.bool true), after := args } = some (.bool (true == true)) from w_eq_bool (w_res rfl) w_lit) rfl
theorem attach_call {l : OpenLaw} {n : Nat} {q : Program} {loose : List Str} {XP : (Str → Option Value) → Heap → Prop} {YP : World → Heap → Prop} {d : DefRec}
    (hn : l.most = some n) (hdf : d.params.defaults = [])
    (call : ∀ (w : World) (s₀ s₁ : Shared) (mg mb : Str → Option Value) (fa : Addr) (o : Obj) (pm cd doc : Value) (a : Addr) (vs : List Value) (ns : List Int),
      Ground q loose [] XP w s₀ mg mb s₁.heap → YP w s₁.heap →
      s₁.heap.get? fa = some o → o.data = .func (docDef d.name d.params d.body d.scope pm cd doc) → s₁.heap.CodeRec cd d.name → mg d.name = some (.ref fa) →
      s₁.heap.get? a = some { cls := .type "list", data := .seq vs.toArray } → IntsAre vs ns → ns.length ≤ n → s₁.gens = #[] →
      codeAny (model l.prog w) callerA (.call (.ref fa) ⟨[.ref a], []⟩) (fun r s' => r = .ok (.ret (.bool true)) ∧ OldK s₁.heap s'.heap ∧ s'.os = s₁.os ∧ AllBare s'.gens) s₁) :
    WalkO q loose XP YP l.row.toRowW d [] (fun f vs => PySem.call f vs) := by
  intro w s₀ s₁ mg mb G Y fa o pm cd doc dV kV ho hd hcd hD hmg hg args vals as hpre hlay hrd hwl hlo
  obtain rfl : dV = .none := Dflts.none hD hdf
  obtain rfl : kV = .none := Dflts.noKw hD
  obtain ⟨a, vs, ns, rfl, rfl, hobj, hints, hlen⟩ := script_of hn hpre hwl
  refine enter_call (codeAny_mono (call w s₀ s₁ mg mb fa o pm cd doc a vs ns G Y ho (fd_plain hd) hcd hmg hobj hints hlen hg) fun r s' hq => ?_)
  obtain ⟨rfl, h2, h3, h4⟩ := hq
  exact ⟨.inl ⟨.bool true, .bool true, [], rfl, fun _ => rfl, .bool true, post_true l _, fun _ => ⟨List.Pairwise.nil, fun _ hm => (nomatch hm)⟩⟩, h2, h3, h4⟩
section
variable {prog : Program} {w : World} {A : Around} {E : Value → Shared → Prop} {s : Shared} {K : Frag}
end
end Att
namespace L2
open PySem PySem.Spec PyProof.Rows
theorem vals_ints : ∀ {vs : List Value} {ns : List Int}, IntsAre vs ns → Vals (ns.map V.int) vs
  | _, _, .nil => .nil
  | _, _, .cons n t h => .cons ⟨t, rfl⟩ (vals_ints h)
def Only (H : Hp) : Prop := ∀ b, H b = none ∨ ∃ o xs, H b = some (.frz o (.lst xs))
theorem law_call {P : Program} {w : World} {K : PySem.W.Frag} {mg mb : Str → Option Value} {CX : CXT} {k : Nat} {fa a : Addr} {fd : FuncData} {x : Str} {sp : Sp} {s₁ : Shared} {vs : List Value} {ns : List Int}
    (KX : K.In s₁.heap) (hns : s₁.heap.Ns mainGlobals mg) (hb : s₁.heap.Ns builtinsNs mb) (hbb : ∀ x : Str, x ≠ "__name__" → mb x = bootBuiltins x) (hlim : s₁.heap.NoLimit) (hg : s₁.gens = #[])
    (ha : s₁.heap.get? a = some { cls := .type "list", data := .seq vs.toArray }) (hi : IntsAre vs ns) (hl : ns.length ≤ sizeLine) (hr : Room k callerA)
    (F : ∀ base : Heap, K.In base → base.Ns mainGlobals mg → FnOk P w K mg base CX k fa fd [x] sp) (hbind : ∀ (s : Shared) (u : Value), BindsTo s fd ⟨[u], []⟩ [(x, u)])
    (hsp : ∀ H : Hp, Only H → SqL K H a (ns.map V.int) → sp [.ref a] H (fun v _ => v = .bl true) fun _ _ _ => False)
    (hCX : ∀ H e s', CX [] H s₁ (fun _ _ _ => False) e s' → False) :
    codeAny (model P w) callerA (.call (.ref fa) ⟨[.ref a], []⟩) (fun r s' => r = .ok (.ret (.bool true)) ∧ OldK s₁.heap s'.heap ∧ s'.os = s₁.os ∧ AllBare s'.gens) s₁ := by
  have rv := vals_ints hi
  have lenV := hi.length
  have core : ∀ H : Hp, Only H → SqL K H a (ns.map V.int) → HOk P w H s₁.heap → (∀ b, H b ≠ none → b = a) → (H a ≠ none → K.lookup a = none) →
      codeAny (model P w) callerA (.call (.ref fa) ⟨[.ref a], []⟩) (fun r s' => r = .ok (.ret (.bool true)) ∧ OldK s₁.heap s'.heap ∧ s'.os = s₁.os ∧ AllBare s'.gens) s₁ := by
    intro H hO hS hok hA hK
    have base_of : ∀ {b : Addr} {o : Obj}, s₁.heap.get? b = some o → H b = none → (hidT s₁.heap H).get? b = some o := fun e n => hidT_get e n
    have noA : ∀ {b : Addr} {o : Obj} {es : Array DictEntry} {ep : Nat}, s₁.heap.get? b = some o → o.data = .dict es ep → H b = none := fun {b o es ep} e d => by
      cases q : H b with
      | none => rfl
      | some u =>
        have e' : b = a := hA b (by rw [q]; simp)
        subst e'
        rw [ha] at e; cases e
        have d' : Data.seq vs.toArray _ = Data.dict es ep := d
        cases d'
    have nsK : ∀ {b : Addr} {m : Str → Option Value}, s₁.heap.Ns b m → (hidT s₁.heap H).Ns b m := fun {b m} ⟨o, es, ep, e, d, r⟩ => ⟨o, es, ep, base_of e (noA e d), d, r⟩
    have hKb : K.In (hidT s₁.heap H) := fun b o e => base_of (KX b o e) (by
      cases q : H b with
      | none => rfl
      | some u =>
        have e' : b = a := hA b (by rw [q]; simp)
        subst e'
        rw [hK (by rw [q]; simp)] at e; cases e)
    have hM : Mod K mg (hidT s₁.heap H) := ⟨hKb, nsK hns, ⟨mb, nsK hb, hbb⟩, let ⟨mc, h1, h2⟩ := hlim; ⟨mc, nsK h1, h2⟩⟩
    have e0 : Env0 P w K mg (hidT s₁.heap H) callerA [] s₁ H := ⟨rfl, hM, fun b o e => of_hidT e, Nat.le_of_eq (hidT_size _ _), trivial, fun b hb => absurd (show b ∈ ([] : List Addr) from hb) (by simp), hok, .of_eq hg⟩
    refine codeAny_mono ((F _ hKb (nsK hns)).run callerA [] s₁ H ⟨[.ref a], []⟩ [.ref a] [.ref a] _ _ hr e0 (hbind s₁ (.ref a)) (.cons rfl .nil) (hsp H hO hS)) fun r s' h => ?_
    cases r with
    | error e => exact (hCX H e s' h).elim
    | ok fl =>
      cases fl with
      | next => exact False.elim h
      | brk => exact False.elim h
      | cont => exact False.elim h
      | ret u =>
        obtain ⟨v, H', os, bare, un, hok', r', q⟩ := h
        have q' : v = .bl true := q
        subst q'
        obtain rfl : u = Value.bool true := r'
        refine ⟨rfl, OldK.of_keep fun b o e => ?_, os, bare⟩
        cases q : H b with
        | none => exact un.keep b o e q (by intro z; exact absurd (show b ∈ ([] : List Addr) from z) (by simp)) (by simp)
        | some u =>
          rcases hO b with z | ⟨ob, xs, z⟩
          · rw [q] at z; cases z
          · have z2 := un.frzs b ob _ z
            obtain ⟨e1, _⟩ := hok b _ z
            obtain ⟨e2, _⟩ := hok' b _ z2
            rw [e] at e1; cases e1
            exact e2
  cases hk : K.lookup a with
  | some o =>
    have e := KX a o hk
    rw [ha] at e
    cases e
    refine core (fun _ => none) (fun _ => .inl rfl) (.inr ⟨_, vs.toArray, _, hk, rfl, rfl, rfl, by rw [List.size_toArray, lenV]; exact hl, by simpa using rv⟩) (fun b u z => by have z' : (none : Option HO) = some u := z; cases z') (fun b z => absurd rfl z) fun z => absurd rfl z
  | none =>
    refine core (fun b => if b = a then some (.frz { cls := .type "list", data := .seq vs.toArray } (.lst (ns.map V.int))) else none) (fun b => ?_) (.inl (.inr ⟨{ cls := .type "list", data := .seq vs.toArray }, if_pos rfl⟩)) (fun b u z => ?_) (fun b z => ?_) fun _ => hk
    · by_cases hb : b = a
      · exact .inr ⟨_, _, if_pos hb⟩
      · exact .inl (if_neg hb)
    · by_cases hb : b = a
      · have z' := (if_pos hb).symm.trans z
        cases z'
        subst hb
        exact ⟨ha, by rw [List.length_map]; exact hl, vs, _, rv, ha⟩
      · have z' := (if_neg hb).symm.trans z
        cases z'
    · by_cases hb : b = a
      · exact hb
      · exact absurd (if_neg hb) z
end L2
namespace L2
open PySem PySem.Spec PyProof.Rows
theorem walk_of {l : PySem.W.OpenLaw} {n k : Nat} {q : Program} {loose : List Str} {XP : (Str → Option Value) → Heap → Prop} {YP : World → Heap → Prop} {d : DefRec} {K : Params → PySem.W.Frag} {CX : World → CXT} {sp : World → Sp} {x : Str}
    (hn : l.most = some n) (hn2 : n ≤ sizeLine) (hdf : d.params.defaults = []) (hr : Room k callerA)
    (hY : ∀ (w : World) (h : Heap), YP w h → (K w.params).In h)
    (F : ∀ (w : World) (mg : Str → Option Value) (fa : Addr) (h : Heap), (K w.params).In h → h.Ns mainGlobals mg → mg d.name = some (.ref fa) →
      ∃ fd : FuncData, (∀ (s : Shared) (u : Value), BindsTo s fd ⟨[u], []⟩ [(x, u)]) ∧
        ∀ base : Heap, (K w.params).In base → base.Ns mainGlobals mg → FnOk l.prog w (K w.params) mg base (CX w) k fa fd [x] (sp w))
    (hsp : ∀ (w : World) (H : Hp) (a : Addr) (ns : List Int), ns.length ≤ n → Only H → SqL (K w.params) H a (ns.map V.int) → sp w [.ref a] H (fun v _ => v = .bl true) fun _ _ _ => False)
    (hCX : ∀ (w : World) (H : Hp) (s : Shared) (e : Value) (s' : Shared), CX w [] H s (fun _ _ _ => False) e s' → False) :
    PySem.W.WalkO q loose XP YP l.row.toRowW d [] (fun f vs => PySem.call f vs) := by
  refine Att.attach_call hn hdf fun w s₀ s₁ mg mb fa o pm cd doc a vs ns G Y ho hd hcd hmg hobj hints hlen hg => ?_
  have KX := hY w _ Y
  obtain ⟨fd, hb, hF⟩ := F w mg fa _ KX G.T.g hmg
  exact law_call KX G.T.g G.T.b G.T.builtins G.T.nolimit hg hobj hints (Nat.le_trans hlen hn2) hr hF hb (fun H hO hS => hsp w H a ns hlen hO hS) fun H e s' => hCX w H s₁ e s'
end L2
namespace L2
open PySem PySem.Spec PyProof.Rows
def inClass (s : Stmt) (j : Nat) : Stmt := match s with
  | .ClassDef _ _ _ body _ _ _ _ _ _ _ => body.getD j (.Pass ⟨0, 0, 0, 0⟩)
  | _ => .Pass ⟨0, 0, 0, 0⟩
def defArgs (s : Stmt) : Arguments := match s with
  | .FunctionDef _ a _ _ _ _ _ _ _ _ => a
  | _ => { posonlyargs := [], args := [], vararg := none, kwonlyargs := [], kw_defaults := [], kwarg := none, defaults := [] }
def defBody (s : Stmt) : List Stmt := match s with
  | .FunctionDef _ _ b _ _ _ _ _ _ _ => b
  | _ => []
def defScope (s : Stmt) : Scope := match s with
  | .FunctionDef _ _ _ _ _ _ sc _ _ _ => sc
  | _ => { kind := .function, names := [], isGenerator := false, isCoroutine := false }
abbrev CX0 : CXT := fun _ _ _ _ _ _ => False
structure Fun (K : PySem.W.Frag) (x qual : Str) (st : Stmt) (f : Addr) (fd : FuncData) : Prop where
  ex : ∃ (oc : Value) (od : Option Addr) (kV doc pm : Value) (an : Option Addr) (cdv ct : Value) (osl : Array (Option Value)),
    fd = PySem.W.fnOf x qual (defArgs st) (defBody st) (defScope st) .none kV doc pm an cdv ct ∧ K.lookup f = some ⟨oc, od, .func fd, osl⟩ ∧ PySem.W.codeIn K cdv qual = true
  kp : PySem.W.keepIn K (.ref f) = true
section
variable {P : Program} {w : World} {K : PySem.W.Frag} {mg : Str → Option Value} {base : Heap}
theorem Fun.ok {x qual : Str} {st : Stmt} {f : Addr} {fd : FuncData} {N ps : List Str} {k : Nat} {sp : Sp} (F : Fun K x qual st f fd) (S : FnScope N ps (defScope st)) (len : ∀ vs H Q E, sp vs H Q E → vs.length = ps.length)
    (hbody : ∀ (cdv : Value) (A : Around) (outer : List Env) (s : Shared) (H : Hp) (vs : List V) (Q : VK) (E : XK), Room k (A.deeper (envOfC qual (defScope st) s.heap.objs.size f cdv)) → sp vs H Q E →
      ∃ t, PSs (cxOf CX0 P w K mg base N qual (defScope st) f cdv A outer s H E).nox (defBody st) t ∧ t { nx := fun _ H' => Q .non H', rt := Q } (start N vs) H) : FnOk P w K mg base CX0 (k + 1) f fd ps sp := by
  obtain ⟨oc, od, kV, doc, pm, an, cdv, ct, osl, rfl, lk, hcd⟩ := F.ex
  refine fn_of lk hcd S len fun A outer s H vs Q E hr hsp => ?_
  obtain ⟨t, h, q⟩ := hbody cdv A outer s H vs Q E hr hsp
  exact ⟨t, h.nox, q⟩
theorem Fun.binds {x qual : Str} {st : Stmt} {f : Addr} {fd : FuncData} {ps : List Str} (F : Fun K x qual st f fd)
    (h : ∀ (kV doc pm : Value) (an : Option Addr) (cdv ct : Value) (us : List Value), us.length = ps.length → bindArgs (PySem.W.fnOf x qual (defArgs st) (defBody st) (defScope st) .none kV doc pm an cdv ct) ⟨us, []⟩ = pure (ps.zip us)) : Binds K fd ps [] := by
  obtain ⟨oc, od, kV, doc, pm, an, cdv, ct, osl, rfl, lk, hcd⟩ := F.ex
  exact .all (h kV doc pm an cdv ct)
theorem fun_mk {x qual : Str} {st : Stmt} {f : Addr} {oc : Value} {od an : Option Addr} {osl : Array (Option Value)} {kV doc pm cdv ct : Value} (l : K.lookup f = some ⟨oc, od, .func (PySem.W.fnOf x qual (defArgs st) (defBody st) (defScope st) .none kV doc pm an cdv ct), osl⟩)
    (c : PySem.W.codeIn K cdv qual = true) (k : PySem.W.keepIn K (.ref f) = true) : Fun K x qual st f (PySem.W.fnOf x qual (defArgs st) (defBody st) (defScope st) .none kV doc pm an cdv ct) := ⟨⟨oc, od, kV, doc, pm, an, cdv, ct, osl, rfl, l, c⟩, k⟩
end
section
variable {X : Cx}
theorem pv (i : Nat) {x : Str} {pos : Pos} (hN : X.N[i]? = some x := by rfl) (hv : Vis X.env.scope x := by first | exact Or.inl rfl | exact Or.inr (Or.inl rfl) | exact Or.inr (Or.inr rfl)) (hd : (x == ("__debug__" : Str)) = false := by decide)
    (hcd : (x == ("__classdict__" : Str)) = false := by decide) : PE X (.Name x pos) (tVar i) := pe_var hN hv hd hcd
end
theorem ite2 {c A B : Prop} [Decidable c] (h1 : c → A) (h2 : ¬ c → B) : if c then A else B := by
  by_cases h : c
  · rw [if_pos h]
    exact h1 h
  · rw [if_neg h]
    exact h2 h
def Same (H H' : Hp) : Prop := ∀ b o, H b = some o → H' b = some o
theorem Same.refl (H : Hp) : Same H H := fun _ _ h => h
theorem Same.trans {H H1 H2 : Hp} (a : Same H H1) (b : Same H1 H2) : Same H H2 := fun c o h => b c o (a c o h)
theorem Same.free {H H' : Hp} (e : Same H H') {l : Addr} (h : H' l = Option.none) : H l = Option.none := by
  cases q : H l with
  | none => rfl
  | some o =>
    rw [e l o q] at h
    cases h
theorem Same.seq {K : PySem.W.Frag} {H H' : Hp} {a : Addr} {xs : List V} (e : Same H H') (h : SqL K H a xs) : SqL K H' a xs := by
  rcases h with (h | ⟨o, h⟩) | h
  · exact .inl (.inl (e _ _ h))
  · exact .inl (.inr ⟨o, e _ _ h⟩)
  · exact .inr h
end L2
set_option Elab.async false
set_option linter.all false
set_option maxRecDepth 100000
set_option maxHeartbeats 4000000
namespace L2
open PySem PySem.Spec PyProof.Rows
structure Fly (P : Program) (w : World) (outer : List Env) (H : Hp) (s : Shared) (H' : Hp) (a C : Addr) (s' : Shared) : Prop where
  os : s'.os = s.os
  bare : AllBare s'.gens
  fl : ∃ (t : Addr) (B : Heap), Heap.FlyingW B outer a (.ref C) (.ref t) s'.heap ∧ HOk P w H' B ∧
    (∀ b o, s.heap.get? b = some o → H b = none → b ∉ frs outer → B.get? b = some o) ∧ (∀ b o, s.heap.get? b = some o → b ∉ frs outer → ∃ o', B.get? b = some o')
  slot : ∀ b o, b ∈ frs outer → s.heap.get? b = some o → ∃ sl, s'.heap.get? b = some { o with slots := sl }
  free : ∀ b o, s.heap.get? b = some o → H b = none → H' b = none
  tups : ∀ b xs, H b = some (.tup xs) → H' b = some (.tup xs)
  frzs : ∀ b o u, H b = some (.frz o u) → H' b = some (.frz o u)
  tbls : ∀ b ps, H b = some (.tbl ps) → ∃ more, H' b = some (.tbl (ps ++ more))
section
variable {P : Program} {w : World} {outer : List Env} {H H' : Hp} {s s' : Shared} {a C : Addr}
theorem Fly.un (f : Fly P w outer H s H' a C s') : Un (frs outer) [] H H' s.heap s'.heap := by
  obtain ⟨t, B, hf, _, k1, k2⟩ := f.fl
  refine ⟨fun b o e n hb _ => hf.1 b o (k1 b o e n hb), fun b o e _ hb _ => f.slot b o hb e, fun b o e n _ => f.free b o e n, fun b o e _ => ?_, f.tups, f.frzs, f.tbls⟩
  by_cases hb : b ∈ frs outer
  · obtain ⟨sl, q⟩ := f.slot b o hb e
    exact ⟨_, q⟩
  · obtain ⟨o', q⟩ := k2 b o e hb
    exact ⟨o', hf.1 b o' q⟩
theorem Fly.hok (f : Fly P w outer H s H' a C s') : HOk P w H' s'.heap := by
  obtain ⟨t, B, hf, h, _⟩ := f.fl
  exact h.kept hf.1
theorem Fly.notH (f : Fly P w outer H s H' a C s') : H' a = none := by
  obtain ⟨t, B, hf, h, _⟩ := f.fl
  cases q : H' a with
  | none => rfl
  | some o =>
    obtain ⟨ob, z⟩ : ∃ ob, B.get? a = some ob := by
      have l := (h a o q).lt
      have := hf.2.1
      revert l this
      intro l this
      exact absurd this (by
        have hx := h a o q
        cases o with
        | lst xs => obtain ⟨_, _, _, _, e⟩ := hx; rw [e]; simp
        | tup xs => obtain ⟨_, _, _, ⟨ob, e, _⟩⟩ := hx; rw [e]; simp
        | dK kvs => obtain ⟨_, _, _, _, ob, _, _, e, _⟩ := hx; rw [e]; simp
        | dT kvs => obtain ⟨_, _, _, _, ob, _, _, e, _⟩ := hx; rw [e]; simp
        | set S n => obtain ⟨ob, _, _, _, e, _⟩ := hx; rw [e]; simp
        | ins C dx fs => obtain ⟨_, _, _, e, _⟩ := hx; rw [e]; simp
        | own y => obtain ⟨ob, e⟩ := hx; rw [e]; simp
        | xd fs => obtain ⟨_, ⟨ob, _, _, e, _⟩, _⟩ := hx; rw [e]; simp
        | rng lo hi => obtain ⟨_, _, _, e⟩ := hx; rw [e]; simp
        | frz ob u => obtain ⟨e, _⟩ := hx; rw [e]; simp
        | tbl ps => have e : B.get? a = some _ := hx; rw [e]; simp
        | met f y => have e : B.get? a = some _ := hx; rw [e]; simp
        | ext φ => obtain ⟨_, ⟨ob, e⟩, _⟩ := hx; rw [e]; simp)
    rw [hf.2.1] at z; cases z
theorem Fly.moved {h' B : Heap} {t : Addr} (f : Fly P w outer H s H' a C s') (hf : Heap.FlyingW B outer a (.ref C) (.ref t) s'.heap) (hB : HOk P w H' B)
    (k1 : ∀ b o, s.heap.get? b = some o → H b = none → b ∉ frs outer → B.get? b = some o) (k2 : ∀ b o, s.heap.get? b = some o → b ∉ frs outer → ∃ o', B.get? b = some o')
    (hf' : Heap.FlyingW B outer a (.ref C) (.ref t) h') (sm : s'.heap.UpToSlots h') : Fly P w outer H s H' a C { s' with heap := h' } := by
  refine ⟨f.os, f.bare, ⟨t, B, hf', hB, k1, k2⟩, fun b o hb e => ?_, f.free, f.tups, f.frzs, f.tbls⟩
  obtain ⟨sl, q⟩ := f.slot b o hb e
  obtain ⟨_, ob, hob, hnf⟩ := hf.2.2.1.mem hb
  rw [q] at hob; cases hob
  obtain ⟨sl', q'⟩ := sm b _ q hnf
  exact ⟨sl', q'⟩
end
section
variable {X : Cx} {pins : List (Addr × Obj)} {σ : St} {H H' : Hp} {s s' : Shared} {a C : Addr}
theorem Fly.inv (f : Fly X.prog X.w X.stack H s H' a C s') (I : Inv X pins σ H s) : Inv X pins σ H' s' :=
  I.call' (ch := []) f.os f.un f.hok f.bare (fun b z => absurd z (by simp))
theorem frs_cons {env : Env} {outer : List Env} {L : Addr} (hf : env.frame = some L) : frs (env :: outer) = L :: frs outer := by
  unfold frs
  rw [List.filterMap_cons, hf]
theorem Fly.leave {E : Value → Shared → Prop} {Q : Unit → Shared → Prop} (hstk : X.stack = X.env :: X.outer) (hfr : X.env.frame = some X.env.locals) (hex : X.ex = []) (f : Fly X.prog X.w X.stack H s H' a C s') (I : Inv X pins σ H s)
    (k : ∀ s'', Fly X.prog X.w X.outer X.H₀ X.s₀ H' a C s'' → Q () s'') : wpAny (model X.prog X.w) X.A (leaving X.env (.ref a)) Q E s' := by
  obtain ⟨t, B, hf, hB, k1, k2⟩ := f.fl
  rw [hstk] at hf
  have nx : ∀ b : Addr, b ∉ X.ex := fun b z => by rw [hex] at z; cases z
  have nf : ∀ b o, X.s₀.heap.get? b = some o → b ∉ X.fs → b ∉ frs X.stack := fun b o e hb z => by
    rw [hstk, frs_cons hfr] at z
    rcases List.mem_cons.mp z with z | z
    · exact absurd (Nat.lt_of_lt_of_le (Heap.lt_size e) (by rw [z]; exact I.ok.above)) (Nat.lt_irrefl _)
    · exact hb z
  refine wpAny_leaves_onW (by rw [I.ok.frames, hstk]) hfr hf fun h' hf' hsm => k _ ⟨f.os.trans I.os, f.bare, ⟨t, B, hf', hB, fun b o e n hb => ?_, fun b o e hb => ?_⟩, fun b o hb e => ?_, fun b o e n => ?_, fun b xs e => f.tups b xs (I.base.tups b xs e), fun b o u e => f.frzs b o u (I.base.frzs b o u e), fun b ps e => ?_⟩
  · exact k1 b o (I.base.keep b o e n hb (nx b)) (I.base.free b o e n (nx b)) (nf b o e hb)
  · obtain ⟨o', e'⟩ := I.base.there b o e (nx b)
    exact k2 b o' e' (nf b o e hb)
  · obtain ⟨sl, e1⟩ := I.base.slot b o e (I.ok.frf b hb) hb (nx b)
    have hb' : b ∈ frs X.stack := by rw [hstk, frs_cons hfr]; exact List.mem_cons_of_mem _ hb
    obtain ⟨sl2, e2⟩ := f.slot b _ hb' e1
    have hb2 : b ∈ frs (X.env :: X.outer) := hstk ▸ hb'
    obtain ⟨_, ob, hob, hnf⟩ := hf.2.2.1.mem hb2
    rw [e2] at hob; cases hob
    obtain ⟨sl3, e3⟩ := hsm b _ e2 hnf
    exact ⟨sl3, e3⟩
  · obtain ⟨o', e'⟩ := I.base.there b o e (nx b)
    exact f.free b o' e' (I.base.free b o e n (nx b))
  · obtain ⟨m1, e1⟩ := I.base.tbls b ps e
    obtain ⟨m2, e2⟩ := f.tbls b _ e1
    exact ⟨m1 ++ m2, by rw [e2, Array.append_assoc]⟩
theorem made_leave {E : Value → Shared → Prop} {Q : Unit → Shared → Prop} {h1 : Heap} {args : List Value} (hstk : X.stack = X.env :: X.outer) (hfr : X.env.frame = some X.env.locals) (hex : X.ex = []) (I : Inv X pins σ H s) (hx : Heap.MadeExcOf s.heap h1 a (.ref C) args)
    (k : ∀ s'', Fly X.prog X.w X.outer X.H₀ X.s₀ H a C s'' → Q () s'') : wpAny (model X.prog X.w) X.A (leaving X.env (.ref a)) Q E { s with heap := h1 } := by
  have nx : ∀ b : Addr, b ∉ X.ex := fun b z => by rw [hex] at z; cases z
  have stk := I.stack
  have nf : ∀ b o, X.s₀.heap.get? b = some o → b ∉ X.fs → b ∉ frs X.stack := fun b o e hb z => by
    rw [hstk, frs_cons hfr] at z
    rcases List.mem_cons.mp z with z | z
    · exact absurd (Nat.lt_of_lt_of_le (Heap.lt_size e) (by rw [z]; exact I.ok.above)) (Nat.lt_irrefl _)
    · exact hb z
  have hB : HOk X.prog X.w H (PySem.W.hideAll s.heap (frs X.stack)) := fun b o e => (I.hok b o e).stay (fun c u hc q => PySem.W.hideAll_get _ q fun hm => by
    have z := I.stkFree c hm
    rcases hc with hc | hc
    · rw [hc, e] at z; cases z
    · rw [hc] at z; cases z) (fun _ q => q) fun _ _ q => q
  have stk' : s.heap.FunFrames X.base (X.env :: X.outer) := hstk ▸ stk
  have hl : s.heap.FunFrames (PySem.W.hideAll s.heap (frs X.stack)) (X.env :: X.outer) := by
    rw [hstk]
    exact PySem.W.funFrames_hide stk' fun env he b hb => List.mem_filterMap.mpr ⟨env, he, hb⟩
  refine wpAny_leaves_madeW (base := PySem.W.hideAll s.heap (frs X.stack)) (h := s.heap) (by rw [I.ok.frames, hstk]) hfr (fun b o q => PySem.W.of_hideAll _ q) hl hx fun h' t x1 x2 x3 x4 =>
    k _ ⟨I.os, I.bare, ⟨t, _, x1, hB, fun b o e n hb => ?_, fun b o e hb => ?_⟩, fun b o hb e => ?_, fun b o e n => I.base.free b o e n (nx b), fun b xs e => I.base.tups b xs e, fun b o u e => I.base.frzs b o u e, fun b ps e => I.base.tbls b ps e⟩
  · exact PySem.W.hideAll_get _ (I.base.keep b o e n hb (nx b)) (nf b o e hb)
  · obtain ⟨o', e'⟩ := I.base.there b o e (nx b)
    exact ⟨o', PySem.W.hideAll_get _ e' (nf b o e hb)⟩
  · obtain ⟨sl, e1⟩ := I.base.slot b o e (I.ok.frf b hb) hb (nx b)
    have hb2 : b ∈ frs (X.env :: X.outer) := by rw [frs_cons hfr]; exact List.mem_cons_of_mem _ hb
    obtain ⟨_, ob, hob, hnf⟩ := stk'.mem hb2
    rw [e1] at hob; cases hob
    obtain ⟨sl3, e3⟩ := x4 b _ (hx.keeps b _ e1) hnf
    exact ⟨sl3, e3⟩
end
def CXR (P : Program) (w : World) : CXT := fun outer H s E e s' => ∃ a C H', e = .ref a ∧ Fly P w outer H s H' a C s' ∧ E (.ref C) none H'
structure LetsP (X : Cx) (ES : St → XK) : Prop where
  pass : ∀ (pins : List (Addr × Obj)) (σ : St) (H : Hp) (s : Shared) (e : Value) (s' : Shared), Inv X pins σ H s → CXR X.prog X.w X.stack H s (ES σ) e s' → X.xe e s'
  own : PassesOwn (model X.prog X.w) X.A X.env X.xe
structure Lets (X : Cx) (ES : St → XK) : Prop extends LetsP X ES where
  made : ∀ (pins : List (Addr × Obj)) (σ : St) (H : Hp) (s : Shared) (a C : Addr) (args : List Value) (h1 : Heap), Inv X pins σ H s → Heap.MadeExcOf s.heap h1 a (.ref C) args → ES σ (.ref C) none H → X.xe (.ref a) { s with heap := h1 }
abbrev EN : St → XK := fun _ _ _ _ => False
theorem lets_body {P : Program} {w : World} {K : PySem.W.Frag} {mg : Str → Option Value} {base : Heap} {N : List Str} {qual : Str} {scope : Scope} {f : Addr} {cd : Value} {A : Around} {outer : List Env} {s : Shared} {H : Hp} {E : XK} :
    Lets (cxOf (CXR P w) P w K mg base N qual scope f cd A outer s H E) (fun _ => E) where
  made := fun pins σ H1 s1 a C args h1 I hx q => made_leave (X := cxOf (CXR P w) P w K mg base N qual scope f cd A outer s H E) rfl rfl rfl I hx fun s'' fl => ⟨a, C, H1, rfl, fl, q⟩
  pass := fun pins σ H1 s1 e s' I h => by
    obtain ⟨a, C, H', rfl, fl, q⟩ := h
    exact Fly.leave (X := cxOf (CXR P w) P w K mg base N qual scope f cd A outer s H E) rfl rfl rfl fl I fun s'' fl => ⟨a, C, H', rfl, fl, q⟩
  own := PassesOwn.leaving
def tCallS (sp : Sp) (dvs : List V) (ES : St → XK) (t : TA) : TE := fun σ H Q => t σ H fun vs H1 => sp (vs ++ dvs) H1 Q (ES σ)
def tMakeS (C : Addr) (sp : Sp) (dvs : List V) (ES : St → XK) (t : TA) : TE := fun σ H Q => t σ H fun vs H1 => ∀ x dx, H1 x = none → H1 dx = none → dx ≠ x →
  sp (.ref x :: (vs ++ dvs)) (upd (upd H1 dx (.own x)) x (.ins C dx [])) (fun v H2 => v = .non ∧ Q (.ref x) H2) (ES σ)
section
variable {X : Cx} {k : Nat} {f C : Addr} {fd : FuncData} {ps : List Str} {sp : Sp} {dvs : List V} {ds : List Value} {ES : St → XK} {x m : Str} {p pos apos : Pos} {e o : Expr} {es : List Expr} {ta : TE} {t : TA}
theorem run_fnS {pins : List (Addr × Obj)} {σ : St} {H : Hp} {s : Shared} {Q : VK} {us : List Value} {vs : List V} (F : FnOk X.prog X.w X.K X.mg X.base (CXR X.prog X.w) k f fd ps sp) (hr : Room k X.A) (hb : Binds X.K fd ps ds) (hd : Vals dvs ds) (hx : LetsP X ES)
    (I : Inv X pins σ H s) (r : Vals vs us) (h : sp (vs ++ dvs) H Q (ES σ)) : wpAny (model X.prog X.w) X.A (call (.ref f) us) (EP X pins σ Q) X.xe s := by
  have r2 : Vals (vs ++ dvs) (us ++ ds) := r.append hd
  have hl : (us ++ ds).length = ps.length := by rw [← r2.length]; exact F.len _ _ _ _ h
  refine wpAny_call (codeAny_mono (F.run X.A X.stack s H ⟨us, []⟩ (us ++ ds) (vs ++ dvs) Q (ES σ) hr I.env0 (hb s us I.kIn hl) r2 h) fun r s' hq => ?_)
  cases r with
  | error e => exact hx.pass pins σ H s e s' I hq
  | ok fl =>
    cases fl with
    | ret u => exact I.after hq
    | next => exact False.elim hq
    | brk => exact False.elim hq
    | cont => exact False.elim hq
theorem pe_callS (F : FnOk X.prog X.w X.K X.mg X.base (CXR X.prog X.w) k f fd ps sp) (hr : Room k X.A) (hg : Gl X x) (hm : X.mg x = some (.ref f)) (hk : PySem.W.keepIn X.K (.ref f) = true) (hb : Binds X.K fd ps ds) (hd : Vals dvs ds) (hx : LetsP X ES)
    (ha : PA X (e :: es) t) (hdb : (x == ("__debug__" : Str)) = false := by decide) (he : starEach (e :: es) X.env = (false, eval e X.env) :: starEach es X.env := by rfl) (hpl : (backTo pos (starEach es X.env)).any (·.1) = false := by rfl) :
    PE X (.Call (.Name x p) (e :: es) [] pos) (tCallS sp dvs ES t) := by
  intro pins s σ H Q I h
  refine wpAny_Call_Name_kw (ld_glob I hg hm ?_ hdb)
  refine PySem.W.callWith_K (h₀ := X.base) I.ok.mod.kin hk (thn (ha pos pins s σ H _ I h) fun us s1 ⟨vs, H1, I1, r, q⟩ => ⟨I1.kIn, ?_⟩) he hpl
  exact run_fnS F hr hb hd hx I1 r q
theorem run_makeS {pins : List (Addr × Obj)} {σ : St} {H : Hp} {s : Shared} {Q : VK} {us : List Value} {vs : List V} (M : Mk X.K C f) (F : FnOk X.prog X.w X.K X.mg X.base (CXR X.prog X.w) k f fd ps sp) (hr : Room (k + 1) X.A) (hb : Binds X.K fd ps ds) (hd : Vals dvs ds)
    (hx : LetsP X ES) (I : Inv X pins σ H s) (r : Vals vs us)
    (h : ∀ x dx, H x = none → H dx = none → dx ≠ x → sp (.ref x :: (vs ++ dvs)) (upd (upd H dx (.own x)) x (.ins C dx [])) (fun v H2 => v = .non ∧ Q (.ref x) H2) (ES σ)) :
    wpAny (model X.prog X.w) X.A (call (.ref C) us) (EP X pins σ Q) X.xe s := by
  have hq := h (s.heap.objs.size + 1) s.heap.objs.size (I.hok.fresh (Nat.le_succ _)) (I.hok.fresh (Nat.le_refl _)) (Nat.ne_of_lt (Nat.lt_succ_self _))
  have I2 := Inv.made (C := C) I
  have r2 : Vals (V.ref (s.heap.objs.size + 1) :: (vs ++ dvs)) (Value.ref (s.heap.objs.size + 1) :: (us ++ ds)) := .cons rfl (r.append hd)
  have hl : (Value.ref (s.heap.objs.size + 1) :: us ++ ds).length = ps.length := by
    have e := r2.length
    rw [F.len _ _ _ _ hq] at e
    exact e.symm
  refine wpAny_call (make_map (f := f) I.kIn M.makes M.init (beq_iff_eq.mp M.fn) (codeAny_mono (F.run _ X.stack _ _ ⟨Value.ref (s.heap.objs.size + 1) :: us, []⟩ (Value.ref (s.heap.objs.size + 1) :: (us ++ ds)) _ _ (ES σ) (hr.make C us [])
    (I2.env0.make C us []) (hb _ (Value.ref (s.heap.objs.size + 1) :: us) I2.kIn hl) r2 hq) fun r s' hq' => ?_))
  cases r with
  | error e => exact hx.pass pins σ _ _ e s' I2 hq'
  | ok fl =>
    cases fl with
    | ret u =>
      obtain ⟨v, H', I3, rv, ev, q3⟩ := I2.after hq'
      subst ev
      exact ⟨rv, ⟨V.ref (s.heap.objs.size + 1), H', I3, rfl, q3⟩⟩
    | next => exact False.elim hq'
    | brk => exact False.elim hq'
    | cont => exact False.elim hq'
theorem pe_makeS (M : Mk X.K C f) (F : FnOk X.prog X.w X.K X.mg X.base (CXR X.prog X.w) k f fd ps sp) (hr : Room (k + 1) X.A) (hg : Gl X x) (hm : X.mg x = some (.ref C)) (hb : Binds X.K fd ps ds) (hd : Vals dvs ds) (hx : LetsP X ES)
    (ha : PA X (e :: es) t) (hdb : (x == ("__debug__" : Str)) = false := by decide) (he : starEach (e :: es) X.env = (false, eval e X.env) :: starEach es X.env := by rfl) (hpl : (backTo pos (starEach es X.env)).any (·.1) = false := by rfl) :
    PE X (.Call (.Name x p) (e :: es) [] pos) (tMakeS C sp dvs ES t) := by
  intro pins s σ H Q I h
  refine wpAny_Call_Name_kw (ld_glob I hg hm ?_ hdb)
  refine PySem.W.callWith_K (h₀ := X.base) I.ok.mod.kin M.kp (thn (ha pos pins s σ H _ I h) fun us s1 ⟨vs, H1, I1, r, q⟩ => ⟨I1.kIn, ?_⟩) he hpl
  exact run_makeS M F hr hb hd hx I1 r q
end
structure Exc (K : PySem.W.Frag) (mg : Str → Option Value) (x : Str) (C : Addr) : Prop where
  nm : PySem.W.nsIn K mainGlobals x = some (some (.ref C))
  ex : PySem.W.excIn K C [.type "ValueError", .type "Exception", .type "BaseException", .type "object"] "ValueError.__new__" = true
  mg : mg x = some (.ref C)
theorem exc_obj {K : PySem.W.Frag} {h : Heap} {C : Addr} {bmB : List Value} {newId : String} (X : K.In h) (q : PySem.W.excIn K C bmB newId = true) :
    ∃ (bm : List Value) (N : Addr) (nm q : Str) (bs : List Value) (hdct : Bool) (sn : List Str) (sub : List Value) (ab : Bool) (col : Option Bool) (dd : Option Addr) (k0 k1 k2 k3 k5 : Option Value) (mN : Str → Option Value),
      h.get? C = some (excClassObj nm q C N bs bm hdct sn sub ab col dd k0 k1 k2 k3 k5 newId) ∧ h.Ns N mN ∧ mN "__init__" = none ∧ OwnTail h bmB bm := by
  unfold PySem.W.excIn at q
  split at q
  · rename_i dd cd sl ho
    split at q
    · rename_i C' bm k0 k1 k2 k3 n k5 hm hs
      simp only [Bool.and_eq_true, beq_iff_eq, Bool.not_eq_true'] at q
      obtain ⟨⟨⟨⟨⟨rfl, rfl⟩, hdel⟩, ht⟩, hok⟩, hni⟩ := q
      obtain ⟨nm, bs, mro, ns, qn, hd, sn, sub, ab, col, del⟩ := cd
      dsimp only at hm hdel hok hni
      subst hm hdel
      have hsl : sl = #[k0, k1, k2, k3, some (.builtin n), k5] := by
        obtain ⟨l⟩ := sl
        simp only at hs
        rw [hs]
      subst hsl
      exact ⟨bm, ns, nm, qn, bs, hd, sn, sub, ab, col, dd, k0, k1, k2, k3, k5, _, X _ _ ho, .of_isNs (PySem.W.isNs_of_in X hok), PySem.W.nsMap_none_of_in X hok hni, PySem.W.tail_of_in X ht⟩
    · cases q
  · cases q
def tRaise (C : Addr) (ES : St → XK) (ta : TA) : TS := fun _ σ H => ta σ H fun vs H1 => vs.length ≤ sizeLine ∧ ES σ (.ref C) none H1
theorem ps_raise {X : Cx} {ES : St → XK} {x : Str} {C : Addr} {np cpos pos : Pos} {e : Expr} {es : List Expr} {ta : TA} (hx : Lets X ES) (hc : X.calm = true) (O : Exc X.K X.mg x C) (hg : Gl X x) (ha : PA X (e :: es) ta) (hdb : (x == ("__debug__" : Str)) = false := by decide)
    (he : starEach (e :: es) X.env = (false, eval e X.env) :: starEach es X.env := by rfl) (hpl : (backTo cpos (starEach es X.env)).any (·.1) = false := by rfl) :
    PS X (.Raise (some (.Call (.Name x np) (e :: es) [] cpos)) none pos) (tRaise C ES ta) := by
  intro pins s σ H D I h
  obtain ⟨bm, N, nm, q, bs, hdct, sn, sub, ab, col, dd, k0, k1, k2, k3, k5, mN, hC, hN, hni, T⟩ := exc_obj (h := X.base) I.ok.mod.kin O.ex
  refine wpAny_Raise_call_subU (C := C) (nm := nm) (q := q) (N := N) (bs := bs) (bm := bm) (hdct := hdct) (sn := sn) (sub := sub) (ab := ab) (col := col) (dd := dd) (k0 := k0) (k1 := k1) (k2 := k2) (k3 := k3) (k5 := k5)
    PySem.F.excBase_ValueError rfl PySem.F.excBase_ValueError (mN := mN) (T.hasType PySem.F.excBase_ValueError.hasBase) (I.ok.hd hc) (by rw [he]; show (false || (backTo cpos (starEach es X.env)).any (·.1)) = false; rw [hpl]; rfl) hni (ld_glob I hg O.mg ⟨rfl, ?_⟩ hdb)
  have h0 := ha cpos pins s σ H _ I h
  rw [he] at h0 ⊢
  refine Calls.evalArgs_plain (wpAny_mono h0 (fun us s2 ⟨vs, H2, I2, r, z, qe⟩ => ⟨rfl, ?_, I2.bk _ _ hC, hN.keeps I2.bk, T.keeps I2.bk, fun h' a hm => ?_⟩) fun _ _ y => y)
  · rw [← r.length]; exact z
  · exact hx.made pins σ H2 s2 a C us h' I2 hm qe
end L2
set_option Elab.async false
set_option linter.all false
set_option maxRecDepth 100000
set_option maxHeartbeats 4000000
namespace L2
open PySem PySem.Spec PyProof.Rows
section
variable {M : Model} {A : Around} {E : Value → Shared → Prop} {h : Heap} {g : Array GenState} {d : Drawn} {t : Nat} {os : OsState}
variable {nm q : Str} {C N : Addr} {bs bm : List Value} {hdct : Bool} {sn : List Str} {sub : List Value} {ab : Bool} {col : Option Bool} {dd : Option Addr} {k0 k1 k2 k3 k5 : Option Value} {newId : String}
variable {nm' q' : Str} {C' N' : Addr} {bs' bm' : List Value} {hdct' : Bool} {sn' : List Str} {sub' : List Value} {ab' : Bool} {col' : Option Bool} {dd' : Option Addr} {k0' k1' k2' k3' k5' : Option Value} {newId' : String}
theorem excMatches_own {e : Addr} {oe : Obj} {Q : Bool → Shared → Prop}
    (hC : h.get? C = some (excClassObj nm q C N bs bm hdct sn sub ab col dd k0 k1 k2 k3 k5 newId)) (hC' : h.get? C' = some (excClassObj nm' q' C' N' bs' bm' hdct' sn' sub' ab' col' dd' k0' k1' k2' k3' k5' newId'))
    (he : h.get? e = some oe) (hcls : oe.cls = .ref C) (hbase : bm'.contains (.type "BaseException") = true)
    (hq : Q ((Value.ref C :: bm).contains (.ref C')) ⟨h, g, d, t, os⟩) : wpAny M A (excMatches (.ref e) (.ref C')) Q E ⟨h, g, d, t, os⟩ := by
  have hcB : (Value.ref C' :: bm').contains (.type "BaseException") = true := by rw [List.contains_cons, hbase, Bool.or_true]
  have f := tc_notTuple
  unfold excMatches
  repeat (first | (with_reducible refine wpAny_loadPart_at he ?_; rw [hcls]) | with_reducible refine wpAny_loadPart_at hC' ?_ | (with_reducible refine wpAny_isSubtype_exc hC' ?_; rw [hcB]) | (with_reducible refine wpAny_isSubtype_exc hC ?_) | wp_step)
  cases hb : (Value.ref C :: bm).contains (.ref C') <;> (rw [hb] at hq; wp_walk; exact hq)
end
theorem exc_mro {K : PySem.W.Frag} {C : Addr} {bmB : List Value} {newId : String} {h : Heap} (X : K.In h) {nm q : Str} {N : Addr} {bs bm : List Value} {hdct : Bool} {sn : List Str} {sub : List Value} {ab : Bool} {col : Option Bool} {dd : Option Addr} {k0 k1 k2 k3 k5 : Option Value}
    (hx : PySem.W.excIn K C bmB newId = true) (hC : h.get? C = some (excClassObj nm q C N bs bm hdct sn sub ab col dd k0 k1 k2 k3 k5 newId)) {v : Value} {b : Bool} (e : PySem.W.mroIn K C v = some b) : (Value.ref C :: bm).contains v = b := by
  unfold PySem.W.mroIn PySem.W.clsIn at e
  unfold PySem.W.excIn at hx
  split at hx
  · rename_i dd' cd sl ho
    have := X _ _ ho
    rw [hC] at this
    have z := Option.some.inj this
    unfold excClassObj at z
    injection z with z1 z2 z3 z4
    injection z3 with z3
    subst z3
    rw [ho] at e
    simpa using e
  · cases hx
def XM (X : Cx) (a : Addr) (oe : Obj) : Cx := { X with A := X.A.mark (some (.ref a)), calm := false, pn := (a, oe) :: X.pn, xe := fun _ _ => False }
section
variable {X : Cx} {pins : List (Addr × Obj)} {σ : St} {H H' : Hp} {s s' : Shared} {a C : Addr} {oe : Obj}
theorem Inv.handler (I : Inv X pins σ H s) (he : s.heap.get? a = some oe) (hn : H a = none) (hl : a ≠ X.env.locals) (hf : a ∉ X.fs) (hc : ∀ v, oe.data ≠ .cell v) : Inv (XM X a oe) pins σ H s := by
  have ok := I.ok
  refine ⟨⟨ok.mod, ok.kind, ok.glob, ok.blt, ok.above, ok.inj, ok.has, ok.cab, (fun z => by cases z), ok.frames, ok.stk, ok.exf, ok.bs, ok.bsz, ok.noex, ok.exfs, ok.funs, ok.frf⟩, I.os, I.bare, I.base, I.loc, I.cell, I.free, I.freeC, fun p hp => ?_, I.hok, I.len⟩
  have hp' : p ∈ ((a, oe) :: X.pn) ++ pins := hp
  rcases List.mem_append.mp hp' with z | z
  · rcases List.mem_cons.mp z with z | z
    · subst z; exact ⟨he, hn, hl, hf, hc⟩
    · exact I.pin p (List.mem_append_left _ z)
  · exact I.pin p (List.mem_append_right _ z)
theorem Inv.unhandler (I : Inv (XM X a oe) pins σ H s) (hd : X.calm = true → X.A.handled = none) : Inv X pins σ H s := by
  have ok := I.ok
  refine ⟨⟨ok.mod, ok.kind, ok.glob, ok.blt, ok.above, ok.inj, ok.has, ok.cab, hd, ok.frames, ok.stk, ok.exf, ok.bs, ok.bsz, ok.noex, ok.exfs, ok.funs, ok.frf⟩, I.os, I.bare, I.base, I.loc, I.cell, I.free, I.freeC, fun p hp => I.pin p ?_, I.hok, I.len⟩
  show p ∈ ((a, oe) :: X.pn) ++ pins
  rcases List.mem_append.mp hp with z | z
  · exact List.mem_append_left _ (List.mem_cons_of_mem _ z)
  · exact List.mem_append_right _ z
end
abbrev TH := Addr → Addr → Ends → St → Hp → Prop
def PH (X : Cx) (hs : List ExceptHandler) (th : TH) : Prop :=
  ∀ (pins : List (Addr × Obj)) (s0 s : Shared) (σ : St) (H0 H : Hp) (D : Ends) (a C : Addr), Inv X pins σ H0 s0 → Fly X.prog X.w X.stack H0 s0 H a C s → th a C D σ H →
    wpAny (model X.prog X.w) X.A (handleBy (.ref a) X.env hs) (SP X pins D) X.xe s
def tNoH : TH := fun _ _ _ _ _ => False
theorem ph_never {X : Cx} {hs : List ExceptHandler} : PH X hs tNoH := fun _ _ _ _ _ _ _ _ _ _ _ h => h.elim
def tTry (tb : (St → XK) → TS) (th : TH) : TS := fun D σ H => tb (fun σ' cls _ H' => ∀ a C, cls = .ref C → H' a = none → th a C D σ' H') D σ H
abbrev XT (X : Cx) (pn : List (Addr × Obj)) (xe : Value → Shared → Prop) : Cx := { X with pn := pn, xe := xe }
theorem Inv.toXT {X : Cx} {pins : List (Addr × Obj)} {σ : St} {H : Hp} {s : Shared} (I : Inv X pins σ H s) (xe : Value → Shared → Prop) : Inv (XT X (X.pn ++ pins) xe) [] σ H s := by
  have ok := I.ok
  exact ⟨⟨ok.mod, ok.kind, ok.glob, ok.blt, ok.above, ok.inj, ok.has, ok.cab, ok.hd, ok.frames, ok.stk, ok.exf, ok.bs, ok.bsz, ok.noex, ok.exfs, ok.funs, ok.frf⟩, I.os, I.bare, I.base, I.loc, I.cell, I.free, I.freeC, fun p hp => I.pin p (by simpa using hp), I.hok, I.len⟩
theorem Inv.ofXT {X : Cx} {pins pins' : List (Addr × Obj)} {σ : St} {H : Hp} {s : Shared} {xe : Value → Shared → Prop} (I : Inv (XT X (X.pn ++ pins) xe) pins' σ H s) : Inv X pins σ H s := by
  have ok := I.ok
  exact ⟨⟨ok.mod, ok.kind, ok.glob, ok.blt, ok.above, ok.inj, ok.has, ok.cab, ok.hd, ok.frames, ok.stk, ok.exf, ok.bs, ok.bsz, ok.noex, ok.exfs, ok.funs, ok.frf⟩, I.os, I.bare, I.base, I.loc, I.cell, I.free, I.freeC, fun p hp => I.pin p (List.mem_append_left _ hp), I.hok, I.len⟩
theorem ps_try {X : Cx} {body : List Stmt} {h₀ : ExceptHandler} {hs : List ExceptHandler} {pos : Pos} {tb : (St → XK) → TS} {th : TH} (hfr : X.env.frame = some X.env.locals) (hstk : X.stack = X.env :: X.outer)
    (hb : ∀ (pn : List (Addr × Obj)) (xe : Value → Shared → Prop) (ES : St → XK), LetsP (XT X pn xe) ES → PSs (XT X pn xe) body (tb ES)) (hh : PH X (h₀ :: hs) th) : PS X (.Try body (h₀ :: hs) [] [] pos) (tTry tb th) := by
  intro pins s σ H D I h
  have L : LetsP (XT X (X.pn ++ pins) fun e s₁ => wpAny (model X.prog X.w) X.A (noteFrame e X.env) (fun _ s₂ => wpAny (model X.prog X.w) X.A (setFlight e none) (fun _ s₃ => wpAny (model X.prog X.w) X.A (handleBy e X.env (h₀ :: hs)) (SP X pins D) X.xe s₃) X.xe s₂) X.xe s₁)
      (fun σ' cls _ H' => ∀ a C, cls = .ref C → H' a = none → th a C D σ' H') := by
    refine ⟨fun pins' σ' H1 s1 e s' I1 hx => ?_, PassesOwn.looking⟩
    obtain ⟨a, C, H', rfl, fl, q⟩ := hx
    have J : Inv X pins σ' H1 s1 := Inv.ofXT I1
    have fl' : Fly X.prog X.w X.stack H1 s1 H' a C s' := fl
    obtain ⟨t, B, hf, hB, k1, k2⟩ := id fl'.fl
    have hf' : Heap.FlyingW B (X.env :: X.outer) a (.ref C) (.ref t) s'.heap := hstk ▸ hf
    refine wpAny_looks_onW (by rw [J.ok.frames, hstk]) hfr hf' fun h₄ hheld sm₄ => ?_
    refine wpAny_landsW hheld fun h₅ hf₅ sm₅ => ?_
    have hf₅' : Heap.FlyingW B X.stack a (.ref C) (.ref t) h₅ := hstk.symm ▸ hf₅
    have fl₅ := fl'.moved hf hB k1 k2 hf₅' (sm₄.trans sm₅)
    exact hh pins s1 _ σ' H1 H' D a C J fl₅ (q a C rfl fl₅.notH)
  refine wpAny_Try_except (wpAny_mono (hb _ _ _ L [] s σ H D (I.toXT _) h) (fun f s1 q => ?_) fun _ _ x => x)
  cases f with
  | next => obtain ⟨σ', H', I', q⟩ := q; exact wpAny_execs_nil ⟨σ', H', Inv.ofXT I', q⟩
  | brk => obtain ⟨σ', H', I', q⟩ := q; exact ⟨σ', H', Inv.ofXT I', q⟩
  | cont => obtain ⟨σ', H', I', q⟩ := q; exact ⟨σ', H', Inv.ofXT I', q⟩
  | ret u => obtain ⟨v, σ', H', I', rv, q⟩ := q; exact ⟨v, σ', H', Inv.ofXT I', rv, q⟩
end L2
set_option Elab.async false
set_option linter.all false
set_option maxRecDepth 100000
set_option maxHeartbeats 4000000
namespace L2
open PySem PySem.Spec PyProof.Rows
abbrev FF : Value → Shared → Prop := fun _ _ => False
theorem comp_loop {prog : Program} {w : World} {A : Around} {R : Result → Shared → Prop} {s : Shared} {elt target iter : Expr} {ifs : List Expr} {scope : Scope} {pos : Pos} {it acc : Value} {env : Env} (I : Nat → Shared → Prop)
    (turn : ∀ n s, I n s → wpAny (model prog w) A (pyNext it) (fun r s₁ => match r with
      | none => R (.ok .next) s₁
      | some v => wpAny (model prog w) A (letOwnedTupleGo target it v) (fun _ s₁' => wpAny (model prog w) A (assign target env v) (fun _ s₂ =>
          wpAny (model prog w) A (forIn ifs true fun c r => if r = true then do let ok ← isTrue c env (eval c env); pure (ForInStep.yield ok) else pure (ForInStep.yield r)) (fun ok s₃ =>
            if ok = true then wpAny (model prog w) A (eval elt env) (fun x s₄ =>
              wpAny (model prog w) A (call (.builtin "list.append") [acc, x]) (fun _ s₅ => ∃ m, m < n ∧ I m s₅) FF s₄) FF s₃
            else ∃ m, m < n ∧ I m s₃) FF s₂) FF s₁') FF s₁) FF s)
    (n : Nat) (h : I n s) : codeAny (model prog w) A (.compLoop (.ListComp elt [⟨target, iter, ifs, 0⟩] scope pos) 0 it acc env) R s := by
  refine codeAny_loop rfl I (fun n s hI => ?_) n h
  show wpAny _ A ((compTurn (.ListComp elt [⟨target, iter, ifs, 0⟩] scope pos) 0 it acc env).onRaise (fun x => do noteFrame x env; theTreesLotGoes x)) _ _ s
  refine wpAny_noted ?_
  rw [compTurn_list]
  refine wpAny_bind (wpAny_standAt (wpAny_bind (wpAny_mono (turn n s hI) (fun r s₁ h₁ => ?_) fun _ _ h' => h'.elim)))
  cases r with
  | none => exact wpAny_pure h₁
  | some v =>
    refine wpAny_bind (wpAny_mono h₁ (fun _ s₁' h₁' => ?_) fun _ _ h' => h'.elim)
    refine wpAny_bind (wpAny_mono h₁' (fun _ s₂ h₂ => wpAny_bind (wpAny_mono h₂ (fun ok s₃ h₃ => ?_) fun _ _ h' => h'.elim)) fun _ _ h' => h'.elim)
    cases ok with
    | false => exact wpAny_pure ⟨rfl, h₃⟩
    | true =>
      exact wpAny_bind (wpAny_bind (wpAny_mono h₃ (fun x s₄ h₄ => wpAny_bind (wpAny_mono h₄ (fun _ s₅ h₅ => wpAny_pure (wpAny_pure ⟨rfl, h₅⟩)) fun _ _ h' => h'.elim)) fun _ _ h' => h'.elim))
def PIfs (X : Cx) (ifs : List Expr) (t : TT) : Prop :=
  ∀ (pins : List (Addr × Obj)) (s : Shared) (σ : St) (H : Hp) (Q : Bool → Hp → Prop), Inv X pins σ H s → t σ H Q →
    wpAny (model X.prog X.w) X.A (forIn ifs true fun c r => if r = true then do let ok ← isTrue c X.env (eval c X.env); pure (ForInStep.yield ok) else pure (ForInStep.yield r)) (TP X pins σ Q) X.xe s
def tYes : TT := fun _ H Q => Q true H
theorem pifs_nil {X : Cx} : PIfs X [] tYes := fun _ _ _ H _ I h => wpAny_tests_nil ⟨H, I, h⟩
theorem pifs_one {X : Cx} {c : Expr} {tc : TT} (h : PT X c tc) : PIfs X [c] tc := fun pins s σ H Q I q => wpAny_tests_one (h pins s σ H Q I q)
def XC (X : Cx) (scope : Scope) (cl : List (Str × Addr)) (Nc : List Str) (Cc : Addr) (s : Shared) (H : Hp) (ex : List Addr) (pn : List (Addr × Obj)) : Cx where
  prog := X.prog
  w := X.w
  K := X.K
  mg := X.mg
  base := X.base
  A := X.A
  N := Nc
  s₀ := s
  H₀ := H
  env := compEnvC scope cl Cc X.env
  outer := X.stack
  stack := X.stack
  ex := ex
  fn := fun _ => false
  calm := X.calm
  pn := pn
  xe := FF
structure CompOk (X : Cx) (scope : Scope) (cl : List (Str × Addr)) (Nc : List Str) (nt : Nat) (is : List Nat) : Prop where
  clos : closureFor scope X.env = pure cl
  cell : ∀ y ∈ scope.names, y.2 ≠ .cell
  kind : scope.kind = .function
  names : ∀ y ∈ scope.names, y.2 = .local → scope.names.lookup y.1 = some .local
  sub : ∀ x c, cl.lookup x = some c → X.env.cells.lookup x = some c
  has : ∀ x, ((relabel scope X.env).names.lookup x = some .cell ∨ (relabel scope X.env).names.lookup x = some .free) → ∃ c, cl.lookup x = some c
  len : Nc.length = nt + is.length
  fr : ∀ (j i : Nat), is[j]? = some i → ∃ x, Nc[nt + j]? = some x ∧ X.N[i]? = some x ∧ (X.env.kindOf x = some .cell ∨ X.env.kindOf x = some .free) ∧
    ((relabel scope X.env).names.lookup x = some .cell ∨ (relabel scope X.env).names.lookup x = some .free)
def cStart (nt : Nat) (is : List Nat) (σ : St) : St := List.replicate nt none ++ is.map fun i => (σ[i]?).join
theorem cStart_len (nt : Nat) (is : List Nat) (σ : St) : (cStart nt is σ).length = nt + is.length := by unfold cStart; simp
def tCompW (g : TG) (tt : TT) (te : TE) (J : It) (σ0 : St) (H1 : Hp) (Q : VK) : Prop := ∃ W : Nat → Nat → List V → St → Hp → Prop, (∃ m, W 0 m [] σ0 H1) ∧ ∀ i m ys σc H, W i m ys σc H →
  (J.stop i H ∧ ∀ p, H p = none → Q (.ref p) (upd H p (.lst ys))) ∨
  (J.go i H ∧ ys.length < sizeLine ∧ ∃ N : List V → St → Hp → Prop, (∀ ys' σ' H', N ys' σ' H' → ∃ m', m' < m ∧ W (i + 1) m' ys' σ' H') ∧
    ∀ x H', J.yld i H x H' → g x σc H' fun σ2 H2 => tt σ2 H2 fun b H3 => if b = true then te σ2 H3 fun y H4 => N (ys ++ [y]) σ2 H4 else N ys σ2 H3)
def tComp (nt : Nat) (is : List Nat) (wi : TI) (g : TG) (tt : TT) (te : TE) : TE := fun σ H Q => wi σ H fun J H1 => tCompW g tt te J (cStart nt is σ) H1 Q
section
variable {X : Cx} {scope : Scope} {cl : List (Str × Addr)} {Nc : List Str} {nt : Nat} {is : List Nat} {pins : List (Addr × Obj)} {σ : St} {H : Hp} {s : Shared}
theorem CompOk.start (C : CompOk X scope cl Nc nt is) {fp : List Addr} {s4 : Shared} {Cc : Addr} (I : Inv X pins σ H s) (hfp : ∀ b ∈ fp, FpOk X pins H b) (hfo : ∀ b ∈ fp, b < s.heap.objs.size) (hC : s.heap.objs.size ≤ Cc) (k : ∀ b o, s.heap.get? b = some o → s4.heap.get? b = some o) (hos : s4.os = s.os) (hg : s4.gens = s.gens) (hns : ∃ m, s4.heap.Ns Cc m) :
    Inv (XC X scope cl Nc Cc s H fp (X.pn ++ pins)) [] (cStart nt is σ) H s4 := by
  have ok := I.ok
  have cellO : ∀ x c, cl.lookup x = some c → X.env.cells.lookup x = some c := C.sub
  have nstk : ∀ b : Addr, b ≠ X.env.locals → b ∉ X.fs → b ∉ frs X.stack := fun b h1 h2 z => (List.mem_cons.mp (I.stkSub b z)).elim h1 h2
  have ltn : ∀ {b : Addr}, b < s.heap.objs.size → b ≠ Cc := fun hb z => absurd (Nat.lt_of_lt_of_le hb (z ▸ hC)) (Nat.lt_irrefl _)
  refine ⟨⟨ok.mod, ?_, ok.glob, ok.blt, hC, fun x y c h1 h2 => ok.inj x y c (cellO x c h1) (cellO y c h2), fun x hx => C.has x hx, fun x c hf _ => ?_, ok.hd, ok.frames, .inl rfl, fun b hb => ⟨ltn (hfo b hb), fun x c e => (hfp b hb).2.2.2.2.1 x c (cellO x c e)⟩,
    I.bs, Nat.le_trans ok.bsz I.sz, fun b o e hb => ?_, fun b hb => nstk b (hfp b hb).2.1 (hfp b hb).2.2.1, I.stack, I.stkFree⟩, hos, by rw [hg]; exact I.bare, Un.kept k, ?_, fun x c e => ?_, I.hok.fresh hC, fun x c e => I.freeC x c (cellO x c e), fun p hp => ?_, I.hok.kept k, ?_⟩
  · show (relabel scope X.env).kind = .function
    exact C.kind
  · cases hf
  · obtain ⟨_, _, _, h4, _⟩ := hfp b hb
    rcases h4 with z | z
    · exact ok.noex b o e z
    · exact absurd (Nat.lt_of_lt_of_le (Heap.lt_size (ok.bs b o e).1) z) (Nat.lt_irrefl _)
  · obtain ⟨m, hm⟩ := hns
    refine ⟨m, hm, fun j x v h1 h2 h3 => ?_⟩
    obtain ⟨mo, hno, hl⟩ := I.loc
    unfold cStart at h2
    by_cases hj : j < nt
    · rw [List.getElem?_append_left (by simpa using hj), List.getElem?_replicate] at h2
      rw [if_pos hj] at h2
      cases h2
    · rw [List.getElem?_append_right (by simpa using hj), List.length_replicate, List.getElem?_map] at h2
      cases hi : is[j - nt]? with
      | none => rw [hi] at h2; cases h2
      | some i =>
        rw [hi] at h2
        have h2' : (σ[i]?).join = some v := Option.some.inj h2
        have h2'' : σ[i]? = some (some v) := by
          cases q : σ[i]? with
          | none => rw [q] at h2'; cases h2'
          | some o => rw [q] at h2'; rw [show o = some v from h2']
        obtain ⟨x', e1, e2, e3, e4⟩ := C.fr (j - nt) i hi
        have ej : nt + (j - nt) = j := by omega
        rw [ej] at e1
        have h1' : Nc[j]? = some x := h1
        rw [h1'] at e1
        cases e1
        obtain ⟨u, r, l⟩ := hl i x v e2 h2'' (e3.elim (fun z => .inr (.inl z)) fun z => .inr (.inr z))
        refine ⟨u, r, .inr ⟨e4, ?_⟩⟩
        obtain ⟨c, hc⟩ := C.has x e4
        refine ⟨c, hc, ?_⟩
        rcases l with ⟨kk, _⟩ | ⟨_, c', hc', z⟩
        · rcases e3 with z | z <;> (rw [z] at kk; cases kk)
        · rw [cellO x c hc] at hc'
          cases hc'
          obtain ⟨o, ho, hd⟩ := z
          exact ⟨o, k _ _ ho, hd⟩
  · obtain ⟨v, o, ho, hd⟩ := I.cell x c (cellO x c e)
    exact ⟨v, o, k _ _ ho, hd⟩
  · have hp0 : p ∈ (X.pn ++ pins) ++ [] := hp
    have hp' : p ∈ X.pn ++ pins := by rwa [List.append_nil] at hp0
    obtain ⟨e, n, ne, nf, d⟩ := I.pin p hp'
    exact ⟨k _ _ e, n, ltn (Heap.lt_size e), nstk p.1 ne nf, d⟩
  · rw [cStart_len]; exact C.len.symm
theorem Inv.nopins (I : Inv X pins σ H s) : Inv X [] σ H s := I.pins_of fun p hp => by cases hp
theorem comp_core {elt tg iter : Expr} {ifs : List Expr} {pos : Pos} {wi : TI} {g : TG} {tt : TT} {te : TE} {Q : VK} {RR : Value → Addr → Result → Shared → Prop} (hc : X.calm = true) (C : CompOk X scope cl Nc nt is) (hi : PI X tg iter wi)
    (hg : ∀ Cc s H ex pn, PG (XC X scope cl Nc Cc s H ex pn) tg g) (ht : ∀ Cc s H ex pn, PIfs (XC X scope cl Nc Cc s H ex pn) ifs tt) (he : ∀ Cc s H ex pn, PE (XC X scope cl Nc Cc s H ex pn) elt te)
    (I : Inv X pins σ H s) (h : tComp nt is wi g tt te σ H Q)
    (fin : ∀ (D Cc : Addr) (Hd : Hp) (s4 : Shared), Inv X pins σ Hd s4 → (∃ m, s4.heap.Ns Cc m) → FpOk X pins Hd Cc → Q (.ref D) Hd → RR (.ref D) Cc (.ok .next) s4) :
    wpAny (model X.prog X.w) X.A (eval iter X.env) (fun x s₁ => wpAny (model X.prog X.w) X.A (pyIter x) (fun it s₂ => wpAny (model X.prog X.w) X.A (newList []) (fun acc s₃ =>
      wpAny (model X.prog X.w) X.A (newFunctionEnv scope X.env.globals cl [] X.env.qual none .none (some X.env)) (fun cenv s₄ =>
        codeAny (model X.prog X.w) X.A (.compStart (.ListComp elt [⟨tg, iter, ifs, 0⟩] scope pos) 0 it acc { cenv with scope := relabel scope X.env }) (RR acc cenv.locals) s₄) X.xe s₃) X.xe s₂) X.xe s₁) X.xe s := by
  refine thn (hi pins s σ H _ I h) fun v s1 h1 => thn h1 fun itv s2 h2 => ?_
  obtain ⟨it, fp, tn, J, H2, e, I2, T, st2, f2, W, ⟨m0, w0⟩, turn⟩ := h2
  subst e
  refine wpAny_newObj_type (wpAny_newFunctionEnv C.cell (by intro y hy; simp at hy) (fun h₁ hns₁ hsb₁ => ?_) C.kind)
  dsimp only at hns₁ hsb₁ ⊢
  generalize hHe : s2.heap.push { cls := .type "list", dict := none, data := .seq ([] : List Value).toArray } = He at hns₁ hsb₁ ⊢
  have hCs : He.objs.size = s2.heap.objs.size + 1 := by rw [← hHe, Heap.size_push]
  have hDC : s2.heap.objs.size ≠ He.objs.size := by rw [hCs]; exact Nat.ne_of_lt (Nat.lt_succ_self _)
  have hCle : s2.heap.objs.size ≤ He.objs.size := by rw [hCs]; exact Nat.le_succ _
  have ltC : ∀ b, b < s2.heap.objs.size → b ≠ He.objs.size := fun b hb => by rw [hCs]; exact Nat.ne_of_lt (Nat.lt_succ_of_lt hb)
  have old : ∀ b o, s2.heap.get? b = some o → h₁.get? b = some o := fun b o e => hsb₁.extBut b o (ltC b (Heap.lt_size e)) (Heap.get?_push_of_some _ (hHe ▸ Heap.get?_push_of_some _ e))
  have hacc : h₁.get? s2.heap.objs.size = some { cls := .type "list", data := .seq ([] : List Value).toArray } := hsb₁.extBut _ _ hDC (Heap.get?_push_of_some _ (hHe ▸ Heap.get?_push_size _ rfl))
  have hfo : ∀ b ∈ fp, b < s2.heap.objs.size := fun b hb => by obtain ⟨o, e, _⟩ := T.obj _ _ st2 b hb; exact Heap.lt_size e
  have hDf : ∀ b ∈ fp, b ≠ s2.heap.objs.size := fun b hb => Nat.ne_of_lt (hfo b hb)
  have hDst : s2.heap.objs.size ∉ frs X.stack := fun hm => by
    obtain ⟨_, o, ho, _⟩ := I2.stack.mem hm
    exact absurd (Heap.lt_size ho) (Nat.lt_irrefl _)
  have loop : ∀ s₃ : Shared, s₃ = { s2 with heap := h₁, toks := s2.toks + ([] : List (Str × Value)).length } →
      codeAny (model X.prog X.w) X.A (.compLoop (.ListComp elt [⟨tg, iter, ifs, 0⟩] scope pos) 0 (.ref it) (.ref s2.heap.objs.size) (compEnvC scope cl He.objs.size X.env))
        (RR (.ref s2.heap.objs.size) He.objs.size) s₃ := by
    rintro s₃ rfl
    have IC : Inv (XC X scope cl Nc He.objs.size s2 H2 fp (X.pn ++ pins)) [] (cStart nt is σ) H2 { s2 with heap := h₁, toks := s2.toks + ([] : List (Str × Value)).length } :=
      C.start I2 f2 hfo hCle old rfl rfl ⟨_, hns₁⟩
    have fpok : ∀ {pins' : List (Addr × Obj)} {H' : Hp}, (∀ b ∈ fp, H' b = none) → (∀ p ∈ pins', p.1 = s2.heap.objs.size) → ∀ b ∈ fp, FpOk (XC X scope cl Nc He.objs.size s2 H2 fp (X.pn ++ pins)) pins' H' b := fun {pins' H'} hn hp b hb => by
      obtain ⟨z0, z1, z2, z3, z4, z5⟩ := f2 b hb
      refine ⟨hn b hb, ltC b (hfo b hb), fun z => (List.mem_cons.mp (I2.stkSub b z)).elim z1 z2, .inl hb, fun x c e => z4 x c (C.sub x c e), fun p hp' => ?_⟩
      rcases List.mem_append.mp hp' with z | z
      · exact z5 p z
      · rw [hp p z]; exact (hDf b hb).symm
    refine comp_loop (fun n s' => ∃ i ys σc Hc, Inv (XC X scope cl Nc He.objs.size s2 H2 fp (X.pn ++ pins)) [] σc Hc s' ∧ tn i s'.heap ∧ (∀ b ∈ fp, Hc b = none) ∧ Hc s2.heap.objs.size = none ∧
      (∃ (its : List Value) (k : Nat), Vals ys its ∧ s'.heap.get? s2.heap.objs.size = some { cls := .type "list", data := .seq its.toArray k }) ∧ ys.length ≤ sizeLine ∧ W i n ys σc Hc) ?_ m0
      ⟨0, [], _, H2, IC, T.keep _ _ _ st2 fun b hb o e => old b o e, fun b hb => (f2 b hb).1, I2.hok.fresh (Nat.le_refl _), ⟨[], 0, .nil, hacc⟩, Nat.zero_le _, w0⟩
    rintro n s3 ⟨i, ys, σc, Hc, I3, st3, fr3, hD3, ⟨its, kk, rv, hDo⟩, hyl, w3⟩
    have IP : Inv (XC X scope cl Nc He.objs.size s2 H2 fp (X.pn ++ pins)) [(s2.heap.objs.size, { cls := .type "list", data := .seq its.toArray kk })] σc Hc s3 := I3.pins_of fun p hp => by
      have e : p = (s2.heap.objs.size, { cls := .type "list", data := .seq its.toArray kk }) := by simpa using hp
      subst e
      exact ⟨hDo, hD3, hDC, hDst, fun v z => nomatch z⟩
    have hpd : ∀ p ∈ [((s2.heap.objs.size, { cls := .type "list", data := .seq its.toArray kk }) : Addr × Obj)], p.1 = s2.heap.objs.size := fun p hp => by
      have e : p = (s2.heap.objs.size, { cls := .type "list", data := .seq its.toArray kk }) := by simpa using hp
      rw [e]
    have ofPin : ∀ {pl : List (Addr × Obj)} {σ' : St} {H' : Hp} {s' : Shared}, Inv (XC X scope cl Nc He.objs.size s2 H2 fp (X.pn ++ pins)) ([(s2.heap.objs.size, { cls := .type "list", data := .seq its.toArray kk })] ++ pl) σ' H' s' →
        s'.heap.get? s2.heap.objs.size = some { cls := .type "list", data := .seq its.toArray kk } ∧ H' s2.heap.objs.size = none := fun {pl σ' H' s'} J =>
      let z := J.pin (s2.heap.objs.size, { cls := .type "list", data := .seq its.toArray kk }) (List.mem_append_right _ (List.mem_append_left _ (by simp)))
      ⟨z.1, z.2.1⟩
    rcases turn i n ys σc Hc w3 with ⟨stop, qn⟩ | ⟨go, hlen, N, hN, step⟩
    · refine thn (T.done (XC X scope cl Nc He.objs.size s2 H2 fp (X.pn ++ pins)) rfl rfl rfl hc i _ s3 σc Hc FF IP (fpok fr3 hpd) st3 stop) fun r s4 ⟨hr, I4⟩ => ?_
      subst hr
      obtain ⟨m4, hn4, _⟩ := I4.loc
      obtain ⟨eD, nD⟩ := ofPin (pl := []) (by simpa using I4)
      have dne : ∀ b u, Hc b = some u → b ≠ s2.heap.objs.size := fun b u e z => by rw [z, nD] at e; cases e
      have hok' : HOk X.prog X.w (upd Hc s2.heap.objs.size (.lst ys)) s4.heap := fun b u e => by
        by_cases hb : b = s2.heap.objs.size
        · subst hb
          rw [upd_same] at e; cases e
          exact ⟨hyl, its, kk, rv, eD⟩
        · rw [upd_ne hb] at e
          exact (I4.hok b u e).stay (fun c v hcc q => q) (fun c q => by rw [upd_ne (dne c _ q)]; exact q) fun c xs q => by rw [upd_ne (dne c _ q)]; exact q
      have un : Un (frs X.stack) fp H2 (upd Hc s2.heap.objs.size (.lst ys)) s2.heap s4.heap := by
        have ub : Un (frs X.stack) fp H2 Hc s2.heap s4.heap := I4.base
        refine ⟨ub.keep, ub.slot, fun b o e n hx => ?_, ub.there, fun b xs e => ?_, fun b o u e => ?_, fun b ps e => ?_⟩
        · rw [upd_ne (Nat.ne_of_lt (Heap.lt_size e))]; exact ub.free b o e n hx
        · have q := ub.tups b xs e
          rw [upd_ne (dne b _ q)]; exact q
        · have q := ub.frzs b o u e
          rw [upd_ne (dne b _ q)]; exact q
        · obtain ⟨m, q⟩ := ub.tbls b ps e
          exact ⟨m, by rw [upd_ne (dne b _ q)]; exact q⟩
      have I5 : Inv X pins σ (upd Hc s2.heap.objs.size (.lst ys)) s4 := I2.call' (ch := fp) I4.os un hok' I4.bare fun b hb => by
        obtain ⟨z0, z1, z2, z3, z4, z5⟩ := f2 b hb
        exact ⟨z3, z1, z4, z5⟩
      have hCn : upd Hc s2.heap.objs.size (.lst ys) He.objs.size = none := by
        rw [upd_ne (Ne.symm hDC)]; exact I4.free
      exact fin _ _ _ s4 I5 ⟨m4, hn4⟩ (I2.fpOk hCle hCn) (qn _ nD)
    · refine thn (T.item (XC X scope cl Nc He.objs.size s2 H2 fp (X.pn ++ pins)) rfl rfl rfl hc i _ s3 σc Hc FF IP (fpok fr3 hpd) st3 go) fun r s4 ⟨u, hr, h4⟩ => ?_
      subst hr
      refine thn h4 fun _ s5 ⟨x, H5, I5, r5, y5, st5, fr5⟩ => ?_
      have I5' := I5.pinned (fpok fr5 hpd) (T.obj _ _ st5)
      have back : ∀ {σ' : St} {H' : Hp} {s' : Shared}, Inv (XC X scope cl Nc He.objs.size s2 H2 fp (X.pn ++ pins)) ([(s2.heap.objs.size, { cls := .type "list", data := .seq its.toArray kk })] ++ pinsAt fp s5.heap) σ' H' s' → tn (i + 1) s'.heap ∧ ∀ b ∈ fp, H' b = none := fun {σ' H' s'} J => by
        refine ⟨T.keep _ _ _ st5 fun b hb o e => (J.pin (b, o) (List.mem_append_right _ (List.mem_append_right _ (mem_pinsAt hb e)))).1, fun b hb => ?_⟩
        obtain ⟨o, e, d⟩ := T.obj _ _ st5 b hb
        exact (J.pin (b, o) (List.mem_append_right _ (List.mem_append_right _ (mem_pinsAt hb e)))).2.1
      refine thn (hg _ _ _ _ _ _ s5 σc H5 x u _ I5' r5 (step x H5 y5)) fun _ s6 ⟨σ6, H6, I6, q6⟩ => ?_
      refine thn (ht _ _ _ _ _ _ s6 σ6 H6 _ I6 q6) fun ok s7 ⟨H7, I7, q7⟩ => ?_
      cases ok with
      | false =>
        rw [if_neg Bool.false_ne_true] at q7 ⊢
        obtain ⟨m', hm, w7⟩ := hN _ _ _ q7
        obtain ⟨t7, n7⟩ := back I7
        obtain ⟨eD, nD⟩ := ofPin I7
        exact ⟨m', hm, i + 1, ys, σ6, H7, Inv.nopins I7, t7, n7, nD, ⟨its, kk, rv, eD⟩, hyl, w7⟩
      | true =>
        rw [if_pos rfl] at q7 ⊢
        refine thn (he _ _ _ _ _ _ s7 σ6 H7 _ I7 q7) fun uy s8 ⟨y, H8, I8, ry, q8⟩ => ?_
        obtain ⟨m', hm, w8⟩ := hN _ _ _ q8
        obtain ⟨t8, n8⟩ := back I8
        obtain ⟨eD, nD⟩ := ofPin I8
        refine append_at (hsz := by rw [List.size_toArray, ← rv.length]; exact hyl) eD fun h9 hs9 eD9 => ?_
        have I9 : Inv (XC X scope cl Nc He.objs.size s2 H2 fp (X.pn ++ pins)) [] σ6 H8 { s8 with heap := h9 } := (Inv.nopins I8).turned (it := s2.heap.objs.size) (t' := s8.toks) (fun b o hb e => (hs9.2 b hb).trans e) nD hDC (.inr (Nat.le_refl _)) (fun x c e z => by
            obtain ⟨v, q⟩ := I2.cell x c (C.sub x c e)
            exact absurd q.lt (by rw [z]; exact Nat.lt_irrefl _)) (fun p hp z => by
            have hp0 : p ∈ (X.pn ++ pins) ++ [] := hp
            have hp' : p ∈ X.pn ++ pins := by rwa [List.append_nil] at hp0
            exact absurd (Heap.lt_size (I2.pin p hp').1) (by rw [z]; exact Nat.lt_irrefl _))
        refine ⟨m', hm, i + 1, ys ++ [y], σ6, H8, I9, T.keep _ _ _ t8 fun b hb o e => (hs9.2 b (hDf b hb)).trans e, n8, nD, ⟨its ++ [uy], kk + 1, rv.append (.cons ry .nil), by rw [eD9]; simp⟩, ?_, w8⟩
        rw [List.length_append, List.length_singleton]
        omega
  exact codeAny_compStart_list (loop _ rfl) (T.self _ 0 _ _ _ (T.keep _ _ _ st2 fun b hb o e => old b o e) (loop _ rfl))
theorem pe_comp {elt tg iter : Expr} {ifs : List Expr} {pos : Pos} {wi : TI} {g : TG} {tt : TT} {te : TE} (hc : X.calm = true) (C : CompOk X scope cl Nc nt is) (hi : PI X tg iter wi)
    (hg : ∀ Cc s H ex pn, PG (XC X scope cl Nc Cc s H ex pn) tg g) (ht : ∀ Cc s H ex pn, PIfs (XC X scope cl Nc Cc s H ex pn) ifs tt) (he : ∀ Cc s H ex pn, PE (XC X scope cl Nc Cc s H ex pn) elt te)
    (hs : ∀ x, foldedSetIterable iter X.env x = pure x := by intro _; rfl) : PE X (.ListComp elt [⟨tg, iter, ifs, 0⟩] scope pos) (tComp nt is wi g tt te) := by
  intro pins s σ H Q I h
  rw [eval_ListComp]
  refine wpAny_comprehension_free (use := none) rfl hs C.clos C.kind C.names (comp_core (RR := fun acc Cc => compPost (model X.prog X.w) X.A X.xe none (EP X pins σ Q) acc Cc) hc C hi hg ht he I h fun D Cc Hd s4 I4 hm hf q => ?_)
  obtain ⟨m, hm⟩ := hm
  obtain ⟨z0, z1, z2, z3, z4, z5⟩ := hf
  exact ⟨m, hm, fun h' hs' => ⟨.ref D, Hd, I4.turned (it := Cc) (t' := s4.toks) (fun b o hb e => (hs'.2 b hb).trans e) z0 z1 z3 z4 z5, rfl, q⟩⟩
def tSetC (i : Nat) (te : TE) : TS := fun D σ H => te σ H fun v H1 => D.nx (σ.set i (some v)) H1
theorem ps_setC {elt tg iter : Expr} {ifs : List Expr} {pos spos py : Pos} {y : Str} {i : Nat} {wi : TI} {g : TG} {tt : TT} {te : TE} (hc : X.calm = true) (C : CompOk X scope cl Nc nt is) (hN : X.N.Nodup) (hy : X.N[i]? = some y) (hl : X.env.scope.names.lookup y = some .local)
    (hsw : swapsWith (.ListComp elt [⟨tg, iter, ifs, 0⟩] scope pos) (some (.Name y py)) spos.line X.env = pure true) (hi : PI X tg iter wi)
    (hg : ∀ Cc s H ex pn, PG (XC X scope cl Nc Cc s H ex pn) tg g) (ht : ∀ Cc s H ex pn, PIfs (XC X scope cl Nc Cc s H ex pn) ifs tt) (he : ∀ Cc s H ex pn, PE (XC X scope cl Nc Cc s H ex pn) elt te)
    (hs : ∀ x, foldedSetIterable iter X.env x = pure x := by intro _; rfl) : PS X (.Assign [.Name y py] (.ListComp elt [⟨tg, iter, ifs, 0⟩] scope pos) spos) (tSetC i (tComp nt is wi g tt te)) := by
  intro pins s σ H D I h
  rw [exec_Assign_Name_used _ _ _ _ hsw]
  refine wpAny_bind (wpAny_standAt (wpAny_bind ?_))
  show wpAny _ X.A (do let _ ← comprehension (.ListComp elt [⟨tg, iter, ifs, 0⟩] scope pos) scope X.env _ (newList []) false (eval iter X.env) (some (assign (.Name y py) X.env))) _ _ s
  refine wpAny_bind (wpAny_mono (wpAny_comprehension_free (use := some (assign (.Name y py) X.env)) (Q := fun _ s' => SP X pins D .next s') rfl hs C.clos C.kind C.names
    (comp_core (RR := fun acc Cc => compPost (model X.prog X.w) X.A X.xe (some (assign (.Name y py) X.env)) (fun _ s' => SP X pins D .next s') acc Cc) hc C hi hg ht he I h fun Da Cc Hd s4 I4 hm hf q => ?_)) (fun _ s' hq => wpAny_pure (wpAny_pure hq)) fun _ _ e => e)
  obtain ⟨m, hm⟩ := hm
  obtain ⟨z0, z1, z2, z3, z4, z5⟩ := hf
  show wpAny _ X.A (assign (.Name y py) X.env (.ref Da)) _ _ s4
  refine wpAny_assign_Name (store_ok2 (v := .ref Da) I4 hN hy (Or.inl hl) rfl (fun s5 I5 hsb => ?_) (.inr hl))
  have ne : ∃ a, Heap.SameBut a s4.heap s5.heap ∧ Cc ≠ a := by
    obtain ⟨a, hsb, ha⟩ := hsb
    refine ⟨a, hsb, ?_⟩
    rcases ha with ha | ha
    · rw [ha]; exact z1
    · exact (z4 y a ha).symm
  obtain ⟨a, hsb, hne⟩ := ne
  exact ⟨m, hm.sameBut hsb hne, fun h' hs' => ⟨_, Hd, I5.turned (it := Cc) (t' := s5.toks) (fun b o hb e => (hs'.2 b hb).trans e) z0 z1 z3 z4 z5, q⟩⟩
end
theorem comp_list {K : PySem.W.Frag} {a : Addr} {xs : List V} {g : TG} {tt : TT} {te : TE} {Q : VK} {σc : St} {H : Hp} (Pv : Nat → List V → St → Hp → Prop) (h0 : Pv 0 [] σc H) (hz : xs.length ≤ sizeLine) (hl : ∀ i ys σ H, i ≤ xs.length → Pv i ys σ H → SqL K H a xs) (hy : ∀ i ys σ H, Pv i ys σ H → ys.length ≤ i)
    (hs : ∀ i x ys σ H, xs[i]? = some x → Pv i ys σ H → g x σ H fun σ2 H2 => tt σ2 H2 fun b H3 => if b = true then te σ2 H3 fun y H4 => Pv (i + 1) (ys ++ [y]) σ2 H4 else Pv (i + 1) ys σ2 H3)
    (hd : ∀ ys σ H, Pv xs.length ys σ H → ∀ p, H p = none → Q (.ref p) (upd H p (.lst ys))) :
    tCompW g tt te (Itl K a) σc H Q := by
  refine ⟨fun i m ys σ H => m = xs.length - i ∧ i ≤ xs.length ∧ Pv i ys σ H, ⟨xs.length, by simp, Nat.zero_le _, h0⟩, ?_⟩
  rintro i m ys σ H ⟨rfl, hi, p⟩
  have q := hl i ys σ H hi p
  by_cases hlt : i < xs.length
  · refine .inr ⟨⟨xs, xs[i], q, by simp [hlt]⟩, Nat.lt_of_le_of_lt (hy i ys σ H p) (Nat.lt_of_lt_of_le hlt hz), Pv (i + 1), fun ys' σ' H' p' => ⟨xs.length - (i + 1), by omega, rfl, hlt, p'⟩, fun x H' y => ?_⟩
    obtain ⟨e, y⟩ := y
    subst e
    exact hs i x ys σ _ (y xs q) p
  · have e : i = xs.length := by omega
    subst e
    exact .inl ⟨⟨xs, q, Nat.le_refl _⟩, hd ys σ H p⟩
theorem comp_range {lo : Int} {n : Nat} {g : TG} {tt : TT} {te : TE} {Q : VK} {σc : St} {H : Hp} (Pv : Nat → List V → St → Hp → Prop) (h0 : Pv 0 [] σc H) (hz : n ≤ sizeLine) (hy : ∀ i ys σ H, Pv i ys σ H → ys.length ≤ i)
    (hs : ∀ i ys σ H, i < n → Pv i ys σ H → g (.int (lo + i)) σ H fun σ2 H2 => tt σ2 H2 fun b H3 => if b = true then te σ2 H3 fun y H4 => Pv (i + 1) (ys ++ [y]) σ2 H4 else Pv (i + 1) ys σ2 H3)
    (hd : ∀ ys σ H, Pv n ys σ H → ∀ p, H p = none → Q (.ref p) (upd H p (.lst ys))) :
    tCompW g tt te (Itr lo n) σc H Q := by
  refine ⟨fun i m ys σ H => m = n - i ∧ i ≤ n ∧ Pv i ys σ H, ⟨n, by simp, Nat.zero_le _, h0⟩, ?_⟩
  rintro i m ys σ H ⟨rfl, hi, p⟩
  by_cases hlt : i < n
  · refine .inr ⟨hlt, Nat.lt_of_le_of_lt (hy i ys σ H p) (Nat.lt_of_lt_of_le hlt hz), Pv (i + 1), fun ys' σ' H' p' => ⟨n - (i + 1), by omega, rfl, hlt, p'⟩, fun x H' y => ?_⟩
    obtain ⟨e, y⟩ := y
    subst e y
    exact hs i ys σ _ hlt p
  · have e : i = n := by omega
    subst e
    exact .inl ⟨Nat.le_refl _, hd ys σ H p⟩
end L2
set_option Elab.async false
set_option linter.all false
set_option maxRecDepth 100000
set_option maxHeartbeats 4000000
namespace L2
open PySem PySem.Spec PyProof.Rows
theorem small_text {i : Int} (h0 : 0 ≤ i) (h1 : i < 100) : (Str.ofString (toString i)).length ≤ 10 := by
  have e := int_text_length_le10 (a := i) (k := 2) (by decide) (by omega)
  rw [PySem.ofString_length]
  omega
theorem small_log {i : Int} (h0 : 0 ≤ i) (h1 : i < 100) : i.natAbs.log2 < 1920 := by
  have h2 : i.natAbs < 2 ^ 7 := by omega
  by_cases h3 : i.natAbs = 0
  · rw [h3]; decide
  · have := (Nat.log2_lt h3).mpr h2
    omega
theorem pe_fstr {X : Cx} {a b : Str} {v : Expr} {tv : TE} {j1 j2 : Nat} {p1 p2 p3 pos : Pos} (hv : PE X v tv) (ha : a.length ≤ 1000) (hb : b.length ≤ 1000) :
    PE X (.JoinedStr [.Constant (.str a) j1 p1, .FormattedValue v (-1) none p2, .Constant (.str b) j2 p3] pos) (fun σ H Q => tv σ H fun x H1 => ∃ i : Int, x = .int i ∧ 0 ≤ i ∧ i < 100 ∧ ∀ m, Q (.str m) H1) := by
  intro pins s σ H Q I h
  have hz : sizeLine = 16777216 := sizeLine_eq
  refine JoinedStr_many (joinParts_cons (Calls.Constant_str ⟨?_, joinParts_cons (FormattedValue_plain (thn (hv pins _ σ H _ (I.tok _) h) fun u s1 ⟨x, H1, I1, r1, i, ex, h0, h1, q⟩ => ?_))⟩))
  · rw [strLen_append]
    have : Str.empty.length = 0 := rfl
    omega
  · subst ex
    obtain ⟨t, rfl⟩ := r1
    have e1 := small_text h0 h1
    have e0 : Str.empty.length = 0 := rfl
    refine formatField_int_small (small_log h0 h1) ⟨?_, joinParts_cons (Calls.Constant_str ⟨?_, joinParts_nil ⟨.str _, H1, (I1.tok _).tok _ |>.tok _, ⟨_, rfl⟩, q _⟩ ?_⟩)⟩
    · rw [strLen_append, strLen_append]; omega
    · rw [strLen_append, strLen_append, strLen_append]; omega
    · rw [strLen_append, strLen_append, strLen_append]; omega
def Ite (K : PySem.W.Frag) (a : Addr) : It :=
  ⟨fun i H => ∃ xs x, SqL K H a xs ∧ xs[i]? = some x, fun i H x H' => ∃ p y, H p = none ∧ (∀ xs, SqL K H a xs → xs[i]? = some y) ∧ H' = upd H p (.tup [.int i, y]) ∧ x = .ref p, fun i H => ∃ xs, SqL K H a xs ∧ xs.length ≤ i⟩
theorem turn_enum {P : Program} {w : World} {K : PySem.W.Frag} {elts : List Expr} {x1} {tp : Pos} (a e it : Addr) (hne : e ≠ it) : Turn P w K (.Tuple elts x1 tp) (Ite K a) [e, it] e (fun i h => (∃ old, IsEnum h e it i old) ∧ h.IsListIter it a i) where
  mem := by simp
  obj := fun i h st b hb => by
    obtain ⟨⟨old, he⟩, o, ho, hc, hd⟩ := st
    have hb' : b = e ∨ b = it := by simpa using hb
    rcases hb' with rfl | rfl
    · exact ⟨_, he, fun v z => nomatch z⟩
    · exact ⟨o, ho, fun v z => by rw [hd] at z; cases z⟩
  keep := fun i h h' st k => by
    obtain ⟨⟨old, he⟩, hit⟩ := st
    exact ⟨⟨old, k e (by simp) _ he⟩, hit.at fun o x => k it (by simp) o x⟩
  item := fun X eP ew eK hc i pins s σ H E I hf st go => by
    subst eP ew eK
    obtain ⟨⟨old, he⟩, hit⟩ := st
    obtain ⟨xs, x, hq, hx⟩ := go
    obtain ⟨its, rv, p, hz⟩ := I.list hq
    obtain ⟨u, hu, ru⟩ := rv.get hx
    refine wpAny_pyNext_enum_item he hit p.isList (x := u) (by simpa using hu) hne fun h' ho hit' hT hsz hk => ⟨_, rfl, ?_⟩
    refine wpAny_letOwnedTupleGo_enum ho fun h'' he'' hs'' => ?_
    have fr : H s.heap.objs.size = none := I.hok.fresh (Nat.le_refl _)
    have elt : e < s.heap.objs.size := Heap.lt_size he
    have ilt : it < s.heap.objs.size := by obtain ⟨o, ho, _⟩ := hit; exact Heap.lt_size ho
    have kp : ∀ b o, b ≠ e → b ≠ it → s.heap.get? b = some o → h''.get? b = some o := fun b o h1 h2 q => (hs''.2 b h1).trans (hk b o h1 h2 q)
    have hT' : h''.get? s.heap.objs.size = some { cls := .type "tuple", data := .seq #[.int i s.toks, u] } := (hs''.2 _ (Nat.ne_of_gt elt)).trans hT
    have tne : ∀ b w', H b = some w' → b ≠ e ∧ b ≠ it := fun b w' q => ⟨(fun z => by rw [z, (hf e (by simp)).1] at q; cases q), (fun z => by rw [z, (hf it (by simp)).1] at q; cases q)⟩
    have fne : ∀ b w', H b = some w' → b ≠ s.heap.objs.size := fun b w' q z => by rw [z, fr] at q; cases q
    have hok' : HOk X.prog X.w (upd H s.heap.objs.size (.tup [.int i, x])) h'' := fun b w' q => by
      by_cases hb : b = s.heap.objs.size
      · subst hb
        rw [upd_same] at q; cases q
        exact ⟨by show 2 ≤ sizeLine; decide, [.int i s.toks, u], .cons ⟨_, rfl⟩ (.cons ru .nil), ⟨_, hT', rfl, _, rfl⟩⟩
      · rw [upd_ne hb] at q
        refine (I.hok b w' q).stay (fun c v hcc z => ?_) (fun c z => by rw [upd_ne (fne c _ z)]; exact z) fun c ys z => by rw [upd_ne (fne c _ z)]; exact z
        rcases hcc with zz | zz
        · subst zz; exact kp c v (tne c _ q).1 (tne c _ q).2 z
        · exact kp c v (tne c _ zz).1 (tne c _ zz).2 z
    have chs : ∀ b ∈ [e, it], (b ∈ X.ex ∨ X.s₀.heap.objs.size ≤ b) ∧ b ≠ X.env.locals ∧ (∀ x c, X.env.cells.lookup x = some c → c ≠ b) ∧ ∀ p ∈ X.pn ++ pins, p.1 ≠ b := fun b hb => by
      obtain ⟨z0, z1, z2, z3, z4, z5⟩ := hf b hb
      exact ⟨z3, z1, z4, z5⟩
    have nch : ∀ b : Addr, b ∉ [e, it] → b ≠ e ∧ b ≠ it := fun b hb => ⟨fun z => hb (by simp [z]), fun z => hb (by simp [z])⟩
    have I' : Inv X pins σ (upd H s.heap.objs.size (.tup [.int i, x])) { s with heap := h'', toks := s.toks + 1 } := by
      refine I.step (g' := s.gens) (t' := s.toks + 1) (d' := s.drawn) (ch := [e, it]) chs (fun b o _ _ hb q _ => kp b o (nch b hb).1 (nch b hb).2 q) (fun b o _ _ hb q _ => ⟨o.slots, kp b o (nch b hb).1 (nch b hb).2 q⟩)
        (fun b o hb q n => by rw [upd_ne (Nat.ne_of_lt (Heap.lt_size q))]; exact n) (fun b o hb q => ⟨o, kp b o (nch b hb).1 (nch b hb).2 q⟩) (fun b ys q => by rw [upd_ne (fne b _ q)]; exact q) (fun b o v q => by rw [upd_ne (fne b _ q)]; exact q)
        (fun b ps q => ⟨#[], by rw [upd_ne (fne b _ q), q]; simp⟩) (fun m hm => ?_) hok' I.bare
      obtain ⟨o, es, ep, ho', r⟩ := hm
      exact ⟨o, es, ep, kp _ o (Ne.symm (hf e (by simp)).2.1) (Ne.symm (hf it (by simp)).2.1) ho', r⟩
    refine ⟨.ref s.heap.objs.size, _, I', rfl, ⟨_, x, fr, fun ys hys => ?_, rfl, rfl⟩, ⟨⟨_, by simpa using he''⟩, hit'.at fun o z => (hs''.2 it (Ne.symm hne)).trans z⟩, fun b hb => ?_⟩
    · rw [← I.list_inj hq hys]; exact hx
    · have hb' : b = e ∨ b = it := by simpa using hb
      rw [upd_ne (by rcases hb' with z | z <;> (subst z; first | exact Nat.ne_of_lt elt | exact Nat.ne_of_lt ilt))]
      exact (hf b hb).1
  done := fun X eP ew eK hc i pins s σ H E I hf st stop => by
    subst eP ew eK
    obtain ⟨⟨old, he⟩, hit⟩ := st
    obtain ⟨xs, hq, hl⟩ := stop
    obtain ⟨its, rv, p, hz⟩ := I.list hq
    refine wpAny_pyNext_enum_end (I.ok.hd hc) he hit p.isList (by simp; have := rv.length; omega) fun h' hx => ⟨rfl, ?_⟩
    obtain ⟨z0, z1, z2, z3, z4, z5⟩ := hf it (by simp)
    exact I.turned (it := it) (t' := s.toks) (fun b o hb q => hx b o hb q) z0 z1 z3 z4 z5
  self := fun A i s Q E st q => by
    obtain ⟨⟨old, he⟩, _⟩ := st
    exact wpAny_pyIter_enum he q
def iEnum (K : PySem.W.Frag) (ta : TA) : TI := fun σ H R => ta σ H fun vs H1 => ∃ a, vs = [.ref a] ∧ (∃ xs, SqL K H1 a xs) ∧ R (Ite K a) H1
theorem pi_enum {X : Cx} {a : Expr} {ta : TA} {p pos : Pos} {elts : List Expr} {x1} {tp : Pos} (hg : Gl X "enumerate") (hm : X.mg "enumerate" = none) (ha : PA X [a] ta) (hs : starEach [a] X.env = [(false, eval a X.env)] := by rfl) :
    PI X (.Tuple elts x1 tp) (.Call (.Name "enumerate" p) [a] [] pos) (iEnum X.K ta) := by
  intro pins s σ H R I h
  refine Call_ (ld_blt I hg hm boot_enumerate (PyProof.Rows.callWith_type1 (thn (ha pos pins s σ H _ I h) fun us s1 ⟨vs, H1, I1, r1, q1⟩ => ?_) hs rfl))
  obtain ⟨l, e, ⟨xs, hq⟩, q⟩ := q1
  subst e
  cases r1 with
  | cons r rr =>
    cases rr
    obtain rfl := (show _ = Value.ref l from r)
    obtain ⟨its, rv, pl, hz⟩ := I1.list hq
    refine call_enumerate_list pl.isList fun h' he hit hsz hk => ?_
    refine wpAny_pyIter_enum he ?_
    have I2 : Inv X pins σ H1 { s1 with heap := h' } := I1.kept (t' := s1.toks) hk
    refine ⟨s1.heap.objs.size + 1, [s1.heap.objs.size + 1, s1.heap.objs.size], _, _, H1, rfl, I2, turn_enum l _ _ (Nat.ne_of_gt (Nat.lt_succ_self _)), ⟨⟨_, he⟩, hit⟩, fun b hb => ?_, q⟩
    have hb' : b = s1.heap.objs.size + 1 ∨ b = s1.heap.objs.size := by simpa using hb
    rcases hb' with z | z
    · subst z; exact I1.fpOk (Nat.le_succ _) (I1.hok.fresh (Nat.le_succ _))
    · subst z; exact I1.fpOk (Nat.le_refl _) (I1.hok.fresh (Nat.le_refl _))
theorem for_enum {K : PySem.W.Frag} {a : Addr} {xs : List V} {g : TG} {tb : TS} {D : Ends} {σ : St} {H : Hp} (Pv : Nat → St → Hp → Prop) (h0 : Pv 0 σ H) (hl : ∀ i σ H, i ≤ xs.length → Pv i σ H → SqL K H a xs)
    (hs : ∀ i x σ H p, xs[i]? = some x → Pv i σ H → H p = none → g (.ref p) σ (upd H p (.tup [.int i, x])) fun σ2 H2 => tb { D with nx := Pv (i + 1), ct := Pv (i + 1), bk := D.nx } σ2 H2) (hd : ∀ σ H, Pv xs.length σ H → D.nx σ H) :
    ∃ W : Nat → Nat → St → Hp → Prop, (∃ m, W 0 m σ H) ∧ ∀ i m σ H, W i m σ H →
      ((Ite K a).stop i H ∧ D.nx σ H) ∨ ((Ite K a).go i H ∧ ∃ N : St → Hp → Prop, (∀ σ' H', N σ' H' → ∃ m', m' < m ∧ W (i + 1) m' σ' H') ∧ ∀ x H', (Ite K a).yld i H x H' → g x σ H' fun σ2 H2 => tb { D with nx := N, ct := N, bk := D.nx } σ2 H2) := by
  refine ⟨fun i m σ H => m = xs.length - i ∧ i ≤ xs.length ∧ Pv i σ H, ⟨xs.length, by simp, Nat.zero_le _, h0⟩, ?_⟩
  rintro i m σ H ⟨rfl, hi, p⟩
  have q := hl i σ H hi p
  by_cases hlt : i < xs.length
  · refine .inr ⟨⟨xs, xs[i], q, by simp [hlt]⟩, Pv (i + 1), fun σ' H' p' => ⟨xs.length - (i + 1), by omega, rfl, hlt, p'⟩, fun x H' y => ?_⟩
    obtain ⟨pp, y, hp, hy, rfl, rfl⟩ := y
    exact hs i y σ H pp (hy xs q) p hp
  · have e : i = xs.length := by omega
    subst e
    exact .inl ⟨⟨xs, q, Nat.le_refl _⟩, hd σ H p⟩
end L2
set_option Elab.async false
set_option linter.all false
set_option maxRecDepth 100000
set_option maxHeartbeats 4000000
namespace L2
open PySem PySem.Spec PyProof.Rows PySem.SeqAt
inductive Dt where
  | non | bl (b : Bool) | int (i : Int) | str (x : Str) | tup (l : List Dt) | lst (l : List Dt)
mutual
def eqD : Dt → Dt → Bool
  | .non, .non => true
  | .bl a, .bl b => a == b
  | .bl a, .int b => (if a then 1 else 0) == b
  | .int a, .bl b => a == (if b then 1 else 0)
  | .int a, .int b => a == b
  | .str a, .str b => a == b
  | .tup a, .tup b => eqDs a b
  | .lst a, .lst b => eqDs a b
  | _, _ => false
def eqDs : List Dt → List Dt → Bool
  | [], [] => true
  | a :: r, b :: t => eqD a b && eqDs r t
  | _, _ => false
end
mutual
def dep : Dt → Nat
  | .tup l => depL l + 1
  | .lst l => depL l + 1
  | _ => 0
def depL : List Dt → Nat
  | [] => 0
  | d :: r => max (dep d) (depL r)
end
mutual
theorem eqD_refl : ∀ d : Dt, eqD d d = true
  | .non => by simp [eqD]
  | .bl _ => by simp [eqD]
  | .int _ => by simp [eqD]
  | .str _ => by simp [eqD]
  | .tup l => by rw [eqD]; exact eqDs_refl l
  | .lst l => by rw [eqD]; exact eqDs_refl l
theorem eqDs_refl : ∀ l : List Dt, eqDs l l = true
  | [] => by simp [eqDs]
  | d :: r => by rw [eqDs, eqD_refl d, eqDs_refl r]; rfl
end
mutual
inductive Has (K : PySem.W.Frag) (H : Hp) : V → Dt → Prop where
  | non : Has K H .non .non
  | bl (b : Bool) : Has K H (.bl b) (.bl b)
  | int (i : Int) : Has K H (.int i) (.int i)
  | str (x : Str) : Has K H (.str x) (.str x)
  | tup {a : Addr} {xs : List V} {ds : List Dt} : SqT K H a xs → HasL K H xs ds → Has K H (.ref a) (.tup ds)
  | lst {a : Addr} {xs : List V} {ds : List Dt} : SqL K H a xs → HasL K H xs ds → Has K H (.ref a) (.lst ds)
inductive HasL (K : PySem.W.Frag) (H : Hp) : List V → List Dt → Prop where
  | nil : HasL K H [] []
  | cons {x : V} {d : Dt} {xs : List V} {ds : List Dt} : Has K H x d → HasL K H xs ds → HasL K H (x :: xs) (d :: ds)
end
section
variable {K : PySem.W.Frag} {H H' : Hp}
theorem HasL.length : ∀ {xs : List V} {ds : List Dt}, HasL K H xs ds → xs.length = ds.length
  | _, _, .nil => rfl
  | _, _, .cons _ t => by simp [HasL.length t]
theorem HasL.get : ∀ {xs : List V} {ds : List Dt} {i : Nat} {x : V}, HasL K H xs ds → xs[i]? = some x → ∃ d, ds[i]? = some d ∧ Has K H x d
  | _, _, _, _, .nil, e => by simp at e
  | _, _, 0, _, .cons r _, e => by simp at e; subst e; exact ⟨_, rfl, r⟩
  | _, _, i + 1, x, .cons _ t, e => by
    obtain ⟨u, h1, h2⟩ := HasL.get (i := i) (x := x) t (by simpa using e)
    exact ⟨u, by simpa using h1, h2⟩
theorem HasL.of : ∀ {xs : List V} {ds : List Dt} {i : Nat} {d : Dt}, HasL K H xs ds → ds[i]? = some d → ∃ x, xs[i]? = some x ∧ Has K H x d
  | _, _, _, _, .nil, e => by simp at e
  | _, _, 0, _, .cons r _, e => by simp at e; subst e; exact ⟨_, rfl, r⟩
  | _, _, i + 1, x, .cons _ t, e => by
    obtain ⟨u, h1, h2⟩ := HasL.of (i := i) (d := x) t (by simpa using e)
    exact ⟨u, by simpa using h1, h2⟩
theorem HasL.append : ∀ {xs ys : List V} {ds es : List Dt}, HasL K H xs ds → HasL K H ys es → HasL K H (xs ++ ys) (ds ++ es)
  | _, _, _, _, .nil, s => s
  | _, _, _, _, .cons r t, s => .cons r (HasL.append t s)
theorem HasL.snoc {xs : List V} {ds : List Dt} {x : V} {d : Dt} (h : HasL K H xs ds) (r : Has K H x d) : HasL K H (xs ++ [x]) (ds ++ [d]) := h.append (.cons r .nil)
theorem HasL.take : ∀ {xs : List V} {ds : List Dt} (n : Nat), HasL K H xs ds → HasL K H (xs.take n) (ds.take n)
  | _, _, 0, _ => by simpa using HasL.nil
  | _, _, _ + 1, .nil => by simpa using HasL.nil
  | _, _, n + 1, .cons r t => by simpa using HasL.cons r (HasL.take n t)
theorem HasL.drop : ∀ {xs : List V} {ds : List Dt} (n : Nat), HasL K H xs ds → HasL K H (xs.drop n) (ds.drop n)
  | _, _, 0, r => by simpa using r
  | _, _, _ + 1, .nil => by simpa using HasL.nil
  | _, _, n + 1, .cons _ t => by simpa using HasL.drop n t
theorem hasL_ints (H : Hp) : ∀ ns : List Int, HasL K H (ns.map V.int) (ns.map Dt.int)
  | [] => .nil
  | n :: r => .cons (.int n) (hasL_ints H r)
theorem hasL_ints_inv : ∀ {xs : List V} {ns : List Int}, HasL K H xs (ns.map Dt.int) → xs = ns.map V.int
  | _, [], h => by cases h; rfl
  | _, n :: r, h => by
    cases h with
    | cons h t =>
      cases h
      rw [hasL_ints_inv t]; rfl
theorem Same.sqT (e : L2.Same H H') {a : Addr} {xs : List V} (h : SqT K H a xs) : SqT K H' a xs := by
  rcases h with (h | ⟨o, h⟩) | h
  · exact .inl (.inl (e _ _ h))
  · exact .inl (.inr ⟨o, e _ _ h⟩)
  · exact .inr h
mutual
theorem Has.same (e : L2.Same H H') : ∀ {x : V} {d : Dt}, Has K H x d → Has K H' x d
  | _, _, .non => .non
  | _, _, .bl b => .bl b
  | _, _, .int i => .int i
  | _, _, .str x => .str x
  | _, _, .tup h t => .tup (Same.sqT e h) (HasL.same e t)
  | _, _, .lst h t => .lst (e.seq h) (HasL.same e t)
theorem HasL.same (e : L2.Same H H') : ∀ {xs : List V} {ds : List Dt}, HasL K H xs ds → HasL K H' xs ds
  | _, _, .nil => .nil
  | _, _, .cons h t => .cons (Has.same e h) (HasL.same e t)
end
end
theorem same_upd {H : Hp} {p : Addr} {o : HO} (h : H p = none) : L2.Same H (upd H p o) := fun b u e => by rw [upd_ne (ne_of_none e h)]; exact e
section
variable {X : Cx} {pins : List (Addr × Obj)} {σ : St} {H : Hp} {s : Shared}
theorem sq_apart (I : Inv X pins σ H s) {a : Addr} {xs ys : List V} (h : SqL X.K H a xs) (h' : SqT X.K H a ys) : False := by
  obtain ⟨its, r, ⟨o, n, e, hc, _, d⟩, _⟩ := I.list h
  obtain ⟨its', r', ⟨o', e', hc', n', d'⟩, _⟩ := I.tuple h'
  rw [e] at e'; cases e'
  rw [hc] at hc'
  injection hc' with z
  exact absurd z (by decide)
mutual
theorem Has.inj (I : Inv X pins σ H s) : ∀ {x : V} {d e : Dt}, Has X.K H x d → Has X.K H x e → d = e
  | _, _, _, .non, h => by cases h; rfl
  | _, _, _, .bl b, h => by cases h; rfl
  | _, _, _, .int b, h => by cases h; rfl
  | _, _, _, .str b, h => by cases h; rfl
  | _, _, _, .tup q t, h => by
    cases h with
    | tup q' t' => have := I.tuple_inj q q'; subst this; rw [HasL.inj I t t']
    | lst q' t' => exact (sq_apart I q' q).elim
  | _, _, _, .lst q t, h => by
    cases h with
    | lst q' t' => have := I.list_inj q q'; subst this; rw [HasL.inj I t t']
    | tup q' t' => exact (sq_apart I q q').elim
theorem HasL.inj (I : Inv X pins σ H s) : ∀ {xs : List V} {d e : List Dt}, HasL X.K H xs d → HasL X.K H xs e → d = e
  | _, _, _, .nil, h => by cases h; rfl
  | _, _, _, .cons h t, g => by
    cases g with
    | cons h' t' => rw [Has.inj I h h', HasL.inj I t t']
end
def eAt (ds es : List Dt) (j : Nat) : Bool := match ds[j]?, es[j]? with
  | some d, some e => eqD d e
  | _, _ => false
theorem eqDs_len : ∀ (ds es : List Dt), ds.length ≠ es.length → eqDs ds es = false
  | [], [], h => absurd rfl h
  | [], _ :: _, _ => by simp [eqDs]
  | _ :: _, [], _ => by simp [eqDs]
  | d :: r, e :: t, h => by
    rw [eqDs, eqDs_len r t (by simpa using h), Bool.and_false]
theorem eqDs_all : ∀ (ds es : List Dt), ds.length = es.length → (List.range ds.length).all (eAt ds es) = eqDs ds es
  | [], [], _ => by simp [eqDs]
  | [], _ :: _, h => by simp at h
  | _ :: _, [], h => by simp at h
  | d :: r, e :: t, h => by
    have ih := eqDs_all r t (by simpa using h)
    rw [eqDs, ← ih, List.length_cons, List.range_succ_eq_map, List.all_cons, List.all_map]
    congr 1
theorem eqDs_tup (ds es : List Dt) : ((List.range (min ds.length es.length)).all (eAt ds es) && ds.length == es.length) = eqDs ds es := by
  by_cases h : ds.length = es.length
  · rw [h, Nat.min_self, ← h, eqDs_all ds es h]; simp [h]
  · rw [eqDs_len ds es h]; simp [h]
theorem dep_get : ∀ {ds : List Dt} {j : Nat} {d : Dt}, ds[j]? = some d → dep d ≤ depL ds
  | [], _, _, h => by simp at h
  | e :: r, 0, d, h => by simp at h; subst h; rw [depL]; exact Nat.le_max_left _ _
  | e :: r, j + 1, d, h => by
    have := dep_get (ds := r) (j := j) (d := d) (by simpa using h)
    rw [depL]; exact Nat.le_trans this (Nat.le_max_right _ _)
theorem EqAt.of_rc {A : Around} {s : Shared} {u v : Value} {k : Bool} (h : RcAt A s u v k) (hs : u = v → k = true) (hf : ∀ b t, u ≠ .float b t) : EqAt A s u v k := fun prog w E Q hq => by
  unfold eqBool
  refine wpAny_holding ?_
  refine wpAny_ite_split (fun hab => ?_) (fun _ => ?_)
  · have e := hs (eq_of_beq hab)
    subst e
    exact wpAny_bind (wpAny_rule (wpAny_pure hq))
  · cases u with
    | float b t => exact absurd rfl (hf b t)
    | _ => exact wpAny_bind (h prog w E _ (wpAny_truthy_bool hq))
theorem Has.noFloat {K : PySem.W.Frag} {H : Hp} {x : V} {d : Dt} {u : Value} (h : Has K H x d) (r : RelV x u) : ∀ b t, u ≠ .float b t := by
  intro b t e
  subst e
  cases h with
  | non => cases (show Value.float b t = Value.none from r)
  | bl c => cases (show Value.float b t = Value.bool c from r)
  | int i => obtain ⟨t', z⟩ := (show ∃ t', Value.float b t = Value.int i t' from r); cases z
  | str x => obtain ⟨t', z⟩ := (show ∃ t', Value.float b t = Value.str x t' from r); cases z
  | tup q t' => cases (show Value.float b t = Value.ref _ from r)
  | lst q t' => cases (show Value.float b t = Value.ref _ from r)
theorem eq_of_same (I : Inv X pins σ H s) {d e : Dt} {x y : V} {u v : Value} (hx : Has X.K H x d) (hy : Has X.K H y e) (rx : RelV x u) (ry : RelV y v) (h : u = v) : eqD d e = true := by
  subst h
  have := rx.inj ry
  subst this
  rw [Has.inj I hx hy, eqD_refl]
theorem elems_at (I : Inv X pins σ H s) {n : Nat} (ih : ∀ (d e : Dt) (x y : V) (u v : Value) (A : Around), dep d ≤ n → Has X.K H x d → Has X.K H y e → RelV x u → RelV y v → A.units + n < cLine → RcAt A s u v (eqD d e))
    {A : Around} {ds es : List Dt} {xs ys : List V} {us vs : List Value} (hd : depL ds ≤ n) (t1 : HasL X.K H xs ds) (t2 : HasL X.K H ys es) (r1 : Vals xs us) (r2 : Vals ys vs) (hu : A.units + n < cLine) :
    ∀ j (h1 : j < us.toArray.size) (h2 : j < vs.toArray.size), EqAt A s us.toArray[j] vs.toArray[j] (eAt ds es j) := by
  intro j h1 h2
  have h1' : j < us.length := by simpa using h1
  have h2' : j < vs.length := by simpa using h2
  have hx : j < xs.length := by rw [r1.length]; exact h1'
  have hy : j < ys.length := by rw [r2.length]; exact h2'
  obtain ⟨d, ed, hd'⟩ := t1.get (i := j) (x := xs[j]) (by simp [hx])
  obtain ⟨e, ee, he'⟩ := t2.get (i := j) (x := ys[j]) (by simp [hy])
  obtain ⟨u, eu, ru⟩ := r1.get (i := j) (x := xs[j]) (by simp [hx])
  obtain ⟨v, ev, rv⟩ := r2.get (i := j) (x := ys[j]) (by simp [hy])
  have e1 : us.toArray[j] = u := by
    have : us[j]? = some us[j] := by simp [h1']
    rw [this] at eu
    simpa using Option.some.inj eu
  have e2 : vs.toArray[j] = v := by
    have : vs[j]? = some vs[j] := by simp [h2']
    rw [this] at ev
    simpa using Option.some.inj ev
  have e3 : eAt ds es j = eqD d e := by unfold eAt; rw [ed, ee]
  rw [e1, e2, e3]
  exact EqAt.of_rc (ih d e _ _ u v A (Nat.le_trans (dep_get ed) hd) hd' he' ru rv hu) (eq_of_same I hd' he' ru rv) (hd'.noFloat ru)
theorem rc_step (I : Inv X pins σ H s) {d e : Dt} {x y : V} {u v : Value} {A : Around} (hu0 : A.units < cLine) (hx : Has X.K H x d) (hy : Has X.K H y e) (rx : RelV x u) (ry : RelV y v)
    (elems : ∀ {ds1 ds2 : List Dt} {xs1 xs2 : List V} {its its2 : List Value}, (d = .lst ds1 ∨ d = .tup ds1) → HasL X.K H xs1 ds1 → HasL X.K H xs2 ds2 → Vals xs1 its → Vals xs2 its2 → ∀ j (h1 : j < its.toArray.size) (h2 : j < its2.toArray.size), EqAt A.in1 s its.toArray[j] its2.toArray[j] (eAt ds1 ds2 j)) :
    RcAt A s u v (eqD d e) := by
  cases hx with
    | non =>
      obtain rfl := (show u = Value.none from rx)
      cases hy with
      | non =>
        obtain rfl := (show v = Value.none from ry)
        exact (RcAt.none_none)
      | bl b2 =>
        obtain rfl := (show v = Value.bool _ from ry)
        exact (by first | exact RcAt.none_bool _ _ | exact RcAt.none_bool _ _ _ | exact RcAt.none_bool _ _ _ _ | exact RcAt.none_bool _)
      | int i2 =>
        obtain ⟨tv, rfl⟩ := (show ∃ t, v = Value.int _ t from ry)
        exact (by first | exact RcAt.none_int _ _ | exact RcAt.none_int _ _ _ | exact RcAt.none_int _ _ _ _ | exact RcAt.none_int _)
      | str z2 =>
        obtain ⟨tv, rfl⟩ := (show ∃ t, v = Value.str _ t from ry)
        exact (by first | exact RcAt.none_str _ _ | exact RcAt.none_str _ _ _ | exact RcAt.none_str _ _ _ _ | exact RcAt.none_str _)
      | @tup a2 xs2 ds2 q2 t2 =>
        obtain rfl := (show v = Value.ref _ from ry)
        obtain ⟨its2, rv2, pl2, hz2⟩ := I.tuple q2
        exact (by first | exact RcAt.none_tuple (show s.heap.IsTuple _ its2.toArray from pl2) hu0 | exact RcAt.none_tuple _ (show s.heap.IsTuple _ its2.toArray from pl2) hu0 | exact RcAt.none_tuple _ _ (show s.heap.IsTuple _ its2.toArray from pl2) hu0)
      | @lst a2 xs2 ds2 q2 t2 =>
        obtain rfl := (show v = Value.ref _ from ry)
        obtain ⟨its2, rv2, pl2, hz2⟩ := I.list q2
        exact (by first | exact RcAt.none_list pl2.isList hu0 | exact RcAt.none_list _ pl2.isList hu0 | exact RcAt.none_list _ _ pl2.isList hu0)
    | bl b1 =>
      obtain rfl := (show u = Value.bool _ from rx)
      cases hy with
      | non =>
        obtain rfl := (show v = Value.none from ry)
        exact (by first | exact RcAt.bool_none _ _ | exact RcAt.bool_none _ _ _ | exact RcAt.bool_none _ _ _ _ | exact RcAt.bool_none _)
      | bl b2 =>
        obtain rfl := (show v = Value.bool _ from ry)
        exact (by first | exact RcAt.bool_bool _ _ | exact RcAt.bool_bool _ _ _ | exact RcAt.bool_bool _ _ _ _ | exact RcAt.bool_bool _)
      | int i2 =>
        obtain ⟨tv, rfl⟩ := (show ∃ t, v = Value.int _ t from ry)
        exact (by first | exact RcAt.bool_int _ _ | exact RcAt.bool_int _ _ _ | exact RcAt.bool_int _ _ _ _ | exact RcAt.bool_int _)
      | str z2 =>
        obtain ⟨tv, rfl⟩ := (show ∃ t, v = Value.str _ t from ry)
        exact (by first | exact RcAt.bool_str _ _ | exact RcAt.bool_str _ _ _ | exact RcAt.bool_str _ _ _ _ | exact RcAt.bool_str _)
      | @tup a2 xs2 ds2 q2 t2 =>
        obtain rfl := (show v = Value.ref _ from ry)
        obtain ⟨its2, rv2, pl2, hz2⟩ := I.tuple q2
        exact (by first | exact RcAt.bool_tuple (show s.heap.IsTuple _ its2.toArray from pl2) hu0 | exact RcAt.bool_tuple _ (show s.heap.IsTuple _ its2.toArray from pl2) hu0 | exact RcAt.bool_tuple _ _ (show s.heap.IsTuple _ its2.toArray from pl2) hu0)
      | @lst a2 xs2 ds2 q2 t2 =>
        obtain rfl := (show v = Value.ref _ from ry)
        obtain ⟨its2, rv2, pl2, hz2⟩ := I.list q2
        exact (by first | exact RcAt.bool_list pl2.isList hu0 | exact RcAt.bool_list _ pl2.isList hu0 | exact RcAt.bool_list _ _ pl2.isList hu0)
    | int i1 =>
      obtain ⟨tu, rfl⟩ := (show ∃ t, u = Value.int _ t from rx)
      cases hy with
      | non =>
        obtain rfl := (show v = Value.none from ry)
        exact (by first | exact RcAt.int_none _ _ | exact RcAt.int_none _ _ _ | exact RcAt.int_none _ _ _ _ | exact RcAt.int_none _)
      | bl b2 =>
        obtain rfl := (show v = Value.bool _ from ry)
        exact (by first | exact RcAt.int_bool _ _ | exact RcAt.int_bool _ _ _ | exact RcAt.int_bool _ _ _ _ | exact RcAt.int_bool _)
      | int i2 =>
        obtain ⟨tv, rfl⟩ := (show ∃ t, v = Value.int _ t from ry)
        exact (by first | exact RcAt.int_int _ _ | exact RcAt.int_int _ _ _ | exact RcAt.int_int _ _ _ _ | exact RcAt.int_int _)
      | str z2 =>
        obtain ⟨tv, rfl⟩ := (show ∃ t, v = Value.str _ t from ry)
        exact (by first | exact RcAt.int_str _ _ | exact RcAt.int_str _ _ _ | exact RcAt.int_str _ _ _ _ | exact RcAt.int_str _)
      | @tup a2 xs2 ds2 q2 t2 =>
        obtain rfl := (show v = Value.ref _ from ry)
        obtain ⟨its2, rv2, pl2, hz2⟩ := I.tuple q2
        exact (by first | exact RcAt.int_tuple (show s.heap.IsTuple _ its2.toArray from pl2) hu0 | exact RcAt.int_tuple _ (show s.heap.IsTuple _ its2.toArray from pl2) hu0 | exact RcAt.int_tuple _ _ (show s.heap.IsTuple _ its2.toArray from pl2) hu0)
      | @lst a2 xs2 ds2 q2 t2 =>
        obtain rfl := (show v = Value.ref _ from ry)
        obtain ⟨its2, rv2, pl2, hz2⟩ := I.list q2
        exact (by first | exact RcAt.int_list pl2.isList hu0 | exact RcAt.int_list _ pl2.isList hu0 | exact RcAt.int_list _ _ pl2.isList hu0)
    | str z1 =>
      obtain ⟨tu, rfl⟩ := (show ∃ t, u = Value.str _ t from rx)
      cases hy with
      | non =>
        obtain rfl := (show v = Value.none from ry)
        exact (by first | exact RcAt.str_none _ _ | exact RcAt.str_none _ _ _ | exact RcAt.str_none _ _ _ _ | exact RcAt.str_none _)
      | bl b2 =>
        obtain rfl := (show v = Value.bool _ from ry)
        exact (by first | exact RcAt.str_bool _ _ | exact RcAt.str_bool _ _ _ | exact RcAt.str_bool _ _ _ _ | exact RcAt.str_bool _)
      | int i2 =>
        obtain ⟨tv, rfl⟩ := (show ∃ t, v = Value.int _ t from ry)
        exact (by first | exact RcAt.str_int _ _ | exact RcAt.str_int _ _ _ | exact RcAt.str_int _ _ _ _ | exact RcAt.str_int _)
      | str z2 =>
        obtain ⟨tv, rfl⟩ := (show ∃ t, v = Value.str _ t from ry)
        exact (by first | exact RcAt.str_str _ _ | exact RcAt.str_str _ _ _ | exact RcAt.str_str _ _ _ _ | exact RcAt.str_str _)
      | @tup a2 xs2 ds2 q2 t2 =>
        obtain rfl := (show v = Value.ref _ from ry)
        obtain ⟨its2, rv2, pl2, hz2⟩ := I.tuple q2
        exact (by first | exact RcAt.str_tuple (show s.heap.IsTuple _ its2.toArray from pl2) hu0 | exact RcAt.str_tuple _ (show s.heap.IsTuple _ its2.toArray from pl2) hu0 | exact RcAt.str_tuple _ _ (show s.heap.IsTuple _ its2.toArray from pl2) hu0)
      | @lst a2 xs2 ds2 q2 t2 =>
        obtain rfl := (show v = Value.ref _ from ry)
        obtain ⟨its2, rv2, pl2, hz2⟩ := I.list q2
        exact (by first | exact RcAt.str_list pl2.isList hu0 | exact RcAt.str_list _ pl2.isList hu0 | exact RcAt.str_list _ _ pl2.isList hu0)
    | @tup a1 xs1 ds1 q1 t1 =>
      obtain rfl := (show u = Value.ref _ from rx)
      obtain ⟨its, rv, pl, hz⟩ := I.tuple q1
      cases hy with
      | non =>
        obtain rfl := (show v = Value.none from ry)
        exact (by first | exact RcAt.tuple_none (show s.heap.IsTuple _ its.toArray from pl) hu0 | exact RcAt.tuple_none _ (show s.heap.IsTuple _ its.toArray from pl) hu0 | exact RcAt.tuple_none _ _ (show s.heap.IsTuple _ its.toArray from pl) hu0)
      | bl b2 =>
        obtain rfl := (show v = Value.bool _ from ry)
        exact (by first | exact RcAt.tuple_bool (show s.heap.IsTuple _ its.toArray from pl) hu0 | exact RcAt.tuple_bool _ (show s.heap.IsTuple _ its.toArray from pl) hu0 | exact RcAt.tuple_bool _ _ (show s.heap.IsTuple _ its.toArray from pl) hu0)
      | int i2 =>
        obtain ⟨tv, rfl⟩ := (show ∃ t, v = Value.int _ t from ry)
        exact (by first | exact RcAt.tuple_int (show s.heap.IsTuple _ its.toArray from pl) hu0 | exact RcAt.tuple_int _ (show s.heap.IsTuple _ its.toArray from pl) hu0 | exact RcAt.tuple_int _ _ (show s.heap.IsTuple _ its.toArray from pl) hu0)
      | str z2 =>
        obtain ⟨tv, rfl⟩ := (show ∃ t, v = Value.str _ t from ry)
        exact (by first | exact RcAt.tuple_str (show s.heap.IsTuple _ its.toArray from pl) hu0 | exact RcAt.tuple_str _ (show s.heap.IsTuple _ its.toArray from pl) hu0 | exact RcAt.tuple_str _ _ (show s.heap.IsTuple _ its.toArray from pl) hu0)
      | @tup a2 xs2 ds2 q2 t2 =>
        obtain rfl := (show v = Value.ref _ from ry)
        obtain ⟨its2, rv2, pl2, hz2⟩ := I.tuple q2
        rw [eqD]
        have l1 : its.toArray.size = ds1.length := by rw [List.size_toArray, ← rv.length]; exact t1.length
        have l2 : its2.toArray.size = ds2.length := by rw [List.size_toArray, ← rv2.length]; exact t2.length
        have z := RcAt.tuples (A := A) (e := eAt ds1 ds2) (show s.heap.IsTuple _ its.toArray from pl) (show s.heap.IsTuple _ its2.toArray from pl2) hu0 (elems (by first | exact .inl rfl | exact .inr rfl) t1 t2 rv rv2)
        rw [l1, l2, eqDs_tup ds1 ds2] at z
        exact z
      | @lst a2 xs2 ds2 q2 t2 =>
        obtain rfl := (show v = Value.ref _ from ry)
        obtain ⟨its2, rv2, pl2, hz2⟩ := I.list q2
        exact (by first | exact RcAt.tuple_list (show s.heap.IsTuple _ its.toArray from pl) pl2.isList hu0 | exact RcAt.tuple_list _ (show s.heap.IsTuple _ its.toArray from pl) pl2.isList hu0 | exact RcAt.tuple_list _ _ (show s.heap.IsTuple _ its.toArray from pl) pl2.isList hu0)
    | @lst a1 xs1 ds1 q1 t1 =>
      obtain rfl := (show u = Value.ref _ from rx)
      obtain ⟨its, rv, pl, hz⟩ := I.list q1
      cases hy with
      | non =>
        obtain rfl := (show v = Value.none from ry)
        exact (by first | exact RcAt.list_none pl.isList hu0 | exact RcAt.list_none _ pl.isList hu0 | exact RcAt.list_none _ _ pl.isList hu0)
      | bl b2 =>
        obtain rfl := (show v = Value.bool _ from ry)
        exact (by first | exact RcAt.list_bool pl.isList hu0 | exact RcAt.list_bool _ pl.isList hu0 | exact RcAt.list_bool _ _ pl.isList hu0)
      | int i2 =>
        obtain ⟨tv, rfl⟩ := (show ∃ t, v = Value.int _ t from ry)
        exact (by first | exact RcAt.list_int pl.isList hu0 | exact RcAt.list_int _ pl.isList hu0 | exact RcAt.list_int _ _ pl.isList hu0)
      | str z2 =>
        obtain ⟨tv, rfl⟩ := (show ∃ t, v = Value.str _ t from ry)
        exact (by first | exact RcAt.list_str pl.isList hu0 | exact RcAt.list_str _ pl.isList hu0 | exact RcAt.list_str _ _ pl.isList hu0)
      | @tup a2 xs2 ds2 q2 t2 =>
        obtain rfl := (show v = Value.ref _ from ry)
        obtain ⟨its2, rv2, pl2, hz2⟩ := I.tuple q2
        exact (by first | exact RcAt.list_tuple pl.isList (show s.heap.IsTuple _ its2.toArray from pl2) hu0 | exact RcAt.list_tuple _ pl.isList (show s.heap.IsTuple _ its2.toArray from pl2) hu0 | exact RcAt.list_tuple _ _ pl.isList (show s.heap.IsTuple _ its2.toArray from pl2) hu0)
      | @lst a2 xs2 ds2 q2 t2 =>
        obtain rfl := (show v = Value.ref _ from ry)
        obtain ⟨its2, rv2, pl2, hz2⟩ := I.list q2
        rw [eqD]
        have l1 : its.toArray.size = ds1.length := by rw [List.size_toArray, ← rv.length]; exact t1.length
        have l2 : its2.toArray.size = ds2.length := by rw [List.size_toArray, ← rv2.length]; exact t2.length
        by_cases hl : ds1.length = ds2.length
        · have z := RcAt.lists (A := A) (e := eAt ds1 ds2) pl.isList pl2.isList (by rw [l1, l2, hl]) hu0 (elems (by first | exact .inl rfl | exact .inr rfl) t1 t2 rv rv2)
          rw [l1, eqDs_all ds1 ds2 hl] at z
          exact z
        · have z := RcAt.lists_lengths (A := A) pl.isList pl2.isList (by rw [l1, l2]; simpa using hl) hu0
          rw [eqDs_len ds1 ds2 hl]
          exact z
theorem rcNe_step (I : Inv X pins σ H s) {d e : Dt} {x y : V} {u v : Value} {A : Around} (hu0 : A.units < cLine) (hx : Has X.K H x d) (hy : Has X.K H y e) (rx : RelV x u) (ry : RelV y v)
    (elems : ∀ {ds1 ds2 : List Dt} {xs1 xs2 : List V} {its its2 : List Value}, (d = .lst ds1 ∨ d = .tup ds1) → HasL X.K H xs1 ds1 → HasL X.K H xs2 ds2 → Vals xs1 its → Vals xs2 its2 → ∀ j (h1 : j < its.toArray.size) (h2 : j < its2.toArray.size), EqAt A.in1 s its.toArray[j] its2.toArray[j] (eAt ds1 ds2 j)) :
    RcNeAt A s u v (!eqD d e) := by
  cases hx with
    | non =>
      obtain rfl := (show u = Value.none from rx)
      cases hy with
      | non =>
        obtain rfl := (show v = Value.none from ry)
        exact (RcNeAt.none_none)
      | bl b2 =>
        obtain rfl := (show v = Value.bool _ from ry)
        exact (by first | exact RcNeAt.none_bool _ _ | exact RcNeAt.none_bool _ _ _ | exact RcNeAt.none_bool _ _ _ _ | exact RcNeAt.none_bool _)
      | int i2 =>
        obtain ⟨tv, rfl⟩ := (show ∃ t, v = Value.int _ t from ry)
        exact (by first | exact RcNeAt.none_int _ _ | exact RcNeAt.none_int _ _ _ | exact RcNeAt.none_int _ _ _ _ | exact RcNeAt.none_int _)
      | str z2 =>
        obtain ⟨tv, rfl⟩ := (show ∃ t, v = Value.str _ t from ry)
        exact (by first | exact RcNeAt.none_str _ _ | exact RcNeAt.none_str _ _ _ | exact RcNeAt.none_str _ _ _ _ | exact RcNeAt.none_str _)
      | @tup a2 xs2 ds2 q2 t2 =>
        obtain rfl := (show v = Value.ref _ from ry)
        obtain ⟨its2, rv2, pl2, hz2⟩ := I.tuple q2
        exact (by first | exact RcNeAt.none_tuple (show s.heap.IsTuple _ its2.toArray from pl2) hu0 | exact RcNeAt.none_tuple _ (show s.heap.IsTuple _ its2.toArray from pl2) hu0 | exact RcNeAt.none_tuple _ _ (show s.heap.IsTuple _ its2.toArray from pl2) hu0)
      | @lst a2 xs2 ds2 q2 t2 =>
        obtain rfl := (show v = Value.ref _ from ry)
        obtain ⟨its2, rv2, pl2, hz2⟩ := I.list q2
        exact (by first | exact RcNeAt.none_list pl2.isList hu0 | exact RcNeAt.none_list _ pl2.isList hu0 | exact RcNeAt.none_list _ _ pl2.isList hu0)
    | bl b1 =>
      obtain rfl := (show u = Value.bool _ from rx)
      cases hy with
      | non =>
        obtain rfl := (show v = Value.none from ry)
        exact (by first | exact RcNeAt.bool_none _ _ | exact RcNeAt.bool_none _ _ _ | exact RcNeAt.bool_none _ _ _ _ | exact RcNeAt.bool_none _)
      | bl b2 =>
        obtain rfl := (show v = Value.bool _ from ry)
        exact (by first | exact RcNeAt.bool_bool _ _ | exact RcNeAt.bool_bool _ _ _ | exact RcNeAt.bool_bool _ _ _ _ | exact RcNeAt.bool_bool _)
      | int i2 =>
        obtain ⟨tv, rfl⟩ := (show ∃ t, v = Value.int _ t from ry)
        exact (by first | exact RcNeAt.bool_int _ _ | exact RcNeAt.bool_int _ _ _ | exact RcNeAt.bool_int _ _ _ _ | exact RcNeAt.bool_int _)
      | str z2 =>
        obtain ⟨tv, rfl⟩ := (show ∃ t, v = Value.str _ t from ry)
        exact (by first | exact RcNeAt.bool_str _ _ | exact RcNeAt.bool_str _ _ _ | exact RcNeAt.bool_str _ _ _ _ | exact RcNeAt.bool_str _)
      | @tup a2 xs2 ds2 q2 t2 =>
        obtain rfl := (show v = Value.ref _ from ry)
        obtain ⟨its2, rv2, pl2, hz2⟩ := I.tuple q2
        exact (by first | exact RcNeAt.bool_tuple (show s.heap.IsTuple _ its2.toArray from pl2) hu0 | exact RcNeAt.bool_tuple _ (show s.heap.IsTuple _ its2.toArray from pl2) hu0 | exact RcNeAt.bool_tuple _ _ (show s.heap.IsTuple _ its2.toArray from pl2) hu0)
      | @lst a2 xs2 ds2 q2 t2 =>
        obtain rfl := (show v = Value.ref _ from ry)
        obtain ⟨its2, rv2, pl2, hz2⟩ := I.list q2
        exact (by first | exact RcNeAt.bool_list pl2.isList hu0 | exact RcNeAt.bool_list _ pl2.isList hu0 | exact RcNeAt.bool_list _ _ pl2.isList hu0)
    | int i1 =>
      obtain ⟨tu, rfl⟩ := (show ∃ t, u = Value.int _ t from rx)
      cases hy with
      | non =>
        obtain rfl := (show v = Value.none from ry)
        exact (by first | exact RcNeAt.int_none _ _ | exact RcNeAt.int_none _ _ _ | exact RcNeAt.int_none _ _ _ _ | exact RcNeAt.int_none _)
      | bl b2 =>
        obtain rfl := (show v = Value.bool _ from ry)
        exact (by first | exact RcNeAt.int_bool _ _ | exact RcNeAt.int_bool _ _ _ | exact RcNeAt.int_bool _ _ _ _ | exact RcNeAt.int_bool _)
      | int i2 =>
        obtain ⟨tv, rfl⟩ := (show ∃ t, v = Value.int _ t from ry)
        exact (by first | exact RcNeAt.int_int _ _ | exact RcNeAt.int_int _ _ _ | exact RcNeAt.int_int _ _ _ _ | exact RcNeAt.int_int _)
      | str z2 =>
        obtain ⟨tv, rfl⟩ := (show ∃ t, v = Value.str _ t from ry)
        exact (by first | exact RcNeAt.int_str _ _ | exact RcNeAt.int_str _ _ _ | exact RcNeAt.int_str _ _ _ _ | exact RcNeAt.int_str _)
      | @tup a2 xs2 ds2 q2 t2 =>
        obtain rfl := (show v = Value.ref _ from ry)
        obtain ⟨its2, rv2, pl2, hz2⟩ := I.tuple q2
        exact (by first | exact RcNeAt.int_tuple (show s.heap.IsTuple _ its2.toArray from pl2) hu0 | exact RcNeAt.int_tuple _ (show s.heap.IsTuple _ its2.toArray from pl2) hu0 | exact RcNeAt.int_tuple _ _ (show s.heap.IsTuple _ its2.toArray from pl2) hu0)
      | @lst a2 xs2 ds2 q2 t2 =>
        obtain rfl := (show v = Value.ref _ from ry)
        obtain ⟨its2, rv2, pl2, hz2⟩ := I.list q2
        exact (by first | exact RcNeAt.int_list pl2.isList hu0 | exact RcNeAt.int_list _ pl2.isList hu0 | exact RcNeAt.int_list _ _ pl2.isList hu0)
    | str z1 =>
      obtain ⟨tu, rfl⟩ := (show ∃ t, u = Value.str _ t from rx)
      cases hy with
      | non =>
        obtain rfl := (show v = Value.none from ry)
        exact (by first | exact RcNeAt.str_none _ _ | exact RcNeAt.str_none _ _ _ | exact RcNeAt.str_none _ _ _ _ | exact RcNeAt.str_none _)
      | bl b2 =>
        obtain rfl := (show v = Value.bool _ from ry)
        exact (by first | exact RcNeAt.str_bool _ _ | exact RcNeAt.str_bool _ _ _ | exact RcNeAt.str_bool _ _ _ _ | exact RcNeAt.str_bool _)
      | int i2 =>
        obtain ⟨tv, rfl⟩ := (show ∃ t, v = Value.int _ t from ry)
        exact (by first | exact RcNeAt.str_int _ _ | exact RcNeAt.str_int _ _ _ | exact RcNeAt.str_int _ _ _ _ | exact RcNeAt.str_int _)
      | str z2 =>
        obtain ⟨tv, rfl⟩ := (show ∃ t, v = Value.str _ t from ry)
        exact (by first | exact RcNeAt.str_str _ _ | exact RcNeAt.str_str _ _ _ | exact RcNeAt.str_str _ _ _ _ | exact RcNeAt.str_str _)
      | @tup a2 xs2 ds2 q2 t2 =>
        obtain rfl := (show v = Value.ref _ from ry)
        obtain ⟨its2, rv2, pl2, hz2⟩ := I.tuple q2
        exact (by first | exact RcNeAt.str_tuple (show s.heap.IsTuple _ its2.toArray from pl2) hu0 | exact RcNeAt.str_tuple _ (show s.heap.IsTuple _ its2.toArray from pl2) hu0 | exact RcNeAt.str_tuple _ _ (show s.heap.IsTuple _ its2.toArray from pl2) hu0)
      | @lst a2 xs2 ds2 q2 t2 =>
        obtain rfl := (show v = Value.ref _ from ry)
        obtain ⟨its2, rv2, pl2, hz2⟩ := I.list q2
        exact (by first | exact RcNeAt.str_list pl2.isList hu0 | exact RcNeAt.str_list _ pl2.isList hu0 | exact RcNeAt.str_list _ _ pl2.isList hu0)
    | @tup a1 xs1 ds1 q1 t1 =>
      obtain rfl := (show u = Value.ref _ from rx)
      obtain ⟨its, rv, pl, hz⟩ := I.tuple q1
      cases hy with
      | non =>
        obtain rfl := (show v = Value.none from ry)
        exact (by first | exact RcNeAt.tuple_none (show s.heap.IsTuple _ its.toArray from pl) hu0 | exact RcNeAt.tuple_none _ (show s.heap.IsTuple _ its.toArray from pl) hu0 | exact RcNeAt.tuple_none _ _ (show s.heap.IsTuple _ its.toArray from pl) hu0)
      | bl b2 =>
        obtain rfl := (show v = Value.bool _ from ry)
        exact (by first | exact RcNeAt.tuple_bool (show s.heap.IsTuple _ its.toArray from pl) hu0 | exact RcNeAt.tuple_bool _ (show s.heap.IsTuple _ its.toArray from pl) hu0 | exact RcNeAt.tuple_bool _ _ (show s.heap.IsTuple _ its.toArray from pl) hu0)
      | int i2 =>
        obtain ⟨tv, rfl⟩ := (show ∃ t, v = Value.int _ t from ry)
        exact (by first | exact RcNeAt.tuple_int (show s.heap.IsTuple _ its.toArray from pl) hu0 | exact RcNeAt.tuple_int _ (show s.heap.IsTuple _ its.toArray from pl) hu0 | exact RcNeAt.tuple_int _ _ (show s.heap.IsTuple _ its.toArray from pl) hu0)
      | str z2 =>
        obtain ⟨tv, rfl⟩ := (show ∃ t, v = Value.str _ t from ry)
        exact (by first | exact RcNeAt.tuple_str (show s.heap.IsTuple _ its.toArray from pl) hu0 | exact RcNeAt.tuple_str _ (show s.heap.IsTuple _ its.toArray from pl) hu0 | exact RcNeAt.tuple_str _ _ (show s.heap.IsTuple _ its.toArray from pl) hu0)
      | @tup a2 xs2 ds2 q2 t2 =>
        obtain rfl := (show v = Value.ref _ from ry)
        obtain ⟨its2, rv2, pl2, hz2⟩ := I.tuple q2
        rw [eqD]
        have l1 : its.toArray.size = ds1.length := by rw [List.size_toArray, ← rv.length]; exact t1.length
        have l2 : its2.toArray.size = ds2.length := by rw [List.size_toArray, ← rv2.length]; exact t2.length
        have z := RcNeAt.tuples (A := A) (e := eAt ds1 ds2) (show s.heap.IsTuple _ its.toArray from pl) (show s.heap.IsTuple _ its2.toArray from pl2) hu0 (elems (by first | exact .inl rfl | exact .inr rfl) t1 t2 rv rv2)
        rw [l1, l2, eqDs_tup ds1 ds2] at z
        exact z
      | @lst a2 xs2 ds2 q2 t2 =>
        obtain rfl := (show v = Value.ref _ from ry)
        obtain ⟨its2, rv2, pl2, hz2⟩ := I.list q2
        exact (by first | exact RcNeAt.tuple_list (show s.heap.IsTuple _ its.toArray from pl) pl2.isList hu0 | exact RcNeAt.tuple_list _ (show s.heap.IsTuple _ its.toArray from pl) pl2.isList hu0 | exact RcNeAt.tuple_list _ _ (show s.heap.IsTuple _ its.toArray from pl) pl2.isList hu0)
    | @lst a1 xs1 ds1 q1 t1 =>
      obtain rfl := (show u = Value.ref _ from rx)
      obtain ⟨its, rv, pl, hz⟩ := I.list q1
      cases hy with
      | non =>
        obtain rfl := (show v = Value.none from ry)
        exact (by first | exact RcNeAt.list_none pl.isList hu0 | exact RcNeAt.list_none _ pl.isList hu0 | exact RcNeAt.list_none _ _ pl.isList hu0)
      | bl b2 =>
        obtain rfl := (show v = Value.bool _ from ry)
        exact (by first | exact RcNeAt.list_bool pl.isList hu0 | exact RcNeAt.list_bool _ pl.isList hu0 | exact RcNeAt.list_bool _ _ pl.isList hu0)
      | int i2 =>
        obtain ⟨tv, rfl⟩ := (show ∃ t, v = Value.int _ t from ry)
        exact (by first | exact RcNeAt.list_int pl.isList hu0 | exact RcNeAt.list_int _ pl.isList hu0 | exact RcNeAt.list_int _ _ pl.isList hu0)
      | str z2 =>
        obtain ⟨tv, rfl⟩ := (show ∃ t, v = Value.str _ t from ry)
        exact (by first | exact RcNeAt.list_str pl.isList hu0 | exact RcNeAt.list_str _ pl.isList hu0 | exact RcNeAt.list_str _ _ pl.isList hu0)
      | @tup a2 xs2 ds2 q2 t2 =>
        obtain rfl := (show v = Value.ref _ from ry)
        obtain ⟨its2, rv2, pl2, hz2⟩ := I.tuple q2
        exact (by first | exact RcNeAt.list_tuple pl.isList (show s.heap.IsTuple _ its2.toArray from pl2) hu0 | exact RcNeAt.list_tuple _ pl.isList (show s.heap.IsTuple _ its2.toArray from pl2) hu0 | exact RcNeAt.list_tuple _ _ pl.isList (show s.heap.IsTuple _ its2.toArray from pl2) hu0)
      | @lst a2 xs2 ds2 q2 t2 =>
        obtain rfl := (show v = Value.ref _ from ry)
        obtain ⟨its2, rv2, pl2, hz2⟩ := I.list q2
        rw [eqD]
        have l1 : its.toArray.size = ds1.length := by rw [List.size_toArray, ← rv.length]; exact t1.length
        have l2 : its2.toArray.size = ds2.length := by rw [List.size_toArray, ← rv2.length]; exact t2.length
        by_cases hl : ds1.length = ds2.length
        · have z := RcNeAt.lists (A := A) (e := eAt ds1 ds2) pl.isList pl2.isList (by rw [l1, l2, hl]) hu0 (elems (by first | exact .inl rfl | exact .inr rfl) t1 t2 rv rv2)
          rw [l1, eqDs_all ds1 ds2 hl] at z
          exact z
        · have z := RcNeAt.lists_lengths (A := A) pl.isList pl2.isList (by rw [l1, l2]; simpa using hl) hu0
          rw [eqDs_len ds1 ds2 hl]
          exact z
theorem rcAt_D (I : Inv X pins σ H s) : ∀ (n : Nat) (d e : Dt) (x y : V) (u v : Value) (A : Around), dep d ≤ n → Has X.K H x d → Has X.K H y e → RelV x u → RelV y v → A.units + n < cLine → RcAt A s u v (eqD d e) := by
  intro n
  induction n with
  | zero =>
    intro d e x y u v A hd hx hy rx ry hu
    refine rc_step I (by omega) hx hy rx ry fun {ds1 _ _ _ _ _} e => ?_
    rcases e with e | e <;> (subst e; rw [dep] at hd; exact absurd hd (by omega))
  | succ n ih =>
    intro d e x y u v A hd hx hy rx ry hu
    refine rc_step I (by omega) hx hy rx ry fun {ds1 ds2 xs1 xs2 its its2} e t1 t2 r1 r2 => elems_at I ih ?_ t1 t2 r1 r2 (show A.units + 1 + n < cLine by omega)
    rcases e with e | e <;> (subst e; rw [dep] at hd; omega)
theorem rcNe_D (I : Inv X pins σ H s) {n : Nat} {d e : Dt} {x y : V} {u v : Value} {A : Around} (hd : dep d ≤ n) (hx : Has X.K H x d) (hy : Has X.K H y e) (rx : RelV x u) (ry : RelV y v) (hu : A.units + n < cLine) : RcNeAt A s u v (!eqD d e) := by
  refine rcNe_step I (by omega) hx hy rx ry fun {ds1 ds2 xs1 xs2 its its2} e t1 t2 r1 r2 => elems_at I (rcAt_D I (n - 1)) ?_ t1 t2 r1 r2 ?_
  · rcases e with e | e <;> (subst e; rw [dep] at hd; omega)
  · show A.units + 1 + (n - 1) < cLine
    rcases e with e | e <;> (subst e; rw [dep] at hd; omega)
end
section
variable {X : Cx}
def rEqD (K : PySem.W.Frag) (neg : Bool) : R2 := fun x y H Q => ∃ d e, Has K H x d ∧ Has K H y e ∧ dep d ≤ 50 ∧ Q (.bl (if neg then !eqD d e else eqD d e)) H
theorem op_eqD (hu : X.A.units + 64 < cLine) : OpR X (compareOp .Eq) (rEqD X.K false) := by
  intro pins s σ H x y v u Q I rx ry h
  obtain ⟨d, e, hx, hy, hd, q⟩ := h
  exact rcAt_D I 50 d e x y v u X.A hd hx hy rx ry (by omega) X.prog X.w X.xe _ ⟨.bl _, H, I, rfl, q⟩
theorem op_neD (hu : X.A.units + 64 < cLine) : OpR X (compareOp .NotEq) (rEqD X.K true) := by
  intro pins s σ H x y v u Q I rx ry h
  obtain ⟨d, e, hx, hy, hd, q⟩ := h
  exact rcNe_D I (n := 50) hd hx hy rx ry (by omega) X.prog X.w X.xe _ ⟨.bl _, H, I, rfl, q⟩
open Classical in
noncomputable def eV (K : PySem.W.Frag) (H : Hp) (dx : Dt) (u : Value) : Bool := decide (∃ y d, RelV y u ∧ Has K H y d ∧ eqD d dx = true)
open Classical in
theorem eV_of {pins : List (Addr × Obj)} {σ : St} {H : Hp} {s : Shared} (I : Inv X pins σ H s) {dx d : Dt} {y : V} {u : Value} (r : RelV y u) (h : Has X.K H y d) : eV X.K H dx u = eqD d dx := by
  unfold eV
  cases e : eqD d dx with
  | true => exact decide_eq_true ⟨y, d, r, h, e⟩
  | false =>
    refine decide_eq_false fun ⟨y', d', r', h', e'⟩ => ?_
    have := r.inj r'
    subst this
    rw [Has.inj I h h', e'] at e
    cases e
theorem any_eV {pins : List (Addr × Obj)} {σ : St} {H : Hp} {s : Shared} (I : Inv X pins σ H s) {dx : Dt} : ∀ {xs : List V} {us : List Value} {ds : List Dt}, Vals xs us → HasL X.K H xs ds → us.any (eV X.K H dx) = ds.any fun d => eqD d dx
  | _, _, _, .nil, h => by cases h; rfl
  | _, _, _, .cons r t, h => by
    cases h with
    | cons h ht => rw [List.any_cons, List.any_cons, eV_of I r h, any_eV I t ht]
def rInD (K : PySem.W.Frag) (neg : Bool) : R2 := fun x y H Q => ∃ p xs ds dx, y = .ref p ∧ (SqL K H p xs ∨ SqT K H p xs) ∧ HasL K H xs ds ∧ Has K H x dx ∧ depL ds ≤ 50 ∧ Q (.bl (if neg then !(ds.any fun d => eqD d dx) else ds.any fun d => eqD d dx)) H
theorem mem_eV {pins : List (Addr × Obj)} {σ : St} {H : Hp} {s : Shared} (I : Inv X pins σ H s) {A : Around} {dx : Dt} {x : V} {v : Value} (hx : Has X.K H x dx) (rx : RelV x v) (hu : A.units + 50 < cLine) {xs : List V} {us : List Value} {ds : List Dt} (r : Vals xs us) (h : HasL X.K H xs ds) (hd : depL ds ≤ 50) :
    ∀ u, u ∈ us.toArray → SeqAt.EqAt A s u v (eV X.K H dx u) := by
  intro u hu'
  have hm : u ∈ us := by simpa using hu'
  obtain ⟨j, hj, e⟩ := List.getElem_of_mem hm
  have hx' : j < xs.length := by rw [r.length]; exact hj
  obtain ⟨d, ed, hd'⟩ := h.get (i := j) (x := xs[j]) (by simp [hx'])
  obtain ⟨u', eu, ru⟩ := r.get (i := j) (x := xs[j]) (by simp [hx'])
  have eu' : u' = u := by
    rw [List.getElem?_eq_getElem hj, e] at eu
    exact (Option.some.inj eu).symm
  subst eu'
  rw [eV_of I ru hd']
  exact EqAt.of_rc (rcAt_D I 50 d dx _ x u' v A (Nat.le_trans (dep_get ed) hd) hd' hx ru rx hu) (eq_of_same I hd' hx ru rx) (hd'.noFloat ru)
theorem op_inD (hu : X.A.units + 64 < cLine) : OpR X (compareOp .In) (rInD X.K false) := by
  intro pins s σ H x y v u Q I rx ry h
  obtain ⟨p, xs, ds, dx, rfl, hq, hl, hx, hd, q⟩ := h
  obtain rfl := (show u = Value.ref p from ry)
  rcases hq with hq | hq
  · obtain ⟨its, rv, pl, hz⟩ := I.list hq
    refine in_listAt (eV X.K H dx) pl.isList (mem_eV I hx rx (show X.A.units + 1 + 50 < cLine by omega) rv hl hd) ⟨.bl _, H, I, rfl, ?_⟩
    rw [← List.any_toArray] at *
    first | (rw [any_eV I rv hl]; exact q) | (simpa [any_eV I rv hl] using q)
  · obtain ⟨its, rv, pl, hz⟩ := I.tuple hq
    refine in_tupleAt (eV X.K H dx) (show s.heap.IsTuple p its.toArray from pl) (mem_eV I hx rx (show X.A.units + 1 + 50 < cLine by omega) rv hl hd) ⟨.bl _, H, I, rfl, ?_⟩
    first | (rw [any_eV I rv hl]; exact q) | (simpa [any_eV I rv hl] using q)
theorem op_notInD (hu : X.A.units + 64 < cLine) : OpR X (compareOp .NotIn) (rInD X.K true) := by
  intro pins s σ H x y v u Q I rx ry h
  obtain ⟨p, xs, ds, dx, rfl, hq, hl, hx, hd, q⟩ := h
  obtain rfl := (show u = Value.ref p from ry)
  rcases hq with hq | hq
  · obtain ⟨its, rv, pl, hz⟩ := I.list hq
    refine notIn_listAt (eV X.K H dx) pl.isList (mem_eV I hx rx (show X.A.units + 1 + 50 < cLine by omega) rv hl hd) ⟨.bl _, H, I, rfl, ?_⟩
    simpa [any_eV I rv hl] using q
  · obtain ⟨its, rv, pl, hz⟩ := I.tuple hq
    refine notIn_tupleAt (eV X.K H dx) (show s.heap.IsTuple p its.toArray from pl) (mem_eV I hx rx (show X.A.units + 1 + 50 < cLine by omega) rv hl hd) ⟨.bl _, H, I, rfl, ?_⟩
    simpa [any_eV I rv hl] using q
end
end L2
set_option Elab.async false
set_option linter.all false
set_option maxRecDepth 100000
set_option maxHeartbeats 4000000
namespace L2
open PySem PySem.Spec PyProof.Rows
theorem lets_xc {X : Cx} {scope : Scope} {cl : List (Str × Addr)} {Nc : List Str} {Cc : Addr} {s : Shared} {H : Hp} {ex : List Addr} {pn : List (Addr × Obj)} : LetsP (XC X scope cl Nc Cc s H ex pn) EN where
  pass := fun _ _ _ _ _ _ _ h => by obtain ⟨_, _, _, _, _, q⟩ := h; exact q.elim
  own := PassesOwn.never
structure Callee (P : Program) (w : World) (K : PySem.W.Frag) (mg : Str → Option Value) (base : Heap) (x : Str) (k : Nat) (ps : List Str) (sp : Sp) : Prop where
  ex : ∃ f fd, FnOk P w K mg base (CXR P w) k f fd ps sp ∧ mg x = some (.ref f) ∧ PySem.W.keepIn K (.ref f) = true ∧ Binds K fd ps []
structure Maker (P : Program) (w : World) (K : PySem.W.Frag) (mg : Str → Option Value) (base : Heap) (x : Str) (C : Addr) (k : Nat) (ps : List Str) (sp : Sp) : Prop where
  ex : ∃ f fd, Mk K C f ∧ FnOk P w K mg base (CXR P w) k f fd ps sp ∧ mg x = some (.ref C) ∧ Binds K fd ps []
section
variable {X : Cx} {k : Nat} {C : Addr} {ps : List Str} {sp : Sp} {ES : St → XK} {x : Str} {p pos : Pos} {e : Expr} {es : List Expr} {t : TA}
theorem pe_c (C : Callee X.prog X.w X.K X.mg X.base x k ps sp) (hr : Room k X.A) (hx : LetsP X ES) (ha : PA X (e :: es) t) (hg : Gl X x := by rfl) (hdb : (x == ("__debug__" : Str)) = false := by decide)
    (he : starEach (e :: es) X.env = (false, eval e X.env) :: starEach es X.env := by rfl) (hpl : (backTo pos (starEach es X.env)).any (·.1) = false := by rfl) : PE X (.Call (.Name x p) (e :: es) [] pos) (tCallS sp [] ES t) := by
  obtain ⟨f, fd, F, hm, hk, hb⟩ := C.ex
  exact pe_callS F hr hg hm hk hb .nil hx ha hdb he hpl
theorem pe_mk (M : Maker X.prog X.w X.K X.mg X.base x C k ps sp) (hr : Room (k + 1) X.A) (hx : LetsP X ES) (ha : PA X (e :: es) t) (hg : Gl X x := by rfl) (hdb : (x == ("__debug__" : Str)) = false := by decide)
    (he : starEach (e :: es) X.env = (false, eval e X.env) :: starEach es X.env := by rfl) (hpl : (backTo pos (starEach es X.env)).any (·.1) = false := by rfl) : PE X (.Call (.Name x p) (e :: es) [] pos) (tMakeS C sp [] ES t) := by
  obtain ⟨f, fd, Mk, F, hm, hb⟩ := M.ex
  exact pe_makeS Mk F hr hg hm hb .nil hx ha hdb he hpl
end
section
variable {P : Program} {w : World} {K : PySem.W.Frag} {mg : Str → Option Value} {base : Heap}
theorem Fun.okX {x qual : Str} {st : Stmt} {f : Addr} {fd : FuncData} {N ps : List Str} {k : Nat} {sp : Sp} (F : Fun K x qual st f fd) (S : FnScope N ps (defScope st)) (len : ∀ vs H Q E, sp vs H Q E → vs.length = ps.length)
    (hbody : ∀ (cdv : Value) (A : Around) (outer : List Env) (s : Shared) (H : Hp) (vs : List V) (Q : VK) (E : XK), Room k (A.deeper (envOfC qual (defScope st) s.heap.objs.size f cdv)) → sp vs H Q E →
      Lets (cxOf (CXR P w) P w K mg base N qual (defScope st) f cdv A outer s H E) (fun _ => E) →
      ∃ t, PSs (cxOf (CXR P w) P w K mg base N qual (defScope st) f cdv A outer s H E) (defBody st) t ∧ t { nx := fun _ H' => Q .non H', rt := Q } (start N vs) H) : FnOk P w K mg base (CXR P w) (k + 1) f fd ps sp := by
  obtain ⟨oc, od, kV, doc, pm, an, cdv, ct, osl, rfl, lk, hcd⟩ := F.ex
  exact fn_of lk hcd S len fun A outer s H vs Q E hr hsp => hbody cdv A outer s H vs Q E hr hsp lets_body
theorem callee_of {x : Str} {f : Addr} {fd : FuncData} {k : Nat} {ps : List Str} {sp : Sp} (F : FnOk P w K mg base (CXR P w) k f fd ps sp) (hm : mg x = some (.ref f)) (hk : PySem.W.keepIn K (.ref f) = true) (hb : Binds K fd ps []) : Callee P w K mg base x k ps sp := ⟨f, fd, F, hm, hk, hb⟩
end
theorem relabel_mem {scope : Scope} {env : Env} {x : Str} {k : NameKind} (h : (relabel scope env).names.lookup x = some k) : ∃ n k', (n, k') ∈ scope.names ∧ x = n ∧ (k = k' ∨ (k = .cell ∧ k' = .free)) := by
  have hm := PySem.mem_of_lookup h
  have hm' : (x, k) ∈ scope.names.map fun (n, k) => if (k == NameKind.free && env.scope.kind == .function && env.kindOf n == some .cell) then (n, NameKind.cell) else (n, k) := hm
  obtain ⟨⟨n, k'⟩, hin, e⟩ := List.mem_map.mp hm'
  refine ⟨n, k', hin, ?_⟩
  dsimp only at e
  split at e
  · rename_i hc
    cases e
    refine ⟨rfl, .inr ⟨rfl, ?_⟩⟩
    simp only [Bool.and_eq_true, beq_iff_eq] at hc
    exact hc.1.1
  · cases e
    exact ⟨rfl, .inl rfl⟩
theorem comp_ok0 {X : Cx} {scope : Scope} {Nc : List Str} {nt : Nat} (hf : ∀ y ∈ scope.names, y.2 ≠ .free) (hc : ∀ y ∈ scope.names, y.2 ≠ .cell) (hk : scope.kind = .function)
    (hn : ∀ y ∈ scope.names, y.2 = .local → scope.names.lookup y.1 = some .local) (hl : Nc.length = nt) : CompOk X scope [] Nc nt [] where
  clos := closureFor_none hf
  cell := hc
  kind := hk
  names := hn
  sub := fun x c h => nomatch h
  has := fun x h => by
    exfalso
    rcases h with h | h
    · obtain ⟨n, k', hm, _, e⟩ := relabel_mem h
      rcases e with e | ⟨_, e⟩
      · exact hc _ hm e.symm
      · exact hf _ hm e
    · obtain ⟨n, k', hm, _, e⟩ := relabel_mem h
      rcases e with e | ⟨e, _⟩
      · exact hf _ hm e.symm
      · cases e
  len := by simpa using hl
  fr := fun j i h => by simp at h
theorem comp_okF {X : Cx} {scope : Scope} {cl : List (Str × Addr)} {Nc : List Str} {nt : Nat} {is : List Nat} (hcl : closureFor scope X.env = pure cl) (hc : ∀ y ∈ scope.names, y.2 ≠ .cell) (hk : scope.kind = .function)
    (hn : ∀ y ∈ scope.names, y.2 = .local → scope.names.lookup y.1 = some .local) (hs : ∀ p ∈ cl, X.env.cells.lookup p.1 = some p.2) (hh : (scope.names.all fun y => y.2 != .free || (cl.lookup y.1).isSome) = true) (hl : Nc.length = nt + is.length)
    (hfr : ∀ (j i : Nat), is[j]? = some i → ∃ x, Nc[nt + j]? = some x ∧ X.N[i]? = some x ∧ (X.env.kindOf x = some .cell ∨ X.env.kindOf x = some .free) ∧
      ((relabel scope X.env).names.lookup x = some .cell ∨ (relabel scope X.env).names.lookup x = some .free)) : CompOk X scope cl Nc nt is where
  clos := hcl
  cell := hc
  kind := hk
  names := hn
  sub := fun x c h => hs _ (PySem.mem_of_lookup h)
  has := fun x h => by
    have fin : ∀ n k', (n, k') ∈ scope.names → x = n → k' = .free → ∃ c, cl.lookup x = some c := fun n k' hm e1 e2 => by
      have z := List.all_eq_true.mp hh _ hm
      subst e1 e2
      simp only [bne_self_eq_false, Bool.false_or] at z
      exact Option.isSome_iff_exists.mp z
    rcases h with h | h
    · obtain ⟨n, k', hm, e0, e⟩ := relabel_mem h
      rcases e with e | ⟨_, e⟩
      · exact absurd e.symm (hc _ hm)
      · exact fin n k' hm e0 e
    · obtain ⟨n, k', hm, e0, e⟩ := relabel_mem h
      rcases e with e | ⟨e, _⟩
      · exact fin n k' hm e0 e.symm
      · cases e
  len := hl
  fr := hfr
theorem sqT_of {K : PySem.W.Frag} {a : Addr} {dd : Option Addr} {its : Array Value} {n : Nat} {sl : Array (Option Value)} {xs : List V} (l : K.lookup a = some ⟨.type "tuple", dd, .seq its n, sl⟩) (hz : its.size ≤ sizeLine) (r : Vals xs its.toList) (H : Hp) : SqT K H a xs := .inr ⟨_, its, n, l, rfl, rfl, hz, r⟩
end L2
namespace L2
open PySem PySem.Spec PyProof.Rows
def intsOf : List Expr → Option (List Int)
  | [] => some []
  | .Constant (.int n) _ _ :: r => (intsOf r).map (n :: ·)
  | _ => none
def tInts (ns : List Int) : TA := fun _ H Q => Q (ns.map V.int) H
theorem pa_ints {X : Cx} : ∀ {es : List Expr} {ns : List Int}, intsOf es = some ns → PA X es (tInts ns)
  | [], ns, h => by
    cases h
    exact pa_nil
  | e :: r, ns, h => by
    unfold intsOf at h
    split at h
    · rename_i h0; cases h0
    · rename_i n j p r' h0
      cases h0
      cases q : intsOf r with
      | none => rw [q] at h; cases h
      | some ms =>
        rw [q] at h
        cases h
        have z := pa_cons (X := X) (pe_int (X := X) (i := n) (j := j) (pos := p)) (pa_ints q)
        exact z
    · cases h
end L2
namespace L2
open PySem PySem.Spec PyProof.Rows
abbrev rListOf (K : PySem.W.Frag) : List V → Hp → VK → Prop := fun xs H Q => ∃ p ys, xs = [.ref p] ∧ (SqL K H p ys ∨ SqT K H p ys) ∧ ∀ l, H l = none → Q (.ref l) (upd H l (.lst ys))
abbrev rTupOf (K : PySem.W.Frag) : List V → Hp → VK → Prop := fun xs H Q => ∃ p ys, xs = [.ref p] ∧ ((SqL K H p ys ∧ ∀ l, H l = none → Q (.ref l) (upd H l (.tup ys))) ∨ (SqT K H p ys ∧ Q (.ref p) H))
abbrev rLenOf (K : PySem.W.Frag) : List V → Hp → VK → Prop := fun xs H Q => ∃ p ys, xs = [.ref p] ∧ (SqL K H p ys ∨ SqT K H p ys) ∧ Q (.int ys.length) H
theorem pe_fldK (K : PySem.W.Frag) {X : Cx} {e : Expr} {f : Str} {pos : Pos} {ta : TE} (he : PE X e ta) (hb : attributeBase e f X.env (eval e X.env) = eval e X.env) (hK : X.K = K := by rfl) : PE X (.Attribute e f pos) (tFld K ta f) := by
  subst hK; exact pe_fld he hb
theorem pg_tupK (K : PySem.W.Frag) {X : Cx} {pos : Pos} {es : List Expr} {k : Nat} {t : TGs} {n : Nat} (hc : X.calm = true) (h : PGs X es t) (hK : X.K = K := by rfl)
    (hn : (assignEach es X.env).length = n := by rfl) (hst : (assignEach es X.env).findIdx? (·.1) = none := by rfl) : PG X (.Tuple es k pos) (gTup K n t) := by
  subst hK; exact pg_tup hc h hn hst
theorem pi_listK (K : PySem.W.Frag) {X : Cx} {tg l : Expr} {tl : TE} (hl : PE X l tl) (hK : X.K = K := by rfl) : PI X tg l (iList K tl) := by
  subst hK; exact pi_list hl
theorem pi_enumK (K : PySem.W.Frag) {X : Cx} {a : Expr} {ta : TA} {p pos : Pos} {elts : List Expr} {x1} {tp : Pos} (hg : Gl X "enumerate") (hm : X.mg "enumerate" = none) (ha : PA X [a] ta) (hK : X.K = K := by rfl) (hs : starEach [a] X.env = [(false, eval a X.env)] := by rfl) :
    PI X (.Tuple elts x1 tp) (.Call (.Name "enumerate" p) [a] [] pos) (iEnum K ta) := by
  subst hK; exact pi_enum hg hm ha hs
end L2
set_option Elab.async false
set_option linter.all false
set_option maxRecDepth 100000
set_option maxHeartbeats 4000000
namespace L2
open PySem PySem.Spec PyProof.Rows
def frsh (H0 H : Hp) : Hp := fun b => match H0 b with
  | none => H b
  | some _ => none
theorem frsh_none {H0 H : Hp} {b : Addr} (h : H0 b = none) : frsh H0 H b = H b := by unfold frsh; rw [h]
theorem frsh_some {H0 H : Hp} {b : Addr} {o : HO} (h : H0 b = some o) : frsh H0 H b = none := by unfold frsh; rw [h]
theorem of_frsh {H0 H : Hp} {b : Addr} {o : HO} (h : frsh H0 H b = some o) : H0 b = none ∧ H b = some o := by
  cases e : H0 b with
  | none => exact ⟨rfl, by rwa [frsh_none e] at h⟩
  | some u => rw [frsh_some e] at h; cases h
theorem frsh_same (H0 H : Hp) : L2.Same (frsh H0 H) H := fun _ _ h => (of_frsh h).2
theorem frsh_upd {H0 H : Hp} {l : Addr} {o u : HO} (h : H0 l = some u) : frsh H0 (upd H l o) = frsh H0 H := by
  funext b
  unfold frsh upd
  by_cases e : b = l
  · subst e; rw [h]
  · rw [if_neg e]
theorem frsh_mono {H0 H H' : Hp} (e : L2.Same H H') : L2.Same (frsh H0 H) (frsh H0 H') := fun b o h => by
  obtain ⟨h1, h2⟩ := of_frsh h
  rw [frsh_none h1]; exact e b o h2
theorem frsh_from {H0 H1 H : Hp} (e : L2.Same H0 H1) : L2.Same (frsh H1 H) (frsh H0 H) := fun b o h => by
  obtain ⟨h1, h2⟩ := of_frsh h
  rw [frsh_none (e.free h1)]; exact h2
theorem same_both {H H' : Hp} {p : Addr} {o : HO} (e : L2.Same H H') (h : H' p = none) : L2.Same H (upd H' p o) := e.trans (same_upd h)
abbrev RowAt (H : Hp) (a : Addr) (r : List Int) : Prop := H a = some (.lst (r.map V.int))
structure GR (H : Hp) (v : V) (rs : List (List Int)) (m : Addr) (ras : List Addr) : Prop where
  ev : v = .ref m
  top : H m = some (.lst (ras.map V.ref))
  rows : Paired (RowAt H) ras rs
def TGrid (H : Hp) (v : V) (rs : List (List Int)) : Prop := ∃ m ras, GR H v rs m ras
theorem Paired.getP {α β : Type} {F : α → β → Prop} : ∀ {l₁ : List α} {l₂ : List β} {i : Nat} {b : β}, Paired F l₁ l₂ → l₂[i]? = some b → ∃ a, l₁[i]? = some a ∧ F a b
  | _, _, _, _, .nil, e => by simp at e
  | _, _, 0, _, .cons r _, e => by simp at e; subst e; exact ⟨_, rfl, r⟩
  | _, _, i + 1, x, .cons _ t, e => by
    obtain ⟨u, h1, h2⟩ := Paired.getP (i := i) (b := x) t (by simpa using e)
    exact ⟨u, by simpa using h1, h2⟩
theorem Paired.getL {α β : Type} {F : α → β → Prop} : ∀ {l₁ : List α} {l₂ : List β} {i : Nat} {a : α}, Paired F l₁ l₂ → l₁[i]? = some a → ∃ b, l₂[i]? = some b ∧ F a b
  | _, _, _, _, .nil, e => by simp at e
  | _, _, 0, _, .cons r _, e => by simp at e; subst e; exact ⟨_, rfl, r⟩
  | _, _, i + 1, x, .cons _ t, e => by
    obtain ⟨u, h1, h2⟩ := Paired.getL (i := i) (a := x) t (by simpa using e)
    exact ⟨u, by simpa using h1, h2⟩
theorem Paired.appendP {α β : Type} {F : α → β → Prop} : ∀ {l₁ l₃ : List α} {l₂ l₄ : List β}, Paired F l₁ l₂ → Paired F l₃ l₄ → Paired F (l₁ ++ l₃) (l₂ ++ l₄)
  | _, _, _, _, .nil, h => h
  | _, _, _, _, .cons r t, h => .cons r (Paired.appendP t h)
theorem Paired.withMem {α β : Type} {F : α → β → Prop} : ∀ {l₁ : List α} {l₂ : List β}, Paired F l₁ l₂ → Paired (fun a b => a ∈ l₁ ∧ F a b) l₁ l₂
  | _, _, .nil => .nil
  | _, _, .cons h t => .cons ⟨List.mem_cons_self, h⟩ (L2.Paired.mapP (Paired.withMem t) fun a b z => ⟨List.mem_cons_of_mem _ z.1, z.2⟩)
theorem rows_same {H H' : Hp} (e : L2.Same H H') {ras : List Addr} {rs : List (List Int)} (h : Paired (RowAt H) ras rs) : Paired (RowAt H') ras rs := L2.Paired.mapP h fun a r z => e _ _ z
theorem GR.same {H H' : Hp} (e : L2.Same H H') {v : V} {rs : List (List Int)} {m : Addr} {ras : List Addr} (h : GR H v rs m ras) : GR H' v rs m ras := ⟨h.ev, e _ _ h.top, rows_same e h.rows⟩
theorem TGrid.same {H H' : Hp} (e : L2.Same H H') {v : V} {rs : List (List Int)} (h : TGrid H v rs) : TGrid H' v rs := let ⟨m, ras, t⟩ := h; ⟨m, ras, t.same e⟩
def gridD (rs : List (List Int)) : Dt := .lst (rs.map fun r => .lst (r.map Dt.int))
theorem rows_has {K : PySem.W.Frag} {H : Hp} : ∀ {ras : List Addr} {rs : List (List Int)}, Paired (RowAt H) ras rs → HasL K H (ras.map V.ref) (rs.map fun r => .lst (r.map Dt.int))
  | _, _, .nil => .nil
  | _, _, .cons h t => .cons (.lst (SqL.of h) (hasL_ints H _)) (rows_has t)
theorem GR.has {K : PySem.W.Frag} {H : Hp} {v : V} {rs : List (List Int)} {m : Addr} {ras : List Addr} (h : GR H v rs m ras) : Has K H v (gridD rs) := by
  rw [h.ev]; exact .lst (SqL.of h.top) (rows_has h.rows)
theorem TGrid.has {K : PySem.W.Frag} {H : Hp} {v : V} {rs : List (List Int)} (h : TGrid H v rs) : Has K H v (gridD rs) := let ⟨_, _, t⟩ := h; t.has
theorem depL_ints : ∀ r : List Int, depL (r.map Dt.int) = 0
  | [] => by simp [depL]
  | i :: r => by rw [List.map_cons, depL, depL_ints r]; simp [dep]
theorem eqDs_ints : ∀ r t : List Int, eqDs (r.map Dt.int) (t.map Dt.int) = true ↔ r = t
  | [], [] => by simp [eqDs]
  | [], _ :: _ => by simp [eqDs]
  | _ :: _, [] => by simp [eqDs]
  | a :: r, b :: t => by
    rw [List.map_cons, List.map_cons, eqDs, Bool.and_eq_true, eqDs_ints r t, eqD]
    simp
def Good (rs : List (List Int)) : Prop := 2 ≤ rs.length ∧ rs.length ≤ 13 ∧ ∀ (y : Nat) (r : List Int), rs[y]? = some r → r.length = rs.length - y ∧ ∀ v ∈ r, 0 ≤ v ∧ v ≤ 2
theorem copy_grid {K : PySem.W.Frag} {i : Nat} {σ : St} {H : Hp} {Q : VK} {v : V} {rs : List (List Int)} (hv : σ[i]? = some (some v)) (G : TGrid H v rs) (hz : rs.length ≤ 1000) (k : ∀ r H', L2.Same H H' → TGrid (frsh H H') r rs → Q r H') :
    tComp 1 [] (iList K (tVar i)) (gName 0) tYes (tCB (rListOf K) (tCons (tVar 0) tNil)) σ H Q := by
  obtain ⟨m, ras, G⟩ := G
  refine ⟨v, hv, m, G.ev, ⟨_, SqL.of G.top⟩, ?_⟩
  have hlr : ras.length = rs.length := Paired.length G.rows
  refine comp_list (K := K) (a := m) (xs := ras.map V.ref) (fun i ys σc H1 => L2.Same H H1 ∧ σc.length = 1 ∧ ∃ ras', ys = ras'.map V.ref ∧ Paired (RowAt (frsh H H1)) ras' (rs.take i)) ⟨L2.Same.refl H, rfl, [], rfl, by simpa using Paired.nil⟩
    (by rw [List.length_map, hlr, sizeLine_eq]; omega) (fun i ys σ H1 _ ⟨s1, _⟩ => s1.seq (SqL.of G.top)) (fun i ys σ H1 ⟨_, _, ras', e, h⟩ => ?_) ?_ ?_
  · have := Paired.length h
    rw [e, List.length_map, this, List.length_take]
    omega
  · rintro i x ys σc H1 hx ⟨s1, hl, ras', rfl, hp⟩
    rw [List.getElem?_map] at hx
    cases ea : ras[i]? with
    | none => rw [ea] at hx; cases hx
    | some a =>
      rw [ea] at hx
      cases hx
      obtain ⟨r, er, hr⟩ := Paired.getL G.rows ea
      obtain ⟨c, rfl⟩ : ∃ c, σc = [c] := by
        match σc, hl with
        | [c], _ => exact ⟨c, rfl⟩
      refine ⟨_, rfl, a, _, rfl, .inl (s1.seq (SqL.of hr)), fun l hl1 => ?_⟩
      refine ⟨same_both s1 hl1, rfl, ras' ++ [l], by simp, ?_⟩
      rw [List.take_add_one, er]
      refine Paired.appendP (rows_same (frsh_mono (same_upd hl1)) hp) (.cons ?_ .nil)
      show frsh H (upd H1 l (.lst (r.map V.int))) l = _
      rw [frsh_none (s1.free hl1), upd_same]
  · rintro ys σc H1 ⟨s1, hl, ras', rfl, hp⟩ p hp1
    rw [List.length_map, hlr, List.take_length] at hp
    refine k _ _ (same_both s1 hp1) ⟨p, ras', rfl, ?_, rows_same (frsh_mono (same_upd hp1)) hp⟩
    rw [frsh_none (s1.free hp1), upd_same]
end L2
set_option Elab.async false
set_option linter.all false
set_option maxRecDepth 100000
set_option maxHeartbeats 4000000
namespace L2
open PySem PySem.Spec PyProof.Rows
theorem ints_of_vals : ∀ {ns : List Int} {its : List Value}, Vals (ns.map V.int) its → IntsAre its ns
  | [], _, r => by cases r; exact .nil
  | n :: ns, _, r => by
    cases r with
    | cons h t =>
      obtain ⟨k, rfl⟩ := h
      exact .cons n k (ints_of_vals t)
theorem vals_of_ints : ∀ {ns : List Int} {its : List Value}, IntsAre its ns → Vals (ns.map V.int) its
  | _, _, .nil => .nil
  | _, _, .cons n k r => .cons ⟨k, rfl⟩ (vals_of_ints r)
section
variable {X : Cx}
abbrev rSorted (K : PySem.W.Frag) : List V → Hp → VK → Prop := fun xs H Q => ∃ (p : Addr) (ns : List Int), xs = [.ref p] ∧ SqL K H p (ns.map V.int) ∧ ns.length < 64 ∧ ∀ (l : Addr) (ns' : List Int), H l = none → ns'.Perm ns → ns'.Pairwise (· ≤ ·) → Q (.ref l) (upd H l (.lst (ns'.map V.int)))
theorem call_sorted : CallR X (.builtin "sorted") (rSorted X.K) := by
  intro pins s σ H xs us Q I r h
  obtain ⟨p, ns, rfl, hq, h64, q⟩ := h
  obtain ⟨u, rfl, rx⟩ := vals1 r
  cases rx
  obtain ⟨its, r', pl, hz⟩ := I.list hq
  have hlen : its.length = ns.length := by have := r'.length; rw [List.length_map] at this; exact this.symm
  refine sorted_ints pl.isList (ints_of_vals r') (by omega) fun out ns' a1 a2 a3 => ?_
  obtain ⟨e, he⟩ := sortedAll_at s.heap its out
  have hz' : (ns'.map V.int).length ≤ sizeLine := by rw [List.length_map, a2.length_eq]; rw [List.length_map] at hz; exact hz
  exact ⟨.ref (s.heap.objs.size + 1), _, I.laid (t' := s.toks) (fun _ _ => sortedAll_old) (Nat.le_succ _) (show ObjOk X.prog X.w _ _ _ (.lst (ns'.map V.int)) from ⟨hz', out.toList, e, vals_of_ints a1, by simpa using he⟩), rfl, q _ ns' (I.hok.fresh (Nat.le_succ _)) a2 a3⟩
abbrev rMaxL (K : PySem.W.Frag) : List V → Hp → VK → Prop := fun xs H Q => ∃ (p : Addr) (ns : List Int), xs = [.ref p] ∧ SqL K H p (ns.map V.int) ∧ 0 < ns.length ∧ ∀ M, M ∈ ns → (∀ a ∈ ns, a ≤ M) → Q (.int M) H
theorem call_maxL (hc : X.calm = true) : CallR X (.builtin "max") (rMaxL X.K) := by
  intro pins s σ H xs us Q I r h
  obtain ⟨p, ns, rfl, hq, h0, q⟩ := h
  obtain ⟨u, rfl, rx⟩ := vals1 r
  cases rx
  obtain ⟨its, r', pl, hz⟩ := I.list hq
  have hi := ints_of_vals r'
  obtain ⟨zs, ez⟩ := hi.allInts.items
  have en : ns = zs.toList.map (·.1) := by
    have e2 := hi.numsOf
    have e3 := nums_intItems zs
    rw [← ez] at e3
    exact e2.symm.trans e3
  have lz : zs.size = ns.length := by rw [en]; simp
  have hl : s.heap.IsList p (intItems zs) := ez ▸ pl.isList
  refine max_intList (I.ok.hd hc) hl (lz.symm ▸ h0) fun v h' tk hv hk => ?_
  obtain ⟨t, rfl⟩ := intItems_at hv
  have ab := argBest_gt (numAt zs) (zs.size - 1)
  refine ⟨.int _, H, I.kept hk, ⟨t, rfl⟩, q _ ?_ fun a ha => ?_⟩
  · rw [numAt_eq, ← en, List.getD_eq_getElem?_getD]
    have hlt : argBest (fun i j => decide (numAt zs i > numAt zs j)) (zs.size - 1) < ns.length := by omega
    rw [List.getElem?_eq_getElem hlt]
    exact List.getElem_mem hlt
  · obtain ⟨j, hj, rfl⟩ := List.getElem_of_mem ha
    have := ab.2 j (by omega)
    rw [numAt_eq zs j, ← en, List.getD_eq_getElem?_getD, List.getElem?_eq_getElem hj] at this
    exact this
def unlike (ns : List Int) : Nat := (firstMet (fun i => ns.getD i 0) ns.length).length
def tLenSet (K : PySem.W.Frag) (t : TA) : TE := fun σ H Q => t σ H fun xs H1 => ∃ (p : Addr) (ns : List Int), xs = [.ref p] ∧ SqL K H1 p (ns.map V.int) ∧ ns.length ≤ 1000 ∧ Q (.int (unlike ns)) H1
theorem pe_lenset {e : Expr} {t : TA} {p1 p2 pos1 pos2 : Pos} (hc : X.calm = true) (hg1 : Gl X "len") (hm1 : X.mg "len" = none) (hg2 : Gl X "set") (hm2 : X.mg "set" = none) (ha : PA X [e] t)
    (he : starEach [e] X.env = [(false, eval e X.env)] := by rfl) (hpl : (backTo pos2 (starEach [] X.env)).any (·.1) = false := by rfl)
    (he1 : starEach [.Call (.Name "set" p2) [e] [] pos2] X.env = (false, eval (.Call (.Name "set" p2) [e] [] pos2) X.env) :: starEach [] X.env := by rfl) (hpl1 : (backTo pos1 (starEach [] X.env)).any (·.1) = false := by rfl) :
    PE X (.Call (.Name "len" p1) [.Call (.Name "set" p2) [e] [] pos2] [] pos1) (tLenSet X.K t) := by
  intro pins s σ H Q I h
  refine wpAny_Call_Name_kw (ld_blt I hg1 hm1 PySem.boot_len ?_ (by decide) (by decide))
  refine PyProof.Rows.callWith_builtin1 ?_ he1 hpl1
  rw [he1]
  show wpAny _ _ (spliced ((false, eval (.Call (.Name "set" p2) [e] [] pos2) X.env) :: backTo pos1 (starEach [] X.env))) _ _ s
  refine Calls.spliced_cons ?_
  refine wpAny_Call_Name_kw (ld_blt I hg2 hm2 boot_set ?_ (by decide) (by decide))
  refine PyProof.Rows.callWith_type1 (thn (ha pos2 pins s σ H _ I h) fun us s1 ⟨vs, H1, I1, r1, q1⟩ => ?_) he hpl
  obtain ⟨p, ns, rfl, hq, hn, q⟩ := q1
  obtain ⟨u, rfl, rx⟩ := vals1 r1
  cases rx
  obtain ⟨its, r', pl, hz⟩ := I1.list hq
  have lz : its.length = ns.length := by have := r'.length; rw [List.length_map] at this; exact this.symm
  refine PySem.call_set_list (ns := ns) (I1.ok.hd hc) pl.isList (by simpa using ints_of_vals r') (by rw [List.size_toArray, lz]; show ns.length + 1 < 4096; omega) fun h' tk hS hk => ?_
  refine Calls.spliced_nil ?_
  obtain ⟨o, ho, hso⟩ := hS.objOf
  obtain ⟨hex, es, ep, t, hd, _, _, hnn, hf⟩ := hso
  have e0 : its.toArray.size = ns.length := by rw [List.size_toArray, lz]
  rw [e0] at hnn
  have hes : es.size = unlike ns := by
    rw [← Array.length_toList]
    exact hnn
  have hle := firstMet_length_le (fun i => ns.getD i 0) ns.length
  have hle' : unlike ns ≤ ns.length := hle
  refine call_len_set ho hex hd hf (by rw [hes]; omega) ?_
  refine ⟨.int (unlike ns), H1, I1.kept fun b o hb => hk b o (Heap.lt_size hb) hb, ⟨tk + 1, ?_⟩, q⟩
  show Value.int _ _ = Value.int _ _
  rw [hes]
theorem pe_lensetK (K : PySem.W.Frag) {e : Expr} {t : TA} {p1 p2 pos1 pos2 : Pos} (hK : X.K = K) (hc : X.calm = true) (hg1 : Gl X "len") (hm1 : X.mg "len" = none) (hg2 : Gl X "set") (hm2 : X.mg "set" = none) (ha : PA X [e] t)
    (he : starEach [e] X.env = [(false, eval e X.env)] := by rfl) (hpl : (backTo pos2 (starEach [] X.env)).any (·.1) = false := by rfl)
    (he1 : starEach [.Call (.Name "set" p2) [e] [] pos2] X.env = (false, eval (.Call (.Name "set" p2) [e] [] pos2) X.env) :: starEach [] X.env := by rfl) (hpl1 : (backTo pos1 (starEach [] X.env)).any (·.1) = false := by rfl) :
    PE X (.Call (.Name "len" p1) [.Call (.Name "set" p2) [e] [] pos2] [] pos1) (tLenSet K t) := by
  subst hK
  exact pe_lenset hc hg1 hm1 hg2 hm2 ha he hpl he1 hpl1
end
end L2
set_option Elab.async false
set_option linter.all false
set_option maxRecDepth 100000
set_option maxHeartbeats 4000000
namespace L2
open PySem PySem.Spec PyProof.Rows
abbrev Pt := Int × Int
abbrev Tr := Int × Int × Int
def pD (p : Pt) : Dt := .tup [.int p.1, .int p.2]
def tD (t : Tr) : Dt := .tup [.int t.1, .int t.2.1, .int t.2.2]
def onN (n x y : Int) : Prop := 0 ≤ x ∧ 0 ≤ y ∧ x + y ≤ n
instance {n x y : Int} : Decidable (onN n x y) := by unfold onN; infer_instance
def mkAt (rs : List (List Int)) (x y : Int) : Int := (rs.getD y.toNat []).getD x.toNat 0
def cornersP (x y k : Int) : List Pt := if k = 0 then [(x, y), (x + 1, y), (x, y + 1)] else [(x + 1, y), (x + 1, y + 1), (x, y + 1)]
def isTri (n x y k : Int) : Prop := 0 ≤ x ∧ 0 ≤ y ∧ ((k = 0 ∧ x + y + 1 ≤ n) ∨ (k = 1 ∧ x + y + 2 ≤ n))
instance {n x y k : Int} : Decidable (isTri n x y k) := by unfold isTri; infer_instance
theorem isTri_iff {n x y k : Int} : isTri n x y k ↔ (k = 0 ∨ k = 1) ∧ ∀ p ∈ cornersP x y k, onN n p.1 p.2 := by
  unfold isTri cornersP onN
  constructor
  · rintro ⟨h1, h2, ⟨rfl, h3⟩ | ⟨rfl, h3⟩⟩
    · refine ⟨.inl rfl, fun p hp => ?_⟩
      rw [if_pos rfl] at hp
      simp only [List.mem_cons, List.not_mem_nil, or_false] at hp
      rcases hp with rfl | rfl | rfl <;> simp only <;> omega
    · refine ⟨.inr rfl, fun p hp => ?_⟩
      rw [if_neg (by decide)] at hp
      simp only [List.mem_cons, List.not_mem_nil, or_false] at hp
      rcases hp with rfl | rfl | rfl <;> simp only <;> omega
  · rintro ⟨rfl | rfl, h⟩
    · rw [if_pos rfl] at h
      have h1 := h (x, y) (by simp)
      have h2 := h (x + 1, y) (by simp)
      simp only at h1 h2
      omega
    · rw [if_neg (by decide)] at h
      have h1 := h (x + 1, y) (by simp)
      have h2 := h (x + 1, y + 1) (by simp)
      have h3 := h (x, y + 1) (by simp)
      simp only at h1 h2 h3
      omega
def fwd (a b c : Int) : Bool := (a == 0 && b == 1 && c == 2) || (a == 1 && b == 2 && c == 0) || (a == 2 && b == 0 && c == 1)
def bwd (a b c : Int) : Bool := (a == 0 && b == 2 && c == 1) || (a == 2 && b == 1 && c == 0) || (a == 1 && b == 0 && c == 2)
def sense3 (a b c : Int) : Int := if fwd a b c then 1 else if bwd a b c then -1 else 0
def senseL : List Int → Int
  | [a, b, c] => sense3 a b c
  | _ => 0
def senseT (rs : List (List Int)) (x y k : Int) : Int := senseL ((cornersP x y k).map fun p => mkAt rs p.1 p.2)
theorem tri3 {v : Int} (h : 0 ≤ v ∧ v ≤ 2) : v = 0 ∨ v = 1 ∨ v = 2 := by omega
theorem sorted_012 {ns : List Int} {a b c : Int} (hp : ns.Perm [a, b, c]) (hs : ns.Pairwise (· ≤ ·)) (ha : 0 ≤ a ∧ a ≤ 2) (hb : 0 ≤ b ∧ b ≤ 2) (hc : 0 ≤ c ∧ c ≤ 2) : ns = [0, 1, 2] ↔ (fwd a b c || bwd a b c) = true := by
  constructor
  · rintro rfl
    rcases tri3 ha with rfl | rfl | rfl <;> rcases tri3 hb with rfl | rfl | rfl <;> rcases tri3 hc with rfl | rfl | rfl <;> first | rfl | exact absurd hp (by decide)
  · intro h
    have hl := hp.length_eq
    match ns, hl with
    | [p, q, r], _ =>
      have m0 : (0 : Int) ∈ [p, q, r] ∧ (1 : Int) ∈ [p, q, r] ∧ (2 : Int) ∈ [p, q, r] := by
        refine ⟨hp.mem_iff.mpr ?_, hp.mem_iff.mpr ?_, hp.mem_iff.mpr ?_⟩ <;>
          (rcases tri3 ha with rfl | rfl | rfl <;> rcases tri3 hb with rfl | rfl | rfl <;> rcases tri3 hc with rfl | rfl | rfl <;> first | decide | exact absurd h (by decide))
      simp only [List.mem_cons, List.not_mem_nil, or_false] at m0
      simp only [List.pairwise_cons, List.mem_cons, List.not_mem_nil, or_false, forall_eq_or_imp, forall_eq] at hs
      obtain ⟨⟨h1, h2⟩, h3, _⟩ := hs
      have : p = 0 ∧ q = 1 ∧ r = 2 := by omega
      obtain ⟨rfl, rfl, rfl⟩ := this
      rfl
def triCol (n x y : Nat) : List Tr := ((x : Int), (y : Int), (0 : Int)) :: if x + y + 2 ≤ n then [((x : Int), (y : Int), (1 : Int))] else []
def triRow (n x : Nat) : List Tr := (List.range (n - x)).flatMap fun y => triCol n x y
def tris (n : Nat) : List Tr := (List.range n).flatMap fun x => triRow n x
theorem flatMap_succ {α : Type} (f : Nat → List α) (i : Nat) : (List.range (i + 1)).flatMap f = (List.range i).flatMap f ++ f i := by
  rw [List.range_succ, List.flatMap_append]
  simp
theorem mem_tris {n : Nat} {x y k : Int} : (x, y, k) ∈ tris n ↔ isTri n x y k := by
  unfold tris triRow triCol isTri
  simp only [List.mem_flatMap, List.mem_range, List.mem_cons]
  constructor
  · rintro ⟨a, ha, b, hb, h⟩
    rcases h with h | h
    · injection h with h1 h2
      injection h2 with h2 h3
      omega
    · split at h
      · simp only [List.mem_cons, List.not_mem_nil, or_false] at h
        injection h with h1 h2
        injection h2 with h2 h3
        omega
      · cases h
  · rintro ⟨h1, h2, ⟨rfl, h⟩ | ⟨rfl, h⟩⟩
    · refine ⟨x.toNat, by omega, y.toNat, by omega, .inl ?_⟩
      rw [Int.toNat_of_nonneg h1, Int.toNat_of_nonneg h2]
    · refine ⟨x.toNat, by omega, y.toNat, by omega, .inr ?_⟩
      rw [if_pos (by omega), Int.toNat_of_nonneg h1, Int.toNat_of_nonneg h2]
      simp
def kindsL (n x y j : Nat) : List Tr := (List.range j).flatMap fun (k : Nat) => if isTri n x y k then [((x : Int), (y : Int), (k : Int))] else []
theorem fm_congr {α β : Type} {f g : α → List β} : ∀ {l : List α}, (∀ x ∈ l, f x = g x) → l.flatMap f = l.flatMap g
  | [], _ => rfl
  | a :: l, h => by
    rw [List.flatMap_cons, List.flatMap_cons, h a List.mem_cons_self, fm_congr fun x hx => h x (List.mem_cons_of_mem _ hx)]
theorem fm_nil {α β : Type} {f : α → List β} : ∀ {l : List α}, (∀ x ∈ l, f x = []) → l.flatMap f = []
  | [], _ => rfl
  | a :: l, h => by
    rw [List.flatMap_cons, h a List.mem_cons_self, fm_nil fun x hx => h x (List.mem_cons_of_mem _ hx)]
    rfl
theorem kinds_two (n x y : Nat) : kindsL n x y 2 = (if isTri n x y 0 then [((x : Int), (y : Int), (0 : Int))] else []) ++ (if isTri n x y 1 then [((x : Int), (y : Int), (1 : Int))] else []) := by
  unfold kindsL
  rw [flatMap_succ, flatMap_succ]
  rfl
theorem tris_eq (n : Nat) : tris n = (List.range n).flatMap fun x => (List.range n).flatMap fun y => kindsL n x y 2 := by
  unfold tris
  refine fm_congr fun x hx => ?_
  have hx' := List.mem_range.mp hx
  have e : List.range n = List.range (n - x) ++ (List.range x).map ((n - x) + ·) := by
    rw [← List.range_add, Nat.sub_add_cancel (Nat.le_of_lt hx')]
  rw [e, List.flatMap_append]
  have e2 : ((List.range x).map ((n - x) + ·)).flatMap (fun y => kindsL n x y 2) = [] := by
    refine fm_nil fun y hy => ?_
    obtain ⟨b, hb, rfl⟩ := List.mem_map.mp hy
    rw [kinds_two, if_neg (by unfold isTri; omega), if_neg (by unfold isTri; omega)]
    rfl
  rw [e2, List.append_nil]
  unfold triRow
  refine fm_congr fun y hy => ?_
  have hy' := List.mem_range.mp hy
  rw [kinds_two, if_pos (by unfold isTri; omega)]
  unfold triCol
  by_cases h : x + y + 2 ≤ n
  · rw [if_pos h, if_pos (by unfold isTri; omega)]
    rfl
  · rw [if_neg h, if_neg (by unfold isTri; omega)]
    rfl
theorem isTri_max {n : Int} {x y k M : Int} (hx : 0 ≤ x) (hy : 0 ≤ y) (hk : k = 0 ∨ k = 1) (hM : M ∈ (cornersP x y k).map (fun p => p.1 + p.2)) (hm : ∀ a ∈ (cornersP x y k).map (fun p => p.1 + p.2), a ≤ M) : M ≤ n ↔ isTri n x y k := by
  unfold cornersP at hM hm
  unfold isTri
  rcases hk with rfl | rfl
  · rw [if_pos rfl] at hM hm
    simp only [List.map_cons, List.map_nil, List.mem_cons, List.not_mem_nil, or_false, forall_eq_or_imp, forall_eq] at hM hm
    omega
  · rw [if_neg (by decide)] at hM hm
    simp only [List.map_cons, List.map_nil, List.mem_cons, List.not_mem_nil, or_false, forall_eq_or_imp, forall_eq] at hM hm
    omega
theorem Good.at {rs : List (List Int)} (g : Good rs) {x y : Int} (h : onN ((rs.length : Int) - 1) x y) : ∃ r, rs[y.toNat]? = some r ∧ r[x.toNat]? = some (mkAt rs x y) ∧ 0 ≤ mkAt rs x y ∧ mkAt rs x y ≤ 2 := by
  obtain ⟨h0, h1, h2⟩ := h
  have hy : y.toNat < rs.length := by have := g.1; omega
  refine ⟨rs[y.toNat], by simp [hy], ?_⟩
  obtain ⟨gl, gv⟩ := g.2.2 y.toNat rs[y.toNat] (by simp [hy])
  have hx : x.toNat < rs[y.toNat].length := by omega
  have e : mkAt rs x y = rs[y.toNat][x.toNat] := by
    unfold mkAt
    rw [List.getD_eq_getElem?_getD, List.getD_eq_getElem?_getD, List.getElem?_eq_getElem hy]
    simp [hx]
  rw [e]
  exact ⟨by simp [hx], gv _ (List.getElem_mem hx)⟩
def less (H : Hp) (l : Addr) : Hp := fun b => if b = l then none else H b
theorem less_upd {H : Hp} {l : Addr} {o : HO} : less (upd H l o) l = less H l := by
  funext b
  unfold less upd
  by_cases e : b = l
  · rw [if_pos e, if_pos e]
  · rw [if_neg e, if_neg e, if_neg e]
theorem less_same (H : Hp) (l : Addr) : L2.Same (less H l) H := fun b o h => by
  unfold less at h
  split at h
  · cases h
  · exact h
theorem same_less {H H' : Hp} {l : Addr} (e : L2.Same H H') (h : H l = none) : L2.Same H (less H' l) := fun b o hb => by
  unfold less
  rw [if_neg (ne_of_none hb h)]
  exact e _ _ hb
theorem less_mono {H H' : Hp} {l : Addr} (e : L2.Same H H') : L2.Same (less H l) (less H' l) := fun b o h => by
  unfold less at h ⊢
  split at h
  · cases h
  · rename_i z
    rw [if_neg z]; exact e _ _ h
theorem less_new {H : Hp} {l p : Addr} {o : HO} {xs : HO} (hl : H l = some xs) (h : H p = none) : less (upd H p o) l p = some o := by
  unfold less
  rw [if_neg (fun e => by subst e; rw [hl] at h; cases h), upd_same]
structure NewL (K : PySem.W.Frag) (H H' : Hp) (v : V) (l : Addr) (xs : List V) (ds : List Dt) : Prop where
  ev : v = .ref l
  new : H l = none
  same : L2.Same H H'
  at_ : H' l = some (.lst xs)
  has : HasL K (less H' l) xs ds
theorem NewL.deep {K : PySem.W.Frag} {H H' : Hp} {v : V} {l : Addr} {xs : List V} {ds : List Dt} (h : NewL K H H' v l xs ds) : Has K H' v (.lst ds) := by
  rw [h.ev]; exact .lst (SqL.of h.at_) (h.has.same (less_same _ _))
theorem newL_mk {K : PySem.W.Frag} {H H3 : Hp} {l : Addr} {xs : List V} {ds : List Dt} (s : L2.Same H H3) (hl : H3 l = none) (hs : HasL K H3 xs ds) : NewL K H (upd H3 l (.lst xs)) (.ref l) l xs ds :=
  ⟨rfl, s.free hl, s.trans (same_upd hl), upd_same, by rw [less_upd]; exact hs.same (same_less (L2.Same.refl _) hl)⟩
theorem NewL.snoc {K : PySem.W.Frag} {H H1 : Hp} {v : V} {l : Addr} {xs : List V} {ds : List Dt} {x : V} {d : Dt} (h : NewL K H H1 v l xs ds) (hx : Has K (less H1 l) x d) : NewL K H (upd H1 l (.lst (xs ++ [x]))) v l (xs ++ [x]) (ds ++ [d]) :=
  ⟨h.ev, h.new, fun b o e => by rw [upd_ne (ne_of_none e h.new)]; exact h.same _ _ e, upd_same, by rw [less_upd]; exact h.has.snoc hx⟩
theorem NewL.later {K : PySem.W.Frag} {H H1 H2 : Hp} {v : V} {l : Addr} {xs : List V} {ds : List Dt} (h : NewL K H H1 v l xs ds) (e : L2.Same H1 H2) : NewL K H H2 v l xs ds :=
  ⟨h.ev, h.new, h.same.trans e, e _ _ h.at_, h.has.same (less_mono e)⟩
theorem NewL.early {K : PySem.W.Frag} {H0 H H1 : Hp} {v : V} {l : Addr} {xs : List V} {ds : List Dt} (e : L2.Same H0 H) (h : NewL K H H1 v l xs ds) : NewL K H0 H1 v l xs ds :=
  ⟨h.ev, e.free h.new, e.trans h.same, h.at_, h.has⟩
theorem has_tup {K : PySem.W.Frag} {H : Hp} {v : V} {ds : List Dt} (h : Has K H v (.tup ds)) : ∃ q xs, v = .ref q ∧ SqT K H q xs ∧ HasL K H xs ds := by
  cases h with
  | tup hq hl => exact ⟨_, _, rfl, hq, hl⟩
theorem has_lst {K : PySem.W.Frag} {H : Hp} {v : V} {ds : List Dt} (h : Has K H v (.lst ds)) : ∃ q xs, v = .ref q ∧ SqL K H q xs ∧ HasL K H xs ds := by
  cases h with
  | lst hq hl => exact ⟨_, _, rfl, hq, hl⟩
theorem has_pt {K : PySem.W.Frag} {H : Hp} {v : V} {p : Pt} (h : Has K H v (pD p)) : ∃ q, v = .ref q ∧ SqT K H q [.int p.1, .int p.2] := by
  obtain ⟨q, xs, e, hq, hl⟩ := has_tup h
  have e2 := hasL_ints_inv (ns := [p.1, p.2]) hl
  subst e2
  exact ⟨q, e, hq⟩
theorem has_tr {K : PySem.W.Frag} {H : Hp} {v : V} {t : Tr} (h : Has K H v (tD t)) : ∃ q, v = .ref q ∧ SqT K H q [.int t.1, .int t.2.1, .int t.2.2] := by
  obtain ⟨q, xs, e, hq, hl⟩ := has_tup h
  have e2 := hasL_ints_inv (ns := [t.1, t.2.1, t.2.2]) hl
  subst e2
  exact ⟨q, e, hq⟩
theorem pt_has {K : PySem.W.Frag} {H : Hp} {q : Addr} {a b : Int} (h : H q = some (.tup [.int a, .int b])) : Has K H (.ref q) (pD (a, b)) := .tup (SqT.of h) (.cons (.int _) (.cons (.int _) .nil))
theorem tr_has {K : PySem.W.Frag} {H : Hp} {q : Addr} {a b c : Int} (h : H q = some (.tup [.int a, .int b, .int c])) : Has K H (.ref q) (tD (a, b, c)) := .tup (SqT.of h) (.cons (.int _) (.cons (.int _) (.cons (.int _) .nil)))
theorem eqD_ints {a b : List Int} : eqD (.lst (a.map Dt.int)) (.lst (b.map Dt.int)) = true ↔ a = b := by
  rw [eqD]; exact eqDs_ints a b
theorem fwd_any {a b c : Int} (ha : 0 ≤ a ∧ a ≤ 2) (hb : 0 ≤ b ∧ b ≤ 2) (hc : 0 ≤ c ∧ c ≤ 2) :
    (([.tup [.int 0, .int 1, .int 2], .tup [.int 1, .int 2, .int 0], .tup [.int 2, .int 0, .int 1]] : List Dt).any fun d => eqD d (.tup [.int a, .int b, .int c])) = fwd a b c := by
  rcases tri3 ha with rfl | rfl | rfl <;> rcases tri3 hb with rfl | rfl | rfl <;> rcases tri3 hc with rfl | rfl | rfl <;> simp [eqD, eqDs, fwd]
theorem fwd_anyL {a b c : Int} (ha : 0 ≤ a ∧ a ≤ 2) (hb : 0 ≤ b ∧ b ≤ 2) (hc : 0 ≤ c ∧ c ≤ 2) :
    (([.lst [.int 0, .int 1, .int 2], .lst [.int 1, .int 2, .int 0], .lst [.int 2, .int 0, .int 1]] : List Dt).any fun d => eqD d (.lst [.int a, .int b, .int c])) = fwd a b c := by
  rcases tri3 ha with rfl | rfl | rfl <;> rcases tri3 hb with rfl | rfl | rfl <;> rcases tri3 hc with rfl | rfl | rfl <;> simp [eqD, eqDs, fwd]
theorem unlike3 {a b c : Int} (ha : 0 ≤ a ∧ a ≤ 2) (hb : 0 ≤ b ∧ b ≤ 2) (hc : 0 ≤ c ∧ c ≤ 2) (nf : fwd a b c = false) : (0 : Int) - (if decide (V.int (unlike [a, b, c] : Int) = V.int 3) = true then 1 else 0) = sense3 a b c := by
  rcases tri3 ha with rfl | rfl | rfl <;> rcases tri3 hb with rfl | rfl | rfl <;> rcases tri3 hc with rfl | rfl | rfl <;> first | (exact absurd nf (by decide)) | decide
theorem cornersP_three (x y k : Int) : ∃ pa pb pc, cornersP x y k = [pa, pb, pc] := by
  unfold cornersP
  split
  · exact ⟨_, _, _, rfl⟩
  · exact ⟨_, _, _, rfl⟩
theorem depL_le {m : Nat} : ∀ {l : List Dt}, (∀ d ∈ l, dep d ≤ m) → depL l ≤ m
  | [], _ => by simp [depL]
  | d :: l, h => by
    rw [depL]
    have h1 := h d List.mem_cons_self
    have h2 := depL_le fun x hx => h x (List.mem_cons_of_mem d hx)
    omega
theorem dep_tD (t : Tr) : dep (tD t) = 1 := by simp [tD, dep, depL]
theorem depL_trs (l : List Tr) : depL (l.map tD) ≤ 1 := depL_le fun d hd => by
  obtain ⟨t, _, rfl⟩ := List.mem_map.mp hd
  rw [dep_tD]; exact Nat.le_refl _
theorem dep_trs (l : List Tr) : dep (.lst (l.map tD)) ≤ 50 := by
  rw [dep]; have := depL_trs l; omega
theorem ne_refl {d : Dt} : ¬ ((if true then !eqD d d else eqD d d) = true) := by
  rw [eqD_refl]; decide
theorem tris_len : ∀ n : Nat, n ≤ 12 → (tris n).length ≤ 300 := by decide +kernel
end L2
set_option Elab.async false
set_option linter.all false
set_option maxRecDepth 100000
set_option maxHeartbeats 4000000
namespace L2
open PySem PySem.Spec PyProof.Rows
section
variable {X : Cx}
end
end L2
set_option Elab.async false
set_option linter.all false
set_option maxRecDepth 100000
set_option maxHeartbeats 4000000
namespace L2
open PySem PySem.Spec PyProof.Rows
abbrev sz (rs : List (List Int)) : Int := (rs.length : Int) - 1
def setAt (rs : List (List Int)) (x y c : Int) : List (List Int) := rs.set y.toNat ((rs.getD y.toNat []).set x.toNat c)
theorem setAt_len (rs : List (List Int)) (x y c : Int) : (setAt rs x y c).length = rs.length := by unfold setAt; simp
theorem setAt_row {rs : List (List Int)} {x y c : Int} {r : List Int} (h : rs[y.toNat]? = some r) (j : Nat) : (setAt rs x y c)[j]? = if j = y.toNat then some (r.set x.toNat c) else rs[j]? := by
  have hy : y.toNat < rs.length := (List.getElem?_eq_some_iff.mp h).1
  unfold setAt
  rw [List.getD_eq_getElem?_getD, h]
  by_cases e : j = y.toNat
  · subst e
    rw [if_pos rfl, List.getElem?_set_self hy]
    rfl
  · rw [if_neg e, List.getElem?_set_ne (Ne.symm e)]
theorem Good.set {rs : List (List Int)} (g : Good rs) {x y c : Int} (on : onN (sz rs) x y) (hc : 0 ≤ c ∧ c ≤ 2) : Good (setAt rs x y c) := by
  obtain ⟨r, er, ex, _⟩ := g.at on
  refine ⟨by rw [setAt_len]; exact g.1, by rw [setAt_len]; exact g.2.1, fun j q hq => ?_⟩
  rw [setAt_row er] at hq
  rw [setAt_len]
  by_cases e : j = y.toNat
  · rw [if_pos e] at hq
    cases hq
    subst e
    obtain ⟨h1, h2⟩ := g.2.2 _ r er
    refine ⟨by rw [List.length_set]; exact h1, fun v hv => ?_⟩
    rcases List.mem_or_eq_of_mem_set hv with z | z
    · exact h2 v z
    · rw [z]; exact hc
  · rw [if_neg e] at hq
    exact g.2.2 j q hq
theorem same_upd_new {H0 H : Hp} {a : Addr} {o : HO} (e : L2.Same H0 H) (h : H0 a = none) : L2.Same H0 (upd H a o) := fun b u hb => by
  rw [upd_ne (ne_of_none hb h)]; exact e _ _ hb
theorem ixN_in {n : Nat} {i : Int} (h0 : 0 ≤ i) (h1 : i < n) : ixN n i = some i.toNat := by
  unfold ixN
  rw [if_pos h0, if_pos h1]
theorem atI_of {α : Type} {xs : List α} {i : Int} {v : α} (h0 : 0 ≤ i) (h : xs[i.toNat]? = some v) : atI xs i = some v := by
  have z := atI_nat (j := i.toNat) h
  rw [Int.toNat_of_nonneg h0] at z
  exact z
theorem GR.get {H : Hp} {v : V} {rs : List (List Int)} {m : Addr} {ras : List Addr} (G : GR H v rs m ras) (g : Good rs) {x y : Int} (on : onN (sz rs) x y) :
    ∃ (a : Addr) (r : List Int), atI (ras.map V.ref) y = some (.ref a) ∧ H a = some (.lst (r.map V.int)) ∧ atI (r.map V.int) x = some (.int (mkAt rs x y)) := by
  obtain ⟨r, er, ex, _⟩ := g.at on
  obtain ⟨a, ea, ra⟩ := Paired.getP G.rows er
  exact ⟨a, r, atI_of on.2.1 (by rw [List.getElem?_map, ea]; rfl), ra, atI_of on.1 (by rw [List.getElem?_map, ex]; rfl)⟩
theorem Paired.setP {α β : Type} {F G : α → β → Prop} {a : α} {b : β} : ∀ {l₁ : List α} {l₂ : List β} {i : Nat}, Paired F l₁ l₂ → l₁[i]? = some a → G a b → (∀ (j : Nat) (c : α) (d : β), j ≠ i → l₁[j]? = some c → l₂[j]? = some d → F c d → G c d) → Paired G l₁ (l₂.set i b)
  | _, _, _, .nil, e, _, _ => by simp at e
  | _, _, 0, .cons r t, e, h, k => by
    simp at e; subst e
    refine .cons h ?_
    have aux : ∀ {m₁ : List α} {m₂ : List β}, Paired F m₁ m₂ → (∀ (j : Nat) (c : α) (d : β), m₁[j]? = some c → m₂[j]? = some d → F c d → G c d) → Paired G m₁ m₂ := by
      intro m₁ m₂ p
      induction p with
      | nil => intro _; exact .nil
      | cons r t ih => intro k; exact .cons (k 0 _ _ rfl rfl r) (ih fun j c d h1 h2 => k (j + 1) c d (by simpa using h1) (by simpa using h2))
    exact aux t fun j c d h1 h2 => k (j + 1) c d (by omega) (by simpa using h1) (by simpa using h2)
  | _, _, i + 1, .cons r t, e, h, k => .cons (k 0 _ _ (by omega) rfl rfl r) (Paired.setP (i := i) t (by simpa using e) h fun j c d hj h1 h2 => k (j + 1) c d (by omega) (by simpa using h1) (by simpa using h2))
theorem map_int_inj {r t : List Int} (h : r.map V.int = t.map V.int) : r = t := by
  have := congrArg (List.map (fun v : V => match v with | .int i => i | _ => 0)) h
  simpa [List.map_map, Function.comp_def] using this
theorem GR.put {H : Hp} {v : V} {rs : List (List Int)} {m : Addr} {ras : List Addr} (G : GR H v rs m ras) (g : Good rs) {x y : Int} (on : onN (sz rs) x y) :
    ∃ (a : Addr) (r : List Int), atI (ras.map V.ref) y = some (.ref a) ∧ H a = some (.lst (r.map V.int)) ∧ ixN (r.map V.int).length x = some x.toNat ∧ ∀ c : Int, GR (upd H a (.lst ((r.map V.int).set x.toNat (.int c)))) v (setAt rs x y c) m ras := by
  obtain ⟨r, er, ex, _⟩ := g.at on
  obtain ⟨a, ea, ra⟩ := Paired.getP G.rows er
  have hxl : x.toNat < r.length := (List.getElem?_eq_some_iff.mp ex).1
  have h0 := on.1
  refine ⟨a, r, atI_of on.2.1 (by rw [List.getElem?_map, ea]; rfl), ra, ixN_in on.1 (by rw [List.length_map]; omega), fun c => ⟨G.ev, ?_, ?_⟩⟩
  · have hm : m ≠ a := fun z => by
      subst z
      have e := G.top.symm.trans ra
      injection e with e
      injection e with e
      have l1 := Paired.length G.rows
      have l2 : 0 < ras.length := by have := g.1; omega
      cases r with
      | nil => cases ras with
        | nil => simp at l2
        | cons _ _ => simp at e
      | cons _ _ => cases ras with
        | nil => simp at l2
        | cons _ _ => simp at e
    rw [upd_ne hm]; exact G.top
  · have e : setAt rs x y c = rs.set y.toNat (r.set x.toNat c) := by unfold setAt; rw [List.getD_eq_getElem?_getD, er]; rfl
    rw [e]
    refine Paired.setP (F := RowAt H) (a := a) G.rows ea ?_ fun j b t hj eb et hb => ?_
    · show upd H a _ a = _
      rw [upd_same, List.map_set]
    · have nb : b ≠ a := fun z => by
        subst z
        have e := hb.symm.trans ra
        injection e with e
        injection e with e
        have e := map_int_inj e
        subst e
        obtain ⟨z1, _⟩ := g.2.2 _ _ er
        obtain ⟨z2, _⟩ := g.2.2 _ _ et
        have := (List.getElem?_eq_some_iff.mp et).1
        have := (List.getElem?_eq_some_iff.mp er).1
        omega
      show upd H a _ b = _
      rw [upd_ne nb]; exact hb
theorem GR.len {H : Hp} {v : V} {rs : List (List Int)} {m : Addr} {ras : List Addr} (G : GR H v rs m ras) : (ras.map V.ref).length = rs.length := by rw [List.length_map]; exact Paired.length G.rows
end L2
set_option Elab.async false
set_option linter.all false
set_option maxRecDepth 100000
set_option maxHeartbeats 4000000
namespace L2
open PySem PySem.Spec PyProof.Rows PySem.SeqAt
abbrev E2 := Sum Key (List Key)
abbrev K2 := List E2
section
variable (P : Program) (w : World)
def itIs (h : Heap) : E2 → Value → Prop
  | .inl k, v => keyIs k v = true
  | .inr ks, v => ∃ a, v = .ref a ∧ IsTupleKey (mixKind P w) h ks a
def Is2 (h : Heap) (ks : K2) (a : Addr) : Prop := ∃ o items n, h.get? a = some o ∧ o.cls = .type "tuple" ∧ o.data = .seq items n ∧ Paired (itIs P w h) ks items.toList
def hash1 : E2 → Int
  | .inl k => keyH w k
  | .inr ks => tupleKeyHash (mixKind P w) ks
def draws1 : E2 → Nat
  | .inl _ => 1
  | .inr ks => ks.length + 1
end
section
variable {P : Program} {w : World}
theorem itIs_inj {h : Heap} {x y : E2} {v : Value} (a : itIs P w h x v) (b : itIs P w h y v) : x = y := by
  cases x with
  | inl k => cases y with
    | inl l => rw [(mixKind P w).inj v k l a b]
    | inr ls =>
      obtain ⟨q, rfl, _⟩ := b
      have := (mixKind P w).byValue k _ a
      simp [carriedByValue] at this
  | inr ks =>
    obtain ⟨q, rfl, t⟩ := a
    cases y with
    | inl l =>
      have := (mixKind P w).byValue l _ b
      simp [carriedByValue] at this
    | inr ls =>
      obtain ⟨q', e, t'⟩ := b
      cases e
      rw [t.inj t']
theorem its_inj {h : Heap} : ∀ {x y : K2} {vs : List Value}, Paired (itIs P w h) x vs → Paired (itIs P w h) y vs → x = y
  | _, _, _, .nil, r => by cases r; rfl
  | _, _, _, .cons a t, r => by
    cases r with
    | cons b u => rw [itIs_inj a b, its_inj t u]
theorem Is2.inj {h : Heap} {x y : K2} {a : Addr} (u : Is2 P w h x a) (v : Is2 P w h y a) : x = y := by
  obtain ⟨o, it, n, ho, _, hd, r⟩ := u
  obtain ⟨o', it', n', ho', _, hd', r'⟩ := v
  rw [ho] at ho'; cases ho'
  rw [hd] at hd'
  injection hd' with e _
  subst e
  exact its_inj r r'
theorem Is2.ty {s : Shared} {x : K2} {a : Addr} (u : Is2 P w s.heap x a) : s.TypeIs (.ref a) "tuple" := let ⟨o, _, _, ho, hc, _⟩ := u; ⟨o, ho, hc⟩
theorem itIs_keeps {h h' : Heap} {d : Addr} {o : Obj} {es ep} (ho : h.get? d = some o) (hd : o.data = .dict es ep) (hs : Heap.SameBut d h h') {x : E2} {v : Value} (a : itIs P w h x v) : itIs P w h' x v := by
  cases x with
  | inl k => exact a
  | inr ks =>
    obtain ⟨q, e, t⟩ := a
    exact ⟨q, e, t.keeps ho hd hs⟩
theorem Is2.keeps {h h' : Heap} {x : K2} {a d : Addr} {o : Obj} {es ep} (u : Is2 P w h x a) (ho : h.get? d = some o) (hd : o.data = .dict es ep) (hs : Heap.SameBut d h h') : Is2 P w h' x a := by
  obtain ⟨q, it, n, hq, hc, hdq, r⟩ := u
  have ne : a ≠ d := fun z => by
    subst z
    rw [hq] at ho; cases ho
    rw [hdq] at hd; cases hd
  exact ⟨q, it, n, (hs.2 a ne).trans hq, hc, hdq, L2.Paired.mapP r fun _ _ z => itIs_keeps ho hd hs z⟩
theorem quiet1 {A : Around} {E : Value → Shared → Prop} {s : Shared} {x : E2} {v : Value} {n : Nat} {Q : Bool → Shared → Prop} (u : itIs P w s.heap x v) (q : Q true s) : wpAny (model P w) A (eqIsQuiet (n + 1) v) Q E s := by
  cases x with
  | inl k =>
    rw [eqIsQuiet_byValue _ ((mixKind P w).byValue k v u)]
    exact wpAny_pure q
  | inr ks =>
    obtain ⟨a, rfl, t⟩ := u
    have ty := t.typeIs
    obtain ⟨o, it, m, go, _, gd, r⟩ := t
    unfold eqIsQuiet
    refine wpAny_bind (wpAny_specialOf ty PySem.F.slot_tuple_eq.lookup ?_)
    show wpAny _ _ (isInstance (.ref a) (.type "tuple") >>= fun _ => _) _ _ s
    refine wpAny_bind (wpAny_isInstance ty isSubtype_tuple_tuple ?_)
    simp only [Bool.not_true, Bool.false_eq_true, if_false]
    refine wpAny_bind (wpAny_seqItems go gd ?_)
    refine wpAny_bind ?_
    show wpAny (model P w) A (forIn it _ _) _ _ s
    rw [← Array.forIn_toList]
    refine wpAny_forIn_list _ (fun left c s1 => c.1 = none ∧ s1 = s ∧ ∀ y ∈ left, carriedByValue y = true) _ ?_ ?_ _ _ ⟨rfl, rfl, r.byValue⟩
    · rintro y left c s1 ⟨e, rfl, al⟩
      rw [eqIsQuiet_byValue _ (al y List.mem_cons_self)]
      refine wpAny_bind (wpAny_pure ?_)
      simp only [Bool.not_true, Bool.false_eq_true, if_false]
      exact wpAny_pure ⟨rfl, rfl, fun z hz => al z (List.mem_cons_of_mem _ hz)⟩
    · rintro ⟨c1, c2⟩ s1 ⟨e, rfl, _⟩
      simp only at e
      subst e
      exact wpAny_pure q
theorem quiet2 {A : Around} {E : Value → Shared → Prop} {s : Shared} {x : K2} {a : Addr} {Q : Bool → Shared → Prop} (u : Is2 P w s.heap x a) (q : Q true s) : wpAny (model P w) A (eqIsQuiet 8 (.ref a)) Q E s := by
  have ty := u.ty
  obtain ⟨o, it, m, go, _, gd, r⟩ := u
  unfold eqIsQuiet
  refine wpAny_bind (wpAny_specialOf ty PySem.F.slot_tuple_eq.lookup ?_)
  show wpAny _ _ (isInstance (.ref a) (.type "tuple") >>= fun _ => _) _ _ s
  refine wpAny_bind (wpAny_isInstance ty isSubtype_tuple_tuple ?_)
  simp only [Bool.not_true, Bool.false_eq_true, if_false]
  refine wpAny_bind (wpAny_seqItems go gd ?_)
  refine wpAny_bind ?_
  show wpAny (model P w) A (forIn it _ _) _ _ s
  rw [← Array.forIn_toList]
  refine wpAny_forIn_list _ (fun left c s1 => c.1 = none ∧ s1 = s ∧ ∃ ks : K2, Paired (itIs P w s.heap) ks left) _ ?_ ?_ _ _ ⟨rfl, rfl, x, r⟩
  · rintro y left c s1 ⟨e, rfl, ks, al⟩
    cases al with
    | cons h t =>
      refine wpAny_bind (quiet1 (n := 6) h ?_)
      simp only [Bool.not_true, Bool.false_eq_true, if_false]
      exact wpAny_pure ⟨rfl, rfl, _, t⟩
  · rintro ⟨c1, c2⟩ s1 ⟨e, rfl, _⟩
    simp only at e
    subst e
    exact wpAny_pure q
theorem hash_one {A : Around} {E : Value → Shared → Prop} {s : Shared} {x : E2} {v : Value} {Q : Int → Shared → Prop} (hu : A.units < cLine) (u : itIs P w s.heap x v) (q : Q (hash1 P w x) { s with toks := s.toks + draws1 x }) : wpAny (model P w) A (pyHash v) Q E s := by
  cases x with
  | inl k => exact (mixKind P w).pyHash u q
  | inr ks =>
    obtain ⟨a, rfl, t⟩ := u
    exact wpAny_pyHash_tuple hu t q
def hash2 (P : Program) (w : World) (ks : K2) : Int := reduceHash (Builtin.Tuple.tupleHashOf (ks.map (hash1 P w)))
def draws2 (ks : K2) : Nat := (ks.map draws1).sum + 1
theorem hash_two {A : Around} {E : Value → Shared → Prop} {s : Shared} {ks : K2} {a : Addr} {Q : Int → Shared → Prop} (hu : A.units + 8 < cLine) (u : Is2 P w s.heap ks a) (q : Q (hash2 P w ks) { s with toks := s.toks + draws2 ks }) : wpAny (model P w) A (pyHash (.ref a)) Q E s := by
  have ty := u.ty
  obtain ⟨o, it, m, go, _, gd, r⟩ := u
  unfold pyHash
  first | unfold pyHashByItsType | skip
  first | refine wpAny_bind (wpAny_cRoomFor_or (.inr (by omega)) ?_) | skip
  refine wpAny_bind (wpAny_specialOf ty PySem.F.slot_tuple_hash.lookup ?_)
  show wpAny (model P w) A (if (some (Value.builtin "tuple.__hash__") == some Value.none) = true then _ else _) Q E s
  rw [if_neg (by rw [beq_builtin_none]; decide)]
  refine wpAny_bind (wpAny_specialOf ty PySem.F.slot_tuple_hash.lookup ?_)
  show wpAny (model P w) A (callSpecialIfBoundUnlessNone? (.ref a) "__hash__" _ >>= fun _ => _) Q E s
  refine wpAny_bind (wpAny_callSpecialIfBoundUnlessNone?_slot ty PySem.F.slot_tuple_hash (wpAny_call_entry PySem.F.slot_tuple_hash ty PySem.F.entry_tuple_hash ?_ (PySem.F.args_tuple_hash_1 _)))
  show wpAny (model P w) A.in1 (Builtin.Tuple.tupleItemsOf (.ref a) >>= fun _ => _) _ _ s
  refine wpAny_bind (wpAny_tupleItemsOf go gd ?_)
  refine wpAny_bind ?_
  rw [← Array.forIn_toList]
  refine wpAny_forIn_list _ (fun left (b : Array Int) s1 => ∃ fst snd : K2, ks = fst ++ snd ∧ Paired (itIs P w s.heap) snd left ∧ b.toList = fst.map (hash1 P w) ∧ s1 = { s with toks := s.toks + (fst.map draws1).sum }) _ ?_ ?_ _ _ ⟨[], ks, rfl, r, rfl, rfl⟩
  · rintro y left b s1 ⟨fst, snd, rfl, al, hb, rfl⟩
    cases al with
    | @cons k _ ks' _ h t =>
      refine wpAny_bind (hash_one (by show A.units + 1 < cLine; omega) h ?_)
      have fin : ∃ f2 s2 : K2, fst ++ k :: ks' = f2 ++ s2 ∧ Paired (itIs P w s.heap) s2 left ∧ (b.push (hash1 P w k)).toList = f2.map (hash1 P w) ∧ ({ s with toks := s.toks + (fst.map draws1).sum + draws1 k } : Shared) = { s with toks := s.toks + (f2.map draws1).sum } :=
        ⟨fst ++ [k], ks', by simp, t, by simp [hb], by simp [Nat.add_assoc]⟩
      first
        | exact wpAny_pure fin
        | exact wpAny_bind (wpAny_pure (wpAny_pure fin))
  · rintro b s1 ⟨fst, snd, rfl, al, hb, rfl⟩
    cases al
    rw [List.append_nil] at q
    show wpAny (model P w) A.in1 (retInt (Builtin.Tuple.tupleHashOf b.toList)) _ _ _
    rw [hb]
    refine wpAny_ret_mkInt ?_
    unfold hash2 reduceHash at q
    generalize Builtin.Tuple.tupleHashOf (fst.map (hash1 P w)) = hv at q ⊢
    show wpAny (model P w) A (if (decide (-(2 : Int) ^ 63 ≤ hv) && decide (hv < 2 ^ 63)) = true then _ else _) Q E _
    by_cases c : (decide (-(2 : Int) ^ 63 ≤ hv) && decide (hv < 2 ^ 63)) = true
    · rw [if_pos c] at q ⊢
      exact wpAny_pure (by simpa [draws2, Nat.add_assoc] using q)
    · rw [if_neg c] at q ⊢
      exact wpAny_bind (wpAny_rule (wpAny_pure (by simpa [draws2, Nat.add_assoc] using q)))
def dAt {α : Type} [DecidableEq α] (x y : List α) (j : Nat) : Bool := match x[j]?, y[j]? with
  | some p, some q => decide (p = q)
  | _, _ => false
theorem all_dec {α : Type} [DecidableEq α] : ∀ x y : List α, ((List.range (min x.length y.length)).all (dAt x y) && (x.length == y.length)) = decide (x = y)
  | [], [] => by simp
  | [], _ :: _ => by simp
  | _ :: _, [] => by simp
  | p :: x, q :: y => by
    have ih := all_dec x y
    rw [List.length_cons, List.length_cons, Nat.add_min_add_right, List.range_succ_eq_map, List.all_cons, List.all_map]
    have e1 : dAt (p :: x) (q :: y) 0 = decide (p = q) := rfl
    have e2 : (dAt (p :: x) (q :: y)) ∘ Nat.succ = dAt x y := by
      funext j
      simp [dAt, Function.comp]
    rw [e1, e2, Bool.and_assoc]
    have e3 : (x.length + 1 == y.length + 1) = (x.length == y.length) := by
      rw [Bool.eq_iff_iff]; simp
    rw [e3, ih, Bool.eq_iff_iff]
    simp
theorem kV_of {k : Key} {v : Value} (h : keyIs k v = true) : RelV (kV k) v := by
  rcases keyIs_shape h with ⟨i, t, rfl, rfl⟩ | ⟨x, t, rfl, rfl⟩
  · exact ⟨t, rfl⟩
  · exact ⟨t, rfl⟩
theorem flat_kV (k : Key) : flatV (kV k) = true := by cases k <;> rfl
theorem eqV_kV (k l : Key) : eqV (kV k) (kV l) = decide (k = l) := by
  cases k with
  | inl i => cases l with
    | inl j => rw [key_ll]; rfl
    | inr y => rw [key_lr]; rfl
  | inr x => cases l with
    | inl j => rw [key_rl]; rfl
    | inr y =>
      rw [key_rr]
      show (x == y) = decide (x = y)
      rw [Bool.eq_iff_iff]
      simp
theorem eq_key {A : Around} {s : Shared} {k l : Key} {u v : Value} (a : keyIs k u = true) (b : keyIs l v = true) : EqAt A s u v (decide (k = l)) := by
  have := eqAt_V (A := A) (s := s) (kV_of a) (kV_of b) (flat_kV k) (flat_kV l)
  rw [eqV_kV] at this
  exact this
theorem noFl_ref {a : Addr} : ∀ b t, Value.ref a ≠ .float b t := fun _ _ e => nomatch e
theorem items_at {K : Type} [DecidableEq K] {knd : KeyKind P w K} : ∀ {x : List K} {vs : List Value} (_ : ItemsAre knd x vs) (j : Nat) (v : Value), vs[j]? = some v → ∃ k, x[j]? = some k ∧ knd.is k v = true
  | _, _, .nil, _, _, e => by simp at e
  | _, _, .cons h t, 0, v, e => by simp at e; subst e; exact ⟨_, rfl, h⟩
  | _, _, .cons h t, j + 1, v, e => by
    obtain ⟨k, h1, h2⟩ := items_at t j v (by simpa using e)
    exact ⟨k, by simpa using h1, h2⟩
theorem eq_flat {A : Around} {s : Shared} {x y : List Key} {a b : Addr} (hu : A.units < cLine) (p : IsTupleKey (mixKind P w) s.heap x a) (q : IsTupleKey (mixKind P w) s.heap y b) : EqAt A s (.ref a) (.ref b) (decide (x = y)) := by
  have pj := p
  have qj := q
  obtain ⟨o, it, m, go, gc, gd, r⟩ := p
  obtain ⟨o', it', m', go', gc', gd', r'⟩ := q
  have z := RcAt.tuples (A := A) (e := dAt x y) (show s.heap.IsTuple a it from ⟨o, go, gc, m, gd⟩) (show s.heap.IsTuple b it' from ⟨o', go', gc', m', gd'⟩) hu fun j h1 h2 => by
    obtain ⟨k, e1, i1⟩ := items_at r j it[j] (by simp [h1])
    obtain ⟨l, e2, i2⟩ := items_at r' j it'[j] (by simp [h2])
    have e : dAt x y j = decide (k = l) := by unfold dAt; rw [e1, e2]
    rw [e]
    exact eq_key i1 i2
  have l1 : it.size = x.length := by rw [← Array.length_toList]; exact r.length.symm
  have l2 : it'.size = y.length := by rw [← Array.length_toList]; exact r'.length.symm
  rw [l1, l2, all_dec] at z
  refine EqAt.of_rc z (fun e => ?_) noFl_ref
  cases e
  rw [pj.inj qj]
  simp
theorem eq_item {A : Around} {s : Shared} {x y : E2} {u v : Value} (hu : A.units < cLine) (p : itIs P w s.heap x u) (q : itIs P w s.heap y v) : EqAt A s u v (decide (x = y)) := by
  cases x with
  | inl k =>
    cases y with
    | inl l =>
      have := eq_key (A := A) (s := s) p q
      have e : decide ((Sum.inl k : E2) = Sum.inl l) = decide (k = l) := by rw [Bool.eq_iff_iff]; simp
      rw [e]; exact this
    | inr ls =>
      obtain ⟨b, rfl, o, it, m, go, gc, gd, r⟩ := q
      have e : decide ((Sum.inl k : E2) = Sum.inr ls) = false := by simp
      rw [e]
      have ht : s.heap.IsTuple b it := ⟨o, go, gc, m, gd⟩
      rcases keyIs_shape (show keyIs k u = true from p) with ⟨i, t, rfl, rfl⟩ | ⟨x, t, rfl, rfl⟩
      · exact EqAt.of_rc (by first | exact RcAt.int_tuple ht hu | exact RcAt.int_tuple _ ht hu | exact RcAt.int_tuple _ _ ht hu) (fun e => nomatch e) (fun _ _ e => nomatch e)
      · exact EqAt.of_rc (by first | exact RcAt.str_tuple ht hu | exact RcAt.str_tuple _ ht hu | exact RcAt.str_tuple _ _ ht hu) (fun e => nomatch e) (fun _ _ e => nomatch e)
  | inr ks =>
    obtain ⟨a, rfl, pa⟩ := p
    cases y with
    | inl l =>
      obtain ⟨o, it, m, go, gc, gd, r⟩ := pa
      have e : decide ((Sum.inr ks : E2) = Sum.inl l) = false := by simp
      rw [e]
      have ht : s.heap.IsTuple a it := ⟨o, go, gc, m, gd⟩
      rcases keyIs_shape (show keyIs l v = true from q) with ⟨i, t, rfl, rfl⟩ | ⟨x, t, rfl, rfl⟩
      · exact EqAt.of_rc (by first | exact RcAt.tuple_int ht hu | exact RcAt.tuple_int _ ht hu | exact RcAt.tuple_int _ _ ht hu) (fun e => nomatch e) noFl_ref
      · exact EqAt.of_rc (by first | exact RcAt.tuple_str ht hu | exact RcAt.tuple_str _ ht hu | exact RcAt.tuple_str _ _ ht hu) (fun e => nomatch e) noFl_ref
    | inr ls =>
      obtain ⟨b, rfl, pb⟩ := q
      have e : decide ((Sum.inr ks : E2) = Sum.inr ls) = decide (ks = ls) := by rw [Bool.eq_iff_iff]; simp
      rw [e]
      exact eq_flat hu pa pb
theorem pair_at {h : Heap} : ∀ {x : K2} {vs : List Value} (_ : Paired (itIs P w h) x vs) (j : Nat) (v : Value), vs[j]? = some v → ∃ k, x[j]? = some k ∧ itIs P w h k v
  | _, _, .nil, _, _, e => by simp at e
  | _, _, .cons h t, 0, v, e => by simp at e; subst e; exact ⟨_, rfl, h⟩
  | _, _, .cons h t, j + 1, v, e => by
    obtain ⟨k, h1, h2⟩ := pair_at t j v (by simpa using e)
    exact ⟨k, by simpa using h1, h2⟩
theorem eq_two {A : Around} {s : Shared} {x y : K2} {a b : Addr} (hu : A.units + 8 < cLine) (p : Is2 P w s.heap x a) (q : Is2 P w s.heap y b) : EqAt A s (.ref a) (.ref b) (decide (x = y)) := by
  have pj := p
  have qj := q
  obtain ⟨o, it, m, go, gc, gd, r⟩ := p
  obtain ⟨o', it', m', go', gc', gd', r'⟩ := q
  have z := RcAt.tuples (A := A) (e := dAt x y) (show s.heap.IsTuple a it from ⟨o, go, gc, m, gd⟩) (show s.heap.IsTuple b it' from ⟨o', go', gc', m', gd'⟩) (by omega) fun j h1 h2 => by
    obtain ⟨k, e1, i1⟩ := pair_at r j it[j] (by simp [h1])
    obtain ⟨l, e2, i2⟩ := pair_at r' j it'[j] (by simp [h2])
    have e : dAt x y j = decide (k = l) := by unfold dAt; rw [e1, e2]
    rw [e]
    exact eq_item (by show A.units + 1 < cLine; omega) i1 i2
  have l1 : it.size = x.length := by rw [← Array.length_toList]; exact (Paired.length r).symm
  have l2 : it'.size = y.length := by rw [← Array.length_toList]; exact (Paired.length r').symm
  rw [l1, l2, all_dec] at z
  refine EqAt.of_rc z (fun e => ?_) noFl_ref
  cases e
  rw [pj.inj qj]
  simp
def kind2 (P : Program) (w : World) : HeapKind P w K2 where
  is := Is2 P w
  hash := hash2 P w
  draws := draws2
  room := fun A => A.units + 8 < cLine
  inj := fun a b => a.inj b
  keeps := fun a b c d => a.keeps b c d
  pyHash := fun hu a q => hash_two hu a q
  eqBool := fun hu a b q => eq_two hu a b P w _ _ q
  quiet := fun a q => quiet2 a q
end
end L2
set_option Elab.async false
set_option linter.all false
set_option maxRecDepth 100000
set_option maxHeartbeats 4000000
namespace L2
open PySem PySem.Spec PyProof.Rows PySem.SeqAt
def kD : Key → Dt
  | .inl i => .int i
  | .inr x => .str x
def e2D : E2 → Dt
  | .inl k => kD k
  | .inr ks => .tup (ks.map kD)
def k2D (k : K2) : Dt := .tup (k.map e2D)
abbrev DE := K2 × Addr × V
def look (kvs : List DE) (k : K2) : Option V := (kvs.find? fun e => decide (e.1 = k)).map (·.2.2)
def putV (k : K2) (v : V) (e : DE) : DE := if e.1 = k then (e.1, e.2.1, v) else e
def put (kvs : List DE) (k : K2) (p : Addr) (v : V) : List DE := if (look kvs k).isSome then kvs.map (putV k v) else kvs ++ [(k, p, v)]
abbrev KA : List DE → List (K2 × Addr × Value) → Prop := Paired fun p q => p.1 = q.1 ∧ p.2.1 = q.2.1 ∧ RelV p.2.2 q.2.2
theorem look_nil (k : K2) : look [] k = none := rfl
theorem look_cons (e : DE) (l : List DE) (k : K2) : look (e :: l) k = if e.1 = k then some e.2.2 else look l k := by
  unfold look
  rw [List.find?_cons]
  by_cases h : e.1 = k
  · rw [decide_eq_true h, if_pos h]; rfl
  · rw [decide_eq_false h, if_neg h]
theorem look_app (l m : List DE) (k : K2) : look (l ++ m) k = match look l k with
    | some v => some v
    | none => look m k := by
  induction l with
  | nil => rfl
  | cons e l ih =>
    rw [List.cons_append, look_cons, look_cons, ih]
    by_cases h : e.1 = k
    · rw [if_pos h, if_pos h]
    · rw [if_neg h, if_neg h]
theorem look_map (l : List DE) (k k' : K2) (v : V) : look (l.map (putV k v)) k' = if k' = k ∧ (look l k).isSome = true then some v else look l k' := by
  induction l with
  | nil => simp [look]
  | cons e l ih =>
    rw [List.map_cons, look_cons, look_cons, look_cons, ih]
    have e1 : (putV k v e).1 = e.1 := by unfold putV; split <;> rfl
    rw [e1]
    by_cases h : e.1 = k'
    · rw [if_pos h, if_pos h]
      by_cases h2 : k' = k
      · have h3 : e.1 = k := h.trans h2
        rw [if_pos h3, if_pos ⟨h2, rfl⟩]
        unfold putV
        rw [if_pos h3]
      · rw [if_neg (fun z => h2 z.1)]
        unfold putV
        rw [if_neg (fun z => h2 (h.symm.trans z))]
    · rw [if_neg h, if_neg h]
      by_cases h2 : e.1 = k
      · rw [if_pos h2]
        have h3 : ¬ k' = k := fun z => h (h2.trans z.symm)
        rw [if_neg (fun z => h3 z.1), if_neg (fun z => h3 z.1)]
      · rw [if_neg h2]
theorem look_put (l : List DE) (k k' : K2) (p : Addr) (v : V) : look (put l k p v) k' = if k' = k then some v else look l k' := by
  unfold put
  by_cases h : (look l k).isSome = true
  · rw [if_pos h, look_map]
    simp only [h, and_true]
  · rw [if_neg h, look_app, look_cons, look_nil]
    have hn : look l k = none := by simpa using h
    by_cases e : k' = k
    · subst e
      rw [hn]
      first | done | simp
    · rw [if_neg e, if_neg (fun z => e z.symm)]
      cases look l k' <;> rfl
theorem keys_put (l : List DE) (k : K2) (p : Addr) (v : V) : (put l k p v).map (·.1) = if (look l k).isSome then l.map (·.1) else l.map (·.1) ++ [k] := by
  unfold put
  split
  · rw [List.map_map]
    refine List.map_congr_left fun e _ => ?_
    show (putV k v e).1 = e.1
    unfold putV; split <;> rfl
  · simp
theorem look_mem {l : List DE} {k : K2} : (look l k).isSome = true ↔ k ∈ l.map (·.1) := by
  induction l with
  | nil => simp [look]
  | cons e l ih =>
    rw [look_cons, List.map_cons, List.mem_cons]
    by_cases h : e.1 = k
    · rw [if_pos h]; simp [h]
    · rw [if_neg h, ih]
      constructor
      · exact .inr
      · rintro (z | z)
        · exact absurd z.symm h
        · exact z
theorem nodup_put {l : List DE} {k : K2} {p : Addr} {v : V} (h : (l.map (·.1)).Nodup) : ((put l k p v).map (·.1)).Nodup := by
  rw [keys_put]
  split
  · exact h
  · rename_i c
    rw [List.nodup_append]
    refine ⟨h, by simp, fun a ha b hb => ?_⟩
    have hb' : b = k := by simpa using hb
    subst hb'
    rintro rfl
    exact c (look_mem.mpr ha)
theorem len_put (l : List DE) (k : K2) (p : Addr) (v : V) : (put l k p v).length ≤ l.length + 1 := by
  unfold put
  split <;> simp
theorem mem_put {l : List DE} {k : K2} {p : Addr} {v : V} {e : DE} (h : e ∈ put l k p v) : (∃ f ∈ l, e.1 = f.1 ∧ e.2.1 = f.2.1) ∨ (e.1 = k ∧ e.2.1 = p) := by
  unfold put at h
  split at h
  · obtain ⟨f, hf, rfl⟩ := List.mem_map.mp h
    refine .inl ⟨f, hf, ?_⟩
    unfold putV; split <;> exact ⟨rfl, rfl⟩
  · rcases List.mem_append.mp h with h | h
    · exact .inl ⟨e, h, rfl, rfl⟩
    · have : e = (k, p, v) := by simpa using h
      subst this
      exact .inr ⟨rfl, rfl⟩
theorem KA.val {l : List DE} {xs : List (K2 × Addr × Value)} (r : KA l xs) (k : K2) : RelO (look l k) ((atKey xs k).map (·.2)) := by
  induction r with
  | nil => exact True.intro
  | @cons p q ps qs h t ih =>
    obtain ⟨h1, _, h3⟩ := h
    rw [look_cons]
    by_cases e : p.1 = k
    · have b : atKey (q :: qs) k = some q.2 := by
        unfold atKey
        rw [List.find?_cons, decide_eq_true (h1.symm.trans e)]
        rfl
      rw [if_pos e, b]; exact h3
    · have b : atKey (q :: qs) k = atKey qs k := by
        unfold atKey
        rw [List.find?_cons, decide_eq_false (fun z => e (h1.trans z))]
      rw [if_neg e, b]; exact ih
theorem relO_some {o : Option V} {u : Option Value} (r : RelO o u) : o.isSome = u.isSome := by
  cases o <;> cases u <;> first | rfl | exact r.elim
theorem KA.put {l : List DE} {xs : List (K2 × Addr × Value)} (r : KA l xs) (k : K2) (p : Addr) {v : V} {u : Value} (rv : RelV v u) : KA (put l k p v) (storedH xs k p u) := by
  have e : (look l k).isSome = (atKey xs k).isSome := by
    rw [relO_some (r.val k), Option.isSome_map]
  unfold L2.put storedH
  rw [e]
  by_cases q : (atKey xs k).isSome = true
  · rw [if_pos q, if_pos q]
    clear e q
    induction r with
    | nil => exact .nil
    | @cons a b as bs h t ih =>
      refine .cons ?_ ih
      obtain ⟨h1, h2, h3⟩ := h
      unfold putV putAt
      by_cases c : a.1 = k
      · rw [if_pos c, if_pos (h1.symm.trans c)]; exact ⟨h1, h2, rv⟩
      · rw [if_neg c, if_neg (fun z => c (h1.trans z))]; exact ⟨h1, h2, h3⟩
  · rw [if_neg q, if_neg q]
    exact Paired.appendP r (.cons ⟨rfl, rfl, rv⟩ .nil)
theorem KA.keys {l : List DE} {xs : List (K2 × Addr × Value)} (r : KA l xs) : xs.map (·.1) = l.map (·.1) := by
  induction r with
  | nil => rfl
  | cons h t ih => rw [List.map_cons, List.map_cons, ih, h.1]
def d2Obj (P : Program) (w : World) (a : Addr) (kvs : List DE) : HO := .ext fun h => kvs.length ≤ sizeLine ∧ (a == sysModules) = false ∧ ∃ xs, KA kvs xs ∧ ∃ o es ep, h.get? a = some o ∧ o.ExactDict ∧ o.data = .dict es ep ∧ es.toList = xs.map (entryOfKey (kind2 P w))
structure D2At (P : Program) (w : World) (K : PySem.W.Frag) (H : Hp) (a : Addr) (kvs : List DE) : Prop where
  at_ : H a = some (d2Obj P w a kvs)
  keys : ∀ e ∈ kvs, Has K (less H a) (.ref e.2.1) (k2D e.1)
  nd : (kvs.map (·.1)).Nodup
theorem D2At.same {P : Program} {w : World} {K : PySem.W.Frag} {H H' : Hp} {a : Addr} {kvs : List DE} (e : L2.Same H H') (D : D2At P w K H a kvs) : D2At P w K H' a kvs := ⟨e _ _ D.at_, fun x hx => (D.keys x hx).same (less_mono e), D.nd⟩
theorem D2At.put {P : Program} {w : World} {K : PySem.W.Frag} {H : Hp} {a p : Addr} {kvs : List DE} {k : K2} {v : V} (D : D2At P w K H a kvs) (hp : Has K (less H a) (.ref p) (k2D k)) : D2At P w K (upd H a (d2Obj P w a (put kvs k p v))) a (put kvs k p v) := by
  refine ⟨upd_same, fun e he => ?_, nodup_put D.nd⟩
  rw [less_upd]
  rcases mem_put he with ⟨f, hf, e1, e2⟩ | ⟨e1, e2⟩
  · rw [e1, e2]; exact D.keys f hf
  · rw [e1, e2]; exact hp
theorem D2At.new {P : Program} {w : World} {K : PySem.W.Frag} {H : Hp} {a : Addr} : D2At P w K (upd H a (d2Obj P w a [])) a [] := ⟨upd_same, fun e he => (by cases he), List.nodup_nil⟩
theorem Has.less {K : PySem.W.Frag} {H : Hp} {a : Addr} (h : ∀ xs, H a ≠ some (.lst xs)) (ht : ∀ xs, H a ≠ some (.tup xs)) (hz : ∀ o u, H a ≠ some (.frz o u)) : ∀ {v : V} {d : Dt}, Has K H v d → Has K (less H a) v d
  | _, _, .non => .non
  | _, _, .bl b => .bl b
  | _, _, .int i => .int i
  | _, _, .str x => .str x
  | _, _, .tup q t => by
    refine .tup ?_ (HasL.less h ht hz t)
    rcases q with (q | ⟨o, q⟩) | q
    · refine .inl (.inl ?_)
      unfold L2.less
      rw [if_neg (fun z => by subst z; exact ht _ q)]; exact q
    · refine .inl (.inr ⟨o, ?_⟩)
      unfold L2.less
      rw [if_neg (fun z => by subst z; exact hz _ _ q)]; exact q
    · exact .inr q
  | _, _, .lst q t => by
    refine .lst ?_ (HasL.less h ht hz t)
    rcases q with (q | ⟨o, q⟩) | q
    · refine .inl (.inl ?_)
      unfold L2.less
      rw [if_neg (fun z => by subst z; exact h _ q)]; exact q
    · refine .inl (.inr ⟨o, ?_⟩)
      unfold L2.less
      rw [if_neg (fun z => by subst z; exact hz _ _ q)]; exact q
    · exact .inr q
where
  HasL.less (h : ∀ xs, H a ≠ some (.lst xs)) (ht : ∀ xs, H a ≠ some (.tup xs)) (hz : ∀ o u, H a ≠ some (.frz o u)) : ∀ {vs : List V} {ds : List Dt}, HasL K H vs ds → HasL K (L2.less H a) vs ds
  | _, _, .nil => .nil
  | _, _, .cons q t => .cons (Has.less h ht hz q) (HasL.less h ht hz t)
theorem D2At.elsewhere {P : Program} {w : World} {K : PySem.W.Frag} {H : Hp} {a : Addr} {kvs : List DE} (D : D2At P w K H a kvs) {v : V} {d : Dt} (h : Has K H v d) : Has K (L2.less H a) v d :=
  Has.less (fun xs e => by rw [D.at_] at e; cases e) (fun xs e => by rw [D.at_] at e; cases e) (fun o u e => by rw [D.at_] at e; cases e) h
section
variable {X : Cx} {pins : List (Addr × Obj)} {σ : St} {H : Hp} {s : Shared}
theorem keys_are (I : Inv X pins σ H s) : ∀ {ks : List Key} {xs : List V} {us : List Value}, HasL X.K H xs (ks.map kD) → Vals xs us → ItemsAre (mixKind X.prog X.w) ks us
  | [], _, _, h, r => by cases h; cases r; exact .nil
  | k :: ks, _, _, h, r => by
    cases h with
    | cons h t =>
      cases r with
      | cons r rt =>
        refine .cons ?_ (keys_are I t rt)
        cases k with
        | inl i => cases h; obtain ⟨t', rfl⟩ := r; exact keyIs_int i t'
        | inr x => cases h; obtain ⟨t', rfl⟩ := r; exact keyIs_str x t'
theorem flat_of (I : Inv X pins σ H s) {ks : List Key} {q : Addr} (h : Has X.K H (.ref q) (.tup (ks.map kD))) : IsTupleKey (mixKind X.prog X.w) s.heap ks q := by
  cases h with
  | tup sq hl =>
    obtain ⟨its, r, ⟨o, e, hc, n, d⟩, _⟩ := I.tuple sq
    exact ⟨o, its.toArray, n, e, hc, d, by simpa using keys_are I hl r⟩
theorem its_are (I : Inv X pins σ H s) : ∀ {ks : K2} {xs : List V} {us : List Value}, HasL X.K H xs (ks.map e2D) → Vals xs us → Paired (itIs X.prog X.w s.heap) ks us
  | [], _, _, h, r => by cases h; cases r; exact .nil
  | k :: ks, _, _, h, r => by
    cases h with
    | @cons x d _ _ h t =>
      cases r with
      | cons r rt =>
        refine .cons ?_ (its_are I t rt)
        cases k with
        | inl k =>
          cases k with
          | inl i => cases h; obtain ⟨t', rfl⟩ := r; exact keyIs_int i t'
          | inr x => cases h; obtain ⟨t', rfl⟩ := r; exact keyIs_str x t'
        | inr ls =>
          obtain ⟨q, xs', e, sq, hl⟩ := has_tup h
          subst e
          exact ⟨q, r, flat_of I (.tup sq hl)⟩
theorem is2_of (I : Inv X pins σ H s) {k : K2} {p : Addr} (h : Has X.K H (.ref p) (k2D k)) : Is2 X.prog X.w s.heap k p := by
  unfold k2D at h
  cases h with
  | tup sq hl =>
    obtain ⟨its, r, ⟨o, e, hc, n, d⟩, _⟩ := I.tuple sq
    exact ⟨o, its.toArray, n, e, hc, d, by simpa using its_are I hl r⟩
theorem d2_of (I : Inv X pins σ H s) {a : Addr} {kvs : List DE} (D : D2At X.prog X.w X.K H a kvs) : kvs.length ≤ sizeLine ∧ (a == sysModules) = false ∧ ∃ xs, KA kvs xs ∧ s.heap.DictOfH (kind2 X.prog X.w) a xs := by
  obtain ⟨⟨h1, h2, xs, r, o, es, ep, ho, hx, hd, he⟩, _, _⟩ := I.hok a _ D.at_
  refine ⟨h1, h2, xs, r, o, es, ep, ho, hx, hd, he, fun x hx' => ?_, by rw [r.keys]; exact D.nd⟩
  obtain ⟨j, hj, ej⟩ := List.getElem_of_mem hx'
  obtain ⟨b, eb, h3, h4, _⟩ := Paired.getP r (i := j) (b := x) (by rw [List.getElem?_eq_getElem hj, ej])
  have hm : b ∈ kvs := List.mem_of_getElem? eb
  have := is2_of I ((D.keys b hm).same (less_same _ _))
  rw [h3, h4] at this
  exact this
theorem d2_ok {P : Program} {w : World} {H' : Hp} {h' : Heap} {a : Addr} {kvs : List DE} {xs : List (K2 × Addr × Value)} (z : kvs.length ≤ sizeLine) (hd : (a == sysModules) = false) (r : KA kvs xs) (dd : h'.DictOfH (kind2 P w) a xs) : ObjOk P w H' h' a (d2Obj P w a kvs) := by
  obtain ⟨o, es, ep, ho, hx, hdd, he, _, _⟩ := dd
  refine ⟨⟨z, hd, xs, r, o, es, ep, ho, hx, hdd, he⟩, ⟨o, ho⟩, fun h1 h2 hφ k => ?_⟩
  obtain ⟨z, hd, xs, r, o, es, ep, ho, rest⟩ := hφ
  exact ⟨z, hd, xs, r, o, es, ep, k o ho, rest⟩
theorem Inv.sys (I : Inv X pins σ H s) : sysModules < s.heap.objs.size := by
  have h : mainGlobals < s.heap.objs.size := (I.mod.glob.keeps I.bk).lt
  exact Nat.lt_trans (by decide) h
end
def tD2New (P : Program) (w : World) : TE := fun _ H Q => ∀ p, H p = none → Q (.ref p) (upd H p (d2Obj P w p []))
theorem pe_d2new (P : Program) (w : World) {X : Cx} {pos : Pos} (hP : X.prog = P := by rfl) (hw : X.w = w := by rfl) : PE X (.Dict [] [] pos) (tD2New P w) := by
  subst hP hw
  intro pins s σ H Q I h
  exact wpAny_Dict_empty ⟨.ref s.heap.objs.size, _, I.laid (a := s.heap.objs.size) (o := d2Obj X.prog X.w s.heap.objs.size []) (t' := s.toks) (fun _ _ q => Heap.get?_push_of_some _ q) (Nat.le_refl _)
    (d2_ok (Nat.zero_le _) (beq_eq_false_iff_ne.mpr (Ne.symm (Nat.ne_of_lt I.sys))) .nil (Heap.DictOfH.new s.heap)), rfl, h _ (I.hok.fresh (Nat.le_refl _))⟩
def rSetD (P : Program) (w : World) (K : PySem.W.Frag) : TSet := fun o i v H Q => ∃ a p kvs k, o = .ref a ∧ i = .ref p ∧ D2At P w K H a kvs ∧ Has K H (.ref p) (k2D k) ∧ kvs.length < sizeLine ∧ Q (upd H a (d2Obj P w a (put kvs k p v)))
theorem set_d2 (P : Program) (w : World) (K : PySem.W.Frag) {X : Cx} (hu : X.A.units + 64 < cLine) (hP : X.prog = P := by rfl) (hw : X.w = w := by rfl) (hK : X.K = K := by rfl) : PSet X (rSetD P w K) := by
  subst hP hw hK
  intro pins s σ H o i v ov iv u Q I ro ri rv h
  obtain ⟨a, p, kvs, k, rfl, rfl, D, hk, hz, q⟩ := h
  cases ro
  cases ri
  obtain ⟨z, hd, xs, r, dd⟩ := d2_of I D
  have hl : (put kvs k p v).length ≤ sizeLine := by have := len_put kvs k p v; omega
  refine wpAny_setItem_heap (hsz := by rw [← Paired.length r]; exact z) (show X.A.units + 1 + 8 < cLine by omega) (is2_of I hk) dd fun h' dd' hs => ⟨_, ?_, q⟩
  refine I.write (x := a) (e := a) (by rw [D.at_]; exact True.intro) (.inl rfl) (fun b q hb zz => (hs.2 b hb).trans zz) ?_ (d2_ok hl hd (r.put k p rv) dd')
  obtain ⟨o, _, _, ho, _⟩ := dd'
  exact ⟨o, ho⟩
def rIxD (P : Program) (w : World) (K : PySem.W.Frag) : R2 := fun x y H Q => ∃ a p kvs k v, x = .ref a ∧ y = .ref p ∧ D2At P w K H a kvs ∧ Has K H (.ref p) (k2D k) ∧ look kvs k = some v ∧ Q v H
theorem ix_d2 (P : Program) (w : World) (K : PySem.W.Frag) {X : Cx} (hu : X.A.units + 64 < cLine) (hP : X.prog = P := by rfl) (hw : X.w = w := by rfl) (hK : X.K = K := by rfl) : IxR X (rIxD P w K) := by
  subst hP hw hK
  intro value slice pins s σ H x y v u Q I rx ry h hs
  obtain ⟨a, p, kvs, k, z, rfl, rfl, D, hk, hl, q⟩ := h
  cases rx
  cases ry
  obtain ⟨_, hd, xs, r, dd⟩ := d2_of I D
  have rv := r.val k
  rw [hl] at rv
  cases hx : atKey xs k with
  | none => rw [hx] at rv; exact rv.elim
  | some pr =>
    rw [hx] at rv
    have hT := dd.typeIs
    unfold subscriptTail
    refine wpAny_bind ?_
    rw [getitemInPython_of_ne hT.not_modules]
    refine wpAny_bind (wpAny_specialOf hT PySem.F.slot_dict_getitem.lookup ?_)
    have fin : wpAny (model X.prog X.w) X.A (subscripted slice false (.ref a) (.ref p)) (fun r s₃ => wpAny (model X.prog X.w) X.A (letTemporaryGo value (.ref a) r >>= fun _ => pure r) (EP X pins σ Q) X.xe s₃) X.xe s := by
      rw [hs]
      refine wpAny_operating (wpAny_getItem_heap (show X.A.units + 1 + 8 < cLine by omega) (is2_of I hk) dd hx ?_)
      exact wpAny_bind (wpAny_letTemporaryGo (wpAny_pure ⟨z, H, I.tok _, rv, q⟩))
    first
      | exact wpAny_pure (wpAny_bind fin)
      | exact wpAny_bind (wpAny_pure (wpAny_bind fin))
      | exact wpAny_bind fin
def rInD2 (P : Program) (w : World) (K : PySem.W.Frag) : R2 := fun x y H Q => ∃ p a kvs k, x = .ref p ∧ y = .ref a ∧ D2At P w K H a kvs ∧ Has K H (.ref p) (k2D k) ∧ Q (.bl (look kvs k).isSome) H
theorem op_inD2 (P : Program) (w : World) (K : PySem.W.Frag) {X : Cx} (hu : X.A.units + 64 < cLine) (hP : X.prog = P := by rfl) (hw : X.w = w := by rfl) (hK : X.K = K := by rfl) : OpR X (compareOp .In) (rInD2 P w K) := by
  subst hP hw hK
  intro pins s σ H x y v u Q I rx ry h
  obtain ⟨p, a, kvs, k, rfl, rfl, D, hk, q⟩ := h
  cases rx
  cases ry
  obtain ⟨_, hd, xs, r, dd⟩ := d2_of I D
  have e : (look kvs k).isSome = (atKey xs k).isSome := by rw [relO_some (r.val k), Option.isSome_map]
  refine wpAny_in_heap (show X.A.units + 1 + 8 < cLine by omega) (is2_of I hk) hd dd ⟨.bl _, H, I.tok _, rfl, ?_⟩
  rw [← e]
  exact q
theorem relO_getD {o : Option V} {u : Option Value} {d : V} {e : Value} (r : RelO o u) (rd : RelV d e) : RelV (o.getD d) (u.getD e) := by
  cases o <;> cases u <;> first | exact rd | exact r | exact r.elim
def tD2Get (P : Program) (w : World) (K : PySem.W.Frag) (to : TE) (t : TA) : TE := fun σ H Q => to σ H fun x H1 => ∃ a, x = .ref a ∧ (∃ kvs, D2At P w K H1 a kvs) ∧ t σ H1 fun xs H2 => ∃ kvs k p dv, D2At P w K H2 a kvs ∧ (xs = [.ref p] ∧ dv = .non ∨ xs = [.ref p, dv]) ∧ Has K H2 (.ref p) (k2D k) ∧ Q ((look kvs k).getD dv) H2
theorem pe_d2get (P : Program) (w : World) (K : PySem.W.Frag) {X : Cx} {o e : Expr} {es : List Expr} {to : TE} {t : TA} {apos cpos : Pos} (hu : X.A.units + 64 < cLine) (ho : PE X o to) (ha : PA X (e :: es) t) (hP : X.prog = P := by rfl) (hw : X.w = w := by rfl) (hK : X.K = K := by rfl)
    (hbase : attributeBase o "get" X.env (eval o X.env) = eval o X.env := by rfl)
    (hfew : ((backTo cpos (starEach (e :: es) X.env)).all (fun x => !x.1) && (backToKw cpos (keywordEach [] X.env)).all (fun x => x.1.isSome)
      && decide ((e :: es).length + ([] : List Keyword).length + (if ([] : List Keyword).isEmpty then 0 else 1) < 30)) = true := by rfl)
    (hline : (apos.endLine == cpos.line) = true := by rfl) (hs : starEach (e :: es) X.env = (false, eval e X.env) :: starEach es X.env := by rfl) (hplain : (backTo cpos (starEach es X.env)).any (·.1) = false := by rfl) :
    PE X (.Call (.Attribute o "get" apos) (e :: es) [] cpos) (tD2Get P w K to t) := by
  subst hP hw hK
  intro pins s σ H Q I h
  refine wpAny_Call_method_late hbase hfew hline rfl (thn (ho pins s σ H _ I h) fun v s1 ⟨x, H1, I1, r1, a, ex, ⟨kvs, D1⟩, q1⟩ => ?_)
  subst ex
  obtain rfl : v = Value.ref a := r1
  obtain ⟨_, hd, xs0, _, dd0⟩ := d2_of I1 D1
  refine ⟨"dict", "dict.get", PySem.F.plainAttrs_dict, PySem.F.slot_dict_get, PySem.F.type_dict_get, dd0.typeIs, fun b e => ?_, ?_⟩
  · cases e
    obtain ⟨ob, _, _, h1, h2, _⟩ := dd0
    exact ⟨ob, h1, h2.2.1⟩
  have hA := ha cpos pins s1 σ H1 _ I1 q1
  rw [hs] at hA ⊢
  refine Calls.callWith_builtin (by show (false || (backTo cpos (starEach es X.env)).any (·.1)) = false; rw [hplain] <;> rfl) (Calls.evalArgs_plain ?_)
  refine thn hA fun us s2 ⟨vs, H2, I2, r2, kvs2, k, p, dv, D2, hx, hk, q2⟩ => ?_
  obtain ⟨_, hd2, xs, r, dd⟩ := d2_of I2 D2
  rcases hx with ⟨rfl, rfl⟩ | rfl
  · obtain ⟨u, rfl, ru⟩ := Vals.one r2
    obtain rfl : u = Value.ref p := ru
    exact call_meetsIn PySem.F.slot_dict_get dd.typeIs PySem.F.entry_dict_get (PySem.F.args_dict_get_2 _ _) (meetsH_dict_get (kind2 X.prog X.w) a p hd2) ⟨show X.A.units + 1 + 8 < cLine by omega, k, xs, is2_of I2 hk, dd, ⟨_, H2, I2.tok _, relO_getD (d := .non) (e := .none) (r.val k) rfl, q2⟩⟩
  · obtain ⟨u, y, rfl, ru, ry⟩ := Vals.two r2
    obtain rfl : u = Value.ref p := ru
    exact call_meetsIn PySem.F.slot_dict_get dd.typeIs PySem.F.entry_dict_get (PySem.F.args_dict_get_3 _ _ _) (meetsH_dict_get_default (kind2 X.prog X.w) a p hd2 y) ⟨show X.A.units + 1 + 8 < cLine by omega, k, xs, is2_of I2 hk, dd, ⟨_, H2, I2.tok _, relO_getD (r.val k) ry, q2⟩⟩
end L2
set_option Elab.async false
set_option linter.all false
set_option maxRecDepth 100000
set_option maxHeartbeats 4000000
namespace L2
open PySem PySem.Spec PyProof.Rows PySem.SeqAt
section
variable {P : Program} {w : World} {A : Around} {E : Value → Shared → Prop} {s : Shared}
end
end L2
set_option Elab.async false
set_option linter.all false
set_option maxRecDepth 100000
set_option maxHeartbeats 4000000
namespace L2
open PySem PySem.Spec PyProof.Rows PySem.SeqAt
def lexLt : List Int → List Int → Bool
  | [], [] => false
  | [], _ :: _ => true
  | _ :: _, [] => false
  | a :: r, b :: t => if a = b then lexLt r t else decide (a < b)
section
variable {prog : Program} {w : World} {A : Around} {E : Value → Shared → Prop} {s : Shared}
theorem eqB_int {a b : Int} {t u : Tok} {Q : Bool → Shared → Prop} (q : Q (decide (a = b)) s) : wpAny (model prog w) A (eqBool (.int a t) (.int b u)) Q E s := by
  have := eqAt_V (A := A) (s := s) (y := .int a) (x := .int b) ⟨t, rfl⟩ ⟨u, rfl⟩ rfl rfl
  refine this prog w E Q ?_
  have e : eqV (.int a) (.int b) = decide (a = b) := by
    show (a == b) = decide (a = b)
    rw [Bool.eq_iff_iff]; simp
  rw [e]
  exact q
theorem zip_ints {f : Int → Int → Bool} {op : CmpOp} (hop : ∀ (a b : Int) (t u : Tok) (s : Shared) (Q : Value → Shared → Prop), a ≠ b → Q (.bool (f a b)) s → wpAny (model prog w) A (richCompare op (.int a t) (.int b u)) Q E s)
    {R : Option Fin × Unit → Shared → Prop} {body : Value × Value → Option Fin × Unit → Sem (ForInStep (Option Fin × Unit))}
    (hb : ∀ (p q : Value) (s : Shared) (R' : ForInStep (Option Fin × Unit) → Shared → Prop),
      wpAny (model prog w) A (eqBool p q) (fun e s' => if e = true then R' (.yield (none, ())) s' else wpAny (model prog w) A (richCompare op p q) (fun v s'' => R' (.done (some (.done (.ret v)), ())) s'') E s') E s →
      wpAny (model prog w) A (body (p, q) (none, ())) R' E s) :
    ∀ (x y : List Int) (us vs : List Value), IntsAre us x → IntsAre vs y → (∀ i : Nat, (∀ j : Nat, j < i → x[j]? = y[j]?) → min x.length y.length ≤ i → R (none, ()) s) →
      (∀ (i : Nat) (a b : Int), (∀ j : Nat, j < i → x[j]? = y[j]?) → x[i]? = some a → y[i]? = some b → a ≠ b → R (some (.done (.ret (.bool (f a b)))), ()) s) →
      wpAny (model prog w) A (forIn (us.zip vs) (none, ()) body) R E s
  | [], _, _, _, hx, _, h1, _ => by
    cases hx
    exact wpAny_pure (h1 0 (fun j hj => absurd hj (Nat.not_lt_zero _)) (by simp))
  | _ :: _, [], _, _, hx, hy, h1, _ => by
    cases hy
    rw [List.zip_nil_right]
    exact wpAny_pure (h1 0 (fun j hj => absurd hj (Nat.not_lt_zero _)) (by simp))
  | a :: x, b :: y, _, _, hx, hy, h1, h2 => by
    cases hx with
    | cons _ t hx =>
      cases hy with
      | cons _ u hy =>
        rw [List.zip_cons_cons, List.forIn_cons]
        refine wpAny_bind (hb _ _ s _ (eqB_int ?_))
        by_cases e : a = b
        · subst e
          rw [decide_eq_true rfl, if_pos rfl]
          refine zip_ints hop hb x y _ _ hx hy (fun i h hi => h1 (i + 1) (fun j hj => ?_) (by simp; omega)) (fun i c d h hc hd hn => h2 (i + 1) c d (fun j hj => ?_) (by simpa using hc) (by simpa using hd) hn)
          · cases j with
            | zero => rfl
            | succ j => simpa using h j (by omega)
          · cases j with
            | zero => rfl
            | succ j => simpa using h j (by omega)
        · rw [decide_eq_false e, if_neg (by decide)]
          exact hop a b t u s _ e (wpAny_pure (h2 0 a b (fun j hj => absurd hj (Nat.not_lt_zero _)) rfl rfl e))
end
theorem lex_same : ∀ {x y : List Int} (i : Nat), (∀ j, j < i → x[j]? = y[j]?) → min x.length y.length ≤ i → lexLt x y = decide (x.length < y.length)
  | [], [], _, _, _ => by simp [lexLt]
  | [], _ :: _, _, _, _ => by simp [lexLt]
  | _ :: _, [], _, _, _ => by simp [lexLt]
  | a :: x, b :: y, 0, _, h => by simp at h
  | a :: x, b :: y, i + 1, h, hl => by
    have e : a = b := by simpa using h 0 (by omega)
    subst e
    unfold lexLt
    rw [if_pos rfl, lex_same i (fun j hj => by simpa using h (j + 1) (by omega)) (by simp at hl; omega)]
    simp
theorem lex_diff : ∀ {x y : List Int} (i : Nat) {a b : Int}, (∀ j, j < i → x[j]? = y[j]?) → x[i]? = some a → y[i]? = some b → a ≠ b → lexLt x y = decide (a < b)
  | [], _, _, _, _, _, h, _, _ => by simp at h
  | _ :: _, [], _, _, _, _, _, h, _ => by simp at h
  | c :: x, d :: y, 0, a, b, _, h1, h2, hn => by
    simp at h1 h2
    subst h1 h2
    unfold lexLt
    rw [if_neg hn]
  | c :: x, d :: y, i + 1, a, b, h, h1, h2, hn => by
    have e : c = d := by simpa using h 0 (by omega)
    subst e
    unfold lexLt
    rw [if_pos rfl]
    exact lex_diff i (fun j hj => by simpa using h (j + 1) (by omega)) (by simpa using h1) (by simpa using h2) hn
section
variable {prog : Program} {w : World} {A : Around} {E : Value → Shared → Prop} {s : Shared}
theorem tup_ge {a b : Addr} {us vs : List Value} {x y : List Int} {Q : Value → Shared → Prop} (hu : A.units < cLine) (ha : s.heap.IsTuple a us.toArray) (hb : s.heap.IsTuple b vs.toArray) (hx : IntsAre us x) (hy : IntsAre vs y) (q : Q (.bool (!lexLt x y)) s) : wpAny (model prog w) A (compareOp .GtE (.ref a) (.ref b)) Q E s := by
  have ta : s.TypeIs (.ref a) "tuple" := let ⟨o, g, c, _⟩ := ha; ⟨o, g, c⟩
  have tb : s.TypeIs (.ref b) "tuple" := let ⟨o, g, c, _⟩ := hb; ⟨o, g, c⟩
  obtain ⟨oa, ga, ca, na, da⟩ := ha
  obtain ⟨ob, gb, cb, nb, db⟩ := hb
  refine wpAny_richCompare_same_room (op := .GtE) ta tb PySem.F.slot_tuple_ge (wpAny_call_entry PySem.F.slot_tuple_ge ta PySem.F.entry_tuple_ge ?_ (PySem.F.args_tuple_ge_2 _ _)) hu
  show wpAny (model prog w) A.in1 (isInstance (.ref b) (.type "tuple") >>= fun _ => _) _ _ s
  refine wpAny_bind (wpAny_isInstance tb isSubtype_tuple_tuple ?_)
  simp only [Bool.not_true, Bool.false_eq_true, if_false]
  refine wpAny_bind (wpAny_tupleItemsOf ga da (wpAny_bind (wpAny_tupleItemsOf gb db (wpAny_bind ?_))))
  refine zip_ints (f := fun a b => decide (b ≤ a)) (op := .GtE) (fun a b t u s Q _ hq => ge_int hq) (fun p q s' R' h' => ?_) x y us vs hx hy (fun i h1 h2 => ?_) (fun i c d h1 h2 h3 h4 => ?_)
  · refine wpAny_bind (wpAny_mono h' (fun e s1 h1 => ?_) fun _ _ z => z)
    cases e with
    | true => exact wpAny_pure h1
    | false =>
      refine wpAny_bind (wpAny_rule (wpAny_bind (wpAny_mono h1 (fun v s2 h2 => ?_) fun _ _ z => z)))
      first
        | exact wpAny_pure (wpAny_pure h2)
        | exact wpAny_bind (wpAny_pure (wpAny_pure h2))
        | exact wpAny_pure h2
  · have e := lex_same i h1 h2
    refine wpAny_pure ⟨_, rfl, (fun z => nomatch z), ?_⟩
    have l1 : us.length = x.length := hx.length
    have l2 : vs.length = y.length := hy.length
    show Q (.bool (decide (us.toArray.size ≥ vs.toArray.size))) s
    have e2 : decide (us.toArray.size ≥ vs.toArray.size) = !lexLt x y := by
      rw [e, List.size_toArray, List.size_toArray, l1, l2, Bool.eq_iff_iff]
      simp
    rw [e2]
    exact q
  · have e := lex_diff i h1 h2 h3 h4
    refine wpAny_pure ⟨_, rfl, (fun z => nomatch z), ?_⟩
    have e2 : decide (d ≤ c) = !lexLt x y := by
      rw [e, Bool.eq_iff_iff]
      simp
    rw [e2]
    exact q
end
section
variable {X : Cx}
def rCmpT (K : PySem.W.Frag) (neg : Bool) : R2 := fun x y H Q => ∃ p q ns ms, x = .ref p ∧ y = .ref q ∧ SqT K H p (ns.map V.int) ∧ SqT K H q (ms.map V.int) ∧ Q (.bl (if neg then !lexLt ns ms else lexLt ns ms)) H
theorem op_geTI (hu : X.A.units + 64 < cLine) : OpR X (compareOp .GtE) (rCmpT X.K true) := by
  intro pins s σ H x y v u Q I rx ry h
  obtain ⟨p, q, ns, ms, rfl, rfl, hp, hq, k⟩ := h
  cases rx
  cases ry
  obtain ⟨its, r, t, _⟩ := I.tuple hp
  obtain ⟨its', r', t', _⟩ := I.tuple hq
  exact tup_ge (by omega) (show s.heap.IsTuple p its.toArray from t) (show s.heap.IsTuple q its'.toArray from t') (ints_of_vals r) (ints_of_vals r') ⟨.bl _, H, I, rfl, k⟩
end
end L2
set_option Elab.async false
set_option linter.all false
set_option maxRecDepth 100000
set_option maxHeartbeats 4000000
namespace L2
open PySem PySem.Spec PyProof.Rows PySem.SeqAt PySem.W
section
variable {prog : Program} {w : World} {A : Around} {E : Value → Shared → Prop} {s : Shared}
theorem lex_kat {fin : Bool} {Q : Bool → Shared → Prop} : ∀ (x y : List Int) (us vs : List Value) (i : Nat), IntsAre us x → IntsAre vs y → (∀ r : Nat, (∀ j : Nat, j < r → x[j]? = y[j]?) → min x.length y.length ≤ r → Q fin s) →
    (∀ (r : Nat) (a b : Int), (∀ j : Nat, j < r → x[j]? = y[j]?) → x[r]? = some a → y[r]? = some b → a ≠ b → Q (decide (a < b)) s) → KatLex prog w A true fin Q (us.zip vs) i s
  | [], _, _, _, _, hx, _, h1, _ => by
    cases hx
    exact kat_nil (h1 0 (fun j hj => absurd hj (Nat.not_lt_zero _)) (by simp))
  | _ :: _, [], _, _, _, hx, hy, h1, _ => by
    cases hy
    rw [List.zip_nil_right]
    exact kat_nil (h1 0 (fun j hj => absurd hj (Nat.not_lt_zero _)) (by simp))
  | a :: x, b :: y, _, _, i, hx, hy, h1, h2 => by
    cases hx with
    | cons _ t hx =>
      cases hy with
      | cons _ u hy =>
        rw [List.zip_cons_cons]
        refine kat_cons (eqB_int ?_)
        by_cases e : a = b
        · subst e
          rw [decide_eq_true rfl]
          refine kat_yes (lex_kat x y _ _ (i + 1) hx hy (fun r h hr => h1 (r + 1) (fun j hj => ?_) (by simp; omega)) (fun r c d h hc hd hn => h2 (r + 1) c d (fun j hj => ?_) (by simpa using hc) (by simpa using hd) hn))
          · cases j with
            | zero => rfl
            | succ j => simpa using h j (by omega)
          · cases j with
            | zero => rfl
            | succ j => simpa using h j (by omega)
        · rw [decide_eq_false e]
          refine kat_no ?_
          have q := h2 0 a b (fun j hj => absurd hj (Nat.not_lt_zero _)) rfl rfl e
          cases hi : (true && i == 0) with
          | true => exact oneLt_int q
          | false => exact kat_one _ _ (lt_int q)
theorem key_lt {p q : Addr} {us vs : List Value} {x y : List Int} {Q : Bool → Shared → Prop} (hp : s.heap.IsTuple p us.toArray) (hq : s.heap.IsTuple q vs.toArray) (hx : IntsAre us x) (hy : IntsAre vs y) (h : Q (lexLt x y) s) : wpAny (model prog w) A (keyLt' (tuples' true) (.ref p) (.ref q)) Q E s := by
  obtain ⟨o, g, _, n, d⟩ := hp
  obtain ⟨o', g', _, n', d'⟩ := hq
  refine kat_lt g d g' d' ?_
  refine lex_kat x y us vs 0 hx hy (fun r h1 h2 => ?_) (fun r a b h1 h2 h3 h4 => ?_)
  · have e := lex_same r h1 h2
    have l1 : us.length = x.length := hx.length
    have l2 : vs.length = y.length := hy.length
    rw [List.size_toArray, List.size_toArray, l1, l2, ← e]
    exact h
  · rw [← lex_diff r h1 h2 h3 h4]
    exact h
theorem sort2 : kas_sort 2 = .ask 1 0 fun c => if c = true then .ret #[1, 0] else .ret #[0, 1] := by
  show KasT.ask 1 0 _ = _
  congr 1
  funext c
  cases c <;> rfl
theorem pair_sort {a p q : Addr} {n : Nat} {us vs : List Value} {x y : List Int} {P : Fin → Shared → Prop} (ho : s.heap.get? a = some (seqObj "list" #[.ref p, .ref q] n)) (hp : s.heap.IsTuple p us.toArray) (hq : s.heap.IsTuple q vs.toArray) (hx : IntsAre us x) (hy : IntsAre vs y) (x0 : x ≠ []) (y0 : y ≠ [])
    (h : ∀ h' c, h'.get? a = some (seqObj "list" (if lexLt y x then #[.ref q, .ref p] else #[.ref p, .ref q]) c) → (∀ b u, b ≠ a → s.heap.get? b = some u → h'.get? b = some u) → P (.done (.ret .none)) { s with heap := h' }) :
    wpAny (model prog w) A (Builtin.«list.sort» ⟨[.ref a], []⟩) P E s := by
  have lt : a < s.heap.objs.size := Heap.lt_size ho
  obtain ⟨e1, ho1⟩ : ∃ e1, (s.heap.update a (Obj.mapSeq fun _ => (#[] : Array Value))).get? a = some (seqObj "list" #[] e1) := ⟨_, get?_update_seq ho fun _ => #[]⟩
  have na : ∀ {b : Addr} {us : List Value}, s.heap.IsTuple b us.toArray → b ≠ a := fun {b us} hb z => by
    obtain ⟨o, g, c, _⟩ := hb
    rw [z, ho] at g; cases g; injection c with c; exact absurd c (by decide)
  rw [list_sort_plain]
  refine wpAny_bind (listItems_at ho rfl (wpAny_bind (listUpdate_at ho rfl ?_ (by show 2 ≤ sizeLine; rw [sizeLine_eq]; omega) (Nat.zero_le _))))
  refine wpAny_bind (seqEpoch_at ho1 rfl (wpAny_bind (wpAny_newTuple (wpAny_bind (wpAny_newList (wpAny_holding ?_) (Nat.zero_le _))) (by show 2 ≤ _; rw [sizeLine_eq]; decide))))
  have keep : ∀ b u, b ≠ a → s.heap.get? b = some u → (((s.heap.update a (Obj.mapSeq fun _ => (#[] : Array Value))).push (seqObj "tuple" #[.ref p, .ref q] 0)).push (seqObj "list" #[] 0)).get? b = some u := fun b u hb e =>
    Heap.get?_push_of_some _ (Heap.get?_push_of_some _ ((Heap.get?_update_other _ _ (Ne.symm hb)).trans e))
  have ho2 : (((s.heap.update a (Obj.mapSeq fun _ => (#[] : Array Value))).push (seqObj "tuple" #[.ref p, .ref q] 0)).push (seqObj "list" #[] 0)).get? a = some (seqObj "list" #[] e1) := Heap.get?_push_of_some _ (Heap.get?_push_of_some _ ho1)
  show wpAny (model prog w) A _ P E { s with heap := ((s.heap.update a (Obj.mapSeq fun _ => (#[] : Array Value))).push (seqObj "tuple" #[.ref p, .ref q] 0)).push (seqObj "list" #[] 0) }
  generalize hH : ((s.heap.update a (Obj.mapSeq fun _ => (#[] : Array Value))).push (seqObj "tuple" #[.ref p, .ref q] 0)).push (seqObj "list" #[] 0) = h2 at keep ho2
  have tp : h2.IsTuple p us.toArray := let ⟨o, g, r⟩ := hp; ⟨o, keep p o (na ⟨o, g, r⟩) g, r⟩
  have tq : h2.IsTuple q vs.toArray := let ⟨o, g, r⟩ := hq; ⟨o, keep q o (na ⟨o, g, r⟩) g, r⟩
  dsimp only
  have n2 : ¬ (#[Value.ref p, .ref q] : Array Value).size < 2 := by show ¬ 2 < 2; omega
  rw [if_neg n2, if_neg n2]
  obtain ⟨a0, xs, rfl⟩ : ∃ a0 xs, x = a0 :: xs := by cases x with | nil => exact absurd rfl x0 | cons a0 xs => exact ⟨a0, xs, rfl⟩
  obtain ⟨b0, ys, rfl⟩ : ∃ b0 ys, y = b0 :: ys := by cases y with | nil => exact absurd rfl y0 | cons a0 xs => exact ⟨a0, xs, rfl⟩
  obtain ⟨t0, us', eu⟩ : ∃ t us', us = Value.int a0 t :: us' := by cases hx with | cons _ t r => exact ⟨t, _, rfl⟩
  obtain ⟨t1, vs', ev⟩ : ∃ t vs', vs = Value.int b0 t :: vs' := by cases hy with | cons _ t r => exact ⟨t, _, rfl⟩
  have kt : KatTups h2 [.ref p, .ref q] [.int a0 t0, .int b0 t1] := by
    obtain ⟨o, g, c, n, d⟩ := id tp
    obtain ⟨o', g', c', n', d'⟩ := id tq
    exact KatTups.cons g c d (by rw [eu]; rfl) (KatTups.cons g' c' d' (by rw [ev]; rfl) KatTups.nil)
  refine wpAny_bind (kat_kind (vs := [.ref p, .ref q]) (T := .type "int") kt (by show 0 < 2; omega) (fun v hv => ?_) (by decide) ?_)
  · have : v = .int a0 t0 ∨ v = .int b0 t1 := by simpa using hv
    rcases this with rfl | rfl <;> exact .now
  show wpAny (model prog w) A _ P E _
  have eb : ((Value.type "int" : Value) != Value.type "tuple") = true := by decide
  rw [eb]
  have ask : (kas_sort 2).kasWp (kas_ask prog w A (tuples' true) [.ref p, .ref q]) (fun r s' => s' = { s with heap := h2 } ∧ r = if lexLt (b0 :: ys) (a0 :: xs) then #[1, 0] else #[0, 1]) { s with heap := h2 } := by
    rw [sort2]
    show wpAny (model prog w) A (keyLt' (tuples' true) (.ref q) (.ref p)) _ _ { s with heap := h2 }
    refine key_lt tq tp hy hx ?_
    cases lexLt (b0 :: ys) (a0 :: xs) with
    | true => exact ⟨rfl, rfl⟩
    | false => exact ⟨rfl, rfl⟩
  refine wpAny_bind (wpAny_mono (kat_run (vs := [.ref p, .ref q]) (ks := [.ref p, .ref q]) (Q := fun st' s' => ∃ r : Array Nat, r.size = 2 ∧ arrOf st' = r.map (kas_item (([.ref p, .ref q] : List Value).toArray.zip ([.ref p, .ref q] : List Value).toArray)) ∧ failedOf st' = none ∧ s' = { s with heap := h2 } ∧ r = if lexLt (b0 :: ys) (a0 :: xs) then #[1, 0] else #[0, 1])
    rfl (by show 2 ≤ 2; omega) (by show 2 < 64; omega) (fun r st' s' z1 z2 z3 z4 => ⟨r, z1, z2, z3, z4⟩) ask) ?_ fun _ _ z => z)
  rintro ⟨⟨⟩, st'⟩ s' ⟨r, hr, har, hf, rfl, er⟩
  dsimp only
  have hout := kat_snds (vs := [.ref p, .ref q]) (ks := [.ref p, .ref q]) rfl har
  have eo : (List.toArray (r.toList.map fun i => ([.ref p, .ref q] : List Value).getD i Value.none)) = if lexLt (b0 :: ys) (a0 :: xs) then #[.ref q, .ref p] else #[.ref p, .ref q] := by
    rw [er]
    cases lexLt (b0 :: ys) (a0 :: xs) <;> rfl
  rw [hout, eo]
  have sz : (if lexLt (b0 :: ys) (a0 :: xs) then (#[.ref q, .ref p] : Array Value) else #[.ref p, .ref q]).size = 2 := by split <;> rfl
  obtain ⟨c2, hc2⟩ : ∃ c2, (h2.update a (Obj.mapSeq fun _ => if lexLt (b0 :: ys) (a0 :: xs) then (#[.ref q, .ref p] : Array Value) else #[.ref p, .ref q])).get? a = some (seqObj "list" (if lexLt (b0 :: ys) (a0 :: xs) then #[.ref q, .ref p] else #[.ref p, .ref q]) c2) := ⟨_, get?_update_seq ho2 fun _ => if lexLt (b0 :: ys) (a0 :: xs) then (#[.ref q, .ref p] : Array Value) else #[.ref p, .ref q]⟩
  refine wpAny_bind (seqEpoch_at ho2 rfl (wpAny_bind (listUpdate_at ho2 rfl ?_ (Nat.zero_le _) (by rw [sz, sizeLine_eq]; decide))))
  rw [hf]
  simp only [bne_self_eq_false, Bool.false_eq_true, if_false]
  exact wpAny_pure (h _ c2 hc2 fun b u hb e => (Heap.get?_update_other _ _ (Ne.symm hb)).trans (keep b u hb e))
theorem collect_tup {l : Addr} {vs : List Value} {Q : List Value → Shared → Prop} (hl : s.heap.IsTuple l vs.toArray)
    (h : Q vs { s with heap := (s.heap.push (seqObj "list" #[] 0)).update s.heap.objs.size (Obj.mapSeq (· ++ vs.toArray)) }) (hsz : vs.length ≤ sizeLine) : wpAny (model prog w) A (collect (.ref l)) Q E s := by
  obtain ⟨o, g, c, n, d⟩ := hl
  unfold collect
  refine wpAny_bind (wpAny_runValue (codeAny_builtin entry_proto_collect' ?_))
  show wpAny (model prog w) _ (do again (.builtin "list.__iadd__" ⟨[← newList [], .ref l], []⟩)) _ _ s
  refine wpAny_bind (wpAny_newList (wpAny_pure ⟨Code.quiet_builtin _ (by decide +kernel), codeAny_builtin entry_list_iadd' ?_⟩))
  show wpAny (model prog w) _ (Builtin.List.listExtendWith (.ref s.heap.objs.size) (.ref l) (.ref s.heap.objs.size)) _ _ { s with heap := s.heap.push (seqObj "list" #[] 0) }
  unfold Builtin.List.listExtendWith
  have g' : (s.heap.push (seqObj "list" #[] 0)).get? l = some o := Heap.get?_push_of_some _ g
  refine wpAny_bind (wpAny_typeOf (T := "tuple") ⟨o, g', c⟩ ?_)
  rw [if_pos (by rw [show (Value.type "tuple" == Value.type "tuple") = true by decide]; simp)]
  refine wpAny_bind (listItems_at g' d (wpAny_bind (listItems_at (xs := #[]) (n := 0) (Heap.get?_push_size _ rfl) rfl ?_)))
  rw [if_neg (by simp)]
  refine wpAny_bind (listUpdate_at (xs := #[]) (n := 0) (Heap.get?_push_size _ rfl) rfl (wpAny_pure ?_) (Nat.zero_le _) (by show (#[] ++ vs.toArray).size ≤ sizeLine + 1; rw [Array.size_append, List.size_toArray]; simp; omega))
  show wpAny (model prog w) A (do
      let o ← load s.heap.objs.size
      match o.data with
      | .seq ys _ => pure ys.toList
      | _ => unsupported "internal:collect") Q E { s with heap := (s.heap.push (seqObj "list" #[] 0)).update s.heap.objs.size (Obj.mapSeq (· ++ vs.toArray)) }
  refine wpAny_bind (wpAny_load (get?_update_seq (Heap.get?_push_size _ rfl) _) ?_)
  show wpAny (model prog w) A (pure ((#[] : Array Value) ++ vs.toArray).toList) Q E _
  have e : ((#[] : Array Value) ++ vs.toArray).toList = vs := by simp
  rw [e]
  exact wpAny_pure h
theorem sorted_pair {l p q : Addr} {us vs : List Value} {x y : List Int} {Q : Value → Shared → Prop} (hl : s.heap.IsTuple l #[.ref p, .ref q]) (hp : s.heap.IsTuple p us.toArray) (hq : s.heap.IsTuple q vs.toArray) (hx : IntsAre us x) (hy : IntsAre vs y) (x0 : x ≠ []) (y0 : y ≠ [])
    (h : ∀ D h' c, s.heap.objs.size ≤ D → h'.get? D = some (seqObj "list" (if lexLt y x then #[.ref q, .ref p] else #[.ref p, .ref q]) c) → (∀ b u, s.heap.get? b = some u → h'.get? b = some u) → Q (.ref D) { s with heap := h' }) :
    wpAny (model prog w) A (call (.builtin "sorted") [.ref l]) Q E s := by
  refine Calls.call_function_entry kind_sorted plain_sorted entry_sorted (args_sorted1 _) ?_
  unfold Builtin.«sorted»
  refine wpAny_bind (m := checkCount "sorted" 1 1 _) (wpAny_pure (wpAny_bind (collect_tup (vs := [.ref p, .ref q]) hl (wpAny_bind (wpAny_newList ?_ (by show 2 ≤ _; rw [sizeLine_eq]; omega))) (by show 2 ≤ _; rw [sizeLine_eq]; omega))))
  have z : ((s.heap.push (seqObj "list" #[] 0)).update s.heap.objs.size (Obj.mapSeq (· ++ ([.ref p, .ref q] : List Value).toArray))).objs.size = s.heap.objs.size + 1 := by
    rw [Heap.size_update, size_push']
  have g : (((s.heap.push (seqObj "list" #[] 0)).update s.heap.objs.size (Obj.mapSeq (· ++ ([.ref p, .ref q] : List Value).toArray))).push (seqObj "list" ([.ref p, .ref q] : List Value).toArray 0)).get? (s.heap.objs.size + 1) = some (seqObj "list" #[.ref p, .ref q] 0) := by
    rw [← z]; exact Heap.get?_push_size _ rfl
  have keep : ∀ b u, s.heap.get? b = some u → (((s.heap.push (seqObj "list" #[] 0)).update s.heap.objs.size (Obj.mapSeq (· ++ ([.ref p, .ref q] : List Value).toArray))).push (seqObj "list" ([.ref p, .ref q] : List Value).toArray 0)).get? b = some u := fun b u e => by
    have lt : b < s.heap.objs.size := Heap.lt_size e
    rw [Heap.get?_push_ne _ _ _ (by rw [z]; exact Nat.ne_of_lt (Nat.lt_succ_of_lt lt)), Heap.get?_update_ne _ _ _ _ (Nat.ne_of_lt lt), Heap.get?_push_ne _ _ _ (Nat.ne_of_lt lt)]
    exact e
  show wpAny (model prog w) _ _ _ _ { s with heap := ((s.heap.push (seqObj "list" #[] 0)).update s.heap.objs.size (Obj.mapSeq (· ++ ([.ref p, .ref q] : List Value).toArray))).push (seqObj "list" ([.ref p, .ref q] : List Value).toArray 0) }
  rw [z]
  generalize hH : ((s.heap.push (seqObj "list" #[] 0)).update s.heap.objs.size (Obj.mapSeq (· ++ ([.ref p, .ref q] : List Value).toArray))).push (seqObj "list" ([.ref p, .ref q] : List Value).toArray 0) = h1 at g keep
  have tp : h1.IsTuple p us.toArray := let ⟨o, g, r⟩ := hp; ⟨o, keep p o g, r⟩
  have tq : h1.IsTuple q vs.toArray := let ⟨o, g, r⟩ := hq; ⟨o, keep q o g, r⟩
  refine wpAny_bind (wpAny_holding (wpAny_call_entry slot_list_sort ⟨_, g, rfl⟩ entry_list_sort (pair_sort (s := { s with heap := h1 }) g tp tq hx hy x0 y0 fun h' c hD hk => ?_) (args_list_sort _)))
  refine ⟨_, rfl, wpAny_pure ⟨_, rfl, h (s.heap.objs.size + 1) h' c (Nat.le_succ _) hD fun b u e => hk b u ?_ (keep b u e)⟩⟩
  exact Nat.ne_of_lt (Nat.lt_succ_of_lt (Heap.lt_size e))
end
section
variable {X : Cx}
abbrev rSortP (K : PySem.W.Frag) : List V → Hp → VK → Prop := fun xs H Q => ∃ (a p q : Addr) (ns ms : List Int), xs = [.ref a] ∧ SqT K H a [.ref p, .ref q] ∧ SqT K H p (ns.map V.int) ∧ SqT K H q (ms.map V.int) ∧ ns ≠ [] ∧ ms ≠ [] ∧ ∀ l, H l = none → Q (.ref l) (upd H l (.lst (if lexLt ms ns then [.ref q, .ref p] else [.ref p, .ref q])))
theorem call_sortP : CallR X (.builtin "sorted") (rSortP X.K) := by
  intro pins s σ H xs us Q I r h
  obtain ⟨a, p, q, ns, ms, rfl, ha, hp, hq, n0, m0, k⟩ := h
  obtain ⟨u, rfl, rx⟩ := vals1 r
  cases rx
  obtain ⟨its, ri, ti, _⟩ := I.tuple ha
  obtain ⟨u1, u2, rfl, r1, r2⟩ := Vals.two ri
  cases r1
  cases r2
  obtain ⟨jp, rp, tp, _⟩ := I.tuple hp
  obtain ⟨jq, rq, tq, _⟩ := I.tuple hq
  refine sorted_pair (show s.heap.IsTuple a #[.ref p, .ref q] from ti) (show s.heap.IsTuple p jp.toArray from tp) (show s.heap.IsTuple q jq.toArray from tq) (ints_of_vals rp) (ints_of_vals rq) n0 m0 fun D h' c hD hg hk => ?_
  refine ⟨.ref D, _, I.laid (t' := s.toks) hk hD (show ObjOk X.prog X.w _ _ _ (.lst (if lexLt ms ns then [.ref q, .ref p] else [.ref p, .ref q])) from ⟨?_, ?_⟩), rfl, k D (I.hok.fresh hD)⟩
  · split <;> (show 2 ≤ sizeLine; decide)
  · cases hc : lexLt ms ns with
    | true =>
      rw [hc] at hg
      exact ⟨[.ref q, .ref p], c, .cons rfl (.cons rfl .nil), hg⟩
    | false =>
      rw [hc] at hg
      exact ⟨[.ref p, .ref q], c, .cons rfl (.cons rfl .nil), hg⟩
end
def tNo (K : PySem.W.Frag) (C' : Addr) (ts : Addr → Addr → TS) (tr : TH) : TH := fun a C D σ H => ∃ b, PySem.W.mroIn K C (.ref C') = some b ∧ PySem.W.excIn K C [.type "ValueError", .type "Exception", .type "BaseException", .type "object"] "ValueError.__new__" = true ∧
  if b = true then ts a C D σ H else tr a C D σ H
theorem ph_no {X : Cx} {x : Str} {C' : Addr} {np pos : Pos} {b₀ : Stmt} {suite : List Stmt} {rest : List ExceptHandler} {ts : Addr → Addr → TS} {tr : TH} (hfr : X.env.frame = some X.env.locals) (hstk : X.stack = X.env :: X.outer) (O : Exc X.K X.mg x C') (hg : Gl X x)
    (hsuite : ∀ a C oe, oe.cls = .ref C → PSs (XM X a oe) (b₀ :: suite) (ts a C)) (hrest : PH X rest tr) (hdb : (x == ("__debug__" : Str)) = false := by decide) :
    PH X (.ExceptHandler (some (.Name x np)) none (b₀ :: suite) pos :: rest) (tNo X.K C' ts tr) := by
  intro pins s0 s σ H0 H D a C I0 fl h
  obtain ⟨b, hb, hexc, h⟩ := h
  have I := fl.inv I0
  obtain ⟨t, B, hfw, hB, kk1, kk2⟩ := id fl.fl
  obtain ⟨oe, ws, hoe, hoec, hoed, _⟩ := hfw.first
  have hne : a ≠ X.env.locals := fun z => by
    obtain ⟨m, ⟨o', es, ep, ho', hd', _⟩, _⟩ := I.loc
    rw [← z, hoe] at ho'; cases ho'; rw [hoed] at hd'; cases hd'
  have hnf : ∀ {h : Heap} {oe' : Obj} {ws' : Array Value}, h.FunFrames B X.stack → h.get? a = some oe' → oe'.data = .fields ws' → a ∉ X.fs := fun hF he hd hm => by
    have hm' : a ∈ X.stack.filterMap (·.frame) := by rw [hstk, List.filterMap_cons, hfr]; exact List.mem_cons_of_mem _ hm
    obtain ⟨_, ob, hob, hnf⟩ := hF.mem hm'
    rw [he] at hob; cases hob
    exact hnf _ hd
  have IM : Inv (XM X a oe) pins σ H s := Inv.handler I hoe fl.notH hne (hnf hfw.2.2.1 hoe hoed) (fun v z => by rw [hoed] at z; cases z)
  refine wpAny_handleBy_cons (codeAny_handlers_test (ld_glob (X := XM X a oe) IM hg O.mg ?_ hdb)) (by intro q; cases q)
  obtain ⟨bm', N', nm', q', bs', hdct', sn', sub', ab', col', dd', k0', k1', k2', k3', k5', mN', hC', hN', hni', T'⟩ := exc_obj (h := s.heap) I.kIn O.ex
  obtain ⟨bm, N, nm, q, bs, hdct, sn, sub, ab, col, dd, k0, k1, k2, k3, k5, mN, hC, hNn, hni, T⟩ := exc_obj (h := s.heap) I.kIn hexc
  have hmr := exc_mro I.kIn hexc hC hb
  obtain ⟨hp, gs, dr, tk, os⟩ := s
  refine excMatches_own hC hC' hoe hoec (T'.hasType PySem.F.excBase_ValueError.hasBase) ?_
  rw [hmr]
  cases b with
  | false =>
    rw [if_neg Bool.false_ne_true] at h
    exact hrest pins s0 _ σ H0 H D a C I0 fl h
  | true =>
    rw [if_pos rfl] at h
    refine codeAny_handlers_suite ?_
    refine lands_againW hfw fun h₆ hf₆ sm₆ => ?_
    have fl₆ : Fly X.prog X.w X.stack H0 s0 H a C ⟨h₆, gs, dr, tk, os⟩ := fl.moved hfw hB kk1 kk2 hf₆ sm₆
    have I₆ := fl₆.inv I0
    obtain ⟨oe₆, ws₆, hoe₆, hoec₆, hoed₆, _⟩ := hf₆.first
    have IM₆ : Inv (XM X a oe₆) pins σ H ⟨h₆, gs, dr, tk, os⟩ := Inv.handler I₆ hoe₆ fl₆.notH hne (hnf hf₆.2.2.1 hoe₆ hoed₆) (fun v z => by rw [hoed₆] at z; cases z)
    refine wpAny_mono (hsuite a C oe₆ hoec₆ pins _ σ H _ IM₆ h) (fun f s8 q8 => ?_) fun _ _ z => False.elim z
    cases f with
    | next => obtain ⟨σ', H', I8, q⟩ := q8; exact ⟨σ', H', Inv.unhandler I8 I0.ok.hd, q⟩
    | brk => obtain ⟨σ', H', I8, q⟩ := q8; exact ⟨σ', H', Inv.unhandler I8 I0.ok.hd, q⟩
    | cont => obtain ⟨σ', H', I8, q⟩ := q8; exact ⟨σ', H', Inv.unhandler I8 I0.ok.hd, q⟩
    | ret u => obtain ⟨v, σ', H', I8, rv, q⟩ := q8; exact ⟨v, σ', H', Inv.unhandler I8 I0.ok.hd, rv, q⟩
end L2
set_option Elab.async false
set_option linter.all false
set_option maxRecDepth 100000
set_option maxHeartbeats 4000000
namespace L2
open PySem PySem.Spec PyProof.Rows
abbrev Sd := Tr × Int
def crn (t : Tr) (k : Int) : Pt :=
  if t.2.2 = 0 then (if k = 0 then (t.1, t.2.1) else if k = 1 then (t.1 + 1, t.2.1) else (t.1, t.2.1 + 1))
  else (if k = 0 then (t.1 + 1, t.2.1) else if k = 1 then (t.1 + 1, t.2.1 + 1) else (t.1, t.2.1 + 1))
def nxt (k : Int) : Int := if k = 0 then 1 else if k = 1 then 2 else 0
def opp (s : Sd) : Sd :=
  if s.1.2.2 = 0 then
    (if s.2 = 0 then ((s.1.1, s.1.2.1 - 1, 1), 1) else if s.2 = 1 then ((s.1.1, s.1.2.1, 1), 2) else ((s.1.1 - 1, s.1.2.1, 1), 0))
  else
    (if s.2 = 0 then ((s.1.1 + 1, s.1.2.1, 0), 2) else if s.2 = 1 then ((s.1.1, s.1.2.1 + 1, 0), 0) else ((s.1.1, s.1.2.1, 0), 1))
def okS (s : Sd) : Prop := (s.1.2.2 = 0 ∨ s.1.2.2 = 1) ∧ (s.2 = 0 ∨ s.2 = 1 ∨ s.2 = 2)
theorem opp_ok {s : Sd} (h : okS s) : okS (opp s) := by
  obtain ⟨⟨x, y, c⟩, k⟩ := s
  obtain ⟨rfl | rfl, rfl | rfl | rfl⟩ := h <;> simp [opp, okS]
theorem opp_opp {s : Sd} (h : okS s) : opp (opp s) = s := by
  obtain ⟨⟨x, y, c⟩, k⟩ := s
  obtain ⟨rfl | rfl, rfl | rfl | rfl⟩ := h <;> simp [opp]
theorem opp_tr {s : Sd} (h : okS s) : (opp s).1 ≠ s.1 := by
  obtain ⟨⟨x, y, c⟩, k⟩ := s
  obtain ⟨rfl | rfl, rfl | rfl | rfl⟩ := h <;> simp [opp]
theorem opp_ne {s : Sd} (h : okS s) : opp s ≠ s := fun e => opp_tr h (by rw [e])
def ltP (p q : Pt) : Bool := if p.1 = q.1 then decide (p.2 < q.2) else decide (p.1 < q.1)
def srt (p q : Pt) : Pt × Pt := if ltP q p then (q, p) else (p, q)
def key (s : Sd) : Pt × Pt := srt (crn s.1 s.2) (crn s.1 (nxt s.2))
theorem crn_opp {s : Sd} (h : okS s) : crn (opp s).1 (opp s).2 = crn s.1 (nxt s.2) ∧ crn (opp s).1 (nxt (opp s).2) = crn s.1 s.2 := by
  obtain ⟨⟨x, y, c⟩, k⟩ := s
  obtain ⟨rfl | rfl, rfl | rfl | rfl⟩ := h <;> simp [opp, crn, nxt]
theorem crn_ne {s : Sd} (h : okS s) : crn s.1 s.2 ≠ crn s.1 (nxt s.2) := by
  obtain ⟨⟨x, y, c⟩, k⟩ := s
  obtain ⟨rfl | rfl, rfl | rfl | rfl⟩ := h <;> simp [crn, nxt] <;> omega
theorem srt_swap {p q : Pt} (h : p ≠ q) : srt p q = srt q p := by
  obtain ⟨a, b⟩ := p
  obtain ⟨c, d⟩ := q
  unfold srt ltP
  by_cases e : a = c
  · subst e
    have hb : b ≠ d := fun z => h (by rw [z])
    simp only [if_true]
    by_cases l : d < b
    · have : ¬ b < d := by omega
      simp [l, this]
    · have : b < d := by omega
      simp [l, this]
  · have e' : ¬ c = a := fun z => e z.symm
    simp only [if_neg e, if_neg e']
    by_cases l : c < a
    · have : ¬ a < c := by omega
      simp [l, this]
    · have : a < c := by omega
      simp [l, this]
theorem key_opp {s : Sd} (h : okS s) : key (opp s) = key s := by
  unfold key
  obtain ⟨e1, e2⟩ := crn_opp h
  rw [e1, e2]
  exact srt_swap fun z => crn_ne h z.symm
theorem srt_eq {p q p' q' : Pt} (h : srt p q = srt p' q') : (p = p' ∧ q = q') ∨ (p = q' ∧ q = p') := by
  unfold srt at h
  split at h <;> split at h <;> injection h with h1 h2
  · exact .inl ⟨h2, h1⟩
  · exact .inr ⟨h2, h1⟩
  · exact .inr ⟨h1, h2⟩
  · exact .inl ⟨h1, h2⟩
theorem key_inj {s t : Sd} (hs : okS s) (ht : okS t) (h : key s = key t) : t = s ∨ t = opp s := by
  obtain ⟨⟨x, y, c⟩, k⟩ := s
  obtain ⟨⟨x', y', c'⟩, k'⟩ := t
  have hc := srt_eq h
  obtain ⟨rfl | rfl, rfl | rfl | rfl⟩ := hs <;> obtain ⟨rfl | rfl, rfl | rfl | rfl⟩ := ht <;> simp [crn, nxt, opp] at hc ⊢ <;> omega
def sds (t : Tr) : List Sd := [(t, 0), (t, 1), (t, 2)]
def sdsL (F : List Tr) : List Sd := F.flatMap sds
theorem mem_sds {t : Tr} {s : Sd} : s ∈ sds t ↔ s.1 = t ∧ (s.2 = 0 ∨ s.2 = 1 ∨ s.2 = 2) := by
  obtain ⟨u, k⟩ := s
  simp only [sds, List.mem_cons, List.not_mem_nil, or_false, Prod.mk.injEq]
  constructor
  · rintro (⟨rfl, rfl⟩ | ⟨rfl, rfl⟩ | ⟨rfl, rfl⟩) <;> simp
  · rintro ⟨rfl, rfl | rfl | rfl⟩ <;> simp
theorem mem_sdsL {F : List Tr} {s : Sd} : s ∈ sdsL F ↔ s.1 ∈ F ∧ (s.2 = 0 ∨ s.2 = 1 ∨ s.2 = 2) := by
  simp only [sdsL, List.mem_flatMap, mem_sds]
  constructor
  · rintro ⟨t, ht, rfl, h⟩
    exact ⟨ht, h⟩
  · rintro ⟨h1, h2⟩
    exact ⟨s.1, h1, rfl, h2⟩
theorem nodup_sdsL {F : List Tr} (h : F.Nodup) : (sdsL F).Nodup := by
  induction F with
  | nil => simp [sdsL]
  | cons t F ih =>
    rw [List.nodup_cons] at h
    show (sds t ++ sdsL F).Nodup
    rw [List.nodup_append]
    refine ⟨by simp [sds], ih h.2, fun a ha b hb => ?_⟩
    rintro rfl
    have h1 := (mem_sds.mp ha).1
    have h2 := (mem_sdsL.mp hb).1
    rw [h1] at h2
    exact h.1 h2
def kindsOk (F : List Tr) : Prop := ∀ t ∈ F, t.2.2 = 0 ∨ t.2.2 = 1
theorem okS_of {F : List Tr} (h : kindsOk F) {s : Sd} (hs : s ∈ sdsL F) : okS s := by
  obtain ⟨h1, h2⟩ := mem_sdsL.mp hs
  exact ⟨h _ h1, h2⟩
theorem opp_mem {F : List Tr} {s : Sd} (h : okS s) : opp s ∈ sdsL F ↔ (opp s).1 ∈ F := by
  rw [mem_sdsL]
  exact ⟨fun z => z.1, fun z => ⟨z, (opp_ok h).2⟩⟩
def brd (F : List Tr) : List Sd := (sdsL F).filter fun s => decide ((opp s).1 ∉ F)
def tl (t : Tr) : List Int := [t.1, t.2.1, t.2.2]
def ltT (a b : Tr) : Bool := if a.1 = b.1 then (if a.2.1 = b.2.1 then decide (a.2.2 < b.2.2) else decide (a.2.1 < b.2.1)) else decide (a.1 < b.1)
theorem ltT_trans {a b c : Tr} (h : ltT a b = true) (k : ltT b c = true) : ltT a c = true := by
  obtain ⟨a1, a2, a3⟩ := a
  obtain ⟨b1, b2, b3⟩ := b
  obtain ⟨c1, c2, c3⟩ := c
  unfold ltT at *
  simp only at *
  split at h <;> split at k <;> split <;> first
    | (split at h <;> split at k <;> split <;> simp at * <;> omega)
    | (split at h <;> split <;> simp at * <;> omega)
    | (split at k <;> split <;> simp at * <;> omega)
    | (split at h <;> simp at * <;> omega)
    | (split at k <;> simp at * <;> omega)
    | (split <;> simp at * <;> omega)
    | (simp at * <;> omega)
theorem ltT_irr (a : Tr) : ltT a a = false := by simp [ltT]
def risP : List Tr → Prop
  | [] => True
  | [_] => True
  | a :: b :: r => ltT a b = true ∧ risP (b :: r)
theorem ris_first {a : Tr} : ∀ {r : List Tr}, risP (a :: r) → ∀ b ∈ r, ltT a b = true
  | [], _, b, hb => by cases hb
  | c :: r, h, b, hb => by
    rcases List.mem_cons.mp hb with rfl | hb
    · exact h.1
    · exact ltT_trans h.1 (ris_first h.2 b hb)
theorem ris_tail {a : Tr} {r : List Tr} (h : risP (a :: r)) : risP r := by
  cases r with
  | nil => trivial
  | cons b r => exact h.2
theorem ris_nodup : ∀ {F : List Tr}, risP F → F.Nodup
  | [], _ => List.nodup_nil
  | a :: r, h => by
    rw [List.nodup_cons]
    refine ⟨fun z => ?_, ris_nodup (ris_tail h)⟩
    have := ris_first h a z
    rw [ltT_irr] at this
    cases this
theorem ris_iff : ∀ {F : List Tr}, risP F ↔ ∀ (i : Nat) (a b : Tr), F[i]? = some a → F[i + 1]? = some b → ltT a b = true
  | [] => by simp [risP]
  | [a] => by simp [risP]
  | a :: b :: r => by
    unfold risP
    rw [ris_iff (F := b :: r)]
    constructor
    · rintro ⟨h1, h2⟩ i c d hc hd
      cases i with
      | zero => simp at hc hd; subst hc hd; exact h1
      | succ i => exact h2 i c d (by simpa using hc) (by simpa using hd)
    · intro h
      exact ⟨h 0 a b rfl rfl, fun i c d hc hd => h (i + 1) c d (by simpa using hc) (by simpa using hd)⟩
def flP (n : Int) (F : List Tr) : Prop := (∀ t ∈ F, isTri n t.1 t.2.1 t.2.2) ∧ risP F
theorem flP.kinds {n : Int} {F : List Tr} (h : flP n F) : kindsOk F := fun t ht => by
  obtain ⟨_, _, h⟩ := h.1 t ht
  rcases h with ⟨e, _⟩ | ⟨e, _⟩
  · exact .inl e
  · exact .inr e
theorem flP.nodup {n : Int} {F : List Tr} (h : flP n F) : F.Nodup := ris_nodup h.2
def sD (s : Sd) : Dt := .tup [tD s.1, .int s.2]
def sideD (t : Tr) (k : Int) : Dt := .tup [pD (crn t k), pD (crn t (nxt k))]
def pK (p : Pt) : E2 := .inr [.inl p.1, .inl p.2]
def mK (s : Sd) : K2 := [pK (key s).1, pK (key s).2]
def bK (s : Sd) : K2 := [.inr [.inl s.1.1, .inl s.1.2.1, .inl s.1.2.2], .inl (.inl s.2)]
theorem mK_D (s : Sd) : k2D (mK s) = .tup [pD (key s).1, pD (key s).2] := rfl
theorem bK_inj {s t : Sd} (h : bK s = bK t) : s = t := by
  obtain ⟨⟨a, b, c⟩, k⟩ := s
  obtain ⟨⟨a', b', c'⟩, k'⟩ := t
  simp [bK] at h
  obtain ⟨⟨rfl, rfl, rfl⟩, rfl⟩ := h
  rfl
theorem mK_inj {s t : Sd} (h : mK s = mK t) : key s = key t := by
  unfold mK pK at h
  simp at h
  obtain ⟨⟨h1, h2⟩, h3, h4⟩ := h
  exact Prod.ext (Prod.ext h1 h2) (Prod.ext h3 h4)
theorem bK_eq {s t : Sd} : bK s = bK t ↔ s = t := ⟨bK_inj, fun e => by rw [e]⟩
theorem mK_eq {s t : Sd} (hs : okS s) (ht : okS t) : mK s = mK t ↔ t = s ∨ t = opp s := by
  constructor
  · intro h; exact key_inj hs ht (mK_inj h)
  · rintro (rfl | rfl)
    · rfl
    · unfold mK; rw [key_opp hs]
theorem neq_lt (c d : Int) : (!decide (c = d) && decide (c < d)) = decide (c < d) := by
  rw [Bool.eq_iff_iff]
  simp
  omega
theorem lex_tl (a b : Tr) : lexLt (tl a) (tl b) = ltT a b := by
  simp [lexLt, tl, ltT, neq_lt]
theorem lex_pt (p q : Pt) : lexLt [p.1, p.2] [q.1, q.2] = ltP p q := by
  simp [lexLt, ltP, neq_lt]
theorem cornersP_crn (t : Tr) : cornersP t.1 t.2.1 t.2.2 = [crn t 0, crn t 1, crn t 2] := by
  unfold cornersP crn
  split <;> simp
theorem has_sd {K : PySem.W.Frag} {H : Hp} {v : V} {s : Sd} (h : Has K H v (sD s)) : ∃ q p, v = .ref q ∧ SqT K H q [.ref p, .int s.2] ∧ Has K H (.ref p) (tD s.1) := by
  obtain ⟨q, xs, e, hq, hl⟩ := has_tup h
  cases hl with
  | cons h1 t =>
    cases t with
    | cons h2 t =>
      cases t
      obtain ⟨p, rfl, _⟩ := has_tr h1
      cases h2
      exact ⟨q, p, e, hq, h1⟩
theorem D2At.stay {P : Program} {w : World} {K : PySem.W.Frag} {H : Hp} {a : Addr} {kvs : List DE} {o : HO} (D : D2At P w K H a kvs) {v : V} {d : Dt} (h : Has K H v d) : Has K (upd H a o) v d := by
  have z := D.elsewhere h
  rw [← less_upd (H := H) (l := a) (o := o)] at z
  exact z.same (less_same _ _)
theorem D2At.other {P : Program} {w : World} {K : PySem.W.Frag} {H : Hp} {a b : Addr} {kvs kvb : List DE} {o : HO} (D : D2At P w K H a kvs) (B : D2At P w K H b kvb) (ne : b ≠ a) : D2At P w K (upd H a o) b kvb := by
  refine ⟨by rw [upd_ne ne]; exact B.at_, fun e he => ?_, B.nd⟩
  have z := B.keys e he
  have ha : less H b a = some (d2Obj P w a kvs) := by unfold less; rw [if_neg ne.symm]; exact D.at_
  have z2 : Has K (less (less H b) a) _ _ := Has.less (fun xs e => by rw [ha] at e; cases e) (fun xs e => by rw [ha] at e; cases e) (fun o u e => by rw [ha] at e; cases e) z
  refine z2.same fun c u hc => ?_
  unfold less at hc ⊢
  split at hc
  · cases hc
  · rename_i n1
    split at hc
    · cases hc
    · rename_i n2
      rw [if_neg n2, upd_ne n1]; exact hc
end L2
set_option Elab.async false
set_option linter.all false
set_option maxRecDepth 100000
set_option maxHeartbeats 4000000
namespace L2
open PySem PySem.Spec PyProof.Rows
structure Two (P : Program) (w : World) (K : PySem.W.Frag) (H H1 : Hp) (am ab : Addr) (mk bk : List DE) : Prop where
  same : L2.Same H H1
  ma : H am = none
  ba : H ab = none
  ne : ab ≠ am
  mD : D2At P w K H1 am mk
  bD : D2At P w K H1 ab bk
section
variable {P : Program} {w : World} {K : PySem.W.Frag} {H H1 H2 : Hp} {am ab : Addr} {mk bk : List DE}
theorem Two.later (t : Two P w K H H1 am ab mk bk) (e : L2.Same H1 H2) : Two P w K H H2 am ab mk bk := ⟨t.same.trans e, t.ma, t.ba, t.ne, t.mD.same e, t.bD.same e⟩
theorem Two.putB (t : Two P w K H H1 am ab mk bk) {k : K2} {p : Addr} {v : V} (hp : Has K H1 (.ref p) (k2D k)) : Two P w K H (upd H1 ab (d2Obj P w ab (put bk k p v))) am ab mk (put bk k p v) :=
  ⟨same_upd_new t.same t.ba, t.ma, t.ba, t.ne, t.bD.other t.mD t.ne.symm, t.bD.put (t.bD.elsewhere hp)⟩
theorem Two.putM (t : Two P w K H H1 am ab mk bk) {k : K2} {p : Addr} {v : V} (hp : Has K H1 (.ref p) (k2D k)) : Two P w K H (upd H1 am (d2Obj P w am (put mk k p v))) am ab (put mk k p v) bk :=
  ⟨same_upd_new t.same t.ma, t.ma, t.ba, t.ne, t.mD.put (t.mD.elsewhere hp), t.mD.other t.bD t.ne⟩
end
structure Acr (P : Program) (w : World) (K : PySem.W.Frag) (H H1 : Hp) (am ab : Addr) (mk bk : List DE) (dn : List Sd) : Prop where
  two : Two P w K H H1 am ab mk bk
  met : ∀ s, okS s → s ∉ dn → (opp s ∈ dn → ∃ v, look mk (mK s) = some v ∧ Has K H1 v (sD (opp s))) ∧ (opp s ∉ dn → look mk (mK s) = none)
  keys : bk.map (·.1) = dn.map bK
  vals : ∀ s ∈ dn, ∃ v, look bk (bK s) = some v ∧ (opp s ∈ dn → Has K H1 v (sD (opp s))) ∧ (opp s ∉ dn → v = .non)
  mlen : mk.length ≤ dn.length
section
variable {P : Program} {w : World} {K : PySem.W.Frag} {H H1 H2 : Hp} {am ab : Addr} {mk bk : List DE} {dn : List Sd}
theorem Acr.later (a : Acr P w K H H1 am ab mk bk dn) (e : L2.Same H1 H2) : Acr P w K H H2 am ab mk bk dn := by
  refine ⟨a.two.later e, fun s h1 h2 => ⟨fun h3 => ?_, (a.met s h1 h2).2⟩, a.keys, fun s hs => ?_, a.mlen⟩
  · obtain ⟨v, l, h⟩ := (a.met s h1 h2).1 h3
    exact ⟨v, l, h.same e⟩
  · obtain ⟨v, l, h3, h4⟩ := a.vals s hs
    exact ⟨v, l, fun z => (h3 z).same e, h4⟩
theorem bK_mem {s : Sd} : ∀ {dn : List Sd}, bK s ∈ dn.map bK ↔ s ∈ dn
  | [] => by simp
  | t :: dn => by
    rw [List.map_cons, List.mem_cons, List.mem_cons, bK_mem, bK_eq]
theorem Acr.noOpp {H' : Hp} {s : Sd} {p pm : Addr} {q : V} (a : Acr P w K H H1 am ab mk bk dn) (ok : okS s) (okd : ∀ t ∈ dn, okS t) (new : s ∉ dn) (no : opp s ∉ dn)
    (t : Two P w K H H' am ab (put mk (mK s) pm q) (put bk (bK s) p .non)) (hs : ∀ v d, Has K H1 v d → Has K H' v d) (hq : Has K H' q (sD s)) : Acr P w K H H' am ab (put mk (mK s) pm q) (put bk (bK s) p .non) (dn ++ [s]) := by
  have lb : look bk (bK s) = Option.none := by
    cases e : look bk (bK s) with
    | none => rfl
    | some v =>
      have : bK s ∈ bk.map (·.1) := look_mem.mp (by rw [e]; rfl)
      rw [a.keys, bK_mem] at this
      exact absurd this new
  refine ⟨t, fun u hu hn => ?_, ?_, fun u hu => ?_, ?_⟩
  · rw [List.mem_append, not_or] at hn
    obtain ⟨n1, n2⟩ := hn
    have n2' : u ≠ s := by simpa using n2
    rw [look_put]
    by_cases e : mK u = mK s
    · rw [if_pos e]
      have e2 : u = opp s := by
        rcases (mK_eq ok hu).mp e.symm with z | z
        · exact absurd z n2'
        · exact z
      subst e2
      refine ⟨fun _ => ⟨q, rfl, by rw [opp_opp ok]; exact hq⟩, fun z => absurd ?_ z⟩
      rw [opp_opp ok]; simp
    · rw [if_neg e]
      have e3 : opp u ≠ s := fun z => e (by rw [← z]; exact ((mK_eq hu (opp_ok hu)).mpr (.inr rfl)))
      obtain ⟨m1, m2⟩ := a.met u hu n1
      refine ⟨fun z => ?_, fun z => m2 fun y => z (List.mem_append_left _ y)⟩
      rcases List.mem_append.mp z with y | y
      · obtain ⟨v, l, h⟩ := m1 y
        exact ⟨v, l, hs _ _ h⟩
      · exact absurd (by simpa using y) e3
  · rw [keys_put, lb]
    simp [a.keys]
  · rw [look_put]
    rcases List.mem_append.mp hu with hu' | hu'
    · have ne : u ≠ s := fun z => new (z ▸ hu')
      rw [if_neg (fun z => ne (bK_inj z))]
      obtain ⟨v, l, h1, h2⟩ := a.vals u hu'
      refine ⟨v, l, fun z => ?_, fun z => h2 fun y => z (List.mem_append_left _ y)⟩
      rcases List.mem_append.mp z with y | y
      · exact hs _ _ (h1 y)
      · have : opp u = s := by simpa using y
        exact absurd (by rw [← this, opp_opp (okd u hu')]; exact hu') no
    · have e : u = s := by simpa using hu'
      subst e
      rw [if_pos rfl]
      refine ⟨_, rfl, fun z => ?_, fun _ => rfl⟩
      rcases List.mem_append.mp z with y | y
      · exact absurd y no
      · exact absurd (by simpa using y) (opp_ne ok)
  · have := len_put mk (mK s) pm q
    have := a.mlen
    rw [List.length_append]
    simp only [List.length_cons, List.length_nil]
    omega
theorem Acr.withOpp {H' : Hp} {s : Sd} {p pm po : Addr} {v q r : V} (a : Acr P w K H H1 am ab mk bk dn) (ok : okS s) (okd : ∀ t ∈ dn, okS t) (new : s ∉ dn) (yes : opp s ∈ dn)
    (t : Two P w K H H' am ab (put mk (mK s) pm q) (put (put bk (bK s) p v) (bK (opp s)) po r)) (hs : ∀ v d, Has K H1 v d → Has K H' v d) (hq : Has K H' q (sD s)) (hr : Has K H' r (sD s)) (hv : Has K H' v (sD (opp s))) : Acr P w K H H' am ab (put mk (mK s) pm q) (put (put bk (bK s) p v) (bK (opp s)) po r) (dn ++ [s]) := by
  have lb : look bk (bK s) = Option.none := by
    cases e : look bk (bK s) with
    | none => rfl
    | some v =>
      have : bK s ∈ bk.map (·.1) := look_mem.mp (by rw [e]; rfl)
      rw [a.keys, bK_mem] at this
      exact absurd this new
  have on : bK (opp s) ≠ bK s := fun z => opp_ne ok (bK_inj z)
  refine ⟨t, fun u hu hn => ?_, ?_, fun u hu => ?_, ?_⟩
  · rw [List.mem_append, not_or] at hn
    obtain ⟨n1, n2⟩ := hn
    have n2' : u ≠ s := by simpa using n2
    have n3 : u ≠ opp s := fun z => n1 (z ▸ yes)
    have e : mK u ≠ mK s := fun z => by
      rcases (mK_eq ok hu).mp z.symm with y | y
      · exact n2' y
      · exact n3 y
    rw [look_put, if_neg e]
    have e3 : opp u ≠ s := fun z => n3 (by rw [← z, opp_opp hu])
    obtain ⟨m1, m2⟩ := a.met u hu n1
    refine ⟨fun z => ?_, fun z => m2 fun y => z (List.mem_append_left _ y)⟩
    rcases List.mem_append.mp z with y | y
    · obtain ⟨v, l, h⟩ := m1 y
      exact ⟨v, l, hs _ _ h⟩
    · exact absurd (by simpa using y) e3
  · have lo : (look (put bk (bK s) p v) (bK (opp s))).isSome = true := by
      rw [look_put, if_neg on]
      obtain ⟨v', l, _⟩ := a.vals (opp s) yes
      rw [l]; rfl
    rw [keys_put, if_pos lo, keys_put, lb]
    simp [a.keys]
  · rw [look_put, look_put]
    by_cases eo : u = opp s
    · subst eo
      rw [if_pos rfl]
      refine ⟨_, rfl, fun _ => by rw [opp_opp ok]; exact hr, fun z => absurd ?_ z⟩
      rw [opp_opp ok]; simp
    · rw [if_neg (fun z => eo (bK_inj z))]
      rcases List.mem_append.mp hu with hu' | hu'
      · have ne : u ≠ s := fun z => new (z ▸ hu')
        rw [if_neg (fun z => ne (bK_inj z))]
        obtain ⟨v', l, h1, h2⟩ := a.vals u hu'
        refine ⟨v', l, fun z => ?_, fun z => h2 fun y => z (List.mem_append_left _ y)⟩
        rcases List.mem_append.mp z with y | y
        · exact hs _ _ (h1 y)
        · have : opp u = s := by simpa using y
          exact absurd (by rw [← this, opp_opp (okd u hu')]) eo
      · have e : u = s := by simpa using hu'
        subst e
        rw [if_pos rfl]
        exact ⟨_, rfl, fun _ => hv, fun z => absurd (List.mem_append_left _ yes) z⟩
  · have := len_put mk (mK s) pm q
    have := a.mlen
    rw [List.length_append]
    simp only [List.length_cons, List.length_nil]
    omega
end
end L2
set_option Elab.async false
set_option linter.all false
set_option maxRecDepth 100000
set_option maxHeartbeats 4000000
namespace L2
open PySem PySem.Spec PyProof.Rows
def turnI (a b : Int) : Int := if a = 0 ∧ b = 1 then 1 else if a = 1 ∧ b = 0 then -1 else 0
theorem turn_neg (a b : Int) : turnI b a = - turnI a b := by
  unfold turnI
  by_cases h1 : a = 0 ∧ b = 1
  · obtain ⟨rfl, rfl⟩ := h1; decide
  · by_cases h2 : a = 1 ∧ b = 0
    · obtain ⟨rfl, rfl⟩ := h2; decide
    · rw [if_neg h1, if_neg h2, if_neg (fun z => h2 ⟨z.2, z.1⟩), if_neg (fun z => h1 ⟨z.2, z.1⟩)]; rfl
def tnS (rs : List (List Int)) (s : Sd) : Int := turnI (mkAt rs (crn s.1 s.2).1 (crn s.1 s.2).2) (mkAt rs (crn s.1 (nxt s.2)).1 (crn s.1 (nxt s.2)).2)
def snT (rs : List (List Int)) (t : Tr) : Int := senseT rs t.1 t.2.1 t.2.2
theorem tn_opp {rs : List (List Int)} {s : Sd} (h : okS s) : tnS rs (opp s) = - tnS rs s := by
  obtain ⟨e1, e2⟩ := crn_opp h
  unfold tnS
  rw [e1, e2]
  exact turn_neg _ _
theorem sense_turns {a b c : Int} (ha : 0 ≤ a ∧ a ≤ 2) (hb : 0 ≤ b ∧ b ≤ 2) (hc : 0 ≤ c ∧ c ≤ 2) : sense3 a b c = turnI a b + turnI b c + turnI c a := by
  rcases tri3 ha with rfl | rfl | rfl <;> rcases tri3 hb with rfl | rfl | rfl <;> rcases tri3 hc with rfl | rfl | rfl <;> decide
theorem perm_of {α : Type} [DecidableEq α] : ∀ {l m : List α}, l.Nodup → m.Nodup → (∀ a, a ∈ l ↔ a ∈ m) → l.Perm m
  | [], m, _, _, h => by
    cases m with
    | nil => exact .nil
    | cons a m => exact absurd ((h a).mpr List.mem_cons_self) (by simp)
  | a :: l, m, hl, hm, h => by
    have ha : a ∈ m := (h a).mp List.mem_cons_self
    rw [List.nodup_cons] at hl
    have p := List.perm_cons_erase ha
    refine (List.Perm.cons a (perm_of hl.2 (hm.erase a) fun b => ?_)).trans p.symm
    constructor
    · intro hb
      have nb : b ≠ a := fun z => hl.1 (z ▸ hb)
      exact (List.mem_erase_of_ne nb).mpr ((h b).mp (List.mem_cons_of_mem _ hb))
    · intro hb
      have nb : b ≠ a := fun z => by subst z; exact (List.Nodup.mem_erase_iff hm).mp hb |>.1 rfl
      rcases List.mem_cons.mp ((h b).mpr (List.mem_of_mem_erase hb)) with z | z
      · exact absurd z nb
      · exact z
theorem sum_perm {l m : List Int} (h : l.Perm m) : l.sum = m.sum := by
  induction h with
  | nil => rfl
  | cons a _ ih => simp [ih]
  | swap a b l => simp; omega
  | trans _ _ h1 h2 => exact h1.trans h2
theorem map_nodup {α β : Type} {f : α → β} : ∀ {l : List α}, l.Nodup → (∀ a ∈ l, ∀ b ∈ l, f a = f b → a = b) → (l.map f).Nodup
  | [], _, _ => by simp
  | a :: l, h, k => by
    rw [List.nodup_cons] at h
    rw [List.map_cons, List.nodup_cons]
    refine ⟨fun z => ?_, map_nodup h.2 fun b hb c hc => k b (List.mem_cons_of_mem _ hb) c (List.mem_cons_of_mem _ hc)⟩
    obtain ⟨b, hb, e⟩ := List.mem_map.mp z
    have := k b (List.mem_cons_of_mem _ hb) a List.mem_cons_self e
    subst this
    exact h.1 hb
theorem filter_take_succ {α : Type} (p : α → Bool) {l : List α} {i : Nat} {a : α} (h : l[i]? = some a) : (l.take (i + 1)).filter p = (l.take i).filter p ++ if p a = true then [a] else [] := by
  rw [List.take_add_one, h, List.filter_append]
  cases c : p a <;> simp [c]
end L2
set_option Elab.async false
set_option linter.all false
set_option maxRecDepth 100000
set_option maxHeartbeats 4000000
namespace L2
open PySem PySem.Spec PyProof.Rows
theorem ris_pair : ∀ {F : List Tr}, risP F ↔ F.Pairwise fun a b => ltT a b = true
  | [] => by simp [risP]
  | a :: r => by
    rw [List.pairwise_cons, ← ris_pair]
    constructor
    · intro h
      exact ⟨ris_first h, ris_tail h⟩
    · rintro ⟨h1, h2⟩
      cases r with
      | nil => trivial
      | cons b r => exact ⟨h1 b List.mem_cons_self, h2⟩
theorem tris_ris : ∀ n : Nat, n ≤ 12 → (tris n).Pairwise fun a b => ltT a b = true := by decide +kernel
theorem fl_sub {n : Nat} (hn : n ≤ 12) {F : List Tr} (h : F.Sublist (tris n)) : flP n F ∧ F.length ≤ 300 := by
  refine ⟨⟨fun t ht => ?_, ris_pair.mpr ((tris_ris n hn).sublist h)⟩, Nat.le_trans h.length_le (tris_len n hn)⟩
  obtain ⟨x, y, k⟩ := t
  exact mem_tris.mp (h.subset ht)
theorem comp_enum {K : PySem.W.Frag} {a : Addr} {xs : List V} {g : TG} {tt : TT} {te : TE} {Q : VK} {σc : St} {H : Hp} (Pv : Nat → List V → St → Hp → Prop) (h0 : Pv 0 [] σc H) (hz : xs.length ≤ sizeLine) (hl : ∀ i ys σ H, i ≤ xs.length → Pv i ys σ H → SqL K H a xs) (hy : ∀ i ys σ H, Pv i ys σ H → ys.length ≤ i)
    (hs : ∀ i x ys σ H p, xs[i]? = some x → Pv i ys σ H → H p = none → g (.ref p) σ (upd H p (.tup [.int i, x])) fun σ2 H2 => tt σ2 H2 fun b H3 => if b = true then te σ2 H3 fun y H4 => Pv (i + 1) (ys ++ [y]) σ2 H4 else Pv (i + 1) ys σ2 H3)
    (hd : ∀ ys σ H, Pv xs.length ys σ H → ∀ p, H p = none → Q (.ref p) (upd H p (.lst ys))) :
    tCompW g tt te (Ite K a) σc H Q := by
  refine ⟨fun i m ys σ H => m = xs.length - i ∧ i ≤ xs.length ∧ Pv i ys σ H, ⟨xs.length, by simp, Nat.zero_le _, h0⟩, ?_⟩
  rintro i m ys σ H ⟨rfl, hi, p⟩
  have q := hl i ys σ H hi p
  by_cases hlt : i < xs.length
  · refine .inr ⟨⟨xs, xs[i], q, by simp [hlt]⟩, Nat.lt_of_le_of_lt (hy i ys σ H p) (Nat.lt_of_lt_of_le hlt hz), Pv (i + 1), fun ys' σ' H' p' => ⟨xs.length - (i + 1), by omega, rfl, hlt, p'⟩, fun x H' y => ?_⟩
    obtain ⟨b, e, hb, hx, rfl, rfl⟩ := y
    exact hs i e ys σ H b (hx xs q) p hb
  · have e : i = xs.length := by omega
    subst e
    exact .inl ⟨⟨xs, q, Nat.le_refl _⟩, hd ys σ H p⟩
def cnt (dn : List Sd) (s : Sd) : Int := (if s ∈ dn then 1 else 0) + if opp s ∈ dn then 1 else 0
theorem cnt_nn (dn : List Sd) (s : Sd) : 0 ≤ cnt dn s := by unfold cnt; split <;> split <;> omega
theorem cnt_same {dn : List Sd} {s u : Sd} (hs : okS s) (hu : okS u) (h : mK u = mK s) : cnt dn u = cnt dn s := by
  rcases (mK_eq hs hu).mp h.symm with rfl | rfl
  · rfl
  · unfold cnt
    rw [opp_opp hs]
    omega
theorem cnt_add {dn : List Sd} {s u : Sd} (hs : okS s) (hu : okS u) (new : s ∉ dn) : cnt (dn ++ [s]) u = cnt dn u + if mK u = mK s then 1 else 0 := by
  by_cases e : mK u = mK s
  · rw [if_pos e]
    rcases (mK_eq hs hu).mp e.symm with rfl | rfl
    · unfold cnt
      have h1 : u ∈ dn ++ [u] := by simp
      have h2 : opp u ∈ dn ++ [u] ↔ opp u ∈ dn := by simp [opp_ne hu]
      rw [if_pos h1, if_neg new]
      by_cases h : opp u ∈ dn
      · rw [if_pos (h2.mpr h), if_pos h]; omega
      · rw [if_neg (fun z => h (h2.mp z)), if_neg h]; omega
    · unfold cnt
      rw [opp_opp hs]
      have h1 : s ∈ dn ++ [s] := by simp
      have h2 : opp s ∈ dn ++ [s] ↔ opp s ∈ dn := by simp [opp_ne hs]
      rw [if_pos h1, if_neg new]
      by_cases h : opp s ∈ dn
      · rw [if_pos (h2.mpr h), if_pos h]; omega
      · rw [if_neg (fun z => h (h2.mp z)), if_neg h]; omega
  · rw [if_neg e]
    have n1 : u ≠ s := fun z => e (by rw [z])
    have n2 : opp u ≠ s := fun z => e (by rw [← z]; exact (mK_eq hu (opp_ok hu)).mpr (.inr rfl))
    unfold cnt
    have h1 : u ∈ dn ++ [s] ↔ u ∈ dn := by simp [n1]
    have h2 : opp u ∈ dn ++ [s] ↔ opp u ∈ dn := by simp [n2]
    simp only [h1, h2]
    omega
def cntOk (kvs : List DE) (dn : List Sd) : Prop := ∀ s, okS s → look kvs (mK s) = if cnt dn s = 0 then none else some (.int (cnt dn s))
theorem cntOk.get {kvs : List DE} {dn : List Sd} (h : cntOk kvs dn) {s : Sd} (hs : okS s) : (look kvs (mK s)).getD (.int 0) = .int (cnt dn s) := by
  rw [h s hs]
  split
  · rename_i e; rw [e]; rfl
  · rfl
theorem cntOk.put {kvs : List DE} {dn : List Sd} (h : cntOk kvs dn) {s : Sd} (hs : okS s) (new : s ∉ dn) (p : Addr) : cntOk (put kvs (mK s) p (.int (cnt dn s + 1))) (dn ++ [s]) := fun u hu => by
  rw [look_put, cnt_add hs hu new]
  by_cases e : mK u = mK s
  · rw [if_pos e, if_pos e, cnt_same hs hu e]
    have := cnt_nn dn s
    rw [if_neg (by omega)]
  · rw [if_neg e, if_neg e, h u hu]
    simp
end L2
namespace L2
end L2
set_option Elab.async false
set_option linter.all false
set_option maxRecDepth 100000
set_option maxHeartbeats 4000000
namespace L2
open PySem PySem.Spec PyProof.Rows
theorem HasL.set {K : PySem.W.Frag} {H : Hp} : ∀ {xs : List V} {ds : List Dt} {i : Nat} {x : V} {d : Dt}, HasL K H xs ds → Has K H x d → HasL K H (xs.set i x) (ds.set i d)
  | _, _, _, _, _, .nil, _ => .nil
  | _, _, 0, _, _, .cons _ t, h => .cons h t
  | _, _, i + 1, _, _, .cons g t, h => .cons g (HasL.set t h)
end L2
set_option Elab.async false
set_option linter.all false
set_option maxRecDepth 100000
set_option maxHeartbeats 4000000
namespace L2
open PySem PySem.Spec PyProof.Rows
section
variable {X : Cx}
end
end L2
namespace L2
open PySem PySem.Spec PyProof.Rows
def SameN (H H' : Hp) : Prop := ∀ b o, H b = some o → (∀ xs, o ≠ .lst xs) → (∀ u xs, o ≠ .frz u (.lst xs)) → H' b = some o
theorem SameN.trans {H H1 H2 : Hp} (a : SameN H H1) (b : SameN H1 H2) : SameN H H2 := fun c o h n m => b c o (a c o h n m) n m
theorem SameN.of {H H' : Hp} (e : L2.Same H H') : SameN H H' := fun b o h _ _ => e b o h
theorem SameN.refl (H : Hp) : SameN H H := fun _ _ h _ _ => h
theorem SameN.upd {H : Hp} {l : Addr} {xs ys : List V} (h : H l = some (.lst xs)) : SameN H (upd H l (.lst ys)) := fun b o e n _ => by
  have : b ≠ l := fun z => by subst z; rw [h] at e; cases e; exact n xs rfl
  rw [upd_ne this]; exact e
theorem SameN.less {H : Hp} {l : Addr} {xs : List V} (h : H l = some (.lst xs)) : SameN H (less H l) := fun b o e n _ => by
  have : b ≠ l := fun z => by subst z; rw [h] at e; cases e; exact n xs rfl
  unfold L2.less
  rw [if_neg this]; exact e
mutual
def onlyT : Dt → Bool
  | .lst _ => false
  | .tup l => onlyTs l
  | _ => true
def onlyTs : List Dt → Bool
  | [] => true
  | d :: r => onlyT d && onlyTs r
end
mutual
theorem Has.tups {K : PySem.W.Frag} {H H' : Hp} (e : SameN H H') : ∀ {v : V} {d : Dt}, onlyT d = true → Has K H v d → Has K H' v d
  | _, _, _, .non => .non
  | _, _, _, .bl b => .bl b
  | _, _, _, .int i => .int i
  | _, _, _, .str x => .str x
  | _, _, o, .tup q t => by
    rw [onlyT] at o
    refine .tup ?_ (HasL.tups e o t)
    rcases q with (q | ⟨u, q⟩) | q
    · exact .inl (.inl (e _ _ q (fun _ z => by cases z) (fun _ _ z => by cases z)))
    · exact .inl (.inr ⟨u, e _ _ q (fun _ z => by cases z) (fun _ _ z => by cases z)⟩)
    · exact .inr q
  | _, _, o, .lst q t => by rw [onlyT] at o; cases o
theorem HasL.tups {K : PySem.W.Frag} {H H' : Hp} (e : SameN H H') : ∀ {vs : List V} {ds : List Dt}, onlyTs ds = true → HasL K H vs ds → HasL K H' vs ds
  | _, _, _, .nil => .nil
  | _, _, o, .cons q t => by
    rw [onlyTs, Bool.and_eq_true] at o
    exact .cons (Has.tups e o.1 q) (HasL.tups e o.2 t)
end
theorem onlyT_tD (t : Tr) : onlyT (tD t) = true := by simp [tD, onlyT, onlyTs]
theorem onlyTs_map {α : Type} {f : α → Dt} (h : ∀ a, onlyT (f a) = true) : ∀ l : List α, onlyTs (l.map f) = true
  | [] => rfl
  | a :: l => by rw [List.map_cons, onlyTs, h a, onlyTs_map h l]; rfl
theorem NewL.ext {K : PySem.W.Frag} {H H1 : Hp} {v : V} {l : Addr} {xs zs : List V} {ds es : List Dt} (h : NewL K H H1 v l xs ds) (hx : HasL K (L2.less H1 l) zs es) : NewL K H (upd H1 l (.lst (xs ++ zs))) v l (xs ++ zs) (ds ++ es) :=
  ⟨h.ev, h.new, fun b o e => by rw [upd_ne (ne_of_none e h.new)]; exact h.same _ _ e, upd_same, by rw [less_upd]; exact h.has.append hx⟩
end L2
set_option Elab.async false
set_option linter.all false
set_option maxRecDepth 100000
set_option maxHeartbeats 4000000
namespace L2
open PySem PySem.Spec PyProof.Rows
inductive En where
  | wh (t : Tr) | dr (s : Sd)
  deriving DecidableEq
def eD : En → Dt
  | .wh t => .tup [.str "whole", tD t]
  | .dr s => .tup [.str "door", tD s.1, .int s.2]
def enB (rs : List (List Int)) (F : List Tr) : En → Bool
  | .wh t => decide (t ∈ F) && decide (snT rs t ≠ 0)
  | .dr s => decide (s ∈ sdsL F) && decide ((opp s).1 ∉ F) && decide (tnS rs s ≠ 0)
def asks (t : Tr) : List En := [.wh t, .dr (t, 0), .dr (t, 1), .dr (t, 2)]
def endsP (rs : List (List Int)) (F : List Tr) : List En := F.flatMap fun t => (asks t).filter (enB rs F)
def drs (rs : List (List Int)) (t : Tr) : List Int := [0, 1, 2].filter fun k => decide (tnS rs (t, k) ≠ 0)
theorem str_wd : ¬ (("door" : Str) = "whole") := by decide +kernel
theorem eqD_eD {a b : En} : eqD (eD a) (eD b) = true ↔ a = b := by
  have wd : (("whole" : Str) == "door") = false := by decide +kernel
  have dw : (("door" : Str) == "whole") = false := by decide +kernel
  cases a with
  | wh t => cases b with
    | wh u => simp [eD, eqD, eqDs, tD, Prod.ext_iff]
    | dr s => simp [eD, eqD, eqDs, tD, wd]
  | dr s => cases b with
    | wh u => simp [eD, eqD, eqDs, tD, dw]
    | dr u =>
      obtain ⟨⟨a, b, c⟩, k⟩ := s
      obtain ⟨⟨a', b', c'⟩, k'⟩ := u
      simp [eD, eqD, eqDs, tD]
theorem dep_eD (e : En) : dep (eD e) ≤ 2 := by cases e <;> simp [eD, tD, dep, depL]
theorem depL_ens (l : List En) : depL (l.map eD) ≤ 2 := depL_le fun d hd => by
  obtain ⟨t, _, rfl⟩ := List.mem_map.mp hd
  exact dep_eD t
theorem onlyT_eD (e : En) : onlyT (eD e) = true := by cases e <;> simp [eD, tD, onlyT, onlyTs]
structure Bey (P : Program) (w : World) (K : PySem.W.Frag) (H : Hp) (ab : Addr) (bk : List DE) (F : List Tr) : Prop where
  at_ : D2At P w K H ab bk
  keys : bk.map (·.1) = (sdsL F).map bK
  vals : ∀ s ∈ sdsL F, ∃ v, look bk (bK s) = some v ∧ (opp s ∈ sdsL F → Has K H v (sD (opp s))) ∧ (opp s ∉ sdsL F → v = .non)
theorem Bey.same {P : Program} {w : World} {K : PySem.W.Frag} {H H' : Hp} {ab : Addr} {bk : List DE} {F : List Tr} (e : L2.Same H H') (b : Bey P w K H ab bk F) : Bey P w K H' ab bk F := by
  refine ⟨b.at_.same e, b.keys, fun s hs => ?_⟩
  obtain ⟨v, l, h1, h2⟩ := b.vals s hs
  exact ⟨v, l, fun z => (h1 z).same e, h2⟩
theorem Acr.bey {P : Program} {w : World} {K : PySem.W.Frag} {H H1 : Hp} {am ab : Addr} {mk bk : List DE} {F : List Tr} (a : Acr P w K H H1 am ab mk bk (sdsL F)) : Bey P w K H1 ab bk F := ⟨a.two.bD, a.keys, a.vals⟩
theorem Bey.mem {P : Program} {w : World} {K : PySem.W.Frag} {H : Hp} {ab : Addr} {bk : List DE} {F : List Tr} (b : Bey P w K H ab bk F) (s : Sd) : (look bk (bK s)).isSome = decide (s ∈ sdsL F) := by
  rw [Bool.eq_iff_iff, look_mem, b.keys, bK_mem]
  simp
theorem mem_t0 {F : List Tr} {t : Tr} : (t, 0) ∈ sdsL F ↔ t ∈ F := by
  rw [mem_sdsL]
  simp
end L2
namespace L2
theorem any_ens {l : List En} {e : En} : ((l.map eD).any fun d => eqD d (eD e)) = true ↔ e ∈ l := by
  rw [List.any_eq_true]
  constructor
  · rintro ⟨d, hd, e⟩
    obtain ⟨u, hu, rfl⟩ := List.mem_map.mp hd
    rw [← eqD_eD.mp e]; exact hu
  · intro h
    exact ⟨eD e, List.mem_map_of_mem h, eqD_refl _⟩
theorem mem_brd {F : List Tr} {s : Sd} : s ∈ brd F ↔ s ∈ sdsL F ∧ (opp s).1 ∉ F := by
  unfold brd
  rw [List.mem_filter]
  simp
theorem enB_dr {rs : List (List Int)} {F : List Tr} {s : Sd} : enB rs F (.dr s) = true ↔ s ∈ brd F ∧ tnS rs s ≠ 0 := by
  rw [mem_brd]
  show (decide (s ∈ sdsL F) && decide ((opp s).1 ∉ F) && decide (tnS rs s ≠ 0)) = true ↔ _
  simp
theorem enB_wh {rs : List (List Int)} {F : List Tr} {t : Tr} : enB rs F (.wh t) = true ↔ t ∈ F ∧ snT rs t ≠ 0 := by
  show (decide (t ∈ F) && decide (snT rs t ≠ 0)) = true ↔ _
  simp
end L2
set_option Elab.async false
set_option linter.all false
set_option maxRecDepth 100000
set_option maxHeartbeats 4000000
namespace L2
open PySem PySem.Spec PyProof.Rows
def lf (x y z c : Int) : List Int := (([(0, x), (1, y), (2, z)] : List (Int × Int)).filter fun p => decide (p.1 ≠ c) && decide (p.2 ≠ 0)).map (·.1)
def lft (rs : List (List Int)) (t : Tr) (c : Int) : List Int := lf (tnS rs (t, 0)) (tnS rs (t, 1)) (tnS rs (t, 2)) c
theorem lf_of (f : Int → Int) (c : Int) : lf (f 0) (f 1) (f 2) c = ([0, 1, 2] : List Int).filter fun k => decide (k ≠ c) && decide (f k ≠ 0) := by
  show (((([0, 1, 2] : List Int).map fun k => (k, f k)).filter fun p => decide (p.1 ≠ c) && decide (p.2 ≠ 0)).map (·.1)) = _
  rw [List.filter_map, List.map_map]
  show List.map (fun k => k) _ = _
  rw [List.map_id']
  rfl
theorem lft_eq (rs : List (List Int)) (t : Tr) (c : Int) : lft rs t c = ([0, 1, 2] : List Int).filter fun k => decide (k ≠ c) && decide (tnS rs (t, k) ≠ 0) := lf_of (fun k => tnS rs (t, k)) c
theorem lft_drs (rs : List (List Int)) (t : Tr) (c : Int) : (drs rs t).filter (fun k => decide (k ≠ c)) = lft rs t c := by
  rw [lft_eq]
  exact List.filter_filter
def trips : List (Int × Int × Int) := [(0, 0, 0), (1, 0, 0), (-1, 0, 0), (0, 1, 0), (0, -1, 0), (0, 0, 1), (0, 0, -1), (1, -1, 0), (-1, 1, 0), (1, 0, -1), (-1, 0, 1), (0, 1, -1), (0, -1, 1)]
theorem trip_in : ∀ a ∈ ([0, 1, 2] : List Int), ∀ b ∈ ([0, 1, 2] : List Int), ∀ c ∈ ([0, 1, 2] : List Int), (turnI a b, turnI b c, turnI c a) ∈ trips := by decide +kernel
theorem in3 {a : Int} (h : 0 ≤ a ∧ a ≤ 2) : a ∈ ([0, 1, 2] : List Int) := by
  have : a = 0 ∨ a = 1 ∨ a = 2 := by omega
  simpa using this
def pick (p : Int × Int × Int) (c : Int) : Int := if c = 0 then p.1 else if c = 1 then p.2.1 else p.2.2
def sum3 (p : Int × Int × Int) : Int := p.1 + p.2.1 + p.2.2
theorem fin_one : ∀ p ∈ trips, ∀ c ∈ ([0, 1, 2] : List Int), ∀ k ∈ ([0, 1, 2] : List Int), pick p c = pick p k → pick p c ≠ 0 → c = k := by decide +kernel
theorem fin_end : ∀ p ∈ trips, ∀ c ∈ ([0, 1, 2] : List Int), pick p c ≠ 0 → sum3 p ≠ 0 → lf p.1 p.2.1 p.2.2 c = [] ∧ lf p.1 p.2.1 p.2.2 (-1) = [c] ∧ pick p c = sum3 p := by decide +kernel
theorem fin_two : ∀ p ∈ trips, ∀ c ∈ ([0, 1, 2] : List Int), pick p c ≠ 0 → sum3 p = 0 → ∃ k ∈ ([0, 1, 2] : List Int), lf p.1 p.2.1 p.2.2 c = [k] ∧ pick p k = - pick p c ∧ lf p.1 p.2.1 p.2.2 k = [c] := by decide +kernel
theorem fin_whole : ∀ p ∈ trips, sum3 p ≠ 0 → ∃ k ∈ ([0, 1, 2] : List Int), lf p.1 p.2.1 p.2.2 (-1) = [k] ∧ pick p k = sum3 p := by decide +kernel
theorem fin_sign : ∀ p ∈ trips, sum3 p = 0 ∨ sum3 p = 1 ∨ sum3 p = -1 := by decide +kernel
def tp (rs : List (List Int)) (t : Tr) : Int × Int × Int := (tnS rs (t, 0), tnS rs (t, 1), tnS rs (t, 2))
theorem pick_tp {rs : List (List Int)} {t : Tr} {c : Int} (h : c ∈ ([0, 1, 2] : List Int)) : pick (tp rs t) c = tnS rs (t, c) := by
  simp at h
  rcases h with rfl | rfl | rfl <;> rfl
theorem tp_in {rs : List (List Int)} {t : Tr} (g : Good rs) (it : isTri (sz rs) t.1 t.2.1 t.2.2) : tp rs t ∈ trips ∧ sum3 (tp rs t) = snT rs t := by
  have hon := (isTri_iff.mp it).2
  rw [cornersP_crn] at hon
  have h0 := (g.at (hon (crn t 0) (by simp))).choose_spec.2.2
  have h1 := (g.at (hon (crn t 1) (by simp))).choose_spec.2.2
  have h2 := (g.at (hon (crn t 2) (by simp))).choose_spec.2.2
  refine ⟨trip_in _ (in3 h0) _ (in3 h1) _ (in3 h2), ?_⟩
  unfold snT senseT
  rw [cornersP_crn]
  exact (sense_turns h0 h1 h2).symm
section
variable {rs : List (List Int)} {t : Tr} {c k : Int}
theorem one_door (g : Good rs) (it : isTri (sz rs) t.1 t.2.1 t.2.2) (hc : c ∈ ([0, 1, 2] : List Int)) (hk : k ∈ ([0, 1, 2] : List Int)) (e : tnS rs (t, c) = tnS rs (t, k)) (ne : tnS rs (t, c) ≠ 0) : c = k :=
  fin_one _ (tp_in g it).1 c hc k hk (by rw [pick_tp hc, pick_tp hk]; exact e) (by rw [pick_tp hc]; exact ne)
theorem lft_end (g : Good rs) (it : isTri (sz rs) t.1 t.2.1 t.2.2) (hc : c ∈ ([0, 1, 2] : List Int)) (ne : tnS rs (t, c) ≠ 0) (w : snT rs t ≠ 0) : lft rs t c = [] ∧ lft rs t (-1) = [c] ∧ tnS rs (t, c) = snT rs t := by
  obtain ⟨a, b⟩ := tp_in g it
  rw [← b] at w ⊢
  rw [← pick_tp (rs := rs) (t := t) hc] at ne ⊢
  exact fin_end _ a c hc ne w
theorem lft_two (g : Good rs) (it : isTri (sz rs) t.1 t.2.1 t.2.2) (hc : c ∈ ([0, 1, 2] : List Int)) (ne : tnS rs (t, c) ≠ 0) (w : snT rs t = 0) : ∃ k ∈ ([0, 1, 2] : List Int), lft rs t c = [k] ∧ tnS rs (t, k) = - tnS rs (t, c) ∧ lft rs t k = [c] := by
  obtain ⟨a, b⟩ := tp_in g it
  rw [← b] at w
  rw [← pick_tp (rs := rs) (t := t) hc] at ne ⊢
  obtain ⟨k, hk, e1, e2, e3⟩ := fin_two _ a c hc ne w
  exact ⟨k, hk, e1, by rw [← pick_tp (rs := rs) (t := t) hk]; exact e2, e3⟩
theorem lft_whole (g : Good rs) (it : isTri (sz rs) t.1 t.2.1 t.2.2) (w : snT rs t ≠ 0) : ∃ k ∈ ([0, 1, 2] : List Int), lft rs t (-1) = [k] ∧ tnS rs (t, k) = snT rs t := by
  obtain ⟨a, b⟩ := tp_in g it
  rw [← b] at w ⊢
  obtain ⟨k, hk, e1, e2⟩ := fin_whole _ a w
  exact ⟨k, hk, e1, by rw [← pick_tp (rs := rs) (t := t) hk]; exact e2⟩
end
def gn (rs : List (List Int)) (F : List Tr) : Nat → Tr → Int → List Tr × Option En
  | 0, _, _ => ([], none)
  | n + 1, t, c => match lft rs t c with
    | [] => ([t], some (.wh t))
    | k :: _ => if opp (t, k) ∈ sdsL F then (t :: (gn rs F n (opp (t, k)).1 (opp (t, k)).2).1, (gn rs F n (opp (t, k)).1 (opp (t, k)).2).2) else ([t], some (.dr (t, k)))
theorem gn_nil {rs : List (List Int)} {F : List Tr} {n : Nat} {t : Tr} {c : Int} (h : lft rs t c = []) : gn rs F (n + 1) t c = ([t], some (.wh t)) := by
  show (match lft rs t c with | [] => _ | k :: _ => _) = _
  rw [h]
theorem gn_in {rs : List (List Int)} {F : List Tr} {n : Nat} {t : Tr} {c k : Int} (h : lft rs t c = [k]) (i : opp (t, k) ∈ sdsL F) : gn rs F (n + 1) t c = (t :: (gn rs F n (opp (t, k)).1 (opp (t, k)).2).1, (gn rs F n (opp (t, k)).1 (opp (t, k)).2).2) := by
  show (match lft rs t c with | [] => _ | k :: _ => _) = _
  rw [h]
  exact if_pos i
theorem gn_out {rs : List (List Int)} {F : List Tr} {n : Nat} {t : Tr} {c k : Int} (h : lft rs t c = [k]) (i : opp (t, k) ∉ sdsL F) : gn rs F (n + 1) t c = ([t], some (.dr (t, k))) := by
  show (match lft rs t c with | [] => _ | k :: _ => _) = _
  rw [h]
  exact if_neg i
def okst (rs : List (List Int)) (d : Int) (t : Tr) (c : Int) : Prop := d ≠ 0 ∧ ((c = -1 ∧ snT rs t = d) ∨ (c ∈ ([0, 1, 2] : List Int) ∧ tnS rs (t, c) = - d))
def exk (rs : List (List Int)) (t : Tr) (c : Int) : Int := (lft rs t c).head?.getD (-1)
theorem okst.cases {rs : List (List Int)} {d : Int} {t : Tr} {c : Int} (g : Good rs) (it : isTri (sz rs) t.1 t.2.1 t.2.2) (h : okst rs d t c) :
    (lft rs t c = [] ∧ c ∈ ([0, 1, 2] : List Int) ∧ snT rs t = - d ∧ lft rs t (-1) = [c]) ∨ (∃ k ∈ ([0, 1, 2] : List Int), lft rs t c = [k] ∧ tnS rs (t, k) = d ∧ ((c = -1 ∧ snT rs t = d ∧ lft rs t k = []) ∨ (c ∈ ([0, 1, 2] : List Int) ∧ snT rs t = 0 ∧ lft rs t k = [c]))) := by
  obtain ⟨d0, ⟨rfl, e⟩ | ⟨hc, e⟩⟩ := h
  · obtain ⟨k, hk, e1, e2⟩ := lft_whole g it (by rw [e]; exact d0)
    exact .inr ⟨k, hk, e1, by rw [e2, e], .inl ⟨rfl, e, (lft_end g it hk (by rw [e2, e]; exact d0) (by rw [e]; exact d0)).1⟩⟩
  · have ne : tnS rs (t, c) ≠ 0 := by omega
    by_cases w : snT rs t = 0
    · obtain ⟨k, hk, e1, e2, e3⟩ := lft_two g it hc ne w
      exact .inr ⟨k, hk, e1, by omega, .inr ⟨hc, w, e3⟩⟩
    · obtain ⟨a, b, e3⟩ := lft_end g it hc ne w
      exact .inl ⟨a, hc, by omega, b⟩
def st : En → Tr × Int
  | .wh t => (t, -1)
  | .dr s => s
def sg (rs : List (List Int)) : En → Int
  | .wh t => snT rs t
  | .dr s => - tnS rs s
theorem st_ok {rs : List (List Int)} {F : List Tr} {e : En} (h : enB rs F e = true) : okst rs (sg rs e) (st e).1 (st e).2 ∧ (st e).1 ∈ F := by
  cases e with
  | wh t =>
    obtain ⟨a, b⟩ := enB_wh.mp h
    exact ⟨⟨b, .inl ⟨rfl, rfl⟩⟩, a⟩
  | dr s =>
    obtain ⟨a, b⟩ := enB_dr.mp h
    obtain ⟨m, _⟩ := mem_brd.mp a
    obtain ⟨m1, m2⟩ := mem_sdsL.mp m
    refine ⟨⟨by show - tnS rs s ≠ 0; omega, .inr ⟨by simpa [st] using m2, ?_⟩⟩, m1⟩
    show tnS rs s = - - tnS rs s
    omega
section
variable {rs : List (List Int)} {F : List Tr}
theorem sd_in {t : Tr} {k : Int} (ht : t ∈ F) (hk : k ∈ ([0, 1, 2] : List Int)) : (t, k) ∈ sdsL F := mem_sdsL.mpr ⟨ht, by simpa using hk⟩
theorem next_ok (fl : flP (sz rs) F) {d : Int} {t : Tr} {k : Int} (d0 : d ≠ 0) (ht : t ∈ F) (hk : k ∈ ([0, 1, 2] : List Int)) (e : tnS rs (t, k) = d) (i : opp (t, k) ∈ sdsL F) :
    okst rs d (opp (t, k)).1 (opp (t, k)).2 ∧ (opp (t, k)).1 ∈ F ∧ (opp (t, k)).2 ∈ ([0, 1, 2] : List Int) ∧ opp ((opp (t, k)).1, (opp (t, k)).2) = (t, k) := by
  have ok : okS (t, k) := okS_of fl.kinds (sd_in ht hk)
  obtain ⟨m1, m2⟩ := mem_sdsL.mp i
  have m3 : (opp (t, k)).2 ∈ ([0, 1, 2] : List Int) := by simpa using m2
  exact ⟨⟨d0, .inr ⟨m3, by rw [← e]; exact tn_opp ok⟩⟩, m1, m3, opp_opp ok⟩
theorem gn_ends (g : Good rs) (fl : flP (sz rs) F) {d : Int} : ∀ (n : Nat) (p : List Tr) (t : Tr) (c : Int), okst rs d t c → t ∈ F → (p ++ [t]).Nodup → (∀ u ∈ p, u ∈ F) → (∀ u ∈ p ++ [t], ∀ j ∈ ([0, 1, 2] : List Int), tnS rs (u, j) = - d → opp (u, j) ∈ sdsL F → (opp (u, j)).1 ∈ p) → F.length ≤ n + p.length →
    ∃ q e, gn rs F n t c = (q, some e) ∧ (p ++ q).Nodup ∧ (∀ u ∈ q, u ∈ F) ∧ enB rs F e = true ∧ sg rs e = - d ∧ q.head? = some t ∧ q.getLast? = some (st e).1
  | 0, p, t, c, ok, ht, nd, sub, _, hn => by
    have := List.Nodup.length_le_of_subset nd (l₂ := F) (fun u hu => by
      rcases List.mem_append.mp hu with h | h
      · exact sub u h
      · rw [List.mem_singleton.mp h]; exact ht)
    rw [List.length_append] at this
    simp at this
    omega
  | n + 1, p, t, c, ok, ht, nd, sub, pre, hn => by
    have it := fl.1 t ht
    rcases ok.cases g it with ⟨e, _, w, _⟩ | ⟨k, hk, e, tk, _⟩
    · refine ⟨_, _, gn_nil e, nd, fun u hu => by rw [List.mem_singleton.mp hu]; exact ht, enB_wh.mpr ⟨ht, ?_⟩, w, rfl, rfl⟩
      have := ok.1
      omega
    · by_cases i : opp (t, k) ∈ sdsL F
      · obtain ⟨ok2, m1, m3, oo⟩ := next_ok fl ok.1 ht hk tk i
        have it2 := fl.1 _ m1
        have t2 : tnS rs ((opp (t, k)).1, (opp (t, k)).2) = - d := by
          rcases ok2.2 with ⟨z, _⟩ | ⟨_, z⟩
          · rw [z] at m3; simp at m3
          · exact z
        have back : ∀ j ∈ ([0, 1, 2] : List Int), tnS rs ((opp (t, k)).1, j) = - d → opp ((opp (t, k)).1, j) = (t, k) := fun j hj ej => by
          have := one_door g it2 hj m3 (by rw [ej, t2]) (by have := ok.1; omega)
          rw [this]; exact oo
        have new : (opp (t, k)).1 ∉ p ++ [t] := fun hu => by
          have := pre _ hu _ m3 t2 (by rw [oo]; exact sd_in ht hk)
          rw [oo] at this
          rw [List.nodup_append] at nd
          exact nd.2.2 t this t (by simp) rfl
        obtain ⟨q, e', h1, h2, h3, h4, h5, h6, h7⟩ := gn_ends g fl n (p ++ [t]) (opp (t, k)).1 (opp (t, k)).2 ok2 m1
          (by
            rw [List.nodup_append]
            exact ⟨nd, by simp, fun a ha b hb z => new (by rw [← List.mem_singleton.mp hb, ← z]; exact ha)⟩)
          (fun u hu => by
            rcases List.mem_append.mp hu with h | h
            · exact sub u h
            · rw [List.mem_singleton.mp h]; exact ht)
          (fun u hu j hj ej io => by
            rcases List.mem_append.mp hu with h | h
            · exact List.mem_append_left _ (pre u h j hj ej io)
            · rw [List.mem_singleton] at h
              subst h
              rw [back j hj ej]; simp)
          (by rw [List.length_append]; simp; omega)
        refine ⟨t :: q, e', by rw [gn_in e i, h1], by rw [List.append_assoc] at h2; exact h2, fun u hu => ?_, h4, h5, rfl, ?_⟩
        · rcases List.mem_cons.mp hu with rfl | h
          · exact ht
          · exact h3 u h
        · cases q with
          | nil => simp at h6
          | cons a q => rw [List.getLast?_cons_cons]; exact h7
      · refine ⟨_, _, gn_out e i, nd, fun u hu => by rw [List.mem_singleton.mp hu]; exact ht, enB_dr.mpr ⟨mem_brd.mpr ⟨sd_in ht hk, fun z => i ((opp_mem (okS_of fl.kinds (sd_in ht hk))).mpr z)⟩, ?_⟩, ?_, rfl, rfl⟩
        · have := ok.1
          omega
        · show - tnS rs (t, k) = - d
          omega
theorem gn_more : ∀ (n m : Nat) (t : Tr) (c : Int) (q : List Tr) (e : En), gn rs F n t c = (q, some e) → gn rs F (n + m) t c = (q, some e)
  | 0, m, t, c, q, e, h => by cases h
  | n + 1, m, t, c, q, e, h => by
    rw [show n + 1 + m = (n + m) + 1 by omega]
    revert h
    show (match lft rs t c with | [] => _ | k :: _ => _) = _ → (match lft rs t c with | [] => _ | k :: _ => _) = _
    cases lft rs t c with
    | nil => exact id
    | cons k r =>
      intro h
      by_cases i : opp (t, k) ∈ sdsL F
      · simp only [if_pos i] at h ⊢
        injection h with h1 h2
        have := gn_more n m (opp (t, k)).1 (opp (t, k)).2 _ e (Prod.ext rfl h2)
        rw [this, ← h1]
      · simp only [if_neg i] at h ⊢
        exact h
theorem gn_back (g : Good rs) (fl : flP (sz rs) F) {d : Int} : ∀ (n : Nat) (t : Tr) (c : Int) (q : List Tr) (e : En), okst rs d t c → t ∈ F → gn rs F n t c = (q, some e) →
    ∃ a q', q = a :: q' ∧ ∀ m, gn rs F (q'.length + m) (st e).1 (st e).2 = (q'.reverse ++ (gn rs F m t (exk rs t c)).1, (gn rs F m t (exk rs t c)).2)
  | 0, t, c, q, e, _, _, h => by cases h
  | n + 1, t, c, q, e, ok, ht, h => by
    have it := fl.1 t ht
    rcases ok.cases g it with ⟨el, hc, w, lb⟩ | ⟨k, hk, el, tk, bk⟩
    · rw [gn_nil el] at h
      cases h
      refine ⟨t, [], rfl, fun m => ?_⟩
      have : exk rs t c = -1 := by unfold exk; rw [el]; rfl
      rw [this]
      simp [st]
    · have ek : exk rs t c = k := by unfold exk; rw [el]; rfl
      by_cases i : opp (t, k) ∈ sdsL F
      · rw [gn_in el i] at h
        injection h with h1 h2
        obtain ⟨ok2, m1, m3, oo⟩ := next_ok fl ok.1 ht hk tk i
        obtain ⟨a, q', ea, hb⟩ := gn_back g fl n (opp (t, k)).1 (opp (t, k)).2 _ e ok2 m1 (Prod.ext rfl h2)
        have it2 := fl.1 _ m1
        have lb : lft rs (opp (t, k)).1 (exk rs (opp (t, k)).1 (opp (t, k)).2) = [(opp (t, k)).2] := by
          rcases ok2.cases g it2 with ⟨el2, hc2, w2, lb2⟩ | ⟨k2, hk2, el2, tk2, bk2⟩
          · have : exk rs (opp (t, k)).1 (opp (t, k)).2 = -1 := by unfold exk; rw [el2]; rfl
            rw [this]; exact lb2
          · have : exk rs (opp (t, k)).1 (opp (t, k)).2 = k2 := by unfold exk; rw [el2]; rfl
            rw [this]
            rcases bk2 with ⟨z, _⟩ | ⟨_, _, z⟩
            · rw [z] at m3; simp at m3
            · exact z
        have hd : (opp (t, k)).1 = a := by
          have := ea
          cases n with
          | zero => simp [gn] at this
          | succ n =>
            rcases ok2.cases g it2 with ⟨el2, _⟩ | ⟨k2, hk2, el2, _⟩
            · rw [gn_nil el2] at this; injection this
            · by_cases i2 : opp ((opp (t, k)).1, k2) ∈ sdsL F
              · rw [gn_in el2 i2] at this; injection this
              · rw [gn_out el2 i2] at this; injection this
        refine ⟨t, a :: q', by rw [← h1]; exact congrArg (t :: ·) ea, fun m => ?_⟩
        rw [show (a :: q').length + m = q'.length + (m + 1) by simp; omega, hb (m + 1), gn_in lb (by rw [oo]; exact sd_in ht hk), oo, ek, ← hd]
        simp
      · rw [gn_out el i] at h
        cases h
        refine ⟨t, [], rfl, fun m => ?_⟩
        rw [ek]
        simp [st]
end
def gonE (rs : List (List Int)) (F : List Tr) (e : En) : List Tr × Option En := gn rs F (F.length + 1) (st e).1 (st e).2
def pthP (rs : List (List Int)) (F : List Tr) (e : En) : List Tr := (gonE rs F e).1
def ptnP (rs : List (List Int)) (F : List Tr) (e : En) : En := (gonE rs F e).2.getD e
theorem gonE_ok {rs : List (List Int)} {F : List Tr} {e : En} (g : Good rs) (fl : flP (sz rs) F) (h : enB rs F e = true) :
    gonE rs F e = (pthP rs F e, some (ptnP rs F e)) ∧ (pthP rs F e).Nodup ∧ (∀ u ∈ pthP rs F e, u ∈ F) ∧ enB rs F (ptnP rs F e) = true ∧ sg rs (ptnP rs F e) = - sg rs e ∧ (pthP rs F e).head? = some (st e).1 ∧ (pthP rs F e).getLast? = some (st (ptnP rs F e)).1 ∧ ptnP rs F (ptnP rs F e) = e ∧ pthP rs F (ptnP rs F e) = (pthP rs F e).reverse := by
  obtain ⟨ok, ht⟩ := st_ok h
  have it := fl.1 _ ht
  have none : ∀ j ∈ ([0, 1, 2] : List Int), tnS rs ((st e).1, j) = - sg rs e → opp ((st e).1, j) ∉ sdsL F := fun j hj ej io => by
    cases e with
    | wh t =>
      obtain ⟨_, w⟩ := enB_wh.mp h
      have := (lft_end g it hj (by rw [ej]; show - snT rs t ≠ 0; omega) w).2.2
      rw [ej] at this
      have z : - snT rs t = snT rs t := this
      omega
    | dr s =>
      obtain ⟨b, w⟩ := enB_dr.mp h
      obtain ⟨m, o⟩ := mem_brd.mp b
      have hs : s.2 ∈ ([0, 1, 2] : List Int) := by simpa using (mem_sdsL.mp m).2
      have ej' : tnS rs (s.1, j) = - - tnS rs s := ej
      have z := one_door g it hj hs (t := s.1) (by rw [ej']; show - - tnS rs s = tnS rs s; omega) (by rw [ej']; omega)
      subst z
      exact o ((mem_sdsL.mp io).1)
  obtain ⟨q, e', h1, h2, h3, h4, h5, h6, h7⟩ := gn_ends g fl F.length [] (st e).1 (st e).2 ok ht (by simp) (by simp) (fun u hu j hj ej io => by
    rw [List.nil_append, List.mem_singleton] at hu
    subst hu
    exact absurd io (none j hj ej)) (by simp)
  have h8 := gn_more F.length 1 _ _ _ _ h1
  have e1 : pthP rs F e = q := by unfold pthP gonE; rw [h8]
  have e2 : ptnP rs F e = e' := by unfold ptnP gonE; rw [h8]; rfl
  rw [e1, e2]
  have key : gonE rs F e' = (q.reverse, some e) := by
    obtain ⟨a, q', eq, hb⟩ := gn_back g fl F.length _ _ q e' ok ht h1
    have ea : (st e).1 = a := by rw [eq] at h6; injection h6 with z; exact z.symm
    have one : gn rs F 1 (st e).1 (exk rs (st e).1 (st e).2) = ([(st e).1], some e) := by
      rcases ok.cases g it with ⟨el, hc, w, lb⟩ | ⟨k, hk, el, tk, bk⟩
      · have ek : exk rs (st e).1 (st e).2 = -1 := by unfold exk; rw [el]; rfl
        rw [ek]
        cases e with
        | wh t => simp [st] at hc
        | dr s => exact gn_out lb (fun z => none s.2 hc (by show tnS rs s = - - tnS rs s; omega) z)
      · have ek : exk rs (st e).1 (st e).2 = k := by unfold exk; rw [el]; rfl
        rw [ek]
        rcases bk with ⟨z, _, lb⟩ | ⟨hc, _, lb⟩
        · cases e with
          | wh t => exact gn_nil lb
          | dr s =>
            have m := (mem_sdsL.mp (mem_brd.mp (enB_dr.mp h).1).1).2
            have z' : s.2 = -1 := z
            omega
        · cases e with
          | wh t => simp [st] at hc
          | dr s => exact gn_out lb (fun z => none s.2 hc (by show tnS rs s = - - tnS rs s; omega) z)
    have hb1 := hb 1
    rw [one] at hb1
    have hl : q'.length + 1 ≤ F.length := by
      have := List.Nodup.length_le_of_subset h2 (l₂ := F) (fun u hu => h3 u hu)
      rw [List.nil_append, eq] at this
      exact this
    unfold gonE
    rw [show F.length + 1 = (q'.length + 1) + (F.length - q'.length) by omega]
    refine gn_more _ _ _ _ _ _ ?_
    rw [hb1, eq, ea]
    simp
  refine ⟨h8, h2, h3, h4, h5, h6, h7, ?_, ?_⟩
  · unfold ptnP; rw [key]; rfl
  · unfold pthP; rw [key]
end L2
set_option Elab.async false
set_option linter.all false
set_option maxRecDepth 100000
set_option maxHeartbeats 4000000
namespace L2
open PySem PySem.Spec PyProof.Rows
section
variable {X : Cx}
end
theorem test_by {c : TT} {σ : St} {H : Hp} {Q : Bool → Hp → Prop} (b : Bool) (S : Hp → Prop) (hc : ∀ Q' : Bool → Hp → Prop, (∀ H1, S H1 → Q' b H1) → c σ H Q') (hq : ∀ H1, S H1 → Q b H1) : c σ H Q := hc Q hq
end L2
namespace L2
open PySem PySem.Spec PyProof.Rows
theorem seq_by3 {A B C X : TS} {D : Ends} {σ : L2.St} {H : Hp} (R : L2.St → Hp → Prop) (h2 : ∀ σ' H', R σ' H' → X D σ' H') (h1 : ∀ nx : L2.St → Hp → Prop, (∀ σ' H', R σ' H' → nx σ' H') → tSeq A (tSeq B C) { D with nx := nx } σ H) : tSeq A (tSeq B (tSeq C X)) D σ H := h1 _ h2
end L2
namespace L2
open PySem PySem.Spec PyProof.Rows
end L2
namespace L2
open PySem PySem.Spec PyProof.Rows
theorem pick_at {K : PySem.W.Frag} {H : Hp} {α : Type} {f : α → Dt} {xs : List V} {l : List α} (hh : HasL K H xs (l.map f)) {r : Int} (h0 : 0 ≤ r) (h1 : r < (xs.length : Int)) : ∃ v a, atI xs r = some v ∧ a ∈ l ∧ Has K H v (f a) ∧ l[r.toNat]? = some a := by
  have il : r.toNat < xs.length := by omega
  have ei : xs[r.toNat]? = some xs[r.toNat] := by simp [il]
  obtain ⟨d, hd, hv⟩ := hh.get ei
  rw [List.getElem?_map] at hd
  cases e : l[r.toNat]? with
  | none => rw [e] at hd; cases hd
  | some a =>
    rw [e] at hd
    cases hd
    exact ⟨_, a, atI_of h0 ei, List.mem_of_getElem? e, hv, rfl⟩
theorem mem_ends {rs : List (List Int)} {F : List Tr} {e : En} : e ∈ endsP rs F ↔ enB rs F e = true := by
  unfold endsP
  rw [List.mem_flatMap]
  constructor
  · rintro ⟨t, _, h⟩
    exact (List.mem_filter.mp h).2
  · intro h
    obtain ⟨_, m⟩ := st_ok h
    refine ⟨_, m, List.mem_filter.mpr ⟨?_, h⟩⟩
    cases e with
    | wh t => simp [asks, st]
    | dr s =>
      have k3 := (mem_sdsL.mp (mem_brd.mp (enB_dr.mp h).1).1).2
      obtain ⟨t, k⟩ := s
      have k3' : k = 0 ∨ k = 1 ∨ k = 2 := k3
      rcases k3' with rfl | rfl | rfl <;> simp [asks, st]
end L2
set_option Elab.async false
set_option linter.all false
set_option maxRecDepth 100000
set_option maxHeartbeats 4000000
namespace L2
open PySem PySem.Spec PyProof.Rows
def bt (n : Nat) : List Sd := (List.range n).map fun (x : Nat) => ((((x : Nat) : Int), (0 : Int), (0 : Int)), (0 : Int))
section
variable {rs : List (List Int)} {n : Nat}
def hit (rs : List (List Int)) (F : List Tr) (e : En) : Option (Tr × Sd) := match e with
  | .wh _ => none
  | .dr s => match ptnP rs F (.dr s) with
    | .wh t => some (t, s)
    | .dr _ => none
end
end L2
namespace L2
open PySem PySem.Spec PyProof.Rows
end L2
set_option Elab.async false
set_option linter.all false
set_option maxRecDepth 100000
set_option maxHeartbeats 4000000
namespace L2
open PySem PySem.Spec PySem.Calls PyProof.Rows PySem.W Builtin Builtin.ObjectAttr Builtin.Getset_descriptor
section
variable {prog : Program} {w : World} {A : Around} {E : Value → Shared → Prop} {s : Shared} {K : PySem.W.Frag} {x D : Addr} {ox : Obj}
end
end L2
set_option Elab.async false
set_option linter.all false
set_option maxRecDepth 100000
set_option maxHeartbeats 4000000
namespace L2
open PySem PySem.Spec PyProof.Rows
def hnd (x y : Int) : Int := (x - y) % 3
section
variable {rss : List (List (List Int))} {n : Nat}
end
end L2
namespace L2
open PySem PySem.Spec PyProof.Rows
theorem Paired.fst {α β γ : Type} {F : α → γ → Prop} : ∀ {l₁ : List (α × β)} {l₂ : List γ}, Paired (fun p c => F p.1 c) l₁ l₂ → Paired F (l₁.map (·.1)) l₂
  | _, _, .nil => .nil
  | _, _, .cons r t => .cons r (Paired.fst t)
def zrow (n y : Nat) : List Int := List.replicate (n + 2 - y) 0
def zer (n : Nat) : List (List Int) := (List.range (n + 2)).map fun (y : Nat) => zrow n y
end L2
set_option Elab.async false
set_option linter.all false
set_option maxRecDepth 100000
set_option maxHeartbeats 4000000
namespace L2
open PySem PySem.Spec PyProof.Rows
def del (H : Hp) (a : Addr) : Hp := fun b => if b = a then none else H b
structure RoomX (k : Nat) (A : Around) : Prop where
  dp : A.depth + 3 * k + 5 < recursionLimit
  un : A.units + 16 * k + 200 < cLine
theorem Room.x {k : Nat} {A : Around} (r : Room k A) : RoomX k A := ⟨r.dp, r.un⟩
section
variable {X : Cx} {k : Nat} {f a : Addr} {oe : Obj} {fd : FuncData} {ps : List Str} {sp : Sp} {x : Str} {p pos : Pos} {e : Expr} {es : List Expr} {t : TA}
end
section
variable {X : Cx}
end
end L2
set_option Elab.async false
set_option linter.all false
set_option maxRecDepth 100000
set_option maxHeartbeats 4000000
namespace L2
open PySem PySem.W PyProof.Rows
structure Ord (lt : Nat → Nat → Bool) : Prop where
  asym : ∀ a b, lt a b = true → lt b a = false
  le : ∀ a b c, lt b a = false → lt c b = false → lt c a = false
section
variable {lt : Nat → Nat → Bool}
abbrev g0 (p : Array Nat) (i : Nat) : Nat := p.getD i 0
def Asc (lt : Nat → Nat → Bool) (p : Array Nat) (m : Nat) : Prop := ∀ i j, i < j → j < m → lt (g0 p j) (g0 p i) = false
def Dsc (lt : Nat → Nat → Bool) (p : Array Nat) (m : Nat) : Prop := ∀ i j, i < j → j < m → lt (g0 p i) (g0 p j) = false
theorem Asc.more (O : Ord lt) {p : Array Nat} {n : Nat} (h : Asc lt p n) (h1 : 1 ≤ n) (hc : lt (g0 p n) (g0 p (n - 1)) = false) : Asc lt p (n + 1) := fun i j hij hj => by
  by_cases e : j = n
  · subst e
    by_cases e2 : i = j - 1
    · rw [e2]; exact hc
    · exact O.le _ _ _ (h i (j - 1) (by omega) (by omega)) hc
  · exact h i j hij (by omega)
theorem Dsc.more (O : Ord lt) {p : Array Nat} {n : Nat} (h : Dsc lt p n) (h1 : 1 ≤ n) (hc : lt (g0 p (n - 1)) (g0 p n) = false) : Dsc lt p (n + 1) := fun i j hij hj => by
  by_cases e : j = n
  · subst e
    by_cases e2 : i = j - 1
    · rw [e2]; exact hc
    · exact O.le _ _ _ hc (h i (j - 1) (by omega) (by omega))
  · exact h i j hij (by omega)
def Bd (n : Nat) {α : Type} : KasT α → (α → Prop) → Prop
  | .ret a, R => R a
  | .ask i j k, R => i < n ∧ j < n ∧ ∀ b, Bd n (k b) R
theorem Bd.bind {n : Nat} {α β : Type} {R : α → Prop} {R' : β → Prop} {f : α → KasT β} (hf : ∀ a, R a → Bd n (f a) R') : ∀ {t : KasT α}, Bd n t R → Bd n (t.bind f) R'
  | .ret a, h => hf a h
  | .ask _ _ _, h => ⟨h.1, h.2.1, fun b => Bd.bind hf (h.2.2 b)⟩
def Sm (n : Nat) (p : Array Nat) : Prop := 0 < n ∧ ∀ x ∈ p, x < n
theorem Sm.get {n : Nat} {p : Array Nat} (h : Sm n p) (i : Nat) : p.getD i 0 < n := by
  rw [Array.getD_eq_getD_getElem?]
  cases e : p[i]? with
  | none => exact h.1
  | some x => exact h.2 x (Array.mem_of_getElem? e)
end
end L2
set_option Elab.async false
set_option linter.all false
set_option maxRecDepth 100000
set_option maxHeartbeats 4000000
namespace L2
open PySem PySem.Spec PyProof.Rows PySem.SeqAt PySem.W
section
variable {prog : Program} {w : World} {A : Around} {E : Value → Shared → Prop} {s : Shared} {l : Addr} {xs : Array (Int × Tok)}
end
section
variable {X : Cx}
end
section
variable {prog : Program} {w : World} {A : Around} {E : Value → Shared → Prop} {s : Shared}
end
end L2
set_option Elab.async false
set_option linter.all false
set_option maxRecDepth 100000
set_option maxHeartbeats 4000000
namespace L2
open PySem PySem.Spec PyProof.Rows PySem.SeqAt PySem.W
section
variable {prog : Program} {w : World} {A : Around} {E : Value → Shared → Prop} {s : Shared}
end
section
variable {X : Cx}
end
end L2
set_option Elab.async false
set_option linter.all false
set_option maxRecDepth 100000
set_option maxHeartbeats 4000000
namespace L2
open PySem PySem.Spec PyProof.Rows
def hP (p : Pt) : Int := hnd p.1 p.2
def pH (t : Tr) (h : Int) : Pt := if hP (crn t 0) = h then crn t 0 else if hP (crn t 1) = h then crn t 1 else crn t 2
theorem HasL.all {K : PySem.W.Frag} {H H' : Hp} (f : ∀ v d, Has K H v d → Has K H' v d) : ∀ {xs : List V} {ds : List Dt}, HasL K H xs ds → HasL K H' xs ds
  | _, _, .nil => .nil
  | _, _, .cons h t => .cons (f _ _ h) (HasL.all f t)
end L2
set_option Elab.async false
set_option linter.all false
set_option maxRecDepth 100000
set_option maxHeartbeats 4000000
namespace L2
open PySem PySem.Spec PyProof.Rows
section
variable {rs : List (List Int)} {F : List Tr}
theorem sg_one (g : Good rs) (fl : flP (sz rs) F) {e : En} (h : enB rs F e = true) : sg rs e = 1 ∨ sg rs e = -1 := by
  cases e with
  | wh t =>
    obtain ⟨ht, w⟩ := enB_wh.mp h
    obtain ⟨a, b⟩ := tp_in g (fl.1 t ht)
    have := fin_sign _ a
    rw [b] at this
    show snT rs t = 1 ∨ snT rs t = -1
    omega
  | dr s =>
    obtain ⟨_, w⟩ := enB_dr.mp h
    show - tnS rs s = 1 ∨ - tnS rs s = -1
    have : tnS rs s = 0 ∨ tnS rs s = 1 ∨ tnS rs s = -1 := by
      unfold tnS turnI
      repeat' split
      all_goals simp
    omega
theorem ends_nodup (fl : flP (sz rs) F) : (endsP rs F).Nodup := by
  unfold endsP
  have nd := fl.nodup
  generalize hp : enB rs F = p
  clear hp fl
  induction F with
  | nil => simp
  | cons t F ih =>
    rw [List.flatMap_cons, List.nodup_append]
    rw [List.nodup_cons] at nd
    refine ⟨(show (asks t).Nodup by unfold asks; simp).filter _, ih nd.2, fun a ha b hb e => ?_⟩
    subst e
    obtain ⟨u, hu, hb⟩ := List.mem_flatMap.mp hb
    have a1 := (List.mem_filter.mp ha).1
    have b1 := (List.mem_filter.mp hb).1
    have key : ∀ (v : Tr), a ∈ asks v → (st a).1 = v := fun v hv => by
      unfold asks at hv
      simp only [List.mem_cons, List.not_mem_nil, or_false] at hv
      rcases hv with rfl | rfl | rfl | rfl <;> rfl
    have := (key t a1).symm.trans (key u b1)
    subst this
    exact nd.1 hu
theorem part_mem (g : Good rs) (fl : flP (sz rs) F) {e : En} (h : e ∈ endsP rs F) : ptnP rs F e ∈ endsP rs F := mem_ends.mpr (gonE_ok g fl (mem_ends.mp h)).2.2.2.1
theorem part_perm (g : Good rs) (fl : flP (sz rs) F) : ((endsP rs F).map (ptnP rs F)).Perm (endsP rs F) := by
  have nd := ends_nodup fl
  have inv : ∀ e ∈ endsP rs F, ptnP rs F (ptnP rs F e) = e := fun e he => (gonE_ok g fl (mem_ends.mp he)).2.2.2.2.2.2.2.1
  refine perm_of (map_nodup nd fun a ha b hb e => by rw [← inv a ha, ← inv b hb, e]) nd fun e => ?_
  constructor
  · intro h
    obtain ⟨x, hx, rfl⟩ := List.mem_map.mp h
    exact part_mem g fl hx
  · intro h
    exact List.mem_map.mpr ⟨_, part_mem g fl h, inv e h⟩
theorem part_ne (g : Good rs) (fl : flP (sz rs) F) {e : En} (h : enB rs F e = true) : ptnP rs F e ≠ e := fun z => by
  have a := (gonE_ok g fl h).2.2.2.2.1
  rw [z] at a
  have := sg_one g fl h
  omega
end
theorem sum_negE (f h : En → Int) : ∀ l : List En, (∀ e ∈ l, h e = - f e) → (l.map h).sum = - (l.map f).sum
  | [], _ => rfl
  | e :: l, k => by
    rw [List.map_cons, List.map_cons, List.sum_cons, List.sum_cons, sum_negE f h l fun x hx => k x (List.mem_cons_of_mem _ hx), k e (List.mem_cons_self ..)]
    omega
theorem sum_odd : ∀ l : List Int, (∀ x ∈ l, x = 1 ∨ x = -1) → (l.sum - (l.length : Int)) % 2 = 0
  | [], _ => rfl
  | x :: l, h => by
    have a := sum_odd l fun y hy => h y (List.mem_cons_of_mem _ hy)
    have b := h x (List.mem_cons_self ..)
    rw [List.sum_cons, List.length_cons]
    omega
section
variable {rs : List (List Int)} {F : List Tr}
theorem sg_sum (g : Good rs) (fl : flP (sz rs) F) : ((endsP rs F).map (sg rs)).sum = 0 := by
  have a := sum_perm ((part_perm g fl).map (sg rs))
  rw [List.map_map] at a
  have b := sum_negE (sg rs) (sg rs ∘ ptnP rs F) (endsP rs F) fun e he => (gonE_ok g fl (mem_ends.mp he)).2.2.2.2.1
  rw [a] at b
  omega
theorem ends_even (g : Good rs) (fl : flP (sz rs) F) : ((endsP rs F).length : Int) % 2 = 0 := by
  have a := sum_odd ((endsP rs F).map (sg rs)) fun x hx => by
    obtain ⟨e, he, rfl⟩ := List.mem_map.mp hx
    exact sg_one g fl (mem_ends.mp he)
  rw [sg_sum g fl, List.length_map] at a
  omega
def dT (rs : List (List Int)) : En → Int
  | .wh _ => 0
  | .dr s => tnS rs s
end
end L2
set_option Elab.async false
set_option linter.all false
set_option maxRecDepth 100000
set_option maxHeartbeats 4000000
namespace L2
open PySem PySem.Spec PyProof.Rows PySem.SeqAt PySem.W
section
variable {X : Cx} {pins : List (Addr × Obj)} {σ : St} {H : Hp} {s : Shared}
end
section
variable {X : Cx}
end
section
variable {prog : Program} {w : World} {A : Around} {E : Value → Shared → Prop} {s : Shared}
end
end L2
set_option Elab.async false
set_option linter.all false
set_option maxRecDepth 100000
set_option maxHeartbeats 4000000
namespace L2
open PySem PySem.Spec PyProof.Rows
theorem has_wh {K : PySem.W.Frag} {H : Hp} {v : V} {t : Tr} (h : Has K H v (eD (.wh t))) : ∃ q tv, v = .ref q ∧ SqT K H q [V.str "whole", tv] ∧ Has K H tv (tD t) := by
  obtain ⟨q, xs, rfl, hq, hl⟩ := has_tup h
  cases hl with
  | cons a b => cases b with
    | cons c d => cases d; cases a; exact ⟨q, _, rfl, hq, c⟩
theorem has_dr {K : PySem.W.Frag} {H : Hp} {v : V} {s : Sd} (h : Has K H v (eD (.dr s))) : ∃ q tv, v = .ref q ∧ SqT K H q [V.str "door", tv, .int s.2] ∧ Has K H tv (tD s.1) := by
  obtain ⟨q, xs, rfl, hq, hl⟩ := has_tup h
  cases hl with
  | cons a b => cases b with
    | cons c d => cases d with
      | cons e g => cases g; cases a; cases e; exact ⟨q, _, rfl, hq, c⟩
theorem no_dw (h : decide (V.str "door" = V.str "whole") = true) : False := by
  have := of_decide_eq_true h
  injection this with this
  exact str_wd this
def tK (t : Tr) : K2 := [.inl (.inl t.1), .inl (.inl t.2.1), .inl (.inl t.2.2)]
theorem tK_inj {t u : Tr} (h : tK t = tK u) : t = u := by
  obtain ⟨a, b, c⟩ := t
  obtain ⟨a', b', c'⟩ := u
  simp [tK] at h
  obtain ⟨rfl, rfl, rfl⟩ := h
  rfl
def cV (n : Nat) : Option V := if n = 0 then none else some (.int n)
structure CD (P : Program) (w : World) (K : PySem.W.Frag) (H : Hp) (a : Addr) (kvs : List DE) (L : List Tr) : Prop where
  d2 : D2At P w K H a kvs
  cnt : ∀ t, look kvs (tK t) = cV (L.count t)
  key : ∀ e ∈ kvs, ∃ t ∈ L, e.1 = tK t
theorem CD.put {P : Program} {w : World} {K : PySem.W.Frag} {H : Hp} {a p : Addr} {kvs : List DE} {L : List Tr} {t : Tr} (C : CD P w K H a kvs L) (hp : Has K (less H a) (.ref p) (tD t)) :
    CD P w K (upd H a (d2Obj P w a (put kvs (tK t) p (.int ((L.count t : Nat) + 1 : Int))))) a (put kvs (tK t) p (.int ((L.count t : Nat) + 1 : Int))) (L ++ [t]) := by
  refine ⟨C.d2.put hp, fun u => ?_, fun e he => ?_⟩
  · rw [look_put, List.count_append]
    by_cases e : u = t
    · subst e
      rw [if_pos rfl]
      unfold cV
      rw [if_neg (by simp)]
      simp
    · rw [if_neg (fun z => e (tK_inj z)), C.cnt]
      have : List.count u [t] = 0 := List.count_eq_zero.mpr (by simpa using e)
      rw [this, Nat.add_zero]
  · rcases mem_put he with ⟨f, hf, e1, _⟩ | ⟨e1, _⟩
    · obtain ⟨u, hu, eu⟩ := C.key f hf
      exact ⟨u, List.mem_append_left _ hu, e1.trans eu⟩
    · exact ⟨t, by simp, e1⟩
theorem CD.len {P : Program} {w : World} {K : PySem.W.Frag} {H : Hp} {a : Addr} {kvs : List DE} {L F : List Tr} (C : CD P w K H a kvs L) (h : ∀ t ∈ L, t ∈ F) : kvs.length ≤ F.length := by
  have := List.Nodup.length_le_of_subset C.d2.nd (l₂ := F.map tK) fun k hk => by
    obtain ⟨e, he, rfl⟩ := List.mem_map.mp hk
    obtain ⟨t, ht, e1⟩ := C.key e he
    exact List.mem_map.mpr ⟨t, h t ht, e1.symm⟩
  simpa using this
section
variable {rs : List (List Int)} {F : List Tr}
theorem ends_few (g : Good rs) (fl : flP (sz rs) F) : (endsP rs F).length ≤ 2 * F.length := by
  have key : ∀ G : List Tr, (∀ t ∈ G, t ∈ F) → (G.flatMap fun t => (asks t).filter (enB rs F)).length ≤ 2 * G.length := fun G => by
    induction G with
    | nil => intro _; simp
    | cons t G ih =>
      intro h
      rw [List.flatMap_cons, List.length_append, List.length_cons]
      have a := ih fun u hu => h u (List.mem_cons_of_mem _ hu)
      have it := fl.1 t (h t (List.mem_cons_self ..))
      have b : ((asks t).filter (enB rs F)).length ≤ 2 := by
        obtain ⟨m, e⟩ := tp_in g it
        have f : ∀ (p : Int × Int × Int), p ∈ trips → ((if sum3 p ≠ 0 then 1 else 0) + (if p.1 ≠ 0 then 1 else 0) + (if p.2.1 ≠ 0 then 1 else 0) + (if p.2.2 ≠ 0 then 1 else 0) : Nat) ≤ 2 := by decide +kernel
        have z := f _ m
        rw [e] at z
        have le : ∀ (x : En) (c : Prop) [Decidable c], (enB rs F x = true → c) → ([x].filter (enB rs F)).length ≤ if c then 1 else 0 := fun x c _ hc => by
          by_cases k : enB rs F x = true
          · rw [if_pos (hc k)]; simp [k]
          · simp [k]
        have l0 := le (.wh t) (snT rs t ≠ 0) fun k => (enB_wh.mp k).2
        have l1 := le (.dr (t, 0)) ((tp rs t).1 ≠ 0) fun k => (enB_dr.mp k).2
        have l2 := le (.dr (t, 1)) ((tp rs t).2.1 ≠ 0) fun k => (enB_dr.mp k).2
        have l3 := le (.dr (t, 2)) ((tp rs t).2.2 ≠ 0) fun k => (enB_dr.mp k).2
        have e4 : (asks t).filter (enB rs F) = [.wh t].filter (enB rs F) ++ ([.dr (t, 0)].filter (enB rs F) ++ ([.dr (t, 1)].filter (enB rs F) ++ [.dr (t, 2)].filter (enB rs F))) := by
          rw [← List.filter_append, ← List.filter_append, ← List.filter_append]
          rfl
        rw [e4, List.length_append, List.length_append, List.length_append]
        omega
      omega
  exact key F fun _ h => h
end
end L2
set_option Elab.async false
set_option linter.all false
set_option maxRecDepth 100000
set_option maxHeartbeats 4000000
namespace L2
open PySem
def itn {α : Type} (f : α → α) : Nat → α → α
  | 0, a => a
  | n + 1, a => itn f n (f a)
theorem itn_add {α : Type} (f : α → α) : ∀ (m n : Nat) (a : α), itn f (m + n) a = itn f n (itn f m a)
  | 0, n, a => by rw [Nat.zero_add]; rfl
  | m + 1, n, a => by rw [Nat.succ_add]; exact itn_add f m n (f a)
theorem itn_succ {α : Type} (f : α → α) (n : Nat) (a : α) : itn f (n + 1) a = f (itn f n a) := itn_add f n 1 a
def f5 (M i : Nat) : Nat := (i * 5 + 1) % (M + 1)
def orb (M : Nat) : Nat → Nat → List Nat
  | 0, _ => []
  | n + 1, i => i :: orb M n (f5 M i)
theorem mem_orb {M : Nat} : ∀ {n i s : Nat}, s ∈ orb M n i → ∃ m, m < n ∧ itn (f5 M) m i = s
  | n + 1, i, s, h => by
    rcases List.mem_cons.mp h with e | h
    · exact ⟨0, by omega, e.symm⟩
    · obtain ⟨m, hm, e⟩ := mem_orb h
      exact ⟨m + 1, by omega, e⟩
def okM (M : Nat) : Prop := M = 7 ∨ M = 31 ∨ M = 127 ∨ M = 511
theorem orb_all {M : Nat} (h : okM M) : (∀ s, s ≤ M → s ∈ orb M (M + 1) 0) ∧ itn (f5 M) (M + 1) 0 = 0 := by
  have key : ((List.range (M + 1)).all (fun s => (orb M (M + 1) 0).contains s) && (itn (f5 M) (M + 1) 0 == 0)) = true := by
    rcases h with rfl | rfl | rfl | rfl <;> decide +kernel
  rw [Bool.and_eq_true, List.all_eq_true] at key
  refine ⟨fun s hs => ?_, by simpa using key.2⟩
  have := key.1 s (List.mem_range.mpr (by omega))
  simpa using this
theorem orb_to {M i s : Nat} (h : okM M) (hi : i ≤ M) (hs : s ≤ M) : ∃ n, n ≤ M ∧ itn (f5 M) n i = s := by
  obtain ⟨all, zer⟩ := orb_all h
  obtain ⟨a, ha, ea⟩ := mem_orb (all i hi)
  obtain ⟨b, hb, eb⟩ := mem_orb (all s hs)
  by_cases hab : a ≤ b
  · refine ⟨b - a, by omega, ?_⟩
    rw [← ea, ← itn_add, show a + (b - a) = b by omega, eb]
  · refine ⟨b + (M + 1) - a, by omega, ?_⟩
    rw [← ea, ← itn_add, show a + (b + (M + 1) - a) = (M + 1) + b by omega, itn_add, zer, eb]
def lp (M : Nat) (x : Nat × Nat) : Nat × Nat := SetTable.leap M x.1 x.2
theorem lp_pert (M : Nat) : ∀ (m : Nat) (x : Nat × Nat), (itn (lp M) m x).2 = x.2 / 32 ^ m
  | 0, x => by simp [itn]
  | m + 1, x => by
    show (itn (lp M) m (lp M x)).2 = _
    rw [lp_pert M m]
    show x.2 / 32 / 32 ^ m = _
    rw [Nat.div_div_eq_div_mul, Nat.pow_succ, Nat.mul_comm]
theorem lp_le (M : Nat) (m : Nat) (x : Nat × Nat) (hx : x.1 ≤ M) : (itn (lp M) m x).1 ≤ M := by
  cases m with
  | zero => exact hx
  | succ m =>
    rw [itn_succ]
    show (_ % (M + 1)) ≤ M
    exact Nat.le_of_lt_succ (Nat.mod_lt _ (Nat.succ_pos _))
theorem lp_zero (M : Nat) : ∀ (n : Nat) (x : Nat × Nat), x.2 / 32 = 0 → x.2 < 32 → (itn (lp M) n x).1 = itn (f5 M) n x.1
  | 0, _, _, _ => rfl
  | n + 1, x, h, h2 => by
    show (itn (lp M) n (lp M x)).1 = itn (f5 M) n (f5 M x.1)
    have e1 : (lp M x).1 = f5 M x.1 := by
      show (x.1 * 5 + 1 + x.2 / 32) % (M + 1) = (x.1 * 5 + 1) % (M + 1)
      rw [h]
    have e2 : (lp M x).2 = 0 := h
    rw [lp_zero M n (lp M x) (by rw [e2]) (by rw [e2]; decide), e1]
theorem lp_to {M i pt s : Nat} (h : okM M) (hi : i ≤ M) (hp : pt < 2 ^ 64) (hs : s ≤ M) : ∃ m, m ≤ M + 12 ∧ (itn (lp M) m (i, pt)).1 = s := by
  have hq : (itn (lp M) 12 (i, pt)).2 < 32 := by
    rw [lp_pert]
    show pt / 32 ^ 12 < 32
    rw [Nat.div_lt_iff_lt_mul (by decide)]
    exact Nat.lt_of_lt_of_le hp (by decide)
  obtain ⟨n, hn, e⟩ := orb_to h (lp_le M 12 (i, pt) hi) hs
  refine ⟨12 + n, by omega, ?_⟩
  rw [itn_add, lp_zero M n _ (by omega) hq]
  exact e
def stt (M : Nat) (x : Nat × Nat) : SetTable.Probe := { j := x.1, more := SetTable.runEnd M x.1 - x.1, i := x.1, perturb := x.2, dummy := none }
theorem adv_run (t : SetTable) : ∀ (k : Nat) (p : SetTable.Probe), k ≤ p.more → itn t.advance k p = { p with j := p.j + k, more := p.more - k }
  | 0, p, _ => rfl
  | k + 1, p, h => by
    show itn t.advance k (t.advance p) = _
    have e : t.advance p = { p with j := p.j + 1, more := p.more - 1 } := by
      unfold SetTable.advance
      rw [if_pos (by omega)]
    rw [e, adv_run t k _ (by show k ≤ p.more - 1; omega)]
    congr 1
    · show p.j + 1 + k = p.j + (k + 1); omega
    · show p.more - 1 - k = p.more - (k + 1); omega
theorem adv_leap (t : SetTable) (x : Nat × Nat) : ∃ n, n ≤ 10 ∧ itn t.advance n (stt t.mask x) = stt t.mask (lp t.mask x) := by
  refine ⟨(stt t.mask x).more + 1, ?_, ?_⟩
  · show SetTable.runEnd t.mask x.1 - x.1 + 1 ≤ 10
    unfold SetTable.runEnd
    split <;> omega
  · rw [itn_succ, adv_run t _ _ (Nat.le_refl _)]
    unfold SetTable.advance
    rw [if_neg (by simp)]
    rfl
theorem adv_leaps (t : SetTable) : ∀ (m : Nat) (x : Nat × Nat), ∃ n, n ≤ 10 * m ∧ itn t.advance n (stt t.mask x) = stt t.mask (itn (lp t.mask) m x)
  | 0, x => ⟨0, Nat.le_refl _, rfl⟩
  | m + 1, x => by
    obtain ⟨a, ha, ea⟩ := adv_leap t x
    obtain ⟨b, hb, eb⟩ := adv_leaps t m (lp t.mask x)
    refine ⟨a + b, by omega, ?_⟩
    rw [itn_add, ea, eb]
    rfl
theorem bits_lt (h : Int) : SetTable.bits h < 2 ^ 64 := by
  unfold SetTable.bits
  have h1 := Int.emod_lt_of_pos h (b := 2 ^ 64) (by decide)
  have h2 := Int.emod_nonneg h (b := 2 ^ 64) (by decide)
  omega
theorem start_is (t : SetTable) (h : Int) : t.probeStart h = stt t.mask (SetTable.bits h % (t.mask + 1), SetTable.bits h) := rfl
theorem adv_dummy (t : SetTable) (p : SetTable.Probe) (h : p.dummy = none) : (t.advance p).dummy = none := by
  unfold SetTable.advance
  split <;> exact h
theorem advs_dummy (t : SetTable) : ∀ (n : Nat) (p : SetTable.Probe), p.dummy = none → (itn t.advance n p).dummy = none
  | 0, _, h => h
  | n + 1, p, h => advs_dummy t n _ (adv_dummy t p h)
structure Tab (t : SetTable) (n : Nat) : Prop where
  ok : okM t.mask
  dm : t.dummies = #[]
  sz : t.place.size = n
  le : n ≤ t.mask
theorem slot_cases {t : SetTable} {n : Nat} (T : Tab t n) (j : Nat) : t.slot j = .empty ∨ ∃ i, t.slot j = .live i ∧ t.place[i]? = some j := by
  unfold SetTable.slot
  dsimp only
  split
  · rename_i h
    exact .inr ⟨_, rfl, by simpa using h⟩
  · rw [T.dm]
    left
    unfold SetTable.has
    simp
theorem has_empty {t : SetTable} {n : Nat} (T : Tab t n) : ∃ s, s ≤ t.mask ∧ t.slot s = .empty := by
  have nsub : ¬ ∀ s ∈ List.range (t.mask + 1), s ∈ t.place.toList := fun h => by
    have z := List.Nodup.length_le_of_subset (List.nodup_range (n := t.mask + 1)) (l₂ := t.place.toList) h
    have := T.sz
    have := T.le
    rw [List.length_range, Array.length_toList] at z
    omega
  obtain ⟨s, h⟩ := Classical.not_forall.mp nsub
  obtain ⟨hs, hn⟩ := Classical.not_imp.mp h
  refine ⟨s, by have := List.mem_range.mp hs; omega, ?_⟩
  rcases slot_cases T s with e | ⟨i, _, e⟩
  · exact e
  · exact absurd (by simpa using Array.mem_of_getElem? e) hn
theorem far {t : SetTable} {n : Nat} (T : Tab t n) (h : Int) : ∃ N, N < 10 * SetTable.turns t.mask ∧ t.slot (itn t.advance N (t.probeStart h)).j = .empty := by
  obtain ⟨s, hs, es⟩ := has_empty T
  obtain ⟨m, hm, em⟩ := lp_to T.ok (i := SetTable.bits h % (t.mask + 1)) (pt := SetTable.bits h) (s := s) (Nat.le_of_lt_succ (Nat.mod_lt _ (Nat.succ_pos _))) (bits_lt h) hs
  obtain ⟨k, hk, ek⟩ := adv_leaps t m (SetTable.bits h % (t.mask + 1), SetTable.bits h)
  refine ⟨k, ?_, ?_⟩
  · unfold SetTable.turns
    omega
  · rw [start_is, ek]
    show t.slot (itn (lp t.mask) m _).1 = _
    rw [em]
    exact es
theorem probe_go {t : SetTable} {n : Nat} (T : Tab t n) {hashAt : Nat → Int} {h : Int} {p0 : SetTable.Probe} (hd : p0.dummy = none) {N : Nat} (hN : t.slot (itn t.advance N p0).j = .empty) :
    ∀ (fuel m : Nat), m ≤ N → N - m < fuel →
      (∃ j, SetTable.probe.go t hashAt h fuel (itn t.advance m p0) = some (.empty j none) ∧ t.slot j = .empty) ∨
      ∃ m' j i, m ≤ m' ∧ m' < N ∧ SetTable.probe.go t hashAt h fuel (itn t.advance m p0) = some (.candidate j i (itn t.advance (m' + 1) p0)) ∧ t.slot j = .live i ∧ hashAt i = h
  | 0, m, _, hf => absurd hf (Nat.not_lt_zero _)
  | fuel + 1, m, hm, hf => by
    unfold SetTable.probe.go
    rcases slot_cases T (itn t.advance m p0).j with e | ⟨i, e, _⟩
    · left
      rw [e]
      exact ⟨_, by rw [advs_dummy t m p0 hd], e⟩
    · rw [e]
      dsimp only
      have lt : m < N := by
        rcases Nat.lt_or_ge m N with z | z
        · exact z
        · have : m = N := by omega
          subst this
          rw [hN] at e; cases e
      split
      · rename_i q
        right
        refine ⟨m, _, i, Nat.le_refl _, lt, by rw [itn_succ], e, by simpa using q⟩
      · rw [← itn_succ t.advance m p0]
        rcases probe_go T hd hN fuel (m + 1) (by omega) (by omega) with q | ⟨m', j, i', a, b, c⟩
        · exact .inl q
        · exact .inr ⟨m', j, i', by omega, b, c⟩
theorem probe_at {t : SetTable} {n : Nat} (T : Tab t n) {hashAt : Nat → Int} {h : Int} {p0 : SetTable.Probe} (hd : p0.dummy = none) {N m : Nat} (hN : t.slot (itn t.advance N p0).j = .empty) (hl : N < 10 * SetTable.turns t.mask) (hm : m ≤ N) :
      (∃ j, t.probe hashAt h (itn t.advance m p0) = some (.empty j none) ∧ t.slot j = .empty) ∨
      ∃ m' j i, m ≤ m' ∧ m' < N ∧ t.probe hashAt h (itn t.advance m p0) = some (.candidate j i (itn t.advance (m' + 1) p0)) ∧ t.slot j = .live i ∧ hashAt i = h :=
  probe_go T hd hN _ m hm (by omega)
theorem free_some {M : Nat} {owner : Array (Option Nat)} {s : Nat} (hs : owner.getD s (some 0) = none) : ∀ (m fuel : Nat) (x : Nat × Nat), m < fuel → (itn (lp M) m x).1 = s → ∃ j, SetTable.layClean.free M owner fuel x.1 x.2 = some j ∧ owner.getD j (some 0) = none
  | m, 0, x, hf, _ => absurd hf (Nat.not_lt_zero _)
  | m, fuel + 1, x, hf, e => by
    unfold SetTable.layClean.free
    cases hfd : (List.range (SetTable.runEnd M x.1 + 1 - x.1)).find? fun k => (owner.getD (x.1 + k) (some 0)).isNone with
    | some k =>
      have := List.find?_some hfd
      exact ⟨_, rfl, by simpa using this⟩
    | none =>
      cases m with
      | zero =>
        exfalso
        have e0 : x.1 = s := e
        have z := List.find?_eq_none.mp hfd 0 (List.mem_range.mpr (by unfold SetTable.runEnd; split <;> omega))
        rw [Nat.add_zero, e0, hs] at z
        exact z rfl
      | succ m => exact free_some hs m fuel (lp M x) (by omega) e
structure Own (M : Nat) (owner : Array (Option Nat)) (k : Nat) : Prop where
  sz : owner.size = M + 1
  cnt : owner.toList.countP (·.isSome) = k
  lt : ∀ i, some i ∈ owner.toList → i < k
theorem Own.hole {M k : Nat} {owner : Array (Option Nat)} (O : Own M owner k) (h : k ≤ M) : ∃ s, s ≤ M ∧ owner.getD s (some 0) = none := by
  have : ∃ x ∈ owner.toList, ¬ (x.isSome = true) := by
    apply Classical.byContradiction
    intro hn
    have al : ∀ x ∈ owner.toList, x.isSome = true := fun x hx => Classical.byContradiction fun z => hn ⟨x, hx, z⟩
    have := List.countP_eq_length.mpr al
    rw [O.cnt, Array.length_toList, O.sz] at this
    omega
  obtain ⟨x, hx, hn⟩ := this
  obtain ⟨s, hs, e⟩ := List.getElem_of_mem hx
  have hs' : s < owner.size := by simpa using hs
  refine ⟨s, by rw [O.sz] at hs'; omega, ?_⟩
  have e2 : x = none := by simpa using hn
  rw [Array.getD_eq_getD_getElem?, Array.getElem?_eq_getElem hs']
  have : owner[s] = x := by simpa using e
  rw [this, e2]
  rfl
theorem count_set {l : List (Option Nat)} {j k : Nat} (h : l[j]? = some none) : (l.set j (some k)).countP (·.isSome) = l.countP (·.isSome) + 1 := by
  induction l generalizing j with
  | nil => simp at h
  | cons a l ih =>
    cases j with
    | zero =>
      have : a = none := by simpa using h
      subst this
      simp
    | succ j =>
      rw [List.set_cons_succ, List.countP_cons, List.countP_cons, ih (by simpa using h)]
      omega
theorem Own.put {M k j : Nat} {owner : Array (Option Nat)} (O : Own M owner k) (h : owner.getD j (some 0) = none) : Own M (owner.setIfInBounds j (some k)) (k + 1) := by
  have hj : owner[j]? = some none := by
    rw [Array.getD_eq_getD_getElem?] at h
    cases e : owner[j]? with
    | none => rw [e] at h; cases h
    | some x => rw [e] at h; exact congrArg some h
  refine ⟨by simpa using O.sz, ?_, fun i hi => ?_⟩
  · rw [Array.toList_setIfInBounds, count_set (by simpa using hj), O.cnt]
  · rw [Array.toList_setIfInBounds] at hi
    rcases List.mem_or_eq_of_mem_set hi with z | z
    · have := O.lt i z; omega
    · have : i = k := by simpa using z
      omega
theorem lay_fold {M : Nat} (h : okM M) : ∀ (hs : List Int) (owner : Array (Option Nat)) (k : Nat), Own M owner k → k + hs.length ≤ M + 1 → ∃ owner', hs.foldl (init := some (owner, k)) (fun acc h => do
    let (owner, k) ← acc
    let j ← SetTable.layClean.free M owner (SetTable.turns M) (SetTable.bits h % (M + 1)) (SetTable.bits h)
    pure (owner.setIfInBounds j (some k), k + 1)) = some (owner', k + hs.length) ∧ Own M owner' (k + hs.length)
  | [], owner, k, O, _ => ⟨owner, rfl, O⟩
  | x :: hs, owner, k, O, hl => by
    have hl' : k + (hs.length + 1) ≤ M + 1 := hl
    obtain ⟨s, hs1, hs2⟩ := O.hole (by omega)
    obtain ⟨m, hm, em⟩ := lp_to h (i := SetTable.bits x % (M + 1)) (pt := SetTable.bits x) (s := s) (Nat.le_of_lt_succ (Nat.mod_lt _ (Nat.succ_pos _))) (bits_lt x) hs1
    obtain ⟨j, ej, hj⟩ := free_some hs2 m (SetTable.turns M) (SetTable.bits x % (M + 1), SetTable.bits x) (by unfold SetTable.turns; omega) em
    obtain ⟨owner', e', O'⟩ := lay_fold h hs (owner.setIfInBounds j (some k)) (k + 1) (O.put hj) (by omega)
    refine ⟨owner', ?_, by rw [List.length_cons, show k + (hs.length + 1) = k + 1 + hs.length by omega]; exact O'⟩
    rw [List.foldl_cons, List.length_cons, show k + (hs.length + 1) = k + 1 + hs.length by omega, ← e']
    congr 1
    show (do
      let j ← SetTable.layClean.free M owner (SetTable.turns M) (SetTable.bits x % (M + 1)) (SetTable.bits x)
      pure (owner.setIfInBounds j (some k), k + 1)) = some (owner.setIfInBounds j (some k), k + 1)
    rw [ej]
    rfl
theorem fm_len {α : Type} (g : Nat → Option α) : ∀ (l : List Nat), (l.filterMap g).length = l.countP (fun j => (g j).isSome)
  | [] => rfl
  | a :: l => by
    rw [List.filterMap_cons, List.countP_cons]
    cases e : g a with
    | none => simp [fm_len g l]
    | some b => simp [fm_len g l]
theorem range_count (xs : List (Option Nat)) : (List.range xs.length).countP (fun j => (xs.getD j none).isSome) = xs.countP (·.isSome) := by
  have e : xs = (List.range xs.length).map (fun j => xs.getD j none) := by
    apply List.ext_getElem
    · simp
    · intro i h1 h2
      simp [List.getD_eq_getElem?_getD, h1]
  conv => rhs; rw [e]
  rw [List.countP_map]
  rfl
theorem relaid_ok {t : SetTable} {hs : Array Int} {w M : Nat} (h : okM M) (hw : SetTable.sizeAbove w - 1 = M) (hl : hs.size ≤ M) : ∃ t' order, t.relaid hs w = some (t', order) ∧ Tab t' hs.size ∧ t'.mask = M ∧ t'.led = t.led ∧ order.size = hs.size ∧ ∀ i ∈ order, i < hs.size := by
  unfold SetTable.relaid SetTable.laid SetTable.layClean
  rw [hw]
  have O0 : Own M (Array.replicate (M + 1) none) 0 := ⟨by simp, by simp, fun i hi => by simp at hi⟩
  obtain ⟨owner, e, O⟩ := lay_fold h hs.toList _ 0 O0 (by rw [Array.length_toList]; omega)
  rw [Nat.zero_add, Array.length_toList] at e O
  rw [← Array.foldl_toList]
  rw [e]
  refine ⟨_, _, rfl, ?_, rfl, rfl, ?_, fun i hi => ?_⟩
  · refine ⟨h, rfl, ?_, hl⟩
    show ((List.map _ _).toArray).size = _
    rw [List.size_toArray, List.length_map, fm_len]
    have e1 := range_count owner.toList
    rw [O.cnt, Array.length_toList, O.sz] at e1
    rw [← e1]
    apply List.countP_congr
    intro j hj
    simp
  · show ((List.map _ _).toArray).size = _
    rw [List.size_toArray, List.length_map, fm_len]
    have e1 := range_count owner.toList
    rw [O.cnt, Array.length_toList, O.sz] at e1
    rw [← e1]
    apply List.countP_congr
    intro j hj
    simp
  · rw [List.mem_toArray] at hi
    obtain ⟨p, hp, rfl⟩ := List.mem_map.mp hi
    obtain ⟨j, hj, ej⟩ := List.mem_filterMap.mp hp
    obtain ⟨k, ek, rfl⟩ := Option.map_eq_some_iff.mp ej
    refine O.lt k ?_
    rw [Array.getD_eq_getD_getElem?] at ek
    cases e3 : owner[j]? with
    | none => rw [e3] at ek; cases ek
    | some x =>
      rw [e3] at ek
      have ek' : x = some k := ek
      subst ek'
      simpa using Array.mem_of_getElem? e3
end L2
set_option Elab.async false
set_option linter.all false
set_option maxRecDepth 100000
set_option maxHeartbeats 4000000
namespace L2
open PySem PySem.Spec PyProof.Rows PySem.SeqAt
section
variable {P : Program} {w : World} {A : Around} {E : Value → Shared → Prop} {s : Shared}
theorem ofc_key {k : Key} {v : Value} {n : Nat} {Q : Bool → Shared → Prop} (h : keyIs k v = true) (q : Q false s) : wpAny (model P w) A (ofAClassStatement n v) Q E s := by
  rcases keyIs_shape h with ⟨i, t, rfl, rfl⟩ | ⟨x, t, rfl, rfl⟩
  · exact wpAny_of_eq (by cases n <;> rfl) q
  · exact wpAny_of_eq (by cases n <;> rfl) q
theorem ofc_tup {a : Addr} {o : Obj} {it : Array Value} {m n : Nat} {Q : Bool → Shared → Prop} (go : s.heap.get? a = some o) (gc : o.cls = .type "tuple") (gd : o.data = .seq it m)
    (hi : ∀ y ∈ it.toList, ∀ Q' : Bool → Shared → Prop, Q' false s → wpAny (model P w) A (ofAClassStatement n y) Q' E s) (q : Q false s) : wpAny (model P w) A (ofAClassStatement (n + 1) (.ref a)) Q E s := by
  unfold ofAClassStatement
  refine wpAny_bind (wpAny_typeOf (T := "tuple") ⟨o, go, gc⟩ ?_)
  dsimp only
  rw [if_pos (by decide)]
  refine wpAny_bind (wpAny_pure ?_)
  simp only [Bool.not_true, Bool.false_eq_true, if_false]
  refine wpAny_bind (wpAny_seqItems go gd ?_)
  dsimp only
  refine wpAny_bind ?_
  rw [← Array.forIn_toList]
  refine wpAny_forIn_list _ (fun left c s1 => c.1 = none ∧ s1 = s ∧ ∀ y ∈ left, y ∈ it.toList) _ ?_ ?_ _ _ ⟨rfl, rfl, fun _ h => h⟩
  · rintro y left c s1 ⟨e, rfl, al⟩
    refine wpAny_bind (hi y (al y List.mem_cons_self) _ ?_)
    simp only [Bool.false_eq_true, if_false]
    exact wpAny_pure ⟨rfl, rfl, fun z hz => al z (List.mem_cons_of_mem _ hz)⟩
  · rintro ⟨c1, c2⟩ s1 ⟨e, rfl, _⟩
    simp only at e
    subst e
    exact wpAny_pure q
theorem ofc_item {x : E2} {v : Value} {n : Nat} {Q : Bool → Shared → Prop} (u : itIs P w s.heap x v) (q : Q false s) : wpAny (model P w) A (ofAClassStatement (n + 1) v) Q E s := by
  cases x with
  | inl k => exact ofc_key u q
  | inr ks =>
    obtain ⟨a, rfl, o, it, m, go, gc, gd, r⟩ := u
    refine ofc_tup go gc gd (fun y hy Q' q' => ?_) q
    obtain ⟨i, hi, e⟩ := List.getElem_of_mem hy
    obtain ⟨k, _, hk⟩ := items_at r i y (by rw [List.getElem?_eq_getElem hi, e])
    exact ofc_key hk q'
theorem ofc_two {x : K2} {a : Addr} {n : Nat} {Q : Bool → Shared → Prop} (u : Is2 P w s.heap x a) (q : Q false s) : wpAny (model P w) A (ofAClassStatement (n + 2) (.ref a)) Q E s := by
  obtain ⟨o, it, m, go, gc, gd, r⟩ := u
  refine ofc_tup go gc gd (fun y hy Q' q' => ?_) q
  obtain ⟨i, hi, e⟩ := List.getElem_of_mem hy
  obtain ⟨k, _, hk⟩ := pair_at r i y (by rw [List.getElem?_eq_getElem hi, e])
  exact ofc_item hk q'
theorem hbv_key {k : Key} {v : Value} {n : Nat} {Q : Bool → Shared → Prop} (h : keyIs k v = true) (q : ∀ b, Q b s) : wpAny (model P w) A (hashByValue n v) Q E s := by
  rcases keyIs_shape h with ⟨i, t, rfl, rfl⟩ | ⟨x, t, rfl, rfl⟩
  · exact wpAny_of_eq (a := true) (by cases n <;> rfl) (q _)
  · exact wpAny_of_eq (a := false) (by cases n <;> rfl) (q _)
theorem hbv_tup {a : Addr} {o : Obj} {it : Array Value} {m n : Nat} {Q : Bool → Shared → Prop} (go : s.heap.get? a = some o) (gc : o.cls = .type "tuple") (gd : o.data = .seq it m)
    (hi : ∀ y ∈ it.toList, ∀ Q' : Bool → Shared → Prop, (∀ b, Q' b s) → wpAny (model P w) A (hashByValue n y) Q' E s) (q : ∀ b, Q b s) : wpAny (model P w) A (hashByValue (n + 1) (.ref a)) Q E s := by
  unfold hashByValue
  refine wpAny_bind (wpAny_specialOf (T := "tuple") ⟨o, go, gc⟩ PySem.F.slot_tuple_hash.lookup ?_)
  dsimp only
  refine wpAny_bind (wpAny_seqItems go gd ?_)
  dsimp only [Option.getD_some]
  refine wpAny_bind ?_
  rw [← Array.forIn_toList]
  refine wpAny_forIn_list _ (fun left c s1 => c.1 = none ∧ s1 = s ∧ ∀ y ∈ left, y ∈ it.toList) _ ?_ ?_ _ _ ⟨rfl, rfl, fun _ h => h⟩
  · rintro y left c s1 ⟨e, rfl, al⟩
    refine wpAny_bind (hi y (al y List.mem_cons_self) _ fun b => ?_)
    cases b with
    | true =>
      simp only [Bool.not_true, Bool.false_eq_true, if_false]
      exact wpAny_pure ⟨rfl, rfl, fun z hz => al z (List.mem_cons_of_mem _ hz)⟩
    | false =>
      simp only [Bool.not_false, if_true]
      exact wpAny_pure (wpAny_pure (q _))
  · rintro ⟨c1, c2⟩ s1 ⟨e, rfl, _⟩
    simp only at e
    subst e
    exact wpAny_pure (q _)
theorem hbv_item {x : E2} {v : Value} {n : Nat} {Q : Bool → Shared → Prop} (u : itIs P w s.heap x v) (q : ∀ b, Q b s) : wpAny (model P w) A (hashByValue (n + 1) v) Q E s := by
  cases x with
  | inl k => exact hbv_key u q
  | inr ks =>
    obtain ⟨a, rfl, o, it, m, go, gc, gd, r⟩ := u
    refine hbv_tup go gc gd (fun y hy Q' q' => ?_) q
    obtain ⟨i, hi, e⟩ := List.getElem_of_mem hy
    obtain ⟨k, _, hk⟩ := items_at r i y (by rw [List.getElem?_eq_getElem hi, e])
    exact hbv_key hk q'
theorem hbv_two {x : K2} {a : Addr} {n : Nat} {Q : Bool → Shared → Prop} (u : Is2 P w s.heap x a) (q : ∀ b, Q b s) : wpAny (model P w) A (hashByValue (n + 2) (.ref a)) Q E s := by
  obtain ⟨o, it, m, go, gc, gd, r⟩ := u
  refine hbv_tup go gc gd (fun y hy Q' q' => ?_) q
  obtain ⟨i, hi, e⟩ := List.getElem_of_mem hy
  obtain ⟨k, _, hk⟩ := pair_at r i y (by rw [List.getElem?_eq_getElem hi, e])
  exact hbv_item hk q'
theorem seen_no {x : K2} {a : Addr} {Q : Bool → Shared → Prop} (u : Is2 P w s.heap x a) (l : List Value) (hl : ∀ y ∈ l, ∃ k b, y = .ref b ∧ Is2 P w s.heap k b) (q : Q false s) : wpAny (model P w) A (searchCouldBeSeen (.ref a) l) Q E s := by
  unfold searchCouldBeSeen
  refine wpAny_bind ?_
  refine wpAny_forIn_list _ (fun left c s1 => c.1 = none ∧ s1 = s ∧ ∀ y ∈ left, ∃ k b, y = .ref b ∧ Is2 P w s.heap k b) _ ?_ ?_ _ _ ⟨rfl, rfl, hl⟩
  · rintro y left c s1 ⟨e, rfl, al⟩
    obtain ⟨k, b, rfl, hb⟩ := al y List.mem_cons_self
    have al' := fun z hz => al z (List.mem_cons_of_mem _ hz)
    dsimp only
    split
    · exact wpAny_pure ⟨rfl, rfl, al'⟩
    · refine wpAny_bind (quiet2 u ?_)
      simp only [Bool.not_true, Bool.false_eq_true, if_false]
      refine wpAny_bind (quiet2 hb ?_)
      simp only [Bool.not_true, Bool.false_eq_true, if_false]
      refine wpAny_bind (ofc_two (n := 6) u ?_)
      simp only [Bool.false_eq_true, if_false]
      refine wpAny_bind (ofc_two (n := 6) hb ?_)
      simp only [Bool.false_eq_true, if_false]
      exact wpAny_pure ⟨rfl, rfl, al'⟩
  · rintro ⟨c1, c2⟩ s1 ⟨e, rfl, _⟩
    simp only at e
    subst e
    exact wpAny_pure q
end
theorem Tab.fits {t : SetTable} {n : Nat} (T : Tab t n) : t.fits n = true := by
  unfold SetTable.fits SetTable.fill
  have := T.le
  rw [T.dm, T.sz]
  simp
  omega
theorem Tab.gave {t : SetTable} {n : Nat} (T : Tab t n) : t.gaveWay = false := by
  unfold SetTable.gaveWay
  rcases T.ok with h | h | h | h <;> (rw [h]; rfl)
theorem probe_met {t : SetTable} {n : Nat} (T : Tab t n) {hashAt : Nat → Int} {h : Int} {p0 : SetTable.Probe} (hd : p0.dummy = none) {N m : Nat} (hN : t.slot (itn t.advance N p0).j = .empty) (hl : N < 10 * SetTable.turns t.mask) (hm : m ≤ N) {r : Option SetTable.Met} (e : t.probe hashAt h (itn t.advance m p0) = r) :
    (∃ j, r = some (.empty j none) ∧ t.slot j = .empty) ∨ ∃ m' j i, m ≤ m' ∧ m' < N ∧ r = some (.candidate j i (itn t.advance (m' + 1) p0)) ∧ t.slot j = .live i := by
  rcases probe_at T (hashAt := hashAt) (h := h) hd hN hl hm with ⟨j, e1, e2⟩ | ⟨m', j, i, a, b, c, d, _⟩
  · exact .inl ⟨j, by rw [← e, e1], e2⟩
  · exact .inr ⟨m', j, i, a, b, by rw [← e, c], d⟩
section
variable {P : Program} {w : World} {A : Around} {E : Value → Shared → Prop} {s : Shared}
theorem search_free {S a : Addr} {k : K2} {o : Obj} {es : Array (Int × Value)} {ep : Nat} {t : SetTable} {h : Int} {N : Nat} {Q : SetFound → Shared → Prop} (ho : s.heap.get? S = some o) (hd : o.data = .set es ep t) (T : Tab t es.size)
    (mem : ∀ e ∈ es.toList, ∃ k' b, e.2 = .ref b ∧ Is2 P w s.heap k' b ∧ k' ≠ k) (hk : Is2 P w s.heap k a) (hu : A.units + 8 < cLine) (hN : t.slot (itn t.advance N (t.probeStart h)).j = .empty) (hl : N < 10 * SetTable.turns t.mask)
    (q : ∀ j, t.slot j = .empty → Q (.free j false) s) : ∀ (fuel m : Nat) (stand : Option SetTable.Probe), m ≤ N → N - m < fuel → stand.getD (t.probeStart h) = itn t.advance m (t.probeStart h) → wpAny (model P w) A (setSearchFrom S (.ref a) h true fuel stand) Q E s
  | 0, _, _, _, hf, _ => absurd hf (Nat.not_lt_zero _)
  | fuel + 1, m, stand, hm, hf, hst => by
    unfold setSearchFrom
    refine wpAny_bind (wpAny_setState_of ho hd T.fits ?_)
    dsimp only
    rw [T.gave]
    simp only [Bool.false_eq_true, if_false]
    rw [hst]
    split
    · rename_i met e
      rcases probe_met T rfl hN hl hm e with ⟨j, e1, hj⟩ | ⟨m', j, i, h1, h2, e1, hj⟩
      · cases e1
        exact wpAny_pure (q j hj)
      · cases e1
        dsimp only
        have hi : ∃ y, es[i]? = some y := by
          rcases slot_cases T j with z | ⟨i', z, z2⟩
          · rw [z] at hj; cases hj
          · rw [z] at hj
            cases hj
            have : i < t.place.size := (Array.getElem?_eq_some_iff.mp z2).1
            rw [T.sz] at this
            exact ⟨_, Array.getElem?_eq_getElem this⟩
        obtain ⟨⟨hy, y⟩, ey⟩ := hi
        obtain ⟨k', b, eb, ib, nk⟩ := mem (hy, y) (by simpa using Array.mem_of_getElem? ey)
        have eb' : y = .ref b := eb
        subst eb'
        have go : wpAny (model P w) A (setSearchFrom S (.ref a) h true fuel (some (itn t.advance (m' + 1) (t.probeStart h)))) Q E s :=
          search_free ho hd T mem hk hu hN hl q fuel (m' + 1) _ (by omega) (by omega) rfl
        have rest : wpAny (model P w) A (do
            let equal ← holding [Value.ref b] (eqBool (.ref b) (.ref a))
            let (es', _, t') ← setState S
            if true && equal then return .there none
            let some same := t'.sameMemory t.moves t.mask | unsupported "set.changed-during-lookup:is-the-new-block-at-the-old-address"
            let still ← match (if same then t'.slot j else .empty) with
              | .live i' => match es'[i']? with
                | some (_, y') => do pure (if ← isSame y' (.ref b) then some i' else none)
                | none => pure none
              | _ => pure none
            match still with
            | none => rule "set.search.anew"; setSearchFrom S (.ref a) h true fuel none
            | some i' => if equal then return .there (some i') else setSearchFrom S (.ref a) h true fuel (some (itn t.advance (m' + 1) (t.probeStart h)))) Q E s := by
          refine wpAny_bind (wpAny_holding (eq_two hu ib hk P w _ _ ?_))
          rw [decide_eq_false nk]
          refine wpAny_bind (wpAny_setState_of ho hd T.fits ?_)
          dsimp only
          simp only [Bool.and_false, Bool.false_eq_true, if_false]
          have em : t.sameMemory t.moves t.mask = some true := by unfold SetTable.sameMemory; rw [if_pos (by simp)]
          rw [em]
          dsimp only
          rw [if_pos rfl, hj]
          dsimp only
          rw [ey]
          dsimp only
          refine wpAny_bind (wpAny_isSame_ref_self (wpAny_bind (wpAny_pure ?_)))
          rw [if_pos rfl]
          exact go
        have many : ∀ z ∈ (es.filter (·.1 == h)).toList.map (·.2), ∃ k b, z = .ref b ∧ Is2 P w s.heap k b := fun z hz => by
          obtain ⟨e, he, rfl⟩ := List.mem_map.mp hz
          have he' : e ∈ es.toList := by
            rw [Array.toList_filter] at he
            exact (List.mem_filter.mp he).1
          obtain ⟨k1, b1, z1, z2, _⟩ := mem e he'
          exact ⟨k1, b1, z1, z2⟩
        cases hled : t.led with
        | true =>
          simp only [Bool.not_true, Bool.false_eq_true, if_false]
          rw [ey]
          exact rest
        | false =>
          simp only [Bool.not_false, if_true]
          refine wpAny_bind (seen_no hk _ many ?_)
          simp only [Bool.false_eq_true, if_false]
          rw [ey]
          exact rest
    · rename_i e
      exact ((probe_met T rfl hN hl hm rfl).elim (fun ⟨_, e1, _⟩ => e _ e1) (fun ⟨_, _, _, _, _, e1, _⟩ => e _ e1)).elim
end
end L2
set_option Elab.async false
set_option linter.all false
set_option maxRecDepth 100000
set_option maxHeartbeats 4000000
namespace L2
open PySem PySem.Spec PyProof.Rows PySem.SeqAt
section
variable {P : Program} {w : World}
theorem key_to {h h' : Heap} (kp : ∀ b o, h.get? b = some o → o.cls = .type "tuple" → h'.get? b = some o) {ks : List Key} {a : Addr} (u : IsTupleKey (mixKind P w) h ks a) : IsTupleKey (mixKind P w) h' ks a := by
  obtain ⟨o, it, m, go, gc, gd, r⟩ := u
  exact ⟨o, it, m, kp a o go gc, gc, gd, r⟩
theorem Is2.to {h h' : Heap} (kp : ∀ b o, h.get? b = some o → o.cls = .type "tuple" → h'.get? b = some o) {x : K2} {a : Addr} (u : Is2 P w h x a) : Is2 P w h' x a := by
  obtain ⟨o, it, m, go, gc, gd, r⟩ := u
  refine ⟨o, it, m, kp a o go gc, gc, gd, L2.Paired.mapP r fun e v z => ?_⟩
  cases e with
  | inl k => exact z
  | inr ks =>
    obtain ⟨q, e, t⟩ := z
    exact ⟨q, e, key_to kp t⟩
structure SetS (P : Program) (w : World) (h : Heap) (S : Addr) (n : Nat) (ks : List K2) : Prop where
  ex : ∃ o es ep t, h.get? S = some o ∧ o.ExactSet ∧ o.data = .set es ep t ∧ es.size = n ∧ Tab t n ∧ 5 * n < 3 * t.mask ∧ ∀ e ∈ es.toList, ∃ k ∈ ks, ∃ b, e.2 = .ref b ∧ Is2 P w h k b
theorem ins_size {α : Type} (xs : Array α) (p : Nat) (x : α) : (SetTable.insertAt xs p x).size = xs.size + 1 := by
  have := (SetTable.insertAt_perm xs p x).length_eq
  simpa using this
theorem ins_mem {α : Type} {xs : Array α} {p : Nat} {x y : α} (h : y ∈ (SetTable.insertAt xs p x).toList) : y ∈ xs.toList ∨ y = x := by
  have := (SetTable.insertAt_perm xs p x).mem_iff.mp h
  rw [Array.toList_push, List.mem_append, List.mem_singleton] at this
  exact this
theorem Tab.put {t : SetTable} {n j : Nat} (T : Tab t n) (hn : n + 1 ≤ t.mask) : Tab (t.put j).1 (n + 1) ∧ (t.put j).1.mask = t.mask := by
  refine ⟨⟨T.ok, ?_, ?_, hn⟩, rfl⟩
  · show (if SetTable.has t.dummies j = true then _ else t.dummies) = #[]
    rw [T.dm, if_neg (by unfold SetTable.has; simp)]
  · show (SetTable.insertAt t.place _ j).size = n + 1
    rw [ins_size, T.sz]
variable {A : Around} {E : Value → Shared → Prop} {s : Shared}
theorem put_get {h : Heap} {S : Addr} {o : Obj} {es es' : Array (Int × Value)} {ep : Nat} {t t' : SetTable} (ho : h.get? S = some o) (hd : o.data = .set es ep t) : (h.update S (Obj.putSet es' t')).get? S = some { o with data := .set es' (ep + 1) t' } := by
  have z := Heap.get?_update_self (Obj.putSet es' t') ho (by rw [putSet_of es' t' hd]; rfl)
  rwa [putSet_of es' t' hd] at z
theorem relay_ok {S : Addr} {o : Obj} {es : Array (Int × Value)} {ep : Nat} {t : SetTable} {M wn : Nat} {Q : Unit → Shared → Prop} (ho : s.heap.get? S = some o) (hd : o.data = .set es ep t) (T : Tab t es.size) (hM : okM M) (hw : SetTable.sizeAbove wn - 1 = M) (hl : es.size ≤ M)
    (q : ∀ es' t', Tab t' es.size → t'.mask = M → es'.size = es.size → (∀ e ∈ es'.toList, e ∈ es.toList) → Q () { s with heap := s.heap.update S (Obj.putSet es' t') }) : wpAny (model P w) A (setRelay S wn) Q E s := by
  unfold setRelay
  refine wpAny_bind (wpAny_setState_of ho hd T.fits ?_)
  dsimp only
  have hM' : M ≤ 511 := by rcases hM with h | h | h | h <;> omega
  have zl : sizeLine = 16777216 := sizeLine_eq
  have hz : ¬ SetTable.sizeAbove wn > sizeLine := by omega
  rw [if_neg hz]
  obtain ⟨t', order, e, T', em, _, eo, lo⟩ := relaid_ok (t := t) (hs := es.map (·.1)) hM hw (by simpa using hl)
  rw [Array.size_map] at T' eo lo
  rw [e]
  have hs' : (order.filterMap (es[·]?)).size = es.size := by
    rw [← Array.length_toList, Array.toList_filterMap, fm_len, ← eo, ← Array.length_toList]
    refine List.countP_eq_length.mpr fun i hi => ?_
    have := lo i (by simpa using hi)
    simp [this]
  refine wpAny_bind (wpAny_of_eq (a := (order.filterMap (es[·]?), t')) ((if_neg (by simp [hs'])).trans rfl) ?_)
  refine wpAny_storeSet_of ho hd (q _ _ T' em hs' fun x hx => ?_) (by show (order.filterMap (es[·]?)).size ≤ sizeLine; omega)
  rw [Array.toList_filterMap] at hx
  obtain ⟨i, _, ei⟩ := List.mem_filterMap.mp hx
  simpa using Array.mem_of_getElem? ei
theorem add_new {S a : Addr} {n : Nat} {k : K2} {ks : List K2} {h : Int} {Q : Bool → Shared → Prop} (SS : SetS P w s.heap S n ks) (hk : Is2 P w s.heap k a) (nk : k ∉ ks) (hn : n < 200) (hu : A.units + 8 < cLine)
    (q : ∀ h', Heap.SameBut S s.heap h' → SetS P w h' S (n + 1) (ks ++ [k]) → Q true { s with heap := h' }) : wpAny (model P w) A (setAddHashed S (.ref a) h) Q E s := by
  obtain ⟨o, es, ep, t, ho, hex, hd, rfl, T, lo, mem⟩ := SS.ex
  have mask : t.mask = 7 ∨ t.mask = 31 ∨ t.mask = 127 ∨ t.mask = 511 := T.ok
  unfold setAddHashed setAddHashedIn
  refine wpAny_holding (wpAny_bind (wpAny_setState_of ho hd T.fits ?_))
  dsimp only
  rw [show byScan (.ref a) es = false from rfl]
  simp only [Bool.false_eq_true, if_false]
  unfold setSearch
  obtain ⟨N, hN, eN⟩ := far T h
  have hN' : N < 100000 := by unfold SetTable.turns at hN; omega
  refine wpAny_bind (search_free ho hd T (fun e he => ?_) hk hu eN hN (fun j hj => ?_) 100000 0 none (Nat.zero_le _) (by omega) rfl)
  · obtain ⟨k', hk', b, e1, e2⟩ := mem e he
    exact ⟨k', b, e1, e2, fun z => nk (z ▸ hk')⟩
  dsimp only
  refine wpAny_bind (wpAny_setState_of ho hd T.fits ?_)
  dsimp only
  obtain ⟨T1, m1⟩ := T.put (j := j) (by omega)
  obtain ⟨t1, p, e1⟩ : ∃ t1 p, t.put j = (t1, p) := ⟨_, _, rfl⟩
  rw [e1] at T1 m1 ⊢
  dsimp only at T1 m1 ⊢
  have tail : ∀ t2 : SetTable, Tab t2 (es.size + 1) → t2.mask = t.mask → wpAny (model P w) A (do
      storeSet S (SetTable.insertAt es p (h, Value.ref a)) t2
      if (!false && t2.tooFull) = true then do
        setRelay S (SetTable.grown (es.size + 1))
        pure true
      else pure true) Q E s := fun t2 T2 m2 => by
    have sz1 : (SetTable.insertAt es p (h, Value.ref a)).size = es.size + 1 := ins_size _ _ _
    have zl : sizeLine = 16777216 := sizeLine_eq
    refine wpAny_bind (wpAny_storeSet_of ho hd ?_ (by omega))
    have sb1 : Heap.SameBut S s.heap (s.heap.update S (Obj.putSet (SetTable.insertAt es p (h, Value.ref a)) t2)) := Heap.SameBut.update _ _ _
    have kp : ∀ {h' : Heap}, Heap.SameBut S s.heap h' → ∀ b o, s.heap.get? b = some o → o.cls = .type "tuple" → h'.get? b = some o := fun {h'} sb b ob eb ec => by
      have ne : b ≠ S := fun z => by
        subst z
        rw [ho] at eb
        cases eb
        rw [hex.1] at ec
        exact absurd ec (by decide)
      rw [sb.2 b ne]
      exact eb
    have mem1 : ∀ {h' : Heap}, Heap.SameBut S s.heap h' → ∀ e ∈ (SetTable.insertAt es p (h, Value.ref a)).toList, ∃ k' ∈ ks ++ [k], ∃ b, e.2 = .ref b ∧ Is2 P w h' k' b := fun {h'} sb e he => by
      rcases ins_mem he with z | rfl
      · obtain ⟨k', hk', b, e1, e2⟩ := mem e z
        exact ⟨k', List.mem_append_left _ hk', b, e1, e2.to (kp sb)⟩
      · exact ⟨k, by simp, a, rfl, hk.to (kp sb)⟩
    have full : t2.tooFull = decide ((es.size + 1) * 5 ≥ t.mask * 3) := by
      unfold SetTable.tooFull SetTable.fill
      rw [T2.sz, T2.dm, m2]
      rfl
    have ho1 := put_get (es' := SetTable.insertAt es p (h, Value.ref a)) (t' := t2) ho hd
    by_cases c : (es.size + 1) * 5 ≥ t.mask * 3
    · rw [full, decide_eq_true c]
      simp only [Bool.not_false, Bool.and_self, if_true]
      obtain ⟨M, okm, wM, lM, lM2⟩ : ∃ M, okM M ∧ SetTable.sizeAbove (SetTable.grown (es.size + 1)) - 1 = M ∧ es.size + 1 ≤ M ∧ 5 * (es.size + 1) < 3 * M := by
        rcases mask with z | z | z | z
        · have : es.size = 4 := by omega
          rw [this]
          exact ⟨31, .inr (.inl rfl), by decide +kernel, by decide, by decide⟩
        · have : es.size = 18 := by omega
          rw [this]
          exact ⟨127, .inr (.inr (.inl rfl)), by decide +kernel, by decide, by decide⟩
        · have : es.size = 76 := by omega
          rw [this]
          exact ⟨511, .inr (.inr (.inr rfl)), by decide +kernel, by decide, by decide⟩
        · omega
      refine wpAny_bind (relay_ok (M := M) ho1 rfl (by rw [sz1]; exact T2) okm wM (by omega) fun es' t' T' em se sub => ?_)
      refine wpAny_pure (q _ (sb1.trans (Heap.SameBut.update _ _ _)) ⟨_, es', _, t', put_get ho1 rfl, hex, rfl, by omega, ?_, by omega, fun e he => mem1 (sb1.trans (Heap.SameBut.update _ _ _)) e (sub e he)⟩)
      rw [sz1] at T'
      exact T'
    · rw [full, decide_eq_false c]
      simp only [Bool.not_false, Bool.and_false, Bool.false_eq_true, if_false]
      exact wpAny_pure (q _ sb1 ⟨_, _, _, t2, ho1, hex, rfl, sz1, T2, by omega, mem1 sb1⟩)
  have fin : ∀ b : Bool, Tab (if b = true then t1 else { t1 with plain := false }) (es.size + 1) ∧ (if b = true then t1 else { t1 with plain := false }).mask = t.mask := fun b => by
    cases b
    · exact ⟨⟨T1.ok, T1.dm, T1.sz, T1.le⟩, m1⟩
    · exact ⟨T1, m1⟩
  split
  · exact wpAny_bind (hbv_two (n := 6) hk fun b => tail _ (fin b).1 (fin b).2)
  · exact wpAny_bind (wpAny_pure (tail _ (fin true).1 (fin true).2))
end
end L2
set_option Elab.async false
set_option linter.all false
set_option maxRecDepth 100000
set_option maxHeartbeats 4000000
namespace L2
open PySem PySem.Spec PyProof.Rows PySem.SeqAt
section
variable {P : Program} {w : World}
theorem SetS.to {h h' : Heap} {S : Addr} {n : Nat} {ks : List K2} (SS : SetS P w h S n ks) (kS : ∀ o, h.get? S = some o → h'.get? S = some o) (kp : ∀ b o, h.get? b = some o → o.cls = .type "tuple" → h'.get? b = some o) : SetS P w h' S n ks := by
  obtain ⟨o, es, ep, t, ho, hex, hd, en, T, lo, mem⟩ := SS.ex
  refine ⟨o, es, ep, t, kS o ho, hex, hd, en, T, lo, fun e he => ?_⟩
  obtain ⟨k, hk, b, e1, e2⟩ := mem e he
  exact ⟨k, hk, b, e1, e2.to kp⟩
theorem iter_tup {h h' : Heap} {I l : Addr} {i : Nat} (it : h.IsListIter I l i) (kp : ∀ b o, b ∉ [I] → h.get? b = some o → h'.get? b = some o) : ∀ b o, h.get? b = some o → o.cls = .type "tuple" → h'.get? b = some o := fun b o eb ec => by
  refine kp b o (fun hm => ?_) eb
  have z : b = I := by simpa using hm
  subst z
  obtain ⟨o', ho', hc', _⟩ := it
  rw [eb] at ho'
  cases ho'
  rw [hc'] at ec
  exact absurd ec (by decide)
variable {A : Around} {R : Result → Shared → Prop} {I l S : Addr} {items : Array Value} {h0 : Heap} {ks : List K2}
theorem upd_loop (hh : A.in1.handled = none) (hI : l ≠ I) (sI : S ≠ I) (sl : S ≠ l) (nS : h0.get? S = none) (nI : h0.get? I = none) (hu : A.in1.units + 8 < cLine) (ez : items.size = ks.length)
    (hv : ∀ (i : Nat) (v : Value), items[i]? = some v → ∃ (a : Addr) (k : K2), v = Value.ref a ∧ ks[i]? = some k ∧ Is2 P w h0 k a) (nd : ks.Nodup) (hb : ks.length < 200) :
    ∀ (c i : Nat) (s : Shared), items.size - i = c → i ≤ items.size → (s.heap.IsListIter I l i ∧ s.heap.IsList l items) → (∀ b o, h0.get? b = some o → s.heap.get? b = some o) → SetS P w s.heap S i (ks.take i) →
      (∀ h' tk, (∀ b o, h0.get? b = some o → h'.get? b = some o) → SetS P w h' S items.size ks → R (.ok (.ret .none)) { s with heap := h', toks := tk }) →
      codeAny (model P w) A (.builtin "set.update.loop" ⟨[.ref S, .ref I], []⟩) R s := by
  have W := Walks.list (prog := P) (w := w) (A := A.in1) hh I l hI items
  intro c
  induction c with
  | zero =>
    intro i s hc hi st kp SS k
    have ei : i = items.size := by omega
    subst ei
    refine codeAny_builtin PyProof.Rows.F.entry_set_update_loop ?_
    rw [Around.under_plainId PyProof.Rows.F.plain_set_update_loop _]
    show wpAny _ A.in1 (pyNext (.ref I) >>= fun _ => _) _ _ s
    refine wpAny_bind (W.done s _ _ st fun h1 tk k1 => ?_)
    show wpAny _ A.in1 (ret Value.none) _ _ _
    refine wpAny_pure (k h1 tk (fun b o e => k1 b o (fun hm => ?_) (kp b o e)) ?_)
    · have z : b = I := by simpa using hm
      rw [z, nI] at e
      cases e
    · have := SS.to (fun o e => k1 S o (by simpa using sI) e) (iter_tup st.1 k1)
      rwa [ez, List.take_length, ← ez] at this
  | succ c ih =>
    intro i s hc hi st kp SS k
    have hlt : i < items.size := by omega
    refine codeAny_builtin PyProof.Rows.F.entry_set_update_loop ?_
    rw [Around.under_plainId PyProof.Rows.F.plain_set_update_loop _]
    show wpAny _ A.in1 (pyNext (.ref I) >>= fun _ => _) _ _ s
    refine wpAny_bind (W.item i s _ _ hlt st fun v h1 tk hP st1 k1 => ?_)
    obtain ⟨a, ky, rfl, ek, u⟩ := hv i v hP
    have kp1 : ∀ b o, h0.get? b = some o → h1.get? b = some o := fun b o e => k1 b o (fun hm => by
      have z : b = I := by simpa using hm
      rw [z, nI] at e
      cases e) (kp b o e)
    have SS1 : SetS P w h1 S i (ks.take i) := SS.to (fun o e => k1 S o (by simpa using sI) e) (iter_tup st.1 k1)
    have u1 : Is2 P w h1 ky a := u.to fun b o e _ => kp1 b o e
    have tk1 : ks.take (i + 1) = ks.take i ++ [ky] := by rw [List.take_add_one, ek]; rfl
    have nk : ky ∉ ks.take i := fun hm => by
      have nd' : (ks.take (i + 1)).Nodup := nd.sublist (List.take_sublist _ _)
      rw [tk1, List.nodup_append] at nd'
      exact nd'.2.2 ky hm ky (by simp) rfl
    show wpAny _ A.in1 (holding [Value.ref a] (setAdd S (.ref a)) >>= fun _ => _) _ _ _
    refine wpAny_bind (wpAny_holding ?_)
    unfold setAdd
    refine wpAny_holding (wpAny_bind (hash_two hu u1 ?_))
    refine add_new (s := { s with heap := h1, toks := tk + draws2 ky }) SS1 u1 nk (by omega) hu fun h2 sb SS2 => ?_
    refine wpAny_pure ⟨plainId_quiet PyProof.Rows.F.plain_set_update_loop _, ih (i + 1) _ (by omega) hlt (W.frame (i + 1) h1 h2 st1 fun b hb o e => ?_) (fun b o e => ?_) ?_ fun h' tk' => k h' tk'⟩
    · have ne : b ≠ S := by
        rintro rfl
        simp only [List.mem_cons, List.not_mem_nil, or_false] at hb
        rcases hb with z | z
        · exact sI z
        · exact sl z
      rw [sb.2 b ne]
      exact e
    · have ne : b ≠ S := by
        rintro rfl
        rw [nS] at e
        cases e
      show h2.get? b = some o
      rw [sb.2 b ne]
      exact kp1 b o e
    · show SetS P w h2 S (i + 1) (ks.take (i + 1))
      rw [tk1]
      exact SS2
theorem fresh_set {h : Heap} {S : Addr} {led : Bool} (e : h.get? S = some { cls := .type "set", dict := none, data := .set #[] 0 (.fresh 0 0 led) }) : SetS P w h S 0 [] :=
  ⟨_, #[], 0, _, e, ⟨rfl, rfl, rfl⟩, rfl, rfl, ⟨.inl rfl, rfl, rfl, Nat.zero_le _⟩, (show 5 * 0 < 3 * 7 by decide), fun e he => by simp at he⟩
end
section
variable {P : Program} {w : World} {A : Around} {E : Value → Shared → Prop} {s : Shared}
theorem call_setE {l : Addr} {items : Array Value} {ks : List K2} {Q : Value → Shared → Prop} (hh : A.handled = none) (hl : s.heap.IsList l items) (hu : A.units + 64 < cLine) (ez : items.size = ks.length)
    (hv : ∀ (i : Nat) (v : Value), items[i]? = some v → ∃ (a : Addr) (k : K2), v = Value.ref a ∧ ks[i]? = some k ∧ Is2 P w s.heap k a) (nd : ks.Nodup) (hb : ks.length < 200)
    (q : ∀ h' tk, SetS P w h' s.heap.objs.size ks.length ks → (∀ b o, s.heap.get? b = some o → h'.get? b = some o) → Q (.ref s.heap.objs.size) { s with heap := h', toks := tk }) :
    wpAny (model P w) A (call (.type "set") [.ref l]) Q E s := by
  obtain ⟨cm, cl, m1⟩ := PySem.F.called_set.mro
  have m2 := PySem.F.called_set.made
  have m3 := PySem.F.called_set.sub
  refine wpAny_call (codeAny_of_tree ?_)
  show wpAny _ _ (callAny (.type "set") _) _ _ s
  refine wpAny_pure ⟨Code.quiet_builtin _ (by decide +kernel), codeAny_builtin PySem.F.entry_type_call ?_⟩
  rw [Around.under_plain (weight_type_call_type "set" [Value.ref l] []) rfl]
  have m4 := PySem.F.called_set.notType
  have m5 := PySem.F.called_set.canCreate
  have m6 := PySem.F.typeCall_set_1 (.ref l)
  (repeat (any_goals (first | assumption | wp_step))); skip
  refine codeAny_mono (code_set_new_1 (.ref l) (E := E) (Q₁ := fun v s1 => ∃ led : Bool, v = .ref s.heap.objs.size ∧ s1 = { s with heap := s.heap.push { cls := .type "set", dict := none, data := .set #[] 0 (.fresh 0 0 led) } }) fun led => ⟨led, rfl, rfl⟩) fun r s1 hr => ?_
  cases r with
  | error e => exact hr
  | ok fl =>
    cases fl with
    | ret v =>
      obtain ⟨led, rfl, rfl⟩ := hr
      obtain ⟨h1, eh1⟩ : ∃ h1, s.heap.push { cls := .type "set", dict := none, data := .set #[] 0 (.fresh 0 0 led) } = h1 := ⟨_, rfl⟩
      have g1 : h1.get? s.heap.objs.size = some { cls := .type "set", dict := none, data := .set #[] 0 (.fresh 0 0 led) } := by
        rw [← eh1]
        exact Heap.get?_push_size _ rfl
      have z1 : h1.objs.size = s.heap.objs.size + 1 := by rw [← eh1, Heap.size_push]
      have k1 : ∀ b o, s.heap.get? b = some o → h1.get? b = some o := fun b o e => by
        rw [← eh1]
        exact Heap.get?_push_of_some _ e
      rw [eh1]
      have ty : Shared.TypeIs { s with heap := h1 } (.ref s.heap.objs.size) "set" := ⟨_, g1, rfl⟩
      have i1 := PySem.F.called_set.init.lookup
      have i2 := PySem.F.called_set.init.bind (.ref s.heap.objs.size)
      (repeat (any_goals (first | assumption | wp_step))); skip
      refine codeAny_mono (codeAny_call_builtin (R := wants (fun r s2 => r = .none ∧ ∃ h' tk, s2 = { s with heap := h', toks := tk } ∧ SetS P w h' s.heap.objs.size ks.length ks ∧ ∀ b o, s.heap.get? b = some o → h'.get? b = some o) E)
        PySem.F.called_set.init.plain PySem.F.entry_set_init (check_set_init_1 ty ?_)) fun r2 s2 hr2 => ?_
      · obtain ⟨ol, hol, hcl, nl, hdl⟩ := hl
        obtain ⟨ocls, odict, odata, oslots⟩ := ol
        simp only at hcl hdl
        subst hcl; subst hdl
        have hol1 := k1 _ _ hol
        have n1 := PySem.F.sub_list_set
        have n2 := PySem.F.sub_list_frozenset
        have n3 : (Value.type "list" == Value.type "dict") = false := by decide
        have hl1 : h1.IsList l items := ⟨_, hol1, rfl, nl, rfl⟩
        unfold Builtin.«set.__init__»
        unfold noKeywords
        unfold Builtin.Frozenset.updateFrom
        generalize hPI : pyIter = PI
        wp_walk
        subst hPI
        refine wpAny_pyIter_list hl1 ?_
        refine wpAny_bind (wpAny_runValue ?_)
        have lt : l < s.heap.objs.size := Heap.lt_size hol
        have none_at : ∀ b, s.heap.objs.size ≤ b → s.heap.get? b = none := fun b hb => by
          cases e : s.heap.get? b with
          | none => rfl
          | some o => exact absurd (Heap.lt_size e) (Nat.not_lt.mpr hb)
        refine upd_loop (h0 := s.heap) (ks := ks) (l := l) (items := items) (by simp [hh]) (Nat.ne_of_lt (show l < h1.objs.size by rw [z1]; exact Nat.lt_succ_of_lt lt)) (Nat.ne_of_lt (show s.heap.objs.size < h1.objs.size by rw [z1]; exact Nat.lt_succ_self _)) (Nat.ne_of_gt lt) (none_at _ (Nat.le_refl _)) (none_at _ (show s.heap.objs.size ≤ h1.objs.size by rw [z1]; exact Nat.le_succ _)) (by show A.units + 1 + 1 + 1 + 8 < cLine; omega) ez hv nd hb (items.size - 0) 0 _ (by omega) (Nat.zero_le _)
          ⟨⟨_, Heap.get?_push_size _ rfl, rfl, rfl⟩, (hl1.push _)⟩ (fun b o e => Heap.get?_push_of_some _ (k1 b o e)) (fresh_set (Heap.get?_push_of_some _ g1)) fun h' tk kp SS => ?_
        show wpAny _ _ _ _ _ _
        refine wpAny_pure ?_
        show wpAny _ _ (ret Value.none) _ _ _
        exact wpAny_pure ⟨rfl, h', tk, rfl, by rw [← ez]; exact SS, kp⟩
      · cases r2 with
        | error e => exact hr2
        | ok fl2 =>
          cases fl2 with
          | ret r =>
            obtain ⟨rfl, h', tk, rfl, SS, kp⟩ := hr2
            (repeat (any_goals (first | assumption | wp_step))); skip
            exact q _ _ SS kp
          | _ => exact hr2.elim
    | _ => exact hr.elim
end
end L2
set_option Elab.async false
set_option linter.all false
set_option maxRecDepth 100000
set_option maxHeartbeats 4000000
namespace L2
open PySem PySem.Spec PyProof.Rows PySem.SeqAt
section
variable {X : Cx}
def tLenSetE (K : PySem.W.Frag) (t : TA) : TE := fun σ H Q => t σ H fun xs H1 => ∃ (p : Addr) (vs : List V) (ks : List K2), xs = [.ref p] ∧ SqL K H1 p vs ∧ HasL K H1 vs (ks.map k2D) ∧ ks.Nodup ∧ ks.length < 200 ∧ Q (.int ks.length) H1
theorem pe_lensetE (K : PySem.W.Frag) {e : Expr} {t : TA} {p1 p2 pos1 pos2 : Pos} (hK : X.K = K) (hu : X.A.units + 64 < cLine) (hc : X.calm = true) (hg1 : Gl X "len") (hm1 : X.mg "len" = none) (hg2 : Gl X "set") (hm2 : X.mg "set" = none) (ha : PA X [e] t)
    (s1 : starEach [e] X.env = [(false, eval e X.env)] := by rfl) (b1 : (backTo pos2 (starEach [] X.env)).any (·.1) = false := by rfl)
    (s2 : starEach [.Call (.Name "set" p2) [e] [] pos2] X.env = (false, eval (.Call (.Name "set" p2) [e] [] pos2) X.env) :: starEach [] X.env := by rfl) (b2 : (backTo pos1 (starEach [] X.env)).any (·.1) = false := by rfl) :
    PE X (.Call (.Name "len" p1) [.Call (.Name "set" p2) [e] [] pos2] [] pos1) (tLenSetE K t) := by
  subst hK
  intro pins s σ H Q I h
  refine wpAny_Call_Name_kw (ld_blt I hg1 hm1 PySem.boot_len ?_ (by decide) (by decide))
  refine PyProof.Rows.callWith_builtin1 ?_ s2 b2
  rw [s2]
  show wpAny _ _ (spliced ((false, eval (.Call (.Name "set" p2) [e] [] pos2) X.env) :: backTo pos1 (starEach [] X.env))) _ _ s
  refine Calls.spliced_cons ?_
  refine wpAny_Call_Name_kw (ld_blt I hg2 hm2 boot_set ?_ (by decide) (by decide))
  refine PyProof.Rows.callWith_type1 (thn (ha pos2 pins s σ H _ I h) fun us s1 ⟨vs, H1, I1, r1, q1⟩ => ?_) s1 b1
  obtain ⟨p, xs, ks, rfl, hq, hx, nd, hn, q⟩ := q1
  obtain ⟨u, rfl, rx⟩ := vals1 r1
  cases rx
  obtain ⟨its, r', pl, hz⟩ := I1.list hq
  have lz : its.length = xs.length := r'.length.symm
  have lx : xs.length = ks.length := by rw [hx.length, List.length_map]
  refine call_setE (ks := ks) (I1.ok.hd hc) pl.isList hu (by rw [List.size_toArray, lz, lx]) (fun i v ev => ?_) nd hn fun h' tk SS kp => ?_
  · have ev' : its[i]? = some v := by simpa using ev
    have hi : i < xs.length := by rw [← lz]; exact (List.getElem?_eq_some_iff.mp ev').1
    obtain ⟨x, e1⟩ : ∃ x, xs[i]? = some x := ⟨_, List.getElem?_eq_getElem hi⟩
    obtain ⟨v', e3, e2⟩ := r'.get e1
    rw [ev'] at e3
    cases e3
    obtain ⟨d, hd, hxd⟩ := hx.get e1
    rw [List.getElem?_map] at hd
    cases ek : ks[i]? with
    | none => rw [ek] at hd; cases hd
    | some k =>
      rw [ek] at hd
      cases hd
      obtain ⟨a, ys, rfl, _⟩ := has_tup hxd
      cases e2
      exact ⟨a, k, rfl, rfl, is2_of I1 hxd⟩
  refine Calls.spliced_nil ?_
  obtain ⟨o, es, ep, t, ho, hex, hd, en, T, _, _⟩ := SS.ex
  refine call_len_set ho hex hd (by rw [en]; exact T.fits) (by rw [en]; omega) ?_
  refine ⟨.int ks.length, H1, I1.kept fun b o hb => kp b o hb, ⟨tk + 1, ?_⟩, q⟩
  show Value.int _ _ = Value.int _ _
  rw [en]
def tRev (K : PySem.W.Frag) (te : TE) (ts : TO) : TE := fun σ H Q => te σ H fun x H1 => ts σ H1 fun st H2 => st = some (-1) ∧ ∃ a xs, x = .ref a ∧ SqL K H2 a xs ∧ ∀ p, H2 p = none → Q (.ref p) (upd H2 p (.lst xs.reverse))
theorem pe_rev (K : PySem.W.Frag) {e st : Expr} {te : TE} {ts : TO} {pos p2 : Pos} (hK : X.K = K) (he : PE X e te) (hs : PO X (some st) ts) : PE X (.Subscript e (.Slice none none (some st) p2) pos) (tRev K te ts) := by
  subst hK
  intro pins s σ H Q I h
  refine Subscript_ (thn (he pins s σ H _ I h) fun v s1 ⟨x, H1, I1, r1, q1⟩ => ?_)
  refine wpAny_Slice ?_
  rw [evalPart_none]
  refine wpAny_pure (wpAny_pure (thn (hs pins s1 σ H1 _ I1 q1) fun vs s3 ⟨u, H3, I3, pu, q3⟩ => ?_))
  obtain ⟨rfl, a, xs, rfl, hx, q⟩ := q3
  cases r1
  have I4 : Inv X pins σ H3 { s3 with heap := s3.heap.push { cls := .type "slice", data := .fields #[.none, .none, vs] } } := I3.kept (t' := s3.toks) fun b ob q => Heap.get?_push_of_some _ q
  obtain ⟨its, r, ht, hz⟩ := I4.list hx
  have hlen := r.length
  refine tail_any (ops := [.ref a, .ref s3.heap.objs.size]) ht.isList.typeIs slot_list_getitem.lookup (wpAny_getItem_list_slice ht.isList (Heap.IsSliceOf.new ..) .none .none pu (by decide) ?_ (by rw [List.size_toArray]; omega)) (by with_unfolding_all rfl)
  rw [PySem.W.krv_pick]
  refine ⟨.ref _, _, I4.laid (t' := s3.toks) (o := .lst xs.reverse) (fun b ob q => Heap.get?_push_of_some _ q) (Nat.le_refl _) ?_, rfl, q _ (I4.hok.fresh (Nat.le_refl _))⟩
  exact ⟨by rw [List.length_reverse]; exact hz, _, 0, r.reverse, Heap.get?_push_size _ rfl⟩
end
theorem hasL_rev {K : PySem.W.Frag} {H : Hp} : ∀ {xs : List V} {ds : List Dt}, HasL K H xs ds → HasL K H xs.reverse ds.reverse
  | _, _, .nil => .nil
  | _, _, .cons r t => by
    rw [List.reverse_cons, List.reverse_cons]
    exact (hasL_rev t).snoc r
def eK : En → K2
  | .wh t => [.inl (.inr "whole"), .inr [.inl t.1, .inl t.2.1, .inl t.2.2]]
  | .dr s => [.inl (.inr "door"), .inr [.inl s.1.1, .inl s.1.2.1, .inl s.1.2.2], .inl (.inl s.2)]
theorem eK_D (e : En) : k2D (eK e) = eD e := by cases e <;> rfl
theorem eK_inj {e f : En} (h : eK e = eK f) : e = f := by
  cases e with
  | wh t =>
    cases f with
    | wh u =>
      obtain ⟨a, b, c⟩ := t
      obtain ⟨a', b', c'⟩ := u
      simp [eK] at h
      obtain ⟨rfl, rfl, rfl⟩ := h
      rfl
    | dr r => simp [eK] at h
  | dr r =>
    cases f with
    | wh u => simp [eK] at h
    | dr r' =>
      obtain ⟨⟨a, b, c⟩, d⟩ := r
      obtain ⟨⟨a', b', c'⟩, d'⟩ := r'
      simp [eK] at h
      obtain ⟨⟨rfl, rfl, rfl⟩, rfl⟩ := h
      rfl
theorem ends_keys {es : List En} (nd : es.Nodup) : (es.map eK).Nodup ∧ (es.map eK).map k2D = es.map eD := by
  refine ⟨map_nodup nd fun a _ b _ h => eK_inj h, ?_⟩
  rw [List.map_map]
  exact List.map_congr_left fun e _ => eK_D e
end L2
set_option Elab.async false
set_option linter.all false
set_option maxRecDepth 100000
set_option maxHeartbeats 4000000
namespace K09
open PySem PySem.Spec PyProof.Rows L2
seal L2.PE L2.PT L2.PS L2.PSs L2.PA L2.PI L2.PG L2.PGs L2.PW L2.PO L2.PIfs L2.PH
def top (i : Nat) : Stmt := PySem.Challenge.pw_cornerdoors_k09_whole_partners.main.body.getD i (.Pass ⟨0, 0, 0, 0⟩)
abbrev s_check_marks : Stmt := top 12
abbrev s_Net__init : Stmt := inClass (top 13) 0
abbrev s_is_place : Stmt := top 14
abbrev s_mark : Stmt := top 15
abbrev s_corners : Stmt := top 16
abbrev s_sides : Stmt := top 17
abbrev s_sense : Stmt := top 18
abbrev s_is_triangle : Stmt := top 20
abbrev s_is_floor : Stmt := top 21
abbrev s_check_floor : Stmt := top 22
abbrev s_across : Stmt := top 23
abbrev s_turn : Stmt := top 24
abbrev s_turns_of_sides : Stmt := top 25
abbrev s_is_whole : Stmt := top 27
abbrev s_doors : Stmt := top 28
abbrev s_is_end : Stmt := top 29
abbrev s_ends : Stmt := top 30
abbrev s_follow : Stmt := top 31
abbrev s_walk : Stmt := top 32
abbrev s_partner : Stmt := top 33
abbrev s_law_cell_at : Stmt := top 35
abbrev s_law_mix : Stmt := top 36
abbrev s_law_marks_by : Stmt := top 37
abbrev s_law_net : Stmt := top 40
abbrev s_law_corners : Stmt := top 41
abbrev s_law_triangles : Stmt := top 42
abbrev s_law_sense : Stmt := top 43
abbrev s_law_side : Stmt := top 44
abbrev s_law_turn : Stmt := top 45
abbrev s_law_floor_by : Stmt := top 46
abbrev s_law_worth : Stmt := top 47
abbrev s_law : Stmt := top 48
theorem sc_check_marks : FnScope ["rows", "size", "y", "row", "value"] ["rows"] (defScope s_check_marks) := ⟨rfl, rfl, rfl, by decide +kernel, rfl, by decide +kernel, by decide +kernel⟩
theorem sc_Net__init : FnScope ["self", "marks"] ["self", "marks"] (defScope s_Net__init) := ⟨rfl, rfl, rfl, by decide +kernel, rfl, by decide +kernel, by decide +kernel⟩
theorem sc_is_place : FnScope ["net", "x", "y"] ["net", "x", "y"] (defScope s_is_place) := ⟨rfl, rfl, rfl, by decide +kernel, rfl, by decide +kernel, by decide +kernel⟩
theorem sc_mark : FnScope ["net", "x", "y"] ["net", "x", "y"] (defScope s_mark) := ⟨rfl, rfl, rfl, by decide +kernel, rfl, by decide +kernel, by decide +kernel⟩
theorem sc_corners : FnScope ["net", "triangle", "x", "y", "places", "place"] ["net", "triangle"] (defScope s_corners) := ⟨rfl, rfl, rfl, by decide +kernel, rfl, by decide +kernel, by decide +kernel⟩
theorem sc_sides : FnScope ["net", "triangle", "places"] ["net", "triangle"] (defScope s_sides) := ⟨rfl, rfl, rfl, by decide +kernel, rfl, by decide +kernel, by decide +kernel⟩
theorem sc_sense : FnScope ["net", "triangle", "seen"] ["net", "triangle"] (defScope s_sense) := ⟨rfl, rfl, rfl, by decide +kernel, rfl, by decide +kernel, by decide +kernel⟩
theorem sc_is_triangle : FnScope ["net", "triangle"] ["net", "triangle"] (defScope s_is_triangle) := ⟨rfl, rfl, rfl, by decide +kernel, rfl, by decide +kernel, by decide +kernel⟩
theorem sc_is_floor : FnScope ["net", "floor", "at", "triangle"] ["net", "floor"] (defScope s_is_floor) := ⟨rfl, rfl, rfl, by decide +kernel, rfl, by decide +kernel, by decide +kernel⟩
theorem sc_check_floor : FnScope ["net", "floor"] ["net", "floor"] (defScope s_check_floor) := ⟨rfl, rfl, rfl, by decide +kernel, rfl, by decide +kernel, by decide +kernel⟩
theorem sc_across : FnScope ["net", "floor", "met", "beyond", "triangle", "k", "side", "places", "other"] ["net", "floor"] (defScope s_across) := ⟨rfl, rfl, rfl, by decide +kernel, rfl, by decide +kernel, by decide +kernel⟩
theorem sc_turn : FnScope ["start", "goal"] ["start", "goal"] (defScope s_turn) := ⟨rfl, rfl, rfl, by decide +kernel, rfl, by decide +kernel, by decide +kernel⟩
theorem sc_turns_of_sides : FnScope ["net", "triangle", "seen"] ["net", "triangle"] (defScope s_turns_of_sides) := ⟨rfl, rfl, rfl, by decide +kernel, rfl, by decide +kernel, by decide +kernel⟩
theorem sc_is_whole : FnScope ["net", "triangle"] ["net", "triangle"] (defScope s_is_whole) := ⟨rfl, rfl, rfl, by decide +kernel, rfl, by decide +kernel, by decide +kernel⟩
theorem sc_doors : FnScope ["net", "triangle"] ["net", "triangle"] (defScope s_doors) := ⟨rfl, rfl, rfl, by decide +kernel, rfl, by decide +kernel, by decide +kernel⟩
theorem sc_is_end : FnScope ["net", "beyond", "end", "triangle", "side"] ["net", "beyond", "end"] (defScope s_is_end) := ⟨rfl, rfl, rfl, by decide +kernel, rfl, by decide +kernel, by decide +kernel⟩
theorem sc_ends : FnScope ["net", "floor", "beyond", "found", "triangle", "asked"] ["net", "floor"] (defScope s_ends) := ⟨rfl, rfl, rfl, by decide +kernel, rfl, by decide +kernel, by decide +kernel⟩
theorem sc_follow : FnScope ["net", "floor", "end", "beyond", "triangle", "entered", "path", "k", "other"] ["net", "floor", "end"] (defScope s_follow) := ⟨rfl, rfl, rfl, by decide +kernel, rfl, by decide +kernel, by decide +kernel⟩
theorem sc_walk : FnScope ["net", "floor", "end"] ["net", "floor", "end"] (defScope s_walk) := ⟨rfl, rfl, rfl, by decide +kernel, rfl, by decide +kernel, by decide +kernel⟩
theorem sc_partner : FnScope ["net", "floor", "end"] ["net", "floor", "end"] (defScope s_partner) := ⟨rfl, rfl, rfl, by decide +kernel, rfl, by decide +kernel, by decide +kernel⟩
theorem sc_law_cell_at : FnScope ["script", "k"] ["script", "k"] (defScope s_law_cell_at) := ⟨rfl, rfl, rfl, by decide +kernel, rfl, by decide +kernel, by decide +kernel⟩
theorem sc_law_mix : FnScope ["cell", "k", "many", "some", "number"] ["cell", "k", "many"] (defScope s_law_mix) := ⟨rfl, rfl, rfl, by decide +kernel, rfl, by decide +kernel, by decide +kernel⟩
theorem sc_law_marks_by : FnScope ["script", "most", "size", "marks", "y", "cell"] ["script", "most"] (defScope s_law_marks_by) := ⟨rfl, rfl, rfl, by decide +kernel, rfl, by decide +kernel, by decide +kernel⟩
theorem sc_law_net : FnScope ["marks"] ["marks"] (defScope s_law_net) := ⟨rfl, rfl, rfl, by decide +kernel, rfl, by decide +kernel, by decide +kernel⟩
theorem sc_law_corners : FnScope ["triangle", "x", "y", "kind"] ["triangle"] (defScope s_law_corners) := ⟨rfl, rfl, rfl, by decide +kernel, rfl, by decide +kernel, by decide +kernel⟩
theorem sc_law_triangles : FnScope ["size", "found", "x", "y", "kind"] ["size"] (defScope s_law_triangles) := ⟨rfl, rfl, rfl, by decide +kernel, rfl, by decide +kernel, by decide +kernel⟩
theorem sc_law_sense : FnScope ["marks", "triangle", "row"] ["marks", "triangle"] (defScope s_law_sense) := ⟨rfl, rfl, rfl, by decide +kernel, rfl, by decide +kernel, by decide +kernel⟩
theorem sc_law_side : FnScope ["triangle", "k", "places"] ["triangle", "k"] (defScope s_law_side) := ⟨rfl, rfl, rfl, by decide +kernel, rfl, by decide +kernel, by decide +kernel⟩
theorem sc_law_turn : FnScope ["marks", "triangle", "k", "one", "two", "pair"] ["marks", "triangle", "k"] (defScope s_law_turn) := ⟨rfl, rfl, rfl, by decide +kernel, rfl, by decide +kernel, by decide +kernel⟩
theorem sc_law_floor_by : FnScope ["script", "size", "way", "cell", "many"] ["script", "size"] (defScope s_law_floor_by) := ⟨rfl, rfl, rfl, by decide +kernel, rfl, by decide +kernel, by decide +kernel⟩
theorem sc_law_worth : FnScope ["marks", "end"] ["marks", "end"] (defScope s_law_worth) := ⟨rfl, rfl, rfl, by decide +kernel, rfl, by decide +kernel, by decide +kernel⟩
theorem sc_law : FnScope ["script", "marks", "net", "floor", "known", "k", "end", "other"] ["script"] (defScope s_law) := ⟨rfl, rfl, rfl, by decide +kernel, rfl, by decide +kernel, by decide +kernel⟩
structure Adr where
  DoorError : Addr
  BadNet : Addr
  NoPlace : Addr
  NoTriangle : Addr
  NoFloor : Addr
  NoEnd : Addr
  Net : Addr
  t_SMALLEST_SIZE : Tok
  t_LARGEST_SIZE : Tok
  MARKS : Addr
  FORWARD_ORDERS : Addr
structure Txt (K : PySem.W.Frag) (mg : Str → Option Value) (ad : Adr) : Prop where
  b_len : mg "len" = none
  b_range : mg "range" = none
  b_enumerate : mg "enumerate" = none
  b_list : mg "list" = none
  b_isinstance : mg "isinstance" = none
  b_int : mg "int" = none
  b_bool : mg "bool" = none
  b_ValueError : mg "ValueError" = none
  b_sorted : mg "sorted" = none
  b_tuple : mg "tuple" = none
  b_max : mg "max" = none
  b_set : mg "set" = none
  b_all : mg "all" = none
  b_min : mg "min" = none
  b_sum : mg "sum" = none
  g_SMALLEST_SIZE : mg "SMALLEST_SIZE" = some (.int (1) ad.t_SMALLEST_SIZE)
  r_SMALLEST_SIZE : RelV (.int (1)) (.int (1) ad.t_SMALLEST_SIZE)
  g_LARGEST_SIZE : mg "LARGEST_SIZE" = some (.int (12) ad.t_LARGEST_SIZE)
  r_LARGEST_SIZE : RelV (.int (12)) (.int (12) ad.t_LARGEST_SIZE)
  g_MARKS : mg "MARKS" = some (.ref ad.MARKS)
  r_MARKS : RelV (.ref ad.MARKS) (.ref ad.MARKS)
  q_MARKS : ∀ H, SqT K H ad.MARKS [V.int (0), V.int (1), V.int (2)]
  h_MARKS : ∀ H, Has K H (.ref ad.MARKS) (.tup [.int 0, .int 1, .int 2])
  g_FORWARD_ORDERS : mg "FORWARD_ORDERS" = some (.ref ad.FORWARD_ORDERS)
  r_FORWARD_ORDERS : RelV (.ref ad.FORWARD_ORDERS) (.ref ad.FORWARD_ORDERS)
  h_FORWARD_ORDERS : ∀ H, Has K H (.ref ad.FORWARD_ORDERS) (.tup [.tup [.int 0, .int 1, .int 2], .tup [.int 1, .int 2, .int 0], .tup [.int 2, .int 0, .int 1]])
  x_DoorError : Exc K mg "DoorError" ad.DoorError
  x_BadNet : Exc K mg "BadNet" ad.BadNet
  x_NoPlace : Exc K mg "NoPlace" ad.NoPlace
  x_NoTriangle : Exc K mg "NoTriangle" ad.NoTriangle
  x_NoFloor : Exc K mg "NoFloor" ad.NoFloor
  x_NoEnd : Exc K mg "NoEnd" ad.NoEnd
  cl_Net : Cls K ad.Net
  n_Net_size : NoAttr K ad.Net "size"
  n_Net_marks : NoAttr K ad.Net "marks"
  m_NoTriangle_NoTriangle : PySem.W.mroIn K ad.NoTriangle (.ref ad.NoTriangle) = some true
def spLaw (K : PySem.W.Frag) : Sp := fun vs H Q _ => ∃ (a : Addr) (ns : List Int), vs = [.ref a] ∧ SqL K H a (ns.map V.int) ∧ ∀ H', Q (.bl true) H'
def cellAt (ns : List Int) (k : Int) : Int := if k < (ns.length : Int) then ns.getD k.toNat 0 else 0
def spCell (K : PySem.W.Frag) : Sp := fun vs H Q _ => ∃ (a : Addr) (ns : List Int) (k : Int), vs = [.ref a, .int k] ∧ SqL K H a (ns.map V.int) ∧ 0 ≤ k ∧ Q (.int (cellAt ns k)) H
def spMix : Sp := fun vs H Q _ => ∃ c k m : Int, vs = [.int c, .int k, .int m] ∧ 0 ≤ k ∧ k < 100000 ∧ 0 < m ∧ ∀ r H', 0 ≤ r → r < m → L2.Same H H' → Q (.int r) H'
def spCheck (K : PySem.W.Frag) (BN : Addr) : Sp := fun vs H Q E => ∃ v rs, vs = [v] ∧ Has K H v (gridD rs) ∧ (Good rs → ∀ H', L2.Same H H' → Q .non H') ∧ (¬ Good rs → ∀ H', L2.Same H H' → E (.ref BN) none H')
section
variable {P : Program} {w : World} {K : PySem.W.Frag} {mg : Str → Option Value} {base : Heap} {ad : Adr}
theorem ok_cell {f : Addr} {fd : FuncData} (F : Fun K "_law_cell_at" "_law_cell_at" s_law_cell_at f fd) (T : Txt K mg ad) : FnOk P w K mg base (CXR P w) 1 f fd ["script", "k"] (spCell K) := by
  refine F.okX sc_law_cell_at (fun vs H Q E h => ?_) (fun cdv A outer s H vs Q E hr h hx => ?_)
  · obtain ⟨a, ns, k, rfl, _⟩ := h
    rfl
  · obtain ⟨a, ns, k, rfl, hS, h0, q⟩ := h
    refine ⟨_, (pss_cons (ps_if (pt_cmpR op_lt (pv 1) (pe_callB (r := rLenOf K) call_len_seq rfl T.b_len PySem.boot_len (pa_cons (pv 0) pa_nil)) (nomark _)) (pss_one (ps_ret (pe_ix (r := rIxL K) ix_list (pv 0) (pv 1) (fun _ _ => rfl)))) pss_nil)
  (pss_one (ps_ret pe_int))), ?_⟩
    refine ⟨_, rfl, _, rfl, a, _, rfl, .inl hS, _, _, rfl, rfl, _, rfl, ?_⟩
    refine ite2 (fun hlt => ?_) (fun hge => ?_)
    · have hlt' : k < (ns.length : Int) := by simpa using hlt
      have hk : k.toNat < ns.length := by omega
      have hat : atI (ns.map V.int) k = some (.int (cellAt ns k)) := by
        have e : ((k.toNat : Nat) : Int) = k := by omega
        have z := atI_nat (xs := ns.map V.int) (j := k.toNat) (v := .int ns[k.toNat]) (by simp [hk])
        rw [e] at z
        rw [z]
        unfold cellAt
        rw [if_pos hlt']
        simp [List.getD_eq_getElem?_getD, hk]
      exact ⟨_, rfl, _, rfl, a, _, _, _, rfl, rfl, hS, hat, q⟩
    · have hge' : ¬ k < (ns.length : Int) := by simpa using hge
      unfold cellAt at q
      rw [if_neg hge'] at q
      exact q
end
end K09
set_option Elab.async false
set_option linter.all false
set_option maxRecDepth 100000
set_option maxHeartbeats 4000000
namespace K09
open PySem PySem.Spec PyProof.Rows L2
seal L2.PE L2.PT L2.PS L2.PSs L2.PA L2.PI L2.PG L2.PGs L2.PW L2.PO L2.PIfs L2.PH
section
variable {P : Program} {w : World} {K : PySem.W.Frag} {mg : Str → Option Value} {base : Heap} {ad : Adr}
theorem mix_bound {c k : Int} (t : Int) (h1 : 0 ≤ t) (h2 : t < 100000) : 0 ≤ (c % 2147483647 + 12345) * t ∧ (c % 2147483647 + 12345) * t < 2 ^ 64 := by
  have a1 := Int.emod_nonneg c (show (2147483647 : Int) ≠ 0 by decide)
  have a2 := Int.emod_lt_of_pos c (show (0 : Int) < 2147483647 by decide)
  constructor
  · exact Int.mul_nonneg (by omega) h1
  · have : (c % 2147483647 + 12345) * t ≤ 2147495992 * 100000 := Int.mul_le_mul (by omega) (by omega) h1 (by decide)
    omega
theorem ok_mix {f : Addr} {fd : FuncData} (F : Fun K "_law_mix" "_law_mix" s_law_mix f fd) (T : Txt K mg ad) : FnOk P w K mg base (CXR P w) 1 f fd ["cell", "k", "many"] spMix := by
  refine F.okX sc_law_mix (fun vs H Q E h => ?_) (fun cdv A outer s H vs Q E hr h hx => ?_)
  · obtain ⟨c, k, m, rfl, _⟩ := h
    rfl
  · obtain ⟨c, k, m, rfl, h0, h1, hm, q⟩ := h
    refine ⟨_, (pss_cons (ps_set (i := 3) sc_law_mix.nd rfl (Or.inl rfl) (pe_lst (pa_ints rfl)))
  (pss_cons (ps_set (i := 4) sc_law_mix.nd rfl (Or.inl rfl) (pe_op op_mul (pe_op op_add (pe_op op_mod (pv 0) pe_int) pe_int) (pe_ix (r := rIxL K) ix_list (pv 3) (pe_op op_mod (pv 1) pe_int) (fun _ _ => rfl))))
  (pss_cons (ps_set (i := 4) sc_law_mix.nd rfl (Or.inl rfl) (pe_op op_add (pe_op op_mul (pv 4) (pe_op op_add (pe_op op_mul pe_int (pe_op op_fdiv (pv 1) pe_int)) pe_int)) (pe_op op_mul pe_int (pv 1))))
  (pss_one (ps_ret (pe_op op_mod (pe_op op_fdiv (pe_op op_mod (pv 4) pe_int) pe_int) (pv 2))))))), ?_⟩
    refine ⟨(by show 13 ≤ sizeLine; decide), fun l hl => ?_⟩
    have k1 := Int.emod_nonneg k (show (13 : Int) ≠ 0 by decide)
    have k2 := Int.emod_lt_of_pos k (show (0 : Int) < 13 by decide)
    obtain ⟨t, ht, t0, tb⟩ : ∃ t : Int, atI [V.int 48271, .int 69621, .int 16807, .int 39373, .int 30269, .int 40014, .int 40692, .int 50021, .int 61687, .int 71993, .int 83869, .int 95561, .int 30307] (k % 13) = some (.int t) ∧ 0 ≤ t ∧ t < 100000 := by
      generalize k % 13 = j at k1 k2
      have : j = 0 ∨ j = 1 ∨ j = 2 ∨ j = 3 ∨ j = 4 ∨ j = 5 ∨ j = 6 ∨ j = 7 ∨ j = 8 ∨ j = 9 ∨ j = 10 ∨ j = 11 ∨ j = 12 := by omega
      rcases this with rfl | rfl | rfl | rfl | rfl | rfl | rfl | rfl | rfl | rfl | rfl | rfl | rfl <;> exact ⟨_, rfl, by decide, by decide⟩
    obtain ⟨b1, b2⟩ := mix_bound (c := c) (k := k) t t0 tb
    have a1 := Int.emod_nonneg c (show (2147483647 : Int) ≠ 0 by decide)
    have a2 := Int.emod_lt_of_pos c (show (0 : Int) < 2147483647 by decide)
    refine ⟨_, rfl, _, _, rfl, rfl, (by show (0 : Int) < 2147483647; decide), _, _, rfl, rfl, _, rfl, _, rfl, _, _, rfl, rfl, (by show (0 : Int) < 13; decide), l, _, _, _, rfl, rfl, SqL.of upd_same, ht, _, _, rfl, rfl, .inl ⟨by omega, by omega⟩, ?_⟩
    refine ⟨_, rfl, _, rfl, _, _, rfl, rfl, ⟨by decide, by decide⟩, _, _, rfl, rfl, .inl ⟨by decide, by decide⟩, _, _, rfl, rfl, _, _, rfl, rfl, .inl ⟨by omega, b2⟩, _, rfl, _, _, rfl, rfl, .inl ⟨by decide, by decide⟩, _, _, rfl, rfl, ?_⟩
    refine ⟨_, rfl, _, _, rfl, rfl, (by show (0 : Int) < 1000000007; decide), _, _, rfl, rfl, ⟨by decide, by decide⟩, _, rfl, _, _, rfl, rfl, hm, ?_⟩
    exact q _ _ (Int.emod_nonneg _ (by omega)) (Int.emod_lt_of_pos _ hm) (same_upd hl)
end
end K09
set_option Elab.async false
set_option linter.all false
set_option maxRecDepth 100000
set_option maxHeartbeats 4000000
namespace K09
open PySem PySem.Spec PyProof.Rows L2
seal L2.PE L2.PT L2.PS L2.PSs L2.PA L2.PI L2.PG L2.PGs L2.PW L2.PO L2.PIfs L2.PH
theorem in_marks (v : Int) : inV (.int v) [.int 0, .int 1, .int 2] = decide (0 ≤ v ∧ v ≤ 2) := by
  simp only [inV, List.any_cons, List.any_nil, eqV, Bool.or_false]
  rw [Bool.eq_iff_iff]
  simp only [Bool.or_eq_true, beq_iff_eq, decide_eq_true_eq]
  omega
def RowOk (n y : Nat) (r : List Int) : Prop := r.length = n - y ∧ ∀ v ∈ r, 0 ≤ v ∧ v ≤ 2
section
variable {P : Program} {w : World} {K : PySem.W.Frag} {mg : Str → Option Value} {base : Heap} {ad : Adr}
theorem ok_check {f : Addr} {fd : FuncData} (F : Fun K "check_marks" "check_marks" s_check_marks f fd) (T : Txt K mg ad) : FnOk P w K mg base (CXR P w) 1 f fd ["rows"] (spCheck K ad.BadNet) := by
  refine F.okX sc_check_marks (fun vs H Q E h => ?_) (fun cdv A outer s H vs Q E hr h hx => ?_)
  · obtain ⟨v, rs, rfl, _⟩ := h
    rfl
  · obtain ⟨v, rs, rfl, hh, kq, ke⟩ := h
    refine ⟨_, (pss_cons (ps_set (i := 1) sc_check_marks.nd rfl (Or.inl rfl) (pe_op op_sub (pe_callB (r := rLenOf K) call_len_seq rfl T.b_len PySem.boot_len (pa_cons (pv 0) pa_nil)) pe_int))
  (pss_cons (ps_if (PW.pt (pw_or (pt_cmpR op_lt (pv 1) (pe_glob rfl T.g_SMALLEST_SIZE T.r_SMALLEST_SIZE) (nomark _)) (pw_or1 (pt_cmpR op_gt (pv 1) (pe_glob rfl T.g_LARGEST_SIZE T.r_LARGEST_SIZE) (nomark _))))) (pss_one (ps_raise hx rfl T.x_BadNet rfl (pa_cons pe_str pa_nil))) pss_nil)
  (pss_one (ps_for hx.own rfl (pi_enumK K rfl T.b_enumerate (pa_cons (pv 0) pa_nil)) (pg_tupK (n := 2) K rfl (pgs_cons (pg_name (i := 2) sc_check_marks.nd rfl (Or.inl rfl)) (pgs_cons (pg_name (i := 3) sc_check_marks.nd rfl (Or.inl rfl)) pgs_nil))) (pss_cons (ps_if (pt_cmpR op_ne (pe_callB (r := rLenOf K) call_len_seq rfl T.b_len PySem.boot_len (pa_cons (pv 3) pa_nil)) (pe_op op_add (pe_op op_sub (pv 1) (pv 2)) pe_int) (nomark _)) (pss_one (ps_raise hx rfl T.x_BadNet rfl (pa_cons (pe_fstr (pv 2) (by decide) (by decide)) pa_nil))) pss_nil)
  (pss_one (ps_for hx.own rfl (pi_listK K (pv 3)) (pg_name (i := 4) sc_check_marks.nd rfl (Or.inl rfl)) (pss_one (ps_if (pt_cmpR (r := rIn K true) op_notIn_seq (pv 4) (pe_glob rfl T.g_MARKS T.r_MARKS) rfl) (pss_one (ps_raise hx rfl T.x_BadNet rfl (pa_cons (pe_fstr (pv 2) (by decide) (by decide)) pa_nil))) pss_nil))))))))), ?_⟩
    unfold gridD at hh
    cases hh with
    | @lst m xs ds hq hl =>
      have el : xs.length = rs.length := by rw [hl.length, List.length_map]
      refine ⟨_, rfl, m, xs, rfl, .inl hq, _, _, rfl, rfl, ?_⟩
      refine ⟨_, rfl, _, _, rfl, rfl, _, rfl, ?_⟩
      refine ite2 (fun hb => ?_) (fun hb => ?_)
      · refine ⟨by show 1 ≤ sizeLine; decide, ke (fun g => ?_) H (L2.Same.refl H)⟩
        have := g.1
        have hb' := of_decide_eq_true hb
        omega
      refine ⟨_, rfl, _, _, rfl, rfl, _, rfl, ?_⟩
      refine ite2 (fun hb2 => ?_) (fun hb2 => ?_)
      · refine ⟨by show 1 ≤ sizeLine; decide, ke (fun g => ?_) H (L2.Same.refl H)⟩
        have := g.2.1
        have hb' := of_decide_eq_true hb2
        omega
      have n2 : 2 ≤ rs.length := by
        have : ¬ ((xs.length : Int) - 1 < 1) := fun z => hb (decide_eq_true z)
        omega
      have n13 : rs.length ≤ 13 := by
        have : ¬ ((12 : Int) < (xs.length : Int) - 1) := fun z => hb2 (decide_eq_true z)
        omega
      refine ⟨_, rfl, m, rfl, ⟨_, hq⟩, for_enum (K := K) (a := m) (xs := xs) (fun i σ H1 => L2.Same H H1 ∧ (∃ c2 c3 c4, σ = [some (.ref m), some (.int ((xs.length : Int) - 1)), c2, c3, c4]) ∧ ∀ (y : Nat) (r : List Int), y < i → rs[y]? = some r → RowOk rs.length y r)
        ⟨L2.Same.refl H, ⟨_, _, _, rfl⟩, fun y r h => absurd h (Nat.not_lt_zero _)⟩ (fun i σ H1 _ ⟨s1, _⟩ => s1.seq hq) ?_ ?_⟩
      · rintro i x σ H1 p hx1 ⟨s1, ⟨c2, c3, c4, rfl⟩, hok⟩ hp
        have hi : i < xs.length := (List.getElem?_eq_some_iff.mp hx1).1
        obtain ⟨d, hd, hxd⟩ := hl.get hx1
        rw [List.getElem?_map] at hd
        cases er : rs[i]? with
        | none => rw [er] at hd; cases hd
        | some r =>
          rw [er] at hd
          cases hd
          cases hxd with
          | @lst a zs _ hqa hla =>
            have hz := hasL_ints_inv hla
            subst hz
            have s2 : L2.Same H (upd H1 p (.tup [.int i, .ref a])) := same_both s1 hp
            refine ⟨p, _, rfl, SqT.of upd_same, rfl, _, _, rfl, _, _, rfl, rfl, ?_⟩
            refine ⟨_, rfl, a, _, rfl, .inl (s2.seq hqa), _, rfl, _, rfl, _, _, rfl, rfl, _, _, rfl, rfl, rfl, _, rfl, ?_⟩
            refine ite2 (fun hb3 => ?_) (fun hb3 => ?_)
            · refine ⟨_, rfl, _, rfl, by omega, by omega, fun msg => ⟨by show 1 ≤ sizeLine; decide, ke (fun g => ?_) _ s2⟩⟩
              have g1 := (g.2.2 i r er).1
              have hb' : ¬ (V.int ((r.map V.int).length : Int) = V.int ((xs.length : Int) - 1 - (i : Int) + 1)) := by simpa using hb3
              apply hb'
              rw [List.length_map, g1, el]
              congr 1
              omega
            have rl : r.length = rs.length - i := by
              have hb' : V.int ((r.map V.int).length : Int) = V.int ((xs.length : Int) - 1 - (i : Int) + 1) := by simpa using hb3
              injection hb' with hb'
              rw [List.length_map] at hb'
              omega
            refine ⟨_, rfl, a, rfl, ⟨_, s2.seq hqa⟩, for_list (K := K) (a := a) (xs := r.map V.int) (fun j σ H3 => L2.Same H H3 ∧ (∃ c4, σ = [some (.ref m), some (.int ((xs.length : Int) - 1)), some (.int i), some (.ref a), c4]) ∧ ∀ u ∈ r.take j, 0 ≤ u ∧ u ≤ 2)
              ⟨s2, ⟨_, rfl⟩, fun u hu => by simp at hu⟩ (fun j σ H3 _ ⟨s3, _⟩ => s3.seq hqa) ?_ ?_⟩
            · rintro j y σ H3 hy ⟨s3, ⟨c4', rfl⟩, hall⟩
              rw [List.getElem?_map] at hy
              cases eu : r[j]? with
              | none => rw [eu] at hy; cases hy
              | some u =>
                rw [eu] at hy
                cases hy
                refine ⟨_, rfl, ad.MARKS, _, rfl, .inr (T.q_MARKS _), rfl, rfl, _, rfl, ?_⟩
                refine ite2 (fun hb4 => ?_) (fun hb4 => ?_)
                · refine ⟨_, rfl, _, rfl, by omega, by omega, fun msg => ⟨by show 1 ≤ sizeLine; decide, ke (fun g => ?_) _ s3⟩⟩
                  have g1 := (g.2.2 i r er).2 u (List.mem_of_getElem? eu)
                  rw [if_pos rfl, in_marks] at hb4
                  simp [g1] at hb4
                · refine ⟨s3, ⟨_, rfl⟩, fun u' hu' => ?_⟩
                  rw [List.take_add_one, eu] at hu'
                  rcases List.mem_append.mp hu' with z | z
                  · exact hall u' z
                  · have e : u' = u := by simpa using z
                    subst e
                    rw [if_pos rfl, in_marks] at hb4
                    simpa using hb4
            · rintro σ H3 ⟨s3, ⟨c4', rfl⟩, hall⟩
              rw [List.length_map, List.take_length] at hall
              refine ⟨s3, ⟨_, _, _, rfl⟩, fun y r' hy er' => ?_⟩
              by_cases e : y = i
              · subst e
                rw [er] at er'; cases er'
                exact ⟨rl, hall⟩
              · exact hok y r' (by omega) er'
      · rintro σ H1 ⟨s1, ⟨c2, c3, c4, rfl⟩, hok⟩
        refine kq ⟨n2, n13, fun y r er => hok y r ?_ er⟩ H1 s1
        have := (List.getElem?_eq_some_iff.mp er).1
        omega
end
end K09
set_option Elab.async false
set_option linter.all false
set_option maxRecDepth 100000
set_option maxHeartbeats 4000000
namespace K09
open PySem PySem.Spec PyProof.Rows L2
seal L2.PE L2.PT L2.PS L2.PSs L2.PA L2.PI L2.PG L2.PGs L2.PW L2.PO L2.PIfs L2.PH
def flds (n : Int) (m : Addr) : List (Str × V) := putF "marks" (.ref m) (putF "size" (.int n) [])
theorem km : ¬ (("marks" : Str) = "size") := by decide +kernel
theorem flds_size (n : Int) (m : Addr) : (flds n m).lookup ("size" : Str) = some (.int n) := by
  unfold flds
  rw [lookup_putF, if_neg (fun e => km e.symm), lookup_putF, if_pos rfl]
theorem flds_marks (n : Int) (m : Addr) : (flds n m).lookup ("marks" : Str) = some (.ref m) := by
  unfold flds
  rw [lookup_putF, if_pos rfl]
theorem ins_ne {H : Hp} {p a C dx : Addr} {fs : List (Str × V)} {xs : List V} (h : H p = some (.ins C dx fs)) (h' : H a = some (.lst xs)) : a ≠ p := ne_of h' h (by intro z; cases z)
theorem GR.ins {H : Hp} {p C dx : Addr} {fs : List (Str × V)} {o : HO} {v : V} {rs : List (List Int)} {m : Addr} {ras : List Addr} (h : H p = some (.ins C dx fs)) (G : GR H v rs m ras) : GR (upd H p o) v rs m ras :=
  ⟨G.ev, by rw [upd_ne (ins_ne h G.top)]; exact G.top, L2.Paired.mapP G.rows fun a r z => by show upd H p o a = _; rw [upd_ne (ins_ne h z)]; exact z⟩
theorem frsh_dom {H0 H1 H : Hp} (e : ∀ b, H1 b = none → H0 b = none) : L2.Same (frsh H1 H) (frsh H0 H) := fun b o h => by
  obtain ⟨h1, h2⟩ := of_frsh h
  rw [frsh_none (e b h1)]; exact h2
def spInit (C BN : Addr) : Sp := fun vs H Q E => ∃ (p dx : Addr) (v : V) (rs : List (List Int)), vs = [.ref p, v] ∧ H p = some (.ins C dx []) ∧ TGrid H v rs ∧ rs.length ≤ 1000 ∧
  (Good rs → ∀ H' m, (∀ b o, H b = some o → b ≠ p → H' b = some o) → H' p = some (.ins C dx (flds ((rs.length : Int) - 1) m)) → TGrid (frsh H H') (.ref m) rs → Q .non H') ∧ (¬ Good rs → ∀ H', L2.Same H H' → E (.ref BN) none H')
section
variable {P : Program} {w : World} {K : PySem.W.Frag} {mg : Str → Option Value} {base : Heap} {ad : Adr}
theorem ok_init {f : Addr} {fd : FuncData} (F : Fun K "__init__" "Net.__init__" s_Net__init f fd) (T : Txt K mg ad) (C_check_marks : Callee P w K mg base "check_marks" 1 ["rows"] (spCheck K ad.BadNet)) :
    FnOk P w K mg base (CXR P w) 2 f fd ["self", "marks"] (spInit ad.Net ad.BadNet) := by
  refine F.okX sc_Net__init (fun vs H Q E h => ?_) (fun cdv A outer s H vs Q E hr h hx => ?_)
  · obtain ⟨p, dx, v, rs, rfl, _⟩ := h
    rfl
  · obtain ⟨p, dx, v, rs, rfl, hp, G, hz, kq, ke⟩ := h
    refine ⟨_, (pss_cons (ps_expr (pe_c C_check_marks (hr.mono (by decide)) hx.toLetsP (pa_cons (pv 1) pa_nil)))
  (pss_cons (ps_fld (pv 0) (pe_op op_sub (pe_callB (r := rLenOf K) call_len_seq rfl T.b_len PySem.boot_len (pa_cons (pv 1) pa_nil)) pe_int) rfl)
  (pss_one (ps_fld (pv 0) (pe_comp (Nc := ["row"]) (nt := 1) (is := []) rfl (comp_ok0 (by decide +kernel) (by decide +kernel) rfl (by decide +kernel) rfl)  (pi_listK K (pv 1)) (fun _ _ _ _ _ => (pg_name (i := 0) (show List.Nodup (["row"] : List Str) by decide +kernel) rfl (Or.inl rfl))) (fun _ _ _ _ _ => pifs_nil) (fun _ _ _ _ _ => (pe_callTy (r := rListOf K) call_list_of rfl T.b_list boot_list (pa_cons (pv 0) pa_nil)))) rfl)))), ?_⟩
    obtain ⟨m, ras, G⟩ := G
    obtain rfl := G.ev
    refine ⟨_, rfl, _, rs, rfl, G.has, fun g H1 s1 => ?_, fun ng H1 s1 => ke ng H1 s1⟩
    have el : (ras.map V.ref).length = rs.length := by rw [List.length_map]; exact Paired.length G.rows
    refine ⟨_, rfl, m, _, rfl, .inl (s1.seq (SqL.of G.top)), _, _, rfl, rfl, _, rfl, p, ad.Net, dx, _, rfl, s1 _ _ hp, T.cl_Net, T.n_Net_size, by show 0 < 1000; decide, ?_⟩
    have hp1 : H1 p = some (.ins ad.Net dx []) := s1 _ _ hp
    have d1 : ∀ b, upd H1 p (.ins ad.Net dx (putF "size" (.int (((ras.map V.ref).length : Int) - 1)) [])) b = none → H b = none := fun b z => by
      by_cases e : b = p
      · subst e; rw [upd_same] at z; cases z
      · rw [upd_ne e] at z; exact s1.free z
    show tComp 1 [] (iList K (tVar 1)) (gName 0) tYes (tCB (rListOf K) (tCons (tVar 0) tNil)) _ _ _
    refine copy_grid (i := 1) (rs := rs) (by rfl) ⟨m, ras, GR.ins hp1 (G.same s1)⟩ hz fun r H2 s2 G2 => ?_
    obtain ⟨m2, ras2, G2⟩ := G2
    obtain rfl := G2.ev
    refine ⟨_, rfl, p, ad.Net, dx, _, rfl, s2 _ _ upd_same, T.cl_Net, T.n_Net_marks, by show 1 < 1000; decide, ?_⟩
    refine kq g _ m2 (fun b o e hb => ?_) ?_ ⟨m2, ras2, ?_⟩
    · rw [upd_ne hb]
      exact s2 _ _ (by rw [upd_ne hb]; exact s1 _ _ e)
    · rw [upd_same, el]
      rfl
    · rw [frsh_upd hp]
      exact G2.same (frsh_dom d1)
def spMarks (K : PySem.W.Frag) : Sp := fun vs H Q _ => ∃ (a : Addr) (ns : List Int) (m : Int), vs = [.ref a, .int m] ∧ SqL K H a (ns.map V.int) ∧ 1 ≤ m ∧ m ≤ 12 ∧ ∀ r H' rs, L2.Same H H' → Good rs → TGrid (frsh H H') r rs → (rs.length : Int) = 2 + cellAt ns 0 % m → Q r H'
theorem ok_marks {f : Addr} {fd : FuncData} (F : Fun K "_law_marks_by" "_law_marks_by" s_law_marks_by f fd) (T : Txt K mg ad) (C_law_cell_at : Callee P w K mg base "_law_cell_at" 1 ["script", "k"] (spCell K))
    (C_law_mix : Callee P w K mg base "_law_mix" 1 ["cell", "k", "many"] spMix) : FnOk P w K mg base (CXR P w) 2 f fd ["script", "most"] (spMarks K) := by
  refine F.okX sc_law_marks_by (fun vs H Q E h => ?_) (fun cdv A outer s H vs Q E hr h hx => ?_)
  · obtain ⟨a, ns, m, rfl, _⟩ := h
    rfl
  · obtain ⟨a, ns, most, rfl, hS, h1, h12, kq⟩ := h
    refine ⟨_, (pss_cons (ps_set (i := 2) sc_law_marks_by.nd rfl (Or.inl rfl) (pe_op op_add pe_int (pe_op op_mod (pe_c C_law_cell_at (hr.mono (by decide)) hx.toLetsP (pa_cons (pv 0) (pa_cons pe_int pa_nil))) (pv 1))))
  (pss_cons (ps_set (i := 3) sc_law_marks_by.nd rfl (Or.inl rfl) (pe_lst pa_nil))
  (pss_cons (ps_for hx.own rfl (pi_range1 rfl T.b_range (pa_cons (pe_op op_add (pv 2) pe_int) pa_nil)) (pg_name (i := 4) sc_law_marks_by.nd rfl (Or.inr rfl)) (pss_cons (ps_set (i := 5) sc_law_marks_by.nd rfl (Or.inr rfl) (pe_c C_law_cell_at (hr.mono (by decide)) hx.toLetsP (pa_cons (pv 0) (pa_cons (pe_op op_add pe_int (pv 4)) pa_nil))))
  (pss_one (ps_expr (pe_bm PySem.F.plainAttrs_list PySem.F.slot_list_append PySem.F.type_list_append mt_append (pv 3) (pa_cons (pe_comp (Nc := ["x", "cell", "y"]) (nt := 1) (is := [5, 4]) rfl (comp_okF (by rfl) (by decide +kernel) rfl (by decide +kernel) (by intro p hp; simp only [List.mem_cons, List.not_mem_nil, or_false] at hp; first | (rcases hp with rfl | rfl | rfl | rfl <;> rfl) | (rcases hp with rfl | rfl | rfl <;> rfl) | (rcases hp with rfl | rfl <;> rfl) | (subst hp; rfl)) (by rfl) rfl (fun j i h => match j, h with | 0, h => by cases h; exact ⟨_, rfl, rfl, .inl rfl, .inl rfl⟩ | 1, h => by cases h; exact ⟨_, rfl, rfl, .inl rfl, .inl rfl⟩ | _ + 2, h => by simp at h))  (pi_range1 rfl T.b_range (pa_cons (pe_op op_add (pe_op op_sub (pv 2) (pv 4)) pe_int) pa_nil)) (fun _ _ _ _ _ => (pg_name (i := 0) (show List.Nodup (["x", "cell", "y"] : List Str) by decide +kernel) rfl (Or.inl rfl))) (fun _ _ _ _ _ => pifs_nil) (fun _ _ _ _ _ => (pe_c C_law_mix (hr.mono (by decide)) lets_xc (pa_cons (pv 1) (pa_cons (pe_op op_add (pv 0) (pe_op op_mul pe_int (pv 2))) (pa_cons pe_int pa_nil)))))) pa_nil))))))
  (pss_one (ps_ret (pv 3)))))), ?_⟩
    have c0 := Int.emod_nonneg (cellAt ns 0) (show most ≠ 0 by omega)
    have c1 := Int.emod_lt_of_pos (cellAt ns 0) (show 0 < most by omega)
    refine ⟨_, rfl, a, ns, 0, rfl, hS, by decide, _, rfl, _, _, rfl, rfl, (by show 0 < most; omega), _, _, rfl, rfl, ?_⟩
    obtain ⟨n, hn⟩ : ∃ n, 1 + cellAt ns 0 % most = n := ⟨_, rfl⟩
    simp only [hn]
    refine ⟨by show 0 ≤ sizeLine; decide, fun l hl => ?_⟩
    refine ⟨_, rfl, _, _, rfl, rfl, n + 1, rfl, by omega, by omega, for_range (lo := 0) (n := (n + 1).toNat) (fun i σ H1 => L2.Same H H1 ∧ ∃ (c4 c5 : Option V) (ras : List Addr) (rs : List (List Int)), σ = [some (.ref a), some (.int most), some (.int n), some (.ref l), c4, c5] ∧ H1 l = some (.lst (ras.map V.ref)) ∧
      Paired (RowAt (frsh H H1)) ras rs ∧ (∀ b ∈ ras, b ≠ l) ∧ rs.length = i ∧ ∀ (y : Nat) (r : List Int), rs[y]? = some r → r.length = (n + 1).toNat - y ∧ ∀ v ∈ r, 0 ≤ v ∧ v ≤ 2)
      ⟨same_upd hl, _, _, [], [], rfl, upd_same, .nil, (fun b hb => by cases hb), rfl, (fun y r h => by simp at h)⟩ ?_ ?_⟩
    · rintro i σ H1 hi ⟨s1, c4, c5, ras, rs, rfl, hl1, hp, hne, hlen, hok⟩
      refine ⟨_, rfl, _, rfl, _, _, rfl, rfl, a, ns, _, rfl, s1.seq hS, by omega, ?_⟩
      refine ⟨_, rfl, .inl ⟨rfl, _, SqL.of hl1⟩, ?_⟩
      refine ⟨_, rfl, _, rfl, _, _, rfl, rfl, _, _, rfl, rfl, n - (0 + (i : Int)) + 1, rfl, by omega, by omega, comp_range (lo := 0) (n := (n - (0 + (i : Int)) + 1).toNat) (fun j ys σc H2 => L2.Same H1 H2 ∧ ∃ (zs : List Int) (c0 : Option V), ys = zs.map V.int ∧ zs.length = j ∧ (∀ z ∈ zs, 0 ≤ z ∧ z ≤ 2) ∧
        σc = [c0, some (.int (cellAt ns (3 + (0 + (i : Int))))), some (.int (0 + (i : Int)))]) ⟨L2.Same.refl _, [], none, rfl, rfl, (fun z hz => by cases hz), rfl⟩ (by rw [sizeLine_eq]; omega) (fun j ys σ H2 ⟨_, zs, _, e, hz, _⟩ => by rw [e, List.length_map, hz]; exact Nat.le_refl _) ?_ ?_⟩
      · rintro j ys σc H2 hj ⟨s2, zs, c0, rfl, hz, hall, rfl⟩
        refine ⟨_, rfl, _, rfl, _, rfl, _, _, rfl, rfl, .inl ⟨by decide, by decide⟩, _, _, rfl, rfl, _, _, _, rfl, by omega, by omega, by decide, fun r H3 r0 r1 s3 => ?_⟩
        refine ⟨s2.trans s3, zs ++ [r], _, by simp, by rw [List.length_append, hz]; rfl, fun z hz' => ?_, rfl⟩
        rcases List.mem_append.mp hz' with h | h
        · exact hall z h
        · have e : z = r := by simpa using h
          subst e
          omega
      · rintro ys σc H2 ⟨s2, zs, c0, rfl, hz, hall, rfl⟩ p hp2
        have e2 : H2 l = some (.lst (ras.map V.ref)) := s2 _ _ hl1
        have npl : l ≠ p := ne_of_none e2 hp2
        have lenr : ras.length = rs.length := Paired.length hp
        refine ⟨l, _, _, rfl, rfl, by rw [upd_ne npl]; exact e2, by rw [List.length_map, sizeLine_eq]; omega, ?_⟩
        have s4 : L2.Same H (upd (upd H2 p (.lst (zs.map V.int))) l (.lst (ras.map V.ref ++ [.ref p]))) := fun b o e => by
          have hb : b ≠ l := ne_of_none e hl
          rw [upd_ne hb]
          exact same_upd hp2 _ _ (s2 _ _ (s1 _ _ e))
        have pH : H p = none := s1.free (s2.free hp2)
        refine ⟨s4, _, _, ras ++ [p], rs ++ [zs], rfl, by rw [upd_same]; simp, Paired.appendP (L2.Paired.mapP (Paired.withMem hp) fun b r ⟨hb, z⟩ => ?_) (.cons ?_ .nil), fun b hb => ?_, by simp [hlen], fun y r e => ?_⟩
        · obtain ⟨z1, z2⟩ := of_frsh z
          show frsh H _ b = _
          rw [frsh_none z1, upd_ne (hne b hb)]
          exact same_upd hp2 _ _ (s2 _ _ z2)
        · show frsh H _ p = _
          rw [frsh_none pH, upd_ne npl.symm, upd_same]
        · rcases List.mem_append.mp hb with h | h
          · exact hne b h
          · have e : b = p := by simpa using h
            rw [e]; exact npl.symm
        · by_cases hy : y < rs.length
          · rw [List.getElem?_append_left hy] at e
            exact hok y r e
          · rw [List.getElem?_append_right (by omega)] at e
            have y0 : y - rs.length = 0 := by
              cases q : y - rs.length with
              | zero => rfl
              | succ k => rw [q] at e; simp at e
            rw [y0] at e
            have e' : zs = r := by simpa using e
            subst e'
            exact ⟨by omega, hall⟩
    · rintro σ H1 ⟨s1, c4, c5, ras, rs, rfl, hl1, hp, hne, hlen, hok⟩
      refine ⟨_, rfl, kq _ _ rs s1 ⟨by omega, by omega, fun y r e => ?_⟩ ⟨l, ras, rfl, ?_, hp⟩ (by omega)⟩
      · have := hok y r e
        rw [hlen]
        exact this
      · rw [frsh_none hl]; exact hl1
end
end K09
set_option Elab.async false
set_option linter.all false
set_option maxRecDepth 100000
set_option maxHeartbeats 4000000
namespace K09
open PySem PySem.Spec PyProof.Rows L2
seal L2.PE L2.PT L2.PS L2.PSs L2.PA L2.PI L2.PG L2.PGs L2.PW L2.PO L2.PIfs L2.PH
def NetAt (C : Addr) (H : Hp) (v : V) (rs : List (List Int)) : Prop := ∃ p dx m, v = .ref p ∧ H p = some (.ins C dx (flds ((rs.length : Int) - 1) m)) ∧ TGrid H (.ref m) rs ∧ Good rs
theorem NetAt.same {C : Addr} {H H' : Hp} {v : V} {rs : List (List Int)} (e : L2.Same H H') (h : NetAt C H v rs) : NetAt C H' v rs := by
  obtain ⟨p, dx, m, e0, hp, G, g⟩ := h
  exact ⟨p, dx, m, e0, e _ _ hp, G.same e, g⟩
def spPlace (C : Addr) : Sp := fun vs H Q _ => ∃ (nv : V) (rs : List (List Int)) (x y : Int), vs = [nv, .int x, .int y] ∧ NetAt C H nv rs ∧ Q (.bl (decide (onN ((rs.length : Int) - 1) x y))) H
def spMark (C NP : Addr) : Sp := fun vs H Q E => ∃ (nv : V) (rs : List (List Int)) (x y : Int), vs = [nv, .int x, .int y] ∧ NetAt C H nv rs ∧ (onN ((rs.length : Int) - 1) x y → Q (.int (mkAt rs x y)) H) ∧ (¬ onN ((rs.length : Int) - 1) x y → E (.ref NP) none H)
section
variable {P : Program} {w : World} {K : PySem.W.Frag} {mg : Str → Option Value} {base : Heap} {ad : Adr}
theorem ok_place {f : Addr} {fd : FuncData} (F : Fun K "is_place" "is_place" s_is_place f fd) (T : Txt K mg ad) : FnOk P w K mg base (CXR P w) 1 f fd ["net", "x", "y"] (spPlace ad.Net) := by
  refine F.okX sc_is_place (fun vs H Q E h => ?_) (fun cdv A outer s H vs Q E hr h hx => ?_)
  · obtain ⟨nv, rs, x, y, rfl, _⟩ := h
    rfl
  · obtain ⟨nv, rs, x, y, rfl, N, q⟩ := h
    refine ⟨_, (pss_one (ps_ret (pe_and (pe_cmpR op_ge (pv 1) pe_int (nomark _)) (pe_and (pe_cmpR op_ge (pv 2) pe_int (nomark _)) (pe_one (pe_cmpR op_le (pe_op op_add (pv 1) (pv 2)) (pe_fldK K (pv 0) rfl) (nomark _))))))), ?_⟩
    obtain ⟨p, dx, m, rfl, hp, G, g⟩ := N
    refine ⟨_, rfl, _, _, rfl, rfl, _, rfl, ?_⟩
    refine ite2 (fun h1 => ?_) (fun h1 => ?_)
    · refine ⟨_, rfl, _, _, rfl, rfl, _, rfl, ?_⟩
      refine ite2 (fun h2 => ?_) (fun h2 => ?_)
      · refine ⟨_, rfl, _, rfl, _, _, rfl, rfl, _, rfl, p, ad.Net, dx, _, _, rfl, hp, T.cl_Net, T.n_Net_size, flds_size _ _, _, _, rfl, rfl, ?_⟩
        have e : decide (onN ((rs.length : Int) - 1) x y) = decide (x + y ≤ (rs.length : Int) - 1) := by
          have h1' : 0 ≤ x := of_decide_eq_true h1
          have h2' : 0 ≤ y := of_decide_eq_true h2
          unfold onN
          simp [h1', h2']
        rw [e] at q
        exact q
      · have e : decide (onN ((rs.length : Int) - 1) x y) = false := by
          have h2' : ¬ (0 ≤ y) := fun z => h2 (decide_eq_true z)
          unfold onN
          simp [h2']
        rw [e] at q
        exact q
    · have e : decide (onN ((rs.length : Int) - 1) x y) = false := by
        have h1' : ¬ (0 ≤ x) := fun z => h1 (decide_eq_true z)
        unfold onN
        simp [h1']
      rw [e] at q
      exact q
theorem ok_mark {f : Addr} {fd : FuncData} (F : Fun K "mark" "mark" s_mark f fd) (T : Txt K mg ad) (C_is_place : Callee P w K mg base "is_place" 1 ["net", "x", "y"] (spPlace ad.Net)) : FnOk P w K mg base (CXR P w) 2 f fd ["net", "x", "y"] (spMark ad.Net ad.NoPlace) := by
  refine F.okX sc_mark (fun vs H Q E h => ?_) (fun cdv A outer s H vs Q E hr h hx => ?_)
  · obtain ⟨nv, rs, x, y, rfl, _⟩ := h
    rfl
  · obtain ⟨nv, rs, x, y, rfl, N, q, ke⟩ := h
    refine ⟨_, (pss_cons (ps_if (pt_not (pt_val (pe_c C_is_place (hr.mono (by decide)) hx.toLetsP (pa_cons (pv 0) (pa_cons (pv 1) (pa_cons (pv 2) pa_nil)))))) (pss_one (ps_raise hx rfl T.x_NoPlace rfl (pa_cons pe_str pa_nil))) pss_nil)
  (pss_one (ps_ret (pe_ix (r := rIxL K) ix_list (pe_ix (r := rIxL K) ix_list (pe_fldK K (pv 0) rfl) (pv 2) (fun _ _ => rfl)) (pv 1) (fun _ _ => rfl))))), ?_⟩
    have N' := N
    obtain ⟨p, dx, m, rfl, hp, G, g⟩ := N
    refine ⟨_, rfl, _, rfl, _, rfl, _, rs, x, y, rfl, N', _, rfl, ?_⟩
    refine ite2 (fun h1 => ?_) (fun h1 => ?_)
    · refine ⟨by show 1 ≤ sizeLine; decide, ke ?_⟩
      simpa using h1
    · have on : onN ((rs.length : Int) - 1) x y := by simpa using h1
      obtain ⟨m', ras, G⟩ := G
      have e0 := G.ev
      injection e0 with e0
      subst e0
      obtain ⟨r, er, ex, _⟩ := g.at on
      obtain ⟨a, ea, ra⟩ := Paired.getP G.rows er
      have e1 : ((y.toNat : Nat) : Int) = y := Int.toNat_of_nonneg on.2.1
      have e2 : ((x.toNat : Nat) : Int) = x := Int.toNat_of_nonneg on.1
      have at1 : atI (ras.map V.ref) y = some (.ref a) := by
        rw [← e1]
        exact atI_nat (by rw [List.getElem?_map, ea]; rfl)
      have at2 : atI (r.map V.int) x = some (.int (mkAt rs x y)) := by
        have z := atI_nat (xs := r.map V.int) (j := x.toNat) (v := .int (mkAt rs x y)) (by rw [List.getElem?_map, ex]; rfl)
        rw [e2] at z
        exact z
      refine ⟨_, rfl, p, ad.Net, dx, _, _, rfl, hp, T.cl_Net, T.n_Net_marks, flds_marks _ _, _, rfl, m, _, _, _, rfl, rfl, SqL.of G.top, at1, _, rfl, a, _, _, _, rfl, rfl, SqL.of ra, at2, q on⟩
end
end K09
set_option Elab.async false
set_option linter.all false
set_option maxRecDepth 100000
set_option maxHeartbeats 4000000
namespace K09
open PySem PySem.Spec PyProof.Rows L2
seal L2.PE L2.PT L2.PS L2.PSs L2.PA L2.PI L2.PG L2.PGs L2.PW L2.PO L2.PIfs L2.PH
def spCorners (K : PySem.W.Frag) (C NT : Addr) : Sp := fun vs H Q E => ∃ (nv tv : V) (rs : List (List Int)) (x y k : Int), vs = [nv, tv] ∧ NetAt C H nv rs ∧ Has K H tv (tD (x, y, k)) ∧
  (isTri ((rs.length : Int) - 1) x y k → ∀ v l xs H', NewL K H H' v l xs ((cornersP x y k).map pD) → Q v H') ∧ (¬ isTri ((rs.length : Int) - 1) x y k → ∀ H', L2.Same H H' → E (.ref NT) none H')
section
variable {P : Program} {w : World} {K : PySem.W.Frag} {mg : Str → Option Value} {base : Heap} {ad : Adr}
theorem corners_tail {C NT : Addr} {ES : L2.St → XK} {msg : Str} {Q : VK} {D : Ends} {H H1 : Hp} {nv tv : V} {rs : List (List Int)} {x y k : Int} {l : Addr} {xs : List V} (hD : D.rt = Q) (hES : ∀ σ, ES σ = ES []) (N : NetAt C H nv rs) (hk : k = 0 ∨ k = 1)
    (L : NewL K H H1 (.ref l) l xs ((cornersP x y k).map pD)) (q : isTri ((rs.length : Int) - 1) x y k → ∀ v l xs H', NewL K H H' v l xs ((cornersP x y k).map pD) → Q v H') (ke : ¬ isTri ((rs.length : Int) - 1) x y k → ∀ H', L2.Same H H' → ES [] (.ref NT) none H') :
    tSeq (tFor (iList K (tVar 4)) (gName 5) (tIfS (tNot (tB (tCallS (spPlace C) [] ES (tCons (tVar 0) (tCons (tOp (rIxT K) (tVar 5) (tC (V.int 0))) (tCons (tOp (rIxT K) (tVar 5) (tC (V.int 1))) tNil)))))) (tRaise NT ES (tCons (tC (V.str msg)) tNil)) tNext)) (tRet (tVar 4))
      D [some nv, some tv, some (.int x), some (.int y), some (.ref l), none] H1 := by
  refine ⟨_, rfl, l, rfl, ⟨_, SqL.of L.at_⟩, for_list (K := K) (a := l) (xs := xs) (fun i σ H2 => H2 = H1 ∧ (∃ c5, σ = [some nv, some tv, some (.int x), some (.int y), some (.ref l), c5]) ∧ ∀ p ∈ (cornersP x y k).take i, onN ((rs.length : Int) - 1) p.1 p.2)
    ⟨rfl, ⟨_, rfl⟩, fun p hp => by simp at hp⟩ (fun i σ H2 _ ⟨e, _⟩ => by rw [e]; exact SqL.of L.at_) ?_ ?_⟩
  · rintro i v σ H2 hv ⟨rfl, ⟨c5, rfl⟩, hall⟩
    obtain ⟨d, hd, hvd⟩ := (L.has.same (less_same _ _)).get hv
    rw [List.getElem?_map] at hd
    cases ep : (cornersP x y k)[i]? with
    | none => rw [ep] at hd; cases hd
    | some p =>
      rw [ep] at hd
      cases hd
      obtain ⟨a, rfl, hq⟩ := has_pt hvd
      refine ⟨_, rfl, _, rfl, a, _, 0, _, rfl, rfl, hq, rfl, _, rfl, a, _, 1, _, rfl, rfl, hq, rfl, nv, rs, p.1, p.2, rfl, N.same L.same, _, rfl, ?_⟩
      refine ite2 (fun h1 => ?_) (fun h1 => ?_)
      · refine ⟨by show 1 ≤ sizeLine; decide, ?_⟩
        rw [hES]
        refine ke (fun z => ?_) _ L.same
        have := (isTri_iff.mp z).2 p (List.mem_of_getElem? ep)
        simp [this] at h1
      · refine ⟨rfl, ⟨_, rfl⟩, fun p' hp' => ?_⟩
        rw [List.take_add_one, ep] at hp'
        rcases List.mem_append.mp hp' with z | z
        · exact hall p' z
        · have e : p' = p := by simpa using z
          subst e
          simpa using h1
  · rintro σ H2 ⟨rfl, ⟨c5, rfl⟩, hall⟩
    have e1 : xs.length = (cornersP x y k).length := by have := L.has.length; rw [List.length_map] at this; exact this
    rw [e1, List.take_length] at hall
    subst hD
    exact ⟨_, rfl, q (isTri_iff.mpr ⟨hk, hall⟩) _ _ _ _ L⟩
theorem ok_corners {f : Addr} {fd : FuncData} (F : Fun K "corners" "corners" s_corners f fd) (T : Txt K mg ad) (C_is_place : Callee P w K mg base "is_place" 1 ["net", "x", "y"] (spPlace ad.Net)) : FnOk P w K mg base (CXR P w) 2 f fd ["net", "triangle"] (spCorners K ad.Net ad.NoTriangle) := by
  refine F.okX sc_corners (fun vs H Q E h => ?_) (fun cdv A outer s H vs Q E hr h hx => ?_)
  · obtain ⟨nv, tv, rs, x, y, k, rfl, _⟩ := h
    rfl
  · obtain ⟨nv, tv, rs, x, y, k, rfl, N, hT, q, ke⟩ := h
    refine ⟨_, (pss_cons (ps_set (i := 2) sc_corners.nd rfl (Or.inl rfl) (pe_ix (r := rIxT K) ix_tup (pv 1) pe_int (fun _ _ => rfl)))
  (pss_cons (ps_set (i := 3) sc_corners.nd rfl (Or.inl rfl) (pe_ix (r := rIxT K) ix_tup (pv 1) pe_int (fun _ _ => rfl)))
  (pss_cons (ps_if (pt_cmpR op_eq (pe_ix (r := rIxT K) ix_tup (pv 1) pe_int (fun _ _ => rfl)) pe_int (nomark _)) (pss_one (ps_set (i := 4) sc_corners.nd rfl (Or.inl rfl) (pe_lst (pa_cons (pe_tup (pa_cons (pv 2) (pa_cons (pv 3) pa_nil))) (pa_cons (pe_tup (pa_cons (pe_op op_add (pv 2) pe_int) (pa_cons (pv 3) pa_nil))) (pa_cons (pe_tup (pa_cons (pv 2) (pa_cons (pe_op op_add (pv 3) pe_int) pa_nil))) pa_nil)))))) (pss_one (ps_if (pt_cmpR op_eq (pe_ix (r := rIxT K) ix_tup (pv 1) pe_int (fun _ _ => rfl)) pe_int (nomark _)) (pss_one (ps_set (i := 4) sc_corners.nd rfl (Or.inl rfl) (pe_lst (pa_cons (pe_tup (pa_cons (pe_op op_add (pv 2) pe_int) (pa_cons (pv 3) pa_nil))) (pa_cons (pe_tup (pa_cons (pe_op op_add (pv 2) pe_int) (pa_cons (pe_op op_add (pv 3) pe_int) pa_nil))) (pa_cons (pe_tup (pa_cons (pv 2) (pa_cons (pe_op op_add (pv 3) pe_int) pa_nil))) pa_nil)))))) (pss_one (ps_raise hx rfl T.x_NoTriangle rfl (pa_cons pe_str pa_nil))))))
  (pss_cons (ps_for hx.own rfl (pi_listK K (pv 4)) (pg_name (i := 5) sc_corners.nd rfl (Or.inl rfl)) (pss_one (ps_if (pt_not (pt_val (pe_c C_is_place (hr.mono (by decide)) hx.toLetsP (pa_cons (pv 0) (pa_cons (pe_ix (r := rIxT K) ix_tup (pv 5) pe_int (fun _ _ => rfl)) (pa_cons (pe_ix (r := rIxT K) ix_tup (pv 5) pe_int (fun _ _ => rfl)) pa_nil)))))) (pss_one (ps_raise hx rfl T.x_NoTriangle rfl (pa_cons pe_str pa_nil))) pss_nil)))
  (pss_one (ps_ret (pv 4))))))), ?_⟩
    obtain ⟨t, rfl, hq⟩ := has_tr hT
    have z2 : 2 ≤ sizeLine := by rw [sizeLine_eq]; decide
    have z3 : 3 ≤ sizeLine := by rw [sizeLine_eq]; decide
    refine ⟨_, rfl, t, _, 0, _, rfl, rfl, hq, rfl, ?_⟩
    refine ⟨_, rfl, t, _, 1, _, rfl, rfl, hq, rfl, ?_⟩
    refine ⟨_, rfl, t, _, 2, _, rfl, rfl, hq, rfl, rfl, _, rfl, ?_⟩
    refine ite2 (fun h0 => ?_) (fun h0 => ?_)
    · have k0 : k = 0 := by simpa using h0
      refine ⟨_, rfl, _, rfl, z2, fun p1 h1 => ⟨_, rfl, _, _, rfl, rfl, _, rfl, z2, fun p2 h2 => ⟨_, rfl, _, rfl, _, _, rfl, rfl, z2, fun p3 h3 => ⟨z3, fun l hl => ?_⟩⟩⟩⟩
      have s1 := same_upd (o := .tup [.int x, .int y]) h1
      have s2 := same_upd (o := .tup [.int (x + 1), .int y]) h2
      have s3 := same_upd (o := .tup [.int x, .int (y + 1)]) h3
      refine corners_tail (K := K) (x := x) (y := y) (k := k) rfl (fun _ => rfl) N (.inl k0) (newL_mk ((s1.trans s2).trans s3) hl ?_) q ke
      unfold cornersP
      rw [if_pos k0]
      exact .cons (pt_has (s3 _ _ (s2 _ _ upd_same))) (.cons (pt_has (s3 _ _ upd_same)) (.cons (pt_has upd_same) .nil))
    · have k0 : k ≠ 0 := by simpa using h0
      refine ⟨_, rfl, t, _, 2, _, rfl, rfl, hq, rfl, rfl, _, rfl, ?_⟩
      refine ite2 (fun h01 => ?_) (fun h01 => ?_)
      · have k1 : k = 1 := by simpa using h01
        refine ⟨_, rfl, _, _, rfl, rfl, _, rfl, z2, fun p1 h1 => ⟨_, rfl, _, _, rfl, rfl, _, rfl, _, _, rfl, rfl, z2, fun p2 h2 => ⟨_, rfl, _, rfl, _, _, rfl, rfl, z2, fun p3 h3 => ⟨z3, fun l hl => ?_⟩⟩⟩⟩
        have s1 := same_upd (o := .tup [.int (x + 1), .int y]) h1
        have s2 := same_upd (o := .tup [.int (x + 1), .int (y + 1)]) h2
        have s3 := same_upd (o := .tup [.int x, .int (y + 1)]) h3
        refine corners_tail (K := K) (x := x) (y := y) (k := k) rfl (fun _ => rfl) N (.inr k1) (newL_mk ((s1.trans s2).trans s3) hl ?_) q ke
        unfold cornersP
        rw [if_neg k0]
        exact .cons (pt_has (s3 _ _ (s2 _ _ upd_same))) (.cons (pt_has (s3 _ _ upd_same)) (.cons (pt_has upd_same) .nil))
      · refine ⟨by show 1 ≤ sizeLine; decide, ke (fun z => ?_) _ (L2.Same.refl _)⟩
        have k1 : k ≠ 1 := by simpa using h01
        rcases (isTri_iff.mp z).1 with e | e
        · exact k0 e
        · exact k1 e
end
end K09
set_option Elab.async false
set_option linter.all false
set_option maxRecDepth 100000
set_option maxHeartbeats 4000000
namespace K09
open PySem PySem.Spec PyProof.Rows L2
seal L2.PE L2.PT L2.PS L2.PSs L2.PA L2.PI L2.PG L2.PGs L2.PW L2.PO L2.PIfs L2.PH
def spSense (K : PySem.W.Frag) (C NT : Addr) : Sp := fun vs H Q E => ∃ (nv tv : V) (rs : List (List Int)) (x y k : Int), vs = [nv, tv] ∧ NetAt C H nv rs ∧ Has K H tv (tD (x, y, k)) ∧
  (isTri ((rs.length : Int) - 1) x y k → ∀ H', L2.Same H H' → Q (.int (senseT rs x y k)) H') ∧ (¬ isTri ((rs.length : Int) - 1) x y k → ∀ H', L2.Same H H' → E (.ref NT) none H')
section
variable {P : Program} {w : World} {K : PySem.W.Frag} {mg : Str → Option Value} {base : Heap} {ad : Adr}
theorem ok_sense {f : Addr} {fd : FuncData} (F : Fun K "sense" "sense" s_sense f fd) (T : Txt K mg ad) (C_mark : Callee P w K mg base "mark" 2 ["net", "x", "y"] (spMark ad.Net ad.NoPlace)) (C_corners : Callee P w K mg base "corners" 2 ["net", "triangle"] (spCorners K ad.Net ad.NoTriangle)) :
    FnOk P w K mg base (CXR P w) 3 f fd ["net", "triangle"] (spSense K ad.Net ad.NoTriangle) := by
  refine F.okX sc_sense (fun vs H Q E h => ?_) (fun cdv A outer s H vs Q E hr h hx => ?_)
  · obtain ⟨nv, tv, rs, x, y, k, rfl, _⟩ := h
    rfl
  · obtain ⟨nv, tv, rs, x, y, k, rfl, N, hT, q, ke⟩ := h
    have hu : _ := hr.units
    refine ⟨_, (pss_cons (ps_setC (Nc := ["place", "net"]) (nt := 1) (is := [0]) rfl (comp_okF (by rfl) (by decide +kernel) rfl (by decide +kernel) (by intro p hp; simp only [List.mem_cons, List.not_mem_nil, or_false] at hp; first | (rcases hp with rfl | rfl | rfl | rfl <;> rfl) | (rcases hp with rfl | rfl | rfl <;> rfl) | (rcases hp with rfl | rfl <;> rfl) | (subst hp; rfl)) (by rfl) rfl (fun j i h => match j, h with | 0, h => by cases h; exact ⟨_, rfl, rfl, .inl rfl, .inl rfl⟩ | _ + 1, h => by simp at h)) sc_sense.nd (i := 2) rfl rfl rfl (pi_listK K (pe_c C_corners (hr.mono (by decide)) hx.toLetsP (pa_cons (pv 0) (pa_cons (pv 1) pa_nil)))) (fun _ _ _ _ _ => (pg_name (i := 0) (show List.Nodup (["place", "net"] : List Str) by decide +kernel) rfl (Or.inl rfl))) (fun _ _ _ _ _ => pifs_nil) (fun _ _ _ _ _ => (pe_c C_mark (hr.mono (by decide)) lets_xc (pa_cons (pv 1) (pa_cons (pe_ix (r := rIxT K) ix_tup (pv 0) pe_int (fun _ _ => rfl)) (pa_cons (pe_ix (r := rIxT K) ix_tup (pv 0) pe_int (fun _ _ => rfl)) pa_nil))))))
  (pss_cons (ps_if (pt_cmpR (r := rEqD K true) (op_neD hu) (pe_callB (r := rSorted K) call_sorted rfl T.b_sorted boot_sorted (pa_cons (pv 2) pa_nil)) (pe_lst (pa_cons pe_int (pa_cons pe_int (pa_cons pe_int pa_nil)))) (nomark _)) (pss_one (ps_ret pe_int)) pss_nil)
  (pss_cons (ps_if (pt_cmpR (r := rInD K false) (op_inD hu) (pe_callTy (r := rTupOf K) call_tuple_of rfl T.b_tuple boot_tuple (pa_cons (pv 2) pa_nil)) (pe_glob rfl T.g_FORWARD_ORDERS T.r_FORWARD_ORDERS) rfl) (pss_one (ps_ret pe_int)) pss_nil)
  (pss_one (ps_ret (pe_un un_neg pe_int)))))), ?_⟩
    have zl : sizeLine = 16777216 := sizeLine_eq
    refine ⟨_, rfl, _, rfl, nv, tv, rs, x, y, k, rfl, N, hT, fun it v l xs H1 L => ?_, fun nt H1 s1 => ke nt H1 s1⟩
    obtain rfl := L.ev
    have g : Good rs := by obtain ⟨_, _, _, _, _, _, g⟩ := N; exact g
    have e1 : xs.length = (cornersP x y k).length := by have := L.has.length; rw [List.length_map] at this; exact this
    obtain ⟨pa, pb, pc, e3⟩ := cornersP_three x y k
    have hon := (isTri_iff.mp it).2
    obtain ⟨a, b, c, ey, es, ha, hb, hc⟩ : ∃ a b c : Int, (cornersP x y k).map (fun p => V.int (mkAt rs p.1 p.2)) = [.int a, .int b, .int c] ∧ senseT rs x y k = sense3 a b c ∧ (0 ≤ a ∧ a ≤ 2) ∧ (0 ≤ b ∧ b ≤ 2) ∧ (0 ≤ c ∧ c ≤ 2) := by
      refine ⟨mkAt rs pa.1 pa.2, mkAt rs pb.1 pb.2, mkAt rs pc.1 pc.2, by rw [e3]; rfl, by unfold senseT; rw [e3]; rfl, ?_, ?_, ?_⟩
      · exact (g.at (hon pa (by rw [e3]; simp))).choose_spec.2.2
      · exact (g.at (hon pb (by rw [e3]; simp))).choose_spec.2.2
      · exact (g.at (hon pc (by rw [e3]; simp))).choose_spec.2.2
    refine ⟨l, rfl, ⟨_, SqL.of L.at_⟩, comp_list (K := K) (a := l) (xs := xs) (fun i ys σc H2 => H2 = H1 ∧ (∃ c0, σc = [c0, some nv]) ∧ ys = ((cornersP x y k).take i).map (fun p => V.int (mkAt rs p.1 p.2))) ⟨rfl, ⟨none, rfl⟩, rfl⟩
      (by rw [e1, e3]; show 3 ≤ sizeLine; omega) (fun i ys σ H2 _ h => by rw [h.1]; exact SqL.of L.at_) (fun i ys σ H2 h => by rw [h.2.2, List.length_map, List.length_take]; omega) ?_ ?_⟩
    · rintro i v ys σc H2 hv ⟨rfl, ⟨c0, rfl⟩, rfl⟩
      obtain ⟨d, hd, hvd⟩ := (L.has.same (less_same _ _)).get hv
      rw [List.getElem?_map] at hd
      cases ep : (cornersP x y k)[i]? with
      | none => rw [ep] at hd; cases hd
      | some p =>
        rw [ep] at hd
        cases hd
        obtain ⟨a, rfl, hq⟩ := has_pt hvd
        refine ⟨_, rfl, _, rfl, a, _, 0, _, rfl, rfl, hq, rfl, _, rfl, a, _, 1, _, rfl, rfl, hq, rfl, nv, rs, p.1, p.2, rfl, N.same L.same, fun on => ?_, fun no => absurd (hon p (List.mem_of_getElem? ep)) no⟩
        refine ⟨rfl, ⟨_, rfl⟩, ?_⟩
        rw [List.take_add_one, ep]
        simp
    · rintro ys σc H2 ⟨rfl, ⟨c0, rfl⟩, rfl⟩ p5 h5
      rw [e1, List.take_length, ey]
      have s5 : L2.Same H (upd H2 p5 (.lst [V.int a, .int b, .int c])) := L.same.trans (same_upd h5)
      refine ⟨_, rfl, p5, [a, b, c], rfl, SqL.of upd_same, (by show 3 < 64; decide), fun l6 ns6 h6 pm sr => ⟨by show 3 ≤ sizeLine; omega, fun p7 h7 => ?_⟩⟩
      have s6 := same_upd (o := .lst (ns6.map V.int)) h6
      have s7 := same_upd (o := .lst [V.int 0, .int 1, .int 2]) h7
      refine ⟨.lst (ns6.map Dt.int), .lst ([0, 1, 2].map Dt.int), .lst (SqL.of (s7 _ _ upd_same)) (hasL_ints _ _), .lst (SqL.of upd_same) (hasL_ints _ [0, 1, 2]), by rw [dep, depL_ints]; omega, _, rfl, ?_⟩
      have hs := sorted_012 pm sr ha hb hc
      refine ite2 (fun h8 => ?_) (fun h8 => ?_)
      · have n8 : ¬ (ns6 = [0, 1, 2]) := fun z => by
          have h8' : (!eqD (.lst (ns6.map Dt.int)) (.lst ([0, 1, 2].map Dt.int))) = true := h8
          rw [eqD_ints.mpr z] at h8'
          cases h8'
        have nf : ¬ ((fwd a b c || bwd a b c) = true) := fun z => n8 (hs.mpr z)
        have e0 : sense3 a b c = 0 := by
          simp only [Bool.or_eq_true, not_or, Bool.not_eq_true] at nf
          unfold sense3
          rw [nf.1, nf.2]
          rfl
        have := q it _ (s5.trans (s6.trans s7))
        rw [es, e0] at this
        exact this
      · have y8 : ns6 = [0, 1, 2] := by
          have : eqD (.lst (ns6.map Dt.int)) (.lst ([0, 1, 2].map Dt.int)) = true := by simpa using h8
          exact eqD_ints.mp this
        have fb := hs.mp y8
        have s57 : L2.Same (upd H2 p5 (.lst [V.int a, .int b, .int c])) _ := s6.trans s7
        refine ⟨_, rfl, p5, _, rfl, .inl ⟨SqL.of (s57 _ _ upd_same), fun l9 h9 => ?_⟩⟩
        have s9 := same_upd (o := .tup [V.int a, .int b, .int c]) h9
        obtain ⟨fo, fx, e, sq, hl⟩ := has_tup (T.h_FORWARD_ORDERS (upd (upd (upd (upd H2 p5 (.lst [V.int a, .int b, .int c])) l6 (.lst (ns6.map V.int))) p7 (.lst [V.int 0, .int 1, .int 2])) l9 (.tup [V.int a, .int b, .int c])))
        refine ⟨fo, fx, _, .tup [.int a, .int b, .int c], e, .inr sq, hl, .tup (SqT.of upd_same) (hasL_ints _ [a, b, c]), by simp [depL, dep], _, rfl, ?_⟩
        have sf := s5.trans (s57.trans s9)
        refine ite2 (fun h10 => ?_) (fun h10 => ?_)
        · have f : fwd a b c = true := by
            rw [← fwd_any ha hb hc]
            simpa using h10
          have := q it _ sf
          rw [es] at this
          unfold sense3 at this
          rw [f] at this
          exact this
        · have f : fwd a b c = false := by
            rw [← fwd_any ha hb hc]
            simpa using h10
          rw [f] at fb
          have := q it _ sf
          rw [es] at this
          unfold sense3 at this
          rw [f, show bwd a b c = true from by simpa using fb] at this
          exact ⟨_, rfl, this⟩
end
end K09
set_option Elab.async false
set_option linter.all false
set_option maxRecDepth 100000
set_option maxHeartbeats 4000000
namespace K09
open PySem PySem.Spec PyProof.Rows L2
seal L2.PE L2.PT L2.PS L2.PSs L2.PA L2.PI L2.PG L2.PGs L2.PW L2.PO L2.PIfs L2.PH
def spLNet (C : Addr) : Sp := fun vs H Q _ => ∃ (mv : V) (rs : List (List Int)), vs = [mv] ∧ TGrid H mv rs ∧ Good rs ∧ ∀ v H', L2.Same H H' → NetAt C (frsh H H') v rs → Q v H'
section
variable {P : Program} {w : World} {K : PySem.W.Frag} {mg : Str → Option Value} {base : Heap} {ad : Adr}
theorem ok_lnet {f : Addr} {fd : FuncData} (F : Fun K "_law_net" "_law_net" s_law_net f fd) (T : Txt K mg ad) (M_Net : Maker P w K mg base "Net" ad.Net 2 ["self", "marks"] (spInit ad.Net ad.BadNet)) : FnOk P w K mg base (CXR P w) 4 f fd ["marks"] (spLNet ad.Net) := by
  refine F.okX sc_law_net (fun vs H Q E h => ?_) (fun cdv A outer s H vs Q E hr h hx => ?_)
  · obtain ⟨mv, rs, rfl, _⟩ := h
    rfl
  · obtain ⟨mv, rs, rfl, G, g, q⟩ := h
    refine ⟨_, (pss_one (ps_ret (pe_mk M_Net (hr.mono (by decide)) hx.toLetsP (pa_cons (pe_comp (Nc := ["row"]) (nt := 1) (is := []) rfl (comp_ok0 (by decide +kernel) (by decide +kernel) rfl (by decide +kernel) rfl)  (pi_listK K (pv 0)) (fun _ _ _ _ _ => (pg_name (i := 0) (show List.Nodup (["row"] : List Str) by decide +kernel) rfl (Or.inl rfl))) (fun _ _ _ _ _ => pifs_nil) (fun _ _ _ _ _ => (pe_callTy (r := rListOf K) call_list_of rfl T.b_list boot_list (pa_cons (pv 0) pa_nil)))) pa_nil)))), ?_⟩
    have hz : rs.length ≤ 1000 := by have := g.2.1; omega
    show tComp 1 [] (iList K (tVar 0)) (gName 0) tYes (tCB (rListOf K) (tCons (tVar 0) tNil)) _ _ _
    refine copy_grid (i := 0) (rs := rs) (by rfl) G hz fun gv H2 s2 Gg => ?_
    intro x dx hx0 hdx hne
    have sn : L2.Same H2 (upd (upd H2 dx (.own x)) x (.ins ad.Net dx [])) := (same_upd hdx).trans (same_upd (by rw [upd_ne hne.symm]; exact hx0))
    refine ⟨x, dx, gv, rs, rfl, upd_same, Gg.same ((frsh_same _ _).trans sn), hz, fun _ H5 m fr hp Gn => ⟨rfl, ?_⟩, fun ng => absurd g ng⟩
    refine q _ _ (fun b o e => fr b o (sn _ _ (s2 _ _ e)) (ne_of_none (s2 _ _ e) hx0)) ⟨x, dx, m, rfl, ?_, Gn.same (frsh_from (s2.trans sn)), g⟩
    rw [frsh_none (s2.free hx0)]
    exact hp
end
end K09
set_option Elab.async false
set_option linter.all false
set_option maxRecDepth 100000
set_option maxHeartbeats 4000000
namespace K09
open PySem PySem.Spec PyProof.Rows L2
seal L2.PE L2.PT L2.PS L2.PSs L2.PA L2.PI L2.PG L2.PGs L2.PW L2.PO L2.PIfs L2.PH
def spLCorners (K : PySem.W.Frag) : Sp := fun vs H Q _ => ∃ (tv : V) (x y k : Int), vs = [tv] ∧ Has K H tv (tD (x, y, k)) ∧ (k = 0 ∨ k = 1) ∧ ∀ v l xs H', NewL K H H' v l xs ((cornersP x y k).map pD) → Q v H'
def spLTris (K : PySem.W.Frag) : Sp := fun vs H Q _ => ∃ (n : Nat), vs = [.int n] ∧ n ≤ 12 ∧ ∀ v l xs H', NewL K H H' v l xs ((tris n).map tD) → Q v H'
section
variable {P : Program} {w : World} {K : PySem.W.Frag} {mg : Str → Option Value} {base : Heap} {ad : Adr}
theorem ok_lcorners {f : Addr} {fd : FuncData} (F : Fun K "_law_corners" "_law_corners" s_law_corners f fd) (T : Txt K mg ad) : FnOk P w K mg base (CXR P w) 1 f fd ["triangle"] (spLCorners K) := by
  refine F.okX sc_law_corners (fun vs H Q E h => ?_) (fun cdv A outer s H vs Q E hr h hx => ?_)
  · obtain ⟨tv, x, y, k, rfl, _⟩ := h
    rfl
  · obtain ⟨tv, x, y, k, rfl, hT, hk, q⟩ := h
    refine ⟨_, (pss_cons (ps_asg (pv 0) (pg_tupK (n := 3) K rfl (pgs_cons (pg_name (i := 1) sc_law_corners.nd rfl (Or.inl rfl)) (pgs_cons (pg_name (i := 2) sc_law_corners.nd rfl (Or.inl rfl)) (pgs_cons (pg_name (i := 3) sc_law_corners.nd rfl (Or.inl rfl)) pgs_nil)))))
  (pss_one (ps_ret (pe_ix (r := rIxL K) ix_list (pe_lst (pa_cons (pe_lst (pa_cons (pe_tup (pa_cons (pv 1) (pa_cons (pv 2) pa_nil))) (pa_cons (pe_tup (pa_cons (pe_op op_add (pv 1) pe_int) (pa_cons (pv 2) pa_nil))) (pa_cons (pe_tup (pa_cons (pv 1) (pa_cons (pe_op op_add (pv 2) pe_int) pa_nil))) pa_nil)))) (pa_cons (pe_lst (pa_cons (pe_tup (pa_cons (pe_op op_add (pv 1) pe_int) (pa_cons (pv 2) pa_nil))) (pa_cons (pe_tup (pa_cons (pe_op op_add (pv 1) pe_int) (pa_cons (pe_op op_add (pv 2) pe_int) pa_nil))) (pa_cons (pe_tup (pa_cons (pv 1) (pa_cons (pe_op op_add (pv 2) pe_int) pa_nil))) pa_nil)))) pa_nil))) (pv 3) (fun _ _ => rfl))))), ?_⟩
    obtain ⟨t, rfl, hq⟩ := has_tr hT
    have z2 : 2 ≤ sizeLine := by rw [sizeLine_eq]; decide
    have z3 : 3 ≤ sizeLine := by rw [sizeLine_eq]; decide
    refine ⟨_, rfl, t, _, rfl, hq, rfl, _, _, rfl, _, _, rfl, _, _, rfl, rfl, ?_⟩
    refine ⟨_, rfl, _, rfl, z2, fun p1 h1 => ⟨_, rfl, _, _, rfl, rfl, _, rfl, z2, fun p2 h2 => ⟨_, rfl, _, rfl, _, _, rfl, rfl, z2, fun p3 h3 => ⟨z3, fun la hla => ?_⟩⟩⟩⟩
    refine ⟨_, rfl, _, _, rfl, rfl, _, rfl, z2, fun p4 h4 => ⟨_, rfl, _, _, rfl, rfl, _, rfl, _, _, rfl, rfl, z2, fun p5 h5 => ⟨_, rfl, _, rfl, _, _, rfl, rfl, z2, fun p6 h6 => ⟨z3, fun lb hlb => ?_⟩⟩⟩⟩
    refine ⟨z2, fun lc hlc => ?_⟩
    have s1 := same_upd (o := .tup [.int x, .int y]) h1
    have s2 := same_upd (o := .tup [.int (x + 1), .int y]) h2
    have s3 := same_upd (o := .tup [.int x, .int (y + 1)]) h3
    have sa := same_upd (o := .lst [.ref p1, .ref p2, .ref p3]) hla
    have s4 := same_upd (o := .tup [.int (x + 1), .int y]) h4
    have s5 := same_upd (o := .tup [.int (x + 1), .int (y + 1)]) h5
    have s6 := same_upd (o := .tup [.int x, .int (y + 1)]) h6
    have sb := same_upd (o := .lst [.ref p4, .ref p5, .ref p6]) hlb
    have sc := same_upd (o := .lst [.ref la, .ref lb]) hlc
    have LA := newL_mk (K := K) ((s1.trans s2).trans s3) hla (xs := [.ref p1, .ref p2, .ref p3]) (.cons (pt_has (s3 _ _ (s2 _ _ upd_same))) (.cons (pt_has (s3 _ _ upd_same)) (.cons (pt_has upd_same) .nil)))
    have LB := newL_mk (K := K) ((((((s1.trans s2).trans s3).trans sa).trans s4).trans s5).trans s6) hlb (xs := [.ref p4, .ref p5, .ref p6]) (.cons (pt_has (s6 _ _ (s5 _ _ upd_same))) (.cons (pt_has (s6 _ _ upd_same)) (.cons (pt_has upd_same) .nil)))
    rcases hk with rfl | rfl
    · refine ⟨_, rfl, lc, _, 0, _, rfl, rfl, SqL.of upd_same, rfl, ?_⟩
      exact q _ la _ _ (LA.later ((((s4.trans s5).trans s6).trans sb).trans sc))
    · refine ⟨_, rfl, lc, _, 1, _, rfl, rfl, SqL.of upd_same, rfl, ?_⟩
      exact q _ lb _ _ (LB.later sc)
theorem ok_ltris {f : Addr} {fd : FuncData} (F : Fun K "_law_triangles" "_law_triangles" s_law_triangles f fd) (T : Txt K mg ad) (C_law_corners : Callee P w K mg base "_law_corners" 1 ["triangle"] (spLCorners K)) : FnOk P w K mg base (CXR P w) 2 f fd ["size"] (spLTris K) := by
  refine F.okX sc_law_triangles (fun vs H Q E h => ?_) (fun cdv A outer s H vs Q E hr h hx => ?_)
  · obtain ⟨n, rfl, _⟩ := h
    rfl
  · obtain ⟨n, rfl, hn, q⟩ := h
    refine ⟨_, (pss_cons (ps_set (i := 1) sc_law_triangles.nd rfl (Or.inl rfl) (pe_lst pa_nil))
  (pss_cons (ps_for hx.own rfl (pi_range1 rfl T.b_range (pa_cons (pv 0) pa_nil)) (pg_name (i := 2) sc_law_triangles.nd rfl (Or.inl rfl)) (pss_one (ps_for hx.own rfl (pi_range1 rfl T.b_range (pa_cons (pv 0) pa_nil)) (pg_name (i := 3) sc_law_triangles.nd rfl (Or.inl rfl)) (pss_one (ps_for hx.own rfl (pi_range1 rfl T.b_range (pa_cons pe_int pa_nil)) (pg_name (i := 4) sc_law_triangles.nd rfl (Or.inl rfl)) (pss_one (ps_if (pt_cmpR op_le (pe_callB (r := rMaxL K) (call_maxL rfl) rfl T.b_max boot_max (pa_cons (pe_comp (Nc := ["a", "b"]) (nt := 2) (is := []) rfl (comp_ok0 (by decide +kernel) (by decide +kernel) rfl (by decide +kernel) rfl)  (pi_listK K (pe_c C_law_corners (hr.mono (by decide)) hx.toLetsP (pa_cons (pe_tup (pa_cons (pv 2) (pa_cons (pv 3) (pa_cons (pv 4) pa_nil)))) pa_nil))) (fun _ _ _ _ _ => (pg_tupK (n := 2) K rfl (pgs_cons (pg_name (i := 0) (show List.Nodup (["a", "b"] : List Str) by decide +kernel) rfl (Or.inl rfl)) (pgs_cons (pg_name (i := 1) (show List.Nodup (["a", "b"] : List Str) by decide +kernel) rfl (Or.inl rfl)) pgs_nil)))) (fun _ _ _ _ _ => pifs_nil) (fun _ _ _ _ _ => (pe_op op_add (pv 0) (pv 1)))) pa_nil)) (pv 0) (nomark _)) (pss_one (ps_expr (pe_bm PySem.F.plainAttrs_list PySem.F.slot_list_append PySem.F.type_list_append mt_append (pv 1) (pa_cons (pe_tup (pa_cons (pv 2) (pa_cons (pv 3) (pa_cons (pv 4) pa_nil)))) pa_nil)))) pss_nil)))))))
  (pss_one (ps_ret (pv 1))))), ?_⟩
    have z3 : 3 ≤ sizeLine := by rw [sizeLine_eq]; decide
    have zl : sizeLine = 16777216 := sizeLine_eq
    refine ⟨by show 0 ≤ sizeLine; decide, fun l hl => ?_⟩
    refine ⟨_, rfl, (n : Int), rfl, by omega, by omega, for_range (lo := 0) (n := (n : Int).toNat) (fun i σ H1 => ∃ (c2 c3 c4 : Option V) (xs : List V), σ = [some (.int n), some (.ref l), c2, c3, c4] ∧
      NewL K H H1 (.ref l) l xs (((List.range i).flatMap fun x => (List.range n).flatMap fun y => kindsL n x y 2).map tD) ∧ xs.length ≤ i * 24) ⟨none, none, none, [], rfl, newL_mk (L2.Same.refl _) hl .nil, Nat.zero_le _⟩ ?_ ?_⟩
    · rintro i σ H1 hi ⟨c2, c3, c4, xs, rfl, L, hb⟩
      refine ⟨_, rfl, (n : Int), rfl, by omega, by omega, for_range (lo := 0) (n := (n : Int).toNat) (fun j σ H2 => ∃ (c3 c4 : Option V) (ys : List V), σ = [some (.int n), some (.ref l), some (.int (0 + (i : Int))), c3, c4] ∧
        NewL K H H2 (.ref l) l ys (((List.range i).flatMap (fun x => (List.range n).flatMap fun y => kindsL n x y 2) ++ (List.range j).flatMap fun y => kindsL n i y 2).map tD) ∧ ys.length ≤ i * 24 + 2 * j) ⟨_, _, xs, rfl, by simpa using L, by omega⟩ ?_ ?_⟩
      · rintro j σ H2 hj ⟨c3, c4, ys, rfl, L2', hb2⟩
        refine ⟨2, rfl, by decide, by decide, for_range (lo := 0) (n := 2) (fun k σ H3 => ∃ (c4 : Option V) (zs : List V), σ = [some (.int n), some (.ref l), some (.int (0 + (i : Int))), some (.int (0 + (j : Int))), c4] ∧
          NewL K H H3 (.ref l) l zs (((List.range i).flatMap (fun x => (List.range n).flatMap fun y => kindsL n x y 2) ++ ((List.range j).flatMap (fun y => kindsL n i y 2) ++ kindsL n i j k)).map tD) ∧ zs.length ≤ i * 24 + 2 * j + k) ⟨_, ys, rfl, by simpa [kindsL] using L2', by omega⟩ ?_ ?_⟩
        · rintro k σ H3 hk ⟨c4, zs, rfl, L3, hb3⟩
          have hk' : (0 : Int) + (k : Int) = 0 ∨ (0 : Int) + (k : Int) = 1 := by omega
          have ek : kindsL n i j (k + 1) = kindsL n i j k ++ (if isTri n i j k then [((i : Int), (j : Int), (k : Int))] else []) := by unfold kindsL; rw [flatMap_succ]
          refine ⟨_, rfl, _, rfl, _, rfl, z3, fun pt hpt => ⟨.ref pt, 0 + (i : Int), 0 + (j : Int), 0 + (k : Int), rfl, tr_has upd_same, hk', fun v l' xs' H4 L4 => ?_⟩⟩
          obtain rfl := L4.ev
          obtain ⟨pa, pb, pc, e3⟩ := cornersP_three (0 + (i : Int)) (0 + (j : Int)) (0 + (k : Int))
          have e1 : xs'.length = (cornersP (0 + (i : Int)) (0 + (j : Int)) (0 + (k : Int))).length := by have := L4.has.length; rw [List.length_map] at this; exact this
          refine ⟨l', rfl, ⟨_, SqL.of L4.at_⟩, comp_list (K := K) (a := l') (xs := xs') (fun m ys' σc H5 => H5 = H4 ∧ (∃ c0 c1, σc = [c0, c1]) ∧ ys' = (((cornersP (0 + (i : Int)) (0 + (j : Int)) (0 + (k : Int))).map fun p => p.1 + p.2).take m).map V.int) ⟨rfl, ⟨none, none, rfl⟩, rfl⟩
            (by rw [e1, e3]; show 3 ≤ sizeLine; omega) (fun m ys' σ H5 _ h => by rw [h.1]; exact SqL.of L4.at_) (fun m ys' σ H5 h => by rw [h.2.2, List.length_map, List.length_take]; omega) ?_ ?_⟩
          · rintro m v ys' σc H5 hv ⟨rfl, ⟨c0, c1, rfl⟩, rfl⟩
            obtain ⟨d, hd, hvd⟩ := (L4.has.same (less_same _ _)).get hv
            rw [List.getElem?_map] at hd
            cases ep : (cornersP (0 + (i : Int)) (0 + (j : Int)) (0 + (k : Int)))[m]? with
            | none => rw [ep] at hd; cases hd
            | some p =>
              rw [ep] at hd
              cases hd
              obtain ⟨a, rfl, hq⟩ := has_pt hvd
              refine ⟨a, _, rfl, hq, rfl, _, _, rfl, _, _, rfl, rfl, _, rfl, _, rfl, _, _, rfl, rfl, ?_⟩
              refine ⟨rfl, ⟨_, _, rfl⟩, ?_⟩
              rw [List.take_add_one, List.getElem?_map, ep]
              simp
          · rintro ys' σc H5 ⟨rfl, ⟨c0, c1, rfl⟩, rfl⟩ p6 h6
            have e7 : ((cornersP (0 + (i : Int)) (0 + (j : Int)) (0 + (k : Int))).map fun p => p.1 + p.2).take xs'.length = (cornersP (0 + (i : Int)) (0 + (j : Int)) (0 + (k : Int))).map fun p => p.1 + p.2 := List.take_of_length_le (by rw [List.length_map, e1]; exact Nat.le_refl _)
            rw [e7]
            generalize hsu : ((cornersP (0 + (i : Int)) (0 + (j : Int)) (0 + (k : Int))).map fun p => p.1 + p.2) = sums
            refine ⟨p6, sums, rfl, SqL.of upd_same, by rw [← hsu, e3]; show 0 < 3; decide, fun M hM hmax => ⟨_, rfl, _, _, rfl, rfl, _, rfl, ?_⟩⟩
            have L6 := L3.later (((same_upd (o := .tup [.int (0 + (i : Int)), .int (0 + (j : Int)), .int (0 + (k : Int))]) hpt).trans L4.same).trans (same_upd (o := .lst (sums.map V.int)) h6))
            generalize hH6 : upd H5 p6 (.lst (sums.map V.int)) = H6
            rw [hH6] at L6
            rw [← hsu] at hM hmax
            have im := isTri_max (n := (n : Int)) (by omega) (by omega) hk' hM hmax
            rw [Int.zero_add, Int.zero_add, Int.zero_add] at im
            refine ite2 (fun h7 => ?_) (fun h7 => ?_)
            · have it := im.mp (of_decide_eq_true h7)
              refine ⟨_, rfl, .inl ⟨rfl, _, SqL.of L6.at_⟩, _, rfl, _, rfl, _, rfl, z3, fun p8 h8 => ⟨l, zs, _, rfl, rfl, same_upd h8 _ _ L6.at_, by omega, ?_⟩⟩
              have L8 := (L6.later (same_upd (o := .tup [.int (0 + (i : Int)), .int (0 + (j : Int)), .int (0 + (k : Int))]) h8)).snoc (tr_has (less_new L6.at_ h8))
              refine ⟨_, zs ++ [.ref p8], rfl, ?_, by simp; omega⟩
              rw [ek, if_pos it]
              simpa using L8
            · have it : ¬ isTri n i j k := fun z => h7 (decide_eq_true (im.mpr z))
              refine ⟨_, zs, rfl, ?_, by omega⟩
              rw [ek, if_neg it]
              simpa using L6
        · rintro σ H3 ⟨c4, zs, rfl, L3, hb3⟩
          refine ⟨_, _, zs, rfl, ?_, by omega⟩
          rw [flatMap_succ]
          exact L3
      · rintro σ H2 ⟨c3, c4, ys, rfl, L2', hb2⟩
        refine ⟨_, _, _, ys, rfl, ?_, by omega⟩
        rw [flatMap_succ]
        rw [Int.toNat_natCast] at L2'
        exact L2'
    · rintro σ H1 ⟨c2, c3, c4, xs, rfl, L, hb⟩
      rw [Int.toNat_natCast, ← tris_eq] at L
      exact ⟨_, rfl, q _ _ _ _ L⟩
end
end K09
set_option Elab.async false
set_option linter.all false
set_option maxRecDepth 100000
set_option maxHeartbeats 4000000
namespace K09
open PySem PySem.Spec PyProof.Rows L2
seal L2.PE L2.PT L2.PS L2.PSs L2.PA L2.PI L2.PG L2.PGs L2.PW L2.PO L2.PIfs L2.PH
def spLSense (K : PySem.W.Frag) : Sp := fun vs H Q _ => ∃ (mv tv : V) (rs : List (List Int)) (x y k : Int), vs = [mv, tv] ∧ TGrid H mv rs ∧ Good rs ∧ Has K H tv (tD (x, y, k)) ∧ isTri ((rs.length : Int) - 1) x y k ∧ ∀ H', L2.Same H H' → Q (.int (senseT rs x y k)) H'
section
variable {P : Program} {w : World} {K : PySem.W.Frag} {mg : Str → Option Value} {base : Heap} {ad : Adr}
theorem ok_lsense {f : Addr} {fd : FuncData} (F : Fun K "_law_sense" "_law_sense" s_law_sense f fd) (T : Txt K mg ad) (C_law_corners : Callee P w K mg base "_law_corners" 1 ["triangle"] (spLCorners K)) : FnOk P w K mg base (CXR P w) 2 f fd ["marks", "triangle"] (spLSense K) := by
  refine F.okX sc_law_sense (fun vs H Q E h => ?_) (fun cdv A outer s H vs Q E hr h hx => ?_)
  · obtain ⟨mv, tv, rs, x, y, k, rfl, _⟩ := h
    rfl
  · obtain ⟨mv, tv, rs, x, y, k, rfl, G, g, hT, it, q⟩ := h
    have hu : _ := hr.units
    refine ⟨_, (pss_cons (ps_setC (Nc := ["x", "y", "marks"]) (nt := 2) (is := [0]) rfl (comp_okF (by rfl) (by decide +kernel) rfl (by decide +kernel) (by intro p hp; simp only [List.mem_cons, List.not_mem_nil, or_false] at hp; first | (rcases hp with rfl | rfl | rfl | rfl <;> rfl) | (rcases hp with rfl | rfl | rfl <;> rfl) | (rcases hp with rfl | rfl <;> rfl) | (subst hp; rfl)) (by rfl) rfl (fun j i h => match j, h with | 0, h => by cases h; exact ⟨_, rfl, rfl, .inl rfl, .inl rfl⟩ | _ + 1, h => by simp at h)) sc_law_sense.nd (i := 2) rfl rfl rfl (pi_listK K (pe_c C_law_corners (hr.mono (by decide)) hx.toLetsP (pa_cons (pv 1) pa_nil))) (fun _ _ _ _ _ => (pg_tupK (n := 2) K rfl (pgs_cons (pg_name (i := 0) (show List.Nodup (["x", "y", "marks"] : List Str) by decide +kernel) rfl (Or.inl rfl)) (pgs_cons (pg_name (i := 1) (show List.Nodup (["x", "y", "marks"] : List Str) by decide +kernel) rfl (Or.inl rfl)) pgs_nil)))) (fun _ _ _ _ _ => pifs_nil) (fun _ _ _ _ _ => (pe_ix (r := rIxL K) ix_list (pe_ix (r := rIxL K) ix_list (pv 2) (pv 1) (fun _ _ => rfl)) (pv 0) (fun _ _ => rfl))))
  (pss_cons (ps_if (pt_cmpR (r := rInD K false) (op_inD hu) (pv 2) (pe_lst (pa_cons (pe_lst (pa_cons pe_int (pa_cons pe_int (pa_cons pe_int pa_nil)))) (pa_cons (pe_lst (pa_cons pe_int (pa_cons pe_int (pa_cons pe_int pa_nil)))) (pa_cons (pe_lst (pa_cons pe_int (pa_cons pe_int (pa_cons pe_int pa_nil)))) pa_nil)))) rfl) (pss_one (ps_ret pe_int)) pss_nil)
  (pss_one (ps_ret (pe_op op_sub pe_int (pe_callTy call_int1 rfl T.b_int boot_int (pa_cons (pe_cmpR op_eq (pe_lensetK K rfl rfl rfl T.b_len rfl T.b_set (pa_cons (pv 2) pa_nil)) pe_int (nomark _)) pa_nil))))))), ?_⟩
    have zl : sizeLine = 16777216 := sizeLine_eq
    have z3 : 3 ≤ sizeLine := by omega
    refine ⟨_, rfl, tv, x, y, k, rfl, hT, (isTri_iff.mp it).1, fun v l xs H1 L => ?_⟩
    obtain rfl := L.ev
    have e1 : xs.length = (cornersP x y k).length := by have := L.has.length; rw [List.length_map] at this; exact this
    obtain ⟨pa, pb, pc, e3⟩ := cornersP_three x y k
    have hon := (isTri_iff.mp it).2
    obtain ⟨a, b, c, ey, es, ha, hb, hc⟩ : ∃ a b c : Int, (cornersP x y k).map (fun p => V.int (mkAt rs p.1 p.2)) = [.int a, .int b, .int c] ∧ senseT rs x y k = sense3 a b c ∧ (0 ≤ a ∧ a ≤ 2) ∧ (0 ≤ b ∧ b ≤ 2) ∧ (0 ≤ c ∧ c ≤ 2) := by
      refine ⟨mkAt rs pa.1 pa.2, mkAt rs pb.1 pb.2, mkAt rs pc.1 pc.2, by rw [e3]; rfl, by unfold senseT; rw [e3]; rfl, ?_, ?_, ?_⟩
      · exact (g.at (hon pa (by rw [e3]; simp))).choose_spec.2.2
      · exact (g.at (hon pb (by rw [e3]; simp))).choose_spec.2.2
      · exact (g.at (hon pc (by rw [e3]; simp))).choose_spec.2.2
    obtain ⟨m, ras, G⟩ := G
    obtain rfl := G.ev
    refine ⟨l, rfl, ⟨_, SqL.of L.at_⟩, comp_list (K := K) (a := l) (xs := xs) (fun i ys σc H2 => H2 = H1 ∧ (∃ c0 c1, σc = [c0, c1, some (.ref m)]) ∧ ys = ((cornersP x y k).take i).map (fun p => V.int (mkAt rs p.1 p.2))) ⟨rfl, ⟨none, none, rfl⟩, rfl⟩
      (by rw [e1, e3]; show 3 ≤ sizeLine; omega) (fun i ys σ H2 _ h => by rw [h.1]; exact SqL.of L.at_) (fun i ys σ H2 h => by rw [h.2.2, List.length_map, List.length_take]; omega) ?_ ?_⟩
    · rintro i v ys σc H2 hv ⟨rfl, ⟨c0, c1, rfl⟩, rfl⟩
      obtain ⟨d, hd, hvd⟩ := (L.has.same (less_same _ _)).get hv
      rw [List.getElem?_map] at hd
      cases ep : (cornersP x y k)[i]? with
      | none => rw [ep] at hd; cases hd
      | some p =>
        rw [ep] at hd
        cases hd
        obtain ⟨q1, rfl, hq⟩ := has_pt hvd
        have on := hon p (List.mem_of_getElem? ep)
        obtain ⟨r, er, ex, _⟩ := g.at on
        obtain ⟨ra, ea, hra⟩ := Paired.getP G.rows er
        have e1' : ((p.2.toNat : Nat) : Int) = p.2 := Int.toNat_of_nonneg on.2.1
        have e2' : ((p.1.toNat : Nat) : Int) = p.1 := Int.toNat_of_nonneg on.1
        have at1 : atI (ras.map V.ref) p.2 = some (.ref ra) := by
          have z := atI_nat (xs := ras.map V.ref) (j := p.2.toNat) (v := .ref ra) (by rw [List.getElem?_map, ea]; rfl)
          rw [e1'] at z
          exact z
        have at2 : atI (r.map V.int) p.1 = some (.int (mkAt rs p.1 p.2)) := by
          have z := atI_nat (xs := r.map V.int) (j := p.1.toNat) (v := .int (mkAt rs p.1 p.2)) (by rw [List.getElem?_map, ex]; rfl)
          rw [e2'] at z
          exact z
        refine ⟨q1, _, rfl, hq, rfl, _, _, rfl, _, _, rfl, rfl, _, rfl, _, rfl, m, _, _, _, rfl, rfl, SqL.of (L.same _ _ G.top), at1, _, rfl, ra, _, _, _, rfl, rfl, SqL.of (L.same _ _ hra), at2, ?_⟩
        refine ⟨rfl, ⟨_, _, rfl⟩, ?_⟩
        rw [List.take_add_one, ep]
        simp
    · rintro ys σc H2 ⟨rfl, ⟨c0, c1, rfl⟩, rfl⟩ p5 h5
      rw [e1, List.take_length, ey]
      have s5 : L2.Same H (upd H2 p5 (.lst [V.int a, .int b, .int c])) := L.same.trans (same_upd h5)
      refine ⟨_, rfl, z3, fun q1 h1 => ⟨z3, fun q2 h2 => ⟨z3, fun q3 h3 => ⟨z3, fun q4 h4 => ?_⟩⟩⟩⟩
      have s1 := same_upd (o := .lst [V.int 0, .int 1, .int 2]) h1
      have s2 := same_upd (o := .lst [V.int 1, .int 2, .int 0]) h2
      have s3 := same_upd (o := .lst [V.int 2, .int 0, .int 1]) h3
      have s4 := same_upd (o := .lst [V.ref q1, .ref q2, .ref q3]) h4
      refine ⟨q4, _, [.lst [.int 0, .int 1, .int 2], .lst [.int 1, .int 2, .int 0], .lst [.int 2, .int 0, .int 1]], .lst [.int a, .int b, .int c], rfl, .inl (SqL.of upd_same), .cons (.lst (SqL.of (s4 _ _ (s3 _ _ (s2 _ _ upd_same)))) (hasL_ints _ [0, 1, 2])) (.cons (.lst (SqL.of (s4 _ _ (s3 _ _ upd_same))) (hasL_ints _ [1, 2, 0])) (.cons (.lst (SqL.of (s4 _ _ upd_same)) (hasL_ints _ [2, 0, 1])) .nil)),
        .lst (SqL.of (s4 _ _ (s3 _ _ (s2 _ _ (s1 _ _ upd_same))))) (hasL_ints _ [a, b, c]), by simp [depL, dep], _, rfl, ?_⟩
      have sf := s5.trans (((s1.trans s2).trans s3).trans s4)
      refine ite2 (fun h10 => ?_) (fun h10 => ?_)
      · have f : fwd a b c = true := by
          rw [← fwd_anyL ha hb hc]
          simpa using h10
        have := q _ sf
        rw [es] at this
        unfold sense3 at this
        rw [f] at this
        exact this
      · have f : fwd a b c = false := by
          rw [← fwd_anyL ha hb hc]
          simpa using h10
        refine ⟨_, rfl, p5, [a, b, c], rfl, SqL.of (s4 _ _ (s3 _ _ (s2 _ _ (s1 _ _ upd_same)))), by show 3 ≤ 1000; decide, rfl, .inr ⟨_, rfl, _, _, rfl, rfl, ?_⟩⟩
        have := q _ sf
        rw [es, ← unlike3 ha hb hc f] at this
        exact this
end
end K09
set_option Elab.async false
set_option linter.all false
set_option maxRecDepth 100000
set_option maxHeartbeats 4000000
namespace K09
open PySem PySem.Spec PyProof.Rows L2
seal L2.PE L2.PT L2.PS L2.PSs L2.PA L2.PI L2.PG L2.PGs L2.PW L2.PO L2.PIfs L2.PH
def spIsTri (K : PySem.W.Frag) (C : Addr) : Sp := fun vs H Q _ => ∃ (nv tv : V) (rs : List (List Int)) (t : Tr), vs = [nv, tv] ∧ NetAt C H nv rs ∧ Has K H tv (tD t) ∧ ∀ H', L2.Same H H' → Q (.bl (decide (isTri (sz rs) t.1 t.2.1 t.2.2))) H'
def spIsFl (K : PySem.W.Frag) (C : Addr) : Sp := fun vs H Q _ => ∃ (nv fv : V) (rs : List (List Int)) (F : List Tr), vs = [nv, fv] ∧ NetAt C H nv rs ∧ Has K H fv (.lst (F.map tD)) ∧ ∀ b H', (b = true ↔ flP (sz rs) F) → L2.Same H H' → Q (.bl b) H'
def spChkFl (K : PySem.W.Frag) (C NF : Addr) : Sp := fun vs H Q E => ∃ (nv fv : V) (rs : List (List Int)) (F : List Tr), vs = [nv, fv] ∧ NetAt C H nv rs ∧ Has K H fv (.lst (F.map tD)) ∧ (flP (sz rs) F → ∀ H', L2.Same H H' → Q .non H') ∧ (¬ flP (sz rs) F → ∀ H', L2.Same H H' → E (.ref NF) none H')
section
variable {P : Program} {w : World} {K : PySem.W.Frag} {mg : Str → Option Value} {base : Heap} {ad : Adr}
theorem ok_istri {f : Addr} {fd : FuncData} (F : Fun K "is_triangle" "is_triangle" s_is_triangle f fd) (T : Txt K mg ad) (C_corners : Callee P w K mg base "corners" 2 ["net", "triangle"] (spCorners K ad.Net ad.NoTriangle)) : FnOk P w K mg base (CXR P w) 3 f fd ["net", "triangle"] (spIsTri K ad.Net) := by
  refine F.okX sc_is_triangle (fun vs H Q E h => ?_) (fun cdv A outer s H vs Q E hr h hx => ?_)
  · obtain ⟨nv, tv, rs, t, rfl, _⟩ := h
    rfl
  · obtain ⟨nv, tv, rs, t, rfl, N, hT, q⟩ := h
    refine ⟨_, (pss_cons (ps_try rfl rfl (fun pn xe ES hxT => (pss_one (ps_expr (pe_c C_corners (hr.mono (by decide)) hxT (pa_cons (pv 0) (pa_cons (pv 1) pa_nil)))))) (ph_no rfl rfl T.x_NoTriangle rfl (fun ea eC oe hoe => (pss_one (ps_ret pe_bl))) ph_never))
  (pss_one (ps_ret pe_bl))), ?_⟩
    obtain ⟨x, y, k⟩ := t
    refine ⟨_, rfl, _, rfl, nv, tv, rs, x, y, k, rfl, N, hT, fun it v l xs H1 L => ?_, fun no H1 s1 ea eC ee hn => ?_⟩
    · have := q H1 L.same
      rw [decide_eq_true (show isTri (sz rs) (x, y, k).1 (x, y, k).2.1 (x, y, k).2.2 from it)] at this
      exact this
    · cases ee
      have := q H1 s1
      rw [decide_eq_false (show ¬ isTri (sz rs) (x, y, k).1 (x, y, k).2.1 (x, y, k).2.2 from no)] at this
      exact ⟨true, T.m_NoTriangle_NoTriangle, T.x_NoTriangle.ex, this⟩
theorem ok_isfl {f : Addr} {fd : FuncData} (F : Fun K "is_floor" "is_floor" s_is_floor f fd) (T : Txt K mg ad) (C_is_triangle : Callee P w K mg base "is_triangle" 3 ["net", "triangle"] (spIsTri K ad.Net)) : FnOk P w K mg base (CXR P w) 4 f fd ["net", "floor"] (spIsFl K ad.Net) := by
  refine F.okX sc_is_floor (fun vs H Q E h => ?_) (fun cdv A outer s H vs Q E hr h hx => ?_)
  · obtain ⟨nv, fv, rs, Fl, rfl, _⟩ := h
    rfl
  · obtain ⟨nv, fv, rs, Fl, rfl, N, hF, q⟩ := h
    have hu : _ := hr.units
    refine ⟨_, (pss_cons (ps_for hx.own rfl (pi_enumK K rfl T.b_enumerate (pa_cons (pv 1) pa_nil)) (pg_tupK (n := 2) K rfl (pgs_cons (pg_name (i := 2) sc_is_floor.nd rfl (Or.inl rfl)) (pgs_cons (pg_name (i := 3) sc_is_floor.nd rfl (Or.inl rfl)) pgs_nil))) (pss_cons (ps_if (pt_not (pt_val (pe_c C_is_triangle (hr.mono (by decide)) hx.toLetsP (pa_cons (pv 0) (pa_cons (pv 3) pa_nil))))) (pss_one (ps_ret pe_bl)) pss_nil)
  (pss_one (ps_if (PW.pt (pw_and (pt_cmpR op_gt (pv 2) pe_int (nomark _)) (pw_and1 (pt_cmpR (r := rCmpT K true) (op_geTI hu) (pe_ix (r := rIxL K) ix_list (pv 1) (pe_op op_sub (pv 2) pe_int) (fun _ _ => rfl)) (pv 3) (nomark _))))) (pss_one (ps_ret pe_bl)) pss_nil))))
  (pss_one (ps_ret pe_bl))), ?_⟩
    obtain ⟨l, xs, rfl, hq, hl⟩ := has_lst hF
    have ll : xs.length = Fl.length := by rw [hl.length, List.length_map]
    refine ⟨_, rfl, l, rfl, ⟨_, hq⟩, for_enum (K := K) (a := l) (xs := xs) (fun i σ H1 => L2.Same H H1 ∧ (∃ c2 c3, σ = [some nv, some (.ref l), c2, c3]) ∧ (∀ (j : Nat) (t : Tr), j < i → Fl[j]? = some t → isTri (sz rs) t.1 t.2.1 t.2.2) ∧ ∀ (j : Nat) (a b : Tr), j + 1 < i → Fl[j]? = some a → Fl[j + 1]? = some b → ltT a b = true)
      ⟨L2.Same.refl H, ⟨_, _, rfl⟩, fun j t h => absurd h (Nat.not_lt_zero _), fun j a b h => absurd h (Nat.not_lt_zero _)⟩ (fun i σ H1 _ ⟨s1, _⟩ => s1.seq hq) ?_ ?_⟩
    · rintro i x σ H1 p hx1 ⟨s1, ⟨c2, c3, rfl⟩, h1, h2⟩ hp
      obtain ⟨d, hd, hxd⟩ := hl.get hx1
      rw [List.getElem?_map] at hd
      cases et : Fl[i]? with
      | none => rw [et] at hd; cases hd
      | some t =>
        rw [et] at hd
        cases hd
        have s2 : L2.Same H (upd H1 p (.tup [.int i, x])) := same_both s1 hp
        obtain ⟨tq, rfl, htq⟩ := has_tr hxd
        refine ⟨p, _, rfl, SqT.of upd_same, rfl, _, _, rfl, _, _, rfl, rfl, ?_⟩
        refine ⟨_, rfl, _, rfl, nv, _, rs, t, rfl, N.same s2, hxd.same s2, fun H3 s3 => ⟨_, rfl, ?_⟩⟩
        have s13 := s2.trans s3
        refine ite2 (fun hb => ?_) (fun hb => ?_)
        · refine q false _ ⟨fun z => (by cases z), fun fl => ?_⟩ s13
          have := fl.1 t (List.mem_of_getElem? et)
          simp [this] at hb
        have it : isTri (sz rs) t.1 t.2.1 t.2.2 := by simpa using hb
        have tri : ∀ (j : Nat) (u : Tr), j < i + 1 → Fl[j]? = some u → isTri (sz rs) u.1 u.2.1 u.2.2 := fun j u hj hu' => by
          by_cases e : j = i
          · subst e; rw [et] at hu'; cases hu'; exact it
          · exact h1 j u (by omega) hu'
        refine ⟨_, rfl, _, _, rfl, rfl, _, rfl, ?_⟩
        refine ite2 (fun h0 => ?_) (fun h0 => ?_)
        · have i0 : 0 < i := by have := of_decide_eq_true h0; omega
          obtain ⟨j, rfl⟩ : ∃ j, i = j + 1 := ⟨i - 1, by omega⟩
          obtain ⟨u, eu⟩ : ∃ u, Fl[j]? = some u := by
            have : j < Fl.length := by have := (List.getElem?_eq_some_iff.mp et).1; omega
            exact ⟨Fl[j], by simp [this]⟩
          obtain ⟨y, ey, hy⟩ := hl.of (i := j) (d := tD u) (by rw [List.getElem?_map, eu]; rfl)
          obtain ⟨uq, rfl, huq⟩ := has_tr hy
          have aty : atI xs (((j + 1 : Nat) : Int) - 1) = some (.ref uq) := by
            have e : (((j + 1 : Nat) : Int) - 1) = ((j : Nat) : Int) := by omega
            rw [e]; exact atI_nat ey
          refine ⟨_, rfl, _, rfl, _, _, rfl, rfl, l, _, _, _, rfl, rfl, s13.seq hq, aty, _, rfl, uq, tq, tl u, tl t, rfl, rfl, L2.Same.sqT s13 huq, L2.Same.sqT s13 htq, _, rfl, ?_⟩
          refine ite2 (fun h3 => ?_) (fun h3 => ?_)
          · refine q false _ ⟨fun z => (by cases z), fun fl => ?_⟩ s13
            have := ris_iff.mp fl.2 j u t eu et
            rw [if_pos rfl, lex_tl, this] at h3
            cases h3
          · refine ⟨s13, ⟨_, _, rfl⟩, tri, fun m a b hm ha hb' => ?_⟩
            by_cases e : m = j
            · subst e
              rw [eu] at ha; cases ha
              rw [et] at hb'; cases hb'
              rw [if_pos rfl, lex_tl] at h3
              simpa using h3
            · exact h2 m a b (by omega) ha hb'
        · have i0 : i = 0 := by
            have : ¬ (0 : Int) < (i : Int) := fun z => h0 (decide_eq_true z)
            omega
          subst i0
          exact ⟨s13, ⟨_, _, rfl⟩, tri, fun m a b hm ha hb' => absurd hm (by omega)⟩
    · rintro σ H1 ⟨s1, ⟨c2, c3, rfl⟩, h1, h2⟩
      refine q true _ ⟨fun _ => ⟨fun t ht => ?_, ris_iff.mpr fun j a b ha hb => ?_⟩, fun _ => rfl⟩ s1
      · obtain ⟨j, hj, e⟩ := List.getElem_of_mem ht
        exact h1 j t (by omega) (by rw [List.getElem?_eq_getElem hj, e])
      · have := (List.getElem?_eq_some_iff.mp hb).1
        exact h2 j a b (by omega) ha hb
theorem ok_chkfl {f : Addr} {fd : FuncData} (F : Fun K "check_floor" "check_floor" s_check_floor f fd) (T : Txt K mg ad) (C_is_floor : Callee P w K mg base "is_floor" 4 ["net", "floor"] (spIsFl K ad.Net)) : FnOk P w K mg base (CXR P w) 5 f fd ["net", "floor"] (spChkFl K ad.Net ad.NoFloor) := by
  refine F.okX sc_check_floor (fun vs H Q E h => ?_) (fun cdv A outer s H vs Q E hr h hx => ?_)
  · obtain ⟨nv, fv, rs, Fl, rfl, _⟩ := h
    rfl
  · obtain ⟨nv, fv, rs, Fl, rfl, N, hF, q, ke⟩ := h
    refine ⟨_, (pss_one (ps_if (pt_not (pt_val (pe_c C_is_floor (hr.mono (by decide)) hx.toLetsP (pa_cons (pv 0) (pa_cons (pv 1) pa_nil))))) (pss_one (ps_raise hx rfl T.x_NoFloor rfl (pa_cons pe_str pa_nil))) pss_nil)), ?_⟩
    refine ⟨_, rfl, _, rfl, nv, fv, rs, Fl, rfl, N, hF, fun b H1 hb s1 => ⟨_, rfl, ?_⟩⟩
    cases b with
    | false =>
      refine ite2 (fun _ => ?_) (fun h => absurd rfl h)
      exact ⟨by show 1 ≤ sizeLine; decide, ke (fun r => by have := hb.mpr r; cases this) _ s1⟩
    | true =>
      refine ite2 (fun h => absurd h (by decide)) (fun _ => ?_)
      exact q (hb.mp rfl) _ s1
end
end K09
set_option Elab.async false
set_option linter.all false
set_option maxRecDepth 100000
set_option maxHeartbeats 4000000
namespace K09
open PySem PySem.Spec PyProof.Rows L2
seal L2.PE L2.PT L2.PS L2.PSs L2.PA L2.PI L2.PG L2.PGs L2.PW L2.PO L2.PIfs L2.PH
def spSides (K : PySem.W.Frag) (C : Addr) : Sp := fun vs H Q _ => ∃ (nv tv : V) (rs : List (List Int)) (t : Tr), vs = [nv, tv] ∧ NetAt C H nv rs ∧ Has K H tv (tD t) ∧ isTri (sz rs) t.1 t.2.1 t.2.2 ∧ ∀ v l xs H', NewL K H H' v l xs [sideD t 0, sideD t 1, sideD t 2] → Q v H'
def spAcross (P : Program) (w : World) (K : PySem.W.Frag) (C : Addr) : Sp := fun vs H Q _ => ∃ (nv fv : V) (rs : List (List Int)) (F : List Tr), vs = [nv, fv] ∧ NetAt C H nv rs ∧ Has K H fv (.lst (F.map tD)) ∧ flP (sz rs) F ∧ F.length ≤ 1000 ∧
  ∀ am ab mk bk H', Acr P w K H H' am ab mk bk (sdsL F) → Q (.ref ab) H'
section
variable {P : Program} {w : World} {K : PySem.W.Frag} {mg : Str → Option Value} {base : Heap} {ad : Adr}
theorem ok_sides {f : Addr} {fd : FuncData} (F : Fun K "sides" "sides" s_sides f fd) (T : Txt K mg ad) (C_corners : Callee P w K mg base "corners" 2 ["net", "triangle"] (spCorners K ad.Net ad.NoTriangle)) : FnOk P w K mg base (CXR P w) 3 f fd ["net", "triangle"] (spSides K ad.Net) := by
  refine F.okX sc_sides (fun vs H Q E h => ?_) (fun cdv A outer s H vs Q E hr h hx => ?_)
  · obtain ⟨nv, tv, rs, t, rfl, _⟩ := h
    rfl
  · obtain ⟨nv, tv, rs, t, rfl, N, hT, it, q⟩ := h
    refine ⟨_, (pss_cons (ps_set (i := 2) sc_sides.nd rfl (Or.inr rfl) (pe_c C_corners (hr.mono (by decide)) hx.toLetsP (pa_cons (pv 0) (pa_cons (pv 1) pa_nil))))
  (pss_one (ps_ret (pe_comp (Nc := ["k", "places"]) (nt := 1) (is := [2]) rfl (comp_okF (by rfl) (by decide +kernel) rfl (by decide +kernel) (by intro p hp; simp only [List.mem_cons, List.not_mem_nil, or_false] at hp; first | (rcases hp with rfl | rfl | rfl | rfl <;> rfl) | (rcases hp with rfl | rfl | rfl <;> rfl) | (rcases hp with rfl | rfl <;> rfl) | (subst hp; rfl)) (by rfl) rfl (fun j i h => match j, h with | 0, h => by cases h; exact ⟨_, rfl, rfl, .inl rfl, .inl rfl⟩ | _ + 1, h => by simp at h))  (pi_range1 rfl T.b_range (pa_cons pe_int pa_nil)) (fun _ _ _ _ _ => (pg_name (i := 0) (show List.Nodup (["k", "places"] : List Str) by decide +kernel) rfl (Or.inl rfl))) (fun _ _ _ _ _ => pifs_nil) (fun _ _ _ _ _ => (pe_tup (pa_cons (pe_ix (r := rIxL K) ix_list (pv 1) (pv 0) (fun _ _ => rfl)) (pa_cons (pe_ix (r := rIxL K) ix_list (pv 1) (pe_op op_mod (pe_op op_add (pv 0) pe_int) pe_int) (fun _ _ => rfl)) pa_nil)))))))), ?_⟩
    have z2 : 2 ≤ sizeLine := by rw [sizeLine_eq]; decide
    refine ⟨_, rfl, _, rfl, nv, tv, rs, t.1, t.2.1, t.2.2, rfl, N, hT, fun _ v l xs H1 L => ?_, fun no => absurd it no⟩
    obtain rfl := L.ev
    have hh := L.has.same (less_same _ _)
    rw [cornersP_crn] at hh
    obtain ⟨v0, v1, v2, rfl, h0, h1, h2⟩ : ∃ v0 v1 v2, xs = [v0, v1, v2] ∧ Has K H1 v0 (pD (crn t 0)) ∧ Has K H1 v1 (pD (crn t 1)) ∧ Has K H1 v2 (pD (crn t 2)) := by
      cases hh with
      | cons a b => cases b with
        | cons c d => cases d with
          | cons e g => cases g; exact ⟨_, _, _, rfl, a, c, e⟩
    refine ⟨3, rfl, by decide, by decide, comp_range (lo := 0) (n := 3) (fun j ys σc H2 => L2.Same H1 H2 ∧ (∃ c0, σc = [c0, some (.ref l)]) ∧ HasL K H2 ys ((List.range j).map fun (k : Nat) => sideD t k)) ⟨L2.Same.refl _, ⟨none, rfl⟩, .nil⟩ (by rw [sizeLine_eq]; decide)
      (fun j ys σ H2 h => by rw [h.2.2.length]; simp) ?_ ?_⟩
    · rintro j ys σc H2 hj ⟨s2, ⟨c0, rfl⟩, hl⟩
      obtain ⟨va, vb, ha, hb, ga, gb⟩ : ∃ va vb, atI [v0, v1, v2] (0 + (j : Int)) = some va ∧ atI [v0, v1, v2] ((0 + (j : Int) + 1) % 3) = some vb ∧ Has K H1 va (pD (crn t j)) ∧ Has K H1 vb (pD (crn t (nxt j))) := by
        have : j = 0 ∨ j = 1 ∨ j = 2 := by omega
        rcases this with rfl | rfl | rfl
        · exact ⟨v0, v1, rfl, rfl, h0, h1⟩
        · exact ⟨v1, v2, rfl, rfl, h1, h2⟩
        · exact ⟨v2, v0, rfl, rfl, h2, h0⟩
      have sq := SqL.of (K := K) (s2 _ _ L.at_)
      refine ⟨_, rfl, _, rfl, l, _, _, _, rfl, rfl, sq, ha, _, rfl, _, rfl, _, _, rfl, rfl, _, _, rfl, rfl, (by show (0 : Int) < 3; decide), l, _, _, _, rfl, rfl, sq, hb, z2, fun p hp => ?_⟩
      have sp := same_upd (o := .tup [va, vb]) hp
      refine ⟨s2.trans sp, ⟨_, rfl⟩, ?_⟩
      rw [List.range_succ, List.map_append]
      refine (hl.same sp).append (.cons (.tup (SqT.of upd_same) (.cons ((ga.same s2).same sp) (.cons ((gb.same s2).same sp) .nil))) .nil)
    · rintro ys σc H2 ⟨s2, ⟨c0, rfl⟩, hl⟩ p hp
      exact q _ p _ _ (newL_mk (L.same.trans s2) hp hl)
theorem ok_across {f : Addr} {fd : FuncData} (F : Fun K "across" "across" s_across f fd) (T : Txt K mg ad) (C_sides : Callee P w K mg base "sides" 3 ["net", "triangle"] (spSides K ad.Net)) : FnOk P w K mg base (CXR P w) 4 f fd ["net", "floor"] (spAcross P w K ad.Net) := by
  refine F.okX sc_across (fun vs H Q E h => ?_) (fun cdv A outer s H vs Q E hr h hx => ?_)
  · obtain ⟨nv, fv, rs, Fl, rfl, _⟩ := h
    rfl
  · obtain ⟨nv, fv, rs, Fl, rfl, N, hF, fl, hz, q⟩ := h
    have hu : _ := hr.units
    refine ⟨_, (pss_cons (ps_set (i := 2) sc_across.nd rfl (Or.inl rfl) (pe_d2new P w))
  (pss_cons (ps_set (i := 3) sc_across.nd rfl (Or.inl rfl) (pe_d2new P w))
  (pss_cons (ps_for hx.own rfl (pi_listK K (pv 1)) (pg_name (i := 4) sc_across.nd rfl (Or.inl rfl)) (pss_one (ps_for hx.own rfl (pi_enumK K rfl T.b_enumerate (pa_cons (pe_c C_sides (hr.mono (by decide)) hx.toLetsP (pa_cons (pv 0) (pa_cons (pv 4) pa_nil))) pa_nil)) (pg_tupK (n := 2) K rfl (pgs_cons (pg_name (i := 5) sc_across.nd rfl (Or.inl rfl)) (pgs_cons (pg_name (i := 6) sc_across.nd rfl (Or.inl rfl)) pgs_nil))) (pss_cons (ps_set (i := 7) sc_across.nd rfl (Or.inl rfl) (pe_callTy (r := rTupOf K) call_tuple_of rfl T.b_tuple boot_tuple (pa_cons (pe_callB (r := rSortP K) call_sortP rfl T.b_sorted boot_sorted (pa_cons (pv 6) pa_nil)) pa_nil)))
  (pss_cons (ps_set (i := 8) sc_across.nd rfl (Or.inl rfl) (pe_d2get P w K hu (pv 2) (pa_cons (pv 7) pa_nil)))
  (pss_cons (ps_asg (pv 8) (pg_sub (pv 3) (pe_tup (pa_cons (pv 4) (pa_cons (pv 5) pa_nil))) (set_d2 P w K hu)))
  (pss_cons (ps_if (pt_cmpR op_notN (pv 8) pe_non (nomark _)) (pss_one (ps_asg (pe_tup (pa_cons (pv 4) (pa_cons (pv 5) pa_nil))) (pg_sub (pv 3) (pv 8) (set_d2 P w K hu)))) pss_nil)
  (pss_one (ps_asg (pe_tup (pa_cons (pv 4) (pa_cons (pv 5) pa_nil))) (pg_sub (pv 2) (pv 7) (set_d2 P w K hu)))))))))))
  (pss_one (ps_ret (pv 3)))))), ?_⟩
    have zl : sizeLine = 16777216 := sizeLine_eq
    have z2 : 2 ≤ sizeLine := by omega
    obtain ⟨l, xs, rfl, hq, hl⟩ := has_lst hF
    have ll : xs.length = Fl.length := by rw [hl.length, List.length_map]
    have nd := nodup_sdsL fl.nodup
    have kds := fl.kinds
    intro am hma
    intro ab hba
    have sm := same_upd (o := d2Obj P w am []) hma
    have sb := same_upd (o := d2Obj P w ab []) hba
    have nab : ab ≠ am := (ne_of_none (upd_same (H := H) (a := am) (o := d2Obj P w am [])) hba).symm
    have A0 : Acr P w K H (upd (upd H am (d2Obj P w am [])) ab (d2Obj P w ab [])) am ab [] [] [] :=
      ⟨⟨sm.trans sb, hma, sm.free hba, nab, D2At.new.same sb, D2At.new⟩, fun s _ _ => ⟨fun z => (by cases z), fun _ => rfl⟩, rfl, fun s hs => (by cases hs), Nat.le_refl _⟩
    refine ⟨_, rfl, l, rfl, ⟨_, (sm.trans sb).seq hq⟩, for_list (K := K) (a := l) (xs := xs) (fun i σ H1 => ∃ c4 c5 c6 c7 c8 mk bk, σ = [some nv, some (.ref l), some (.ref am), some (.ref ab), c4, c5, c6, c7, c8] ∧ Acr P w K H H1 am ab mk bk (sdsL (Fl.take i)))
      ⟨_, _, _, _, _, [], [], rfl, A0⟩ (fun i σ H1 _ ⟨_, _, _, _, _, _, _, _, a⟩ => a.two.same.seq hq) ?_ ?_⟩
    · rintro i tv σ H1 htv ⟨c4, c5, c6, c7, c8, mk, bk, rfl, A1⟩
      obtain ⟨d, hd, hxd⟩ := hl.get htv
      rw [List.getElem?_map] at hd
      cases et : Fl[i]? with
      | none => rw [et] at hd; cases hd
      | some t =>
        rw [et] at hd
        cases hd
        have tm : t ∈ Fl := List.mem_of_getElem? et
        have hi : i < Fl.length := (List.getElem?_eq_some_iff.mp et).1
        have split : sdsL Fl = sdsL (Fl.take i) ++ (sds t ++ sdsL (Fl.drop (i + 1))) := by
          have e : Fl = Fl.take i ++ t :: Fl.drop (i + 1) := by
            have := List.getElem_cons_drop hi
            have e2 : Fl[i] = t := by
              have := et
              rw [List.getElem?_eq_getElem hi] at this
              exact Option.some.inj this
            rw [e2] at this
            rw [this, List.take_append_drop]
          unfold sdsL
          conv => lhs; rw [e, List.flatMap_append, List.flatMap_cons]
        refine ⟨_, rfl, _, rfl, nv, tv, rs, t, rfl, N.same A1.two.same, hxd.same A1.two.same, fl.1 t tm, fun v sl ss H2 L => ?_⟩
        obtain rfl := L.ev
        have A2 := A1.later L.same
        obtain ⟨w0, w1, w2, rfl, g0, g1, g2⟩ : ∃ v0 v1 v2, ss = [v0, v1, v2] ∧ Has K H2 v0 (sideD t 0) ∧ Has K H2 v1 (sideD t 1) ∧ Has K H2 v2 (sideD t 2) := by
          have hh := L.has.same (less_same _ _)
          cases hh with
          | cons a b => cases b with
            | cons c d => cases d with
              | cons e g => cases g; exact ⟨_, _, _, rfl, a, c, e⟩
        have slH : H sl = none := A1.two.same.free L.new
        have lA : ∀ {H' : Hp} {mk bk dn}, Acr P w K H H' am ab mk bk dn → am ≠ sl ∧ ab ≠ sl := fun {H' mk bk dn} a => ⟨ne_of_none A1.two.mD.at_ L.new, ne_of_none A1.two.bD.at_ L.new⟩
        refine ⟨sl, rfl, ⟨_, SqL.of L.at_⟩, for_enum (K := K) (a := sl) (xs := [w0, w1, w2]) (fun j σ H3 => ∃ c5 c6 c7 c8 mk bk, σ = [some nv, some (.ref l), some (.ref am), some (.ref ab), some tv, c5, c6, c7, c8] ∧ Acr P w K H H3 am ab mk bk (sdsL (Fl.take i) ++ (sds t).take j) ∧ H3 sl = some (.lst [w0, w1, w2]) ∧ (∀ v d, Has K H2 v d → Has K H3 v d))
          ⟨_, _, _, _, mk, bk, rfl, by simpa using A2, L.at_, fun v d h => h⟩ (fun j σ H3 _ ⟨_, _, _, _, _, _, _, _, h, _⟩ => SqL.of h) ?_ ?_⟩
        · rintro j sv σ H3 pe hsv ⟨d5, d6, d7, d8, mk, bk, rfl, A3, hsl, up⟩ hpe
          have j3 : j < 3 := by have := (List.getElem?_eq_some_iff.mp hsv).1; simpa using this
          obtain ⟨k, hk⟩ : ∃ k : Int, (j : Int) = k := ⟨_, rfl⟩
          have k3 : k = 0 ∨ k = 1 ∨ k = 2 := by omega
          obtain ⟨gs, es, en⟩ : Has K H2 sv (sideD t k) ∧ (sds t).take (j + 1) = (sds t).take j ++ [(t, k)] ∧ (sds t)[j]? = some (t, k) := by
            have : j = 0 ∨ j = 1 ∨ j = 2 := by omega
            rcases this with rfl | rfl | rfl
            · cases hsv; subst hk; exact ⟨g0, rfl, rfl⟩
            · cases hsv; subst hk; exact ⟨g1, rfl, rfl⟩
            · cases hsv; subst hk; exact ⟨g2, rfl, rfl⟩
          simp only [hk]
          have okt : okS (t, k) := ⟨kds t tm, k3⟩
          generalize hdn : sdsL (Fl.take i) ++ (sds t).take j = dn at A3
          have split2 : sdsL Fl = dn ++ ((t, k) :: ((sds t).drop (j + 1) ++ sdsL (Fl.drop (i + 1)))) := by
            rw [split, ← hdn]
            have e : sds t = (sds t).take j ++ (t, k) :: (sds t).drop (j + 1) := by
              have hj : j < (sds t).length := (List.getElem?_eq_some_iff.mp en).1
              have := List.getElem_cons_drop hj
              have e2 : (sds t)[j] = (t, k) := by
                rw [List.getElem?_eq_getElem hj] at en
                exact Option.some.inj en
              rw [e2] at this
              rw [this, List.take_append_drop]
            conv => lhs; rw [e]
            simp
          have new : (t, k) ∉ dn := fun z => by
            rw [split2, List.nodup_append] at nd
            exact nd.2.2 _ z _ List.mem_cons_self rfl
          have okd : ∀ u ∈ dn, okS u := fun u hu' => okS_of kds (by rw [split2]; exact List.mem_append_left _ hu')
          have dlen : dn.length ≤ 3000 := by
            have e1 : (sdsL Fl).length = 3 * Fl.length := by
              have : ∀ G : List Tr, (sdsL G).length = 3 * G.length := fun G => by
                induction G with
                | nil => rfl
                | cons a G ih => show (sds a ++ sdsL G).length = _; rw [List.length_append, ih]; simp [sds]; omega
              exact this Fl
            have e2 := congrArg List.length split2
            rw [List.length_append, e1] at e2
            omega
          have se := same_upd (o := .tup [.int k, sv]) hpe
          have A4 := A3.later se
          have gs4 := (up _ _ gs).same se
          have tv4 : Has K (upd H3 pe (.tup [.int k, sv])) tv (tD t) := hxd.same A4.two.same
          refine ⟨pe, _, rfl, SqT.of upd_same, rfl, _, _, rfl, _, _, rfl, rfl, ?_⟩
          generalize upd H3 pe (.tup [.int k, sv]) = H4 at se A4 gs4 tv4
          have hsl4 := se _ _ hsl
          have up4 : ∀ v d, Has K H2 v d → Has K H4 v d := fun v d h => (up v d h).same se
          clear se up hsl A3
          obtain ⟨sq, sxs, rfl, hsq, hsx⟩ := has_tup gs4
          obtain ⟨pa, pb, rfl, ha, hb⟩ : ∃ pa pb, sxs = [V.ref pa, .ref pb] ∧ SqT K H4 pa [.int (crn t k).1, .int (crn t k).2] ∧ SqT K H4 pb [.int (crn t (nxt k)).1, .int (crn t (nxt k)).2] := by
            cases hsx with
            | cons a b => cases b with
              | cons c d =>
                cases d
                obtain ⟨pa, rfl, ha⟩ := has_pt a
                obtain ⟨pb, rfl, hb⟩ := has_pt c
                exact ⟨pa, pb, rfl, ha, hb⟩
          refine ⟨_, rfl, sq, pa, pb, [(crn t k).1, (crn t k).2], [(crn t (nxt k)).1, (crn t (nxt k)).2], rfl, hsq, ha, hb, by simp, by simp, fun ls hls => ?_⟩
          have ss := same_upd (o := .lst (if lexLt [(crn t (nxt k)).1, (crn t (nxt k)).2] [(crn t k).1, (crn t k).2] then [V.ref pb, .ref pa] else [.ref pa, .ref pb])) hls
          refine ⟨ls, _, rfl, .inl ⟨SqL.of upd_same, fun pp hpp => ?_⟩⟩
          have sp := same_upd (o := .tup (if lexLt [(crn t (nxt k)).1, (crn t (nxt k)).2] [(crn t k).1, (crn t k).2] then [V.ref pb, .ref pa] else [.ref pa, .ref pb])) hpp
          have s45 := ss.trans sp
          have atp : upd (upd H4 ls (.lst (if lexLt [(crn t (nxt k)).1, (crn t (nxt k)).2] [(crn t k).1, (crn t k).2] then [V.ref pb, .ref pa] else [.ref pa, .ref pb]))) pp (.tup (if lexLt [(crn t (nxt k)).1, (crn t (nxt k)).2] [(crn t k).1, (crn t k).2] then [V.ref pb, .ref pa] else [.ref pa, .ref pb])) pp = some (.tup (if lexLt [(crn t (nxt k)).1, (crn t (nxt k)).2] [(crn t k).1, (crn t k).2] then [V.ref pb, .ref pa] else [.ref pa, .ref pb])) := upd_same
          generalize upd (upd H4 ls (.lst (if lexLt [(crn t (nxt k)).1, (crn t (nxt k)).2] [(crn t k).1, (crn t k).2] then [V.ref pb, .ref pa] else [.ref pa, .ref pb]))) pp (.tup (if lexLt [(crn t (nxt k)).1, (crn t (nxt k)).2] [(crn t k).1, (crn t k).2] then [V.ref pb, .ref pa] else [.ref pa, .ref pb])) = H5 at s45 atp
          have A5 := A4.later s45
          have tv5 := tv4.same s45
          have hsl5 := s45 _ _ hsl4
          have up5 : ∀ v d, Has K H2 v d → Has K H5 v d := fun v d h => (up4 v d h).same s45
          have hkey : Has K H5 (.ref pp) (k2D (mK (t, k))) := by
            have ga : Has K H5 (.ref pa) (pD (crn t k)) := .tup (L2.Same.sqT s45 ha) (.cons (.int _) (.cons (.int _) .nil))
            have gb : Has K H5 (.ref pb) (pD (crn t (nxt k))) := .tup (L2.Same.sqT s45 hb) (.cons (.int _) (.cons (.int _) .nil))
            rw [lex_pt] at atp
            rw [mK_D]
            unfold key srt
            cases c : ltP (crn t (nxt k)) (crn t k) with
            | true =>
              rw [c] at atp
              exact .tup (SqT.of atp) (.cons gb (.cons ga .nil))
            | false =>
              rw [c] at atp
              exact .tup (SqT.of atp) (.cons ga (.cons gb .nil))
          clear atp s45 ss sp hsq ha hb hsx gs4 A4 hsl4 up4 tv4
          refine ⟨_, rfl, am, rfl, ⟨_, A5.two.mD⟩, _, rfl, mk, mK (t, k), pp, .non, A5.two.mD, .inl ⟨rfl, rfl⟩, hkey, ?_⟩
          have bl5 : bk.length = dn.length := by
            have := congrArg List.length A5.keys
            rwa [List.length_map, List.length_map] at this
          have ml5 := A5.mlen
          obtain ⟨nm, nb⟩ := lA A1
          refine ⟨_, rfl, _, rfl, _, rfl, _, rfl, z2, fun p1 hp1 => ?_⟩
          have q1 := same_upd (o := .tup [tv, .int k]) hp1
          have h1 : Has K (upd H5 p1 (.tup [tv, .int k])) (.ref p1) (k2D (bK (t, k))) := .tup (SqT.of upd_same) (.cons (tv5.same q1) (.cons (.int _) .nil))
          have T1 := A5.two.later q1
          refine ⟨ab, p1, bk, bK (t, k), rfl, rfl, T1.bD, h1, by omega, ?_⟩
          have T2 := T1.putB (v := (look mk (mK (t, k))).getD .non) h1
          have u2 : ∀ v d, Has K H5 v d → Has K (upd (upd H5 p1 (.tup [tv, .int k])) ab (d2Obj P w ab (put bk (bK (t, k)) p1 ((look mk (mK (t, k))).getD .non)))) v d := fun v d h => T1.bD.stay (h.same q1)
          have sl2 : upd (upd H5 p1 (.tup [tv, .int k])) ab (d2Obj P w ab (put bk (bK (t, k)) p1 ((look mk (mK (t, k))).getD .non))) sl = some (.lst [w0, w1, w2]) := by
            rw [upd_ne nb.symm]; exact q1 _ _ hsl5
          generalize upd (upd H5 p1 (.tup [tv, .int k])) ab (d2Obj P w ab (put bk (bK (t, k)) p1 ((look mk (mK (t, k))).getD .non))) = H6 at T2 u2 sl2
          have bl6 : (put bk (bK (t, k)) p1 ((look mk (mK (t, k))).getD .non)).length ≤ dn.length + 1 := by
            have := len_put bk (bK (t, k)) p1 ((look mk (mK (t, k))).getD .non)
            omega
          have edn : sdsL (Fl.take i) ++ (sds t).take (j + 1) = dn ++ [(t, k)] := by rw [es, ← List.append_assoc, hdn]
          obtain ⟨m1, m2⟩ := A5.met (t, k) okt new
          by_cases yes : opp (t, k) ∈ dn
          · obtain ⟨ov, lo, ho⟩ := m1 yes
            simp only [lo, Option.getD_some] at T2 bl6 ⊢
            obtain ⟨oq, op, rfl, _, _⟩ := has_sd ho
            refine ⟨_, rfl, rfl, _, rfl, ?_⟩
            refine ite2 (fun _ => ?_) (fun h => absurd (by simp) h)
            refine ⟨_, rfl, _, rfl, z2, fun p2 hp2 => ?_⟩
            have q2 := same_upd (o := .tup [tv, .int k]) hp2
            have T3 := T2.later q2
            have ho3 : Has K (upd H6 p2 (.tup [tv, .int k])) (.ref oq) (k2D (bK (opp (t, k)))) := (u2 _ _ ho).same q2
            refine ⟨_, rfl, _, rfl, ab, oq, _, bK (opp (t, k)), rfl, rfl, T3.bD, ho3, by omega, ?_⟩
            have T4 := T3.putB (v := .ref p2) ho3
            have h2 : Has K (upd H6 p2 (.tup [tv, .int k])) (.ref p2) (sD (t, k)) := .tup (SqT.of upd_same) (.cons ((u2 _ _ tv5).same q2) (.cons (.int _) .nil))
            have u4 : ∀ v d, Has K H6 v d → Has K (upd (upd H6 p2 (.tup [tv, .int k])) ab (d2Obj P w ab (put (put bk (bK (t, k)) p1 (V.ref oq)) (bK (opp (t, k))) oq (.ref p2)))) v d := fun v d h => T3.bD.stay (h.same q2)
            have h4 : Has K (upd (upd H6 p2 (.tup [tv, .int k])) ab (d2Obj P w ab (put (put bk (bK (t, k)) p1 (V.ref oq)) (bK (opp (t, k))) oq (.ref p2)))) (.ref p2) (sD (t, k)) := T3.bD.stay h2
            have sl4 : upd (upd H6 p2 (.tup [tv, .int k])) ab (d2Obj P w ab (put (put bk (bK (t, k)) p1 (V.ref oq)) (bK (opp (t, k))) oq (.ref p2))) sl = some (.lst [w0, w1, w2]) := by
              rw [upd_ne nb.symm]; exact q2 _ _ sl2
            generalize upd (upd H6 p2 (.tup [tv, .int k])) ab (d2Obj P w ab (put (put bk (bK (t, k)) p1 (V.ref oq)) (bK (opp (t, k))) oq (.ref p2))) = H7 at T4 u4 h4 sl4
            refine ⟨_, rfl, _, rfl, z2, fun p3 hp3 => ?_⟩
            have q3 := same_upd (o := .tup [tv, .int k]) hp3
            have T5 := T4.later q3
            have hk5 : Has K (upd H7 p3 (.tup [tv, .int k])) (.ref pp) (k2D (mK (t, k))) := (u4 _ _ (u2 _ _ hkey)).same q3
            refine ⟨_, rfl, _, rfl, am, pp, mk, mK (t, k), rfl, rfl, T5.mD, hk5, by omega, ?_⟩
            have T6 := T5.putM (v := .ref p3) hk5
            have h5 : Has K (upd H7 p3 (.tup [tv, .int k])) (.ref p3) (sD (t, k)) := .tup (SqT.of upd_same) (.cons ((u4 _ _ (u2 _ _ tv5)).same q3) (.cons (.int _) .nil))
            have u6 : ∀ v d, Has K H5 v d → Has K (upd (upd H7 p3 (.tup [tv, .int k])) am (d2Obj P w am (put mk (mK (t, k)) pp (.ref p3)))) v d := fun v d h => T5.mD.stay ((u4 _ _ (u2 _ _ h)).same q3)
            have A6 := A5.withOpp okt okd new yes T6 u6 (T5.mD.stay h5) (T5.mD.stay (h4.same q3)) (u6 _ _ ho)
            rw [← edn] at A6
            refine ⟨_, _, _, _, _, _, rfl, A6, ?_, fun v d h => u6 _ _ (up5 _ _ h)⟩
            rw [upd_ne nm.symm]; exact q3 _ _ sl4
          · have lo := m2 yes
            simp only [lo, Option.getD_none] at T2 bl6 ⊢
            refine ⟨_, rfl, rfl, _, rfl, ?_⟩
            refine ite2 (fun h => absurd h (by simp)) (fun _ => ?_)
            refine ⟨_, rfl, _, rfl, z2, fun p3 hp3 => ?_⟩
            have q3 := same_upd (o := .tup [tv, .int k]) hp3
            have T5 := T2.later q3
            have hk5 : Has K (upd H6 p3 (.tup [tv, .int k])) (.ref pp) (k2D (mK (t, k))) := (u2 _ _ hkey).same q3
            refine ⟨_, rfl, _, rfl, am, pp, mk, mK (t, k), rfl, rfl, T5.mD, hk5, by omega, ?_⟩
            have T6 := T5.putM (v := .ref p3) hk5
            have h5 : Has K (upd H6 p3 (.tup [tv, .int k])) (.ref p3) (sD (t, k)) := .tup (SqT.of upd_same) (.cons ((u2 _ _ tv5).same q3) (.cons (.int _) .nil))
            have u6 : ∀ v d, Has K H5 v d → Has K (upd (upd H6 p3 (.tup [tv, .int k])) am (d2Obj P w am (put mk (mK (t, k)) pp (.ref p3)))) v d := fun v d h => T5.mD.stay ((u2 _ _ h).same q3)
            have A6 := A5.noOpp okt okd new yes T6 u6 (T5.mD.stay h5)
            rw [← edn] at A6
            refine ⟨_, _, _, _, _, _, rfl, A6, ?_, fun v d h => u6 _ _ (up5 _ _ h)⟩
            rw [upd_ne nm.symm]; exact q3 _ _ sl2
        · rintro σ H3 ⟨d5, d6, d7, d8, mk, bk, rfl, A3, _, _⟩
          refine ⟨_, _, _, _, _, mk, bk, rfl, ?_⟩
          have e : sdsL (Fl.take (i + 1)) = sdsL (Fl.take i) ++ (sds t).take 3 := by
            unfold sdsL
            rw [List.take_add_one, et, List.flatMap_append]
            simp [sds]
          rw [e]
          exact A3
    · rintro σ H1 ⟨c4, c5, c6, c7, c8, mk, bk, rfl, A1⟩
      rw [ll, List.take_length] at A1
      exact ⟨_, rfl, q _ _ _ _ _ A1⟩
end
end K09
set_option Elab.async false
set_option linter.all false
set_option maxRecDepth 100000
set_option maxHeartbeats 4000000
namespace K09
open PySem PySem.Spec PyProof.Rows L2
seal L2.PE L2.PT L2.PS L2.PSs L2.PA L2.PI L2.PG L2.PGs L2.PW L2.PO L2.PIfs L2.PH
def spTurn : Sp := fun vs H Q _ => ∃ a b : Int, vs = [.int a, .int b] ∧ Q (.int (turnI a b)) H
def spTos (K : PySem.W.Frag) (C : Addr) : Sp := fun vs H Q _ => ∃ (nv tv : V) (rs : List (List Int)) (t : Tr), vs = [nv, tv] ∧ NetAt C H nv rs ∧ Has K H tv (tD t) ∧ isTri (sz rs) t.1 t.2.1 t.2.2 ∧
  ∀ l H', H l = none → L2.Same H H' → H' l = some (.lst [.int (tnS rs (t, 0)), .int (tnS rs (t, 1)), .int (tnS rs (t, 2))]) → Q (.ref l) H'
section
variable {P : Program} {w : World} {K : PySem.W.Frag} {mg : Str → Option Value} {base : Heap} {ad : Adr}
theorem ok_turn {f : Addr} {fd : FuncData} (F : Fun K "turn" "turn" s_turn f fd) (T : Txt K mg ad) : FnOk P w K mg base (CXR P w) 1 f fd ["start", "goal"] spTurn := by
  refine F.okX sc_turn (fun vs H Q E h => ?_) (fun cdv A outer s H vs Q E hr h hx => ?_)
  · obtain ⟨a, b, rfl, _⟩ := h
    rfl
  · obtain ⟨a, b, rfl, q⟩ := h
    refine ⟨_, (pss_cons (ps_if (PW.pt (pw_and (pt_cmpR op_eq (pv 0) pe_int (nomark _)) (pw_and1 (pt_cmpR op_eq (pv 1) pe_int (nomark _))))) (pss_one (ps_ret pe_int)) pss_nil)
  (pss_cons (ps_if (PW.pt (pw_and (pt_cmpR op_eq (pv 0) pe_int (nomark _)) (pw_and1 (pt_cmpR op_eq (pv 1) pe_int (nomark _))))) (pss_one (ps_ret (pe_un un_neg pe_int))) pss_nil)
  (pss_one (ps_ret pe_int)))), ?_⟩
    unfold turnI at q
    have rest : (a = 0 ∧ b = 1 → False) → (tSeq (tIfS (tAnd (tTest (tOp rEq (tVar 0) (tC (V.int 1)))) (tTest (tOp rEq (tVar 1) (tC (V.int 0))))) (tRet (tUn (rU fun i => .int (-i)) (tC (V.int 1)))) tNext) (tRet (tC (V.int 0)))) { nx := fun _ H' => Q .non H', rt := Q } [some (.int a), some (.int b)] H := fun n1 => by
      rw [if_neg n1] at q
      refine ⟨_, rfl, rfl, _, rfl, ?_⟩
      refine ite2 (fun h1 => ?_) (fun h1 => ?_)
      · refine ⟨_, rfl, rfl, _, rfl, ?_⟩
        refine ite2 (fun h2 => ?_) (fun h2 => ?_)
        · rw [if_pos ⟨by simpa using h1, by simpa using h2⟩] at q
          exact ⟨_, rfl, q⟩
        · rw [if_neg (fun z => h2 (by simp [z.2]))] at q
          exact q
      · rw [if_neg (fun z => h1 (by simp [z.1]))] at q
        exact q
    refine ⟨_, rfl, rfl, _, rfl, ?_⟩
    refine ite2 (fun h1 => ?_) (fun h1 => ?_)
    · refine ⟨_, rfl, rfl, _, rfl, ?_⟩
      refine ite2 (fun h2 => ?_) (fun h2 => ?_)
      · rw [if_pos ⟨by simpa using h1, by simpa using h2⟩] at q
        exact q
      · exact rest fun z => h2 (by simp [z.2])
    · exact rest fun z => h1 (by simp [z.1])
theorem ok_tos {f : Addr} {fd : FuncData} (F : Fun K "turns_of_sides" "turns_of_sides" s_turns_of_sides f fd) (T : Txt K mg ad) (C_mark : Callee P w K mg base "mark" 2 ["net", "x", "y"] (spMark ad.Net ad.NoPlace)) (C_corners : Callee P w K mg base "corners" 2 ["net", "triangle"] (spCorners K ad.Net ad.NoTriangle))
    (C_turn : Callee P w K mg base "turn" 1 ["start", "goal"] spTurn) : FnOk P w K mg base (CXR P w) 3 f fd ["net", "triangle"] (spTos K ad.Net) := by
  refine F.okX sc_turns_of_sides (fun vs H Q E h => ?_) (fun cdv A outer s H vs Q E hr h hx => ?_)
  · obtain ⟨nv, tv, rs, t, rfl, _⟩ := h
    rfl
  · obtain ⟨nv, tv, rs, t, rfl, N, hT, it, q⟩ := h
    refine ⟨_, (pss_cons (ps_set (i := 2) sc_turns_of_sides.nd rfl (Or.inr rfl) (pe_comp (Nc := ["place", "net"]) (nt := 1) (is := [0]) rfl (comp_okF (by rfl) (by decide +kernel) rfl (by decide +kernel) (by intro p hp; simp only [List.mem_cons, List.not_mem_nil, or_false] at hp; first | (rcases hp with rfl | rfl | rfl | rfl <;> rfl) | (rcases hp with rfl | rfl | rfl <;> rfl) | (rcases hp with rfl | rfl <;> rfl) | (subst hp; rfl)) (by rfl) rfl (fun j i h => match j, h with | 0, h => by cases h; exact ⟨_, rfl, rfl, .inl rfl, .inl rfl⟩ | _ + 1, h => by simp at h))  (pi_listK K (pe_c C_corners (hr.mono (by decide)) hx.toLetsP (pa_cons (pv 0) (pa_cons (pv 1) pa_nil)))) (fun _ _ _ _ _ => (pg_name (i := 0) (show List.Nodup (["place", "net"] : List Str) by decide +kernel) rfl (Or.inl rfl))) (fun _ _ _ _ _ => pifs_nil) (fun _ _ _ _ _ => (pe_c C_mark (hr.mono (by decide)) lets_xc (pa_cons (pv 1) (pa_cons (pe_ix (r := rIxT K) ix_tup (pv 0) pe_int (fun _ _ => rfl)) (pa_cons (pe_ix (r := rIxT K) ix_tup (pv 0) pe_int (fun _ _ => rfl)) pa_nil)))))))
  (pss_one (ps_ret (pe_comp (Nc := ["k", "seen"]) (nt := 1) (is := [2]) rfl (comp_okF (by rfl) (by decide +kernel) rfl (by decide +kernel) (by intro p hp; simp only [List.mem_cons, List.not_mem_nil, or_false] at hp; first | (rcases hp with rfl | rfl | rfl | rfl <;> rfl) | (rcases hp with rfl | rfl | rfl <;> rfl) | (rcases hp with rfl | rfl <;> rfl) | (subst hp; rfl)) (by rfl) rfl (fun j i h => match j, h with | 0, h => by cases h; exact ⟨_, rfl, rfl, .inl rfl, .inl rfl⟩ | _ + 1, h => by simp at h))  (pi_range1 rfl T.b_range (pa_cons pe_int pa_nil)) (fun _ _ _ _ _ => (pg_name (i := 0) (show List.Nodup (["k", "seen"] : List Str) by decide +kernel) rfl (Or.inl rfl))) (fun _ _ _ _ _ => pifs_nil) (fun _ _ _ _ _ => (pe_c C_turn (hr.mono (by decide)) lets_xc (pa_cons (pe_ix (r := rIxL K) ix_list (pv 1) (pv 0) (fun _ _ => rfl)) (pa_cons (pe_ix (r := rIxL K) ix_list (pv 1) (pe_op op_mod (pe_op op_add (pv 0) pe_int) pe_int) (fun _ _ => rfl)) pa_nil)))))))), ?_⟩
    have zl : sizeLine = 16777216 := sizeLine_eq
    refine ⟨_, rfl, _, rfl, nv, tv, rs, t.1, t.2.1, t.2.2, rfl, N, hT, fun _ v l xs H1 L => ?_, fun no => absurd it no⟩
    obtain rfl := L.ev
    have hon := (isTri_iff.mp it).2
    have hh := L.has.same (less_same _ _)
    rw [cornersP_crn] at hh hon
    have e1 : xs.length = 3 := by have := hh.length; simpa using this
    refine ⟨l, rfl, ⟨_, SqL.of L.at_⟩, comp_list (K := K) (a := l) (xs := xs) (fun i ys σc H2 => H2 = H1 ∧ (∃ c0, σc = [c0, some nv]) ∧ ys = (([crn t 0, crn t 1, crn t 2].map fun p => V.int (mkAt rs p.1 p.2)).take i)) ⟨rfl, ⟨none, rfl⟩, rfl⟩
      (by rw [e1]; omega) (fun i ys σ H2 _ h => by rw [h.1]; exact SqL.of L.at_) (fun i ys σ H2 h => by rw [h.2.2, List.length_take]; omega) ?_ ?_⟩
    · rintro i v ys σc H2 hv ⟨rfl, ⟨c0, rfl⟩, rfl⟩
      obtain ⟨d, hd, hvd⟩ := hh.get hv
      rw [List.getElem?_map] at hd
      cases ep : [crn t 0, crn t 1, crn t 2][i]? with
      | none => rw [ep] at hd; cases hd
      | some p =>
        rw [ep] at hd
        cases hd
        obtain ⟨a, rfl, hq⟩ := has_pt hvd
        refine ⟨_, rfl, _, rfl, a, _, 0, _, rfl, rfl, hq, rfl, _, rfl, a, _, 1, _, rfl, rfl, hq, rfl, nv, rs, p.1, p.2, rfl, N.same L.same, fun on => ?_, fun no => absurd (hon p (List.mem_of_getElem? ep)) no⟩
        refine ⟨rfl, ⟨_, rfl⟩, ?_⟩
        rw [List.take_add_one, List.getElem?_map, ep]
        simp
    · rintro ys σc H2 ⟨rfl, ⟨c0, rfl⟩, rfl⟩ p5 h5
      rw [e1]
      have e5 : ([crn t 0, crn t 1, crn t 2].map fun p => V.int (mkAt rs p.1 p.2)).take 3 = [V.int (mkAt rs (crn t 0).1 (crn t 0).2), .int (mkAt rs (crn t 1).1 (crn t 1).2), .int (mkAt rs (crn t 2).1 (crn t 2).2)] := rfl
      rw [e5]
      have s5 := same_upd (o := .lst [V.int (mkAt rs (crn t 0).1 (crn t 0).2), .int (mkAt rs (crn t 1).1 (crn t 1).2), .int (mkAt rs (crn t 2).1 (crn t 2).2)]) h5
      refine ⟨3, rfl, by decide, by decide, comp_range (lo := 0) (n := 3) (fun j ys σc H3 => H3 = upd H2 p5 (.lst [V.int (mkAt rs (crn t 0).1 (crn t 0).2), .int (mkAt rs (crn t 1).1 (crn t 1).2), .int (mkAt rs (crn t 2).1 (crn t 2).2)]) ∧ (∃ c0, σc = [c0, some (.ref p5)]) ∧ ys = ([V.int (tnS rs (t, 0)), .int (tnS rs (t, 1)), .int (tnS rs (t, 2))]).take j) ⟨rfl, ⟨none, rfl⟩, rfl⟩
        (by omega) (fun j ys σ H3 h => by rw [h.2.2, List.length_take]; omega) ?_ ?_⟩
      · rintro j ys σc H3 hj ⟨rfl, ⟨c0, rfl⟩, rfl⟩
        have sq := SqL.of (K := K) (upd_same (H := H2) (a := p5) (o := .lst [V.int (mkAt rs (crn t 0).1 (crn t 0).2), .int (mkAt rs (crn t 1).1 (crn t 1).2), .int (mkAt rs (crn t 2).1 (crn t 2).2)]))
        obtain ⟨a, b, ha, hb, ht⟩ : ∃ a b : Int, atI [V.int (mkAt rs (crn t 0).1 (crn t 0).2), .int (mkAt rs (crn t 1).1 (crn t 1).2), .int (mkAt rs (crn t 2).1 (crn t 2).2)] (0 + (j : Int)) = some (.int a) ∧ atI [V.int (mkAt rs (crn t 0).1 (crn t 0).2), .int (mkAt rs (crn t 1).1 (crn t 1).2), .int (mkAt rs (crn t 2).1 (crn t 2).2)] ((0 + (j : Int) + 1) % 3) = some (.int b) ∧
            ([V.int (tnS rs (t, 0)), .int (tnS rs (t, 1)), .int (tnS rs (t, 2))]).take (j + 1) = ([V.int (tnS rs (t, 0)), .int (tnS rs (t, 1)), .int (tnS rs (t, 2))]).take j ++ [.int (turnI a b)] := by
          have : j = 0 ∨ j = 1 ∨ j = 2 := by omega
          rcases this with rfl | rfl | rfl
          · exact ⟨_, _, rfl, rfl, rfl⟩
          · exact ⟨_, _, rfl, rfl, rfl⟩
          · exact ⟨_, _, rfl, rfl, rfl⟩
        refine ⟨_, rfl, _, rfl, p5, _, _, _, rfl, rfl, sq, ha, _, rfl, _, rfl, _, _, rfl, rfl, _, _, rfl, rfl, (by show (0 : Int) < 3; decide), p5, _, _, _, rfl, rfl, sq, hb, a, b, rfl, ?_⟩
        exact ⟨rfl, ⟨_, rfl⟩, ht.symm⟩
      · rintro ys σc H3 ⟨rfl, ⟨c0, rfl⟩, rfl⟩ p hp
        exact q p _ (L.same.free (s5.free hp)) (L.same.trans (s5.trans (same_upd hp))) upd_same
end
end K09
set_option Elab.async false
set_option linter.all false
set_option maxRecDepth 100000
set_option maxHeartbeats 4000000
namespace K09
open PySem PySem.Spec PyProof.Rows L2
seal L2.PE L2.PT L2.PS L2.PSs L2.PA L2.PI L2.PG L2.PGs L2.PW L2.PO L2.PIfs L2.PH
def spLSide (K : PySem.W.Frag) : Sp := fun vs H Q _ => ∃ (tv : V) (t : Tr) (k : Int), vs = [tv, .int k] ∧ Has K H tv (tD t) ∧ okS (t, k) ∧ ∀ v H', L2.Same H H' → Has K H' v (sideD t k) → Q v H'
section
variable {P : Program} {w : World} {K : PySem.W.Frag} {mg : Str → Option Value} {base : Heap} {ad : Adr}
theorem ok_lside {f : Addr} {fd : FuncData} (F : Fun K "_law_side" "_law_side" s_law_side f fd) (T : Txt K mg ad) (C_law_corners : Callee P w K mg base "_law_corners" 1 ["triangle"] (spLCorners K)) : FnOk P w K mg base (CXR P w) 2 f fd ["triangle", "k"] (spLSide K) := by
  refine F.okX sc_law_side (fun vs H Q E h => ?_) (fun cdv A outer s H vs Q E hr h hx => ?_)
  · obtain ⟨tv, t, k, rfl, _⟩ := h
    rfl
  · obtain ⟨tv, t, k, rfl, hT, ok, q⟩ := h
    refine ⟨_, (pss_cons (ps_set (i := 2) sc_law_side.nd rfl (Or.inl rfl) (pe_c C_law_corners (hr.mono (by decide)) hx.toLetsP (pa_cons (pv 0) pa_nil)))
  (pss_one (ps_ret (pe_tup (pa_cons (pe_ix (r := rIxL K) ix_list (pv 2) (pv 1) (fun _ _ => rfl)) (pa_cons (pe_ix (r := rIxL K) ix_list (pv 2) (pe_op op_mod (pe_op op_add (pv 1) pe_int) pe_int) (fun _ _ => rfl)) pa_nil)))))), ?_⟩
    have z2 : 2 ≤ sizeLine := by rw [sizeLine_eq]; decide
    refine ⟨_, rfl, tv, t.1, t.2.1, t.2.2, rfl, hT, ok.1, fun v l xs H1 L => ?_⟩
    obtain rfl := L.ev
    have hh := L.has.same (less_same _ _)
    rw [cornersP_crn] at hh
    obtain ⟨v0, v1, v2, rfl, h0, h1, h2⟩ : ∃ v0 v1 v2, xs = [v0, v1, v2] ∧ Has K H1 v0 (pD (crn t 0)) ∧ Has K H1 v1 (pD (crn t 1)) ∧ Has K H1 v2 (pD (crn t 2)) := by
      cases hh with
      | cons a b => cases b with
        | cons c d => cases d with
          | cons e g => cases g; exact ⟨_, _, _, rfl, a, c, e⟩
    obtain ⟨va, vb, ha, hb, ga, gb⟩ : ∃ va vb, atI [v0, v1, v2] k = some va ∧ atI [v0, v1, v2] ((k + 1) % 3) = some vb ∧ Has K H1 va (pD (crn t k)) ∧ Has K H1 vb (pD (crn t (nxt k))) := by
      rcases ok.2 with e | e | e <;> (simp only at e; subst e)
      · exact ⟨v0, v1, rfl, rfl, h0, h1⟩
      · exact ⟨v1, v2, rfl, rfl, h1, h2⟩
      · exact ⟨v2, v0, rfl, rfl, h2, h0⟩
    have sq := SqL.of (K := K) L.at_
    refine ⟨_, rfl, _, rfl, l, _, _, _, rfl, rfl, sq, ha, _, rfl, _, rfl, _, _, rfl, rfl, _, _, rfl, rfl, (by show (0 : Int) < 3; decide), l, _, _, _, rfl, rfl, sq, hb, z2, fun p hp => ?_⟩
    have sp := same_upd (o := .tup [va, vb]) hp
    exact q _ _ (L.same.trans sp) (.tup (SqT.of upd_same) (.cons (ga.same sp) (.cons (gb.same sp) .nil)))
end
end K09
set_option Elab.async false
set_option linter.all false
set_option maxRecDepth 100000
set_option maxHeartbeats 4000000
namespace K09
open PySem PySem.Spec PyProof.Rows L2
seal L2.PE L2.PT L2.PS L2.PSs L2.PA L2.PI L2.PG L2.PGs L2.PW L2.PO L2.PIfs L2.PH
def spLTurn (K : PySem.W.Frag) : Sp := fun vs H Q _ => ∃ (mv tv : V) (rs : List (List Int)) (t : Tr) (k : Int), vs = [mv, tv, .int k] ∧ TGrid H mv rs ∧ Good rs ∧ Has K H tv (tD t) ∧ isTri (sz rs) t.1 t.2.1 t.2.2 ∧ (k = 0 ∨ k = 1 ∨ k = 2) ∧ ∀ H', L2.Same H H' → Q (.int (tnS rs (t, k))) H'
theorem turn_eq (a b : Int) : ((if eqD (.tup [.int a, .int b]) (.tup [.int 0, .int 1]) = true then 1 else 0 : Int) - (if eqD (.tup [.int a, .int b]) (.tup [.int 1, .int 0]) = true then 1 else 0)) = turnI a b := by
  unfold turnI
  have e1 : eqD (.tup [.int a, .int b]) (.tup [.int 0, .int 1]) = true ↔ a = 0 ∧ b = 1 := by simp [eqD, eqDs]
  have e2 : eqD (.tup [.int a, .int b]) (.tup [.int 1, .int 0]) = true ↔ a = 1 ∧ b = 0 := by simp [eqD, eqDs]
  simp only [e1, e2]
  split <;> split <;> first | omega | rfl
section
variable {P : Program} {w : World} {K : PySem.W.Frag} {mg : Str → Option Value} {base : Heap} {ad : Adr}
theorem ok_lturn {f : Addr} {fd : FuncData} (F : Fun K "_law_turn" "_law_turn" s_law_turn f fd) (T : Txt K mg ad) (C_law_side : Callee P w K mg base "_law_side" 2 ["triangle", "k"] (spLSide K)) : FnOk P w K mg base (CXR P w) 3 f fd ["marks", "triangle", "k"] (spLTurn K) := by
  refine F.okX sc_law_turn (fun vs H Q E h => ?_) (fun cdv A outer s H vs Q E hr h hx => ?_)
  · obtain ⟨mv, tv, rs, t, k, rfl, _⟩ := h
    rfl
  · obtain ⟨mv, tv, rs, t, k, rfl, G, g, hT, it, k3, q⟩ := h
    have hu : _ := hr.units
    refine ⟨_, (pss_cons (ps_asg (pe_c C_law_side (hr.mono (by decide)) hx.toLetsP (pa_cons (pv 1) (pa_cons (pv 2) pa_nil))) (pg_tupK (n := 2) K rfl (pgs_cons (pg_name (i := 3) sc_law_turn.nd rfl (Or.inl rfl)) (pgs_cons (pg_name (i := 4) sc_law_turn.nd rfl (Or.inl rfl)) pgs_nil))))
  (pss_cons (ps_set (i := 5) sc_law_turn.nd rfl (Or.inl rfl) (pe_tup (pa_cons (pe_ix (r := rIxL K) ix_list (pe_ix (r := rIxL K) ix_list (pv 0) (pe_ix (r := rIxT K) ix_tup (pv 3) pe_int (fun _ _ => rfl)) (fun _ _ => rfl)) (pe_ix (r := rIxT K) ix_tup (pv 3) pe_int (fun _ _ => rfl)) (fun _ _ => rfl)) (pa_cons (pe_ix (r := rIxL K) ix_list (pe_ix (r := rIxL K) ix_list (pv 0) (pe_ix (r := rIxT K) ix_tup (pv 4) pe_int (fun _ _ => rfl)) (fun _ _ => rfl)) (pe_ix (r := rIxT K) ix_tup (pv 4) pe_int (fun _ _ => rfl)) (fun _ _ => rfl)) pa_nil))))
  (pss_one (ps_ret (pe_op op_sub (pe_callTy call_int1 rfl T.b_int boot_int (pa_cons (pe_cmpR (r := rEqD K false) (op_eqD hu) (pv 5) (pe_tup (pa_cons pe_int (pa_cons pe_int pa_nil))) (nomark _)) pa_nil)) (pe_callTy call_int1 rfl T.b_int boot_int (pa_cons (pe_cmpR (r := rEqD K false) (op_eqD hu) (pv 5) (pe_tup (pa_cons pe_int (pa_cons pe_int pa_nil))) (nomark _)) pa_nil))))))), ?_⟩
    have z2 : 2 ≤ sizeLine := by rw [sizeLine_eq]; decide
    have kd : t.2.2 = 0 ∨ t.2.2 = 1 := (isTri_iff.mp it).1
    have hon := (isTri_iff.mp it).2
    rw [cornersP_crn] at hon
    have on1 : onN (sz rs) (crn t k).1 (crn t k).2 := by
      rcases k3 with rfl | rfl | rfl <;> exact hon _ (by simp)
    have on2 : onN (sz rs) (crn t (nxt k)).1 (crn t (nxt k)).2 := by
      rcases k3 with rfl | rfl | rfl <;> exact hon _ (by simp [nxt])
    refine ⟨_, rfl, _, rfl, tv, t, k, rfl, hT, ⟨kd, k3⟩, fun v H1 s1 hv => ?_⟩
    obtain ⟨sq, sxs, rfl, hsq, hsx⟩ := has_tup hv
    obtain ⟨pa, pb, rfl, ha, hb⟩ : ∃ pa pb, sxs = [V.ref pa, .ref pb] ∧ SqT K H1 pa [.int (crn t k).1, .int (crn t k).2] ∧ SqT K H1 pb [.int (crn t (nxt k)).1, .int (crn t (nxt k)).2] := by
      cases hsx with
      | cons a b => cases b with
        | cons c d =>
          cases d
          obtain ⟨pa, rfl, ha⟩ := has_pt a
          obtain ⟨pb, rfl, hb⟩ := has_pt c
          exact ⟨pa, pb, rfl, ha, hb⟩
    refine ⟨sq, _, rfl, hsq, rfl, _, _, rfl, _, _, rfl, rfl, ?_⟩
    obtain ⟨m, ras, G⟩ := G
    obtain rfl := G.ev
    have G1 := G.same s1
    obtain ⟨a1, r1, at1, row1, v1⟩ := G1.get g on1
    obtain ⟨a2, r2, at2, row2, v2⟩ := G1.get g on2
    refine ⟨_, rfl, _, rfl, pa, _, 1, _, rfl, rfl, ha, rfl, m, _, _, _, rfl, rfl, SqL.of G1.top, at1, _, rfl, pa, _, 0, _, rfl, rfl, ha, rfl, a1, _, _, _, rfl, rfl, SqL.of row1, v1, ?_⟩
    refine ⟨_, rfl, _, rfl, pb, _, 1, _, rfl, rfl, hb, rfl, m, _, _, _, rfl, rfl, SqL.of G1.top, at2, _, rfl, pb, _, 0, _, rfl, rfl, hb, rfl, a2, _, _, _, rfl, rfl, SqL.of row2, v2, z2, fun p hp => ?_⟩
    have sp := same_upd (o := .tup [V.int (mkAt rs (crn t k).1 (crn t k).2), .int (mkAt rs (crn t (nxt k)).1 (crn t (nxt k)).2)]) hp
    refine ⟨_, rfl, z2, fun p1 hp1 => ?_⟩
    have sp1 := same_upd (o := .tup [V.int 0, .int 1]) hp1
    refine ⟨.tup [.int (mkAt rs (crn t k).1 (crn t k).2), .int (mkAt rs (crn t (nxt k)).1 (crn t (nxt k)).2)], .tup [.int 0, .int 1], .tup (SqT.of (sp1 _ _ upd_same)) (hasL_ints _ [mkAt rs (crn t k).1 (crn t k).2, mkAt rs (crn t (nxt k)).1 (crn t (nxt k)).2]), .tup (SqT.of upd_same) (hasL_ints _ [0, 1]), by simp [dep, depL], .inr ⟨_, rfl, ?_⟩⟩
    refine ⟨_, rfl, z2, fun p2 hp2 => ?_⟩
    have sp2 := same_upd (o := .tup [V.int 1, .int 0]) hp2
    refine ⟨.tup [.int (mkAt rs (crn t k).1 (crn t k).2), .int (mkAt rs (crn t (nxt k)).1 (crn t (nxt k)).2)], .tup [.int 1, .int 0], .tup (SqT.of (sp2 _ _ (sp1 _ _ upd_same))) (hasL_ints _ [mkAt rs (crn t k).1 (crn t k).2, mkAt rs (crn t (nxt k)).1 (crn t (nxt k)).2]), .tup (SqT.of upd_same) (hasL_ints _ [1, 0]), by simp [dep, depL], .inr ⟨_, rfl, _, _, rfl, rfl, ?_⟩⟩
    have := q _ (s1.trans (sp.trans (sp1.trans sp2)))
    unfold tnS at this
    rw [← turn_eq] at this
    exact this
end
end K09
set_option Elab.async false
set_option linter.all false
set_option maxRecDepth 100000
set_option maxHeartbeats 4000000
namespace K09
open PySem PySem.Spec PyProof.Rows L2
seal L2.PE L2.PT L2.PS L2.PSs L2.PA L2.PI L2.PG L2.PGs L2.PW L2.PO L2.PIfs L2.PH
def spFloorBy (K : PySem.W.Frag) : Sp := fun vs H Q _ => ∃ (a : Addr) (ns : List Int) (n : Nat), vs = [.ref a, .int n] ∧ SqL K H a (ns.map V.int) ∧ n ≤ 12 ∧ ∀ v l xs H' F, NewL K H H' v l xs (F.map tD) → flP n F → F.length ≤ 300 → Q v H'
section
variable {P : Program} {w : World} {K : PySem.W.Frag} {mg : Str → Option Value} {base : Heap} {ad : Adr}
theorem ok_floorby {f : Addr} {fd : FuncData} (F : Fun K "_law_floor_by" "_law_floor_by" s_law_floor_by f fd) (T : Txt K mg ad) (C_law_cell_at : Callee P w K mg base "_law_cell_at" 1 ["script", "k"] (spCell K)) (C_law_mix : Callee P w K mg base "_law_mix" 1 ["cell", "k", "many"] spMix)
    (C_law_triangles : Callee P w K mg base "_law_triangles" 2 ["size"] (spLTris K)) : FnOk P w K mg base (CXR P w) 3 f fd ["script", "size"] (spFloorBy K) := by
  refine F.okX sc_law_floor_by (fun vs H Q E h => ?_) (fun cdv A outer s H vs Q E hr h hx => ?_)
  · obtain ⟨a, ns, n, rfl, _⟩ := h
    rfl
  · obtain ⟨a, ns, n, rfl, hS, hn, q⟩ := h
    refine ⟨_, (pss_cons (ps_set (i := 2) sc_law_floor_by.nd rfl (Or.inl rfl) (pe_op op_mod (pe_c C_law_cell_at (hr.mono (by decide)) hx.toLetsP (pa_cons (pv 0) (pa_cons pe_int pa_nil))) pe_int))
  (pss_cons (ps_if (pt_cmpR op_eq (pv 2) pe_int (nomark _)) (pss_one (ps_ret (pe_c C_law_triangles (hr.mono (by decide)) hx.toLetsP (pa_cons (pv 1) pa_nil)))) pss_nil)
  (pss_cons (ps_set (i := 3) sc_law_floor_by.nd rfl (Or.inr rfl) (pe_c C_law_cell_at (hr.mono (by decide)) hx.toLetsP (pa_cons (pv 0) (pa_cons pe_int pa_nil))))
  (pss_cons (ps_set (i := 4) sc_law_floor_by.nd rfl (Or.inr rfl) (pe_ix (r := rIxL K) ix_list (pe_lst (pa_cons pe_int (pa_cons pe_int (pa_cons pe_int pa_nil)))) (pe_op op_sub (pv 2) pe_int) (fun _ _ => rfl)))
  (pss_one (ps_ret (pe_comp (Nc := ["k", "part", "cell", "many"]) (nt := 2) (is := [3, 4]) rfl (comp_okF (by rfl) (by decide +kernel) rfl (by decide +kernel) (by intro p hp; simp only [List.mem_cons, List.not_mem_nil, or_false] at hp; first | (rcases hp with rfl | rfl | rfl | rfl <;> rfl) | (rcases hp with rfl | rfl | rfl <;> rfl) | (rcases hp with rfl | rfl <;> rfl) | (subst hp; rfl)) (by rfl) rfl (fun j i h => match j, h with | 0, h => by cases h; exact ⟨_, rfl, rfl, .inl rfl, .inl rfl⟩ | 1, h => by cases h; exact ⟨_, rfl, rfl, .inl rfl, .inl rfl⟩ | _ + 2, h => by simp at h))  (pi_enumK K rfl T.b_enumerate (pa_cons (pe_c C_law_triangles (hr.mono (by decide)) hx.toLetsP (pa_cons (pv 1) pa_nil)) pa_nil)) (fun _ _ _ _ _ => (pg_tupK (n := 2) K rfl (pgs_cons (pg_name (i := 0) (show List.Nodup (["k", "part", "cell", "many"] : List Str) by decide +kernel) rfl (Or.inl rfl)) (pgs_cons (pg_name (i := 1) (show List.Nodup (["k", "part", "cell", "many"] : List Str) by decide +kernel) rfl (Or.inl rfl)) pgs_nil)))) (fun _ _ _ _ _ => (pifs_one (pt_cmpR op_gt (pe_c C_law_mix (hr.mono (by decide)) lets_xc (pa_cons (pv 2) (pa_cons (pv 0) (pa_cons (pv 3) pa_nil)))) pe_int (nomark _)))) (fun _ _ _ _ _ => (pv 1))))))))), ?_⟩
    have zl : sizeLine = 16777216 := sizeLine_eq
    have z3 : 3 ≤ sizeLine := by omega
    have tl := tris_len n hn
    have c0 := Int.emod_nonneg (cellAt ns 1) (show (4 : Int) ≠ 0 by decide)
    have c1 := Int.emod_lt_of_pos (cellAt ns 1) (show (0 : Int) < 4 by decide)
    refine ⟨_, rfl, a, ns, 1, rfl, hS, by decide, _, _, rfl, rfl, (by show (0 : Int) < 4; decide), ?_⟩
    obtain ⟨way, hway⟩ : ∃ way, cellAt ns 1 % 4 = way := ⟨_, rfl⟩
    simp only [hway] at c0 c1 ⊢
    refine ⟨_, rfl, rfl, _, rfl, ?_⟩
    refine ite2 (fun h0 => ?_) (fun h0 => ?_)
    · refine ⟨_, rfl, n, rfl, hn, fun v l xs H1 L => ?_⟩
      obtain ⟨f1, f2⟩ := fl_sub hn (List.Sublist.refl (tris n))
      exact q _ _ _ _ _ L f1 f2
    · have w0 : way ≠ 0 := fun z => h0 (by simp [z])
      refine ⟨_, rfl, a, ns, 2, rfl, hS, by decide, ?_⟩
      generalize cellAt ns 2 = cell
      obtain ⟨many, hm, m0⟩ : ∃ many : Int, atI [V.int 2, .int 5, .int 12] (way - 1) = some (.int many) ∧ 0 < many := by
        have : way = 1 ∨ way = 2 ∨ way = 3 := by omega
        rcases this with rfl | rfl | rfl
        · exact ⟨_, rfl, by decide⟩
        · exact ⟨_, rfl, by decide⟩
        · exact ⟨_, rfl, by decide⟩
      refine ⟨z3, fun lq hlq => ⟨_, rfl, _, _, rfl, rfl, lq, _, _, _, rfl, rfl, SqL.of upd_same, hm, ?_⟩⟩
      have s1 := same_upd (o := .lst [V.int 2, .int 5, .int 12]) hlq
      refine ⟨_, rfl, n, rfl, hn, fun v l xs H1 L => ?_⟩
      obtain rfl := L.ev
      have hh := L.has.same (less_same _ _)
      have ll : xs.length = (tris n).length := by rw [hh.length, List.length_map]
      refine ⟨l, rfl, ⟨_, SqL.of L.at_⟩, comp_enum (K := K) (a := l) (xs := xs) (fun i ys σc H2 => L2.Same H1 H2 ∧ (∃ c0 c1, σc = [c0, c1, some (.int cell), some (.int many)]) ∧ ∃ G : List Tr, G.Sublist ((tris n).take i) ∧ HasL K H2 ys (G.map tD)) ⟨L2.Same.refl _, ⟨none, none, rfl⟩, [], .slnil, .nil⟩
        (by omega) (fun i ys σ H2 _ h => SqL.of (h.1 _ _ L.at_)) (fun i ys σ H2 h => ?_) ?_ ?_⟩
      · obtain ⟨_, _, G, g1, g2⟩ := h
        have := g1.length_le
        rw [List.length_take] at this
        rw [g2.length, List.length_map]
        omega
      · rintro i v ys σc H2 p hv ⟨s2, ⟨c0, c1, rfl⟩, G, g1, g2⟩ hp
        have hi : i < xs.length := (List.getElem?_eq_some_iff.mp hv).1
        obtain ⟨d, hd, hvd⟩ := hh.get hv
        rw [List.getElem?_map] at hd
        cases et : (tris n)[i]? with
        | none => rw [et] at hd; cases hd
        | some t =>
          rw [et] at hd
          cases hd
          have sp := same_upd (o := .tup [V.int i, v]) hp
          refine ⟨p, _, rfl, SqT.of upd_same, rfl, _, _, rfl, _, _, rfl, rfl, ?_⟩
          refine ⟨_, rfl, _, rfl, _, rfl, cell, i, many, rfl, by omega, by omega, m0, fun r H3 r0 r1 s3 => ⟨_, _, rfl, rfl, _, rfl, ?_⟩⟩
          have e2 : (tris n).take (i + 1) = (tris n).take i ++ [t] := by rw [List.take_add_one, et]; rfl
          refine ite2 (fun _ => ?_) (fun _ => ?_)
          · refine ⟨_, rfl, s2.trans (sp.trans s3), ⟨_, _, rfl⟩, G ++ [t], ?_, ?_⟩
            · rw [e2]; exact g1.append (List.Sublist.refl _)
            · rw [List.map_append]
              exact (g2.same (sp.trans s3)).append (.cons (hvd.same (s2.trans (sp.trans s3))) .nil)
          · refine ⟨s2.trans (sp.trans s3), ⟨_, _, rfl⟩, G, ?_, g2.same (sp.trans s3)⟩
            rw [e2]
            exact g1.trans (List.sublist_append_left _ _)
      · rintro ys σc H2 ⟨s2, ⟨c0, c1, rfl⟩, G, g1, g2⟩ p hp
        have g3 : G.Sublist (tris n) := by rw [ll, List.take_length] at g1; exact g1
        obtain ⟨f1, f2⟩ := fl_sub hn g3
        exact q _ p _ _ G (newL_mk (s1.trans (L.same.trans s2)) hp g2) f1 f2
end
end K09
set_option Elab.async false
set_option linter.all false
set_option maxRecDepth 100000
set_option maxHeartbeats 4000000
namespace K09
open PySem PySem.Spec PyProof.Rows L2
seal L2.PE L2.PT L2.PS L2.PSs L2.PA L2.PI L2.PG L2.PGs L2.PW L2.PO L2.PIfs L2.PH
def spWhl (K : PySem.W.Frag) (C : Addr) : Sp := fun vs H Q _ => ∃ (nv tv : V) (rs : List (List Int)) (t : Tr), vs = [nv, tv] ∧ NetAt C H nv rs ∧ Has K H tv (tD t) ∧ isTri (sz rs) t.1 t.2.1 t.2.2 ∧ ∀ H', L2.Same H H' → Q (.bl (decide (snT rs t ≠ 0))) H'
def spDoors (K : PySem.W.Frag) (C : Addr) : Sp := fun vs H Q _ => ∃ (nv tv : V) (rs : List (List Int)) (t : Tr), vs = [nv, tv] ∧ NetAt C H nv rs ∧ Has K H tv (tD t) ∧ isTri (sz rs) t.1 t.2.1 t.2.2 ∧ ∀ l H', H l = none → L2.Same H H' → H' l = some (.lst ((drs rs t).map V.int)) → Q (.ref l) H'
def spIsEnd (P : Program) (w : World) (K : PySem.W.Frag) (C : Addr) : Sp := fun vs H Q _ => ∃ (nv ev : V) (ab : Addr) (bk : List DE) (rs : List (List Int)) (F : List Tr) (e : En), vs = [nv, .ref ab, ev] ∧ NetAt C H nv rs ∧ Bey P w K H ab bk F ∧ flP (sz rs) F ∧ Has K H ev (eD e) ∧ ∀ H', L2.Same H H' → Q (.bl (enB rs F e)) H'
section
variable {P : Program} {w : World} {K : PySem.W.Frag} {mg : Str → Option Value} {base : Heap} {ad : Adr}
theorem ok_whl {f : Addr} {fd : FuncData} (F : Fun K "is_whole" "is_whole" s_is_whole f fd) (T : Txt K mg ad) (C_sense : Callee P w K mg base "sense" 3 ["net", "triangle"] (spSense K ad.Net ad.NoTriangle)) : FnOk P w K mg base (CXR P w) 4 f fd ["net", "triangle"] (spWhl K ad.Net) := by
  refine F.okX sc_is_whole (fun vs H Q E h => ?_) (fun cdv A outer s H vs Q E hr h hx => ?_)
  · obtain ⟨nv, tv, rs, t, rfl, _⟩ := h
    rfl
  · obtain ⟨nv, tv, rs, t, rfl, N, hT, it, q⟩ := h
    refine ⟨_, (pss_one (ps_ret (pe_cmpR op_ne (pe_c C_sense (hr.mono (by decide)) hx.toLetsP (pa_cons (pv 0) (pa_cons (pv 1) pa_nil))) pe_int (nomark _)))), ?_⟩
    refine ⟨_, rfl, _, rfl, nv, tv, rs, t.1, t.2.1, t.2.2, rfl, N, hT, fun _ H1 s1 => ⟨rfl, ?_⟩, fun no => absurd it no⟩
    have := q H1 s1
    have e : decide (snT rs t ≠ 0) = !decide (V.int (senseT rs t.1 t.2.1 t.2.2) = V.int 0) := by
      unfold snT
      simp
    rw [e] at this
    exact this
theorem ok_doors {f : Addr} {fd : FuncData} (F : Fun K "doors" "doors" s_doors f fd) (T : Txt K mg ad) (C_turns_of_sides : Callee P w K mg base "turns_of_sides" 3 ["net", "triangle"] (spTos K ad.Net)) : FnOk P w K mg base (CXR P w) 4 f fd ["net", "triangle"] (spDoors K ad.Net) := by
  refine F.okX sc_doors (fun vs H Q E h => ?_) (fun cdv A outer s H vs Q E hr h hx => ?_)
  · obtain ⟨nv, tv, rs, t, rfl, _⟩ := h
    rfl
  · obtain ⟨nv, tv, rs, t, rfl, N, hT, it, q⟩ := h
    refine ⟨_, (pss_one (ps_ret (pe_comp (Nc := ["k", "turn"]) (nt := 2) (is := []) rfl (comp_ok0 (by decide +kernel) (by decide +kernel) rfl (by decide +kernel) rfl)  (pi_enumK K rfl T.b_enumerate (pa_cons (pe_c C_turns_of_sides (hr.mono (by decide)) hx.toLetsP (pa_cons (pv 0) (pa_cons (pv 1) pa_nil))) pa_nil)) (fun _ _ _ _ _ => (pg_tupK (n := 2) K rfl (pgs_cons (pg_name (i := 0) (show List.Nodup (["k", "turn"] : List Str) by decide +kernel) rfl (Or.inl rfl)) (pgs_cons (pg_name (i := 1) (show List.Nodup (["k", "turn"] : List Str) by decide +kernel) rfl (Or.inl rfl)) pgs_nil)))) (fun _ _ _ _ _ => (pifs_one (pt_cmpR op_ne (pv 1) pe_int (nomark _)))) (fun _ _ _ _ _ => (pv 0))))), ?_⟩
    have zl : sizeLine = 16777216 := sizeLine_eq
    refine ⟨_, rfl, _, rfl, nv, tv, rs, t, rfl, N, hT, it, fun l H1 n1 s1 h1 => ?_⟩
    refine ⟨l, rfl, ⟨_, SqL.of h1⟩, comp_enum (K := K) (a := l) (xs := [.int (tnS rs (t, 0)), .int (tnS rs (t, 1)), .int (tnS rs (t, 2))]) (fun i ys σc H2 => L2.Same H1 H2 ∧ (∃ c0 c1, σc = [c0, c1]) ∧ ys = ((([0, 1, 2] : List Int).take i).filter fun k => decide (tnS rs (t, k) ≠ 0)).map V.int) ⟨L2.Same.refl _, ⟨none, none, rfl⟩, rfl⟩
      (by show 3 ≤ sizeLine; omega) (fun i ys σ H2 _ h => SqL.of (h.1 _ _ h1)) (fun i ys σ H2 h => ?_) ?_ ?_⟩
    · rw [h.2.2, List.length_map]
      refine Nat.le_trans (List.length_filter_le _ _) ?_
      rw [List.length_take]; omega
    · rintro i v ys σc H2 p hv ⟨s2, ⟨c0, c1, rfl⟩, rfl⟩ hp
      have i3 : i < 3 := by have := (List.getElem?_eq_some_iff.mp hv).1; simpa using this
      obtain ⟨k, hk⟩ : ∃ k : Int, (i : Int) = k := ⟨_, rfl⟩
      obtain ⟨ev, ek⟩ : v = .int (tnS rs (t, k)) ∧ ([0, 1, 2] : List Int)[i]? = some k := by
        have : i = 0 ∨ i = 1 ∨ i = 2 := by omega
        rcases this with rfl | rfl | rfl <;> (cases hv; subst hk; exact ⟨rfl, rfl⟩)
      subst ev
      simp only [hk]
      refine ⟨p, _, rfl, SqT.of upd_same, rfl, _, _, rfl, _, _, rfl, rfl, _, rfl, rfl, _, rfl, ?_⟩
      have sp := same_upd (o := .tup [V.int k, .int (tnS rs (t, k))]) hp
      rw [filter_take_succ _ ek]
      refine ite2 (fun h => ?_) (fun h => ?_)
      · refine ⟨_, rfl, s2.trans sp, ⟨_, _, rfl⟩, ?_⟩
        rw [if_pos (by simpa using h)]
        simp
      · refine ⟨s2.trans sp, ⟨_, _, rfl⟩, ?_⟩
        rw [if_neg (by simpa using h)]
        simp
    · rintro ys σc H2 ⟨s2, ⟨c0, c1, rfl⟩, rfl⟩ p hp
      exact q p _ (s1.free (s2.free hp)) (s1.trans (s2.trans (same_upd hp))) upd_same
theorem ok_isend {f : Addr} {fd : FuncData} (F : Fun K "is_end" "is_end" s_is_end f fd) (T : Txt K mg ad) (C_is_whole : Callee P w K mg base "is_whole" 4 ["net", "triangle"] (spWhl K ad.Net)) (C_doors : Callee P w K mg base "doors" 4 ["net", "triangle"] (spDoors K ad.Net)) : FnOk P w K mg base (CXR P w) 5 f fd ["net", "beyond", "end"] (spIsEnd P w K ad.Net) := by
  refine F.okX sc_is_end (fun vs H Q E h => ?_) (fun cdv A outer s H vs Q E hr h hx => ?_)
  · obtain ⟨nv, ev, ab, bk, rs, Fl, e, rfl, _⟩ := h
    rfl
  · obtain ⟨nv, ev, ab, bk, rs, Fl, e, rfl, N, B, fl, hE, q⟩ := h
    have hu : _ := hr.units
    refine ⟨_, (pss_cons (ps_set (i := 3) sc_is_end.nd rfl (Or.inl rfl) (pe_ix (r := rIxT K) ix_tup (pv 2) pe_int (fun _ _ => rfl)))
  (pss_cons (ps_if (pt_cmpR op_eq (pe_ix (r := rIxT K) ix_tup (pv 2) pe_int (fun _ _ => rfl)) pe_str (nomark _)) (pss_one (ps_ret (pe_and (pe_cmpR (r := rInD2 P w K) (op_inD2 P w K hu) (pe_tup (pa_cons (pv 3) (pa_cons pe_int pa_nil))) (pv 1) rfl) (pe_one (pe_c C_is_whole (hr.mono (by decide)) hx.toLetsP (pa_cons (pv 0) (pa_cons (pv 3) pa_nil))))))) pss_nil)
  (pss_cons (ps_set (i := 4) sc_is_end.nd rfl (Or.inl rfl) (pe_tup (pa_cons (pv 3) (pa_cons (pe_ix (r := rIxT K) ix_tup (pv 2) pe_int (fun _ _ => rfl)) pa_nil))))
  (pss_one (ps_ret (pe_and (pe_cmpR (r := rInD2 P w K) (op_inD2 P w K hu) (pv 4) (pv 1) rfl) (pe_and (pe_cmpR op_isN (pe_ix (ix_d2 P w K hu) (pv 1) (pv 4) (fun _ _ => rfl)) pe_non (nomark _)) (pe_one (pe_cmpR (r := rIn K false) op_in_seq (pe_ix (r := rIxT K) ix_tup (pv 2) pe_int (fun _ _ => rfl)) (pe_c C_doors (hr.mono (by decide)) hx.toLetsP (pa_cons (pv 0) (pa_cons (pv 3) pa_nil))) rfl))))))))), ?_⟩
    have zl : sizeLine = 16777216 := sizeLine_eq
    have z2 : 2 ≤ sizeLine := by omega
    cases e with
    | wh t =>
      obtain ⟨eq, exs, rfl, hq, hl⟩ := has_tup hE
      obtain ⟨tv, rfl, hT⟩ : ∃ tv, exs = [V.str "whole", tv] ∧ Has K H tv (tD t) := by
        cases hl with
        | cons a b => cases b with
          | cons c d => cases d; cases a; exact ⟨_, rfl, c⟩
      refine ⟨_, rfl, eq, _, 1, _, rfl, rfl, hq, rfl, ?_⟩
      refine ⟨_, rfl, eq, _, 0, _, rfl, rfl, hq, rfl, rfl, _, rfl, ?_⟩
      refine ite2 (fun _ => ?_) (fun h => absurd (by simp) h)
      refine ⟨_, rfl, z2, fun p hp => ?_⟩
      have sp := same_upd (o := .tup [tv, .int 0]) hp
      have hk : Has K (upd H p (.tup [tv, .int 0])) (.ref p) (k2D (bK (t, 0))) := .tup (SqT.of upd_same) (.cons (hT.same sp) (.cons (.int _) .nil))
      refine ⟨_, rfl, p, ab, bk, bK (t, 0), rfl, rfl, (B.same sp).at_, hk, _, rfl, ?_⟩
      rw [B.mem]
      by_cases tm : t ∈ Fl
      · rw [decide_eq_true (mem_t0.mpr tm)]
        refine ite2 (fun _ => ?_) (fun h => absurd rfl h)
        refine ⟨_, rfl, _, rfl, nv, tv, rs, t, rfl, N.same sp, hT.same sp, fl.1 t tm, fun H2 s2 => ?_⟩
        have := q H2 (sp.trans s2)
        have e : enB rs Fl (.wh t) = decide (snT rs t ≠ 0) := by unfold enB; simp [tm]
        rw [e] at this
        exact this
      · rw [decide_eq_false (fun z => tm (mem_t0.mp z))]
        refine ite2 (fun h => by cases h) (fun _ => ?_)
        have := q _ sp
        have e : enB rs Fl (.wh t) = false := by unfold enB; simp [tm]
        rw [e] at this
        exact this
    | dr sd =>
      obtain ⟨eq, exs, rfl, hq, hl⟩ := has_tup hE
      obtain ⟨tv, rfl, hT⟩ : ∃ tv, exs = [V.str "door", tv, .int sd.2] ∧ Has K H tv (tD sd.1) := by
        cases hl with
        | cons a b => cases b with
          | cons c d => cases d with
            | cons e g => cases g; cases a; cases e; exact ⟨_, rfl, c⟩
      refine ⟨_, rfl, eq, _, 1, _, rfl, rfl, hq, rfl, ?_⟩
      refine ⟨_, rfl, eq, _, 0, _, rfl, rfl, hq, rfl, rfl, _, rfl, ?_⟩
      refine ite2 (fun h => ?_) (fun _ => ?_)
      · have : V.str "door" = V.str "whole" := of_decide_eq_true h
        injection this with this
        exact absurd this str_wd
      refine ⟨_, rfl, _, rfl, eq, _, 2, _, rfl, rfl, hq, rfl, z2, fun p hp => ?_⟩
      have sp := same_upd (o := .tup [tv, .int sd.2]) hp
      have hk : Has K (upd H p (.tup [tv, .int sd.2])) (.ref p) (k2D (bK sd)) := .tup (SqT.of upd_same) (.cons (hT.same sp) (.cons (.int _) .nil))
      refine ⟨_, rfl, _, rfl, p, ab, bk, bK sd, rfl, rfl, (B.same sp).at_, hk, _, rfl, ?_⟩
      rw [B.mem]
      by_cases sm : sd ∈ sdsL Fl
      · rw [decide_eq_true sm]
        refine ite2 (fun _ => ?_) (fun h => absurd rfl h)
        obtain ⟨v, lv, v1, v2⟩ := B.vals sd sm
        have ok := okS_of fl.kinds sm
        obtain ⟨tm, k3⟩ := mem_sdsL.mp sm
        refine ⟨_, rfl, _, rfl, ab, p, bk, bK sd, v, rfl, rfl, (B.same sp).at_, hk, lv, rfl, _, rfl, ?_⟩
        by_cases yes : (opp sd).1 ∈ Fl
        · obtain ⟨oq, op, rfl, _⟩ := has_sd (v1 ((opp_mem ok).mpr yes))
          refine ite2 (fun h => absurd h (by simp)) (fun _ => ?_)
          have := q _ sp
          have e : enB rs Fl (.dr sd) = false := by unfold enB; simp [yes]
          rw [e] at this
          exact this
        · obtain rfl := v2 (fun z => yes ((opp_mem ok).mp z))
          refine ite2 (fun _ => ?_) (fun h => absurd (by simp) h)
          refine ⟨_, rfl, eq, _, 2, _, rfl, rfl, L2.Same.sqT sp hq, rfl, _, rfl, _, rfl, nv, tv, rs, sd.1, rfl, N.same sp, hT.same sp, fl.1 sd.1 tm, fun l H2 n2 s2 h2 => ?_⟩
          refine ⟨l, _, rfl, .inl (SqL.of h2), rfl, ?_, ?_⟩
          · rw [List.all_eq_true]
            intro x hx'
            obtain ⟨i, _, rfl⟩ := List.mem_map.mp hx'
            rfl
          have := q H2 (sp.trans s2)
          have e : enB rs Fl (.dr sd) = inV (.int sd.2) ((drs rs sd.1).map V.int) := by
            show (decide (sd ∈ sdsL Fl) && decide ((opp sd).1 ∉ Fl) && decide (tnS rs sd ≠ 0)) = _
            rw [decide_eq_true sm, decide_eq_true yes, Bool.true_and, Bool.true_and, Bool.eq_iff_iff]
            unfold inV
            rw [List.any_eq_true]
            constructor
            · intro h
              refine ⟨.int sd.2, List.mem_map_of_mem (List.mem_filter.mpr ⟨?_, h⟩), by simp [eqV]⟩
              rcases k3 with e | e | e <;> rw [e] <;> simp
            · rintro ⟨y, hy, e⟩
              obtain ⟨i, hi, rfl⟩ := List.mem_map.mp hy
              have e' : i = sd.2 := by simpa [eqV] using e
              subst e'
              exact (List.mem_filter.mp hi).2
          rw [e] at this
          exact this
      · rw [decide_eq_false sm]
        refine ite2 (fun h => by cases h) (fun _ => ?_)
        have := q _ sp
        have e : enB rs Fl (.dr sd) = false := by unfold enB; simp [sm]
        rw [e] at this
        exact this
end
end K09
set_option Elab.async false
set_option linter.all false
set_option maxRecDepth 100000
set_option maxHeartbeats 4000000
namespace K09
open PySem PySem.Spec PyProof.Rows L2
seal L2.PE L2.PT L2.PS L2.PSs L2.PA L2.PI L2.PG L2.PGs L2.PW L2.PO L2.PIfs L2.PH
def spEnds (K : PySem.W.Frag) (C NF : Addr) : Sp := fun vs H Q E => ∃ (nv fv : V) (rs : List (List Int)) (F : List Tr), vs = [nv, fv] ∧ NetAt C H nv rs ∧ Has K H fv (.lst (F.map tD)) ∧ F.length ≤ 1000 ∧
  (flP (sz rs) F → ∀ v l xs H', NewL K H H' v l xs ((endsP rs F).map eD) → Q v H') ∧ (¬ flP (sz rs) F → ∀ H', L2.Same H H' → E (.ref NF) none H')
section
variable {P : Program} {w : World} {K : PySem.W.Frag} {mg : Str → Option Value} {base : Heap} {ad : Adr}
theorem ok_ends {f : Addr} {fd : FuncData} (F : Fun K "ends" "ends" s_ends f fd) (T : Txt K mg ad) (C_check_floor : Callee P w K mg base "check_floor" 5 ["net", "floor"] (spChkFl K ad.Net ad.NoFloor)) (C_across : Callee P w K mg base "across" 4 ["net", "floor"] (spAcross P w K ad.Net))
    (C_is_end : Callee P w K mg base "is_end" 5 ["net", "beyond", "end"] (spIsEnd P w K ad.Net)) : FnOk P w K mg base (CXR P w) 6 f fd ["net", "floor"] (spEnds K ad.Net ad.NoFloor) := by
  refine F.okX sc_ends (fun vs H Q E h => ?_) (fun cdv A outer s H vs Q E hr h hx => ?_)
  · obtain ⟨nv, fv, rs, Fl, rfl, _⟩ := h
    rfl
  · obtain ⟨nv, fv, rs, Fl, rfl, N, hF, hz, q, ke⟩ := h
    have hu : _ := hr.units
    refine ⟨_, (pss_cons (ps_expr (pe_c C_check_floor (hr.mono (by decide)) hx.toLetsP (pa_cons (pv 0) (pa_cons (pv 1) pa_nil))))
  (pss_cons (ps_set (i := 2) sc_ends.nd rfl (Or.inr rfl) (pe_c C_across (hr.mono (by decide)) hx.toLetsP (pa_cons (pv 0) (pa_cons (pv 1) pa_nil))))
  (pss_cons (ps_set (i := 3) sc_ends.nd rfl (Or.inl rfl) (pe_lst pa_nil))
  (pss_cons (ps_for hx.own rfl (pi_listK K (pv 1)) (pg_name (i := 4) sc_ends.nd rfl (Or.inr rfl)) (pss_cons (ps_set (i := 5) sc_ends.nd rfl (Or.inl rfl) (pe_op op_cat (pe_lst (pa_cons (pe_tup (pa_cons pe_str (pa_cons (pv 4) pa_nil))) pa_nil)) (pe_comp (Nc := ["k", "triangle"]) (nt := 1) (is := [4]) rfl (comp_okF (by rfl) (by decide +kernel) rfl (by decide +kernel) (by intro p hp; simp only [List.mem_cons, List.not_mem_nil, or_false] at hp; first | (rcases hp with rfl | rfl | rfl | rfl <;> rfl) | (rcases hp with rfl | rfl | rfl <;> rfl) | (rcases hp with rfl | rfl <;> rfl) | (subst hp; rfl)) (by rfl) rfl (fun j i h => match j, h with | 0, h => by cases h; exact ⟨_, rfl, rfl, .inl rfl, .inl rfl⟩ | _ + 1, h => by simp at h))  (pi_range1 rfl T.b_range (pa_cons pe_int pa_nil)) (fun _ _ _ _ _ => (pg_name (i := 0) (show List.Nodup (["k", "triangle"] : List Str) by decide +kernel) rfl (Or.inl rfl))) (fun _ _ _ _ _ => pifs_nil) (fun _ _ _ _ _ => (pe_tup (pa_cons pe_str (pa_cons (pv 1) (pa_cons (pv 0) pa_nil))))))))
  (pss_one (ps_expr (pe_bm PySem.F.plainAttrs_list PySem.F.slot_list_extend PySem.F.type_list_extend mt_extend (pv 3) (pa_cons (pe_comp (Nc := ["end", "net", "beyond"]) (nt := 1) (is := [0, 2]) rfl (comp_okF (by rfl) (by decide +kernel) rfl (by decide +kernel) (by intro p hp; simp only [List.mem_cons, List.not_mem_nil, or_false] at hp; first | (rcases hp with rfl | rfl | rfl | rfl <;> rfl) | (rcases hp with rfl | rfl | rfl <;> rfl) | (rcases hp with rfl | rfl <;> rfl) | (subst hp; rfl)) (by rfl) rfl (fun j i h => match j, h with | 0, h => by cases h; exact ⟨_, rfl, rfl, .inl rfl, .inl rfl⟩ | 1, h => by cases h; exact ⟨_, rfl, rfl, .inl rfl, .inl rfl⟩ | _ + 2, h => by simp at h))  (pi_listK K (pv 5)) (fun _ _ _ _ _ => (pg_name (i := 0) (show List.Nodup (["end", "net", "beyond"] : List Str) by decide +kernel) rfl (Or.inl rfl))) (fun _ _ _ _ _ => (pifs_one (pt_val (pe_c C_is_end (hr.mono (by decide)) lets_xc (pa_cons (pv 1) (pa_cons (pv 2) (pa_cons (pv 0) pa_nil))))))) (fun _ _ _ _ _ => (pv 0))) pa_nil))))))
  (pss_one (ps_ret (pv 3))))))), ?_⟩
    have zl : sizeLine = 16777216 := sizeLine_eq
    have z1 : 1 ≤ sizeLine := by omega
    have z2 : 2 ≤ sizeLine := by omega
    have z3 : 3 ≤ sizeLine := by omega
    refine ⟨_, rfl, _, rfl, nv, fv, rs, Fl, rfl, N, hF, fun fl H1 s1 => ?_, fun nf H1 s1 => ke nf H1 s1⟩
    refine ⟨_, rfl, _, rfl, nv, fv, rs, Fl, rfl, N.same s1, hF.same s1, fl, hz, fun am ab mk bk H2 A2 => ?_⟩
    have s12 := A2.two.same
    have B2 := A2.bey
    have s02 := s1.trans s12
    obtain ⟨l, xs, rfl, hq, hl⟩ := has_lst hF
    have ll : xs.length = Fl.length := by rw [hl.length, List.length_map]
    refine ⟨by show 0 ≤ sizeLine; decide, fun ol hol => ?_⟩
    have L0 := newL_mk (K := K) (H := H2) (L2.Same.refl _) hol .nil
    refine ⟨_, rfl, l, rfl, ⟨_, (s02.trans L0.same).seq hq⟩, for_list (K := K) (a := l) (xs := xs) (fun i σ H' => ∃ c4 c5 ys, σ = [some nv, some (.ref l), some (.ref ab), some (.ref ol), c4, c5] ∧ NewL K H2 H' (.ref ol) ol ys (((Fl.take i).flatMap fun t => (asks t).filter (enB rs Fl)).map eD) ∧ ys.length ≤ 4 * i)
      ⟨_, _, [], rfl, L0, Nat.zero_le _⟩ (fun i σ H' _ ⟨_, _, _, _, h, _⟩ => (s02.trans h.same).seq hq) ?_ ?_⟩
    · rintro i tv σ H3 htv ⟨c4, c5, ys, rfl, L3, ln⟩
      have hi : i < Fl.length := by rw [← ll]; exact (List.getElem?_eq_some_iff.mp htv).1
      obtain ⟨d, hd, hxd⟩ := hl.get htv
      rw [List.getElem?_map] at hd
      cases et : Fl[i]? with
      | none => rw [et] at hd; cases hd
      | some t =>
        rw [et] at hd
        cases hd
        have tv3 := hxd.same (s02.trans L3.same)
        refine ⟨_, rfl, z2, fun p1 h1 => ⟨z1, fun p2 h2 => ?_⟩⟩
        have q1 := same_upd (o := .tup [V.str "whole", tv]) h1
        have q2 := same_upd (o := .lst [V.ref p1]) h2
        refine ⟨3, rfl, by decide, by decide, comp_range (lo := 0) (n := 3) (fun j zs σc H' => L2.Same (upd (upd H3 p1 (.tup [V.str "whole", tv])) p2 (.lst [V.ref p1])) H' ∧ (∃ c0, σc = [c0, some tv]) ∧ HasL K H' zs ((([En.dr (t, 0), .dr (t, 1), .dr (t, 2)]).take j).map eD)) ⟨L2.Same.refl _, ⟨none, rfl⟩, .nil⟩
          (by omega) (fun j zs σ H' h => by rw [h.2.2.length, List.length_map, List.length_take]; omega) ?_ ?_⟩
        · rintro j zs σc H4 hj ⟨s4, ⟨c0, rfl⟩, hzs⟩
          refine ⟨_, rfl, _, rfl, z3, fun p hp => ?_⟩
          have sp := same_upd (o := .tup [V.str "door", tv, .int (0 + (j : Int))]) hp
          refine ⟨s4.trans sp, ⟨_, rfl⟩, ?_⟩
          have e : ([En.dr (t, 0), .dr (t, 1), .dr (t, 2)]).take (j + 1) = ([En.dr (t, 0), .dr (t, 1), .dr (t, 2)]).take j ++ [.dr (t, 0 + (j : Int))] := by
            have : j = 0 ∨ j = 1 ∨ j = 2 := by omega
            rcases this with rfl | rfl | rfl <;> rfl
          rw [e, List.map_append]
          exact (hzs.same sp).append (.cons (.tup (SqT.of upd_same) (.cons (.str _) (.cons ((tv3.same (q1.trans q2)).same (s4.trans sp)) (.cons (.int _) .nil)))) .nil)
        · rintro zs σc H4 ⟨s4, ⟨c0, rfl⟩, hzs⟩ p3 h3
          have q3 := same_upd (o := .lst zs) h3
          have lz : zs.length = 3 := by rw [hzs.length]; rfl
          refine ⟨p2, p3, [V.ref p1], zs, rfl, rfl, q3 _ _ (s4 _ _ upd_same), upd_same, by show 1 + zs.length ≤ sizeLine; omega, fun p4 h4 => ?_⟩
          have q4 := same_upd (o := .lst ([V.ref p1] ++ zs)) h4
          have s35 := q1.trans (q2.trans (s4.trans (q3.trans q4)))
          have hask : HasL K (upd (upd H4 p3 (.lst zs)) p4 (.lst ([V.ref p1] ++ zs))) ([V.ref p1] ++ zs) ((asks t).map eD) := by
            refine HasL.append (.cons ?_ .nil) (hzs.same (q3.trans q4))
            have h0 : Has K (upd H3 p1 (.tup [V.str "whole", tv])) (.ref p1) (eD (.wh t)) := .tup (SqT.of upd_same) (.cons (.str _) (.cons (tv3.same q1) .nil))
            exact h0.same (q2.trans (s4.trans (q3.trans q4)))
          have at4 : upd (upd H4 p3 (.lst zs)) p4 (.lst ([V.ref p1] ++ zs)) p4 = some (.lst ([V.ref p1] ++ zs)) := upd_same
          generalize upd (upd H4 p3 (.lst zs)) p4 (.lst ([V.ref p1] ++ zs)) = H5 at s35 hask at4
          have L5 := L3.later s35
          have la : ([V.ref p1] ++ zs).length = 4 := by rw [List.length_append, lz]; rfl
          refine ⟨_, rfl, .inl ⟨rfl, _, SqL.of L5.at_⟩, ?_⟩
          refine ⟨_, rfl, p4, rfl, ⟨_, SqL.of at4⟩, comp_list (K := K) (a := p4) (xs := [V.ref p1] ++ zs) (fun j us σc H' => L2.Same H5 H' ∧ (∃ c0, σc = [c0, some nv, some (.ref ab)]) ∧ HasL K H' us ((((asks t).take j).filter (enB rs Fl)).map eD)) ⟨L2.Same.refl _, ⟨none, rfl⟩, .nil⟩
            (by omega) (fun j us σ H' _ h => SqL.of (h.1 _ _ at4)) (fun j us σ H' h => ?_) ?_ ?_⟩
          · rw [h.2.2.length, List.length_map]
            refine Nat.le_trans (List.length_filter_le _ _) ?_
            rw [List.length_take]; omega
          · rintro j v us σc H6 hv ⟨s6, ⟨c0, rfl⟩, hus⟩
            obtain ⟨d, hd, hvd⟩ := hask.get hv
            rw [List.getElem?_map] at hd
            cases ee : (asks t)[j]? with
            | none => rw [ee] at hd; cases hd
            | some en =>
              rw [ee] at hd
              cases hd
              have s26 := L5.same.trans s6
              refine ⟨_, rfl, _, rfl, _, rfl, nv, v, ab, bk, rs, Fl, en, rfl, N.same (s02.trans s26), B2.same s26, fl, hvd.same s6, fun H7 s7 => ⟨_, rfl, ?_⟩⟩
              rw [filter_take_succ _ ee]
              refine ite2 (fun h => ?_) (fun h => ?_)
              · refine ⟨_, rfl, s6.trans s7, ⟨_, rfl⟩, ?_⟩
                rw [if_pos h, List.map_append]
                exact (hus.same s7).append (.cons (hvd.same (s6.trans s7)) .nil)
              · refine ⟨s6.trans s7, ⟨_, rfl⟩, ?_⟩
                rw [if_neg h, List.append_nil]
                exact hus.same s7
          · rintro us σc H6 ⟨s6, ⟨c0, rfl⟩, hus⟩ p7 h7
            have q7 := same_upd (o := .lst us) h7
            rw [la] at hus
            have L7 := L5.later (s6.trans q7)
            have lu : us.length ≤ 4 := by
              rw [hus.length, List.length_map]
              exact Nat.le_trans (List.length_filter_le _ _) (Nat.le_refl 4)
            refine ⟨ol, p7, ys, us, rfl, rfl, L7.at_, upd_same, by omega, ?_⟩
            refine ⟨_, _, ys ++ us, rfl, ?_, by rw [List.length_append]; omega⟩
            have e : (Fl.take (i + 1)).flatMap (fun t => (asks t).filter (enB rs Fl)) = (Fl.take i).flatMap (fun t => (asks t).filter (enB rs Fl)) ++ (asks t).filter (enB rs Fl) := by
              rw [List.take_add_one, et, List.flatMap_append]
              simp
            rw [e, List.map_append]
            exact L7.ext (HasL.tups (SameN.less L7.at_) (onlyTs_map onlyT_eD _) (hus.same q7))
    · rintro σ H3 ⟨c4, c5, ys, rfl, L3, ln⟩
      rw [ll, List.take_length] at L3
      exact ⟨_, rfl, q fl _ _ _ _ (L3.early s02)⟩
end
end K09
set_option Elab.async false
set_option linter.all false
set_option maxRecDepth 100000
set_option maxHeartbeats 4000000
namespace K09
open PySem PySem.Spec PyProof.Rows L2
seal L2.PE L2.PT L2.PS L2.PSs L2.PA L2.PI L2.PG L2.PGs L2.PW L2.PO L2.PIfs L2.PH
def spFollow (K : PySem.W.Frag) (C NF NE : Addr) : Sp := fun vs H Q E => ∃ (nv fv ev : V) (rs : List (List Int)) (F : List Tr) (e : En), vs = [nv, fv, ev] ∧ NetAt C H nv rs ∧ Has K H fv (.lst (F.map tD)) ∧ F.length ≤ 1000 ∧ Has K H ev (eD e) ∧
  (flP (sz rs) F → enB rs F e = true → ∀ q l xs pv H', H' q = some (.tup [.ref l, pv]) → NewL K H H' (.ref l) l xs ((pthP rs F e).map tD) → Has K H' pv (eD (ptnP rs F e)) → Q (.ref q) H') ∧
  (flP (sz rs) F → enB rs F e = false → ∀ H', L2.Same H H' → E (.ref NE) none H') ∧ (¬ flP (sz rs) F → ∀ H', L2.Same H H' → E (.ref NF) none H')
section
variable {P : Program} {w : World} {K : PySem.W.Frag} {mg : Str → Option Value} {base : Heap} {ad : Adr}
theorem ok_follow {f : Addr} {fd : FuncData} (F : Fun K "follow" "follow" s_follow f fd) (T : Txt K mg ad) (C_check_floor : Callee P w K mg base "check_floor" 5 ["net", "floor"] (spChkFl K ad.Net ad.NoFloor)) (C_across : Callee P w K mg base "across" 4 ["net", "floor"] (spAcross P w K ad.Net))
    (C_is_end : Callee P w K mg base "is_end" 5 ["net", "beyond", "end"] (spIsEnd P w K ad.Net)) (C_is_whole : Callee P w K mg base "is_whole" 4 ["net", "triangle"] (spWhl K ad.Net)) (C_doors : Callee P w K mg base "doors" 4 ["net", "triangle"] (spDoors K ad.Net)) : FnOk P w K mg base (CXR P w) 6 f fd ["net", "floor", "end"] (spFollow K ad.Net ad.NoFloor ad.NoEnd) := by
  refine F.okX sc_follow (fun vs H Q E h => ?_) (fun cdv A outer s H vs Q E hr h hx => ?_)
  · obtain ⟨nv, fv, ev, rs, Fl, e, rfl, _⟩ := h
    rfl
  · obtain ⟨nv, fv, ev, rs, Fl, e, rfl, N, hF, hz, hE, q, ke, kf⟩ := h
    have hu : _ := hr.units
    refine ⟨_, (pss_cons (ps_expr (pe_c C_check_floor (hr.mono (by decide)) hx.toLetsP (pa_cons (pv 0) (pa_cons (pv 1) pa_nil))))
  (pss_cons (ps_set (i := 3) sc_follow.nd rfl (Or.inl rfl) (pe_c C_across (hr.mono (by decide)) hx.toLetsP (pa_cons (pv 0) (pa_cons (pv 1) pa_nil))))
  (pss_cons (ps_if (pt_not (pt_val (pe_c C_is_end (hr.mono (by decide)) hx.toLetsP (pa_cons (pv 0) (pa_cons (pv 3) (pa_cons (pv 2) pa_nil)))))) (pss_one (ps_raise hx rfl T.x_NoEnd rfl (pa_cons pe_str pa_nil))) pss_nil)
  (pss_cons (ps_set (i := 4) sc_follow.nd rfl (Or.inl rfl) (pe_ix (r := rIxT K) ix_tup (pv 2) pe_int (fun _ _ => rfl)))
  (pss_cons (ps_set (i := 5) sc_follow.nd rfl (Or.inr rfl) (pe_ifExp (pt_cmpR op_eq (pe_ix (r := rIxT K) ix_tup (pv 2) pe_int (fun _ _ => rfl)) pe_str (nomark _)) (pe_ix (r := rIxT K) ix_tup (pv 2) pe_int (fun _ _ => rfl)) pe_non))
  (pss_cons (ps_set (i := 6) sc_follow.nd rfl (Or.inl rfl) (pe_lst (pa_cons (pv 4) pa_nil)))
  (pss_cons (ps_while hx.own (PW.pt (pw_or (pt_cmpR op_isN (pv 5) pe_non (nomark _)) (pw_or1 (pt_not (pt_val (pe_c C_is_whole (hr.mono (by decide)) hx.toLetsP (pa_cons (pv 0) (pa_cons (pv 4) pa_nil)))))))) (pss_cons (ps_set (i := 7) sc_follow.nd rfl (Or.inl rfl) (pe_ix (r := rIxL K) ix_list (pe_comp (Nc := ["way", "entered"]) (nt := 1) (is := [5]) rfl (comp_okF (by rfl) (by decide +kernel) rfl (by decide +kernel) (by intro p hp; simp only [List.mem_cons, List.not_mem_nil, or_false] at hp; first | (rcases hp with rfl | rfl | rfl | rfl <;> rfl) | (rcases hp with rfl | rfl | rfl <;> rfl) | (rcases hp with rfl | rfl <;> rfl) | (subst hp; rfl)) (by rfl) rfl (fun j i h => match j, h with | 0, h => by cases h; exact ⟨_, rfl, rfl, .inl rfl, .inl rfl⟩ | _ + 1, h => by simp at h))  (pi_listK K (pe_c C_doors (hr.mono (by decide)) hx.toLetsP (pa_cons (pv 0) (pa_cons (pv 4) pa_nil)))) (fun _ _ _ _ _ => (pg_name (i := 0) (show List.Nodup (["way", "entered"] : List Str) by decide +kernel) rfl (Or.inl rfl))) (fun _ _ _ _ _ => (pifs_one (pt_cmpR op_ne (pv 0) (pv 1) (nomark _)))) (fun _ _ _ _ _ => (pv 0))) pe_int (fun _ _ => rfl)))
  (pss_cons (ps_set (i := 8) sc_follow.nd rfl (Or.inl rfl) (pe_ix (ix_d2 P w K hu) (pv 3) (pe_tup (pa_cons (pv 4) (pa_cons (pv 7) pa_nil))) (fun _ _ => rfl)))
  (pss_cons (ps_if (pt_cmpR op_isN (pv 8) pe_non (nomark _)) (pss_one (ps_ret (pe_tup (pa_cons (pv 6) (pa_cons (pe_tup (pa_cons pe_str (pa_cons (pv 4) (pa_cons (pv 7) pa_nil)))) pa_nil))))) pss_nil)
  (pss_cons (ps_set (i := 4) sc_follow.nd rfl (Or.inl rfl) (pe_ix (r := rIxT K) ix_tup (pv 8) pe_int (fun _ _ => rfl)))
  (pss_cons (ps_set (i := 5) sc_follow.nd rfl (Or.inr rfl) (pe_ix (r := rIxT K) ix_tup (pv 8) pe_int (fun _ _ => rfl)))
  (pss_one (ps_expr (pe_bm PySem.F.plainAttrs_list PySem.F.slot_list_append PySem.F.type_list_append mt_append (pv 6) (pa_cons (pv 4) pa_nil))))))))))
  (pss_one (ps_ret (pe_tup (pa_cons (pv 6) (pa_cons (pe_tup (pa_cons pe_str (pa_cons (pv 4) pa_nil))) pa_nil)))))))))))), ?_⟩
    have zl : sizeLine = 16777216 := sizeLine_eq
    have z1 : 1 ≤ sizeLine := by omega
    have z2 : 2 ≤ sizeLine := by omega
    have z3 : 3 ≤ sizeLine := by omega
    refine ⟨_, rfl, _, rfl, nv, fv, rs, Fl, rfl, N, hF, fun fl H1 s1 => ?_, fun nf H1 s1 => kf nf H1 s1⟩
    have g : Good rs := by obtain ⟨_, _, _, _, _, _, g⟩ := N; exact g
    refine ⟨_, rfl, _, rfl, nv, fv, rs, Fl, rfl, N.same s1, hF.same s1, fl, hz, fun am ab mk bk H2 A2 => ?_⟩
    have s12 := A2.two.same
    have B2 := A2.bey
    have s02 := s1.trans s12
    refine ⟨_, rfl, _, rfl, _, rfl, nv, ev, ab, bk, rs, Fl, e, rfl, N.same s02, B2, fl, hE.same s02, fun H3 s3 => ⟨_, rfl, ?_⟩⟩
    cases he : enB rs Fl e with
    | false =>
      refine ite2 (fun _ => ?_) (fun h => absurd rfl h)
      exact ⟨z1, ke fl he _ (s02.trans s3)⟩
    | true =>
      refine ite2 (fun h => by cases h) (fun _ => ?_)
      have B3 := B2.same s3
      have s03 := s02.trans s3
      obtain ⟨st1, st2⟩ := st_ok he
      obtain ⟨gE, nd, sub, _⟩ := gonE_ok g fl he
      have lp : (pthP rs Fl e).length ≤ 1000 := Nat.le_trans (List.Nodup.length_le_of_subset nd (l₂ := Fl) (fun u hu => sub u hu)) hz
      dsimp only [tNext]
      refine seq_by3 (fun σ H' => ∃ tv cv pl, σ = [some nv, some fv, some ev, some (.ref ab), some tv, some cv, some (.ref pl), none, none] ∧ NewL K H3 H' (.ref pl) pl [tv] [tD (st e).1] ∧ Has K H3 tv (tD (st e).1) ∧ (((st e).2 = -1 ∧ cv = .non) ∨ ((st e).2 ∈ ([0, 1, 2] : List Int) ∧ cv = .int (st e).2))) ?_ (fun nx hnx => ?_)
      rotate_left
      · cases e with
        | wh t =>
          obtain ⟨eq, exs, rfl, hq, hl⟩ := has_tup (hE.same s03)
          obtain ⟨tv, rfl, hT⟩ : ∃ tv, exs = [V.str "whole", tv] ∧ Has K H3 tv (tD t) := by
            cases hl with
            | cons a b => cases b with
              | cons c d => cases d; cases a; exact ⟨_, rfl, c⟩
          refine ⟨_, rfl, eq, _, 1, _, rfl, rfl, hq, rfl, ?_⟩
          refine ⟨_, rfl, eq, _, 0, _, rfl, rfl, hq, rfl, rfl, _, rfl, ?_⟩
          refine ite2 (fun h => ?_) (fun _ => ?_)
          · have : V.str "whole" = V.str "door" := of_decide_eq_true h
            injection this with this
            exact absurd this.symm str_wd
          refine ⟨_, rfl, z1, fun pl hpl => ?_⟩
          exact hnx _ _ ⟨tv, .non, pl, rfl, newL_mk (L2.Same.refl _) hpl (.cons hT .nil), hT, .inl ⟨rfl, rfl⟩⟩
        | dr sd =>
          obtain ⟨eq, exs, rfl, hq, hl⟩ := has_tup (hE.same s03)
          obtain ⟨tv, rfl, hT⟩ : ∃ tv, exs = [V.str "door", tv, .int sd.2] ∧ Has K H3 tv (tD sd.1) := by
            cases hl with
            | cons a b => cases b with
              | cons c d => cases d with
                | cons e g => cases g; cases a; cases e; exact ⟨_, rfl, c⟩
          refine ⟨_, rfl, eq, _, 1, _, rfl, rfl, hq, rfl, ?_⟩
          refine ⟨_, rfl, eq, _, 0, _, rfl, rfl, hq, rfl, rfl, _, rfl, ?_⟩
          refine ite2 (fun _ => ?_) (fun h => absurd (by simp) h)
          refine ⟨_, rfl, eq, _, 2, _, rfl, rfl, hq, rfl, _, rfl, z1, fun pl hpl => ?_⟩
          exact hnx _ _ ⟨tv, .int sd.2, pl, rfl, newL_mk (L2.Same.refl _) hpl (.cons hT .nil), hT, .inr ⟨by have := (mem_sdsL.mp (mem_brd.mp (enB_dr.mp he).1).1).2; show sd.2 ∈ ([0, 1, 2] : List Int); simpa using this, rfl⟩⟩
      rintro σ H4 ⟨tv, cv, pl, rfl, L4, hT4, hc4⟩
      refine ⟨fun n σ H' => ∃ c7 c8 tv cv t c p ys qs, σ = [some nv, some fv, some ev, some (.ref ab), some tv, some cv, some (.ref pl), c7, c8] ∧ NewL K H3 H' (.ref pl) pl ys ((p ++ [t]).map tD) ∧ Has K H3 tv (tD t) ∧ t ∈ Fl ∧ okst rs (sg rs e) t c ∧ ((c = -1 ∧ cv = .non) ∨ (c ∈ ([0, 1, 2] : List Int) ∧ cv = .int c)) ∧ gn rs Fl n t c = (qs, some (ptnP rs Fl e)) ∧ pthP rs Fl e = p ++ qs,
        ⟨Fl.length + 1, none, none, tv, cv, (st e).1, (st e).2, [], [tv], _, rfl, L4, hT4, st2, st1, hc4, gE, rfl⟩, ?_⟩
      rintro n σ H5 ⟨c7, c8, tv, cv, t, c, p, ys, qs, rfl, L5, hT, ht, ok, hcv, hg, hp⟩
      have it := fl.1 t ht
      have N5 := (N.same s03).same L5.same
      have B5 := B3.same L5.same
      refine test_by (decide (cv = .non) || !decide (snT rs t ≠ 0)) (fun H1 => L2.Same H5 H1) (fun Q' hQ => ?_) (fun H6 s6 => ?_)
      · refine ⟨_, rfl, rfl, _, rfl, ?_⟩
        refine ite2 (fun h => ?_) (fun h => ?_)
        · have := hQ _ (L2.Same.refl _)
          rw [h, Bool.true_or] at this
          exact this
        · refine ⟨_, rfl, _, rfl, nv, tv, rs, t, rfl, N5, hT.same L5.same, it, fun H6 s6 => ⟨_, rfl, ?_⟩⟩
          have := hQ _ s6
          rw [Bool.eq_false_iff.mpr h, Bool.false_or] at this
          exact this
      have L6 := L5.later s6
      have N6 := N5.same s6
      have B6 := B5.same s6
      have hT6 := hT.same L6.same
      have lq : (p ++ qs).length ≤ 1000 := by rw [← hp]; exact lp
      rw [List.length_append] at lq
      have ly : ys.length = p.length + 1 := by rw [L5.has.length, List.length_map, List.length_append]; rfl
      cases n with
      | zero => cases hg
      | succ n =>
      rcases ok.cases g it with ⟨el, hc, sw, _⟩ | ⟨k, hk, el, tk, bk2⟩
      · rw [gn_nil el] at hg
        injection hg with e1 e2
        injection e2 with e2
        subst e1
        have cv' : cv ≠ .non := by
          rcases hcv with ⟨z, _⟩ | ⟨_, z⟩
          · rw [z] at hc; simp at hc
          · rw [z]; intro y; cases y
        have bf : (decide (cv = V.non) || !decide (snT rs t ≠ 0)) = false := by
          have d0 := ok.1
          rw [decide_eq_false cv', decide_eq_true (show snT rs t ≠ 0 by omega)]
          rfl
        rw [bf]
        refine ite2 (fun h => by cases h) (fun _ => ?_)
        refine ⟨_, rfl, _, rfl, z2, fun p1 h1 => ⟨z2, fun p2 h2 => ?_⟩⟩
        have q1 := same_upd (o := .tup [V.str "whole", tv]) h1
        have q2 := same_upd (o := .tup [V.ref pl, .ref p1]) h2
        refine q fl he p2 pl ys (.ref p1) _ upd_same ?_ ?_
        · rw [hp]
          exact (L6.later (q1.trans q2)).early s03
        · rw [← e2]
          exact .tup (SqT.of (q2 _ _ upd_same)) (.cons (.str _) (.cons (hT6.same (q1.trans q2)) .nil))
      have bt : (decide (cv = V.non) || !decide (snT rs t ≠ 0)) = true := by
        rcases bk2 with ⟨z, _⟩ | ⟨_, z, _⟩
        · rcases hcv with ⟨_, y⟩ | ⟨y, _⟩
          · rw [y]; rfl
          · rw [z] at y; simp at y
        · rw [z]; simp
      rw [bt]
      refine ite2 (fun _ => ?_) (fun h => absurd rfl h)
      refine ⟨fun σ H' => ∃ c7 c8 tv cv t c p ys qs, σ = [some nv, some fv, some ev, some (.ref ab), some tv, some cv, some (.ref pl), c7, c8] ∧ NewL K H3 H' (.ref pl) pl ys ((p ++ [t]).map tD) ∧ Has K H3 tv (tD t) ∧ t ∈ Fl ∧ okst rs (sg rs e) t c ∧ ((c = -1 ∧ cv = .non) ∨ (c ∈ ([0, 1, 2] : List Int) ∧ cv = .int c)) ∧ gn rs Fl n t c = (qs, some (ptnP rs Fl e)) ∧ pthP rs Fl e = p ++ qs, fun σ' H' h => ⟨n, Nat.lt_succ_self n, h⟩, ?_⟩
      refine ⟨_, rfl, _, rfl, nv, tv, rs, t, rfl, N6, hT6, it, fun l H7 n7 s7 h7 => ?_⟩
      have dl : (drs rs t).length ≤ 3 := List.length_filter_le _ _
      refine ⟨l, rfl, ⟨_, SqL.of h7⟩, comp_list (K := K) (a := l) (xs := (drs rs t).map V.int) (fun i zs σc H' => H' = H7 ∧ (∃ c0, σc = [c0, some cv]) ∧ zs = (((drs rs t).take i).filter fun k => decide (k ≠ c)).map V.int) ⟨rfl, ⟨none, rfl⟩, rfl⟩
        (by rw [List.length_map]; omega) (fun i zs σ H' _ h => by rw [h.1]; exact SqL.of h7) (fun i zs σ H' h => ?_) ?_ ?_⟩
      · rw [h.2.2, List.length_map]
        refine Nat.le_trans (List.length_filter_le _ _) ?_
        rw [List.length_take]; omega
      · rintro i v zs σc H8 hv ⟨rfl, ⟨c0, rfl⟩, rfl⟩
        rw [List.getElem?_map] at hv
        cases ek : (drs rs t)[i]? with
        | none => rw [ek] at hv; cases hv
        | some j =>
          rw [ek] at hv
          cases hv
          rw [filter_take_succ _ ek]
          have jm : j ∈ ([0, 1, 2] : List Int) := (List.mem_filter.mp (List.mem_of_getElem? ek)).1
          have sc : decide (V.int j = cv) = decide (j = c) := by
            rcases hcv with ⟨z, y⟩ | ⟨_, y⟩
            · rw [y, z]
              have : j ≠ -1 := by intro z; rw [z] at jm; simp at jm
              simp [this]
            · rw [y]; simp
          refine ⟨_, rfl, _, rfl, by rcases hcv with ⟨_, y⟩ | ⟨_, y⟩ <;> (rw [y]; rfl), _, rfl, ?_⟩
          rw [sc]
          refine ite2 (fun h => ?_) (fun h => ?_)
          · refine ⟨_, rfl, rfl, ⟨_, rfl⟩, ?_⟩
            rw [if_pos (by simpa using h)]
            simp
          · refine ⟨rfl, ⟨_, rfl⟩, ?_⟩
            rw [if_neg (by simpa using h)]
            simp
      · rintro zs σc H8 ⟨rfl, ⟨c0, rfl⟩, rfl⟩ p8 h8
        rw [List.length_map, List.take_length, lft_drs, el]
        have q8 := same_upd (o := .lst [V.int k]) h8
        refine ⟨p8, _, 0, V.int k, rfl, rfl, SqL.of upd_same, rfl, ?_⟩
        have s78 := s7.trans q8
        have sk := sd_in ht hk
        have oks := okS_of fl.kinds sk
        obtain ⟨v, lv, v1, v2⟩ := B3.vals (t, k) sk
        refine ⟨_, rfl, _, rfl, _, rfl, z2, fun p9 h9 => ?_⟩
        have q9 := same_upd (o := .tup [tv, .int k]) h9
        have s69 := s78.trans q9
        have hk9 : Has K (upd (upd H8 p8 (.lst [V.int k])) p9 (.tup [tv, .int k])) (.ref p9) (k2D (bK (t, k))) := .tup (SqT.of upd_same) (.cons (hT6.same s69) (.cons (.int _) .nil))
        refine ⟨ab, p9, bk, bK (t, k), v, rfl, rfl, (B6.same s69).at_, hk9, lv, ?_⟩
        refine ⟨_, rfl, rfl, _, rfl, ?_⟩
        by_cases i : opp (t, k) ∈ sdsL Fl
        · obtain ⟨oq, op, rfl, hoq, hop⟩ := has_sd (v1 i)
          refine ite2 (fun h => absurd h (by simp)) (fun _ => ?_)
          obtain ⟨ok2, m1, m3, _⟩ := next_ok fl ok.1 ht hk tk i
          rw [gn_in el i] at hg
          injection hg with e1 e2
          have s39 := L6.same.trans s69
          have L9 := L6.later s69
          refine ⟨_, rfl, oq, _, 0, V.ref op, rfl, rfl, L2.Same.sqT s39 hoq, rfl, ?_⟩
          refine ⟨_, rfl, oq, _, 1, V.int (opp (t, k)).2, rfl, rfl, L2.Same.sqT s39 hoq, rfl, ?_⟩
          refine ⟨_, rfl, .inl ⟨rfl, _, SqL.of L9.at_⟩, _, rfl, pl, ys, _, rfl, rfl, L9.at_, by omega, ?_⟩
          refine ⟨_, _, .ref op, .int (opp (t, k)).2, (opp (t, k)).1, (opp (t, k)).2, p ++ [t], ys ++ [.ref op], (gn rs Fl n (opp (t, k)).1 (opp (t, k)).2).1, rfl, ?_, hop, m1, ok2, .inr ⟨m3, rfl⟩, Prod.ext rfl e2, ?_⟩
          · rw [List.map_append]
            exact L9.snoc (Has.tups (SameN.less L9.at_) (onlyT_tD _) (hop.same s39))
          · rw [hp, ← e1, List.append_assoc]
            rfl
        · obtain rfl := v2 i
          refine ite2 (fun _ => ?_) (fun h => absurd (by simp) h)
          rw [gn_out el i] at hg
          injection hg with e1 e2
          injection e2 with e2
          subst e1
          refine ⟨_, rfl, _, rfl, _, rfl, z3, fun p1 h1 => ⟨z2, fun p2 h2 => ?_⟩⟩
          have q1 := same_upd (o := .tup [V.str "door", tv, .int k]) h1
          have q2 := same_upd (o := .tup [V.ref pl, .ref p1]) h2
          refine q fl he p2 pl ys (.ref p1) _ upd_same ?_ ?_
          · rw [hp]
            exact (L6.later (s69.trans (q1.trans q2))).early s03
          · rw [← e2]
            exact .tup (SqT.of (q2 _ _ upd_same)) (.cons (.str _) (.cons (hT6.same (s69.trans (q1.trans q2))) (.cons (.int _) .nil)))
end
end K09
set_option Elab.async false
set_option linter.all false
set_option maxRecDepth 100000
set_option maxHeartbeats 4000000
namespace K09
open PySem PySem.Spec PyProof.Rows L2
seal L2.PE L2.PT L2.PS L2.PSs L2.PA L2.PI L2.PG L2.PGs L2.PW L2.PO L2.PIfs L2.PH
def spPart (K : PySem.W.Frag) (C NF NE : Addr) : Sp := fun vs H Q E => ∃ (nv fv ev : V) (rs : List (List Int)) (F : List Tr) (e : En), vs = [nv, fv, ev] ∧ NetAt C H nv rs ∧ Has K H fv (.lst (F.map tD)) ∧ F.length ≤ 1000 ∧ Has K H ev (eD e) ∧
  (flP (sz rs) F → enB rs F e = true → ∀ pv H', L2.Same H H' → Has K H' pv (eD (ptnP rs F e)) → Q pv H') ∧
  (flP (sz rs) F → enB rs F e = false → ∀ H', L2.Same H H' → E (.ref NE) none H') ∧ (¬ flP (sz rs) F → ∀ H', L2.Same H H' → E (.ref NF) none H')
section
variable {P : Program} {w : World} {K : PySem.W.Frag} {mg : Str → Option Value} {base : Heap} {ad : Adr}
theorem ok_partner {f : Addr} {fd : FuncData} (F : Fun K "partner" "partner" s_partner f fd) (T : Txt K mg ad) (C_follow : Callee P w K mg base "follow" 6 ["net", "floor", "end"] (spFollow K ad.Net ad.NoFloor ad.NoEnd)) : FnOk P w K mg base (CXR P w) 7 f fd ["net", "floor", "end"] (spPart K ad.Net ad.NoFloor ad.NoEnd) := by
  refine F.okX sc_partner (fun vs H Q E h => ?_) (fun cdv A outer s H vs Q E hr h hx => ?_)
  · obtain ⟨nv, fv, ev, rs, Fl, e, rfl, _⟩ := h
    rfl
  · obtain ⟨nv, fv, ev, rs, Fl, e, rfl, N, hF, hz, hE, q, ke, kf⟩ := h
    refine ⟨_, (pss_one (ps_ret (pe_ix (r := rIxT K) ix_tup (pe_c C_follow (hr.mono (by decide)) hx.toLetsP (pa_cons (pv 0) (pa_cons (pv 1) (pa_cons (pv 2) pa_nil)))) pe_int (fun _ _ => rfl)))), ?_⟩
    exact ⟨_, rfl, _, rfl, _, rfl, nv, fv, ev, rs, Fl, e, rfl, N, hF, hz, hE, fun fl he p l xs pv H' hp L hv => ⟨p, _, 1, pv, rfl, rfl, SqT.of hp, rfl, q fl he pv H' L.same hv⟩, ke, kf⟩
end
end K09
set_option Elab.async false
set_option linter.all false
set_option maxRecDepth 100000
set_option maxHeartbeats 4000000
namespace K09
open PySem PySem.Spec PyProof.Rows L2
seal L2.PE L2.PT L2.PS L2.PSs L2.PA L2.PI L2.PG L2.PGs L2.PW L2.PO L2.PIfs L2.PH
def spWalk (K : PySem.W.Frag) (C NF NE : Addr) : Sp := fun vs H Q E => ∃ (nv fv ev : V) (rs : List (List Int)) (F : List Tr) (e : En), vs = [nv, fv, ev] ∧ NetAt C H nv rs ∧ Has K H fv (.lst (F.map tD)) ∧ F.length ≤ 1000 ∧ Has K H ev (eD e) ∧
  (flP (sz rs) F → enB rs F e = true → ∀ l xs H', NewL K H H' (.ref l) l xs ((pthP rs F e).map tD) → Q (.ref l) H') ∧
  (flP (sz rs) F → enB rs F e = false → ∀ H', L2.Same H H' → E (.ref NE) none H') ∧ (¬ flP (sz rs) F → ∀ H', L2.Same H H' → E (.ref NF) none H')
section
variable {P : Program} {w : World} {K : PySem.W.Frag} {mg : Str → Option Value} {base : Heap} {ad : Adr}
theorem ok_walk {f : Addr} {fd : FuncData} (F : Fun K "walk" "walk" s_walk f fd) (T : Txt K mg ad) (C_follow : Callee P w K mg base "follow" 6 ["net", "floor", "end"] (spFollow K ad.Net ad.NoFloor ad.NoEnd)) : FnOk P w K mg base (CXR P w) 7 f fd ["net", "floor", "end"] (spWalk K ad.Net ad.NoFloor ad.NoEnd) := by
  refine F.okX sc_walk (fun vs H Q E h => ?_) (fun cdv A outer s H vs Q E hr h hx => ?_)
  · obtain ⟨nv, fv, ev, rs, Fl, e, rfl, _⟩ := h
    rfl
  · obtain ⟨nv, fv, ev, rs, Fl, e, rfl, N, hF, hz, hE, q, ke, kf⟩ := h
    refine ⟨_, (pss_one (ps_ret (pe_ix (r := rIxT K) ix_tup (pe_c C_follow (hr.mono (by decide)) hx.toLetsP (pa_cons (pv 0) (pa_cons (pv 1) (pa_cons (pv 2) pa_nil)))) pe_int (fun _ _ => rfl)))), ?_⟩
    exact ⟨_, rfl, _, rfl, _, rfl, nv, fv, ev, rs, Fl, e, rfl, N, hF, hz, hE, fun fl he p l xs pv H' hp L hv => ⟨p, _, 0, V.ref l, rfl, rfl, SqT.of hp, rfl, q fl he l xs H' L⟩, ke, kf⟩
end
end K09
set_option Elab.async false
set_option linter.all false
set_option maxRecDepth 100000
set_option maxHeartbeats 4000000
namespace K09
open PySem PySem.Spec PyProof.Rows L2
seal L2.PE L2.PT L2.PS L2.PSs L2.PA L2.PI L2.PG L2.PGs L2.PW L2.PO L2.PIfs L2.PH
def spWorth (K : PySem.W.Frag) : Sp := fun vs H Q _ => ∃ (mv ev : V) (rs : List (List Int)) (F : List Tr) (e : En), vs = [mv, ev] ∧ TGrid H mv rs ∧ Good rs ∧ flP (sz rs) F ∧ Has K H ev (eD e) ∧ enB rs F e = true ∧ ∀ H', L2.Same H H' → Q (.int (sg rs e)) H'
section
variable {P : Program} {w : World} {K : PySem.W.Frag} {mg : Str → Option Value} {base : Heap} {ad : Adr}
theorem ok_worth {f : Addr} {fd : FuncData} (F : Fun K "_law_worth" "_law_worth" s_law_worth f fd) (T : Txt K mg ad) (C_law_sense : Callee P w K mg base "_law_sense" 2 ["marks", "triangle"] (spLSense K)) (C_law_turn : Callee P w K mg base "_law_turn" 3 ["marks", "triangle", "k"] (spLTurn K)) : FnOk P w K mg base (CXR P w) 4 f fd ["marks", "end"] (spWorth K) := by
  refine F.okX sc_law_worth (fun vs H Q E h => ?_) (fun cdv A outer s H vs Q E hr h hx => ?_)
  · obtain ⟨mv, ev, rs, Fl, e, rfl, _⟩ := h
    rfl
  · obtain ⟨mv, ev, rs, Fl, e, rfl, G, g, fl, hE, eb, q⟩ := h
    refine ⟨_, (pss_cons (ps_if (pt_cmpR op_eq (pe_ix (r := rIxT K) ix_tup (pv 1) pe_int (fun _ _ => rfl)) pe_str (nomark _)) (pss_one (ps_ret (pe_c C_law_sense (hr.mono (by decide)) hx.toLetsP (pa_cons (pv 0) (pa_cons (pe_ix (r := rIxT K) ix_tup (pv 1) pe_int (fun _ _ => rfl)) pa_nil))))) pss_nil)
  (pss_one (ps_ret (pe_op op_sub pe_int (pe_c C_law_turn (hr.mono (by decide)) hx.toLetsP (pa_cons (pv 0) (pa_cons (pe_ix (r := rIxT K) ix_tup (pv 1) pe_int (fun _ _ => rfl)) (pa_cons (pe_ix (r := rIxT K) ix_tup (pv 1) pe_int (fun _ _ => rfl)) pa_nil)))))))), ?_⟩
    cases e with
    | wh t =>
      obtain ⟨p, tv, rfl, sq, ht⟩ := has_wh hE
      obtain ⟨tm, _⟩ := enB_wh.mp eb
      refine ⟨_, rfl, p, _, 0, _, rfl, rfl, sq, rfl, rfl, _, rfl, ?_⟩
      refine ite2 (fun _ => ?_) (fun h => absurd (by simp) h)
      exact ⟨_, rfl, _, rfl, p, _, 1, _, rfl, rfl, sq, rfl, mv, tv, rs, t.1, t.2.1, t.2.2, rfl, G, g, ht, fl.1 t tm, fun H1 s1 => q H1 s1⟩
    | dr sd =>
      obtain ⟨p, tv, rfl, sq, ht⟩ := has_dr hE
      obtain ⟨bm, _⟩ := enB_dr.mp eb
      obtain ⟨sm, _⟩ := mem_brd.mp bm
      obtain ⟨tm, k3⟩ := mem_sdsL.mp sm
      refine ⟨_, rfl, p, _, 0, _, rfl, rfl, sq, rfl, rfl, _, rfl, ?_⟩
      refine ite2 (fun h => absurd h no_dw) (fun _ => ?_)
      refine ⟨_, rfl, _, rfl, p, _, 1, _, rfl, rfl, sq, rfl, _, rfl, p, _, 2, _, rfl, rfl, sq, rfl, mv, tv, rs, sd.1, sd.2, rfl, G, g, ht, fl.1 sd.1 tm, k3, fun H1 s1 => ⟨_, _, rfl, rfl, ?_⟩⟩
      have e0 : (0 : Int) - tnS rs (sd.1, sd.2) = - tnS rs sd := by show 0 - tnS rs sd = _; omega
      show Q (V.int (0 - tnS rs (sd.1, sd.2))) H1
      rw [e0]
      exact q H1 s1
end
end K09
set_option Elab.async false
set_option linter.all false
set_option maxRecDepth 100000
set_option maxHeartbeats 4000000
namespace K09
open PySem PySem.Spec PyProof.Rows L2
seal L2.PE L2.PT L2.PS L2.PSs L2.PA L2.PI L2.PG L2.PGs L2.PW L2.PO L2.PIfs L2.PH
section
variable {P : Program} {w : World} {K : PySem.W.Frag} {mg : Str → Option Value} {base : Heap} {ad : Adr}
theorem tris64 : ∀ n : Nat, n ≤ 8 → (tris n).length ≤ 64 := by decide +kernel
theorem ok_law {f : Addr} {fd : FuncData} (F : Fun K "law" "law" s_law f fd) (T : Txt K mg ad) (C_law_marks_by : Callee P w K mg base "_law_marks_by" 2 ["script", "most"] (spMarks K)) (C_law_net : Callee P w K mg base "_law_net" 4 ["marks"] (spLNet ad.Net)) (C_law_floor_by : Callee P w K mg base "_law_floor_by" 3 ["script", "size"] (spFloorBy K))
    (C_ends : Callee P w K mg base "ends" 6 ["net", "floor"] (spEnds K ad.Net ad.NoFloor)) (C_law_mix : Callee P w K mg base "_law_mix" 1 ["cell", "k", "many"] spMix) (C_law_cell_at : Callee P w K mg base "_law_cell_at" 1 ["script", "k"] (spCell K))
    (C_partner : Callee P w K mg base "partner" 7 ["net", "floor", "end"] (spPart K ad.Net ad.NoFloor ad.NoEnd)) (C_walk : Callee P w K mg base "walk" 7 ["net", "floor", "end"] (spWalk K ad.Net ad.NoFloor ad.NoEnd))
    (C_law_worth : Callee P w K mg base "_law_worth" 4 ["marks", "end"] (spWorth K)) : FnOk P w K mg base (CXR P w) 8 f fd ["script"] (spLaw K) := by
  refine F.okX sc_law (fun vs H Q E h => ?_) (fun cdv A outer s H vs Q E hr h hx => ?_)
  · obtain ⟨a, ns, rfl, _⟩ := h
    rfl
  · obtain ⟨a, ns, rfl, hS, kq⟩ := h
    have hu : _ := hr.units
    refine ⟨_, (pss_cons (ps_set (i := 1) sc_law.nd rfl (Or.inl rfl) (pe_c C_law_marks_by (hr.mono (by decide)) hx.toLetsP (pa_cons (pv 0) (pa_cons pe_int pa_nil))))
  (pss_cons (ps_set (i := 2) sc_law.nd rfl (Or.inl rfl) (pe_c C_law_net (hr.mono (by decide)) hx.toLetsP (pa_cons (pv 1) pa_nil)))
  (pss_cons (ps_set (i := 3) sc_law.nd rfl (Or.inl rfl) (pe_c C_law_floor_by (hr.mono (by decide)) hx.toLetsP (pa_cons (pv 0) (pa_cons (pe_op op_sub (pe_callB (r := rLenOf K) call_len_seq rfl T.b_len PySem.boot_len (pa_cons (pv 1) pa_nil)) pe_int) pa_nil))))
  (pss_cons (ps_set (i := 4) sc_law.nd rfl (Or.inl rfl) (pe_c C_ends (hr.mono (by decide)) hx.toLetsP (pa_cons (pv 2) (pa_cons (pv 3) pa_nil))))
  (pss_cons (ps_if (PW.pt (pw_or (pt_cmpR op_ne (pe_op op_mod (pe_callB (r := rLenOf K) call_len_seq rfl T.b_len PySem.boot_len (pa_cons (pv 4) pa_nil)) pe_int) pe_int (nomark _)) (pw_or1 (pt_cmpR op_ne (pe_lensetE K rfl hu rfl rfl T.b_len rfl T.b_set (pa_cons (pv 4) pa_nil)) (pe_callB (r := rLenOf K) call_len_seq rfl T.b_len PySem.boot_len (pa_cons (pv 4) pa_nil)) (nomark _))))) (pss_one (ps_ret pe_bl)) pss_nil)
  (pss_cons (ps_for hx.own rfl (pi_range1 rfl T.b_range (pa_cons (pe_callB (call_min2 rfl) rfl T.b_min boot_min (pa_cons pe_int (pa_cons (pe_callB (r := rLenOf K) call_len_seq rfl T.b_len PySem.boot_len (pa_cons (pv 4) pa_nil)) pa_nil))) pa_nil)) (pg_name (i := 5) sc_law.nd rfl (Or.inl rfl)) (pss_cons (ps_set (i := 6) sc_law.nd rfl (Or.inl rfl) (pe_ix (r := rIxL K) ix_list (pv 4) (pe_c C_law_mix (hr.mono (by decide)) hx.toLetsP (pa_cons (pe_c C_law_cell_at (hr.mono (by decide)) hx.toLetsP (pa_cons (pv 0) (pa_cons pe_int pa_nil))) (pa_cons (pv 5) (pa_cons (pe_callB (r := rLenOf K) call_len_seq rfl T.b_len PySem.boot_len (pa_cons (pv 4) pa_nil)) pa_nil)))) (fun _ _ => rfl)))
  (pss_cons (ps_set (i := 7) sc_law.nd rfl (Or.inl rfl) (pe_c C_partner (hr.mono (by decide)) hx.toLetsP (pa_cons (pv 2) (pa_cons (pv 3) (pa_cons (pv 6) pa_nil)))))
  (pss_cons (ps_if (PW.pt (pw_or (pt_cmpR (r := rEqD K false) (op_eqD hu) (pv 7) (pv 6) (nomark _)) (pw_or (pt_cmpR (r := rInD K true) (op_notInD hu) (pv 7) (pv 4) rfl) (pw_or1 (pt_cmpR (r := rEqD K true) (op_neD hu) (pe_c C_partner (hr.mono (by decide)) hx.toLetsP (pa_cons (pv 2) (pa_cons (pv 3) (pa_cons (pv 7) pa_nil)))) (pv 6) (nomark _)))))) (pss_one (ps_ret pe_bl)) pss_nil)
  (pss_cons (ps_if (pt_cmpR (r := rEqD K true) (op_neD hu) (pe_c C_walk (hr.mono (by decide)) hx.toLetsP (pa_cons (pv 2) (pa_cons (pv 3) (pa_cons (pv 7) pa_nil)))) (pe_rev K rfl (pe_c C_walk (hr.mono (by decide)) hx.toLetsP (pa_cons (pv 2) (pa_cons (pv 3) (pa_cons (pv 6) pa_nil)))) (po_some (pe_un un_neg pe_int))) (nomark _)) (pss_one (ps_ret pe_bl)) pss_nil)
  (pss_one (ps_if (PW.pt (pw_or (pt_cmpR op_eq (pe_c C_law_worth (hr.mono (by decide)) hx.toLetsP (pa_cons (pv 1) (pa_cons (pv 6) pa_nil))) pe_int (nomark _)) (pw_or1 (pt_cmpR op_ne (pe_op op_add (pe_c C_law_worth (hr.mono (by decide)) hx.toLetsP (pa_cons (pv 1) (pa_cons (pv 6) pa_nil))) (pe_c C_law_worth (hr.mono (by decide)) hx.toLetsP (pa_cons (pv 1) (pa_cons (pv 7) pa_nil)))) pe_int (nomark _))))) (pss_one (ps_ret pe_bl)) pss_nil)))))))
  (pss_one (ps_ret pe_bl)))))))), ?_⟩
    have zl : sizeLine = 16777216 := sizeLine_eq
    refine ⟨_, rfl, a, ns, 8, rfl, hS, by decide, by decide, fun mv H1 rs s1 g Gm ln => ?_⟩
    have G1 : TGrid H1 mv rs := Gm.same (frsh_same _ _)
    have G0 := G1
    obtain ⟨m, ras, G1⟩ := G1
    obtain rfl := G1.ev
    have g1 := g.1
    have c1 := Int.emod_lt_of_pos (cellAt ns 0) (show (0 : Int) < 8 by decide)
    obtain ⟨n, hn⟩ : ∃ n : Nat, rs.length = n + 1 := ⟨rs.length - 1, by omega⟩
    have n8 : n ≤ 8 := by omega
    have en : sz rs = (n : Int) := by show (rs.length : Int) - 1 = n; omega
    have el : ((ras.map V.ref).length : Int) - 1 = (n : Int) := by rw [G1.len]; exact en
    refine ⟨_, rfl, _, rs, rfl, G0, g, fun nv H2 s2 N0 => ?_⟩
    have N : NetAt ad.Net H2 nv rs := N0.same (frsh_same _ _)
    refine ⟨_, rfl, _, rfl, m, _, rfl, .inl (SqL.of (s2 _ _ G1.top)), _, _, rfl, rfl, ?_⟩
    simp only [el]
    refine ⟨a, ns, n, rfl, s2.seq (s1.seq hS), by omega, fun fv fl xs H3 Fl L fl1 fl2 => ?_⟩
    obtain rfl := L.ev
    have fsub : Fl.length ≤ 64 := by
      have a1 := List.Nodup.length_le_of_subset fl1.nodup (l₂ := tris n) fun t ht => mem_tris.mpr (fl1.1 t ht)
      have a2 : (tris n).length ≤ 64 := tris64 n n8
      omega
    rw [← en] at fl1
    have N3 := N.same L.same
    have G3 := (G0.same s2).same L.same
    have hF3 := L.deep
    have hS3 := L.same.seq (s2.seq (s1.seq hS))
    refine ⟨_, rfl, _, rfl, nv, .ref fl, rs, Fl, rfl, N3, hF3, by omega, fun _ kv kl kxs H4 LK => ?_, fun no => absurd fl1 no⟩
    obtain rfl := LK.ev
    have few := ends_few g fl1
    have hk4 := LK.has.same (less_same _ _)
    have lk : kxs.length = (endsP rs Fl).length := by rw [hk4.length, List.length_map]
    have at4 := LK.at_
    have N4 := N3.same LK.same
    have hF4 := hF3.same LK.same
    have G4 := G3.same LK.same
    have hS4 := LK.same.seq hS3
    clear LK N0
    have ev := ends_even g fl1
    obtain ⟨nd, kd⟩ := ends_keys (ends_nodup fl1)
    have ll : ((endsP rs Fl).map eK).length = (endsP rs Fl).length := List.length_map ..
    refine ⟨_, rfl, kl, _, rfl, .inl (SqL.of at4), _, _, rfl, rfl, (by show (0 : Int) < 2; decide), rfl, _, rfl, ?_⟩
    refine ite2 (fun h => ?_) (fun _ => ?_)
    · exfalso
      rw [lk] at h
      have h' : (!decide (V.int (((endsP rs Fl).length : Int) % 2) = V.int 0)) = true := h
      rw [ev] at h'
      simp at h'
    refine ⟨_, rfl, kl, kxs, (endsP rs Fl).map eK, rfl, SqL.of at4, by rw [kd]; exact hk4, nd, by omega, _, rfl, kl, _, rfl, .inl (SqL.of at4), rfl, _, rfl, ?_⟩
    refine ite2 (fun h => ?_) (fun _ => ?_)
    · exfalso
      rw [ll, lk] at h
      simp at h
    have hmin : (if (kxs.length : Int) < 10 then (kxs.length : Int) else 10) = ((min 10 kxs.length : Nat) : Int) := by split <;> omega
    refine ⟨_, rfl, kl, _, rfl, .inl (SqL.of at4), _, _, rfl, _, rfl, ?_, ?_, for_range (lo := 0) (n := (if (kxs.length : Int) < 10 then (kxs.length : Int) else 10).toNat) (fun i σ H' => L2.Same H4 H' ∧ ∃ c5 c6 c7, σ = [some (.ref a), some (.ref m), some nv, some (.ref fl), some (.ref kl), c5, c6, c7]) ⟨L2.Same.refl _, _, _, _, rfl⟩ ?_ ?_⟩
    · rw [hmin]; omega
    · rw [hmin]; omega
    rotate_left
    · rintro σ H5 ⟨s5, c5, c6, c7, rfl⟩
      exact kq _
    · rintro i σ H5 hi ⟨s5, c5, c6, c7, rfl⟩
      rw [hmin] at hi
      refine ⟨_, rfl, _, rfl, a, ns, 18, rfl, s5.seq hS4, by decide, _, rfl, _, rfl, kl, _, rfl, .inl (SqL.of (s5 _ _ at4)), _, _, _, rfl, by omega, by omega, (by show (0 : Int) < (kxs.length : Int); omega), fun r H6 r0 r1 s6 => ?_⟩
      have s46 := s5.trans s6
      obtain ⟨ev, e, eat, em, hE, _⟩ := pick_at hk4 r0 r1
      have eb := mem_ends.mp em
      obtain ⟨_, _, _, eb2, sg2, _, _, inv, rev⟩ := gonE_ok g fl1 eb
      refine ⟨kl, kxs, r, ev, rfl, rfl, SqL.of (s46 _ _ at4), eat, ?_⟩
      refine ⟨_, rfl, _, rfl, _, rfl, nv, .ref fl, ev, rs, Fl, e, rfl, N4.same s46, hF4.same s46, by omega, hE.same s46, fun _ _ pv H7 s7 hpv => ?_, (fun _ no => by rw [eb] at no; cases no), fun no => absurd fl1 no⟩
      have s47 := s46.trans s7
      refine ⟨_, rfl, _, rfl, eD (ptnP rs Fl e), eD e, hpv, hE.same s47, Nat.le_trans (dep_eD _) (by decide), _, rfl, ?_⟩
      refine ite2 (fun h => ?_) (fun _ => ?_)
      · rw [if_neg (by decide)] at h
        exact absurd (eqD_eD.mp h) (part_ne g fl1 eb)
      refine ⟨_, rfl, _, rfl, kl, kxs, (endsP rs Fl).map eD, eD (ptnP rs Fl e), rfl, .inl (SqL.of (s47 _ _ at4)), hk4.same s47, hpv, Nat.le_trans (depL_ens _) (by decide), _, rfl, ?_⟩
      have inn : ((endsP rs Fl).map eD).any (fun d => eqD d (eD (ptnP rs Fl e))) = true := any_ens.mpr (mem_ends.mpr eb2)
      refine ite2 (fun h => ?_) (fun _ => ?_)
      · rw [if_pos rfl, inn] at h
        cases h
      refine ⟨_, rfl, _, rfl, _, rfl, nv, .ref fl, pv, rs, Fl, ptnP rs Fl e, rfl, N4.same s47, hF4.same s47, by omega, hpv, fun _ _ bv H8 s8 hbv => ?_, (fun _ no => by rw [eb2] at no; cases no), fun no => absurd fl1 no⟩
      have s48 := s47.trans s8
      rw [inv] at hbv
      refine ⟨_, rfl, eD e, eD e, hbv, hE.same s48, Nat.le_trans (dep_eD _) (by decide), _, rfl, ?_⟩
      refine ite2 (fun h => absurd h ne_refl) (fun _ => ?_)
      have hpv8 := hpv.same s8
      refine ⟨_, rfl, _, rfl, _, rfl, nv, .ref fl, pv, rs, Fl, ptnP rs Fl e, rfl, N4.same s48, hF4.same s48, by omega, hpv8, fun _ _ w1 x1 H9 L1 => ?_, (fun _ no => by rw [eb2] at no; cases no), fun no => absurd fl1 no⟩
      have s49 := s48.trans L1.same
      refine ⟨_, rfl, _, rfl, _, rfl, nv, .ref fl, ev, rs, Fl, e, rfl, N4.same s49, hF4.same s49, by omega, hE.same s49, fun _ _ w2 x2 H10 L2' => ?_, (fun _ no => by rw [eb] at no; cases no), fun no => absurd fl1 no⟩
      refine ⟨1, rfl, -1, rfl, rfl, w2, x2, rfl, SqL.of L2'.at_, fun p hp => ?_⟩
      have q11 := same_upd (o := .lst x2.reverse) hp
      have d1 := (L1.deep.same L2'.same).same q11
      have d2 : Has K (upd H10 p (.lst x2.reverse)) (.ref p) (.lst ((pthP rs Fl (ptnP rs Fl e)).map tD)) := by
        rw [rev, List.map_reverse]
        exact .lst (SqL.of upd_same) (hasL_rev ((L2'.has.same (less_same _ _)).same q11))
      have s811 := L1.same.trans (L2'.same.trans q11)
      have s411 := s49.trans (L2'.same.trans q11)
      refine ⟨_, _, d1, d2, dep_trs _, _, rfl, ?_⟩
      refine ite2 (fun h => absurd h ne_refl) (fun _ => ?_)
      obtain ⟨H11, e11⟩ : ∃ H11, upd H10 p (.lst x2.reverse) = H11 := ⟨_, rfl⟩
      simp only [e11] at s411 s811 ⊢
      clear d1 d2 q11 e11
      have one := sg_one g fl1 eb
      refine ⟨_, rfl, _, rfl, .ref m, ev, rs, Fl, e, rfl, G4.same s411, g, fl1, hE.same s411, eb, fun H12 s12 => ⟨rfl, _, rfl, ?_⟩⟩
      refine ite2 (fun h => ?_) (fun _ => ?_)
      · exfalso
        have z : sg rs e = 0 := by simpa using h
        omega
      have s412 := s411.trans s12
      refine ⟨_, rfl, _, rfl, .ref m, ev, rs, Fl, e, rfl, G4.same s412, g, fl1, hE.same s412, eb, fun H13 s13 => ?_⟩
      have s413 := s412.trans s13
      refine ⟨_, rfl, _, rfl, .ref m, pv, rs, Fl, ptnP rs Fl e, rfl, G4.same s413, g, fl1, hpv8.same (s811.trans (s12.trans s13)), eb2, fun H14 s14 => ⟨_, _, rfl, rfl, rfl, _, rfl, ?_⟩⟩
      refine ite2 (fun h => ?_) (fun _ => ?_)
      · exfalso
        have z : ¬ (sg rs e + sg rs (ptnP rs Fl e) = 0) := by simpa using h
        omega
      exact ⟨s413.trans s14, _, _, _, rfl⟩
end
end K09
set_option Elab.async false
set_option linter.all false
set_option maxRecDepth 100000
set_option maxHeartbeats 4000000
namespace K09
open PySem PySem.Spec PyProof.Rows L2
seal L2.PE L2.PT L2.PS L2.PSs L2.PA L2.PI L2.PG L2.PGs L2.PW L2.PO L2.PIfs L2.PH
theorem all_mk {l : PySem.W.OpenLaw} {w : World} {K : PySem.W.Frag} {h : Heap} {mg : Str → Option Value} {fa : Addr} (X : K.In h) (G : h.Ns mainGlobals mg) (hfa : mg "law" = some (.ref fa))
    {A_DoorError : Addr}
    {A_BadNet : Addr}
    {A_NoPlace : Addr}
    {A_NoTriangle : Addr}
    {A_NoFloor : Addr}
    {A_NoEnd : Addr}
    {A_Net : Addr}
    {fa_check_marks : Addr} {od_check_marks an_check_marks : Option Addr} {sl_check_marks : Array (Option Value)} {oc_check_marks kV_check_marks dc_check_marks pm_check_marks cd_check_marks ct_check_marks : Value}
    {fa_Net__init : Addr} {od_Net__init an_Net__init : Option Addr} {sl_Net__init : Array (Option Value)} {oc_Net__init kV_Net__init dc_Net__init pm_Net__init cd_Net__init ct_Net__init : Value}
    {fa_is_place : Addr} {od_is_place an_is_place : Option Addr} {sl_is_place : Array (Option Value)} {oc_is_place kV_is_place dc_is_place pm_is_place cd_is_place ct_is_place : Value}
    {fa_mark : Addr} {od_mark an_mark : Option Addr} {sl_mark : Array (Option Value)} {oc_mark kV_mark dc_mark pm_mark cd_mark ct_mark : Value}
    {fa_corners : Addr} {od_corners an_corners : Option Addr} {sl_corners : Array (Option Value)} {oc_corners kV_corners dc_corners pm_corners cd_corners ct_corners : Value}
    {fa_sides : Addr} {od_sides an_sides : Option Addr} {sl_sides : Array (Option Value)} {oc_sides kV_sides dc_sides pm_sides cd_sides ct_sides : Value}
    {fa_sense : Addr} {od_sense an_sense : Option Addr} {sl_sense : Array (Option Value)} {oc_sense kV_sense dc_sense pm_sense cd_sense ct_sense : Value}
    {fa_is_triangle : Addr} {od_is_triangle an_is_triangle : Option Addr} {sl_is_triangle : Array (Option Value)} {oc_is_triangle kV_is_triangle dc_is_triangle pm_is_triangle cd_is_triangle ct_is_triangle : Value}
    {fa_is_floor : Addr} {od_is_floor an_is_floor : Option Addr} {sl_is_floor : Array (Option Value)} {oc_is_floor kV_is_floor dc_is_floor pm_is_floor cd_is_floor ct_is_floor : Value}
    {fa_check_floor : Addr} {od_check_floor an_check_floor : Option Addr} {sl_check_floor : Array (Option Value)} {oc_check_floor kV_check_floor dc_check_floor pm_check_floor cd_check_floor ct_check_floor : Value}
    {fa_across : Addr} {od_across an_across : Option Addr} {sl_across : Array (Option Value)} {oc_across kV_across dc_across pm_across cd_across ct_across : Value}
    {fa_turn : Addr} {od_turn an_turn : Option Addr} {sl_turn : Array (Option Value)} {oc_turn kV_turn dc_turn pm_turn cd_turn ct_turn : Value}
    {fa_turns_of_sides : Addr} {od_turns_of_sides an_turns_of_sides : Option Addr} {sl_turns_of_sides : Array (Option Value)} {oc_turns_of_sides kV_turns_of_sides dc_turns_of_sides pm_turns_of_sides cd_turns_of_sides ct_turns_of_sides : Value}
    {fa_is_whole : Addr} {od_is_whole an_is_whole : Option Addr} {sl_is_whole : Array (Option Value)} {oc_is_whole kV_is_whole dc_is_whole pm_is_whole cd_is_whole ct_is_whole : Value}
    {fa_doors : Addr} {od_doors an_doors : Option Addr} {sl_doors : Array (Option Value)} {oc_doors kV_doors dc_doors pm_doors cd_doors ct_doors : Value}
    {fa_is_end : Addr} {od_is_end an_is_end : Option Addr} {sl_is_end : Array (Option Value)} {oc_is_end kV_is_end dc_is_end pm_is_end cd_is_end ct_is_end : Value}
    {fa_ends : Addr} {od_ends an_ends : Option Addr} {sl_ends : Array (Option Value)} {oc_ends kV_ends dc_ends pm_ends cd_ends ct_ends : Value}
    {fa_follow : Addr} {od_follow an_follow : Option Addr} {sl_follow : Array (Option Value)} {oc_follow kV_follow dc_follow pm_follow cd_follow ct_follow : Value}
    {fa_walk : Addr} {od_walk an_walk : Option Addr} {sl_walk : Array (Option Value)} {oc_walk kV_walk dc_walk pm_walk cd_walk ct_walk : Value}
    {fa_partner : Addr} {od_partner an_partner : Option Addr} {sl_partner : Array (Option Value)} {oc_partner kV_partner dc_partner pm_partner cd_partner ct_partner : Value}
    {fa_law_cell_at : Addr} {od_law_cell_at an_law_cell_at : Option Addr} {sl_law_cell_at : Array (Option Value)} {oc_law_cell_at kV_law_cell_at dc_law_cell_at pm_law_cell_at cd_law_cell_at ct_law_cell_at : Value}
    {fa_law_mix : Addr} {od_law_mix an_law_mix : Option Addr} {sl_law_mix : Array (Option Value)} {oc_law_mix kV_law_mix dc_law_mix pm_law_mix cd_law_mix ct_law_mix : Value}
    {fa_law_marks_by : Addr} {od_law_marks_by an_law_marks_by : Option Addr} {sl_law_marks_by : Array (Option Value)} {oc_law_marks_by kV_law_marks_by dc_law_marks_by pm_law_marks_by cd_law_marks_by ct_law_marks_by : Value}
    {fa_law_net : Addr} {od_law_net an_law_net : Option Addr} {sl_law_net : Array (Option Value)} {oc_law_net kV_law_net dc_law_net pm_law_net cd_law_net ct_law_net : Value}
    {fa_law_corners : Addr} {od_law_corners an_law_corners : Option Addr} {sl_law_corners : Array (Option Value)} {oc_law_corners kV_law_corners dc_law_corners pm_law_corners cd_law_corners ct_law_corners : Value}
    {fa_law_triangles : Addr} {od_law_triangles an_law_triangles : Option Addr} {sl_law_triangles : Array (Option Value)} {oc_law_triangles kV_law_triangles dc_law_triangles pm_law_triangles cd_law_triangles ct_law_triangles : Value}
    {fa_law_sense : Addr} {od_law_sense an_law_sense : Option Addr} {sl_law_sense : Array (Option Value)} {oc_law_sense kV_law_sense dc_law_sense pm_law_sense cd_law_sense ct_law_sense : Value}
    {fa_law_side : Addr} {od_law_side an_law_side : Option Addr} {sl_law_side : Array (Option Value)} {oc_law_side kV_law_side dc_law_side pm_law_side cd_law_side ct_law_side : Value}
    {fa_law_turn : Addr} {od_law_turn an_law_turn : Option Addr} {sl_law_turn : Array (Option Value)} {oc_law_turn kV_law_turn dc_law_turn pm_law_turn cd_law_turn ct_law_turn : Value}
    {fa_law_floor_by : Addr} {od_law_floor_by an_law_floor_by : Option Addr} {sl_law_floor_by : Array (Option Value)} {oc_law_floor_by kV_law_floor_by dc_law_floor_by pm_law_floor_by cd_law_floor_by ct_law_floor_by : Value}
    {fa_law_worth : Addr} {od_law_worth an_law_worth : Option Addr} {sl_law_worth : Array (Option Value)} {oc_law_worth kV_law_worth dc_law_worth pm_law_worth cd_law_worth ct_law_worth : Value}
    {fa_law : Addr} {od_law an_law : Option Addr} {sl_law : Array (Option Value)} {oc_law kV_law dc_law pm_law cd_law ct_law : Value}
    {t_SMALLEST_SIZE : Tok}
    {t_LARGEST_SIZE : Tok}
    {A_MARKS : Addr}
    {t_MARKS_0 : Tok}
    {t_MARKS_1 : Tok}
    {t_MARKS_2 : Tok}
    {d_MARKS : Option Addr} {n_MARKS : Nat} {sl_MARKS : Array (Option Value)}
    {A_FORWARD_ORDERS : Addr}
    {A_FORWARD_ORDERS_0 : Addr}
    {A_FORWARD_ORDERS_1 : Addr}
    {A_FORWARD_ORDERS_2 : Addr}
    {d_FORWARD_ORDERS : Option Addr} {n_FORWARD_ORDERS : Nat} {sl_FORWARD_ORDERS : Array (Option Value)}
    {t_FORWARD_ORDERS_0_0 : Tok}
    {t_FORWARD_ORDERS_0_1 : Tok}
    {t_FORWARD_ORDERS_0_2 : Tok}
    {d_FORWARD_ORDERS_0 : Option Addr} {n_FORWARD_ORDERS_0 : Nat} {sl_FORWARD_ORDERS_0 : Array (Option Value)}
    {t_FORWARD_ORDERS_1_0 : Tok}
    {t_FORWARD_ORDERS_1_1 : Tok}
    {t_FORWARD_ORDERS_1_2 : Tok}
    {d_FORWARD_ORDERS_1 : Option Addr} {n_FORWARD_ORDERS_1 : Nat} {sl_FORWARD_ORDERS_1 : Array (Option Value)}
    {t_FORWARD_ORDERS_2_0 : Tok}
    {t_FORWARD_ORDERS_2_1 : Tok}
    {t_FORWARD_ORDERS_2_2 : Tok}
    {d_FORWARD_ORDERS_2 : Option Addr} {n_FORWARD_ORDERS_2 : Nat} {sl_FORWARD_ORDERS_2 : Array (Option Value)}
    (a_DoorError : PySem.W.nsIn K mainGlobals "DoorError" = some (some (.ref A_DoorError)))
    (a_BadNet : PySem.W.nsIn K mainGlobals "BadNet" = some (some (.ref A_BadNet)))
    (a_NoPlace : PySem.W.nsIn K mainGlobals "NoPlace" = some (some (.ref A_NoPlace)))
    (a_NoTriangle : PySem.W.nsIn K mainGlobals "NoTriangle" = some (some (.ref A_NoTriangle)))
    (a_NoFloor : PySem.W.nsIn K mainGlobals "NoFloor" = some (some (.ref A_NoFloor)))
    (a_NoEnd : PySem.W.nsIn K mainGlobals "NoEnd" = some (some (.ref A_NoEnd)))
    (a_Net : PySem.W.nsIn K mainGlobals "Net" = some (some (.ref A_Net)))
    (a_check_marks : PySem.W.nsIn K mainGlobals "check_marks" = some (some (.ref fa_check_marks)))
    (l_check_marks : K.lookup fa_check_marks = some ⟨oc_check_marks, od_check_marks, .func (PySem.W.fnOf "check_marks" "check_marks" (defArgs s_check_marks) (defBody s_check_marks) (defScope s_check_marks) .none kV_check_marks dc_check_marks pm_check_marks an_check_marks cd_check_marks ct_check_marks), sl_check_marks⟩)
    (c_check_marks : PySem.W.codeIn K cd_check_marks "check_marks" = true)
    (k_check_marks : PySem.W.keepIn K (.ref fa_check_marks) = true)
    (a_Net__init : PySem.W.findIn K (.ref A_Net) "__init__" = some (some (.ref fa_Net__init)))
    (i_Net__init : PySem.W.isFn K (.ref fa_Net__init) = true)
    (l_Net__init : K.lookup fa_Net__init = some ⟨oc_Net__init, od_Net__init, .func (PySem.W.fnOf "__init__" "Net.__init__" (defArgs s_Net__init) (defBody s_Net__init) (defScope s_Net__init) .none kV_Net__init dc_Net__init pm_Net__init an_Net__init cd_Net__init ct_Net__init), sl_Net__init⟩)
    (c_Net__init : PySem.W.codeIn K cd_Net__init "Net.__init__" = true)
    (k_Net__init : PySem.W.keepIn K (.ref fa_Net__init) = true)
    (a_is_place : PySem.W.nsIn K mainGlobals "is_place" = some (some (.ref fa_is_place)))
    (l_is_place : K.lookup fa_is_place = some ⟨oc_is_place, od_is_place, .func (PySem.W.fnOf "is_place" "is_place" (defArgs s_is_place) (defBody s_is_place) (defScope s_is_place) .none kV_is_place dc_is_place pm_is_place an_is_place cd_is_place ct_is_place), sl_is_place⟩)
    (c_is_place : PySem.W.codeIn K cd_is_place "is_place" = true)
    (k_is_place : PySem.W.keepIn K (.ref fa_is_place) = true)
    (a_mark : PySem.W.nsIn K mainGlobals "mark" = some (some (.ref fa_mark)))
    (l_mark : K.lookup fa_mark = some ⟨oc_mark, od_mark, .func (PySem.W.fnOf "mark" "mark" (defArgs s_mark) (defBody s_mark) (defScope s_mark) .none kV_mark dc_mark pm_mark an_mark cd_mark ct_mark), sl_mark⟩)
    (c_mark : PySem.W.codeIn K cd_mark "mark" = true)
    (k_mark : PySem.W.keepIn K (.ref fa_mark) = true)
    (a_corners : PySem.W.nsIn K mainGlobals "corners" = some (some (.ref fa_corners)))
    (l_corners : K.lookup fa_corners = some ⟨oc_corners, od_corners, .func (PySem.W.fnOf "corners" "corners" (defArgs s_corners) (defBody s_corners) (defScope s_corners) .none kV_corners dc_corners pm_corners an_corners cd_corners ct_corners), sl_corners⟩)
    (c_corners : PySem.W.codeIn K cd_corners "corners" = true)
    (k_corners : PySem.W.keepIn K (.ref fa_corners) = true)
    (a_sides : PySem.W.nsIn K mainGlobals "sides" = some (some (.ref fa_sides)))
    (l_sides : K.lookup fa_sides = some ⟨oc_sides, od_sides, .func (PySem.W.fnOf "sides" "sides" (defArgs s_sides) (defBody s_sides) (defScope s_sides) .none kV_sides dc_sides pm_sides an_sides cd_sides ct_sides), sl_sides⟩)
    (c_sides : PySem.W.codeIn K cd_sides "sides" = true)
    (k_sides : PySem.W.keepIn K (.ref fa_sides) = true)
    (a_sense : PySem.W.nsIn K mainGlobals "sense" = some (some (.ref fa_sense)))
    (l_sense : K.lookup fa_sense = some ⟨oc_sense, od_sense, .func (PySem.W.fnOf "sense" "sense" (defArgs s_sense) (defBody s_sense) (defScope s_sense) .none kV_sense dc_sense pm_sense an_sense cd_sense ct_sense), sl_sense⟩)
    (c_sense : PySem.W.codeIn K cd_sense "sense" = true)
    (k_sense : PySem.W.keepIn K (.ref fa_sense) = true)
    (a_is_triangle : PySem.W.nsIn K mainGlobals "is_triangle" = some (some (.ref fa_is_triangle)))
    (l_is_triangle : K.lookup fa_is_triangle = some ⟨oc_is_triangle, od_is_triangle, .func (PySem.W.fnOf "is_triangle" "is_triangle" (defArgs s_is_triangle) (defBody s_is_triangle) (defScope s_is_triangle) .none kV_is_triangle dc_is_triangle pm_is_triangle an_is_triangle cd_is_triangle ct_is_triangle), sl_is_triangle⟩)
    (c_is_triangle : PySem.W.codeIn K cd_is_triangle "is_triangle" = true)
    (k_is_triangle : PySem.W.keepIn K (.ref fa_is_triangle) = true)
    (a_is_floor : PySem.W.nsIn K mainGlobals "is_floor" = some (some (.ref fa_is_floor)))
    (l_is_floor : K.lookup fa_is_floor = some ⟨oc_is_floor, od_is_floor, .func (PySem.W.fnOf "is_floor" "is_floor" (defArgs s_is_floor) (defBody s_is_floor) (defScope s_is_floor) .none kV_is_floor dc_is_floor pm_is_floor an_is_floor cd_is_floor ct_is_floor), sl_is_floor⟩)
    (c_is_floor : PySem.W.codeIn K cd_is_floor "is_floor" = true)
    (k_is_floor : PySem.W.keepIn K (.ref fa_is_floor) = true)
    (a_check_floor : PySem.W.nsIn K mainGlobals "check_floor" = some (some (.ref fa_check_floor)))
    (l_check_floor : K.lookup fa_check_floor = some ⟨oc_check_floor, od_check_floor, .func (PySem.W.fnOf "check_floor" "check_floor" (defArgs s_check_floor) (defBody s_check_floor) (defScope s_check_floor) .none kV_check_floor dc_check_floor pm_check_floor an_check_floor cd_check_floor ct_check_floor), sl_check_floor⟩)
    (c_check_floor : PySem.W.codeIn K cd_check_floor "check_floor" = true)
    (k_check_floor : PySem.W.keepIn K (.ref fa_check_floor) = true)
    (a_across : PySem.W.nsIn K mainGlobals "across" = some (some (.ref fa_across)))
    (l_across : K.lookup fa_across = some ⟨oc_across, od_across, .func (PySem.W.fnOf "across" "across" (defArgs s_across) (defBody s_across) (defScope s_across) .none kV_across dc_across pm_across an_across cd_across ct_across), sl_across⟩)
    (c_across : PySem.W.codeIn K cd_across "across" = true)
    (k_across : PySem.W.keepIn K (.ref fa_across) = true)
    (a_turn : PySem.W.nsIn K mainGlobals "turn" = some (some (.ref fa_turn)))
    (l_turn : K.lookup fa_turn = some ⟨oc_turn, od_turn, .func (PySem.W.fnOf "turn" "turn" (defArgs s_turn) (defBody s_turn) (defScope s_turn) .none kV_turn dc_turn pm_turn an_turn cd_turn ct_turn), sl_turn⟩)
    (c_turn : PySem.W.codeIn K cd_turn "turn" = true)
    (k_turn : PySem.W.keepIn K (.ref fa_turn) = true)
    (a_turns_of_sides : PySem.W.nsIn K mainGlobals "turns_of_sides" = some (some (.ref fa_turns_of_sides)))
    (l_turns_of_sides : K.lookup fa_turns_of_sides = some ⟨oc_turns_of_sides, od_turns_of_sides, .func (PySem.W.fnOf "turns_of_sides" "turns_of_sides" (defArgs s_turns_of_sides) (defBody s_turns_of_sides) (defScope s_turns_of_sides) .none kV_turns_of_sides dc_turns_of_sides pm_turns_of_sides an_turns_of_sides cd_turns_of_sides ct_turns_of_sides), sl_turns_of_sides⟩)
    (c_turns_of_sides : PySem.W.codeIn K cd_turns_of_sides "turns_of_sides" = true)
    (k_turns_of_sides : PySem.W.keepIn K (.ref fa_turns_of_sides) = true)
    (a_is_whole : PySem.W.nsIn K mainGlobals "is_whole" = some (some (.ref fa_is_whole)))
    (l_is_whole : K.lookup fa_is_whole = some ⟨oc_is_whole, od_is_whole, .func (PySem.W.fnOf "is_whole" "is_whole" (defArgs s_is_whole) (defBody s_is_whole) (defScope s_is_whole) .none kV_is_whole dc_is_whole pm_is_whole an_is_whole cd_is_whole ct_is_whole), sl_is_whole⟩)
    (c_is_whole : PySem.W.codeIn K cd_is_whole "is_whole" = true)
    (k_is_whole : PySem.W.keepIn K (.ref fa_is_whole) = true)
    (a_doors : PySem.W.nsIn K mainGlobals "doors" = some (some (.ref fa_doors)))
    (l_doors : K.lookup fa_doors = some ⟨oc_doors, od_doors, .func (PySem.W.fnOf "doors" "doors" (defArgs s_doors) (defBody s_doors) (defScope s_doors) .none kV_doors dc_doors pm_doors an_doors cd_doors ct_doors), sl_doors⟩)
    (c_doors : PySem.W.codeIn K cd_doors "doors" = true)
    (k_doors : PySem.W.keepIn K (.ref fa_doors) = true)
    (a_is_end : PySem.W.nsIn K mainGlobals "is_end" = some (some (.ref fa_is_end)))
    (l_is_end : K.lookup fa_is_end = some ⟨oc_is_end, od_is_end, .func (PySem.W.fnOf "is_end" "is_end" (defArgs s_is_end) (defBody s_is_end) (defScope s_is_end) .none kV_is_end dc_is_end pm_is_end an_is_end cd_is_end ct_is_end), sl_is_end⟩)
    (c_is_end : PySem.W.codeIn K cd_is_end "is_end" = true)
    (k_is_end : PySem.W.keepIn K (.ref fa_is_end) = true)
    (a_ends : PySem.W.nsIn K mainGlobals "ends" = some (some (.ref fa_ends)))
    (l_ends : K.lookup fa_ends = some ⟨oc_ends, od_ends, .func (PySem.W.fnOf "ends" "ends" (defArgs s_ends) (defBody s_ends) (defScope s_ends) .none kV_ends dc_ends pm_ends an_ends cd_ends ct_ends), sl_ends⟩)
    (c_ends : PySem.W.codeIn K cd_ends "ends" = true)
    (k_ends : PySem.W.keepIn K (.ref fa_ends) = true)
    (a_follow : PySem.W.nsIn K mainGlobals "follow" = some (some (.ref fa_follow)))
    (l_follow : K.lookup fa_follow = some ⟨oc_follow, od_follow, .func (PySem.W.fnOf "follow" "follow" (defArgs s_follow) (defBody s_follow) (defScope s_follow) .none kV_follow dc_follow pm_follow an_follow cd_follow ct_follow), sl_follow⟩)
    (c_follow : PySem.W.codeIn K cd_follow "follow" = true)
    (k_follow : PySem.W.keepIn K (.ref fa_follow) = true)
    (a_walk : PySem.W.nsIn K mainGlobals "walk" = some (some (.ref fa_walk)))
    (l_walk : K.lookup fa_walk = some ⟨oc_walk, od_walk, .func (PySem.W.fnOf "walk" "walk" (defArgs s_walk) (defBody s_walk) (defScope s_walk) .none kV_walk dc_walk pm_walk an_walk cd_walk ct_walk), sl_walk⟩)
    (c_walk : PySem.W.codeIn K cd_walk "walk" = true)
    (k_walk : PySem.W.keepIn K (.ref fa_walk) = true)
    (a_partner : PySem.W.nsIn K mainGlobals "partner" = some (some (.ref fa_partner)))
    (l_partner : K.lookup fa_partner = some ⟨oc_partner, od_partner, .func (PySem.W.fnOf "partner" "partner" (defArgs s_partner) (defBody s_partner) (defScope s_partner) .none kV_partner dc_partner pm_partner an_partner cd_partner ct_partner), sl_partner⟩)
    (c_partner : PySem.W.codeIn K cd_partner "partner" = true)
    (k_partner : PySem.W.keepIn K (.ref fa_partner) = true)
    (a_law_cell_at : PySem.W.nsIn K mainGlobals "_law_cell_at" = some (some (.ref fa_law_cell_at)))
    (l_law_cell_at : K.lookup fa_law_cell_at = some ⟨oc_law_cell_at, od_law_cell_at, .func (PySem.W.fnOf "_law_cell_at" "_law_cell_at" (defArgs s_law_cell_at) (defBody s_law_cell_at) (defScope s_law_cell_at) .none kV_law_cell_at dc_law_cell_at pm_law_cell_at an_law_cell_at cd_law_cell_at ct_law_cell_at), sl_law_cell_at⟩)
    (c_law_cell_at : PySem.W.codeIn K cd_law_cell_at "_law_cell_at" = true)
    (k_law_cell_at : PySem.W.keepIn K (.ref fa_law_cell_at) = true)
    (a_law_mix : PySem.W.nsIn K mainGlobals "_law_mix" = some (some (.ref fa_law_mix)))
    (l_law_mix : K.lookup fa_law_mix = some ⟨oc_law_mix, od_law_mix, .func (PySem.W.fnOf "_law_mix" "_law_mix" (defArgs s_law_mix) (defBody s_law_mix) (defScope s_law_mix) .none kV_law_mix dc_law_mix pm_law_mix an_law_mix cd_law_mix ct_law_mix), sl_law_mix⟩)
    (c_law_mix : PySem.W.codeIn K cd_law_mix "_law_mix" = true)
    (k_law_mix : PySem.W.keepIn K (.ref fa_law_mix) = true)
    (a_law_marks_by : PySem.W.nsIn K mainGlobals "_law_marks_by" = some (some (.ref fa_law_marks_by)))
    (l_law_marks_by : K.lookup fa_law_marks_by = some ⟨oc_law_marks_by, od_law_marks_by, .func (PySem.W.fnOf "_law_marks_by" "_law_marks_by" (defArgs s_law_marks_by) (defBody s_law_marks_by) (defScope s_law_marks_by) .none kV_law_marks_by dc_law_marks_by pm_law_marks_by an_law_marks_by cd_law_marks_by ct_law_marks_by), sl_law_marks_by⟩)
    (c_law_marks_by : PySem.W.codeIn K cd_law_marks_by "_law_marks_by" = true)
    (k_law_marks_by : PySem.W.keepIn K (.ref fa_law_marks_by) = true)
    (a_law_net : PySem.W.nsIn K mainGlobals "_law_net" = some (some (.ref fa_law_net)))
    (l_law_net : K.lookup fa_law_net = some ⟨oc_law_net, od_law_net, .func (PySem.W.fnOf "_law_net" "_law_net" (defArgs s_law_net) (defBody s_law_net) (defScope s_law_net) .none kV_law_net dc_law_net pm_law_net an_law_net cd_law_net ct_law_net), sl_law_net⟩)
    (c_law_net : PySem.W.codeIn K cd_law_net "_law_net" = true)
    (k_law_net : PySem.W.keepIn K (.ref fa_law_net) = true)
    (a_law_corners : PySem.W.nsIn K mainGlobals "_law_corners" = some (some (.ref fa_law_corners)))
    (l_law_corners : K.lookup fa_law_corners = some ⟨oc_law_corners, od_law_corners, .func (PySem.W.fnOf "_law_corners" "_law_corners" (defArgs s_law_corners) (defBody s_law_corners) (defScope s_law_corners) .none kV_law_corners dc_law_corners pm_law_corners an_law_corners cd_law_corners ct_law_corners), sl_law_corners⟩)
    (c_law_corners : PySem.W.codeIn K cd_law_corners "_law_corners" = true)
    (k_law_corners : PySem.W.keepIn K (.ref fa_law_corners) = true)
    (a_law_triangles : PySem.W.nsIn K mainGlobals "_law_triangles" = some (some (.ref fa_law_triangles)))
    (l_law_triangles : K.lookup fa_law_triangles = some ⟨oc_law_triangles, od_law_triangles, .func (PySem.W.fnOf "_law_triangles" "_law_triangles" (defArgs s_law_triangles) (defBody s_law_triangles) (defScope s_law_triangles) .none kV_law_triangles dc_law_triangles pm_law_triangles an_law_triangles cd_law_triangles ct_law_triangles), sl_law_triangles⟩)
    (c_law_triangles : PySem.W.codeIn K cd_law_triangles "_law_triangles" = true)
    (k_law_triangles : PySem.W.keepIn K (.ref fa_law_triangles) = true)
    (a_law_sense : PySem.W.nsIn K mainGlobals "_law_sense" = some (some (.ref fa_law_sense)))
    (l_law_sense : K.lookup fa_law_sense = some ⟨oc_law_sense, od_law_sense, .func (PySem.W.fnOf "_law_sense" "_law_sense" (defArgs s_law_sense) (defBody s_law_sense) (defScope s_law_sense) .none kV_law_sense dc_law_sense pm_law_sense an_law_sense cd_law_sense ct_law_sense), sl_law_sense⟩)
    (c_law_sense : PySem.W.codeIn K cd_law_sense "_law_sense" = true)
    (k_law_sense : PySem.W.keepIn K (.ref fa_law_sense) = true)
    (a_law_side : PySem.W.nsIn K mainGlobals "_law_side" = some (some (.ref fa_law_side)))
    (l_law_side : K.lookup fa_law_side = some ⟨oc_law_side, od_law_side, .func (PySem.W.fnOf "_law_side" "_law_side" (defArgs s_law_side) (defBody s_law_side) (defScope s_law_side) .none kV_law_side dc_law_side pm_law_side an_law_side cd_law_side ct_law_side), sl_law_side⟩)
    (c_law_side : PySem.W.codeIn K cd_law_side "_law_side" = true)
    (k_law_side : PySem.W.keepIn K (.ref fa_law_side) = true)
    (a_law_turn : PySem.W.nsIn K mainGlobals "_law_turn" = some (some (.ref fa_law_turn)))
    (l_law_turn : K.lookup fa_law_turn = some ⟨oc_law_turn, od_law_turn, .func (PySem.W.fnOf "_law_turn" "_law_turn" (defArgs s_law_turn) (defBody s_law_turn) (defScope s_law_turn) .none kV_law_turn dc_law_turn pm_law_turn an_law_turn cd_law_turn ct_law_turn), sl_law_turn⟩)
    (c_law_turn : PySem.W.codeIn K cd_law_turn "_law_turn" = true)
    (k_law_turn : PySem.W.keepIn K (.ref fa_law_turn) = true)
    (a_law_floor_by : PySem.W.nsIn K mainGlobals "_law_floor_by" = some (some (.ref fa_law_floor_by)))
    (l_law_floor_by : K.lookup fa_law_floor_by = some ⟨oc_law_floor_by, od_law_floor_by, .func (PySem.W.fnOf "_law_floor_by" "_law_floor_by" (defArgs s_law_floor_by) (defBody s_law_floor_by) (defScope s_law_floor_by) .none kV_law_floor_by dc_law_floor_by pm_law_floor_by an_law_floor_by cd_law_floor_by ct_law_floor_by), sl_law_floor_by⟩)
    (c_law_floor_by : PySem.W.codeIn K cd_law_floor_by "_law_floor_by" = true)
    (k_law_floor_by : PySem.W.keepIn K (.ref fa_law_floor_by) = true)
    (a_law_worth : PySem.W.nsIn K mainGlobals "_law_worth" = some (some (.ref fa_law_worth)))
    (l_law_worth : K.lookup fa_law_worth = some ⟨oc_law_worth, od_law_worth, .func (PySem.W.fnOf "_law_worth" "_law_worth" (defArgs s_law_worth) (defBody s_law_worth) (defScope s_law_worth) .none kV_law_worth dc_law_worth pm_law_worth an_law_worth cd_law_worth ct_law_worth), sl_law_worth⟩)
    (c_law_worth : PySem.W.codeIn K cd_law_worth "_law_worth" = true)
    (k_law_worth : PySem.W.keepIn K (.ref fa_law_worth) = true)
    (a_law : PySem.W.nsIn K mainGlobals "law" = some (some (.ref fa_law)))
    (l_law : K.lookup fa_law = some ⟨oc_law, od_law, .func (PySem.W.fnOf "law" "law" (defArgs s_law) (defBody s_law) (defScope s_law) .none kV_law dc_law pm_law an_law cd_law ct_law), sl_law⟩)
    (c_law : PySem.W.codeIn K cd_law "law" = true)
    (k_law : PySem.W.keepIn K (.ref fa_law) = true)
    (b_len : PySem.W.nsIn K mainGlobals "len" = some none)
    (b_range : PySem.W.nsIn K mainGlobals "range" = some none)
    (b_enumerate : PySem.W.nsIn K mainGlobals "enumerate" = some none)
    (b_list : PySem.W.nsIn K mainGlobals "list" = some none)
    (b_isinstance : PySem.W.nsIn K mainGlobals "isinstance" = some none)
    (b_int : PySem.W.nsIn K mainGlobals "int" = some none)
    (b_bool : PySem.W.nsIn K mainGlobals "bool" = some none)
    (b_ValueError : PySem.W.nsIn K mainGlobals "ValueError" = some none)
    (b_sorted : PySem.W.nsIn K mainGlobals "sorted" = some none)
    (b_tuple : PySem.W.nsIn K mainGlobals "tuple" = some none)
    (b_max : PySem.W.nsIn K mainGlobals "max" = some none)
    (b_set : PySem.W.nsIn K mainGlobals "set" = some none)
    (b_all : PySem.W.nsIn K mainGlobals "all" = some none)
    (b_min : PySem.W.nsIn K mainGlobals "min" = some none)
    (b_sum : PySem.W.nsIn K mainGlobals "sum" = some none)
    (a_SMALLEST_SIZE : PySem.W.nsIn K mainGlobals "SMALLEST_SIZE" = some (some (.int (1) t_SMALLEST_SIZE)))
    (a_LARGEST_SIZE : PySem.W.nsIn K mainGlobals "LARGEST_SIZE" = some (some (.int (12) t_LARGEST_SIZE)))
    (a_MARKS : PySem.W.nsIn K mainGlobals "MARKS" = some (some (.ref A_MARKS)))
    (l_MARKS : K.lookup A_MARKS = some ⟨.type "tuple", d_MARKS, .seq #[.int (0) t_MARKS_0, .int (1) t_MARKS_1, .int (2) t_MARKS_2] n_MARKS, sl_MARKS⟩)
    (a_FORWARD_ORDERS : PySem.W.nsIn K mainGlobals "FORWARD_ORDERS" = some (some (.ref A_FORWARD_ORDERS)))
    (l_FORWARD_ORDERS : K.lookup A_FORWARD_ORDERS = some ⟨.type "tuple", d_FORWARD_ORDERS, .seq #[.ref A_FORWARD_ORDERS_0, .ref A_FORWARD_ORDERS_1, .ref A_FORWARD_ORDERS_2] n_FORWARD_ORDERS, sl_FORWARD_ORDERS⟩)
    (l_FORWARD_ORDERS_0 : K.lookup A_FORWARD_ORDERS_0 = some ⟨.type "tuple", d_FORWARD_ORDERS_0, .seq #[.int (0) t_FORWARD_ORDERS_0_0, .int (1) t_FORWARD_ORDERS_0_1, .int (2) t_FORWARD_ORDERS_0_2] n_FORWARD_ORDERS_0, sl_FORWARD_ORDERS_0⟩)
    (l_FORWARD_ORDERS_1 : K.lookup A_FORWARD_ORDERS_1 = some ⟨.type "tuple", d_FORWARD_ORDERS_1, .seq #[.int (1) t_FORWARD_ORDERS_1_0, .int (2) t_FORWARD_ORDERS_1_1, .int (0) t_FORWARD_ORDERS_1_2] n_FORWARD_ORDERS_1, sl_FORWARD_ORDERS_1⟩)
    (l_FORWARD_ORDERS_2 : K.lookup A_FORWARD_ORDERS_2 = some ⟨.type "tuple", d_FORWARD_ORDERS_2, .seq #[.int (2) t_FORWARD_ORDERS_2_0, .int (0) t_FORWARD_ORDERS_2_1, .int (1) t_FORWARD_ORDERS_2_2] n_FORWARD_ORDERS_2, sl_FORWARD_ORDERS_2⟩)
    (x_DoorError : PySem.W.excIn K A_DoorError [.type "ValueError", .type "Exception", .type "BaseException", .type "object"] "ValueError.__new__" = true)
    (x_BadNet : PySem.W.excIn K A_BadNet [.type "ValueError", .type "Exception", .type "BaseException", .type "object"] "ValueError.__new__" = true)
    (x_NoPlace : PySem.W.excIn K A_NoPlace [.type "ValueError", .type "Exception", .type "BaseException", .type "object"] "ValueError.__new__" = true)
    (x_NoTriangle : PySem.W.excIn K A_NoTriangle [.type "ValueError", .type "Exception", .type "BaseException", .type "object"] "ValueError.__new__" = true)
    (x_NoFloor : PySem.W.excIn K A_NoFloor [.type "ValueError", .type "Exception", .type "BaseException", .type "object"] "ValueError.__new__" = true)
    (x_NoEnd : PySem.W.excIn K A_NoEnd [.type "ValueError", .type "Exception", .type "BaseException", .type "object"] "ValueError.__new__" = true)
    (pg_Net : PySem.W.plainGet K A_Net Str.empty = true)
    (hd_Net : PySem.W.hasDictIn K A_Net = true)
    (po_Net : PySem.W.plainOver K A_Net = true)
    (sa_Net : PySem.W.findIn K (.ref A_Net) "__setattr__" = some (some (.builtin "object.__setattr__")))
    (mk_Net : PySem.W.makesIn K A_Net = true)
    (kc_Net : PySem.W.keepIn K (.ref A_Net) = true)
    (n_Net_size : PySem.W.findIn K (.ref A_Net) "size" = some none)
    (n_Net_marks : PySem.W.findIn K (.ref A_Net) "marks" = some none)
    (m_NoTriangle_NoTriangle : PySem.W.mroIn K A_NoTriangle (.ref A_NoTriangle) = some true) :
    ∃ fd : FuncData, (∀ (s : Shared) (v : Value), BindsTo s fd ⟨[v], []⟩ [("script", v)]) ∧ ∀ base : Heap, K.In base → base.Ns mainGlobals mg → FnOk l.prog w K mg base (CXR l.prog w) 8 fa fd ["script"] (spLaw K) := by
  have e := hfa.symm.trans (PySem.W.mg_of X G a_law)
  cases e
  have F_check_marks := fun_mk (st := s_check_marks) l_check_marks c_check_marks k_check_marks
  have B_check_marks := F_check_marks.binds (ps := ["rows"]) fun _ _ _ _ _ _ us hl => match us, hl with | [_], _ => rfl
  have g_check_marks := PySem.W.mg_of X G a_check_marks
  have F_Net__init := fun_mk (st := s_Net__init) l_Net__init c_Net__init k_Net__init
  have B_Net__init := F_Net__init.binds (ps := ["self", "marks"]) fun _ _ _ _ _ _ us hl => match us, hl with | [_, _], _ => rfl
  have F_is_place := fun_mk (st := s_is_place) l_is_place c_is_place k_is_place
  have B_is_place := F_is_place.binds (ps := ["net", "x", "y"]) fun _ _ _ _ _ _ us hl => match us, hl with | [_, _, _], _ => rfl
  have g_is_place := PySem.W.mg_of X G a_is_place
  have F_mark := fun_mk (st := s_mark) l_mark c_mark k_mark
  have B_mark := F_mark.binds (ps := ["net", "x", "y"]) fun _ _ _ _ _ _ us hl => match us, hl with | [_, _, _], _ => rfl
  have g_mark := PySem.W.mg_of X G a_mark
  have F_corners := fun_mk (st := s_corners) l_corners c_corners k_corners
  have B_corners := F_corners.binds (ps := ["net", "triangle"]) fun _ _ _ _ _ _ us hl => match us, hl with | [_, _], _ => rfl
  have g_corners := PySem.W.mg_of X G a_corners
  have F_sides := fun_mk (st := s_sides) l_sides c_sides k_sides
  have B_sides := F_sides.binds (ps := ["net", "triangle"]) fun _ _ _ _ _ _ us hl => match us, hl with | [_, _], _ => rfl
  have g_sides := PySem.W.mg_of X G a_sides
  have F_sense := fun_mk (st := s_sense) l_sense c_sense k_sense
  have B_sense := F_sense.binds (ps := ["net", "triangle"]) fun _ _ _ _ _ _ us hl => match us, hl with | [_, _], _ => rfl
  have g_sense := PySem.W.mg_of X G a_sense
  have F_is_triangle := fun_mk (st := s_is_triangle) l_is_triangle c_is_triangle k_is_triangle
  have B_is_triangle := F_is_triangle.binds (ps := ["net", "triangle"]) fun _ _ _ _ _ _ us hl => match us, hl with | [_, _], _ => rfl
  have g_is_triangle := PySem.W.mg_of X G a_is_triangle
  have F_is_floor := fun_mk (st := s_is_floor) l_is_floor c_is_floor k_is_floor
  have B_is_floor := F_is_floor.binds (ps := ["net", "floor"]) fun _ _ _ _ _ _ us hl => match us, hl with | [_, _], _ => rfl
  have g_is_floor := PySem.W.mg_of X G a_is_floor
  have F_check_floor := fun_mk (st := s_check_floor) l_check_floor c_check_floor k_check_floor
  have B_check_floor := F_check_floor.binds (ps := ["net", "floor"]) fun _ _ _ _ _ _ us hl => match us, hl with | [_, _], _ => rfl
  have g_check_floor := PySem.W.mg_of X G a_check_floor
  have F_across := fun_mk (st := s_across) l_across c_across k_across
  have B_across := F_across.binds (ps := ["net", "floor"]) fun _ _ _ _ _ _ us hl => match us, hl with | [_, _], _ => rfl
  have g_across := PySem.W.mg_of X G a_across
  have F_turn := fun_mk (st := s_turn) l_turn c_turn k_turn
  have B_turn := F_turn.binds (ps := ["start", "goal"]) fun _ _ _ _ _ _ us hl => match us, hl with | [_, _], _ => rfl
  have g_turn := PySem.W.mg_of X G a_turn
  have F_turns_of_sides := fun_mk (st := s_turns_of_sides) l_turns_of_sides c_turns_of_sides k_turns_of_sides
  have B_turns_of_sides := F_turns_of_sides.binds (ps := ["net", "triangle"]) fun _ _ _ _ _ _ us hl => match us, hl with | [_, _], _ => rfl
  have g_turns_of_sides := PySem.W.mg_of X G a_turns_of_sides
  have F_is_whole := fun_mk (st := s_is_whole) l_is_whole c_is_whole k_is_whole
  have B_is_whole := F_is_whole.binds (ps := ["net", "triangle"]) fun _ _ _ _ _ _ us hl => match us, hl with | [_, _], _ => rfl
  have g_is_whole := PySem.W.mg_of X G a_is_whole
  have F_doors := fun_mk (st := s_doors) l_doors c_doors k_doors
  have B_doors := F_doors.binds (ps := ["net", "triangle"]) fun _ _ _ _ _ _ us hl => match us, hl with | [_, _], _ => rfl
  have g_doors := PySem.W.mg_of X G a_doors
  have F_is_end := fun_mk (st := s_is_end) l_is_end c_is_end k_is_end
  have B_is_end := F_is_end.binds (ps := ["net", "beyond", "end"]) fun _ _ _ _ _ _ us hl => match us, hl with | [_, _, _], _ => rfl
  have g_is_end := PySem.W.mg_of X G a_is_end
  have F_ends := fun_mk (st := s_ends) l_ends c_ends k_ends
  have B_ends := F_ends.binds (ps := ["net", "floor"]) fun _ _ _ _ _ _ us hl => match us, hl with | [_, _], _ => rfl
  have g_ends := PySem.W.mg_of X G a_ends
  have F_follow := fun_mk (st := s_follow) l_follow c_follow k_follow
  have B_follow := F_follow.binds (ps := ["net", "floor", "end"]) fun _ _ _ _ _ _ us hl => match us, hl with | [_, _, _], _ => rfl
  have g_follow := PySem.W.mg_of X G a_follow
  have F_walk := fun_mk (st := s_walk) l_walk c_walk k_walk
  have B_walk := F_walk.binds (ps := ["net", "floor", "end"]) fun _ _ _ _ _ _ us hl => match us, hl with | [_, _, _], _ => rfl
  have g_walk := PySem.W.mg_of X G a_walk
  have F_partner := fun_mk (st := s_partner) l_partner c_partner k_partner
  have B_partner := F_partner.binds (ps := ["net", "floor", "end"]) fun _ _ _ _ _ _ us hl => match us, hl with | [_, _, _], _ => rfl
  have g_partner := PySem.W.mg_of X G a_partner
  have F_law_cell_at := fun_mk (st := s_law_cell_at) l_law_cell_at c_law_cell_at k_law_cell_at
  have B_law_cell_at := F_law_cell_at.binds (ps := ["script", "k"]) fun _ _ _ _ _ _ us hl => match us, hl with | [_, _], _ => rfl
  have g_law_cell_at := PySem.W.mg_of X G a_law_cell_at
  have F_law_mix := fun_mk (st := s_law_mix) l_law_mix c_law_mix k_law_mix
  have B_law_mix := F_law_mix.binds (ps := ["cell", "k", "many"]) fun _ _ _ _ _ _ us hl => match us, hl with | [_, _, _], _ => rfl
  have g_law_mix := PySem.W.mg_of X G a_law_mix
  have F_law_marks_by := fun_mk (st := s_law_marks_by) l_law_marks_by c_law_marks_by k_law_marks_by
  have B_law_marks_by := F_law_marks_by.binds (ps := ["script", "most"]) fun _ _ _ _ _ _ us hl => match us, hl with | [_, _], _ => rfl
  have g_law_marks_by := PySem.W.mg_of X G a_law_marks_by
  have F_law_net := fun_mk (st := s_law_net) l_law_net c_law_net k_law_net
  have B_law_net := F_law_net.binds (ps := ["marks"]) fun _ _ _ _ _ _ us hl => match us, hl with | [_], _ => rfl
  have g_law_net := PySem.W.mg_of X G a_law_net
  have F_law_corners := fun_mk (st := s_law_corners) l_law_corners c_law_corners k_law_corners
  have B_law_corners := F_law_corners.binds (ps := ["triangle"]) fun _ _ _ _ _ _ us hl => match us, hl with | [_], _ => rfl
  have g_law_corners := PySem.W.mg_of X G a_law_corners
  have F_law_triangles := fun_mk (st := s_law_triangles) l_law_triangles c_law_triangles k_law_triangles
  have B_law_triangles := F_law_triangles.binds (ps := ["size"]) fun _ _ _ _ _ _ us hl => match us, hl with | [_], _ => rfl
  have g_law_triangles := PySem.W.mg_of X G a_law_triangles
  have F_law_sense := fun_mk (st := s_law_sense) l_law_sense c_law_sense k_law_sense
  have B_law_sense := F_law_sense.binds (ps := ["marks", "triangle"]) fun _ _ _ _ _ _ us hl => match us, hl with | [_, _], _ => rfl
  have g_law_sense := PySem.W.mg_of X G a_law_sense
  have F_law_side := fun_mk (st := s_law_side) l_law_side c_law_side k_law_side
  have B_law_side := F_law_side.binds (ps := ["triangle", "k"]) fun _ _ _ _ _ _ us hl => match us, hl with | [_, _], _ => rfl
  have g_law_side := PySem.W.mg_of X G a_law_side
  have F_law_turn := fun_mk (st := s_law_turn) l_law_turn c_law_turn k_law_turn
  have B_law_turn := F_law_turn.binds (ps := ["marks", "triangle", "k"]) fun _ _ _ _ _ _ us hl => match us, hl with | [_, _, _], _ => rfl
  have g_law_turn := PySem.W.mg_of X G a_law_turn
  have F_law_floor_by := fun_mk (st := s_law_floor_by) l_law_floor_by c_law_floor_by k_law_floor_by
  have B_law_floor_by := F_law_floor_by.binds (ps := ["script", "size"]) fun _ _ _ _ _ _ us hl => match us, hl with | [_, _], _ => rfl
  have g_law_floor_by := PySem.W.mg_of X G a_law_floor_by
  have F_law_worth := fun_mk (st := s_law_worth) l_law_worth c_law_worth k_law_worth
  have B_law_worth := F_law_worth.binds (ps := ["marks", "end"]) fun _ _ _ _ _ _ us hl => match us, hl with | [_, _], _ => rfl
  have g_law_worth := PySem.W.mg_of X G a_law_worth
  have F_law := fun_mk (st := s_law) l_law c_law k_law
  have B_law := F_law.binds (ps := ["script"]) fun _ _ _ _ _ _ us hl => match us, hl with | [_], _ => rfl
  have g_law := PySem.W.mg_of X G a_law
  have q_MARKS : ∀ H, SqT K H A_MARKS [V.int (0), V.int (1), V.int (2)] := sqT_of l_MARKS (by show 3 ≤ sizeLine; rw [sizeLine_eq]; decide) (.cons ⟨_, rfl⟩ (.cons ⟨_, rfl⟩ (.cons ⟨_, rfl⟩ .nil)))
  have q_FORWARD_ORDERS_0 : ∀ H, SqT K H A_FORWARD_ORDERS_0 [V.int (0), V.int (1), V.int (2)] := sqT_of l_FORWARD_ORDERS_0 (by show 3 ≤ sizeLine; rw [sizeLine_eq]; decide) (.cons ⟨_, rfl⟩ (.cons ⟨_, rfl⟩ (.cons ⟨_, rfl⟩ .nil)))
  have q_FORWARD_ORDERS_1 : ∀ H, SqT K H A_FORWARD_ORDERS_1 [V.int (1), V.int (2), V.int (0)] := sqT_of l_FORWARD_ORDERS_1 (by show 3 ≤ sizeLine; rw [sizeLine_eq]; decide) (.cons ⟨_, rfl⟩ (.cons ⟨_, rfl⟩ (.cons ⟨_, rfl⟩ .nil)))
  have q_FORWARD_ORDERS_2 : ∀ H, SqT K H A_FORWARD_ORDERS_2 [V.int (2), V.int (0), V.int (1)] := sqT_of l_FORWARD_ORDERS_2 (by show 3 ≤ sizeLine; rw [sizeLine_eq]; decide) (.cons ⟨_, rfl⟩ (.cons ⟨_, rfl⟩ (.cons ⟨_, rfl⟩ .nil)))
  have q_FORWARD_ORDERS : ∀ H, SqT K H A_FORWARD_ORDERS [V.ref A_FORWARD_ORDERS_0, V.ref A_FORWARD_ORDERS_1, V.ref A_FORWARD_ORDERS_2] := sqT_of l_FORWARD_ORDERS (by show 3 ≤ sizeLine; rw [sizeLine_eq]; decide) (.cons rfl (.cons rfl (.cons rfl .nil)))
  have T : Txt K mg ⟨A_DoorError, A_BadNet, A_NoPlace, A_NoTriangle, A_NoFloor, A_NoEnd, A_Net, t_SMALLEST_SIZE, t_LARGEST_SIZE, A_MARKS, A_FORWARD_ORDERS⟩ := ⟨PySem.W.mg_none_of X G b_len, PySem.W.mg_none_of X G b_range, PySem.W.mg_none_of X G b_enumerate, PySem.W.mg_none_of X G b_list, PySem.W.mg_none_of X G b_isinstance, PySem.W.mg_none_of X G b_int, PySem.W.mg_none_of X G b_bool, PySem.W.mg_none_of X G b_ValueError, PySem.W.mg_none_of X G b_sorted, PySem.W.mg_none_of X G b_tuple, PySem.W.mg_none_of X G b_max, PySem.W.mg_none_of X G b_set, PySem.W.mg_none_of X G b_all, PySem.W.mg_none_of X G b_min, PySem.W.mg_none_of X G b_sum, PySem.W.mg_of X G a_SMALLEST_SIZE, ⟨_, rfl⟩, PySem.W.mg_of X G a_LARGEST_SIZE, ⟨_, rfl⟩, PySem.W.mg_of X G a_MARKS, rfl, q_MARKS, (fun H => (.tup (q_MARKS H) (.cons (.int _) (.cons (.int _) (.cons (.int _) .nil))))), PySem.W.mg_of X G a_FORWARD_ORDERS, rfl, (fun H => (.tup (q_FORWARD_ORDERS H) (.cons (.tup (q_FORWARD_ORDERS_0 H) (.cons (.int _) (.cons (.int _) (.cons (.int _) .nil)))) (.cons (.tup (q_FORWARD_ORDERS_1 H) (.cons (.int _) (.cons (.int _) (.cons (.int _) .nil)))) (.cons (.tup (q_FORWARD_ORDERS_2 H) (.cons (.int _) (.cons (.int _) (.cons (.int _) .nil)))) .nil))))), ⟨a_DoorError, x_DoorError, PySem.W.mg_of X G a_DoorError⟩, ⟨a_BadNet, x_BadNet, PySem.W.mg_of X G a_BadNet⟩, ⟨a_NoPlace, x_NoPlace, PySem.W.mg_of X G a_NoPlace⟩, ⟨a_NoTriangle, x_NoTriangle, PySem.W.mg_of X G a_NoTriangle⟩, ⟨a_NoFloor, x_NoFloor, PySem.W.mg_of X G a_NoFloor⟩, ⟨a_NoEnd, x_NoEnd, PySem.W.mg_of X G a_NoEnd⟩, ⟨pg_Net, hd_Net, po_Net, sa_Net⟩, n_Net_size, n_Net_marks, m_NoTriangle_NoTriangle⟩
  refine ⟨PySem.W.fnOf "law" "law" (defArgs s_law) (defBody s_law) (defScope s_law) .none kV_law dc_law pm_law an_law cd_law ct_law, fun s v => .of_eq rfl, fun base _ _ => ?_⟩
  have C_law_cell_at := callee_of (base := base) (ok_cell (base := base) (P := l.prog) (w := w) F_law_cell_at T ) g_law_cell_at k_law_cell_at B_law_cell_at
  have C_law_mix := callee_of (base := base) (ok_mix (base := base) (P := l.prog) (w := w) F_law_mix T ) g_law_mix k_law_mix B_law_mix
  have C_law_marks_by := callee_of (base := base) (ok_marks (base := base) (P := l.prog) (w := w) F_law_marks_by T C_law_cell_at C_law_mix) g_law_marks_by k_law_marks_by B_law_marks_by
  have C_check_marks := callee_of (base := base) (ok_check (base := base) (P := l.prog) (w := w) F_check_marks T ) g_check_marks k_check_marks B_check_marks
  have C_law_net := callee_of (base := base) (ok_lnet (base := base) (P := l.prog) (w := w) F_law_net T ⟨fa_Net__init, _, ⟨mk_Net, a_Net__init, i_Net__init, kc_Net⟩, ok_init (base := base) (P := l.prog) (w := w) F_Net__init T C_check_marks, PySem.W.mg_of X G a_Net, B_Net__init⟩) g_law_net k_law_net B_law_net
  have C_law_corners := callee_of (base := base) (ok_lcorners (base := base) (P := l.prog) (w := w) F_law_corners T ) g_law_corners k_law_corners B_law_corners
  have C_law_triangles := callee_of (base := base) (ok_ltris (base := base) (P := l.prog) (w := w) F_law_triangles T C_law_corners) g_law_triangles k_law_triangles B_law_triangles
  have C_law_floor_by := callee_of (base := base) (ok_floorby (base := base) (P := l.prog) (w := w) F_law_floor_by T C_law_cell_at C_law_mix C_law_triangles) g_law_floor_by k_law_floor_by B_law_floor_by
  have C_is_place := callee_of (base := base) (ok_place (base := base) (P := l.prog) (w := w) F_is_place T ) g_is_place k_is_place B_is_place
  have C_corners := callee_of (base := base) (ok_corners (base := base) (P := l.prog) (w := w) F_corners T C_is_place) g_corners k_corners B_corners
  have C_is_triangle := callee_of (base := base) (ok_istri (base := base) (P := l.prog) (w := w) F_is_triangle T C_corners) g_is_triangle k_is_triangle B_is_triangle
  have C_is_floor := callee_of (base := base) (ok_isfl (base := base) (P := l.prog) (w := w) F_is_floor T C_is_triangle) g_is_floor k_is_floor B_is_floor
  have C_check_floor := callee_of (base := base) (ok_chkfl (base := base) (P := l.prog) (w := w) F_check_floor T C_is_floor) g_check_floor k_check_floor B_check_floor
  have C_sides := callee_of (base := base) (ok_sides (base := base) (P := l.prog) (w := w) F_sides T C_corners) g_sides k_sides B_sides
  have C_across := callee_of (base := base) (ok_across (base := base) (P := l.prog) (w := w) F_across T C_sides) g_across k_across B_across
  have C_mark := callee_of (base := base) (ok_mark (base := base) (P := l.prog) (w := w) F_mark T C_is_place) g_mark k_mark B_mark
  have C_sense := callee_of (base := base) (ok_sense (base := base) (P := l.prog) (w := w) F_sense T C_mark C_corners) g_sense k_sense B_sense
  have C_is_whole := callee_of (base := base) (ok_whl (base := base) (P := l.prog) (w := w) F_is_whole T C_sense) g_is_whole k_is_whole B_is_whole
  have C_turn := callee_of (base := base) (ok_turn (base := base) (P := l.prog) (w := w) F_turn T ) g_turn k_turn B_turn
  have C_turns_of_sides := callee_of (base := base) (ok_tos (base := base) (P := l.prog) (w := w) F_turns_of_sides T C_mark C_corners C_turn) g_turns_of_sides k_turns_of_sides B_turns_of_sides
  have C_doors := callee_of (base := base) (ok_doors (base := base) (P := l.prog) (w := w) F_doors T C_turns_of_sides) g_doors k_doors B_doors
  have C_is_end := callee_of (base := base) (ok_isend (base := base) (P := l.prog) (w := w) F_is_end T C_is_whole C_doors) g_is_end k_is_end B_is_end
  have C_ends := callee_of (base := base) (ok_ends (base := base) (P := l.prog) (w := w) F_ends T C_check_floor C_across C_is_end) g_ends k_ends B_ends
  have C_follow := callee_of (base := base) (ok_follow (base := base) (P := l.prog) (w := w) F_follow T C_check_floor C_across C_is_end C_is_whole C_doors) g_follow k_follow B_follow
  have C_partner := callee_of (base := base) (ok_partner (base := base) (P := l.prog) (w := w) F_partner T C_follow) g_partner k_partner B_partner
  have C_walk := callee_of (base := base) (ok_walk (base := base) (P := l.prog) (w := w) F_walk T C_follow) g_walk k_walk B_walk
  have C_law_sense := callee_of (base := base) (ok_lsense (base := base) (P := l.prog) (w := w) F_law_sense T C_law_corners) g_law_sense k_law_sense B_law_sense
  have C_law_side := callee_of (base := base) (ok_lside (base := base) (P := l.prog) (w := w) F_law_side T C_law_corners) g_law_side k_law_side B_law_side
  have C_law_turn := callee_of (base := base) (ok_lturn (base := base) (P := l.prog) (w := w) F_law_turn T C_law_side) g_law_turn k_law_turn B_law_turn
  have C_law_worth := callee_of (base := base) (ok_worth (base := base) (P := l.prog) (w := w) F_law_worth T C_law_sense C_law_turn) g_law_worth k_law_worth B_law_worth
  exact ok_law (base := base) (P := l.prog) (w := w) F_law T C_law_marks_by C_law_net C_law_floor_by C_ends C_law_mix C_law_cell_at C_partner C_walk C_law_worth
theorem cxr_no {P : Program} {w : World} {H : Hp} {s : Shared} {e : Value} {s' : Shared} (h : CXR P w [] H s (fun _ _ _ => False) e s') : False := by
  obtain ⟨_, _, _, _, _, q⟩ := h
  exact q
theorem walk {l : PySem.W.OpenLaw} {q : Program} {loose : List Str} {XP : (Str → Option Value) → Heap → Prop} {YP : World → Heap → Prop} {d : DefRec} {K : Params → PySem.W.Frag} (hn : l.most = some 63) (hdf : d.params.defaults = [])
    (hY : ∀ (w : World) (h : Heap), YP w h → (K w.params).In h)
    (F : ∀ (w : World) (mg : Str → Option Value) (fa : Addr) (h : Heap), (K w.params).In h → h.Ns mainGlobals mg → mg d.name = some (.ref fa) →
      ∃ fd : FuncData, (∀ (s : Shared) (u : Value), BindsTo s fd ⟨[u], []⟩ [("script", u)]) ∧ ∀ base : Heap, (K w.params).In base → base.Ns mainGlobals mg → FnOk l.prog w (K w.params) mg base (CXR l.prog w) 8 fa fd ["script"] (spLaw (K w.params))) :
    PySem.W.WalkO q loose XP YP l.row.toRowW d [] (fun f vs => PySem.call f vs) :=
  L2.walk_of (n := 63) (k := 8) (x := "script") (CX := fun w => CXR l.prog w) (sp := fun w => spLaw (K w.params)) hn (by decide) hdf ⟨rfl, by decide, by decide⟩ hY F (fun _ _ a ns hl _ hS => ⟨a, ns, rfl, hS, fun _ => rfl⟩) fun _ _ _ _ _ z => cxr_no z
end K09
def PySem.W.Fast.tw15188188007281756043 : Unit := ()
def PySem.W.Fast.tw18412019935971197555 : Unit := ()
def PySem.W.Fast.tw7719143291726594812 : Unit := ()
def PySem.W.Fast.tw4148441402069100694 : Unit := ()
def PySem.W.Fast.tw12074453001648326682 : Unit := ()
def PySem.W.Fast.tw938896491198463003 : Unit := ()
def PySem.W.Fast.tw15065553967956642783 : Unit := ()
def PySem.W.Fast.tw8576130703686079167 : Unit := ()
def PySem.W.Fast.tw13360152727551196143 : Unit := ()
def PySem.W.Fast.tw1236153105341853628 : Unit := ()
def PySem.W.Fast.tw8535321393072132371 : Unit := ()
def PySem.W.Fast.tw14438633286889199341 : Unit := ()
def PySem.W.Fast.tw1302804687671814806 : Unit := ()
def PySem.W.Fast.tw17363609891510571819 : Unit := ()
def PySem.W.Fast.tw4011472481298281757 : Unit := ()
def PySem.W.Fast.tw4680191831721213465 : Unit := ()
def PySem.W.Fast.tw6856460733019906689 : Unit := ()
def PySem.W.Fast.tw17357978714077021887 : Unit := ()
def PySem.W.Fast.tw9204873353535898336 : Unit := ()
def PySem.W.Fast.tw13695890653787109483 : Unit := ()
def PySem.W.Fast.tw12898227895251165016 : Unit := ()
open PySem PySem.W PyProof.Rows
set_option maxRecDepth 100000 in
set_option maxHeartbeats 0 in
theorem PySem.Challenge.cw_cornerdoors_k09_whole_partners_holds : PySem.Challenge.rw_cornerdoors_k09_whole_partners.Holds := by
  w_on; o_law; k_head; (case hw => w_witness2)
  k_fill
  refine K09.walk (l := PySem.Challenge.rw_cornerdoors_k09_whole_partners) rfl rfl (fun w h Y => PySem.W.kIn_of Y) ?F
  case F =>
    intro w mg fa h KX G hmg
    refine' K09.all_mk KX G hmg ?a_DoorError ?a_BadNet ?a_NoPlace ?a_NoTriangle ?a_NoFloor ?a_NoEnd ?a_Net ?a_check_marks ?l_check_marks ?c_check_marks ?k_check_marks ?a_Net__init ?i_Net__init ?l_Net__init ?c_Net__init ?k_Net__init ?a_is_place ?l_is_place ?c_is_place ?k_is_place ?a_mark ?l_mark ?c_mark ?k_mark ?a_corners ?l_corners ?c_corners ?k_corners ?a_sides ?l_sides ?c_sides ?k_sides ?a_sense ?l_sense ?c_sense ?k_sense ?a_is_triangle ?l_is_triangle ?c_is_triangle ?k_is_triangle ?a_is_floor ?l_is_floor ?c_is_floor ?k_is_floor ?a_check_floor ?l_check_floor ?c_check_floor ?k_check_floor ?a_across ?l_across ?c_across ?k_across ?a_turn ?l_turn ?c_turn ?k_turn ?a_turns_of_sides ?l_turns_of_sides ?c_turns_of_sides ?k_turns_of_sides ?a_is_whole ?l_is_whole ?c_is_whole ?k_is_whole ?a_doors ?l_doors ?c_doors ?k_doors ?a_is_end ?l_is_end ?c_is_end ?k_is_end ?a_ends ?l_ends ?c_ends ?k_ends ?a_follow ?l_follow ?c_follow ?k_follow ?a_walk ?l_walk ?c_walk ?k_walk ?a_partner ?l_partner ?c_partner ?k_partner ?a_law_cell_at ?l_law_cell_at ?c_law_cell_at ?k_law_cell_at ?a_law_mix ?l_law_mix ?c_law_mix ?k_law_mix ?a_law_marks_by ?l_law_marks_by ?c_law_marks_by ?k_law_marks_by ?a_law_net ?l_law_net ?c_law_net ?k_law_net ?a_law_corners ?l_law_corners ?c_law_corners ?k_law_corners ?a_law_triangles ?l_law_triangles ?c_law_triangles ?k_law_triangles ?a_law_sense ?l_law_sense ?c_law_sense ?k_law_sense ?a_law_side ?l_law_side ?c_law_side ?k_law_side ?a_law_turn ?l_law_turn ?c_law_turn ?k_law_turn ?a_law_floor_by ?l_law_floor_by ?c_law_floor_by ?k_law_floor_by ?a_law_worth ?l_law_worth ?c_law_worth ?k_law_worth ?a_law ?l_law ?c_law ?k_law ?b_len ?b_range ?b_enumerate ?b_list ?b_isinstance ?b_int ?b_bool ?b_ValueError ?b_sorted ?b_tuple ?b_max ?b_set ?b_all ?b_min ?b_sum ?a_SMALLEST_SIZE ?a_LARGEST_SIZE ?a_MARKS ?l_MARKS ?a_FORWARD_ORDERS ?l_FORWARD_ORDERS ?l_FORWARD_ORDERS_0 ?l_FORWARD_ORDERS_1 ?l_FORWARD_ORDERS_2 ?x_DoorError ?x_BadNet ?x_NoPlace ?x_NoTriangle ?x_NoFloor ?x_NoEnd ?pg_Net ?hd_Net ?po_Net ?sa_Net ?mk_Net ?kc_Net ?n_Net_size ?n_Net_marks ?m_NoTriangle_NoTriangle
    (case a_DoorError => k_is)
    (case a_BadNet => k_is)
    (case a_NoPlace => k_is)
    (case a_NoTriangle => k_is)
    (case a_NoFloor => k_is)
    (case a_NoEnd => k_is)
    (case a_Net => k_is)
    (case a_check_marks => k_is)
    (case l_check_marks => k_is)
    (case c_check_marks => k_is)
    (case k_check_marks => k_is)
    (case a_Net__init => k_is)
    (case i_Net__init => k_is)
    (case l_Net__init => k_is)
    (case c_Net__init => k_is)
    (case k_Net__init => k_is)
    (case a_is_place => k_is)
    (case l_is_place => k_is)
    (case c_is_place => k_is)
    (case k_is_place => k_is)
    (case a_mark => k_is)
    (case l_mark => k_is)
    (case c_mark => k_is)
    (case k_mark => k_is)
    (case a_corners => k_is)
    (case l_corners => k_is)
    (case c_corners => k_is)
    (case k_corners => k_is)
    (case a_sides => k_is)
    (case l_sides => k_is)
    (case c_sides => k_is)
    (case k_sides => k_is)
    (case a_sense => k_is)
    (case l_sense => k_is)
    (case c_sense => k_is)
    (case k_sense => k_is)
    (case a_is_triangle => k_is)
    (case l_is_triangle => k_is)
    (case c_is_triangle => k_is)
    (case k_is_triangle => k_is)
    (case a_is_floor => k_is)
    (case l_is_floor => k_is)
    (case c_is_floor => k_is)
    (case k_is_floor => k_is)
    (case a_check_floor => k_is)
    (case l_check_floor => k_is)
    (case c_check_floor => k_is)
    (case k_check_floor => k_is)
    (case a_across => k_is)
    (case l_across => k_is)
    (case c_across => k_is)
    (case k_across => k_is)
    (case a_turn => k_is)
    (case l_turn => k_is)
    (case c_turn => k_is)
    (case k_turn => k_is)
    (case a_turns_of_sides => k_is)
    (case l_turns_of_sides => k_is)
    (case c_turns_of_sides => k_is)
    (case k_turns_of_sides => k_is)
    (case a_is_whole => k_is)
    (case l_is_whole => k_is)
    (case c_is_whole => k_is)
    (case k_is_whole => k_is)
    (case a_doors => k_is)
    (case l_doors => k_is)
    (case c_doors => k_is)
    (case k_doors => k_is)
    (case a_is_end => k_is)
    (case l_is_end => k_is)
    (case c_is_end => k_is)
    (case k_is_end => k_is)
    (case a_ends => k_is)
    (case l_ends => k_is)
    (case c_ends => k_is)
    (case k_ends => k_is)
    (case a_follow => k_is)
    (case l_follow => k_is)
    (case c_follow => k_is)
    (case k_follow => k_is)
    (case a_walk => k_is)
    (case l_walk => k_is)
    (case c_walk => k_is)
    (case k_walk => k_is)
    (case a_partner => k_is)
    (case l_partner => k_is)
    (case c_partner => k_is)
    (case k_partner => k_is)
    (case a_law_cell_at => k_is)
    (case l_law_cell_at => k_is)
    (case c_law_cell_at => k_is)
    (case k_law_cell_at => k_is)
    (case a_law_mix => k_is)
    (case l_law_mix => k_is)
    (case c_law_mix => k_is)
    (case k_law_mix => k_is)
    (case a_law_marks_by => k_is)
    (case l_law_marks_by => k_is)
    (case c_law_marks_by => k_is)
    (case k_law_marks_by => k_is)
    (case a_law_net => k_is)
    (case l_law_net => k_is)
    (case c_law_net => k_is)
    (case k_law_net => k_is)
    (case a_law_corners => k_is)
    (case l_law_corners => k_is)
    (case c_law_corners => k_is)
    (case k_law_corners => k_is)
    (case a_law_triangles => k_is)
    (case l_law_triangles => k_is)
    (case c_law_triangles => k_is)
    (case k_law_triangles => k_is)
    (case a_law_sense => k_is)
    (case l_law_sense => k_is)
    (case c_law_sense => k_is)
    (case k_law_sense => k_is)
    (case a_law_side => k_is)
    (case l_law_side => k_is)
    (case c_law_side => k_is)
    (case k_law_side => k_is)
    (case a_law_turn => k_is)
    (case l_law_turn => k_is)
    (case c_law_turn => k_is)
    (case k_law_turn => k_is)
    (case a_law_floor_by => k_is)
    (case l_law_floor_by => k_is)
    (case c_law_floor_by => k_is)
    (case k_law_floor_by => k_is)
    (case a_law_worth => k_is)
    (case l_law_worth => k_is)
    (case c_law_worth => k_is)
    (case k_law_worth => k_is)
    (case a_law => k_is)
    (case l_law => k_is)
    (case c_law => k_is)
    (case k_law => k_is)
    (case b_len => k_is)
    (case b_range => k_is)
    (case b_enumerate => k_is)
    (case b_list => k_is)
    (case b_isinstance => k_is)
    (case b_int => k_is)
    (case b_bool => k_is)
    (case b_ValueError => k_is)
    (case b_sorted => k_is)
    (case b_tuple => k_is)
    (case b_max => k_is)
    (case b_set => k_is)
    (case b_all => k_is)
    (case b_min => k_is)
    (case b_sum => k_is)
    (case a_SMALLEST_SIZE => k_is)
    (case a_LARGEST_SIZE => k_is)
    (case a_MARKS => k_is)
    (case l_MARKS => k_is)
    (case a_FORWARD_ORDERS => k_is)
    (case l_FORWARD_ORDERS => k_is)
    (case l_FORWARD_ORDERS_0 => k_is)
    (case l_FORWARD_ORDERS_1 => k_is)
    (case l_FORWARD_ORDERS_2 => k_is)
    (case x_DoorError => k_exc)
    (case x_BadNet => k_exc)
    (case x_NoPlace => k_exc)
    (case x_NoTriangle => k_exc)
    (case x_NoFloor => k_exc)
    (case x_NoEnd => k_exc)
    (case pg_Net => k_is)
    (case hd_Net => k_is)
    (case po_Net => k_is)
    (case sa_Net => k_is)
    (case mk_Net => k_is)
    (case kc_Net => k_is)
    (case n_Net_size => k_is)
    (case n_Net_marks => k_is)
    (case m_NoTriangle_NoTriangle => k_is)
